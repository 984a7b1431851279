import PyProof.Rows.All
import Wide.All
import OpenK.AllK
import Wide.FinOn
import PyProof.EqAt
import PyProof.EqKinds
import PyProof.TupleCall
import Lean
import PyProof.NeKinds
import PyProof.NeData
import PyProof.FactsAll.dict
import PyProof.EnumFor
import PyProof.EnumMake
import PyProof.EnumStmt
import PyProof.Draws
import PyProof.TupleIter
import PyProof.DictUpdate
import PyProof.ListRange
import KE.KRevIter
import PyProof.ExcClass3
import PyProof.ExcAttrAll.ValueError
import PyProof.InstStoreFacts
import PyProof.RulesAs
import PyProof.StationsW
import OpenK.KDescr
import KE.KIsAll
import PyProof.SliceStr2
import PyProof.FString5
import PyProof.MeetsStr
import PyProof.StrLoop
import PyProof.StrWalks
import PyProof.StrOps2
import PyProof.FitsBits
import PyProof.Rows.IntMath
import PyProof.IsiPairs
import PyProof.IsiHeapPairs
import PyProof.IsiNone
import PyProof.StrLawsIn
import PyProof.FitsReplace
import PySem.Challenge.RW_eachstepsame_k06_nodes_counted
set_option Elab.async false
set_option linter.all false
set_option maxRecDepth 100000
namespace L2
open PySem PySem.Spec PyProof.Rows
noncomputable abbrev Key := Sum Int Str
noncomputable def keyIs : Key → Value → Bool
  | .inl k, v => Value.isInt k v
  | .inr x, v => Value.isStrOf x v
noncomputable def keyH (w : World) : Key → Int
  | .inl k => hashInt k
  | .inr x => hashStr w x
theorem keyIs_shape : ∀ {k : Key} {v : Value}, keyIs k v = true → (∃ i t, k = Sum.inl i ∧ v = Value.int i t) ∨ (∃ x t, k = Sum.inr x ∧ v = Value.str x t)
  | .inl i, v, h => by
    obtain ⟨t, e⟩ := Value.isInt_shape (k := i) (v := v) h
    exact .inl ⟨i, t, rfl, e⟩
  | .inr x, v, h => by
    obtain ⟨t, e⟩ := Value.isStrOf_shape (x := x) (v := v) h
    exact .inr ⟨x, t, rfl, e⟩
theorem keyIs_int (i : Int) (t : Tok) : keyIs (.inl i) (.int i t) = true := by simp [keyIs, Value.isInt]
theorem keyIs_str (x : Str) (t : Tok) : keyIs (.inr x) (.str x t) = true := by simp [keyIs, Value.isStrOf]
theorem key_ll (a b : Int) : decide ((Sum.inl a : Key) = Sum.inl b) = (a == b) := by
  by_cases e : a = b
  · subst e; simp
  · have h : ¬ (Sum.inl a : Key) = Sum.inl b := fun q => e (Sum.inl.inj q)
    rw [decide_eq_false h]
    exact (beq_eq_false_iff_ne.mpr e).symm
theorem key_rr (a b : Str) : decide ((Sum.inr a : Key) = Sum.inr b) = decide (a = b) := by
  by_cases e : a = b
  · subst e; simp
  · have h : ¬ (Sum.inr a : Key) = Sum.inr b := fun q => e (Sum.inr.inj q)
    rw [decide_eq_false h, decide_eq_false e]
theorem key_lr (a : Int) (b : Str) : decide ((Sum.inl a : Key) = Sum.inr b) = false := decide_eq_false (fun q => nomatch q)
theorem key_rl (a : Str) (b : Int) : decide ((Sum.inr a : Key) = Sum.inl b) = false := decide_eq_false (fun q => nomatch q)
noncomputable def mixKind (prog : Program) (w : World) : PySem.KeyKind prog w Key where
  is := keyIs
  hash := keyH w
  inj := fun v a b ha hb => by
    rcases keyIs_shape ha with ⟨i, t, rfl, rfl⟩ | ⟨x, t, rfl, rfl⟩
    · rcases keyIs_shape hb with ⟨j, u, rfl, e⟩ | ⟨y, u, rfl, e⟩
      · injection e with e1 _; rw [e1]
      · exact nomatch e
    · rcases keyIs_shape hb with ⟨j, u, rfl, e⟩ | ⟨y, u, rfl, e⟩
      · exact nomatch e
      · injection e with e1 _; rw [e1]
  byValue := fun k v h => by
    rcases keyIs_shape h with ⟨i, t, rfl, rfl⟩ | ⟨x, t, rfl, rfl⟩ <;> rfl
  pyHash := fun hv h => by
    rcases keyIs_shape hv with ⟨i, t, rfl, rfl⟩ | ⟨x, t, rfl, rfl⟩
    · exact wpAny_pyHash_int h
    · exact wpAny_pyHash_str h
  eqBool := fun hu hv h => by
    rcases keyIs_shape hu with ⟨i, t, rfl, rfl⟩ | ⟨x, t, rfl, rfl⟩
    · rcases keyIs_shape hv with ⟨j, u, rfl, rfl⟩ | ⟨y, u, rfl, rfl⟩
      · rw [key_ll] at h; exact wpAny_eqBool_int h
      · rw [key_lr] at h; exact SeqAt.EqAt.int_str i t y u _ _ _ _ h
    · rcases keyIs_shape hv with ⟨j, u, rfl, rfl⟩ | ⟨y, u, rfl, rfl⟩
      · rw [key_rl] at h; exact SeqAt.EqAt.str_int x t j u _ _ _ _ h
      · rw [key_rr] at h; exact wpAny_eqBool_str h
  «strs» := fun k x t v h => by
    rcases keyIs_shape h with ⟨i, u, rfl, e⟩ | ⟨y, u, rfl, e⟩
    · exact nomatch e
    · injection e with e1 _
      subst e1
      cases v <;> rfl
theorem mixKind_int (prog : Program) (w : World) (i : Int) (t : Tok) : (mixKind prog w).is (.inl i) (.int i t) = true := keyIs_int i t
theorem mixKind_str (prog : Program) (w : World) (x : Str) (t : Tok) : (mixKind prog w).is (.inr x) (.str x t) = true := keyIs_str x t
end L2
namespace L2
open PySem PySem.Spec PyProof.Rows
inductive V where
  | non | bl (b : Bool) | int (i : Int) | str (x : Str) | byt (b : Array UInt8) | flt (b : UInt64) | ref (a : Addr) | ty (n : String)
  deriving DecidableEq
noncomputable def RelV : V → Value → Prop
  | .non, u => u = Value.none
  | .bl b, u => u = Value.bool b
  | .int i, u => ∃ t, u = Value.int i t
  | .str x, u => ∃ t, u = Value.str x t
  | .byt b, u => ∃ t, u = Value.bytes b t
  | .flt b, u => ∃ t, u = Value.float b t
  | .ref a, u => u = Value.ref a
  | .ty n, u => u = Value.type n
noncomputable abbrev Vals : List V → List Value → Prop := Paired RelV
theorem Vals.length {xs : List V} {us : List Value} (r : Vals xs us) : xs.length = us.length := Paired.length r
theorem Vals.get : ∀ {xs : List V} {us : List Value} {i : Nat} {x : V}, Vals xs us → xs[i]? = some x → ∃ u, us[i]? = some u ∧ RelV x u
  | _, _, _, _, .nil, e => by simp at e
  | _, _, 0, _, .cons r _, e => by simp at e; subst e; exact ⟨_, rfl, r⟩
  | _, _, i + 1, x, .cons _ t, e => by
    obtain ⟨u, h1, h2⟩ := Vals.get (i := i) (x := x) t (by simpa using e)
    exact ⟨u, by simpa using h1, h2⟩
theorem Vals.set {x : V} {u : Value} (r : RelV x u) : ∀ {xs : List V} {us : List Value} (i : Nat), Vals xs us → Vals (xs.set i x) (us.set i u)
  | _, _, _, .nil => .nil
  | _, _, 0, .cons _ t => .cons r t
  | _, _, i + 1, .cons q t => .cons q (Vals.set r i t)
theorem Vals.append : ∀ {xs ys : List V} {us ws : List Value}, Vals xs us → Vals ys ws → Vals (xs ++ ys) (us ++ ws)
  | _, _, _, _, .nil, s => s
  | _, _, _, _, .cons r t, s => .cons r (Vals.append t s)
theorem Vals.take : ∀ {xs : List V} {us : List Value} (n : Nat), Vals xs us → Vals (xs.take n) (us.take n)
  | _, _, 0, _ => .nil
  | _, _, _ + 1, .nil => .nil
  | _, _, n + 1, .cons r t => .cons r (Vals.take n t)
theorem Vals.drop : ∀ {xs : List V} {us : List Value} (n : Nat), Vals xs us → Vals (xs.drop n) (us.drop n)
  | _, _, 0, r => r
  | _, _, _ + 1, .nil => .nil
  | _, _, n + 1, .cons _ t => Vals.drop n t
noncomputable def RelO : Option V → Option Value → Prop
  | some v, some u => RelV v u
  | none, none => True
  | _, _ => False
noncomputable def KV {κ : Type} : List (κ × V) → List (κ × Value) → Prop := Paired fun (p : κ × V) (q : κ × Value) => p.1 = q.1 ∧ RelV p.2 q.2
noncomputable def kV : Key → V
  | .inl i => .int i
  | .inr x => .str x
inductive HO where
  | lst (xs : List V)
  | tup (xs : List V)
  | dK (kvs : List (Key × V)) | dT (kvs : List (List Key × V))
  | set (S : Int → Bool) (n : Nat)
  | ins (C dx : Addr) (fs : List (Str × V))
  | own (x : Addr)
  | xd (fs : List (Str × V))
  | met (f x : Addr)
  | rng (lo hi : Int)
  | frz (o : Obj) (u : HO)
  | tbl (ps : Array Value)
  | ext (φ : Heap → Prop)
noncomputable abbrev Hp := Addr → Option HO
noncomputable def upd (H : Hp) (a : Addr) (o : HO) : Hp := fun b => if b = a then some o else H b
theorem upd_same {H : Hp} {a : Addr} {o : HO} : upd H a o a = some o := by unfold upd; rw [if_pos rfl]
theorem upd_ne {H : Hp} {a b : Addr} {o : HO} (h : b ≠ a) : upd H a o b = H b := by unfold upd; rw [if_neg h]
theorem ne_of {H : Hp} {a b : Addr} {o u : HO} (h : H a = some o) (h' : H b = some u) (d : o ≠ u) : a ≠ b := by
  intro e; subst e; rw [h] at h'; exact d (Option.some.inj h')
theorem ne_of_none {H : Hp} {a b : Addr} {o : HO} (h : H a = some o) (h' : H b = none) : a ≠ b := by
  intro e; subst e; rw [h] at h'; cases h'
section
variable (P : Program) (w : World)
noncomputable def ObjOk (H : Hp) (h : Heap) (a : Addr) : HO → Prop
  | .lst xs => xs.length ≤ sizeLine ∧ ∃ (its : List Value) (n : Nat), Vals xs its ∧ h.get? a = some { cls := .type "list", data := .seq its.toArray n }
  | .tup xs => xs.length ≤ sizeLine ∧ ∃ its : List Value, Vals xs its ∧ IsTup h a its.toArray
  | .dK kvs => kvs.length ≤ sizeLine ∧ (a == sysModules) = false ∧ ∃ vs, KV kvs vs ∧ h.DictOf (mixKind P w) a vs
  | .dT kvs => kvs.length ≤ sizeLine ∧ (a == sysModules) = false ∧ ∃ xs : List (List Key × Addr × Value),
      Paired (fun (p : List Key × V) (q : List Key × Addr × Value) => p.1 = q.1 ∧ H q.2.1 = some (.tup (p.1.map kV)) ∧ RelV p.2 q.2.2) kvs xs ∧
      ∃ o es ep, h.get? a = some o ∧ o.ExactDict ∧ o.data = .dict es ep ∧ es.toList = xs.map (entryOfKey (tupleKind (mixKind P w))) ∧ (xs.map (·.1)).Nodup
  | .set S n => h.SetOf (intKind P w) a S n
  | .ins C dx fs => H dx = some (.own a) ∧ fs.length ≤ 1000 ∧ dx ≠ a ∧ h.get? a = some (PySem.W.instObj C dx) ∧
      ∃ mA, h.Ns1 dx mA ∧ (∀ f, RelO (fs.lookup f) (mA f)) ∧ PySem.Within mA (fs.map (·.1))
  | .own _ => ∃ o, h.get? a = some o
  | .xd fs => ∃ mA, h.Ns1 a mA ∧ ∀ f, RelO (fs.lookup f) (mA f)
  | .rng lo hi => ∃ t u v, h.get? a = some { cls := .type "range", data := .fields #[.int lo t, .int hi u, .int 1 v] }
  | .frz o u => h.get? a = some o ∧ ObjOk H h a u
  | .tbl ps => h.get? a = some { cls := .none, data := .fields ps }
  | .met f x => h.get? a = some (PySem.W.methodObj (.ref f) (.ref x))
  | .ext φ => φ h ∧ (∃ o, h.get? a = some o) ∧ ∀ h1 h2 : Heap, φ h1 → (∀ o, h1.get? a = some o → h2.get? a = some o) → φ h2
noncomputable def HOk (H : Hp) (h : Heap) : Prop := ∀ a o, H a = some o → ObjOk P w H h a o
end
section
variable {P : Program} {w : World} {H H' : Hp} {h h' : Heap} {a : Addr} {o : HO}
theorem ObjOk.lt (x : ObjOk P w H h a o) : a < h.objs.size := by
  cases o with
  | lst xs => obtain ⟨_, _, _, _, e⟩ := x; exact Heap.lt_size e
  | tup xs => obtain ⟨_, _, _, p⟩ := x; exact p.lt
  | dK kvs => obtain ⟨_, _, _, _, o, _, _, e, _⟩ := x; exact Heap.lt_size e
  | dT kvs => obtain ⟨_, _, _, _, o, _, _, e, _⟩ := x; exact Heap.lt_size e
  | set S n => obtain ⟨o, _, _, _, e, _⟩ := x; exact Heap.lt_size e
  | ins C dx fs => obtain ⟨_, _, _, e, _⟩ := x; exact Heap.lt_size e
  | own y => obtain ⟨_, e⟩ := x; exact Heap.lt_size e
  | xd fs => obtain ⟨_, ⟨_, _, _, e, _⟩, _⟩ := x; exact Heap.lt_size e
  | rng lo hi => obtain ⟨_, _, _, e⟩ := x; exact Heap.lt_size e
  | frz ob u => obtain ⟨e, _⟩ := x; exact Heap.lt_size e
  | tbl ps => exact Heap.lt_size (show h.get? a = some _ from x)
  | met f y => exact Heap.lt_size (show h.get? a = some _ from x)
  | ext φ => obtain ⟨_, ⟨_, e⟩, _⟩ := x; exact Heap.lt_size e
theorem Paired.mapP {α β : Type} {F G : α → β → Prop} : ∀ {l₁ : List α} {l₂ : List β}, Paired F l₁ l₂ → (∀ a b, F a b → G a b) → Paired G l₁ l₂
  | _, _, .nil, _ => .nil
  | _, _, .cons r t, f => .cons (f _ _ r) (Paired.mapP t f)
theorem ObjOk.stay (x : ObjOk P w H h a o) (k : ∀ b u, (b = a ∨ H b = some (.own a)) → h.get? b = some u → h'.get? b = some u)
    (ho : ∀ b, H b = some (.own a) → H' b = some (.own a)) (ht : ∀ b xs, H b = some (.tup xs) → H' b = some (.tup xs)) : ObjOk P w H' h' a o := by
  induction o with
  | lst xs => obtain ⟨z, its, n, r, e⟩ := x; exact ⟨z, its, n, r, k _ _ (.inl rfl) e⟩
  | tup xs => obtain ⟨z, its, r, ob, e, c⟩ := x; exact ⟨z, its, r, ob, k _ _ (.inl rfl) e, c⟩
  | dK kvs => obtain ⟨z, y, vs, r, ob, es, ep, e, c⟩ := x; exact ⟨z, y, vs, r, ob, es, ep, k _ _ (.inl rfl) e, c⟩
  | dT kvs =>
    obtain ⟨z, y, xs, r, ob, es, ep, e, c⟩ := x
    exact ⟨z, y, xs, Paired.mapP r fun p q z => ⟨z.1, ht _ _ z.2.1, z.2.2⟩, ob, es, ep, k _ _ (.inl rfl) e, c⟩
  | set S n => obtain ⟨ob, es, ep, t, e, c⟩ := x; exact ⟨ob, es, ep, t, k _ _ (.inl rfl) e, c⟩
  | ins C dx fs =>
    obtain ⟨d, z, ne, e, mA, ⟨od, es, ep, e2, c⟩, r⟩ := x
    exact ⟨ho _ d, z, ne, k _ _ (.inl rfl) e, mA, ⟨od, es, ep, k _ _ (.inr d) e2, c⟩, r⟩
  | own y => obtain ⟨ob, e⟩ := x; exact ⟨ob, k _ _ (.inl rfl) e⟩
  | xd fs => obtain ⟨mA, ⟨od, es, ep, e, c⟩, r⟩ := x; exact ⟨mA, ⟨od, es, ep, k _ _ (.inl rfl) e, c⟩, r⟩
  | rng lo hi => obtain ⟨t, u, v, e⟩ := x; exact ⟨t, u, v, k _ _ (.inl rfl) e⟩
  | frz ob u ih => obtain ⟨e, q⟩ := x; exact ⟨k _ _ (.inl rfl) e, ih q⟩
  | tbl ps =>
    have e : h.get? a = some { cls := .none, data := .fields ps } := x
    show h'.get? a = some { cls := .none, data := .fields ps }
    exact k a _ (.inl rfl) e
  | met f y =>
    have e : h.get? a = some (PySem.W.methodObj (.ref f) (.ref y)) := x
    show h'.get? a = some (PySem.W.methodObj (.ref f) (.ref y))
    exact k a _ (.inl rfl) e
  | ext φ => obtain ⟨p, ⟨o, e⟩, st⟩ := x; exact ⟨st _ _ p fun o q => k _ _ (.inl rfl) q, ⟨o, k _ _ (.inl rfl) e⟩, st⟩
theorem HOk.lt (x : HOk P w H h) (e : H a = some o) : a < h.objs.size := (x a o e).lt
theorem HOk.fresh (x : HOk P w H h) (e : h.objs.size ≤ a) : H a = none := by
  cases q : H a with
  | none => rfl
  | some u => exact absurd (Nat.lt_of_lt_of_le (x.lt q) e) (Nat.lt_irrefl _)
theorem HOk.kept (x : HOk P w H h) (k : ∀ b u, h.get? b = some u → h'.get? b = some u) : HOk P w H h' := fun a o e =>
  (x a o e).stay (fun b u _ q => k b u q) (fun _ q => q) fun _ _ q => q
theorem HOk.laid (x : HOk P w H h) (k : ∀ b u, h.get? b = some u → h'.get? b = some u) (hp : h.objs.size ≤ a) (new : ObjOk P w (upd H a o) h' a o) : HOk P w (upd H a o) h' := fun b u e => by
  have hn := x.fresh hp
  by_cases hb : b = a
  · subst hb; rw [upd_same] at e; cases e; exact new
  · rw [upd_ne hb] at e
    exact (x b u e).stay (fun c v _ q => k c v q) (fun c q => by rw [upd_ne (ne_of_none q hn)]; exact q) fun c xs q => by rw [upd_ne (ne_of_none q hn)]; exact q
end
noncomputable def Rd (H : Hp) (a : Addr) (u : HO) : Prop := H a = some u ∨ ∃ o, H a = some (.frz o u)
theorem Rd.ok {P : Program} {w : World} {H : Hp} {h : Heap} {a : Addr} {u : HO} (r : Rd H a u) (x : HOk P w H h) : ObjOk P w H h a u := by
  rcases r with r | ⟨o, r⟩
  · exact x a u r
  · obtain ⟨_, q⟩ := x a _ r
    exact q
noncomputable def Mut : Option HO → Prop
  | some (.lst _) => True
  | some (.dK _) => True
  | some (.dT _) => True
  | some (.set _ _) => True
  | some (.ins _ _ _) => True
  | some (.ext _) => True
  | _ => False
section
variable {P : Program} {w : World} {H : Hp} {h h' : Heap} {x e : Addr} {o' : HO}
theorem HOk.write (ok : HOk P w H h) (mu : Mut (H x)) (he : e = x ∨ H e = some (.own x)) (k : ∀ b u, b ≠ e → h.get? b = some u → h'.get? b = some u) (heo : ∃ u, h'.get? e = some u)
    (new : ObjOk P w (upd H x o') h' x o') : HOk P w (upd H x o') h' := fun b u q => by
  have nown : ∀ c y, H c = some (.own y) → c ≠ x := fun c y r z => by subst z; rw [r] at mu; exact mu
  have ntup : ∀ c xs, H c = some (.tup xs) → c ≠ x := fun c xs r z => by subst z; rw [r] at mu; exact mu
  by_cases hb : b = x
  · subst hb; rw [upd_same] at q; cases q; exact new
  · rw [upd_ne hb] at q
    by_cases hbe : b = e
    · have q' : H b = some (.own x) := by
        rcases he with z | z
        · exact absurd (hbe.trans z) hb
        · rw [hbe]; exact z
      rw [q] at q'; cases q'
      obtain ⟨v, hv⟩ := heo
      exact ⟨v, by rw [hbe]; exact hv⟩
    · refine (ok b u q).stay (fun c v hc r => k c v ?_ r) (fun c r => by rw [upd_ne (nown c b r)]; exact r) fun c xs r => by rw [upd_ne (ntup c xs r)]; exact r
      rcases hc with rfl | hc
      · exact hbe
      · rintro rfl
        rcases he with z | z
        · exact nown c b hc z
        · rw [hc] at z; cases z; exact hb rfl
end
structure Un (fs ex : List Addr) (H H' : Hp) (h h' : Heap) : Prop where
  keep : ∀ b o, h.get? b = some o → H b = none → b ∉ fs → b ∉ ex → h'.get? b = some o
  slot : ∀ b o, h.get? b = some o → H b = none → b ∈ fs → b ∉ ex → ∃ sl, h'.get? b = some { o with slots := sl }
  free : ∀ b o, h.get? b = some o → H b = none → b ∉ ex → H' b = none
  there : ∀ b o, h.get? b = some o → b ∉ ex → ∃ o', h'.get? b = some o'
  tups : ∀ b xs, H b = some (.tup xs) → H' b = some (.tup xs)
  frzs : ∀ b o u, H b = some (.frz o u) → H' b = some (.frz o u)
  tbls : ∀ b ps, H b = some (.tbl ps) → ∃ more, H' b = some (.tbl (ps ++ more))
section
variable {fs fs' ex ex' : List Addr} {H H1 H2 : Hp} {h h1 h2 h' : Heap} {a x e : Addr} {o : HO}
theorem Un.any (u : Un fs ex H H1 h h1) {b : Addr} {ob : Obj} (q : h.get? b = some ob) (n : H b = none) (hx : b ∉ ex) : ∃ sl, h1.get? b = some { ob with slots := sl } := by
  by_cases hb : b ∈ fs
  · exact u.slot b ob q n hb hx
  · exact ⟨ob.slots, u.keep b ob q n hb hx⟩
theorem Un.kept (k : ∀ b u, h.get? b = some u → h'.get? b = some u) : Un fs ex H H h h' :=
  ⟨fun b ob q _ _ _ => k b ob q, fun b ob q _ _ _ => ⟨ob.slots, k b ob q⟩, fun _ _ _ n _ => n, fun b ob q _ => ⟨ob, k b ob q⟩, fun _ _ q => q, fun _ _ _ q => q, fun _ ps q => ⟨#[], by rw [q]; simp⟩⟩
theorem Un.refl : Un fs ex H H h h := Un.kept fun _ _ q => q
theorem Un.laid (k : ∀ b u, h.get? b = some u → h'.get? b = some u) (hp : h.objs.size ≤ a) (hn : H a = none) : Un fs ex H (upd H a o) h h' where
  keep := fun b u q _ _ _ => k b u q
  slot := fun b u q _ _ _ => ⟨u.slots, k b u q⟩
  free := fun b u q n _ => by rw [upd_ne (Nat.ne_of_lt (Nat.lt_of_lt_of_le (Heap.lt_size q) hp))]; exact n
  there := fun b u q _ => ⟨u, k b u q⟩
  tups := fun b xs q => by rw [upd_ne (ne_of_none q hn)]; exact q
  frzs := fun b u xs q => by rw [upd_ne (ne_of_none q hn)]; exact q
  tbls := fun b ps q => ⟨#[], by rw [upd_ne (ne_of_none q hn), q]; simp⟩
theorem Un.write (mu : Mut (H x)) (he : e = x ∨ H e = some (.own x)) (k : ∀ b u, b ≠ e → h.get? b = some u → h'.get? b = some u) (heo : ∃ u, h'.get? e = some u) : Un fs ex H (upd H x o) h h' := by
  have hx : ∀ b, H b = none → b ≠ x := fun b n z => by subst z; rw [n] at mu; exact mu
  have hb : ∀ b, H b = none → b ≠ e := fun b n z => by
    subst z
    rcases he with r | r
    · exact hx b n r
    · rw [n] at r; cases r
  have hm : ∀ b u, H b = some u → ¬ Mut (some u) → b ≠ x := fun b u q nm z => by subst z; rw [q] at mu; exact nm mu
  refine ⟨fun b u q n _ _ => k b u (hb b n) q, fun b u q n _ _ => ⟨u.slots, k b u (hb b n) q⟩, fun b u q n _ => by rw [upd_ne (hx b n)]; exact n, fun b u q _ => ?_,
    fun b xs q => by rw [upd_ne (hm b _ q fun z => z)]; exact q, fun b u xs q => by rw [upd_ne (hm b _ q fun z => z)]; exact q, fun b ps q => ⟨#[], by rw [upd_ne (hm b _ q fun z => z), q]; simp⟩⟩
  by_cases hbe : b = e
  · subst hbe; exact heo
  · exact ⟨u, k b u hbe q⟩
end
noncomputable def trk (h : Heap) (H : Hp) : List Addr := (List.range h.objs.size).filter fun a => (H a).isSome
noncomputable def hidT (h : Heap) (H : Hp) : Heap := PySem.W.hideAll h (trk h H)
theorem hidT_size (h : Heap) (H : Hp) : (hidT h H).objs.size = h.objs.size := PySem.W.hideAll_size _ _
theorem hidT_get {h : Heap} {H : Hp} {b : Addr} {o : Obj} (e : h.get? b = some o) (n : H b = none) : (hidT h H).get? b = some o :=
  PySem.W.hideAll_get _ e fun hm => by
    have q : (H b).isSome = true := (List.mem_filter.mp hm).2
    rw [n] at q; simp at q
theorem of_hidT {h : Heap} {H : Hp} {b : Addr} {o : Obj} (e : (hidT h H).get? b = some o) : h.get? b = some o ∧ H b = none := by
  have e' : h.get? b = some o := PySem.W.of_hideAll (trk h H) e
  refine ⟨e', ?_⟩
  cases q : H b with
  | none => rfl
  | some x =>
    have hm : b ∈ trk h H := List.mem_filter.mpr ⟨List.mem_range.mpr (Heap.lt_size e'), by simp [q]⟩
    have z : (hidT h H).get? b = none := PySem.W.hideAll_none (trk h H) hm
    rw [z] at e; cases e
noncomputable def allNews (g h : Heap) (L : Addr) : List (Addr × Obj) := (List.range h.objs.size).filterMap fun a => if a = L ∨ (g.get? a).isSome = true then none else (h.get? a).map fun o => (a, o)
noncomputable def rest (g h : Heap) (L d : Addr) : List (Addr × Obj) := (allNews g h L).filter fun p => decide (p.1 ≠ d)
end L2
namespace L2
open PySem PySem.Spec PyProof.Rows
structure Mod (K : PySem.W.Frag) (mg : Str → Option Value) (base : Heap) : Prop where
  kin : K.In base
  glob : base.Ns mainGlobals mg
  blt : ∃ mb, base.Ns builtinsNs mb ∧ ∀ x : Str, x ≠ "__name__" → mb x = bootBuiltins x
  nolimit : base.NoLimit
structure Cx where
  prog : Program
  w : World
  K : PySem.W.Frag
  mg : Str → Option Value
  base : Heap
  A : Around
  N : List Str
  s₀ : Shared
  H₀ : Hp
  env : Env
  outer : List Env
  stack : List Env
  ex : List Addr
  fn : Str → Bool
  calm : Bool
  pn : List (Addr × Obj)
  xe : Value → Shared → Prop
noncomputable def frs (l : List Env) : List Addr := l.filterMap (·.frame)
noncomputable abbrev Cx.fs (X : Cx) : List Addr := frs X.outer
noncomputable def Vis (sc : Scope) (x : Str) : Prop := sc.names.lookup x = some .local ∨ sc.names.lookup x = some .cell ∨ sc.names.lookup x = some .free
noncomputable def Loc (sc : Scope) (x : Str) : Prop := sc.names.lookup x = some .local ∨ sc.names.lookup x = some .cell
noncomputable def Look (env : Env) (h : Heap) (m : Str → Option Value) (x : Str) (u : Value) : Prop :=
  (env.kindOf x = some .local ∧ m x = some u) ∨ ((env.kindOf x = some .cell ∨ env.kindOf x = some .free) ∧ ∃ c, env.cells.lookup x = some c ∧ h.IsCell c (some u))
structure Cx.Ok (X : Cx) : Prop where
  mod : Mod X.K X.mg X.base
  kind : X.env.scope.kind = .function
  glob : X.env.globals = mainGlobals
  blt : X.env.builtins = builtinsNs
  above : X.s₀.heap.objs.size ≤ X.env.locals
  inj : ∀ x y c, X.env.cells.lookup x = some c → X.env.cells.lookup y = some c → x = y
  has : ∀ x, (X.env.kindOf x = some .cell ∨ X.env.kindOf x = some .free) → ∃ c, X.env.cells.lookup x = some c
  cab : ∀ x c, X.fn x = true → X.env.cells.lookup x = some c → X.s₀.heap.objs.size ≤ c
  hd : X.calm = true → X.A.handled = none
  frames : X.A.frames = some X.stack
  stk : X.stack = X.outer ∨ (X.stack = X.env :: X.outer ∧ X.env.frame = some X.env.locals)
  exf : ∀ b ∈ X.ex, b ≠ X.env.locals ∧ ∀ x c, X.env.cells.lookup x = some c → c ≠ b
  bs : ∀ b o, X.base.get? b = some o → X.s₀.heap.get? b = some o ∧ X.H₀ b = none
  bsz : X.base.objs.size ≤ X.s₀.heap.objs.size
  noex : ∀ b o, X.base.get? b = some o → b ∉ X.ex
  exfs : ∀ b ∈ X.ex, b ∉ X.fs
  funs : X.s₀.heap.FunFrames X.base X.outer
  frf : ∀ b ∈ X.fs, X.H₀ b = none
structure Inv (X : Cx) (pins : List (Addr × Obj)) (σ : List (Option V)) (H : Hp) (s : Shared) : Prop where
  ok : X.Ok
  os : s.os = X.s₀.os
  bare : AllBare s.gens
  base : Un X.fs X.ex X.H₀ H X.s₀.heap s.heap
  loc : ∃ m, s.heap.Ns X.env.locals m ∧ ∀ (i : Nat) (x : Str) (v : V), X.N[i]? = some x → σ[i]? = some (some v) → Vis X.env.scope x → ∃ u, RelV v u ∧ Look X.env s.heap m x u
  cell : ∀ x c, X.env.cells.lookup x = some c → ∃ v, s.heap.IsCell c v
  free : H X.env.locals = none
  freeC : ∀ x c, X.env.cells.lookup x = some c → H c = none
  pin : ∀ p ∈ X.pn ++ pins, s.heap.get? p.1 = some p.2 ∧ H p.1 = none ∧ p.1 ≠ X.env.locals ∧ p.1 ∉ X.fs ∧ ∀ v, p.2.data ≠ .cell v
  hok : HOk X.prog X.w H s.heap
  len : σ.length = X.N.length
section
variable {X : Cx} {pins : List (Addr × Obj)} {σ : List (Option V)} {H H' : Hp} {s : Shared} {h' : Heap}
theorem Cx.Ok.nofr (ok : X.Ok) {b : Addr} {o : Obj} (e : X.base.get? b = some o) : b ∉ X.fs := fun hb => by
  have := (ok.funs.mem hb).1
  rw [e] at this; cases this
theorem Inv.bs (I : Inv X pins σ H s) : ∀ b o, X.base.get? b = some o → s.heap.get? b = some o ∧ H b = none := fun b o e =>
  ⟨I.base.keep b o (I.ok.bs b o e).1 (I.ok.bs b o e).2 (I.ok.nofr e) (I.ok.noex b o e), I.base.free b o (I.ok.bs b o e).1 (I.ok.bs b o e).2 (I.ok.noex b o e)⟩
theorem Inv.bk (I : Inv X pins σ H s) : ∀ b o, X.base.get? b = some o → s.heap.get? b = some o := fun b o e => (I.bs b o e).1
theorem Inv.mod (I : Inv X pins σ H s) : Mod X.K X.mg X.base := I.ok.mod
theorem Inv.kIn (I : Inv X pins σ H s) : X.K.In s.heap := I.ok.mod.kin.keeps I.bk
theorem Inv.lt (I : Inv X pins σ H s) : X.env.locals < s.heap.objs.size := let ⟨_, hn, _⟩ := I.loc; hn.lt
theorem Inv.sz (I : Inv X pins σ H s) : X.s₀.heap.objs.size ≤ s.heap.objs.size := Nat.le_trans I.ok.above (Nat.le_of_lt I.lt)
theorem Inv.nofs (I : Inv X pins σ H s) {a : Addr} (h : s.heap.objs.size ≤ a) : a ∉ X.fs := fun hb => by
  obtain ⟨_, o, ho, _⟩ := I.ok.funs.mem hb
  exact absurd (Nat.lt_of_lt_of_le (Heap.lt_size ho) (Nat.le_trans I.sz h)) (Nat.lt_irrefl _)
theorem Inv.cne (I : Inv X pins σ H s) : ∀ x c, X.env.cells.lookup x = some c → c ≠ X.env.locals := fun x c e z => by
  obtain ⟨v, o, ho, hd⟩ := I.cell x c e
  obtain ⟨m, ⟨o', es, ep, ho', hd', _⟩, _⟩ := I.loc
  rw [z, ho'] at ho; cases ho; rw [hd'] at hd; cases hd
theorem Inv.funs (I : Inv X pins σ H s) : s.heap.FunFrames X.base X.outer := by
  have all : ∀ (l : List Env), (∀ b ∈ frs l, b ∈ X.fs) → X.s₀.heap.FunFrames X.base l → s.heap.FunFrames X.base l := by
    intro l
    induction l with
    | nil => intro _ _; trivial
    | cons env r ih =>
      intro hs hl
      obtain ⟨hk, ⟨L, o, hf, hn, ho, hd⟩, hr⟩ := hl
      have hL : L ∈ X.fs := hs L (by unfold frs; rw [List.filterMap_cons, hf]; exact List.mem_cons_self)
      obtain ⟨sl, e⟩ := I.base.slot L o ho (I.ok.frf L hL) hL fun z => I.ok.exfs L z hL
      exact ⟨hk, ⟨L, _, hf, hn, e, hd⟩, ih (fun b hb => hs b (by unfold frs; rw [List.filterMap_cons, hf]; exact List.mem_cons_of_mem _ hb)) hr⟩
  exact all X.outer (fun _ hb => hb) I.ok.funs
theorem Inv.stack (I : Inv X pins σ H s) : s.heap.FunFrames X.base X.stack := by
  rcases I.ok.stk with e | ⟨e, hf⟩
  · rw [e]; exact I.funs
  · rw [e]
    obtain ⟨m, hn, _⟩ := I.loc
    refine .cons (by rw [I.ok.kind]; decide) hf hn ?_ I.funs
    exact Heap.get?_none_of_le (Nat.le_trans I.ok.bsz I.ok.above)
theorem Inv.stkSub (I : Inv X pins σ H s) : ∀ b ∈ frs X.stack, b ∈ X.env.locals :: X.fs := fun b hb => by
  rcases I.ok.stk with e | ⟨e, hf⟩
  · rw [e] at hb; exact List.mem_cons_of_mem _ hb
  · rw [e] at hb
    unfold frs at hb
    rw [List.filterMap_cons, hf] at hb
    exact hb
theorem Inv.stkFree (I : Inv X pins σ H s) : ∀ b ∈ frs X.stack, H b = none := fun b hb => by
  rcases List.mem_cons.mp (I.stkSub b hb) with e | hb
  · rw [e]; exact I.free
  · obtain ⟨_, o, ho, _⟩ := I.ok.funs.mem hb
    exact I.base.free b o ho (I.ok.frf b hb) fun z => I.ok.exfs b z hb
theorem Inv.step {g' : Array GenState} {t' : Nat} {d' : Drawn} {ch : List Addr} (I : Inv X pins σ H s)
    (hch : ∀ b ∈ ch, (b ∈ X.ex ∨ X.s₀.heap.objs.size ≤ b) ∧ b ≠ X.env.locals ∧ (∀ x c, X.env.cells.lookup x = some c → c ≠ b) ∧ ∀ p ∈ X.pn ++ pins, p.1 ≠ b)
    (keep : ∀ b o, b ≠ X.env.locals → b ∉ X.fs → b ∉ ch → s.heap.get? b = some o → H b = none → h'.get? b = some o)
    (slot : ∀ b o, b ≠ X.env.locals → b ∈ X.fs → b ∉ ch → s.heap.get? b = some o → H b = none → ∃ sl, h'.get? b = some { o with slots := sl }) (free : ∀ b o, b ∉ ch → s.heap.get? b = some o → H b = none → H' b = none)
    (there : ∀ b o, b ∉ ch → s.heap.get? b = some o → ∃ o', h'.get? b = some o')
    (tups : ∀ b xs, H b = some (.tup xs) → H' b = some (.tup xs)) (frzs : ∀ b o u, H b = some (.frz o u) → H' b = some (.frz o u)) (tbls : ∀ b ps, H b = some (.tbl ps) → ∃ more, H' b = some (.tbl (ps ++ more)))
    (ns : ∀ m, s.heap.Ns X.env.locals m → h'.Ns X.env.locals m) (hok : HOk X.prog X.w H' h') (hg : AllBare g') :
    Inv X pins σ H' { s with heap := h', gens := g', drawn := d', toks := t' } := by
  have neL : ∀ b o, X.s₀.heap.get? b = some o → b ≠ X.env.locals := fun b o e => Nat.ne_of_lt (Nat.lt_of_lt_of_le (Heap.lt_size e) I.ok.above)
  have neC : ∀ b o, X.s₀.heap.get? b = some o → b ∉ X.ex → b ∉ ch := fun b o e hx hb => by
    rcases (hch b hb).1 with z | z
    · exact hx z
    · exact absurd (Nat.lt_of_lt_of_le (Heap.lt_size e) z) (Nat.lt_irrefl _)
  have cellK : ∀ x c, X.env.cells.lookup x = some c → ∀ v, s.heap.IsCell c v → h'.IsCell c v := fun x c e v ⟨o, ho, hd⟩ => by
    have nch : c ∉ ch := fun z => (hch c z).2.2.1 x c e rfl
    by_cases hc : c ∈ X.fs
    · obtain ⟨sl, q⟩ := slot c o (I.cne x c e) hc nch ho (I.freeC x c e)
      exact ⟨_, q, hd⟩
    · exact ⟨o, keep c o (I.cne x c e) hc nch ho (I.freeC x c e), hd⟩
  refine ⟨I.ok, I.os, hg, ⟨fun b o e n hb hx => ?_, fun b o e n hb hx => ?_, fun b o e n hx => ?_, fun b o e hx => ?_, fun b xs e => tups b xs (I.base.tups b xs e), fun b o xs e => frzs b o xs (I.base.frzs b o xs e), fun b ps e => ?_⟩, ?_, fun x c e => ?_, ?_, fun x c e => ?_, fun p hp => ?_, hok, I.len⟩
  · exact keep b o (neL b o e) hb (neC b o e hx) (I.base.keep b o e n hb hx) (I.base.free b o e n hx)
  · obtain ⟨sl, e1⟩ := I.base.slot b o e n hb hx
    obtain ⟨sl', e2⟩ := slot b _ (neL b o e) hb (neC b o e hx) e1 (I.base.free b o e n hx)
    exact ⟨sl', e2⟩
  · obtain ⟨o', e1⟩ := I.base.there b o e hx
    exact free b o' (neC b o e hx) e1 (I.base.free b o e n hx)
  · obtain ⟨o', e1⟩ := I.base.there b o e hx
    exact there b o' (neC b o e hx) e1
  · obtain ⟨m1, e1⟩ := I.base.tbls b ps e
    obtain ⟨m2, e2⟩ := tbls b _ e1
    exact ⟨m1 ++ m2, by rw [e2, Array.append_assoc]⟩
  · obtain ⟨m, hn, hl⟩ := I.loc
    refine ⟨m, ns m hn, fun i x v e1 e2 e3 => ?_⟩
    obtain ⟨u, r, l⟩ := hl i x v e1 e2 e3
    refine ⟨u, r, ?_⟩
    rcases l with l | ⟨k, c, e, z⟩
    · exact .inl l
    · exact .inr ⟨k, c, e, cellK x c e _ z⟩
  · obtain ⟨v, z⟩ := I.cell x c e
    exact ⟨v, cellK x c e v z⟩
  · obtain ⟨m, ⟨o, _, _, ho, _⟩, _⟩ := I.loc
    exact free _ o (fun z => (hch _ z).2.1 rfl) ho I.free
  · obtain ⟨v, o, ho, hd⟩ := I.cell x c e
    exact free c o (fun z => (hch c z).2.2.1 x c e rfl) ho (I.freeC x c e)
  · obtain ⟨e, n, ne, nf, d⟩ := I.pin p hp
    have nch : p.1 ∉ ch := fun z => (hch p.1 z).2.2.2 p hp rfl
    exact ⟨keep p.1 p.2 ne nf nch e n, free p.1 p.2 nch e n, ne, nf, d⟩
theorem Inv.un {t' : Nat} (I : Inv X pins σ H s) (u : Un X.fs [] H H' s.heap h') (hok : HOk X.prog X.w H' h') : Inv X pins σ H' { s with heap := h', toks := t' } := by
  obtain ⟨m, ⟨o, es, ep, ho, r⟩, _⟩ := id I.loc
  obtain ⟨sl, hL⟩ := u.any ho I.free (by simp)
  exact I.step (g' := s.gens) (d' := s.drawn) (ch := []) (fun _ z => nomatch z) (fun b o _ hb _ e n => u.keep b o e n hb (by simp)) (fun b o _ hb _ e n => u.slot b o e n hb (by simp)) (fun b o _ e n => u.free b o e n (by simp)) (fun b o _ e => u.there b o e (by simp)) u.tups u.frzs u.tbls (fun m' hm => by
    obtain ⟨o', es', ep', ho', r'⟩ := hm
    rw [ho] at ho'; cases ho'
    exact ⟨_, es', ep', hL, r'⟩) hok I.bare
theorem Inv.call {g' : Array GenState} {t' : Nat} {d' : Drawn} {ch : List Addr} (I : Inv X pins σ H s) (u : Un (frs X.stack) ch H H' s.heap h') (hok : HOk X.prog X.w H' h') (hg : AllBare g')
    (hch : ∀ b ∈ ch, (b ∈ X.ex ∨ X.s₀.heap.objs.size ≤ b) ∧ b ≠ X.env.locals ∧ (∀ x c, X.env.cells.lookup x = some c → c ≠ b) ∧ ∀ p ∈ X.pn ++ pins, p.1 ≠ b) :
    Inv X pins σ H' { s with heap := h', gens := g', drawn := d', toks := t' } := by
  obtain ⟨m, ⟨o, es, ep, ho, r⟩, _⟩ := id I.loc
  obtain ⟨sl, hL⟩ := u.any ho I.free fun z => (hch _ z).2.1 rfl
  exact I.step (ch := ch) hch (fun b o hL hb hc e n => u.keep b o e n (fun z => (List.mem_cons.mp (I.stkSub b z)).elim hL hb) hc) (fun b o _ _ hc e n => u.any e n hc) (fun b o hc e n => u.free b o e n hc) (fun b o hc e => u.there b o e hc) u.tups u.frzs u.tbls (fun m' hm => by
    obtain ⟨o', es', ep', ho', r'⟩ := hm
    rw [ho] at ho'; cases ho'
    exact ⟨_, es', ep', hL, r'⟩) hok hg
theorem Inv.turned {t' : Nat} {it : Addr} (I : Inv X pins σ H s) (k : ∀ b o, b ≠ it → s.heap.get? b = some o → h'.get? b = some o) (hn : H it = none) (hL : it ≠ X.env.locals)
    (h1 : it ∈ X.ex ∨ X.s₀.heap.objs.size ≤ it) (h2 : ∀ x c, X.env.cells.lookup x = some c → c ≠ it) (h3 : ∀ p ∈ X.pn ++ pins, p.1 ≠ it) : Inv X pins σ H { s with heap := h', toks := t' } := by
  have nit : ∀ b u, H b = some u → b ≠ it := fun b u e z => by rw [z, hn] at e; cases e
  refine I.step (g' := s.gens) (d' := s.drawn) (ch := [it]) (fun b hb => ?_) (fun b o _ _ hc e _ => k b o (fun z => hc (by simp [z])) e) (fun b o _ _ hc e _ => ⟨o.slots, k b o (fun z => hc (by simp [z])) e⟩) (fun _ _ _ _ n => n)
    (fun b o hc e => ⟨o, k b o (fun z => hc (by simp [z])) e⟩) (fun _ _ e => e) (fun _ _ _ e => e) (fun b ps e => ⟨#[], by rw [e]; simp⟩) (fun m hm => ?_) (fun b u e => ?_) I.bare
  · have e : b = it := by simpa using hb
    subst e
    exact ⟨h1, hL, h2, h3⟩
  · obtain ⟨o, es, ep, ho, r⟩ := hm
    exact ⟨o, es, ep, k _ o (Ne.symm hL) ho, r⟩
  · refine (I.hok b u e).stay (fun c v hc q => k c v ?_ q) (fun _ q => q) fun _ _ q => q
    rcases hc with z | z
    · rw [z]; exact nit b u e
    · exact nit c _ z
theorem Inv.tok (I : Inv X pins σ H s) (t : Nat) : Inv X pins σ H { s with toks := t } := I.un (h' := s.heap) (t' := t) Un.refl I.hok
theorem Inv.kept {t' : Nat} (I : Inv X pins σ H s) (k : ∀ b u, s.heap.get? b = some u → h'.get? b = some u) : Inv X pins σ H { s with heap := h', toks := t' } := I.un (Un.kept k) (I.hok.kept k)
theorem Inv.laid {a : Addr} {o : HO} {t' : Nat} (I : Inv X pins σ H s) (k : ∀ b u, s.heap.get? b = some u → h'.get? b = some u) (hp : s.heap.objs.size ≤ a) (new : ObjOk X.prog X.w (upd H a o) h' a o) :
    Inv X pins σ (upd H a o) { s with heap := h', toks := t' } := I.un (Un.laid k hp (I.hok.fresh hp)) (I.hok.laid k hp new)
theorem Inv.write {x e : Addr} {o : HO} {t' : Nat} (I : Inv X pins σ H s) (mu : Mut (H x)) (he : e = x ∨ H e = some (.own x)) (k : ∀ b u, b ≠ e → s.heap.get? b = some u → h'.get? b = some u) (heo : ∃ u, h'.get? e = some u)
    (new : ObjOk X.prog X.w (upd H x o) h' x o) : Inv X pins σ (upd H x o) { s with heap := h', toks := t' } := I.un (Un.write mu he k heo) (I.hok.write mu he k heo new)
theorem Inv.pins_of {pins' : List (Addr × Obj)} (I : Inv X pins σ H s) (h : ∀ p ∈ pins', s.heap.get? p.1 = some p.2 ∧ H p.1 = none ∧ p.1 ≠ X.env.locals ∧ p.1 ∉ X.fs ∧ ∀ v, p.2.data ≠ .cell v) : Inv X pins' σ H s :=
  ⟨I.ok, I.os, I.bare, I.base, I.loc, I.cell, I.free, I.freeC, fun p hp => (List.mem_append.mp hp).elim (fun z => I.pin p (List.mem_append_left _ z)) (h p), I.hok, I.len⟩
theorem nodup_ix {N : List Str} (hN : N.Nodup) {i j : Nat} {x : Str} (a : N[i]? = some x) (b : N[j]? = some x) : i = j := by
  obtain ⟨h1, e1⟩ := List.getElem?_eq_some_iff.mp a
  obtain ⟨h2, e2⟩ := List.getElem?_eq_some_iff.mp b
  exact (List.getElem_inj hN).mp (e1.trans e2.symm)
theorem store_ok2 {M : Model} {A : Around} {E : Value → Shared → Prop} {i : Nat} {x : Str} {v : V} {u : Value} {Q : Unit → Shared → Prop} (I : Inv X pins σ H s) (hN : X.N.Nodup) (hi : X.N[i]? = some x) (hx : Loc X.env.scope x) (r : RelV v u)
    (h : ∀ s', Inv X pins (σ.set i (some v)) H s' → (∃ a, Heap.SameBut a s.heap s'.heap ∧ (a = X.env.locals ∨ X.env.cells.lookup x = some a)) → Q () s') (hf : X.fn x = true ∨ X.env.scope.names.lookup x = some .local := by first | exact .inl rfl | exact .inr rfl | assumption) : wpAny M A (storeName X.env x u) Q E s := by
  obtain ⟨m, hn, hl⟩ := id I.loc
  have hcls : (X.env.scope.kind == .class || (X.env.scope.kind == .module && X.env.locals != X.env.globals)) = false := by rw [I.ok.kind]; rfl
  have hiσ : i < σ.length := by rw [I.len]; exact (List.getElem?_eq_some_iff.mp hi).1
  have cne := I.cne
  have tracked : ∀ {a : Addr} {h' : Heap}, (∃ o, s.heap.get? a = some o ∧ H a = none) → Heap.SameBut a s.heap h' → HOk X.prog X.w H h' := fun {a h'} ha hs b ob e => by
    obtain ⟨_, _, hfree⟩ := ha
    refine (I.hok b ob e).stay (fun c w' hc q => (hs.2 c ?_).trans q) (fun _ q => q) fun _ _ q => q
    rintro rfl
    rcases hc with rfl | hc
    · rw [hfree] at e; cases e
    · rw [hfree] at hc; cases hc
  rcases hx with hk | hk
  · refine wpAny_storeName_local hk hn (fun h' hn' hs => ?_) hcls
    obtain ⟨oL, _, _, hoL, _⟩ := id hn
    refine h _ ⟨I.ok, I.os, I.bare, ⟨fun b o e n hb hx => ?_, fun b o e n hb hx => ?_, I.base.free, fun b o e hx => ?_, I.base.tups, I.base.frzs, I.base.tbls⟩, ⟨_, hn', fun j y v' e1 e2 e3 => ?_⟩, fun y c e => ?_, I.free, I.freeC, fun p hp => ?_, tracked ⟨oL, hoL, I.free⟩ hs, by simpa using I.len⟩ ⟨_, hs, .inl rfl⟩
    · exact (hs.2 b (Nat.ne_of_lt (Nat.lt_of_lt_of_le (Heap.lt_size e) I.ok.above))).trans (I.base.keep b o e n hb hx)
    · obtain ⟨sl, e1⟩ := I.base.slot b o e n hb hx
      exact ⟨sl, (hs.2 b (Nat.ne_of_lt (Nat.lt_of_lt_of_le (Heap.lt_size e) I.ok.above))).trans e1⟩
    · obtain ⟨o', e1⟩ := I.base.there b o e hx
      exact ⟨o', (hs.2 b (Nat.ne_of_lt (Nat.lt_of_lt_of_le (Heap.lt_size e) I.ok.above))).trans e1⟩
    · by_cases hj : j = i
      · subst hj
        rw [hi] at e1; cases e1
        rw [List.getElem?_set_self hiσ] at e2
        cases e2
        exact ⟨u, r, .inl ⟨hk, by simp⟩⟩
      · rw [List.getElem?_set_ne (Ne.symm hj)] at e2
        obtain ⟨u', r', q⟩ := hl j y v' e1 e2 e3
        refine ⟨u', r', ?_⟩
        rcases q with ⟨k, e⟩ | ⟨k, c, e, z⟩
        · refine .inl ⟨k, ?_⟩
          have : y ≠ x := fun e => hj (nodup_ix hN e1 (e ▸ hi))
          simp [this, e]
        · exact .inr ⟨k, c, e, z.sameBut hs (cne y c e)⟩
    · obtain ⟨w', z⟩ := I.cell y c e
      exact ⟨w', z.sameBut hs (cne y c e)⟩
    · obtain ⟨e, n, ne, nf, d⟩ := I.pin p hp
      exact ⟨(hs.2 p.1 ne).trans e, n, ne, nf, d⟩
  · have hfn : X.fn x = true := by
      rcases hf with z | z
      · exact z
      · rw [z] at hk; cases hk
    obtain ⟨c, hc⟩ := I.ok.has x (.inl hk)
    obtain ⟨w', z⟩ := I.cell x c hc
    refine wpAny_storeName_cell I.ok.kind hk hc z (fun h' hc' hs => ?_)
    obtain ⟨oc, hoc, hocd⟩ := id z
    refine h { s with heap := h' } ⟨I.ok, I.os, I.bare, ⟨fun b o e n hb hx => ?_, fun b o e n hb hx => ?_, I.base.free, fun b o e hx => ?_, I.base.tups, I.base.frzs, I.base.tbls⟩, ⟨m, hn.sameBut hs (Ne.symm (cne x c hc)), fun j y v' e1 e2 e3 => ?_⟩, fun y c' e => ?_, I.free, I.freeC, fun p hp => ?_, tracked ⟨oc, hoc, I.freeC x c hc⟩ hs, by simpa using I.len⟩ ⟨c, hs, .inr hc⟩
    · exact (hs.2 b (Nat.ne_of_lt (Nat.lt_of_lt_of_le (Heap.lt_size e) (I.ok.cab x c hfn hc)))).trans (I.base.keep b o e n hb hx)
    · obtain ⟨sl, e1⟩ := I.base.slot b o e n hb hx
      exact ⟨sl, (hs.2 b (Nat.ne_of_lt (Nat.lt_of_lt_of_le (Heap.lt_size e) (I.ok.cab x c hfn hc)))).trans e1⟩
    · obtain ⟨o', e1⟩ := I.base.there b o e hx
      exact ⟨o', (hs.2 b (Nat.ne_of_lt (Nat.lt_of_lt_of_le (Heap.lt_size e) (I.ok.cab x c hfn hc)))).trans e1⟩
    · by_cases hj : j = i
      · subst hj
        rw [hi] at e1; cases e1
        rw [List.getElem?_set_self hiσ] at e2
        cases e2
        exact ⟨u, r, .inr ⟨.inl hk, c, hc, hc'⟩⟩
      · rw [List.getElem?_set_ne (Ne.symm hj)] at e2
        obtain ⟨u', r', q⟩ := hl j y v' e1 e2 e3
        refine ⟨u', r', ?_⟩
        rcases q with q | ⟨k, c', e, z'⟩
        · exact .inl q
        · refine .inr ⟨k, c', e, z'.sameBut hs ?_⟩
          rintro rfl
          exact hj (nodup_ix hN e1 (I.ok.inj _ _ _ e hc ▸ hi))
    · by_cases hcc : c' = c
      · subst hcc; exact ⟨_, hc'⟩
      · obtain ⟨w2, z2⟩ := I.cell y c' e
        exact ⟨w2, z2.sameBut hs hcc⟩
    · obtain ⟨e, n, ne, nf, d⟩ := I.pin p hp
      refine ⟨(hs.2 p.1 ?_).trans e, n, ne, nf, d⟩
      intro q
      rw [q, hoc] at e
      have q' : oc = p.2 := Option.some.inj e
      exact d w' (by rw [← q']; exact hocd)
theorem store_ok {M : Model} {A : Around} {E : Value → Shared → Prop} {i : Nat} {x : Str} {v : V} {u : Value} {Q : Unit → Shared → Prop} (I : Inv X pins σ H s) (hN : X.N.Nodup) (hi : X.N[i]? = some x) (hx : Loc X.env.scope x) (r : RelV v u)
    (h : ∀ s', Inv X pins (σ.set i (some v)) H s' → Q () s') (hf : X.fn x = true ∨ X.env.scope.names.lookup x = some .local := by first | exact .inl rfl | exact .inr rfl | assumption) : wpAny M A (storeName X.env x u) Q E s :=
  store_ok2 I hN hi hx r (fun s' I' _ => h s' I') hf
theorem Inv.call' {s' : Shared} {ch : List Addr} (I : Inv X pins σ H s) (ho : s'.os = s.os) (u : Un (frs X.stack) ch H H' s.heap s'.heap) (hok : HOk X.prog X.w H' s'.heap) (hg : AllBare s'.gens)
    (hch : ∀ b ∈ ch, (b ∈ X.ex ∨ X.s₀.heap.objs.size ≤ b) ∧ b ≠ X.env.locals ∧ (∀ x c, X.env.cells.lookup x = some c → c ≠ b) ∧ ∀ p ∈ X.pn ++ pins, p.1 ≠ b) : Inv X pins σ H' s' := by
  obtain ⟨h', g', d', t', o'⟩ := s'
  have e : o' = s.os := ho
  subst e
  exact I.call (g' := g') (t' := t') (d' := d') u hok hg hch
end
noncomputable abbrev XK := Value → Option Addr → Hp → Prop
noncomputable abbrev St := List (Option V)
noncomputable abbrev VK := V → Hp → Prop
noncomputable abbrev TE := St → Hp → VK → Prop
noncomputable abbrev TT := St → Hp → (Bool → Hp → Prop) → Prop
noncomputable abbrev TA := St → Hp → (List V → Hp → Prop) → Prop
structure Ends where
  nx : St → Hp → Prop
  rt : VK
  bk : St → Hp → Prop := fun _ _ => False
  ct : St → Hp → Prop := fun _ _ => False
noncomputable abbrev TS := Ends → St → Hp → Prop
noncomputable def EP (X : Cx) (pins : List (Addr × Obj)) (σ : St) (Q : VK) (u : Value) (s' : Shared) : Prop := ∃ v H', Inv X pins σ H' s' ∧ RelV v u ∧ Q v H'
noncomputable def TP (X : Cx) (pins : List (Addr × Obj)) (σ : St) (Q : Bool → Hp → Prop) (b : Bool) (s' : Shared) : Prop := ∃ H', Inv X pins σ H' s' ∧ Q b H'
noncomputable def AP (X : Cx) (pins : List (Addr × Obj)) (σ : St) (Q : List V → Hp → Prop) (us : List Value) (s' : Shared) : Prop := ∃ vs H', Inv X pins σ H' s' ∧ Vals vs us ∧ Q vs H'
noncomputable def SP (X : Cx) (pins : List (Addr × Obj)) (D : Ends) (f : Flow) (s' : Shared) : Prop :=
  match f with
  | .next => ∃ σ' H', Inv X pins σ' H' s' ∧ D.nx σ' H'
  | .brk => ∃ σ' H', Inv X pins σ' H' s' ∧ D.bk σ' H'
  | .cont => ∃ σ' H', Inv X pins σ' H' s' ∧ D.ct σ' H'
  | .ret u => ∃ v σ' H', Inv X pins σ' H' s' ∧ RelV v u ∧ D.rt v H'
noncomputable def PE (X : Cx) (e : Expr) (t : TE) : Prop :=
  ∀ (pins : List (Addr × Obj)) (s : Shared) (σ : St) (H : Hp) (Q : VK), Inv X pins σ H s → t σ H Q → wpAny (model X.prog X.w) X.A (eval e X.env) (EP X pins σ Q) X.xe s
noncomputable def PT (X : Cx) (e : Expr) (t : TT) : Prop :=
  ∀ (pins : List (Addr × Obj)) (s : Shared) (σ : St) (H : Hp) (Q : Bool → Hp → Prop), Inv X pins σ H s → t σ H Q → wpAny (model X.prog X.w) X.A (isTrue e X.env (eval e X.env)) (TP X pins σ Q) X.xe s
noncomputable def PW (X : Cx) (e : Expr) (t : TT) : Prop :=
  ∀ (whole : Sem Value) (pins : List (Addr × Obj)) (s : Shared) (σ : St) (H : Hp) (Q : Bool → Hp → Prop), Inv X pins σ H s → t σ H Q → wpAny (model X.prog X.w) X.A (isTrue e X.env whole) (TP X pins σ Q) X.xe s
theorem PW.pt {X : Cx} {e : Expr} {t : TT} (h : PW X e t) : PT X e t := h _
noncomputable def PA (X : Cx) (es : List Expr) (t : TA) : Prop :=
  ∀ (pos : Pos) (pins : List (Addr × Obj)) (s : Shared) (σ : St) (H : Hp) (Q : List V → Hp → Prop), Inv X pins σ H s → t σ H Q → wpAny (model X.prog X.w) X.A (spliced (backTo pos (starEach es X.env))) (AP X pins σ Q) X.xe s
noncomputable def PS (X : Cx) (st : Stmt) (t : TS) : Prop :=
  ∀ (pins : List (Addr × Obj)) (s : Shared) (σ : St) (H : Hp) (D : Ends), Inv X pins σ H s → t D σ H → wpAny (model X.prog X.w) X.A (exec st X.env) (SP X pins D) X.xe s
noncomputable def PSs (X : Cx) (st : List Stmt) (t : TS) : Prop :=
  ∀ (pins : List (Addr × Obj)) (s : Shared) (σ : St) (H : Hp) (D : Ends), Inv X pins σ H s → t D σ H → wpAny (model X.prog X.w) X.A (execs st X.env) (SP X pins D) X.xe s
theorem thn {α : Type} {t : Sem α} {Q Q' : α → Shared → Prop} {M : Model} {A : Around} {E : Value → Shared → Prop} {s : Shared} (h : wpAny M A t Q E s) (hQ : ∀ a s, Q a s → Q' a s) : wpAny M A t Q' E s := wpAny_mono h hQ fun _ _ x => x
end L2
namespace L2
open PySem PySem.Spec PyProof.Rows
section
variable {X : Cx}
theorem bin {a b : Expr} {ta tb : TE} (ha : PE X a ta) (hb : PE X b tb) {pins : List (Addr × Obj)} {s : Shared} {σ : St} {H : Hp} {R : V → V → Hp → Prop} (I : Inv X pins σ H s) (h : ta σ H fun x H1 => tb σ H1 fun y H2 => R x y H2)
    {α : Type} {Q : α → Shared → Prop} {f : Value → Value → Sem α}
    (hf : ∀ v u s2 x y H2, Inv X pins σ H2 s2 → RelV x v → RelV y u → R x y H2 → wpAny (model X.prog X.w) X.A (f v u) Q X.xe s2) :
    wpAny (model X.prog X.w) X.A (eval a X.env) (fun v s₁ => wpAny (model X.prog X.w) X.A (eval b X.env) (fun u s₂ => wpAny (model X.prog X.w) X.A (f v u) Q X.xe s₂) X.xe s₁) X.xe s := by
  refine thn (ha pins s σ H _ I h) fun v s1 ⟨x, H1, I1, r1, q1⟩ => ?_
  refine thn (hb pins s1 σ H1 _ I1 q1) fun u s2 ⟨y, H2, I2, r2, q2⟩ => ?_
  exact hf v u s2 x y H2 I2 r1 r2 q2
noncomputable def tVar (i : Nat) : TE := fun σ H Q => ∃ v, σ[i]? = some (some v) ∧ Q v H
noncomputable def tC (v : V) : TE := fun _ H Q => Q v H
theorem pe_var {i : Nat} {x : Str} {pos : Pos} (hN : X.N[i]? = some x) (hv : Vis X.env.scope x) (hd : (x == ("__debug__" : Str)) = false := by decide) (hcd : (x == ("__classdict__" : Str)) = false := by decide) : PE X (.Name x pos) (tVar i) := by
  intro pins s σ H Q I h
  obtain ⟨v, e, h⟩ := h
  obtain ⟨m, hn, hl⟩ := I.loc
  obtain ⟨u, r, l⟩ := hl i x v hN e hv
  have fin : EP X pins σ Q u s := ⟨v, H, I, r, h⟩
  rcases l with ⟨hk, hm⟩ | ⟨hk, c, hc, hcell⟩
  · exact wpAny_Name (wpAny_loadName_local I.ok.kind hk hn hm fin) hd
  · rcases hk with hk | hk
    · exact wpAny_Name (wpAny_loadName_cell I.ok.kind hk hc hcell fin) hd
    · exact wpAny_Name (wpAny_loadName_free I.ok.kind hk hc hcell fin hcd) hd
theorem pe_int {i j pos} : PE X (.Constant (.int i) j pos) (tC (.int i)) := fun _ _ _ H _ I h => wpAny_Constant_int ⟨.int i, H, I.tok _, ⟨_, rfl⟩, h⟩
theorem pe_bl {b j pos} : PE X (.Constant (.bool b) j pos) (tC (.bl b)) := fun _ _ _ H _ I h => Constant_bool ⟨.bl b, H, I, rfl, h⟩
theorem pe_non {j pos} : PE X (.Constant .none j pos) (tC .non) := fun _ _ _ H _ I h => Constant_none ⟨.non, H, I, rfl, h⟩
theorem pe_str {x j pos} : PE X (.Constant (.str x) j pos) (tC (.str x)) := fun _ _ _ H _ I h => Calls.Constant_str ⟨.str x, H, I.tok _, ⟨_, rfl⟩, h⟩
noncomputable def Gl (X : Cx) (x : Str) : Prop := X.env.kindOf x = some .globalImplicit
theorem ld_glob {E : Value → Shared → Prop} {pins : List (Addr × Obj)} {s : Shared} {σ : St} {H : Hp} {x : Str} {u : Value} {pos : Pos} {Q : Value → Shared → Prop} (I : Inv X pins σ H s) (hg : Gl X x) (hm : X.mg x = some u) (h : Q u s)
    (hd : (x == ("__debug__" : Str)) = false := by decide) : wpAny (model X.prog X.w) X.A (eval (.Name x pos) X.env) Q E s :=
  Calls.Name_function_global I.ok.kind hg (Calls.loadGlobal_global (by rw [I.ok.glob]; exact I.mod.glob.keeps I.bk) hm h) hd
theorem ld_blt {E : Value → Shared → Prop} {pins : List (Addr × Obj)} {s : Shared} {σ : St} {H : Hp} {x : Str} {u : Value} {pos : Pos} {Q : Value → Shared → Prop} (I : Inv X pins σ H s) (hg : Gl X x) (hm : X.mg x = none) (hv : bootBuiltins x = some u) (h : Q u s)
    (hn : x ≠ "__name__" := by decide) (hd : (x == ("__debug__" : Str)) = false := by decide) : wpAny (model X.prog X.w) X.A (eval (.Name x pos) X.env) Q E s := by
  obtain ⟨mb, h1, h2⟩ := I.mod.blt
  exact Calls.Name_function_global I.ok.kind hg (Calls.loadGlobal_builtin (by rw [I.ok.glob]; exact I.mod.glob.keeps I.bk) hm (by rw [I.ok.blt]; exact h1.keeps I.bk) ((h2 x hn).trans hv) h) hd
theorem pe_glob {x : Str} {v : V} {u : Value} {pos : Pos} (hg : Gl X x) (hm : X.mg x = some u) (r : RelV v u) (hd : (x == ("__debug__" : Str)) = false := by decide) : PE X (.Name x pos) (tC v) :=
  fun _ _ _ H _ I h => ld_glob I hg hm ⟨v, H, I, r, h⟩ hd
theorem pe_bltn {x : Str} {v : V} {u : Value} {pos : Pos} (hg : Gl X x) (hm : X.mg x = none) (hv : bootBuiltins x = some u) (r : RelV v u) (hn : x ≠ "__name__" := by decide) (hd : (x == ("__debug__" : Str)) = false := by decide) : PE X (.Name x pos) (tC v) :=
  fun _ _ _ H _ I h => ld_blt I hg hm hv ⟨v, H, I, r, h⟩ hn hd
noncomputable def t2I (ta tb : TE) (k : Int → Int → Hp → Prop) : St → Hp → Prop := fun σ H => ta σ H fun x H1 => tb σ H1 fun y H2 => ∃ i j, x = .int i ∧ y = .int j ∧ k i j H2
noncomputable def tAdd (ta tb : TE) : TE := fun σ H Q => t2I ta tb (fun i j H2 => Q (.int (i + j)) H2) σ H
noncomputable def tSub (ta tb : TE) : TE := fun σ H Q => t2I ta tb (fun i j H2 => Q (.int (i - j)) H2) σ H
noncomputable def tMul (ta tb : TE) : TE := fun σ H Q => t2I ta tb (fun i j H2 => (-(2 ^ 64) < i ∧ i < 2 ^ 64) ∧ Q (.int (i * j)) H2) σ H
variable {a b : Expr} {ta tb : TE} {pos : Pos}
noncomputable def PC (X : Cx) (op : CmpOp) (a b : Expr) (t : TE) : Prop :=
  ∀ (pins : List (Addr × Obj)) (s : Shared) (σ : St) (H : Hp) (Q : VK), Inv X pins σ H s → t σ H Q →
    wpAny (model X.prog X.w) X.A (eval a X.env) (fun v s₁ => wpAny (model X.prog X.w) X.A (eval b X.env) (fun u s₂ => wpAny (model X.prog X.w) X.A (compareOp op v u) (EP X pins σ Q) X.xe s₂) X.xe s₁) X.xe s
noncomputable def tCmp (p : Int → Int → Bool) (ta tb : TE) : TE := fun σ H Q => t2I ta tb (fun i j H2 => Q (.bl (p i j)) H2) σ H
noncomputable abbrev tLt : TE → TE → TE := tCmp fun i j => decide (i < j)
noncomputable abbrev tLe : TE → TE → TE := tCmp fun i j => decide (i ≤ j)
noncomputable abbrev tGt : TE → TE → TE := tCmp fun i j => decide (j < i)
noncomputable abbrev tGe : TE → TE → TE := tCmp fun i j => decide (j ≤ i)
noncomputable abbrev tEqI : TE → TE → TE := tCmp fun i j => decide (i = j)
noncomputable abbrev tNeI : TE → TE → TE := tCmp fun i j => !decide (i = j)
noncomputable def tIsN (ta : TE) : TE := fun σ H Q => ta σ H fun x H1 => Q (.bl (decide (x = .non))) H1
noncomputable def tNotN (ta : TE) : TE := fun σ H Q => ta σ H fun x H1 => Q (.bl (!decide (x = .non))) H1
noncomputable def tB (t : TE) : TT := fun σ H Q => t σ H fun x H1 => ∃ c, x = .bl c ∧ Q c H1
theorem pt_val {e : Expr} {t : TE} (h : PE X e t) (he : ∀ whole, isTrue e X.env whole = (do let v ← whole; standAt e.pos; holding [v] (truthy v)) := by intro _; rfl) : PT X e (tB t) := by
  intro pins s σ H Q I hw
  refine isTrue_plain (thn (h pins s σ H _ I hw) fun v s1 ⟨x, H1, I1, r1, q1⟩ => ?_) (he _)
  obtain ⟨d, rfl, q⟩ := q1
  cases r1
  exact wpAny_truthy_bool ⟨H1, I1, q⟩
variable {tA tB' : TT} {rest : List Expr}
noncomputable def tAnd (t u : TT) : TT := fun σ H Q => t σ H fun c H1 => if c = true then u σ H1 Q else Q false H1
noncomputable def tOr (t u : TT) : TT := fun σ H Q => t σ H fun c H1 => if c = true then Q true H1 else u σ H1 Q
noncomputable def tNot (t : TT) : TT := fun σ H Q => t σ H fun c H1 => Q (!c) H1
theorem pw_and1 (ha : PT X a tA) : PW X (.BoolOp .And [a] pos) tA := by
  intro wh pins s σ H Q I h
  refine isTrue_and (thn (ha pins s σ H Q I h) fun c s1 e => ?_)
  cases c with
  | true => exact isTrue_and_nil e
  | false => exact e
theorem pw_or1 (ha : PT X a tA) : PW X (.BoolOp .Or [a] pos) tA := by
  intro wh pins s σ H Q I h
  refine isTrue_or (thn (ha pins s σ H Q I h) fun c s1 e => ?_)
  cases c with
  | false => exact isTrue_or_nil e
  | true => exact e
theorem pw_and (ha : PT X a tA) (hb : PW X (.BoolOp .And (b :: rest) pos) tB') : PW X (.BoolOp .And (a :: b :: rest) pos) (tAnd tA tB') := by
  intro wh pins s σ H Q I h
  refine isTrue_and (thn (ha pins s σ H _ I h) fun c s1 ⟨H1, I1, q1⟩ => ?_)
  cases c with
  | true => exact hb wh pins s1 σ H1 Q I1 q1
  | false => exact ⟨H1, I1, q1⟩
theorem pw_or (ha : PT X a tA) (hb : PW X (.BoolOp .Or (b :: rest) pos) tB') : PW X (.BoolOp .Or (a :: b :: rest) pos) (tOr tA tB') := by
  intro wh pins s σ H Q I h
  refine isTrue_or (thn (ha pins s σ H _ I h) fun c s1 ⟨H1, I1, q1⟩ => ?_)
  cases c with
  | true => exact ⟨H1, I1, q1⟩
  | false => exact hb wh pins s1 σ H1 Q I1 q1
theorem pt_not (ha : PT X a tA) : PT X (.UnaryOp .Not a pos) (tNot tA) := by
  intro pins s σ H Q I h
  exact isTrue_not (ha pins s σ H (fun c H1 => Q (!c) H1) I h)
noncomputable def tAndV (ta tb : TE) : TE := fun σ H Q => ta σ H fun x H1 => ∃ c, x = .bl c ∧ if c = true then tb σ H1 Q else Q (.bl false) H1
noncomputable def tOrV (ta tb : TE) : TE := fun σ H Q => ta σ H fun x H1 => ∃ c, x = .bl c ∧ if c = true then Q (.bl true) H1 else tb σ H1 Q
noncomputable def tNotV (ta : TE) : TE := fun σ H Q => ta σ H fun x H1 => ∃ c, x = .bl c ∧ Q (.bl (!c)) H1
theorem pe_one {op} {t : TE} (h : PE X a t) : PE X (.BoolOp op [a] pos) t := fun pins s σ H Q I hw => BoolOp_one (h pins s σ H Q I hw)
theorem pe_and (ha : PE X a ta) (hb : PE X (.BoolOp .And (b :: rest) pos) tb) : PE X (.BoolOp .And (a :: b :: rest) pos) (tAndV ta tb) := by
  intro pins s σ H Q I h
  refine BoolOp_and (thn (ha pins s σ H _ I h) fun v s1 ⟨x, H1, I1, r1, q1⟩ => ?_)
  obtain ⟨c, rfl, q1⟩ := q1
  cases r1
  refine wpAny_truthy_bool ?_
  cases c with
  | true => exact hb pins s1 σ H1 Q I1 q1
  | false => exact ⟨.bl false, H1, I1, rfl, q1⟩
theorem pe_or (ha : PE X a ta) (hb : PE X (.BoolOp .Or (b :: rest) pos) tb) : PE X (.BoolOp .Or (a :: b :: rest) pos) (tOrV ta tb) := by
  intro pins s σ H Q I h
  refine BoolOp_or (thn (ha pins s σ H _ I h) fun v s1 ⟨x, H1, I1, r1, q1⟩ => ?_)
  obtain ⟨c, rfl, q1⟩ := q1
  cases r1
  refine wpAny_truthy_bool ?_
  cases c with
  | false => exact hb pins s1 σ H1 Q I1 q1
  | true => exact ⟨.bl true, H1, I1, rfl, q1⟩
theorem pe_not (ha : PE X a ta) : PE X (.UnaryOp .Not a pos) (tNotV ta) := by
  intro pins s σ H Q I h
  refine UnaryOp_ (thn (ha pins s σ H _ I h) fun v s1 ⟨x, H1, I1, r1, q1⟩ => ?_)
  obtain ⟨c, rfl, q1⟩ := q1
  cases r1
  exact not_of (wpAny_truthy_bool ⟨.bl (!c), H1, I1, rfl, q1⟩)
noncomputable def tIf (t : TT) (ta tb : TE) : TE := fun σ H Q => t σ H fun c H1 => if c = true then ta σ H1 Q else tb σ H1 Q
end
end L2
namespace L2
open PySem PySem.Spec PyProof.Rows
noncomputable def SqL (K : PySem.W.Frag) (H : Hp) (a : Addr) (xs : List V) : Prop :=
  Rd H a (.lst xs) ∨
    ∃ (o : Obj) (its : Array Value) (n : Nat), K.lookup a = some o ∧ o.cls = .type "list" ∧ o.dict = none ∧ o.data = .seq its n ∧ its.size ≤ sizeLine ∧ Vals xs its.toList
noncomputable def SqT (K : PySem.W.Frag) (H : Hp) (a : Addr) (xs : List V) : Prop :=
  Rd H a (.tup xs) ∨
    ∃ (o : Obj) (its : Array Value) (n : Nat), K.lookup a = some o ∧ o.cls = .type "tuple" ∧ o.data = .seq its n ∧ its.size ≤ sizeLine ∧ Vals xs its.toList
noncomputable def absV : Value → Option V
  | .none => some .non
  | .bool b => some (.bl b)
  | .int i _ => some (.int i)
  | .str x _ => some (.str x)
  | .bytes b _ => some (.byt b)
  | .float b _ => some (.flt b)
  | .ref a => some (.ref a)
  | .type n => some (.ty n)
  | _ => none
theorem RelV.abs {x : V} {u : Value} (r : RelV x u) : absV u = some x := by
  cases x with
  | non => cases r; rfl
  | bl _ => cases r; rfl
  | int _ => obtain ⟨t, rfl⟩ := r; rfl
  | str _ => obtain ⟨t, rfl⟩ := r; rfl
  | byt _ => obtain ⟨t, rfl⟩ := r; rfl
  | flt _ => obtain ⟨t, rfl⟩ := r; rfl
  | ref _ => cases r; rfl
  | ty _ => cases r; rfl
theorem RelV.inj {x y : V} {u : Value} (r : RelV x u) (q : RelV y u) : x = y := Option.some.inj (r.abs.symm.trans q.abs)
theorem Vals.inj : ∀ {xs ys : List V} {us : List Value}, Vals xs us → Vals ys us → xs = ys
  | _, _, _, .nil, .nil => rfl
  | _, _, _, .cons r t, .cons r' t' => by rw [r.inj r', Vals.inj t t']
section
variable {X : Cx} {pins : List (Addr × Obj)} {σ : St} {H : Hp} {s : Shared} {a : Addr} {xs ys : List V}
theorem SqL.of {K : PySem.W.Frag} (h : H a = some (.lst xs)) : SqL K H a xs := .inl (.inl h)
theorem SqT.of {K : PySem.W.Frag} (h : H a = some (.tup xs)) : SqT K H a xs := .inl (.inl h)
theorem Inv.list (I : Inv X pins σ H s) (h : SqL X.K H a xs) : ∃ its : List Value, Vals xs its ∧ PlainL s.heap a its.toArray ∧ xs.length ≤ sizeLine := by
  rcases h with h | ⟨o, its, n, hk, hc, hd, hs, hz, r⟩
  · obtain ⟨z, its, n, r, e⟩ := h.ok I.hok
    exact ⟨its, r, ⟨_, n, e, rfl, rfl, rfl⟩, z⟩
  · refine ⟨its.toList, r, ⟨o, n, I.kIn a o hk, hc, hd, by simpa using hs⟩, ?_⟩
    have e := r.length
    simp only [Array.length_toList] at e
    omega
theorem Inv.tuple (I : Inv X pins σ H s) (h : SqT X.K H a xs) : ∃ its : List Value, Vals xs its ∧ IsTup s.heap a its.toArray ∧ xs.length ≤ sizeLine := by
  rcases h with h | ⟨o, its, n, hk, hc, hs, hz, r⟩
  · obtain ⟨z, its, r, p⟩ := h.ok I.hok
    exact ⟨its, r, p, z⟩
  · refine ⟨its.toList, r, ⟨o, I.kIn a o hk, hc, n, by simpa using hs⟩, ?_⟩
    have e := r.length
    simp only [Array.length_toList] at e
    omega
theorem Inv.list_inj (I : Inv X pins σ H s) (h : SqL X.K H a xs) (h' : SqL X.K H a ys) : xs = ys := by
  obtain ⟨its, r, ⟨o, n, e, _, _, d⟩, _⟩ := I.list h
  obtain ⟨its', r', ⟨o', n', e', _, _, d'⟩, _⟩ := I.list h'
  rw [e] at e'; cases e'
  rw [d] at d'
  injection d' with d1 _
  have : its = its' := by simpa using congrArg Array.toList d1
  subst this
  exact r.inj r'
theorem Inv.tuple_inj (I : Inv X pins σ H s) (h : SqT X.K H a xs) (h' : SqT X.K H a ys) : xs = ys := by
  obtain ⟨its, r, ⟨o, e, _, n, d⟩, _⟩ := I.tuple h
  obtain ⟨its', r', ⟨o', e', _, n', d'⟩, _⟩ := I.tuple h'
  rw [e] at e'; cases e'
  rw [d] at d'
  injection d' with d1 _
  have : its = its' := by simpa using congrArg Array.toList d1
  subst this
  exact r.inj r'
end
noncomputable abbrev Cx.wish (X : Cx) (E : Value → Shared → Prop) : Cx := { X with xe := E }
noncomputable abbrev Cx.nox (X : Cx) : Cx := X.wish fun _ _ => False
section
variable {X : Cx} {pins : List (Addr × Obj)} {σ : St} {H : Hp} {s : Shared} {E : Value → Shared → Prop}
end
section
variable {X : Cx} {st : Stmt} {rest : List Stmt} {t u : TS} {e : Expr} {te : TE} {pos : Pos}
noncomputable def tNext : TS := fun D σ H => D.nx σ H
noncomputable def tSeq (t u : TS) : TS := fun D σ H => t { D with nx := u D } σ H
theorem pss_nil : PSs X [] tNext := fun _ _ σ H _ I h => wpAny_execs_nil ⟨σ, H, I, h⟩
theorem pss_cons (h1 : PS X st t) (h2 : PSs X rest u) : PSs X (st :: rest) (tSeq t u) := by
  intro pins s σ H D I h
  refine wpAny_execs_cons (thn (h1 pins s σ H { D with nx := u D } I h) fun f s1 q => ?_)
  cases f with
  | next =>
    obtain ⟨σ', H', I', q⟩ := q
    exact h2 pins s1 σ' H' D I' q
  | ret v => exact q
  | brk => exact q
  | cont => exact q
noncomputable def tBreak : TS := fun D σ H => D.bk σ H
noncomputable def tCont : TS := fun D σ H => D.ct σ H
theorem Inv.quiet {pins : List (Addr × Obj)} {σ : St} {H : Hp} {s : Shared} (I : Inv X pins σ H s) : interactive X.env = false := by simp [interactive, I.ok.kind]
noncomputable def tDrop (te : TE) : TS := fun D σ H => te σ H fun _ H1 => D.nx σ H1
theorem ps_expr (he : PE X e te) (hs : swapsWith e none pos.line X.env = pure false := by rfl) : PS X (.Expr e pos) (tDrop te) := by
  intro pins s σ H D I h
  exact wpAny_Expr_any (thn (he pins s σ H _ I h) fun v s1 ⟨x, H1, I1, r1, q1⟩ => ⟨σ, H1, I1, q1⟩) I.quiet hs
noncomputable def tRet (te : TE) : TS := fun D σ H => te σ H D.rt
theorem ps_ret (he : PE X e te) : PS X (.Return (some e) pos) (tRet te) := by
  intro pins s σ H D I h
  exact wpAny_Return_some (thn (he pins s σ H _ I h) fun v s1 ⟨x, H1, I1, r1, q1⟩ => ⟨x, σ, H1, I1, r1, q1⟩)
noncomputable def tRetN : TS := fun D _ H => D.rt .non H
noncomputable def tIfS (c : TT) (t u : TS) : TS := fun D σ H => c σ H fun b H1 => if b = true then t D σ H1 else u D σ H1
theorem ps_if {c : Expr} {a b : List Stmt} {tc : TT} (hc : PT X c tc) (ha : PSs X a t) (hb : PSs X b u) : PS X (.If c a b pos) (tIfS tc t u) := by
  intro pins s σ H D I h
  refine wpAny_If (thn (hc pins s σ H _ I h) fun d s1 ⟨H1, I1, q1⟩ => ?_)
  cases d with
  | true => exact ha pins s1 σ H1 D I1 q1
  | false => exact hb pins s1 σ H1 D I1 q1
noncomputable def tNever : TS := fun _ _ _ => False
end
noncomputable abbrev TG := V → St → Hp → (St → Hp → Prop) → Prop
noncomputable abbrev TGs := List V → St → Hp → (St → Hp → Prop) → Prop
noncomputable def PG (X : Cx) (target : Expr) (t : TG) : Prop :=
  ∀ (pins : List (Addr × Obj)) (s : Shared) (σ : St) (H : Hp) (v : V) (u : Value) (Q : St → Hp → Prop), Inv X pins σ H s → RelV v u → t v σ H Q →
    wpAny (model X.prog X.w) X.A (assign target X.env u) (fun _ s' => ∃ σ' H', Inv X pins σ' H' s' ∧ Q σ' H') X.xe s
noncomputable def PGs (X : Cx) (ts : List Expr) (t : TGs) : Prop :=
  ∀ (pins : List (Addr × Obj)) (s : Shared) (σ : St) (H : Hp) (vs : List V) (us : List Value) (Q : St → Hp → Prop), Inv X pins σ H s → Vals vs us → t vs σ H Q →
    wpAny (model X.prog X.w) X.A (assignInOrder ((assignEach ts X.env).map (·.2)) us) (fun _ s' => ∃ σ' H', Inv X pins σ' H' s' ∧ Q σ' H') X.xe s
noncomputable abbrev TSet := V → V → V → Hp → (Hp → Prop) → Prop
noncomputable def PSet (X : Cx) (t : TSet) : Prop :=
  ∀ (pins : List (Addr × Obj)) (s : Shared) (σ : St) (H : Hp) (o i v : V) (ov iv u : Value) (Q : Hp → Prop), Inv X pins σ H s → RelV o ov → RelV i iv → RelV v u → t o i v H Q →
    wpAny (model X.prog X.w) X.A (setItem ov iv u) (fun _ s' => ∃ H', Inv X pins σ H' s' ∧ Q H') X.xe s
noncomputable abbrev TIp := V → V → Hp → VK → Prop
noncomputable def PIp (X : Cx) (op : Operator) (t : TIp) : Prop :=
  ∀ (pins : List (Addr × Obj)) (s : Shared) (σ : St) (H : Hp) (x y : V) (v u : Value) (Q : VK), Inv X pins σ H s → RelV x v → RelV y u → t x y H Q →
    wpAny (model X.prog X.w) X.A (inplaceOp op v u) (EP X pins σ Q) X.xe s
section
variable {X : Cx} {pos : Pos}
noncomputable def gName (i : Nat) : TG := fun v σ H Q => Q (σ.set i (some v)) H
theorem pg_name {i : Nat} {x : Str} (hN : X.N.Nodup) (hi : X.N[i]? = some x) (hx : Loc X.env.scope x) (hf : X.fn x = true ∨ X.env.scope.names.lookup x = some .local := by first | exact .inl rfl | exact .inr rfl | assumption) : PG X (.Name x pos) (gName i) := by
  intro pins s σ H v u Q I r h
  exact wpAny_assign_Name (store_ok I hN hi hx r (fun s' I' => ⟨_, H, I', h⟩) hf)
noncomputable def gNil : TGs := fun vs σ H Q => vs = [] ∧ Q σ H
noncomputable def gCons (t : TG) (u : TGs) : TGs := fun vs σ H Q => ∃ v r, vs = v :: r ∧ t v σ H fun σ' H' => u r σ' H' Q
theorem pgs_nil : PGs X [] gNil := by
  intro pins s σ H vs us Q I r h
  obtain ⟨e, h⟩ := h
  subst e
  cases r
  exact assignInOrder_nil ⟨σ, H, I, h⟩
theorem pgs_cons {e : Expr} {es : List Expr} {t : TG} {u : TGs} (h1 : PG X e t) (h2 : PGs X es u)
    (hs : (assignEach (e :: es) X.env).map (·.2) = assign e X.env :: (assignEach es X.env).map (·.2) := by rfl) : PGs X (e :: es) (gCons t u) := by
  intro pins s σ H vs us Q I r h
  obtain ⟨v, vr, e1, h⟩ := h
  subst e1
  cases r with
  | cons r rr =>
    rw [hs]
    refine assignInOrder_cons (thn (h1 pins s σ H _ _ _ I r h) fun _ s1 ⟨σ1, H1, I1, q1⟩ => ?_)
    exact h2 pins s1 σ1 H1 _ _ Q I1 rr q1
noncomputable def gTup (K : PySem.W.Frag) (n : Nat) (t : TGs) : TG := fun v σ H Q => ∃ a xs, v = .ref a ∧ SqT K H a xs ∧ xs.length = n ∧ t xs σ H Q
noncomputable def gSub (to ti : TE) (t : TSet) : TG := fun v σ H Q => to σ H fun o H1 => ti σ H1 fun i H2 => t o i v H2 fun H3 => Q σ H3
noncomputable def tAsg (te : TE) (g : TG) : TS := fun D σ H => te σ H fun x H1 => g x σ H1 D.nx
theorem ps_set {i : Nat} {x : Str} {e : Expr} {te : TE} {pos' : Pos} (hN : X.N.Nodup) (hi : X.N[i]? = some x) (hx : Loc X.env.scope x) (he : PE X e te) (hs : swapsWith e (some (.Name x pos')) pos.line X.env = pure false := by rfl) (hf : X.fn x = true ∨ X.env.scope.names.lookup x = some .local := by first | exact .inl rfl | exact .inr rfl | assumption) :
    PS X (.Assign [.Name x pos'] e pos) (tAsg te (gName i)) := by
  intro pins s σ H D I h
  refine wpAny_Assign_Name (thn (he pins s σ H _ I h) fun v s1 ⟨y, H1, I1, r1, q1⟩ => ?_) hs
  exact store_ok I1 hN hi hx r1 (fun s2 I2 => ⟨_, H1, I2, q1⟩) hf
noncomputable def tPar (i j : Nat) (ta : TA) : TS := fun D σ H => ta σ H fun vs H1 => ∃ v w, vs = [v, w] ∧ D.nx ((σ.set i (some v)).set j (some w)) H1
noncomputable def tAug (i : Nat) (te : TE) (ti : TIp) : TS := fun D σ H => ∃ x, σ[i]? = some (some x) ∧ te σ H fun y H1 => ti x y H1 fun z H2 => D.nx (σ.set i (some z)) H2
theorem ps_aug {i : Nat} {x : Str} {e : Expr} {te : TE} {op : Operator} {ti : TIp} {pos' : Pos} (hN : X.N.Nodup) (hi : X.N[i]? = some x) (hx : Loc X.env.scope x) (he : PE X e te) (ho : PIp X op ti) (hf : X.fn x = true ∨ X.env.scope.names.lookup x = some .local := by first | exact .inl rfl | exact .inr rfl | assumption) :
    PS X (.AugAssign (.Name x pos') op e pos) (tAug i te ti) := by
  intro pins s σ H D I h
  obtain ⟨v, e1, h⟩ := h
  obtain ⟨m, hn, hl⟩ := I.loc
  have vis : Vis X.env.scope x := by rcases hx with k | k; exact .inl k; exact .inr (.inl k)
  obtain ⟨u, r, l⟩ := hl i x v hi e1 vis
  refine wpAny_AugAssign_Name ?_
  have go : wpAny (model X.prog X.w) X.A (eval e X.env) (fun w s₂ => wpAny (model X.prog X.w) X.A (inplaceOp op u w) (fun r s₃ => wpAny (model X.prog X.w) X.A (storeName X.env x r) (fun _ => SP X pins D .next) X.xe s₃) X.xe s₂) X.xe s := by
    refine thn (he pins s σ H _ I h) fun w s1 ⟨y, H1, I1, r1, q1⟩ => ?_
    refine thn (ho pins s1 σ H1 v y u w _ I1 r r1 q1) fun z s2 ⟨zv, H2, I2, r2, q2⟩ => ?_
    exact store_ok I2 hN hi hx r2 (fun s3 I3 => ⟨_, H2, I3, q2⟩) hf
  rcases l with ⟨hk, hm⟩ | ⟨hk, c, hc, hcell⟩
  · exact wpAny_loadName_local I.ok.kind hk hn hm go
  · rcases hk with hk | hk
    · exact wpAny_loadName_cell I.ok.kind hk hc hcell go
    · rcases hx with k | k
      · have : X.env.scope.names.lookup x = some .free := hk
        rw [k] at this; cases this
      · have : X.env.scope.names.lookup x = some .free := hk
        rw [k] at this; cases this
noncomputable def tAugS (to ti te : TE) (tget : V → V → Hp → VK → Prop) (tip : TIp) (tset : TSet) : TS := fun D σ H => to σ H fun o H1 => ti σ H1 fun i H2 => tget o i H2 fun x H3 => te σ H3 fun y H4 => tip x y H4 fun z H5 => tset o i z H5 fun H6 => D.nx σ H6
noncomputable def PGet (X : Cx) (t : V → V → Hp → VK → Prop) : Prop :=
  ∀ (pins : List (Addr × Obj)) (s : Shared) (σ : St) (H : Hp) (o i : V) (ov iv : Value) (Q : VK), Inv X pins σ H s → RelV o ov → RelV i iv → t o i H Q →
    wpAny (model X.prog X.w) X.A (getItem ov iv) (EP X pins σ Q) X.xe s
noncomputable def ipI (f : Int → Int → Int) : TIp := fun x y H Q => ∃ i j, x = .int i ∧ y = .int j ∧ Q (.int (f i j)) H
theorem ip_add : PIp X .Add (ipI fun i j => i + j) := by
  intro pins s σ H x y v u Q I r1 r2 h
  obtain ⟨i, j, e1, e2, q⟩ := h
  subst e1; subst e2
  obtain ⟨t, rfl⟩ := r1
  obtain ⟨t', rfl⟩ := r2
  exact iadd_int ⟨.int _, H, I.tok _, ⟨_, rfl⟩, q⟩
end
section
variable {X : Cx} {pos : Pos}
noncomputable def tWhile (c : TT) (tb : TS) : TS := fun D σ H => ∃ W : Nat → St → Hp → Prop, (∃ m, W m σ H) ∧ ∀ m σ H, W m σ H →
  c σ H fun b H1 => if b = true then ∃ N : St → Hp → Prop, (∀ σ' H', N σ' H' → ∃ m', m' < m ∧ W m' σ' H') ∧ tb { D with nx := N, ct := N, bk := D.nx } σ H1 else D.nx σ H1
theorem ps_while {c : Expr} {body : List Stmt} {tc : TT} {tb : TS} (hp : PassesOwn (model X.prog X.w) X.A X.env X.xe) (hc : PT X c tc) (hb : PSs X body tb) : PS X (.While c body [] pos) (tWhile tc tb) := by
  intro pins s σ H D I h
  obtain ⟨W, ⟨m0, w0⟩, turn⟩ := h
  refine wpAny_While (codeAny_whileLoop (fun n s' => ∃ σ' H', Inv X pins σ' H' s' ∧ W n σ' H') ?_ m0 ⟨σ, H, I, w0⟩)
  rintro n s1 ⟨σ1, H1, I1, w1⟩
  refine wpAny_passesOwn hp (thn (hc pins s1 σ1 H1 _ I1 (turn n σ1 H1 w1)) fun b s2 ⟨H2, I2, q2⟩ => ?_)
  cases b with
  | true =>
    obtain ⟨N, hN, q2⟩ := q2
    rw [if_pos rfl]
    refine wpAny_passesOwn hp (thn (hb pins s2 σ1 H2 _ I2 q2) fun f s3 q3 => ?_)
    cases f with
    | next =>
      obtain ⟨σ3, H3, I3, n3⟩ := q3
      obtain ⟨m', hm, w3⟩ := hN σ3 H3 n3
      exact ⟨m', hm, σ3, H3, I3, w3⟩
    | cont =>
      obtain ⟨σ3, H3, I3, n3⟩ := q3
      obtain ⟨m', hm, w3⟩ := hN σ3 H3 n3
      exact ⟨m', hm, σ3, H3, I3, w3⟩
    | brk => exact q3
    | ret v => exact q3
  | false =>
    rw [if_neg Bool.false_ne_true]
    exact wpAny_execs_nil ⟨σ1, H2, I2, q2⟩
end
structure It where
  go : Nat → Hp → Prop
  yld : Nat → Hp → V → Hp → Prop
  stop : Nat → Hp → Prop
noncomputable def FpOk (X : Cx) (pins : List (Addr × Obj)) (H : Hp) (b : Addr) : Prop :=
  H b = none ∧ b ≠ X.env.locals ∧ b ∉ X.fs ∧ (b ∈ X.ex ∨ X.s₀.heap.objs.size ≤ b) ∧ (∀ x c, X.env.cells.lookup x = some c → c ≠ b) ∧ ∀ p ∈ X.pn ++ pins, p.1 ≠ b
theorem Inv.fpOk {X : Cx} {pins : List (Addr × Obj)} {σ : St} {H H' : Hp} {s : Shared} {b : Addr} (I : Inv X pins σ H s) (hb : s.heap.objs.size ≤ b) (hn : H' b = none) : FpOk X pins H' b := by
  refine ⟨hn, Nat.ne_of_gt (Nat.lt_of_lt_of_le I.lt hb), I.nofs hb, .inr (Nat.le_trans I.sz hb), fun x c e z => ?_, fun p hp z => ?_⟩
  · obtain ⟨v, q⟩ := I.cell x c e
    exact absurd (Nat.lt_of_lt_of_le q.lt (by rw [z]; exact hb)) (Nat.lt_irrefl _)
  · exact absurd (Nat.lt_of_lt_of_le (Heap.lt_size (I.pin p hp).1) (by rw [z]; exact hb)) (Nat.lt_irrefl _)
structure Turn (P : Program) (w : World) (K : PySem.W.Frag) (tg : Expr) (J : It) (fp : List Addr) (it : Addr) (tn : Nat → Heap → Prop) : Prop where
  mem : it ∈ fp
  obj : ∀ i h, tn i h → ∀ b ∈ fp, ∃ o, h.get? b = some o ∧ ∀ v, o.data ≠ .cell v
  keep : ∀ i h h', tn i h → (∀ b ∈ fp, ∀ o, h.get? b = some o → h'.get? b = some o) → tn i h'
  item : ∀ (X : Cx), X.prog = P → X.w = w → X.K = K → X.calm = true → ∀ (i : Nat) (pins : List (Addr × Obj)) (s : Shared) (σ : St) (H : Hp) (E : Value → Shared → Prop), Inv X pins σ H s → (∀ b ∈ fp, FpOk X pins H b) → tn i s.heap → J.go i H →
    wpAny (model P w) X.A (pyNext (.ref it)) (fun r s1 => ∃ u, r = some u ∧
      wpAny (model P w) X.A (letOwnedTupleGo tg (.ref it) u) (fun _ s2 => ∃ x H', Inv X pins σ H' s2 ∧ RelV x u ∧ J.yld i H x H' ∧ tn (i + 1) s2.heap ∧ ∀ b ∈ fp, H' b = none) E s1) E s
  done : ∀ (X : Cx), X.prog = P → X.w = w → X.K = K → X.calm = true → ∀ (i : Nat) (pins : List (Addr × Obj)) (s : Shared) (σ : St) (H : Hp) (E : Value → Shared → Prop), Inv X pins σ H s → (∀ b ∈ fp, FpOk X pins H b) → tn i s.heap → J.stop i H →
    wpAny (model P w) X.A (pyNext (.ref it)) (fun r s1 => r = none ∧ Inv X pins σ H s1) E s
  self : ∀ (A : Around) (i : Nat) (s : Shared) (Q : Value → Shared → Prop) (E : Value → Shared → Prop), tn i s.heap → Q (.ref it) s → wpAny (model P w) A (pyIter (.ref it)) Q E s
noncomputable abbrev TI := St → Hp → (It → Hp → Prop) → Prop
noncomputable def PIE (X : Cx) (pins : List (Addr × Obj)) (σ : St) (tg : Expr) (R : It → Hp → Prop) (itv : Value) (s2 : Shared) : Prop :=
  ∃ (it : Addr) (fp : List Addr) (tn : Nat → Heap → Prop) (J : It) (H' : Hp), itv = .ref it ∧ Inv X pins σ H' s2 ∧ Turn X.prog X.w X.K tg J fp it tn ∧ tn 0 s2.heap ∧ (∀ b ∈ fp, FpOk X pins H' b) ∧ R J H'
noncomputable def PI (X : Cx) (tg iter : Expr) (wi : TI) : Prop :=
  ∀ (pins : List (Addr × Obj)) (s : Shared) (σ : St) (H : Hp) (R : It → Hp → Prop), Inv X pins σ H s → wi σ H R →
    wpAny (model X.prog X.w) X.A (eval iter X.env) (fun v s1 => wpAny (model X.prog X.w) X.A (pyIter v) (PIE X pins σ tg R) X.xe s1) X.xe s
theorem go_of {M : Model} {A : Around} {E : Value → Shared → Prop} {s : Shared} {tg : Expr} {it : Addr} {u : Value} {o : Obj} {n : String} {vs : Array Value} {Q : Unit → Shared → Prop} (ho : s.heap.get? it = some o) (hc : o.cls = .type n) (hd : o.data = .fields vs)
    (hn : ["enumerate", "zip", "dict_itemiterator", "dict_reverseitemiterator", "odict_iterator", "itertools.zip_longest", "itertools.pairwise"].contains n = false) (hQ : Q () s) : wpAny M A (letOwnedTupleGo tg (.ref it) u) Q E s := by
  unfold letOwnedTupleGo
  cases tg <;> first
    | exact wpAny_pure hQ
    | (cases u <;> first
        | exact wpAny_pure hQ
        | (refine wpAny_bind (wpAny_load ho ?_)
           rw [hc, hd]
           show wpAny M A (if (["enumerate", "zip", "dict_itemiterator", "dict_reverseitemiterator", "odict_iterator", "itertools.zip_longest", "itertools.pairwise"].contains n && vs[0]? == some (rawInt _)) = true then _ else _) Q E s
           rw [if_neg (by intro h; rw [hn, Bool.false_and] at h; cases h)]
           exact wpAny_pure hQ))
noncomputable def Itl (K : PySem.W.Frag) (a : Addr) : It :=
  ⟨fun i H => ∃ xs x, SqL K H a xs ∧ xs[i]? = some x, fun i H x H' => H' = H ∧ ∀ xs, SqL K H a xs → xs[i]? = some x, fun i H => ∃ xs, SqL K H a xs ∧ xs.length ≤ i⟩
noncomputable def Itt (K : PySem.W.Frag) (a : Addr) : It :=
  ⟨fun i H => ∃ xs x, SqT K H a xs ∧ xs[i]? = some x, fun i H x H' => H' = H ∧ ∀ xs, SqT K H a xs → xs[i]? = some x, fun i H => ∃ xs, SqT K H a xs ∧ xs.length ≤ i⟩
noncomputable def Itr (lo : Int) (n : Nat) : It := ⟨fun i _ => i < n, fun i H x H' => H' = H ∧ x = .int (lo + i), fun i _ => n ≤ i⟩
theorem turn_list {P : Program} {w : World} {K : PySem.W.Frag} {tg : Expr} (a it : Addr) : Turn P w K tg (Itl K a) [it] it (fun i h => h.IsListIter it a i) where
  mem := by simp
  obj := fun i h st b hb => by
    have e : b = it := by simpa using hb
    subst e
    obtain ⟨o, e, c, d⟩ := st
    exact ⟨o, e, fun v z => by rw [d] at z; cases z⟩
  keep := fun i h h' st k => st.at fun o e => k it (by simp) o e
  item := by
    intro X hP hw hK hc i pins s σ H E I hf st hg
    subst hP hw hK
    obtain ⟨xs, x, hq, hx⟩ := hg
    obtain ⟨its, rv, p, hz⟩ := I.list hq
    obtain ⟨u, hu, ru⟩ := rv.get hx
    obtain ⟨f0, f1, f2, f3, f4, f5⟩ := hf it (by simp)
    refine wpAny_pyNext_list_item st p.isList (x := u) (by simpa using hu) fun h' st' sb => ?_
    have I1 : Inv X pins σ H { s with heap := h' } := I.turned (t' := s.toks) (fun b o hb e => (sb.2 b hb).trans e) f0 f1 f3 f4 f5
    obtain ⟨o, e, c, d⟩ := id st'
    exact ⟨u, rfl, go_of (s := { s with heap := h' }) e c d (by decide) ⟨x, H, I1, ru, ⟨rfl, fun ys hy => by rw [I.list_inj hy hq]; exact hx⟩, st', fun b hb => (hf b hb).1⟩⟩
  done := by
    intro X hP hw hK hc i pins s σ H E I hf st hg
    subst hP hw hK
    obtain ⟨xs, hq, hx⟩ := hg
    obtain ⟨its, rv, p, hz⟩ := I.list hq
    obtain ⟨f0, f1, f2, f3, f4, f5⟩ := hf it (by simp)
    have hl := rv.length
    exact wpAny_pyNext_list_end (I.ok.hd hc) st p.isList (by simp; omega) fun h' eb => ⟨rfl, I.turned (t' := s.toks) (fun b o hb e => eb b o hb e) f0 f1 f3 f4 f5⟩
  self := fun _ _ _ _ _ st h => wpAny_pyIter_listiter st h
theorem turn_tuple {P : Program} {w : World} {K : PySem.W.Frag} {tg : Expr} (a it : Addr) : Turn P w K tg (Itt K a) [it] it (fun i h => h.IsTupleIter it a i) where
  mem := by simp
  obj := fun i h st b hb => by
    have e : b = it := by simpa using hb
    subst e
    obtain ⟨o, e, c, d⟩ := st
    exact ⟨o, e, fun v z => by rw [d] at z; cases z⟩
  keep := fun i h h' st k => st.at fun o e => k it (by simp) o e
  item := by
    intro X hP hw hK hc i pins s σ H E I hf st hg
    subst hP hw hK
    obtain ⟨xs, x, hq, hx⟩ := hg
    obtain ⟨its, rv, p, hz⟩ := I.tuple hq
    obtain ⟨u, hu, ru⟩ := rv.get hx
    obtain ⟨f0, f1, f2, f3, f4, f5⟩ := hf it (by simp)
    refine wpAny_pyNext_tuple_item st (show s.heap.IsTuple a its.toArray from p) (x := u) (by simpa using hu) fun h' st' sb => ?_
    have I1 : Inv X pins σ H { s with heap := h' } := I.turned (t' := s.toks) (fun b o hb e => (sb.2 b hb).trans e) f0 f1 f3 f4 f5
    obtain ⟨o, e, c, d⟩ := id st'
    exact ⟨u, rfl, go_of (s := { s with heap := h' }) e c d (by decide) ⟨x, H, I1, ru, ⟨rfl, fun ys hy => by rw [I.tuple_inj hy hq]; exact hx⟩, st', fun b hb => (hf b hb).1⟩⟩
  done := by
    intro X hP hw hK hc i pins s σ H E I hf st hg
    subst hP hw hK
    obtain ⟨xs, hq, hx⟩ := hg
    obtain ⟨its, rv, p, hz⟩ := I.tuple hq
    obtain ⟨f0, f1, f2, f3, f4, f5⟩ := hf it (by simp)
    have hl := rv.length
    exact wpAny_pyNext_tuple_end (I.ok.hd hc) st (show s.heap.IsTuple a its.toArray from p) (by simp; omega) fun h' eb => ⟨rfl, I.turned (t' := s.toks) (fun b o hb e => eb b o hb e) f0 f1 f3 f4 f5⟩
  self := fun _ _ _ _ _ st h => wpAny_pyIter_tupleiter st h
theorem turn_range {P : Program} {w : World} {K : PySem.W.Frag} {tg : Expr} (it : Addr) (lo : Int) (n : Nat) : Turn P w K tg (Itr lo n) [it] it (fun i h => IsRangeIter h it (lo + (i : Nat) * 1) ((n : Int) - (i : Nat)) 1) where
  mem := by simp
  obj := fun i h st b hb => by
    have e : b = it := by simpa using hb
    subst e
    exact ⟨_, st, fun v z => by
      have z' : Data.fields _ = Data.cell v := z
      cases z'⟩
  keep := fun i h h' st k => k it (by simp) _ st
  item := by
    intro X hP hw hK hc i pins s σ H E I hf st hg
    subst hP hw hK
    obtain ⟨f0, f1, f2, f3, f4, f5⟩ := hf it (by simp)
    have W := Walks.range (prog := X.prog) (w := X.w) (I.ok.hd hc) it lo 1 n
    refine W.item i s _ _ hg st fun v h' tk hv st' kk => ?_
    obtain ⟨t, rfl⟩ := hv
    have I1 : Inv X pins σ H { s with heap := h', toks := tk } := I.turned (fun b o hb e => kk b o (by simpa using hb) e) f0 f1 f3 f4 f5
    refine ⟨_, rfl, go_of (s := { s with heap := h', toks := tk }) (n := "range_iterator") st' rfl rfl (by decide) ⟨.int (lo + i), H, I1, ⟨t, ?_⟩, ⟨rfl, rfl⟩, st', fun b hb => (hf b hb).1⟩⟩
    rw [Int.mul_one]
  done := by
    intro X hP hw hK hc i pins s σ H E I hf st hg
    subst hP hw hK
    obtain ⟨f0, f1, f2, f3, f4, f5⟩ := hf it (by simp)
    exact wpAny_pyNext_range_end (I.ok.hd hc) st (by have : n ≤ i := hg; omega) fun h' eb => ⟨rfl, I.turned (t' := s.toks) (fun b o hb e => eb b o hb e) f0 f1 f3 f4 f5⟩
  self := fun _ _ _ _ _ st h => wpAny_pyIter_rangeiter st h
end L2
namespace L2
open PySem PySem.Spec PyProof.Rows
section
variable {X : Cx} {tg : Expr}
noncomputable def iList (K : PySem.W.Frag) (tl : TE) : TI := fun σ H R => tl σ H fun x H1 => ∃ a, x = .ref a ∧ (∃ xs, SqL K H1 a xs) ∧ R (Itl K a) H1
noncomputable def iTup (K : PySem.W.Frag) (tl : TE) : TI := fun σ H R => tl σ H fun x H1 => ∃ a, x = .ref a ∧ (∃ xs, SqT K H1 a xs) ∧ R (Itt K a) H1
theorem range_it {pins : List (Addr × Obj)} {σ : St} {H : Hp} {s : Shared} {R : It → Hp → Prop} {E : Value → Shared → Prop} {lo hi : Int} {t u v : Tok} {tk : Nat} (I : Inv X pins σ H s) (h1 : -(2 ^ 62) ≤ lo) (h2 : lo < 2 ^ 62) (h3 : -(2 ^ 62) ≤ hi) (h4 : hi < 2 ^ 62)
    (q : R (Itr lo (hi - lo).toNat) H) : wpAny (model X.prog X.w) X.A (pyIter (.ref s.heap.objs.size)) (PIE X pins σ tg R) E { s with heap := s.heap.push { cls := .type "range", data := .fields #[.int lo t, .int hi u, .int 1 v] }, toks := tk } := by
  refine wpAny_pyIter_range (IsRange.new ..) (small_one h1 h2 h3 h4) ?_
  have I1 : Inv X pins σ H { s with heap := s.heap.push { cls := .type "range", data := .fields #[.int lo t, .int hi u, .int 1 v] }, toks := tk } := I.kept fun b o e => Heap.get?_push_of_some _ e
  refine ⟨(s.heap.push { cls := .type "range", data := .fields #[.int lo t, .int hi u, .int 1 v] }).objs.size, [(s.heap.push { cls := .type "range", data := .fields #[.int lo t, .int hi u, .int 1 v] }).objs.size], _, _, H, rfl,
    I1.kept (t' := tk) fun b o e => Heap.get?_push_of_some _ e, turn_range _ lo (hi - lo).toNat, ?_, fun b hb => ?_, q⟩
  · have e1 : lo + ((0 : Nat) : Int) * 1 = lo := by simp
    have e2 : (((hi - lo).toNat : Nat) : Int) - ((0 : Nat) : Int) = Builtin.Range.rangeSize lo hi 1 := by rw [rangeSize_one]; split <;> omega
    show IsRangeIter _ _ (lo + ((0 : Nat) : Int) * 1) ((((hi - lo).toNat : Nat) : Int) - ((0 : Nat) : Int)) 1
    rw [e1, e2]
    exact Heap.get?_push_size _ rfl
  · have e : b = (s.heap.push { cls := .type "range", data := .fields #[.int lo t, .int hi u, .int 1 v] }).objs.size := by simpa using hb
    subst e
    exact I1.fpOk (Nat.le_refl _) (I1.hok.fresh (Nat.le_refl _))
noncomputable def iRng1 (ta : TA) : TI := fun σ H R => ta σ H fun vs H1 => ∃ j : Int, vs = [.int j] ∧ -(2 ^ 62) ≤ j ∧ j < 2 ^ 62 ∧ R (Itr 0 j.toNat) H1
noncomputable def iRng2 (ta : TA) : TI := fun σ H R => ta σ H fun vs H1 => ∃ i j : Int, vs = [.int i, .int j] ∧ (-(2 ^ 62) ≤ i ∧ i < 2 ^ 62 ∧ -(2 ^ 62) ≤ j ∧ j < 2 ^ 62) ∧ R (Itr i (j - i).toNat) H1
theorem pi_range1 {a : Expr} {ta : TA} {p pos : Pos} (hg : Gl X "range") (hm : X.mg "range" = none) (ha : PA X [a] ta) (hs : starEach [a] X.env = [(false, eval a X.env)] := by rfl) : PI X tg (.Call (.Name "range" p) [a] [] pos) (iRng1 ta) := by
  intro pins s σ H R I h
  refine Call_ (ld_blt I hg hm boot_range (PyProof.Rows.callWith_type1 (thn (ha pos pins s σ H _ I h) fun us s1 ⟨vs, H1, I1, r1, q1⟩ => ?_) hs rfl))
  obtain ⟨j, e, q1, q2, q⟩ := q1
  subst e
  cases r1 with
  | cons r rr =>
    cases rr
    obtain ⟨t, rfl⟩ := r
    exact call_range_1 (range_it I1 (by omega) (by omega) q1 q2 (by simpa using q))
noncomputable def tFor (wi : TI) (g : TG) (tb : TS) : TS := fun D σ H => wi σ H fun J H1 => ∃ W : Nat → Nat → St → Hp → Prop, (∃ m, W 0 m σ H1) ∧ ∀ i m σ H, W i m σ H →
  (J.stop i H ∧ D.nx σ H) ∨ (J.go i H ∧ ∃ N : St → Hp → Prop, (∀ σ' H', N σ' H' → ∃ m', m' < m ∧ W (i + 1) m' σ' H') ∧ ∀ x H', J.yld i H x H' → g x σ H' fun σ2 H2 => tb { D with nx := N, ct := N, bk := D.nx } σ2 H2)
noncomputable def pinsAt (fp : List Addr) (h : Heap) : List (Addr × Obj) := fp.filterMap fun b => (h.get? b).map fun o => (b, o)
theorem mem_pinsAt {fp : List Addr} {h : Heap} {b : Addr} {o : Obj} (hb : b ∈ fp) (e : h.get? b = some o) : (b, o) ∈ pinsAt fp h := List.mem_filterMap.mpr ⟨b, hb, by rw [e]; rfl⟩
theorem of_pinsAt {fp : List Addr} {h : Heap} {p : Addr × Obj} (hp : p ∈ pinsAt fp h) : p.1 ∈ fp ∧ h.get? p.1 = some p.2 := by
  obtain ⟨b, hb, e⟩ := List.mem_filterMap.mp hp
  cases q : h.get? b with
  | none => rw [q] at e; cases e
  | some o =>
    rw [q] at e
    have e' : (b, o) = p := Option.some.inj e
    subst e'
    exact ⟨hb, q⟩
theorem Inv.pinned {pins : List (Addr × Obj)} {σ : St} {H : Hp} {s : Shared} {fp : List Addr} (I : Inv X pins σ H s) (hf : ∀ b ∈ fp, FpOk X pins H b) (ho : ∀ b ∈ fp, ∃ o, s.heap.get? b = some o ∧ ∀ v, o.data ≠ .cell v) : Inv X (pins ++ pinsAt fp s.heap) σ H s :=
  I.pins_of fun p hp => (List.mem_append.mp hp).elim (fun z => I.pin p (List.mem_append_right _ z)) fun z => by
    obtain ⟨hb, e⟩ := of_pinsAt z
    obtain ⟨f0, f1, f2, _⟩ := hf p.1 hb
    obtain ⟨o, e', d⟩ := ho p.1 hb
    rw [e] at e'; cases e'
    exact ⟨e, f0, f1, f2, d⟩
theorem Inv.unpinned {pins pl : List (Addr × Obj)} {σ : St} {H : Hp} {s : Shared} (I : Inv X (pins ++ pl) σ H s) : Inv X pins σ H s := I.pins_of fun p hp => I.pin p (List.mem_append_right _ (List.mem_append_left _ hp))
theorem ps_for {iter : Expr} {body : List Stmt} {wi : TI} {g : TG} {tb : TS} {pos : Pos} (hp : PassesOwn (model X.prog X.w) X.A X.env X.xe) (hc : X.calm = true) (hi : PI X tg iter wi) (hg : PG X tg g) (hb : PSs X body tb)
    (hs : ∀ x, foldedSetIterable iter X.env x = pure x := by intro _; rfl) : PS X (.For tg iter body [] pos) (tFor wi g tb) := by
  intro pins s σ H D I h
  refine wpAny_For (thn (hi pins s σ H _ I h) fun v s1 h1 => thn h1 fun itv s2 h2 => ?_) hs
  obtain ⟨it, fp, tn, J, H2, e, I2, T, st2, f2, W, ⟨m0, w0⟩, turn⟩ := h2
  subst e
  have stat : ∀ {H' : Hp}, (∀ b ∈ fp, H' b = none) → ∀ b ∈ fp, FpOk X pins H' b := fun hn b hb => ⟨hn b hb, (f2 b hb).2⟩
  refine codeAny_forLoop_any (fun n s' => ∃ i σ' H', Inv X pins σ' H' s' ∧ tn i s'.heap ∧ (∀ b ∈ fp, H' b = none) ∧ W i n σ' H') ?_ m0 ⟨0, σ, H2, I2, st2, fun b hb => (f2 b hb).1, w0⟩
  rintro n s3 ⟨i, σ3, H3, I3, st3, fr3, w3⟩
  rcases turn i n σ3 H3 w3 with ⟨stop, qn⟩ | ⟨go, N, hN, step⟩
  · refine wpAny_passesOwn hp (thn (T.done X rfl rfl rfl hc i pins s3 σ3 H3 X.xe I3 (stat fr3) st3 stop) fun r s4 ⟨hr, I4⟩ => ?_)
    subst hr
    exact wpAny_execs_nil ⟨σ3, H3, I4, qn⟩
  · refine wpAny_passesOwn hp (thn (T.item X rfl rfl rfl hc i pins s3 σ3 H3 X.xe I3 (stat fr3) st3 go) fun r s4 ⟨u, hr, h4⟩ => ?_)
    subst hr
    refine wpAny_passesOwn hp (thn h4 fun _ s5 ⟨x, H5, I5, r5, y5, st5, fr5⟩ => ?_)
    have I5' := I5.pinned (stat fr5) (T.obj _ _ st5)
    refine wpAny_passesOwn hp (thn (hg _ s5 σ3 H5 x u _ I5' r5 (step x H5 y5)) fun _ s6 ⟨σ6, H6, I6, q6⟩ => ?_)
    refine wpAny_passesOwn hp (thn (hb _ s6 σ6 H6 _ I6 q6) fun f s7 q7 => ?_)
    have again : ∀ {σ7 : St} {H7 : Hp}, Inv X (pins ++ pinsAt fp s5.heap) σ7 H7 s7 → N σ7 H7 → ∃ m, m < n ∧ ∃ i σ' H', Inv X pins σ' H' s7 ∧ tn i s7.heap ∧ (∀ b ∈ fp, H' b = none) ∧ W i m σ' H' := fun {σ7 H7} I7 n7 => by
      obtain ⟨m', hm, w7⟩ := hN σ7 H7 n7
      refine ⟨m', hm, i + 1, σ7, H7, I7.unpinned, T.keep _ _ _ st5 fun b hb o e => (I7.pin (b, o) (List.mem_append_right _ (List.mem_append_right _ (mem_pinsAt hb e)))).1, fun b hb => ?_, w7⟩
      obtain ⟨o, e, d⟩ := T.obj _ _ st5 b hb
      exact (I7.pin (b, o) (List.mem_append_right _ (List.mem_append_right _ (mem_pinsAt hb e)))).2.1
    cases f with
    | next => obtain ⟨σ7, H7, I7, n7⟩ := q7; exact again I7 n7
    | cont => obtain ⟨σ7, H7, I7, n7⟩ := q7; exact again I7 n7
    | brk => obtain ⟨σ7, H7, I7, q7⟩ := q7; exact ⟨σ7, H7, I7.unpinned, q7⟩
    | ret v => obtain ⟨x7, σ7, H7, I7, r7, q7⟩ := q7; exact ⟨x7, σ7, H7, I7.unpinned, r7, q7⟩
end
end L2
namespace L2
open PySem PySem.Spec PyProof.Rows
noncomputable abbrev R2 := V → V → Hp → VK → Prop
noncomputable def OpR (X : Cx) (f : Value → Value → Sem Value) (r : R2) : Prop :=
  ∀ (pins : List (Addr × Obj)) (s : Shared) (σ : St) (H : Hp) (x y : V) (v u : Value) (Q : VK), Inv X pins σ H s → RelV x v → RelV y u → r x y H Q →
    wpAny (model X.prog X.w) X.A (f v u) (EP X pins σ Q) X.xe s
noncomputable def UnR (X : Cx) (f : Value → Sem Value) (r : V → Hp → VK → Prop) : Prop :=
  ∀ (pins : List (Addr × Obj)) (s : Shared) (σ : St) (H : Hp) (x : V) (v : Value) (Q : VK), Inv X pins σ H s → RelV x v → r x H Q →
    wpAny (model X.prog X.w) X.A (f v) (EP X pins σ Q) X.xe s
noncomputable def CallR (X : Cx) (f : Value) (r : List V → Hp → VK → Prop) : Prop :=
  ∀ (pins : List (Addr × Obj)) (s : Shared) (σ : St) (H : Hp) (xs : List V) (us : List Value) (Q : VK), Inv X pins σ H s → Vals xs us → r xs H Q →
    wpAny (model X.prog X.w) X.A (call f us) (EP X pins σ Q) X.xe s
noncomputable def TruR (X : Cx) (r : V → Hp → (Bool → Hp → Prop) → Prop) : Prop :=
  ∀ (pins : List (Addr × Obj)) (s : Shared) (σ : St) (H : Hp) (x : V) (v : Value) (Q : Bool → Hp → Prop), Inv X pins σ H s → RelV x v → r x H Q →
    wpAny (model X.prog X.w) X.A (truthy v) (TP X pins σ Q) X.xe s
noncomputable def tOp (r : R2) (ta tb : TE) : TE := fun σ H Q => ta σ H fun x H1 => tb σ H1 fun y H2 => r x y H2 Q
noncomputable def tUn (r : V → Hp → VK → Prop) (ta : TE) : TE := fun σ H Q => ta σ H fun x H1 => r x H1 Q
noncomputable def rI (C : Int → Int → Prop) (g : Int → Int → V) : R2 := fun x y H Q => ∃ i j, x = .int i ∧ y = .int j ∧ C i j ∧ Q (g i j) H
noncomputable def rI0 (g : Int → Int → V) : R2 := fun x y H Q => ∃ i j, x = .int i ∧ y = .int j ∧ Q (g i j) H
noncomputable def rU (g : Int → V) : V → Hp → VK → Prop := fun x H Q => ∃ i, x = .int i ∧ Q (g i) H
section
variable {X : Cx} {a b c : Expr} {ta tb tc : TE} {pos : Pos}
theorem binT (ha : PE X a ta) (hb : PE X b tb) {pins : List (Addr × Obj)} {s : Shared} {σ : St} {H : Hp} {R : V → V → Hp → Prop} (I : Inv X pins σ H s)
    (h : ta σ H fun x H1 => tb σ H1 fun y H2 => R x y H2) {Q : Value → Shared → Prop} {f : Value → Value → Sem Value}
    (hf : ∀ v u s2 x y H2, Inv X pins σ H2 s2 → RelV x v → RelV y u → R x y H2 → wpAny (model X.prog X.w) X.A (f v u) Q X.xe s2) :
    wpAny (model X.prog X.w) X.A (eval a X.env) (fun v s₁ => wpAny (model X.prog X.w) X.A (eval b X.env) (fun u s₂ => wpAny (model X.prog X.w) X.A (f v u) Q X.xe s₂) X.xe s₁) X.xe s := by
  refine thn (ha pins s σ H _ I h) fun v s1 ⟨x, H1, I1, r1, q1⟩ => ?_
  refine thn (hb pins s1 σ H1 _ I1 q1) fun u s2 ⟨y, H2, I2, r2, q2⟩ => ?_
  exact hf v u s2 x y H2 I2 r1 r2 q2
theorem pe_op {op : Operator} {r : R2} (ho : OpR X (binaryOp op) r) (ha : PE X a ta) (hb : PE X b tb) : PE X (.BinOp a op b pos) (tOp r ta tb) := by
  intro pins s σ H Q I h
  exact wpAny_BinOp (binT ha hb I h fun v u s2 x y H2 I2 rx ry q => ho pins s2 σ H2 x y v u Q I2 rx ry q)
theorem pe_un {op : UnaryOp} {r : V → Hp → VK → Prop} (ho : UnR X (unaryOp op) r) (ha : PE X a ta) : PE X (.UnaryOp op a pos) (tUn r ta) := by
  intro pins s σ H Q I h
  exact UnaryOp_ (thn (ha pins s σ H _ I h) fun v s1 ⟨x, H1, I1, r1, q1⟩ => ho pins s1 σ H1 x v Q I1 r1 q1)
theorem opI {f : Value → Value → Sem Value} {C : Int → Int → Prop} {g : Int → Int → Int}
    (rule : ∀ (i j : Int) (t u : Tok) (s : Shared) (Q : Value → Shared → Prop) (E : Value → Shared → Prop), C i j → Q (.int (g i j) s.toks) { s with toks := s.toks + 1 } → wpAny (model X.prog X.w) X.A (f (.int i t) (.int j u)) Q E s) :
    OpR X f (rI C fun i j => .int (g i j)) := by
  intro pins s σ H x y v u Q I rx ry h
  obtain ⟨i, j, rfl, rfl, hc, q⟩ := h
  obtain ⟨t, rfl⟩ := rx
  obtain ⟨t', rfl⟩ := ry
  exact rule i j t t' s _ _ hc ⟨.int (g i j), H, I.tok _, ⟨_, rfl⟩, q⟩
theorem opI0 {f : Value → Value → Sem Value} {g : Int → Int → Int}
    (rule : ∀ (i j : Int) (t u : Tok) (s : Shared) (Q : Value → Shared → Prop) (E : Value → Shared → Prop), Q (.int (g i j) s.toks) { s with toks := s.toks + 1 } → wpAny (model X.prog X.w) X.A (f (.int i t) (.int j u)) Q E s) :
    OpR X f (rI0 fun i j => .int (g i j)) := by
  intro pins s σ H x y v u Q I rx ry h
  obtain ⟨i, j, rfl, rfl, q⟩ := h
  obtain ⟨t, rfl⟩ := rx
  obtain ⟨t', rfl⟩ := ry
  exact rule i j t t' s _ _ ⟨.int (g i j), H, I.tok _, ⟨_, rfl⟩, q⟩
theorem opB0 {f : Value → Value → Sem Value} {g : Int → Int → Bool}
    (rule : ∀ (i j : Int) (t u : Tok) (s : Shared) (Q : Value → Shared → Prop) (E : Value → Shared → Prop), Q (.bool (g i j)) s → wpAny (model X.prog X.w) X.A (f (.int i t) (.int j u)) Q E s) :
    OpR X f (rI0 fun i j => .bl (g i j)) := by
  intro pins s σ H x y v u Q I rx ry h
  obtain ⟨i, j, rfl, rfl, q⟩ := h
  obtain ⟨t, rfl⟩ := rx
  obtain ⟨t', rfl⟩ := ry
  exact rule i j t t' s _ _ ⟨.bl (g i j), H, I, rfl, q⟩
noncomputable def CDiv (i j : Int) : Prop := 0 < j ∧ j < 1073741824
noncomputable def CDivN (i j : Int) : Prop := j ≠ 0 ∧ j.natAbs < 1073741824
noncomputable def CPow (i j : Int) : Prop := 0 ≤ j ∧ j ≤ 1000000 ∧ i.natAbs < 2 ^ 64
noncomputable def CMul (i j : Int) : Prop := (-(2 ^ 64) < i ∧ i < 2 ^ 64) ∨ (-(2 ^ 64) < j ∧ j < 2 ^ 64)
theorem CMul.ok {i j : Int} (h : CMul i j) : IntMulOk i j := by
  rcases h with ⟨h1, h2⟩ | ⟨h1, h2⟩
  · exact .of_left (intBits_le_64 h1 h2)
  · exact .of_right (intBits_le_64 h1 h2)
theorem op_add : OpR X (binaryOp .Add) (rI0 fun i j => .int (i + j)) := opI0 fun _ _ _ _ _ _ _ q => add_int q
theorem op_sub : OpR X (binaryOp .Sub) (rI0 fun i j => .int (i - j)) := opI0 fun _ _ _ _ _ _ _ q => sub_int q
theorem op_modN : OpR X (binaryOp .Mod) (rI (fun _ j => j ≠ 0) fun i j => .int (i.fmod j)) := opI fun _ _ _ _ _ _ _ hc q => mod_int' hc q
theorem op_pow : OpR X (binaryOp .Pow) (rI CPow fun i j => .int (i ^ j.toNat)) := opI fun _ _ _ _ _ _ _ hc q => pow_int_small hc.1 hc.2.1 hc.2.2 q
theorem unI {f : Value → Sem Value} {g : Int → Int}
    (rule : ∀ (i : Int) (t : Tok) (s : Shared) (Q : Value → Shared → Prop) (E : Value → Shared → Prop), Q (.int (g i) s.toks) { s with toks := s.toks + 1 } → wpAny (model X.prog X.w) X.A (f (.int i t)) Q E s) :
    UnR X f (rU fun i => .int (g i)) := by
  intro pins s σ H x v Q I rx h
  obtain ⟨i, rfl, q⟩ := h
  obtain ⟨t, rfl⟩ := rx
  exact rule i t s _ _ ⟨.int (g i), H, I.tok _, ⟨_, rfl⟩, q⟩
theorem un_neg : UnR X (unaryOp .USub) (rU fun i => .int (-i)) := unI fun _ _ _ _ _ q => neg_int q
end
noncomputable def scal : V → V → Bool
  | .non, .non => true | .non, .int _ => true | .int _, .non => true | .non, .bl _ => true | .bl _, .non => true | .non, .str _ => true | .str _, .non => true
  | .int _, .int _ => true | .bl _, .bl _ => true | .str _, .str _ => true | .byt _, .byt _ => true
  | .int _, .str _ => true | .str _, .int _ => true | .bl _, .str _ => true | .str _, .bl _ => true
  | _, _ => false
noncomputable def rEq : R2 := fun x y H Q => scal x y = true ∧ Q (.bl (decide (x = y))) H
noncomputable def rNe : R2 := fun x y H Q => scal x y = true ∧ Q (.bl (!decide (x = y))) H
section
variable {X : Cx} {a b c : Expr} {ta tb tc : TE} {pos : Pos}
theorem fin_bl {pins : List (Addr × Obj)} {σ : St} {H : Hp} {s : Shared} {Q : VK} {k k' : Bool} (I : Inv X pins σ H s) (q : Q (.bl k) H) (e : k = k') : EP X pins σ Q (.bool k') s := by
  subst e
  exact ⟨.bl k, H, I, rfl, q⟩
theorem op_lt : OpR X (compareOp .Lt) (rI0 fun i j => .bl (decide (i < j))) := opB0 fun _ _ _ _ _ _ _ q => lt_int q
theorem op_le : OpR X (compareOp .LtE) (rI0 fun i j => .bl (decide (i ≤ j))) := opB0 fun _ _ _ _ _ _ _ q => le_int q
theorem op_gt : OpR X (compareOp .Gt) (rI0 fun i j => .bl (decide (j < i))) := opB0 fun _ _ _ _ _ _ _ q => gt_int q
theorem op_ge : OpR X (compareOp .GtE) (rI0 fun i j => .bl (decide (j ≤ i))) := opB0 fun _ _ _ _ _ _ _ q => ge_int q
theorem op_in_str : OpR X (compareOp .In) (fun x y H Q => ∃ i j, x = .str i ∧ y = .str j ∧ Q (.bl (!(Builtin.Str.occurrences j i 0 j.length 1).isEmpty)) H) := by
  intro pins s σ H x y v u Q I rx ry h
  obtain ⟨i, j, rfl, rfl, q⟩ := h
  obtain ⟨t, rfl⟩ := rx
  obtain ⟨t', rfl⟩ := ry
  exact in_str (fin_bl I q rfl)
noncomputable def isObj : HO → Bool
  | .lst _ => true
  | .ins _ _ _ => true
  | _ => false
theorem pe_cmpR {op : CmpOp} {r : R2} (ho : OpR X (compareOp op) r) (ha : PE X a ta) (hb : PE X b tb) (hm : behindInMarks op b = false) : PE X (.Compare a [op] [b] pos) (tOp r ta tb) := by
  intro pins s σ H Q I h
  exact wpAny_Compare1 (binT ha hb I h fun v u s2 x y H2 I2 rx ry q => ho pins s2 σ H2 x y v u Q I2 rx ry q) hm
noncomputable def tTest (t : TE) : TT := fun σ H Q => t σ H fun x H' => ∃ k, x = .bl k ∧ Q k H'
theorem pt_cmpR {op : CmpOp} {r : R2} (ho : OpR X (compareOp op) r) (ha : PE X a ta) (hb : PE X b tb) (hm : behindInMarks op b = false) : PT X (.Compare a [op] [b] pos) (tTest (tOp r ta tb)) := by
  intro pins s σ H Q I h
  refine wpAny_isTrue_Compare1 (thn (ha pins s σ H _ I h) fun v s1 ⟨x, H1, I1, r1, q1⟩ => thn (hb pins s1 σ H1 _ I1 q1) fun u s2 ⟨y, H2, I2, r2, q2⟩ =>
    thn (ho pins s2 σ H2 x y v u _ I2 r1 r2 q2) fun c s3 ⟨z, H3, I3, r3, k, e, q3⟩ => ?_) hm
  subst e
  cases r3
  exact wpAny_truthy_bool ⟨H3, I3, q3⟩
noncomputable def tChain (r r' : R2) (ta tb tc : TE) : TE := fun σ H Q => ta σ H fun x H1 => tb σ H1 fun y H2 => r x y H2 fun z H3 => ∃ k, z = .bl k ∧
  (if k = true then tc σ H3 fun w' H4 => r' y w' H4 Q else Q (.bl false) H3)
theorem pe_chain {op op' : CmpOp} {r r' : R2} (ho : OpR X (compareOp op) r) (ho' : OpR X (compareOp op') r') (ha : PE X a ta) (hb : PE X b tb) (hc : PE X c tc)
    (hm : lastMarks [op, op'] [b, c] = false := by with_unfolding_all rfl) : PE X (.Compare a [op, op'] [b, c] pos) (tChain r r' ta tb tc) := by
  intro pins s σ H Q I h
  refine Compare_chain (thn (ha pins s σ H _ I h) fun v s1 ⟨x, H1, I1, r1, q1⟩ => chain_link (thn (hb pins s1 σ H1 _ I1 q1) fun u s2 ⟨y, H2, I2, r2, q2⟩ =>
    thn (ho pins s2 σ H2 x y v u _ I2 r1 r2 q2) fun d s3 ⟨z, H3, I3, r3, k, e, q3⟩ => ?_)) hm
  subst e
  cases r3
  refine wpAny_truthy_bool ?_
  cases k with
  | false => exact ite_ff ⟨.bl false, H3, I3, rfl, q3⟩
  | true => exact ite_tt (chain_last (thn (hc pins s3 σ H3 _ I3 q3) fun w' s4 ⟨z', H4, I4, r4, q4⟩ => ho' pins s4 σ H4 y z' u w' Q I4 r2 r4 q4))
theorem pt_chain {op op' : CmpOp} {r r' : R2} (ho : OpR X (compareOp op) r) (ho' : OpR X (compareOp op') r') (ha : PE X a ta) (hb : PE X b tb) (hc : PE X c tc)
    (hm : lastMarks [op, op'] [b, c] = false := by with_unfolding_all rfl) : PT X (.Compare a [op, op'] [b, c] pos) (tTest (tChain r r' ta tb tc)) := by
  intro pins s σ H Q I h
  refine isTrue_chain (thn (ha pins s σ H _ I h) fun v s1 ⟨x, H1, I1, r1, q1⟩ => test_link (thn (hb pins s1 σ H1 _ I1 q1) fun u s2 ⟨y, H2, I2, r2, q2⟩ =>
    thn (ho pins s2 σ H2 x y v u _ I2 r1 r2 q2) fun d s3 ⟨z, H3, I3, r3, k, e, q3⟩ => ?_)) hm
  subst e
  cases r3
  refine wpAny_truthy_bool ?_
  cases k with
  | false =>
    obtain ⟨k', e', q'⟩ := q3
    cases e'
    exact ite_ff ⟨H3, I3, q'⟩
  | true =>
    refine ite_tt (test_last (thn (hc pins s3 σ H3 _ I3 q3) fun w' s4 ⟨z', H4, I4, r4, q4⟩ => thn (ho' pins s4 σ H4 y z' u w' _ I4 r2 r4 q4) fun d' s5 ⟨z2, H5, I5, r5, k2, e2, q5⟩ => ?_))
    subst e2
    cases r5
    exact wpAny_truthy_bool ⟨H5, I5, q5⟩
noncomputable def TruV (K : PySem.W.Frag) (x : V) (H : Hp) (k : Bool) : Prop :=
  match x with
  | .non => k = false
  | .bl b => k = b
  | .int i => k = (i != 0)
  | .str y => y.length ≤ sizeLine ∧ k = ((y.length : Int) != 0)
  | .byt y => y.size ≤ sizeLine ∧ k = ((y.size : Int) != 0)
  | .ref p => (∃ xs, SqL K H p xs ∧ k = !xs.isEmpty) ∨ (∃ xs, SqT K H p xs ∧ k = !xs.isEmpty) ∨ ∃ kvs, H p = some (.dK kvs) ∧ k = !kvs.isEmpty
  | _ => False
theorem line63 : (sizeLine : Nat) < 2 ^ 63 := by rw [sizeLine_eq]; decide
theorem op_add_str : OpR X (binaryOp .Add) (fun x y H Q => ∃ i j, x = .str i ∧ y = .str j ∧ i.length + j.length ≤ sizeLine ∧ Q (.str (i ++ j)) H) := by
  intro pins s σ H x y v u Q I rx ry h
  obtain ⟨i, j, rfl, rfl, hz, q⟩ := h
  obtain ⟨t, rfl⟩ := rx
  obtain ⟨t', rfl⟩ := ry
  exact add_str (fun t' tk => ⟨.str (i ++ j), H, I.tok _, ⟨_, rfl⟩, q⟩) hz
noncomputable def PlainIxT (b : Expr) : Prop := ∀ o i, subscripted b false o i = operate [o, i] (getItem o i)
theorem vals1 {x : V} {us : List Value} (r : Vals [x] us) : ∃ u, us = [u] ∧ RelV x u := by
  cases r with
  | cons r1 r2 => cases r2; exact ⟨_, rfl, r1⟩
theorem vals2 {x y : V} {us : List Value} (r : Vals [x, y] us) : ∃ u w', us = [u, w'] ∧ RelV x u ∧ RelV y w' := by
  cases r with
  | cons r1 r2 =>
    cases r2 with
    | cons r3 r4 => cases r4; exact ⟨_, _, rfl, r1, r3⟩
theorem call_abs : CallR X (.builtin "abs") (fun xs H Q => ∃ i, xs = [.int i] ∧ Q (.int (if i < 0 then -i else i)) H) := by
  intro pins s σ H xs us Q I r h
  obtain ⟨i, rfl, q⟩ := h
  obtain ⟨u, rfl, t, rfl⟩ := vals1 r
  exact call_abs_int fun u tk => ⟨.int (if i < 0 then -i else i), H, I.tok _, ⟨_, rfl⟩, q⟩
theorem call_max2 (hc : X.calm = true) : CallR X (.builtin "max") (fun xs H Q => ∃ i j, xs = [.int i, .int j] ∧ Q (.int (if j > i then j else i)) H) := by
  intro pins s σ H xs us Q I r h
  obtain ⟨i, j, rfl, q⟩ := h
  obtain ⟨u, w', rfl, ⟨t, rfl⟩, ⟨t', rfl⟩⟩ := vals2 r
  refine max_two_ints (I.ok.hd hc) fun h' tk k => ⟨_, H, I.kept k, ?_, q⟩
  by_cases hj : j > i
  · rw [if_pos hj, if_pos hj]; exact ⟨_, rfl⟩
  · rw [if_neg hj, if_neg hj]; exact ⟨_, rfl⟩
theorem call_min2 (hc : X.calm = true) : CallR X (.builtin "min") (fun xs H Q => ∃ i j, xs = [.int i, .int j] ∧ Q (.int (if j < i then j else i)) H) := by
  intro pins s σ H xs us Q I r h
  obtain ⟨i, j, rfl, q⟩ := h
  obtain ⟨u, w', rfl, ⟨t, rfl⟩, ⟨t', rfl⟩⟩ := vals2 r
  refine min_two_ints (I.ok.hd hc) fun h' tk k => ⟨_, H, I.kept k, ?_, q⟩
  by_cases hj : j < i
  · rw [if_pos hj, if_pos hj]; exact ⟨_, rfl⟩
  · rw [if_neg hj, if_neg hj]; exact ⟨_, rfl⟩
theorem call_int1 : CallR X (.type "int") (fun xs H Q => (∃ i, xs = [.int i] ∧ Q (.int i) H) ∨ ∃ k, xs = [.bl k] ∧ Q (.int (if k then 1 else 0)) H) := by
  intro pins s σ H xs us Q I r h
  rcases h with ⟨i, rfl, q⟩ | ⟨k, rfl, q⟩
  · obtain ⟨u, rfl, t, rfl⟩ := vals1 r
    exact call_int_int ⟨.int i, H, I, ⟨_, rfl⟩, q⟩
  · obtain ⟨u, rfl, r1⟩ := vals1 r
    cases r1
    exact call_int_bool ⟨.int (if k then 1 else 0), H, I.tok _, ⟨_, rfl⟩, q⟩
noncomputable def LenV (K : PySem.W.Frag) (x : V) (H : Hp) (n : Nat) : Prop :=
  match x with
  | .str y => y.length ≤ sizeLine ∧ n = y.length
  | .byt y => y.size ≤ sizeLine ∧ n = y.size
  | .ref p => (∃ xs, SqL K H p xs ∧ n = xs.length) ∨ ∃ xs, SqT K H p xs ∧ n = xs.length
  | _ => False
end
end L2
namespace L2
open PySem PySem.Spec PyProof.Rows
structure ObjM (h : Heap) (x dx C : Addr) (mA : Str → Option Value) : Prop where
  obj : h.get? x = some (PySem.W.instObj C dx)
  ns : h.Ns1 dx mA
  ne : dx ≠ x
section
variable {prog : Program} {w : World} {A : Around} {E : Value → Shared → Prop} {s : Shared} {K : PySem.W.Frag} {x dx C f : Addr} {mA : Str → Option Value} {name : Str} {v : Value}
end
noncomputable def putF (f : Str) (v : V) : List (Str × V) → List (Str × V)
  | [] => [(f, v)]
  | (g, x) :: r => if g = f then (g, v) :: r else (g, x) :: putF f v r
theorem RelO.some_of {v : V} {o : Option Value} (r : RelO (some v) o) : ∃ u, o = some u ∧ RelV v u := by
  cases o with
  | none => exact (show False from r).elim
  | some u => exact ⟨u, rfl, r⟩
section
variable {P : Program} {w : World} {H H' : Hp} {h h' : Heap} {a C dx : Addr} {fs fs' : List (Str × V)}
end
structure Cls (K : PySem.W.Frag) (C : Addr) : Prop where
  pg : PySem.W.plainGet K C Str.empty = true
  hd : PySem.W.hasDictIn K C = true
  po : PySem.W.plainOver K C = true
  sa : PySem.W.findIn K (.ref C) "__setattr__" = some (some (.builtin "object.__setattr__"))
noncomputable def NoAttr (K : PySem.W.Frag) (C : Addr) (f : Str) : Prop := PySem.W.findIn K (.ref C) f = some none
structure Con (K : PySem.W.Frag) (C : Addr) (f : Str) (v : V) (u : Value) : Prop where
  at_ : PySem.W.findIn K (.ref C) f = some (some u)
  rel : RelV v u
  get : PySem.W.specialIn K u "__get__" = some none
  cp : PySem.W.copiedNames.contains f = false
structure Meth (K : PySem.W.Frag) (C : Addr) (m : Str) (f : Addr) : Prop where
  at_ : PySem.W.findIn K (.ref C) m = some (some (.ref f))
  fn : PySem.W.isFn K (.ref f) = true
  kp : PySem.W.keepIn K (.ref f) = true
section
variable {X : Cx} {pins : List (Addr × Obj)} {σ : St} {H : Hp} {s : Shared} {a C dx : Addr} {fs : List (Str × V)} {f : Str} {v : V} {A : Around} {E : Value → Shared → Prop}
end
noncomputable def tFld (K : PySem.W.Frag) (ta : TE) (f : Str) : TE := fun σ H Q => ta σ H fun x H1 => ∃ a C dx fs v, x = .ref a ∧ H1 a = some (.ins C dx fs) ∧ Cls K C ∧ NoAttr K C f ∧ fs.lookup f = some v ∧ Q v H1
noncomputable def tCon (K : PySem.W.Frag) (ta : TE) (f : Str) : TE := fun σ H Q => ta σ H fun x H1 => ∃ a C dx fs v u, x = .ref a ∧ H1 a = some (.ins C dx fs) ∧ Cls K C ∧ Con K C f v u ∧ fs.lookup f = none ∧ Q v H1
noncomputable def sFld (K : PySem.W.Frag) (ta tv : TE) (f : Str) : TS := fun D σ H => tv σ H fun y H1 => ta σ H1 fun x H2 => ∃ a C dx fs, x = .ref a ∧ H2 a = some (.ins C dx fs) ∧ Cls K C ∧ NoAttr K C f ∧ fs.length < 1000 ∧
  D.nx σ (upd H2 a (.ins C dx (putF f y fs)))
noncomputable def InOp (X : Cx) (op : Operator) (rd : V → V → Hp → VK → Prop) : Prop :=
  ∀ (pins : List (Addr × Obj)) (s : Shared) (σ : St) (H : Hp) (x y : V) (u v : Value) (Q : VK), Inv X pins σ H s → RelV x u → RelV y v → rd x y H Q → wpAny (model X.prog X.w) X.A (inplaceOp op u v) (EP X pins σ Q) X.xe s
noncomputable def sFldAug (K : PySem.W.Frag) (ta tv : TE) (rd : V → V → Hp → VK → Prop) (f : Str) : TS := fun D σ H => ta σ H fun x H1 => ∃ a C dx fs v, x = .ref a ∧ H1 a = some (.ins C dx fs) ∧ Cls K C ∧ NoAttr K C f ∧ fs.lookup f = some v ∧
  tv σ H1 fun y H2 => rd v y H2 fun z H3 => ∃ dx' fs', H3 a = some (.ins C dx' fs') ∧ fs'.length < 1000 ∧ D.nx σ (upd H3 a (.ins C dx' (putF f z fs')))
section
variable {X : Cx} {o e value : Expr} {f : Str} {pos pos' tpos : Pos} {ta tv : TE}
noncomputable def rAdd : V → V → Hp → VK → Prop := fun x y H Q => ∃ i j, x = .int i ∧ y = .int j ∧ Q (.int (i + j)) H
noncomputable def rSub : V → V → Hp → VK → Prop := fun x y H Q => ∃ i j, x = .int i ∧ y = .int j ∧ Q (.int (i - j)) H
end
section
variable {X : Cx} {pins : List (Addr × Obj)} {σ : St} {H : Hp} {s : Shared} {A : Around} {E : Value → Shared → Prop} {Q : Value → Shared → Prop} {c : Value} {b : Bool}
inductive TyOf (K : PySem.W.Frag) (H : Hp) : V → Value → Prop where
  | non : TyOf K H .non (.type "NoneType")
  | bl (x : Bool) : TyOf K H (.bl x) (.type "bool")
  | int (i : Int) : TyOf K H (.int i) (.type "int")
  | str (x : Str) : TyOf K H (.str x) (.type "str")
  | flt (x : UInt64) : TyOf K H (.flt x) (.type "float")
  | lst {a : Addr} {xs : List V} (e : H a = some (.lst xs)) : TyOf K H (.ref a) (.type "list")
  | frz {a : Addr} {o : Obj} {xs : List V} (e : H a = some (.frz o (.lst xs))) : TyOf K H (.ref a) (.type "list")
  | tup {a : Addr} {xs : List V} (e : H a = some (.tup xs)) : TyOf K H (.ref a) (.type "tuple")
  | dK {a : Addr} {kvs : List (Key × V)} (e : H a = some (.dK kvs)) : TyOf K H (.ref a) (.type "dict")
  | dT {a : Addr} {kvs : List (List Key × V)} (e : H a = some (.dT kvs)) : TyOf K H (.ref a) (.type "dict")
  | ins {a C dx : Addr} {fs : List (Str × V)} (e : H a = some (.ins C dx fs)) (cl : Cls K C) (ha : PySem.W.findIn K (.ref C) "__class__" = some (some (.builtin "object.__class__")))
      (hn : PySem.W.specialIn K (.builtin "object.__class__") "__get__" = some (some (.builtin "getset_descriptor.__get__"))) (htk : PySem.W.takesIn K (.builtin "object.__class__") = some true)
      (hm : PySem.W.mroIn K C (.type "object") = some true) : TyOf K H (.ref a) (.ref C)
end
end L2
namespace L2
open PySem PySem.Spec PyProof.Rows
structure Room (k : Nat) (A : Around) : Prop where
  hd : A.handled = none
  dp : A.depth + 3 * k + 5 < recursionLimit
  un : A.units + 16 * k + 200 < cLine
theorem Room.mono {j k : Nat} {A : Around} (r : Room k A) (h : j ≤ k) : Room j A := ⟨r.hd, by have := r.dp; omega, by have := r.un; omega⟩
theorem Room.deeper {k : Nat} {A : Around} (r : Room (k + 1) A) (env : Env) : Room k (A.deeper env) :=
  ⟨r.hd, by have := r.dp; show A.depth + 1 + 3 * k + 5 < _; omega, by have := r.un; show A.units + 3 + 16 * k + 200 < _; omega⟩
theorem Room.depth {k : Nat} {A : Around} (r : Room k A) : A.depth < recursionLimit := by have := r.dp; omega
noncomputable def tNil : TA := fun _ H Q => Q [] H
noncomputable def tCons (ta : TE) (tr : TA) : TA := fun σ H Q => ta σ H fun x H1 => tr σ H1 fun xs H2 => Q (x :: xs) H2
section
variable {X : Cx} {e : Expr} {es : List Expr} {te : TE} {t : TA} {pos : Pos}
theorem pa_nil : PA X [] tNil := fun _ _ _ _ H Q I h => Calls.spliced_nil ⟨[], H, I, .nil, h⟩
theorem pa_cons (ha : PE X e te) (hr : PA X es t) (hs : starEach (e :: es) X.env = (false, eval e X.env) :: starEach es X.env := by rfl) : PA X (e :: es) (tCons te t) := by
  intro pos pins s σ H Q I h
  rw [hs]
  show wpAny _ _ (spliced ((false, eval e X.env) :: backTo pos (starEach es X.env))) _ _ s
  refine Calls.spliced_cons (thn (ha pins s σ H _ I h) fun u s1 ⟨x, H1, I1, r1, q1⟩ => ?_)
  exact thn (hr pos pins s1 σ H1 _ I1 q1) fun us s2 ⟨xs, H2, I2, r2, q2⟩ => ⟨x :: xs, H2, I2, .cons r1 r2, q2⟩
noncomputable def tTup (t : TA) : TE := fun σ H Q => t σ H fun xs H1 => xs.length ≤ sizeLine ∧ ∀ p, H1 p = none → Q (.ref p) (upd H1 p (.tup xs))
noncomputable def tLst (t : TA) : TE := fun σ H Q => t σ H fun xs H1 => xs.length ≤ sizeLine ∧ ∀ p, H1 p = none → Q (.ref p) (upd H1 p (.lst xs))
theorem pe_tup {x1} (h : PA X es t) : PE X (.Tuple es x1 pos) (tTup t) := by
  intro pins s σ H Q I hq
  refine wpAny_Tuple_spliced (thn (h pos pins s σ H _ I hq) fun us s1 ⟨xs, H1, I1, r, z, q⟩ => ⟨by rw [← r.length]; exact z, ?_⟩)
  have hf : H1 s1.heap.objs.size = none := I1.hok.fresh (Nat.le_refl _)
  refine ⟨.ref s1.heap.objs.size, upd H1 s1.heap.objs.size (.tup xs), I1.laid (t' := s1.toks) (fun b u e => Heap.get?_push_of_some _ e) (Nat.le_refl _) ?_, rfl, q _ hf⟩
  exact ⟨z, us, r, ⟨_, Heap.get?_push_size _ rfl, rfl, _, rfl⟩⟩
theorem pe_lst (h : PA X es t) : PE X (.List es pos) (tLst t) := by
  intro pins s σ H Q I hq
  refine wpAny_List_spliced (thn (h pos pins s σ H _ I hq) fun us s1 ⟨xs, H1, I1, r, z, q⟩ => ⟨by rw [← r.length]; exact z, ?_⟩)
  have hf : H1 s1.heap.objs.size = none := I1.hok.fresh (Nat.le_refl _)
  refine ⟨.ref s1.heap.objs.size, upd H1 s1.heap.objs.size (.lst xs), I1.laid (t' := s1.toks) (fun b u e => Heap.get?_push_of_some _ e) (Nat.le_refl _) ?_, rfl, q _ hf⟩
  exact ⟨z, us, 0, r, Heap.get?_push_size _ rfl⟩
end
noncomputable abbrev Sp := List V → Hp → VK → XK → Prop
noncomputable abbrev CXT := List Env → Hp → Shared → XK → Value → Shared → Prop
structure Env0 (P : Program) (w : World) (K : PySem.W.Frag) (mg : Str → Option Value) (base : Heap) (A : Around) (outer : List Env) (s : Shared) (H : Hp) : Prop where
  frames : A.frames = some outer
  mod : Mod K mg base
  bs : ∀ b o, base.get? b = some o → s.heap.get? b = some o ∧ H b = none
  bsz : base.objs.size ≤ s.heap.objs.size
  funs : s.heap.FunFrames base outer
  frf : ∀ b ∈ frs outer, H b = none
  hok : HOk P w H s.heap
  bare : AllBare s.gens
noncomputable def CE (outer : List Env) (P : Program) (w : World) (H : Hp) (s : Shared) (Q : VK) (u : Value) (s' : Shared) : Prop :=
  ∃ v H', s'.os = s.os ∧ AllBare s'.gens ∧ Un (frs outer) [] H H' s.heap s'.heap ∧ HOk P w H' s'.heap ∧ RelV v u ∧ Q v H'
noncomputable def CR (CX : CXT) (outer : List Env) (P : Program) (w : World) (H : Hp) (s : Shared) (Q : VK) (E : XK) (r : Result) (s' : Shared) : Prop :=
  match r with
  | .ok (.ret u) => CE outer P w H s Q u s'
  | .ok _ => False
  | .error e => CX outer H s E e s'
structure FnOk (P : Program) (w : World) (K : PySem.W.Frag) (mg : Str → Option Value) (base : Heap) (CX : CXT) (k : Nat) (f : Addr) (fd : FuncData) (ps : List Str) (sp : Sp) : Prop where
  len : ∀ vs H Q E, sp vs H Q E → vs.length = ps.length
  run : ∀ (A : Around) (outer : List Env) (s : Shared) (H : Hp) (args : Args) (us : List Value) (vs : List V) (Q : VK) (E : XK), Room k A → Env0 P w K mg base A outer s H → BindsTo s fd args (ps.zip us) → Vals vs us → sp vs H Q E →
    codeAny (model P w) A (.call (.ref f) args) (CR CX outer P w H s Q E) s
theorem FnOk.imp {P : Program} {w : World} {K : PySem.W.Frag} {mg : Str → Option Value} {base : Heap} {CX : CXT} {k : Nat} {f : Addr} {fd : FuncData} {ps : List Str} {sp sp' : Sp} (F : FnOk P w K mg base CX k f fd ps sp)
    (h : ∀ vs H Q E, sp' vs H Q E → sp vs H Q E) : FnOk P w K mg base CX k f fd ps sp' :=
  ⟨fun vs H Q E q => F.len vs H Q E (h _ _ _ _ q), fun A outer s H args us vs Q E hr he hb hv hs => F.run A outer s H args us vs Q E hr he hb hv (h _ _ _ _ hs)⟩
section
variable {X : Cx} {pins : List (Addr × Obj)} {σ : St} {H : Hp} {s s' : Shared}
theorem Inv.env0 (I : Inv X pins σ H s) : Env0 X.prog X.w X.K X.mg X.base X.A X.stack s H :=
  ⟨I.ok.frames, I.ok.mod, I.bs, Nat.le_trans I.ok.bsz I.sz, I.stack, I.stkFree, I.hok, I.bare⟩
theorem Inv.after {Q : VK} {u : Value} (I : Inv X pins σ H s) (h : CE X.stack X.prog X.w H s Q u s') : EP X pins σ Q u s' := by
  obtain ⟨v, H', os, bare, un, hok, r, q⟩ := h
  obtain ⟨hh, g, d, t, os'⟩ := s'
  obtain rfl : os' = s.os := os
  exact ⟨v, H', I.call (h' := hh) (g' := g) (d' := d) (t' := t) (ch := []) un hok bare (fun b z => absurd z (by simp)), r, q⟩
end
noncomputable def tCall (sp : Sp) (dvs : List V) (E : XK) (t : TA) : TE := fun σ H Q => t σ H fun vs H1 => sp (vs ++ dvs) H1 Q E
noncomputable def tMeth (C : Addr) (m : Str) (sp : Sp) (dvs : List V) (E : XK) (ta : TE) (t : TA) : TE := fun σ H Q => ta σ H fun x H1 => ∃ a dx fs, x = .ref a ∧ H1 a = some (.ins C dx fs) ∧ fs.lookup m = none ∧
  t σ H1 fun vs H2 => sp (x :: (vs ++ dvs)) H2 Q E
noncomputable def tMake (C : Addr) (sp : Sp) (dvs : List V) (E : XK) (t : TA) : TE := fun σ H Q => t σ H fun vs H1 => ∀ x dx, H1 x = none → H1 dx = none → dx ≠ x →
  sp (.ref x :: (vs ++ dvs)) (upd (upd H1 dx (.own x)) x (.ins C dx [])) (fun v H2 => v = .non ∧ Q (.ref x) H2) E
noncomputable def Binds (K : PySem.W.Frag) (fd : FuncData) (ps : List Str) (ds : List Value) : Prop :=
  ∀ (s : Shared) (us : List Value), K.In s.heap → (us ++ ds).length = ps.length → BindsTo s fd ⟨us, []⟩ (ps.zip (us ++ ds))
theorem Binds.all {K : PySem.W.Frag} {fd : FuncData} {ps : List Str} (h : ∀ us : List Value, us.length = ps.length → bindArgs fd ⟨us, []⟩ = pure (ps.zip us)) : Binds K fd ps [] := fun s us _ hl => by
  rw [List.append_nil] at hl ⊢
  exact .of_eq (h us hl)
noncomputable def Passes (CX : CXT) (X : Cx) (E : XK) : Prop := ∀ (pins : List (Addr × Obj)) (σ : St) (H : Hp) (s : Shared) (e : Value) (s' : Shared), Inv X pins σ H s → CX X.stack H s E e s' → X.xe e s'
section
variable {X : Cx} {CX : CXT} {k : Nat} {f C : Addr} {fd : FuncData} {ps : List Str} {sp : Sp} {dvs : List V} {ds : List Value} {E : XK} {x m : Str} {p pos apos : Pos} {e o : Expr} {es : List Expr} {ta : TE} {t : TA}
theorem run_fn {pins : List (Addr × Obj)} {σ : St} {H : Hp} {s : Shared} {Q : VK} {us : List Value} {vs : List V} (F : FnOk X.prog X.w X.K X.mg X.base CX k f fd ps sp) (hr : Room k X.A) (hb : Binds X.K fd ps ds) (hd : Vals dvs ds) (hx : Passes CX X E)
    (I : Inv X pins σ H s) (r : Vals vs us) (h : sp (vs ++ dvs) H Q E) : wpAny (model X.prog X.w) X.A (call (.ref f) us) (EP X pins σ Q) X.xe s := by
  have r2 : Vals (vs ++ dvs) (us ++ ds) := r.append hd
  have hl : (us ++ ds).length = ps.length := by rw [← r2.length]; exact F.len _ _ _ _ h
  refine wpAny_call (codeAny_mono (F.run X.A X.stack s H ⟨us, []⟩ (us ++ ds) (vs ++ dvs) Q E hr I.env0 (hb s us I.kIn hl) r2 h) fun r s' hq => ?_)
  cases r with
  | error e => exact hx pins σ H s e s' I hq
  | ok fl =>
    cases fl with
    | ret u => exact I.after hq
    | next => exact False.elim hq
    | brk => exact False.elim hq
    | cont => exact False.elim hq
theorem pe_call (F : FnOk X.prog X.w X.K X.mg X.base CX k f fd ps sp) (hr : Room k X.A) (hg : Gl X x) (hm : X.mg x = some (.ref f)) (hk : PySem.W.keepIn X.K (.ref f) = true) (hb : Binds X.K fd ps ds) (hd : Vals dvs ds) (hx : Passes CX X E)
    (ha : PA X (e :: es) t) (hdb : (x == ("__debug__" : Str)) = false := by decide) (he : starEach (e :: es) X.env = (false, eval e X.env) :: starEach es X.env := by rfl) (hpl : (backTo pos (starEach es X.env)).any (·.1) = false := by rfl) :
    PE X (.Call (.Name x p) (e :: es) [] pos) (tCall sp dvs E t) := by
  intro pins s σ H Q I h
  refine wpAny_Call_Name_kw (ld_glob I hg hm ?_ hdb)
  refine PySem.W.callWith_K (h₀ := X.base) I.ok.mod.kin hk (thn (ha pos pins s σ H _ I h) fun us s1 ⟨vs, H1, I1, r, q⟩ => ⟨I1.kIn, ?_⟩) he hpl
  exact run_fn F hr hb hd hx I1 r q
structure Mk (K : PySem.W.Frag) (C f : Addr) : Prop where
  makes : PySem.W.makesIn K C = true
  init : PySem.W.findIn K (.ref C) "__init__" = some (some (.ref f))
  fn : PySem.W.isFn K (.ref f) = true
  kp : PySem.W.keepIn K (.ref C) = true
end
noncomputable def PK (X : Cx) (kws : List Keyword) (t : TA) : Prop :=
  ∀ (pos : Pos) (pins : List (Addr × Obj)) (s : Shared) (σ : St) (H : Hp) (Q : List V → Hp → Prop), Inv X pins σ H s → t σ H Q → wpAny (model X.prog X.w) X.A (evalAll ((backToKw pos (keywordEach kws X.env)).map (·.2))) (AP X pins σ Q) X.xe s
section
variable {X : Cx} {CX : CXT} {k : Nat} {f C : Addr} {fd : FuncData} {ps ks : List Str} {sp : Sp} {E : XK} {x m : Str} {p pos apos kpos : Pos} {e o : Expr} {es : List Expr} {kws : List Keyword} {te ta : TE} {t tk : TA} {nm : Option Str}
structure KBinds (K : PySem.W.Frag) (fd : FuncData) (ps ks : List Str) (g : List Value → List Value → List Value) (gV : List V → List V → List V) : Prop where
  to : ∀ (s : Shared) (us ws : List Value), K.In s.heap → (g us ws).length = ps.length → BindsTo s fd ⟨us, ks.zip ws⟩ (ps.zip (g us ws))
  rel : ∀ {vs : List V} {us : List Value} {zs : List V} {ws : List Value}, Vals vs us → Vals zs ws → Vals (gV vs zs) (g us ws)
noncomputable def tCallK (sp : Sp) (gV : List V → List V → List V) (E : XK) (t tk : TA) : TE := fun σ H Q => t σ H fun vs H1 => tk σ H1 fun zs H2 => sp (gV vs zs) H2 Q E
variable {g : List Value → List Value → List Value} {gV : List V → List V → List V}
end
structure FnScope (N P : List Str) (sc : Scope) : Prop where
  kind : sc.kind = .function
  co : sc.isCoroutine = false
  gen : sc.isGenerator = false
  nd : N.Nodup
  pre : N.take P.length = P
  par : ∀ x ∈ P, sc.names.lookup x = some .local ∨ sc.names.lookup x = some .cell
  nofree : ∀ y ∈ sc.names, y.2 ≠ .free
theorem bindL_out {kindOf : Str → Option NameKind} {x : Str} : ∀ {binds : List (Str × Value)} {m : Str → Option Value}, (∀ v, (x, v) ∉ binds) → bindL kindOf binds m x = m x
  | [], _, _ => rfl
  | (n, v) :: r, m, h => by
    unfold bindL
    rw [bindL_out fun w hw => h w (List.mem_cons_of_mem _ hw)]
    split
    · have : x ≠ n := by rintro rfl; exact h v List.mem_cons_self
      simp [this]
    · rfl
theorem bindC_out {kindOf : Str → Option NameKind} {x : Str} : ∀ {binds : List (Str × Value)} {m : Str → Option Value}, (∀ v, (x, v) ∉ binds) → bindC kindOf binds m x = m x
  | [], _, _ => rfl
  | (n, v) :: r, m, h => by
    unfold bindC
    rw [bindC_out fun w hw => h w (List.mem_cons_of_mem _ hw)]
    split
    · rfl
    · have : x ≠ n := by rintro rfl; exact h v List.mem_cons_self
      simp [this]
theorem bindL_get {kindOf : Str → Option NameKind} {x : Str} {v : Value} : ∀ {P : List Str} {vs : List Value} {i : Nat} {m : Str → Option Value}, P.Nodup → P[i]? = some x → vs[i]? = some v → kindOf x = some .local →
    bindL kindOf (P.zip vs) m x = some v
  | [], _, _, _, _, h, _, _ => by simp at h
  | _ :: _, [], _, _, _, _, h, _ => by simp at h
  | p :: P, w :: vs, 0, m, nd, h1, h2, hk => by
    simp at h1 h2; subst h1; subst h2
    show bindL kindOf ((p, w) :: P.zip vs) m p = _
    unfold bindL
    rw [bindL_out fun v hv => (List.nodup_cons.mp nd).1 (List.of_mem_zip hv).1, if_pos hk]
    simp
  | p :: P, w :: vs, i + 1, m, nd, h1, h2, hk => by
    show bindL kindOf ((p, w) :: P.zip vs) m x = _
    unfold bindL
    exact bindL_get (i := i) (List.nodup_cons.mp nd).2 (by simpa using h1) (by simpa using h2) hk
theorem bindC_get {kindOf : Str → Option NameKind} {x : Str} {v : Value} : ∀ {P : List Str} {vs : List Value} {i : Nat} {m : Str → Option Value}, P.Nodup → P[i]? = some x → vs[i]? = some v → kindOf x ≠ some .local →
    bindC kindOf (P.zip vs) m x = some v
  | [], _, _, _, _, h, _, _ => by simp at h
  | _ :: _, [], _, _, _, _, h, _ => by simp at h
  | p :: P, w :: vs, 0, m, nd, h1, h2, hk => by
    simp at h1 h2; subst h1; subst h2
    show bindC kindOf ((p, w) :: P.zip vs) m p = _
    unfold bindC
    rw [bindC_out fun v hv => (List.nodup_cons.mp nd).1 (List.of_mem_zip hv).1, if_neg hk]
    simp
  | p :: P, w :: vs, i + 1, m, nd, h1, h2, hk => by
    show bindC kindOf ((p, w) :: P.zip vs) m x = _
    unfold bindC
    exact bindC_get (i := i) (List.nodup_cons.mp nd).2 (by simpa using h1) (by simpa using h2) hk
noncomputable def start (N : List Str) (vs : List V) : St := vs.map some ++ List.replicate (N.length - vs.length) none
noncomputable def cxOf (CX : CXT) (P : Program) (w : World) (K : PySem.W.Frag) (mg : Str → Option Value) (base : Heap) (N : List Str) (qual : Str) (scope : Scope) (f : Addr) (cd : Value) (A : Around) (outer : List Env) (s : Shared) (H : Hp) (E : XK) : Cx where
  prog := P
  w := w
  K := K
  mg := mg
  base := base
  A := A.deeper (envOfC qual scope s.heap.objs.size f cd)
  N := N
  s₀ := s
  H₀ := H
  env := envOfC qual scope s.heap.objs.size f cd
  outer := outer
  stack := envOfC qual scope s.heap.objs.size f cd :: outer
  ex := []
  calm := true
  fn := fun _ => true
  pn := []
  xe := fun e s' => wpAny (model P w) (A.deeper (envOfC qual scope s.heap.objs.size f cd)) (leaving (envOfC qual scope s.heap.objs.size f cd) e) (fun _ s'' => CX outer H s E e s'') (fun e' s'' => CX outer H s E e' s'') s'
theorem cell_has {sc : Scope} {n : Nat} {x : Str} (h : sc.names.lookup x = some .cell) : ∃ c, (cellsFrom n sc.names []).lookup x = some c := by
  have q := PySem.W.cellsFrom_some sc.names n [] (.inl h)
  exact Option.isSome_iff_exists.mp q
theorem inv_start {CX : CXT} {P : Program} {w : World} {K : PySem.W.Frag} {mg : Str → Option Value} {base : Heap} {N ps : List Str} {qual : Str} {scope : Scope} {f : Addr} {cd : Value} {A : Around} {outer : List Env} {s s1 : Shared} {H : Hp} {E : XK} {us : List Value} {vs : List V}
    (S : FnScope N ps scope) (hd : A.handled = none) (e0 : Env0 P w K mg base A outer s H) (hl : vs.length = ps.length) (r : Vals vs us)
    (x : InCallC s s.heap.objs.size (bindL (envOfC qual scope s.heap.objs.size f cd).kindOf (ps.zip us) fun _ => none) (cellsFrom (s.heap.objs.size + 1) scope.names []) (bindC (envOfC qual scope s.heap.objs.size f cd).kindOf (ps.zip us) fun _ => none) s1) :
    Inv (cxOf CX P w K mg base N qual scope f cd A outer s H E) [] (start N vs) H s1 := by
  have hpl : ps.length ≤ N.length := by have := congrArg List.length S.pre; rw [List.length_take] at this; omega
  obtain ⟨h1, tk, rfl, hk⟩ := x.done
  have noA : ∀ b : Addr, b ∉ (cxOf CX P w K mg base N qual scope f cd A outer s H E).ex := fun b z => absurd (show b ∈ ([] : List Addr) from z) (by simp)
  refine ⟨⟨e0.mod, S.kind, rfl, rfl, Nat.le_refl _, fun y z c h1 h2 => ?_, fun y hy => ?_, fun y c _ h => ?_, fun _ => hd, Around.frames_deeper e0.frames, .inr ⟨rfl, rfl⟩, fun b z => absurd z (noA b), e0.bs, e0.bsz, fun b _ _ => noA b, fun b z => absurd z (noA b), e0.funs, e0.frf⟩,
    rfl, e0.bare, Un.kept hk, ⟨_, x.toInCall.ns, fun i y v h1 h2 h3 => ?_⟩, fun y c h => ⟨_, x.cell y c h⟩, e0.hok.fresh (Nat.le_refl _), fun y c h => ?_, fun p hp => absurd (show p ∈ ([] : List (Addr × Obj)) from hp) (by simp), e0.hok.kept hk, ?_⟩
  · exact name_of_addr x.apart (PySem.mem_of_lookup h1) (PySem.mem_of_lookup h2)
  · have hy : scope.names.lookup y = some .cell ∨ scope.names.lookup y = some .free := hy
    rcases hy with hy | hy
    · exact cell_has hy
    · exact absurd rfl (S.nofree _ (PySem.mem_of_lookup hy))
  · exact Nat.le_of_lt (x.above y c (PySem.mem_of_lookup h))
  · have hi : i < vs.length := by
      unfold start at h2
      by_cases hi : i < vs.length
      · exact hi
      · rw [List.getElem?_append_right (by simpa using hi)] at h2
        rw [List.getElem?_replicate] at h2
        split at h2 <;> cases h2
    have ha : vs[i]? = some v := by
      unfold start at h2
      rw [List.getElem?_append_left (by simpa using hi), List.getElem?_map] at h2
      cases e : vs[i]? with
      | none => rw [e] at h2; cases h2
      | some a => rw [e] at h2; cases h2; rfl
    obtain ⟨u, hu, rv⟩ := r.get ha
    have hp : ps[i]? = some y := by
      rw [← S.pre, List.getElem?_take_of_lt (by omega)]; exact h1
    have ndP : ps.Nodup := by rw [← S.pre]; exact S.nd.sublist (List.take_sublist _ _)
    refine ⟨u, rv, ?_⟩
    rcases S.par y (List.mem_of_getElem? hp) with k | k
    · exact .inl ⟨k, bindL_get ndP hp hu k⟩
    · obtain ⟨c, e⟩ := cell_has (n := s.heap.objs.size + 1) k
      refine .inr ⟨.inl k, c, e, ?_⟩
      have q := x.cell y c e
      rw [bindC_get ndP hp hu (by show scope.names.lookup y ≠ _; rw [k]; decide)] at q
      exact q
  · exact e0.hok.fresh (Nat.le_of_lt (x.above y c (PySem.mem_of_lookup h)))
  · unfold start
    show _ = N.length
    rw [List.length_append, List.length_map, List.length_replicate]
    omega
theorem fn_of {CX : CXT} {P : Program} {w : World} {K : PySem.W.Frag} {mg : Str → Option Value} {base : Heap} {k : Nat} {f : Addr} {name qual : Str} {params : Arguments} {body : List Stmt} {scope : Scope} {dV kV doc pm cdv ct oc : Value} {an od : Option Addr}
    {osl : Array (Option Value)} {N ps : List Str} {sp : Sp} (lk : K.lookup f = some ⟨oc, od, .func (PySem.W.fnOf name qual params body scope dV kV doc pm an cdv ct), osl⟩) (hcd : PySem.W.codeIn K cdv qual = true) (S : FnScope N ps scope)
    (len : ∀ vs H Q E, sp vs H Q E → vs.length = ps.length)
    (hbody : ∀ (A : Around) (outer : List Env) (s : Shared) (H : Hp) (vs : List V) (Q : VK) (E : XK), Room k (A.deeper (envOfC qual scope s.heap.objs.size f cdv)) → sp vs H Q E →
      ∃ t, PSs (cxOf CX P w K mg base N qual scope f cdv A outer s H E) body t ∧ t { nx := fun _ H' => Q .non H', rt := Q } (start N vs) H) :
    FnOk P w K mg base CX (k + 1) f (PySem.W.fnOf name qual params body scope dV kV doc pm an cdv ct) ps sp := by
  refine ⟨len, fun A outer s H args us vs Q E hr e0 hb r hsp => ?_⟩
  have hl := len _ _ _ _ hsp
  have KX : K.In s.heap := e0.mod.kin.keeps fun b o e => (e0.bs b o e).1
  have lim : s.heap.NoLimit := e0.mod.nolimit.keeps fun b o e => (e0.bs b o e).1
  have hkind : ∀ y ∈ ps.zip us, scope.names.lookup y.1 = some .local ∨ (scope.names.lookup y.1 = some .cell ∧ ((cellsFrom (s.heap.objs.size + 1) scope.names []).lookup y.1).isSome = true) := fun ⟨n, v⟩ hy => by
    rcases S.par n (List.of_mem_zip hy).1 with q | q
    · exact .inl q
    · exact .inr ⟨q, PySem.W.cellsFrom_some _ _ _ (.inl q)⟩
  refine codeAny_call_function hr.depth (KX _ _ lk) rfl S.co S.gen rfl (PySem.W.codeRec_of KX hcd) (hb _ _ _ _ ?_)
  refine wpAny_newFunctionEnv_cells S.kind hkind fun env he s1 x => ?_
  subst he
  refine ⟨lim.keeps x.toInCall.keep, codeAny_func ?_⟩
  obtain ⟨t, ht, hq⟩ := hbody A outer s H vs Q E (hr.deeper _) hsp
  have I : Inv (cxOf CX P w K mg base N qual scope f cdv A outer s H E) [] (start N vs) H s1 := inv_start S hr.hd e0 hl r x
  refine wpAny_mono (ht [] s1 (start N vs) H _ I hq) (fun fl s' hs => ?_) fun e s' hs => hs
  have fin : ∀ {σ' : St} {H' : Hp} {v : V} {u : Value}, Inv (cxOf CX P w K mg base N qual scope f cdv A outer s H E) [] σ' H' s' → RelV v u → Q v H' → CE outer P w H s Q u s' :=
    fun {σ' H' v u} J rv q => ⟨v, H', J.os, J.bare, J.base, J.hok, rv, q⟩
  cases fl with
  | ret u =>
    obtain ⟨v, σ', H', J, rv, q⟩ := hs
    exact fin J rv q
  | next =>
    obtain ⟨σ', H', J, q⟩ := hs
    exact fin (v := V.non) (u := Value.none) J rfl q
  | brk =>
    obtain ⟨_, _, _, q⟩ := hs
    exact False.elim q
  | cont =>
    obtain ⟨_, _, _, q⟩ := hs
    exact False.elim q
end L2
namespace L2
open PySem PySem.Spec PyProof.Rows
section
variable {X : Cx} {x : Str} {p pos : Pos} {e : Expr} {es : List Expr} {t : TA} {id T : String} {r : List V → Hp → VK → Prop}
noncomputable def tCB (r : List V → Hp → VK → Prop) (t : TA) : TE := fun σ H Q => t σ H fun vs H1 => r vs H1 Q
theorem pe_callB (hc : CallR X (.builtin id) r) (hg : Gl X x) (hm : X.mg x = none) (hv : bootBuiltins x = some (.builtin id)) (ha : PA X (e :: es) t) (hn : x ≠ "__name__" := by decide) (hdb : (x == ("__debug__" : Str)) = false := by decide)
    (he : starEach (e :: es) X.env = (false, eval e X.env) :: starEach es X.env := by rfl) (hpl : (backTo pos (starEach es X.env)).any (·.1) = false := by rfl) : PE X (.Call (.Name x p) (e :: es) [] pos) (tCB r t) := by
  intro pins s σ H Q I h
  refine wpAny_Call_Name_kw (ld_blt I hg hm hv ?_ hn hdb)
  exact PyProof.Rows.callWith_builtin1 (thn (ha pos pins s σ H _ I h) fun us s1 ⟨vs, H1, I1, r1, q1⟩ => hc pins s1 σ H1 vs us Q I1 r1 q1) he hpl
theorem pe_callTy (hc : CallR X (.type T) r) (hg : Gl X x) (hm : X.mg x = none) (hv : bootBuiltins x = some (.type T)) (ha : PA X (e :: es) t) (hn : x ≠ "__name__" := by decide) (hdb : (x == ("__debug__" : Str)) = false := by decide)
    (he : starEach (e :: es) X.env = (false, eval e X.env) :: starEach es X.env := by rfl) (hpl : (backTo pos (starEach es X.env)).any (·.1) = false := by rfl) : PE X (.Call (.Name x p) (e :: es) [] pos) (tCB r t) := by
  intro pins s σ H Q I h
  refine wpAny_Call_Name_kw (ld_blt I hg hm hv ?_ hn hdb)
  exact PyProof.Rows.callWith_type1 (thn (ha pos pins s σ H _ I h) fun us s1 ⟨vs, H1, I1, r1, q1⟩ => hc pins s1 σ H1 vs us Q I1 r1 q1) he hpl
end
end L2
namespace HT
open PySem PyProof.Rows
noncomputable def lexLt : List Int → List Int → Bool
  | [], [] => false
  | [], _ :: _ => true
  | _ :: _, [] => false
  | x :: xs, y :: ys => if x = y then lexLt xs ys else decide (x < y)
section
open PySem.SeqAt
open PySem.AutoSeq1 (wpAny_loadPart')
open PySem.MeetsSeq PySem.MeetsSeq2 PySem.MeetsSeq3
end
section
variable {prog : Program} {w : World} {A : Around} {E : Value → Shared → Prop} {s : Shared}
theorem cat_tup {t b : Addr} {vs ws : List Value} {Q : Value → Shared → Prop} (ht : IsTup s.heap t vs.toArray) (hb : IsTup s.heap b ws.toArray) (hv : vs ≠ [])
    (h1 : ws = [] → Q (.ref t) s) (h2 : ws ≠ [] → Q (.ref s.heap.objs.size) { s with heap := s.heap.push { cls := .type "tuple", data := .seq (vs ++ ws).toArray } })
    (hsz : vs.length + ws.length ≤ sizeLine) : wpAny (model prog w) A (binaryOp .Add (.ref t) (.ref b)) Q E s := by
  obtain ⟨⟨cls, dd, data, sl⟩, ho, hc, n, hd⟩ := id ht
  obtain ⟨⟨cls2, dd2, data2, sl2⟩, ho2, hc2, n2, hd2⟩ := id hb
  simp only at hc hd hc2 hd2
  subst hc hd hc2 hd2
  have e : vs.toArray ++ ws.toArray = (vs ++ ws).toArray := by simp
  by_cases hw : ws = []
  · exact concat_meets ⟨_, ho, rfl⟩ ⟨_, ho2, rfl⟩ noFill_tuple_add seq_tuple_add PySem.F.slot_tuple_add PySem.F.entry_tuple_add (PySem.F.args_tuple_add_2 _ _)
      (tuple_addW1 t b vs.toArray ws.toArray n n2 dd dd2 sl sl2 (by simpa using hv) (by simp [hw])) ⟨ho, ho2, h1 hw⟩
  · refine concat_meets ⟨_, ho, rfl⟩ ⟨_, ho2, rfl⟩ noFill_tuple_add seq_tuple_add PySem.F.slot_tuple_add PySem.F.entry_tuple_add (PySem.F.args_tuple_add_2 _ _)
      (tuple_addW2 t b vs.toArray ws.toArray n n2 dd dd2 sl sl2 (by simpa using hv) (by simpa using hw) (by rw [List.size_toArray, List.size_toArray]; exact hsz)) ⟨ho, ho2, ?_⟩
    rw [e]
    exact h2 hw
noncomputable def sIx (n d : Nat) : Option Int → Nat
  | none => d
  | some v => if v < 0 then (v + (n : Int)).toNat else min v.toNat n
theorem sIx_le (n d : Nat) (hd : d ≤ n) (o : Option Int) : sIx n d o ≤ n := by
  cases o with
  | none => exact hd
  | some v =>
    show (if v < 0 then (v + (n : Int)).toNat else min v.toNat n) ≤ n
    by_cases hv : v < 0
    · rw [if_pos hv]; omega
    · rw [if_neg hv]; exact Nat.min_le_right _ _
theorem clip_eq (v : Int) (n d : Nat) : (if v < 0 then max (v + (n : Int)) 0 else min v (n : Int)) = ((sIx n d (some v) : Nat) : Int) := by
  show (if v < 0 then max (v + (n : Int)) 0 else min v (n : Int)) = (((if v < 0 then (v + (n : Int)).toNat else min v.toNat n) : Nat) : Int)
  by_cases hv : v < 0
  · simp only [if_pos hv]; omega
  · simp only [if_neg hv]; omega
theorem adjust_gen (lo hi : Option Int) (n : Nat) : Builtin.Slice.sliceAdjust lo hi 1 (n : Int) = (((sIx n 0 lo : Nat) : Int), ((sIx n n hi : Nat) : Int)) := by
  have h1 : ¬ ((1 : Int) < 0) := by omega
  unfold Builtin.Slice.sliceAdjust
  simp only [h1, if_false]
  refine Prod.ext ?_ ?_
  · cases lo with
    | none => rfl
    | some v => exact clip_eq v n 0
  · cases hi with
    | none => rfl
    | some v => exact clip_eq v n n
theorem places_gen (i j : Nat) : Builtin.Slice.slicePlaces (i : Int) (j : Int) 1 = j - i := by
  unfold Builtin.Slice.slicePlaces
  have h1 : (1 : Int) > 0 := by omega
  simp only [h1, if_true, Int.ediv_one]
  split <;> omega
theorem slicePart_ {v : Value} {o : Option Int} {Q : Option Int → Shared → Prop} (p : IsPart v o) (h : Q o s) : wpAny (model prog w) A (Builtin.Slice.slicePartIndex v) Q E s := by
  cases p with
  | none => exact slicePart_none h
  | int i t => exact slicePart_int h
theorem sliceApplied_gen {sl : Addr} {vl vu : Value} {lo hi : Option Int} {n : Nat} {Q : Int × Int × Nat → Shared → Prop} (hs : s.heap.IsSliceOf sl vl vu .none) (pl : IsPart vl lo) (pu : IsPart vu hi)
    (h : Q (((sIx n 0 lo : Nat) : Int), 1, sIx n n hi - sIx n 0 lo) s) : wpAny (model prog w) A (Builtin.Slice.sliceApplied (.ref sl) (pure (n : Int))) Q E s := by
  obtain ⟨os, hos, hcs, hds⟩ := id hs
  unfold Builtin.Slice.sliceApplied Builtin.Slice.sliceFields
  refine wpAny_bind (wpAny_bind (wpAny_field hos hds (x := vl) rfl (wpAny_bind (wpAny_field hos hds (x := vu) rfl (wpAny_bind (wpAny_field hos hds (x := .none) rfl (wpAny_pure ?_)))))))
  refine wpAny_bind (slicePart_none ?_)
  show wpAny _ _ (if ((1 : Int) == 0) = true then _ else _) _ _ s
  rw [if_neg (by decide)]
  refine wpAny_bind (slicePart_ pl (wpAny_bind (slicePart_ pu (wpAny_bind (wpAny_pure ?_)))))
  show wpAny _ _ (match Builtin.Slice.sliceAdjust lo hi 1 (n : Int) with | (lo, hi) => pure (lo, (1 : Int), Builtin.Slice.slicePlaces lo hi 1)) _ _ s
  rw [adjust_gen lo hi n]
  show wpAny _ _ (pure (((sIx n 0 lo : Nat) : Int), (1 : Int), Builtin.Slice.slicePlaces ((sIx n 0 lo : Nat) : Int) ((sIx n n hi : Nat) : Int) 1)) _ _ s
  rw [places_gen]
  exact wpAny_pure h
theorem pick_gen (xs : Array Value) (i k : Nat) : ((List.range k).filterMap fun (m : Nat) => xs[((i : Int) + (m : Int) * 1).toNat]?).toArray = ((xs.toList.drop i).take k).toArray := by
  have e : (fun (m : Nat) => xs[((i : Int) + (m : Int) * 1).toNat]?) = fun m => xs[i + m]? := by
    funext m
    have : ((i : Int) + (m : Int) * 1).toNat = i + m := by omega
    rw [this]
  rw [e]
  have := pick_run xs i k
  rw [List.filterMap_map] at this
  have e2 : ((fun x => xs[x]?) ∘ fun x => i + x) = fun m => xs[i + m]? := rfl
  rw [e2] at this
  rw [this]
theorem getItem_tuple_cut {t sl : Addr} {items : Array Value} {vl vu : Value} {lo hi : Option Int} {Q : Value → Shared → Prop} (ht : IsTup s.heap t items) (hs : s.heap.IsSliceOf sl vl vu .none) (pl : IsPart vl lo) (pu : IsPart vu hi)
    (hw : ¬ (sIx items.size 0 lo = 0 ∧ sIx items.size items.size hi = items.size))
    (h : Q (.ref s.heap.objs.size) { s with heap := s.heap.push { cls := .type "tuple", data := .seq ((items.toList.drop (sIx items.size 0 lo)).take (sIx items.size items.size hi - sIx items.size 0 lo)).toArray } })
    (hsz : items.size ≤ sizeLine) : wpAny (model prog w) A (getItem (.ref t) (.ref sl)) Q E s := by
  have htake : sizeOk (.seq ((items.toList.drop (sIx items.size 0 lo)).take (sIx items.size items.size hi - sIx items.size 0 lo)).toArray) := by
    show ((items.toList.drop (sIx items.size 0 lo)).take (sIx items.size items.size hi - sIx items.size 0 lo)).toArray.size ≤ sizeLine
    rw [List.size_toArray, List.length_take, List.length_drop, Array.length_toList]
    omega
  have hj : sIx items.size items.size hi ≤ items.size := sIx_le _ _ (Nat.le_refl _) hi
  obtain ⟨os, hos, hcs, hds⟩ := id hs
  have hTs : s.TypeIs (.ref sl) "slice" := ⟨os, hos, hcs⟩
  unfold getItem
  try with_reducible refine wpAny_holding ?_
  first | refine wpAny_bind (wpAny_pure ?_) | skip
  refine wpAny_bind (wpAny_sequenceKey ht.typeIs (by decide) ?_)
  refine wpAny_bind (wpAny_callSpecial?_slot (name := Str.ofString "__getitem__") ht.typeIs PyProof.Rows.slot_tuple_getitem
    (wpAny_call_entry PyProof.Rows.slot_tuple_getitem ht.typeIs entry_tuple_getitem ?_ (args_tuple_getitem _ _)))
  show wpAny _ _ (Builtin.Tuple.tupleItemsOf (.ref t) >>= _) _ _ s
  refine wpAny_bind (tupleItemsOf_ ht ?_)
  refine wpAny_bind (wpAny_typeOf hTs ?_)
  rw [if_pos (by decide)]
  refine wpAny_bind (sliceApplied_gen hs pl pu ?_)
  have hno : ¬ ((((sIx items.size 0 lo : Nat) : Int) == 0 && (1 : Int) == 1 && (sIx items.size items.size hi - sIx items.size 0 lo) == items.size) = true) := by
    intro q
    rw [Bool.and_eq_true, Bool.and_eq_true] at q
    have q1 : ((sIx items.size 0 lo : Nat) : Int) = 0 := eq_of_beq q.1.1
    have q2 : sIx items.size items.size hi - sIx items.size 0 lo = items.size := eq_of_beq q.2
    exact hw ⟨by omega, by omega⟩
  show wpAny _ _ (if (((sIx items.size 0 lo : Nat) : Int) == 0 && (1 : Int) == 1 && (sIx items.size items.size hi - sIx items.size 0 lo) == items.size) = true then _ else _) _ _ s
  rw [if_neg hno, pick_gen]
  first
    | exact wpAny_bind (m := Builtin.Tuple.tupleExact _) (wpAny_newObj_type (wpAny_pure ⟨_, rfl, wpAny_pure h⟩) htake)
    | exact wpAny_bind (m := Builtin.Tuple.tupleExact _) (wpAny_newObj_type (wpAny_bind (wpAny_pure (wpAny_pure ⟨_, rfl, wpAny_pure h⟩))) htake)
    | exact wpAny_bind (wpAny_bind (m := Builtin.Tuple.tupleExact _) (wpAny_newObj_type (wpAny_pure (wpAny_pure ⟨_, rfl, wpAny_pure h⟩)) htake))
    | exact wpAny_bind (wpAny_bind (m := Builtin.Tuple.tupleExact _) (wpAny_newObj_type (wpAny_pure ⟨_, rfl, wpAny_pure h⟩) htake))
end
end HT
namespace L2
open PySem PySem.Spec PyProof.Rows
noncomputable abbrev TO := St → Hp → (Option Int → Hp → Prop) → Prop
noncomputable def PO (X : Cx) (e : Option Expr) (t : TO) : Prop :=
  ∀ (pins : List (Addr × Obj)) (s : Shared) (σ : St) (H : Hp) (Q : Option Int → Hp → Prop), Inv X pins σ H s → t σ H Q →
    wpAny (model X.prog X.w) X.A (evalPart e X.env) (fun u s' => ∃ o H', Inv X pins σ H' s' ∧ IsPart u o ∧ Q o H') X.xe s
noncomputable def tNoPart : TO := fun _ H Q => Q none H
noncomputable def tPart (t : TE) : TO := fun σ H Q => t σ H fun x H1 => ∃ i, x = .int i ∧ Q (some i) H1
section
variable {X : Cx} {e : Expr} {te : TE} {lo hi : Option Expr} {tl th : TO} {pos p2 : Pos}
theorem po_none : PO X none tNoPart := by
  intro pins s σ H Q I h
  rw [evalPart_none]
  exact wpAny_pure ⟨none, H, I, .none, h⟩
theorem po_some (h : PE X e te) : PO X (some e) (tPart te) := by
  intro pins s σ H Q I hw
  rw [evalPart_some]
  refine thn (h pins s σ H _ I hw) fun u s1 ⟨x, H1, I1, r1, q1⟩ => ?_
  obtain ⟨i, rfl, q⟩ := q1
  obtain ⟨t, rfl⟩ := r1
  exact ⟨some i, H1, I1, .int i t, q⟩
noncomputable def SlR (X : Cx) (r : V → Option Int → Option Int → Hp → VK → Prop) : Prop :=
  ∀ (pins : List (Addr × Obj)) (s : Shared) (σ : St) (H : Hp) (x : V) (v vl vu : Value) (lo hi : Option Int) (sl : Addr) (Q : VK), Inv X pins σ H s → RelV x v → s.heap.IsSliceOf sl vl vu .none → IsPart vl lo → IsPart vu hi → r x lo hi H Q →
    ∃ T id, typeLookup (.type T) "__getitem__" = pure (some (.builtin id)) ∧ s.TypeIs v T ∧ wpAny (model X.prog X.w) X.A (getItem v (.ref sl)) (EP X pins σ Q) X.xe s
noncomputable def tSl (r : V → Option Int → Option Int → Hp → VK → Prop) (te : TE) (tl th : TO) : TE := fun σ H Q => te σ H fun x H1 => tl σ H1 fun l H2 => th σ H2 fun u H3 => r x l u H3 Q
theorem pe_slice {r : V → Option Int → Option Int → Hp → VK → Prop} (hr : SlR X r) (he : PE X e te) (hl : PO X lo tl) (hu : PO X hi th) : PE X (.Subscript e (.Slice lo hi none p2) pos) (tSl r te tl th) := by
  intro pins s σ H Q I h
  refine Subscript_ (thn (he pins s σ H _ I h) fun v s1 ⟨x, H1, I1, r1, q1⟩ => ?_)
  refine wpAny_Slice (thn (hl pins s1 σ H1 _ I1 q1) fun vl s2 ⟨l, H2, I2, pl, q2⟩ => thn (hu pins s2 σ H2 _ I2 q2) fun vu s3 ⟨u, H3, I3, pu, q3⟩ => ?_)
  rw [evalPart_none]
  refine wpAny_pure ?_
  have I4 : Inv X pins σ H3 { s3 with heap := s3.heap.push { cls := .type "slice", data := .fields #[vl, vu, .none] } } := I3.kept (t' := s3.toks) fun b ob q => Heap.get?_push_of_some _ q
  obtain ⟨T, id, hT, ht, hg⟩ := hr pins { s3 with heap := s3.heap.push { cls := .type "slice", data := .fields #[vl, vu, .none] } } σ H3 x v vl vu l u s3.heap.objs.size Q I4 r1 (Heap.IsSliceOf.new ..) pl pu q3
  show wpAny (model X.prog X.w) X.A (subscriptTail e (.Slice lo hi none p2) v (.ref s3.heap.objs.size)) (EP X pins σ Q) X.xe { s3 with heap := s3.heap.push { cls := .type "slice", data := .fields #[vl, vu, .none] } }
  exact tail_any (ops := [.ref s3.heap.objs.size, v]) ht hT hg (by with_unfolding_all rfl)
noncomputable def cutV (xs : List V) (lo hi : Option Int) : List V := (xs.drop (HT.sIx xs.length 0 lo)).take (HT.sIx xs.length xs.length hi - HT.sIx xs.length 0 lo)
theorem cutV_length (xs : List V) (lo hi : Option Int) : (cutV xs lo hi).length ≤ xs.length := by
  unfold cutV
  rw [List.length_take, List.length_drop]
  omega
noncomputable def rSlT (K : PySem.W.Frag) : V → Option Int → Option Int → Hp → VK → Prop := fun x lo hi H Q => ∃ a xs, x = .ref a ∧ SqT K H a xs ∧
  ¬ (HT.sIx xs.length 0 lo = 0 ∧ HT.sIx xs.length xs.length hi = xs.length) ∧ ∀ p, H p = none → Q (.ref p) (upd H p (.tup (cutV xs lo hi)))
theorem sl_tup : SlR X (rSlT X.K) := by
  intro pins s σ H x v vl vu lo hi sl Q I rx hs pl pu h
  obtain ⟨a, xs, rfl, hx, hw, q⟩ := h
  cases rx
  obtain ⟨its, r, ht, hz⟩ := I.tuple hx
  have hlen : its.toArray.size = xs.length := by rw [List.size_toArray]; exact r.length.symm
  refine ⟨"tuple", _, PyProof.Rows.slot_tuple_getitem.lookup, ht.typeIs, ?_⟩
  refine HT.getItem_tuple_cut ht hs pl pu (by rw [hlen]; exact hw) ?_ (by rw [hlen]; exact hz)
  rw [hlen]
  refine ⟨.ref s.heap.objs.size, _, I.laid (t' := s.toks) (o := .tup (cutV xs lo hi)) (fun b ob q => Heap.get?_push_of_some _ q) (Nat.le_refl _) ?_, rfl, q _ (I.hok.fresh (Nat.le_refl _))⟩
  exact ⟨Nat.le_trans (cutV_length xs lo hi) hz, _, (r.drop (HT.sIx xs.length 0 lo)).take (HT.sIx xs.length xs.length hi - HT.sIx xs.length 0 lo), IsTup.new _ _⟩
noncomputable def rLtT (K : PySem.W.Frag) : R2 := fun x y H Q => ∃ a b ns ms, x = .ref a ∧ y = .ref b ∧ SqT K H a (ns.map V.int) ∧ SqT K H b (ms.map V.int) ∧ Q (.bl (HT.lexLt ns ms)) H
noncomputable def rCatT (K : PySem.W.Frag) : R2 := fun x y H Q => ∃ a b xs ys, x = .ref a ∧ y = .ref b ∧ SqT K H a xs ∧ SqT K H b ys ∧ xs ≠ [] ∧ xs.length + ys.length ≤ sizeLine ∧
  (ys = [] → Q (.ref a) H) ∧ (ys ≠ [] → ∀ p, H p = none → Q (.ref p) (upd H p (.tup (xs ++ ys))))
theorem Vals.nil_iff {xs : List V} {us : List Value} (r : Vals xs us) : us = [] ↔ xs = [] := by
  cases r with
  | nil => simp
  | cons _ _ => simp
theorem op_catT : OpR X (binaryOp .Add) (rCatT X.K) := by
  intro pins s σ H x y v u Q I rx ry h
  obtain ⟨a, b, xs, ys, rfl, rfl, ha, hb, hx, hz, q1, q2⟩ := h
  cases rx
  cases ry
  obtain ⟨its, r1, p1, _⟩ := I.tuple ha
  obtain ⟨its2, r2, p2, _⟩ := I.tuple hb
  refine HT.cat_tup p1 p2 (fun z => hx (r1.nil_iff.mp z)) (fun z => ⟨.ref a, H, I, rfl, q1 (r2.nil_iff.mp z)⟩) (fun z => ?_) (by rw [← r1.length, ← r2.length]; exact hz)
  refine ⟨.ref s.heap.objs.size, _, I.laid (t' := s.toks) (o := .tup (xs ++ ys)) (fun b ob q => Heap.get?_push_of_some _ q) (Nat.le_refl _) ?_, rfl, q2 (fun w => z (r2.nil_iff.mpr w)) _ (I.hok.fresh (Nat.le_refl _))⟩
  exact ⟨by rw [List.length_append]; exact hz, _, r1.append r2, IsTup.new _ _⟩
end
end L2
namespace L2
open PySem PySem.Spec PyProof.Rows
noncomputable def ixN (n : Nat) (i : Int) : Option Nat := if 0 ≤ i then (if i < n then some i.toNat else none) else if -(n : Int) ≤ i then some (i + n).toNat else none
noncomputable def atI {α : Type} (xs : List α) (i : Int) : Option α := (ixN xs.length i).bind fun j => xs[j]?
theorem ixN_seq {n : Nat} {i : Int} {j : Nat} (h : ixN n i = some j) : seqIndex? i n = some j ∧ j < n ∧ -(n : Int) ≤ i ∧ i < n := by
  unfold ixN at h
  by_cases h0 : 0 ≤ i
  · rw [if_pos h0] at h
    by_cases h1 : i < n
    · rw [if_pos h1] at h
      have e : i.toNat = j := Option.some.inj h
      exact ⟨by rw [seqIndex_of h0 h1, e], by omega, by omega, h1⟩
    · rw [if_neg h1] at h; cases h
  · rw [if_neg h0] at h
    by_cases h1 : -(n : Int) ≤ i
    · rw [if_pos h1] at h
      have e : (i + n).toNat = j := Option.some.inj h
      exact ⟨by rw [seqIndex_neg (by omega) h1, e], by omega, h1, by omega⟩
    · rw [if_neg h1] at h; cases h
theorem atI_get {α : Type} {xs : List α} {i : Int} {v : α} (h : atI xs i = some v) : ∃ j, seqIndex? i xs.length = some j ∧ xs[j]? = some v ∧ j < xs.length ∧ -(xs.length : Int) ≤ i ∧ i < xs.length := by
  unfold atI at h
  cases e : ixN xs.length i with
  | none => rw [e] at h; cases h
  | some j =>
    rw [e] at h
    obtain ⟨h1, h2, h3, h4⟩ := ixN_seq e
    exact ⟨j, h1, h, h2, h3, h4⟩
noncomputable def PlainIx (b : Expr) : Prop := ∀ o i, subscripted b false o i = operate [o, i] (getItem o i)
noncomputable def IxR (X : Cx) (r : R2) : Prop :=
  ∀ (value slice : Expr) (pins : List (Addr × Obj)) (s : Shared) (σ : St) (H : Hp) (x y : V) (v u : Value) (Q : VK), Inv X pins σ H s → RelV x v → RelV y u → r x y H Q →
    subscripted slice false v u = operate [v, u] (getItem v u) → wpAny (model X.prog X.w) X.A (subscriptTail value slice v u) (EP X pins σ Q) X.xe s
noncomputable def MtR (X : Cx) (id : String) (r : V → List V → Hp → VK → Prop) : Prop :=
  ∀ (pins : List (Addr × Obj)) (s : Shared) (σ : St) (H : Hp) (x : V) (xs : List V) (v : Value) (us : List Value) (Q : VK), Inv X pins σ H s → RelV x v → Vals xs us → r x xs H Q →
    wpAny (model X.prog X.w) X.A (call (.builtin id) (v :: us)) (EP X pins σ Q) X.xe s
section
variable {X : Cx} {a b : Expr} {ta tb : TE} {pos : Pos}
theorem pe_ix {r : R2} (hr : IxR X r) (ha : PE X a ta) (hb : PE X b tb) (hs : PlainIx b) : PE X (.Subscript a b pos) (tOp r ta tb) := by
  intro pins s σ H Q I h
  exact Subscript_ (binT ha hb I h fun v u s2 x y H2 I2 rx ry q => hr a b pins s2 σ H2 x y v u Q I2 rx ry q (hs _ _))
noncomputable def rIxL (K : PySem.W.Frag) : R2 := fun x y H Q => ∃ p xs i v, x = .ref p ∧ y = .int i ∧ SqL K H p xs ∧ atI xs i = some v ∧ Q v H
noncomputable def rIxT (K : PySem.W.Frag) : R2 := fun x y H Q => ∃ p xs i v, x = .ref p ∧ y = .int i ∧ SqT K H p xs ∧ atI xs i = some v ∧ Q v H
noncomputable def rIxS : R2 := fun x y H Q => ∃ z i c, x = .str z ∧ y = .int i ∧ z.length ≤ sizeLine ∧ atI z.cps.toList i = some c ∧ Q (.str ⟨#[c]⟩) H
theorem ix_list : IxR X (rIxL X.K) := by
  intro value slice pins s σ H x y v u Q I rx ry h hs
  obtain ⟨p, xs, i, z, rfl, rfl, hq, he, q⟩ := h
  cases rx
  obtain ⟨t, rfl⟩ := ry
  obtain ⟨its, r, pl, hz⟩ := I.list hq
  obtain ⟨j, h1, h2, h3, h4, h5⟩ := atI_get he
  obtain ⟨w, ew, rw'⟩ := r.get h2
  have hl := r.length
  have hn := line63
  have fin : EP X pins σ Q w s := ⟨z, H, I, rw', q⟩
  by_cases h0 : 0 ≤ i
  · have hj : i.toNat = j := by
      rw [seqIndex_of h0 h5] at h1
      exact Option.some.inj h1
    exact item_listR pl.isList h0 (by omega) (by rw [hj]; simpa using ew) fin hs
  · have hj : (i + (its.toArray.size : Int)).toNat = j := by
      rw [seqIndex_neg (by omega) h4] at h1
      rw [List.size_toArray, ← hl]
      exact Option.some.inj h1
    exact subscriptTail_builtinR (x := w) pl.isList.typeIs slot_list_getitem.lookup
      (wpAny_getItem_list_neg (Q := fun r s' => r = w ∧ EP X pins σ Q r s') pl.isList (by omega) (by rw [List.size_toArray] <;> omega) (by omega) (by rw [hj]; simpa using ew) ⟨rfl, fin⟩) hs
theorem ix_tup : IxR X (rIxT X.K) := by
  intro value slice pins s σ H x y v u Q I rx ry h hs
  obtain ⟨p, xs, i, z, rfl, rfl, hq, he, q⟩ := h
  cases rx
  obtain ⟨t, rfl⟩ := ry
  obtain ⟨its, r, pl, hz⟩ := I.tuple hq
  obtain ⟨j, h1, h2, h3, h4, h5⟩ := atI_get he
  obtain ⟨w, ew, rw'⟩ := r.get h2
  have hl := r.length
  have hn := line63
  have fin : EP X pins σ Q w s := ⟨z, H, I, rw', q⟩
  exact subscriptTail_builtinR (x := w) pl.typeIs slot_tuple_getitem.lookup
    (getItem_tuple (j := j) (Q := fun r s' => r = w ∧ EP X pins σ Q r s') pl (by omega) (by omega) (by rw [List.size_toArray, ← hl]; exact h1) (by simpa using ew) ⟨rfl, fin⟩) hs
theorem ix_str : IxR X rIxS := by
  intro value slice pins s σ H x y v u Q I rx ry h hs
  obtain ⟨z, i, c, rfl, rfl, hz, he, q⟩ := h
  obtain ⟨t, rfl⟩ := rx
  obtain ⟨t', rfl⟩ := ry
  obtain ⟨j, h1, h2, h3, h4, h5⟩ := atI_get he
  have hl : z.cps.toList.length = z.length := by simp [Str.length]
  rw [hl] at h1 h4 h5
  have hn := line63
  exact tail_any (typeIs_str s z t) slot_str_getitem.lookup (getItem_str (c := c) (by
    have e1 : decide (i < -(2 ^ 63 : Int)) = false := decide_eq_false (by omega)
    have e2 : decide (i ≥ 2 ^ 63) = false := decide_eq_false (by omega)
    rw [e1, e2, Bool.or_false]) (by rw [h1]; simpa using h2) ⟨.str ⟨#[c]⟩, H, I.tok _, ⟨_, rfl⟩, q⟩) hs
noncomputable def rIx (K : PySem.W.Frag) : R2 := fun x y H Q => rIxL K x y H Q ∨ rIxT K x y H Q ∨ rIxS x y H Q
noncomputable def rSetL : V → V → V → Hp → (Hp → Prop) → Prop := fun o i v H Q => ∃ p xs k j, o = .ref p ∧ i = .int k ∧ H p = some (.lst xs) ∧ ixN xs.length k = some j ∧ Q (upd H p (.lst (xs.set j v)))
theorem slice_bounds (lo hi : Option Int) (n : Nat) : (sliceBounds lo hi none n).1 = ((HT.sIx n 0 lo : Nat) : Int) ∧ (sliceBounds lo hi none n).2.1 = ((HT.sIx n n hi : Nat) : Int) ∧ (sliceBounds lo hi none n).2.2 = 1 := by
  refine ⟨?_, ?_, rfl⟩
  · cases lo with
    | none => simp [sliceBounds, HT.sIx]
    | some i =>
      simp only [sliceBounds, HT.sIx, Option.getD_none, show (1 : Int) > 0 by decide, if_true]
      by_cases h : i < 0
      · simp only [h, if_true] <;> omega
      · simp only [h, if_false] <;> omega
  · cases hi with
    | none => simp [sliceBounds, HT.sIx]
    | some i =>
      simp only [sliceBounds, HT.sIx, Option.getD_none, show (1 : Int) > 0 by decide, if_true]
      by_cases h : i < 0
      · simp only [h, if_true] <;> omega
      · simp only [h, if_false] <;> omega
theorem slicePick_cut (its : List Value) (lo hi : Option Int) : slicePick its.toArray lo hi none = ((its.drop (HT.sIx its.length 0 lo)).take (HT.sIx its.length its.length hi - HT.sIx its.length 0 lo)).toArray := by
  obtain ⟨h1, h2, h3⟩ := slice_bounds lo hi its.toArray.size
  unfold slicePick
  rw [h1, h2, h3]
  simp only [sliceRange_one, pick_run, List.size_toArray] <;> rfl
noncomputable def rSlL (K : PySem.W.Frag) : V → Option Int → Option Int → Hp → VK → Prop := fun x lo hi H Q => ∃ a xs, x = .ref a ∧ SqL K H a xs ∧ ∀ p, H p = none → Q (.ref p) (upd H p (.lst (cutV xs lo hi)))
theorem sl_list : SlR X (rSlL X.K) := by
  intro pins s σ H x v vl vu lo hi sl Q I rx hs pl pu h
  obtain ⟨a, xs, rfl, hx, q⟩ := h
  cases rx
  obtain ⟨its, r, ht, hz⟩ := I.list hx
  have hlen := r.length
  refine ⟨"list", _, slot_list_getitem.lookup, ht.isList.typeIs, ?_⟩
  refine wpAny_getItem_list_slice ht.isList hs pl pu .none (by simp) ?_ (by rw [List.size_toArray] <;> omega)
  rw [slicePick_cut, ← hlen]
  refine ⟨.ref s.heap.objs.size, _, I.laid (t' := s.toks) (o := .lst (cutV xs lo hi)) (fun b ob q => Heap.get?_push_of_some _ q) (Nat.le_refl _) ?_, rfl, q _ (I.hok.fresh (Nat.le_refl _))⟩
  exact ⟨Nat.le_trans (cutV_length xs lo hi) hz, _, 0, (r.drop (HT.sIx xs.length 0 lo)).take (HT.sIx xs.length xs.length hi - HT.sIx xs.length 0 lo), Heap.get?_push_size _ rfl⟩
noncomputable def flatV : V → Bool
  | .non => true
  | .bl _ => true
  | .int _ => true
  | .str _ => true
  | _ => false
noncomputable def eqV : V → V → Bool
  | .non, .non => true
  | .bl a, .bl b => a == b
  | .bl a, .int b => (if a then 1 else 0) == b
  | .int a, .bl b => a == (if b then 1 else 0)
  | .int a, .int b => a == b
  | .str a, .str b => a == b
  | _, _ => false
theorem eqAt_V {A : Around} {s : Shared} {y x : V} {u v : Value} (ry : RelV y u) (rx : RelV x v) (fy : flatV y = true) (fx : flatV x = true) : SeqAt.EqAt A s u v (eqV y x) := by
  cases y with
  | non =>
    cases ry
    cases x with
    | non => cases rx; exact SeqAt.EqAt.same _
    | bl b => cases rx; exact SeqAt.EqAt.none_bool b
    | int b => obtain ⟨t, rfl⟩ := rx; exact SeqAt.EqAt.none_int b t
    | str b => obtain ⟨t, rfl⟩ := rx; exact SeqAt.EqAt.none_str b t
    | _ => exact absurd (show false = true from fx) Bool.false_ne_true
  | bl a =>
    cases ry
    cases x with
    | non => cases rx; exact SeqAt.EqAt.bool_none a
    | bl b => cases rx; exact SeqAt.EqAt.bool_bool a b
    | int b => obtain ⟨t, rfl⟩ := rx; exact SeqAt.EqAt.bool_int a b t
    | str b => obtain ⟨t, rfl⟩ := rx; exact SeqAt.EqAt.bool_str a b t
    | _ => exact absurd (show false = true from fx) Bool.false_ne_true
  | int a =>
    obtain ⟨t', rfl⟩ := ry
    cases x with
    | non => cases rx; exact SeqAt.EqAt.int_none a t'
    | bl b => cases rx; exact SeqAt.EqAt.int_bool a t' b
    | int b => obtain ⟨t, rfl⟩ := rx; exact SeqAt.EqAt.int_int a t' b t
    | str b => obtain ⟨t, rfl⟩ := rx; exact SeqAt.EqAt.int_str a t' b t
    | _ => exact absurd (show false = true from fx) Bool.false_ne_true
  | str a =>
    obtain ⟨t', rfl⟩ := ry
    cases x with
    | non => cases rx; exact SeqAt.EqAt.str_none a t'
    | bl b => cases rx; exact SeqAt.EqAt.str_bool a t' b
    | int b => obtain ⟨t, rfl⟩ := rx; exact SeqAt.EqAt.str_int a t' b t
    | str b => obtain ⟨t, rfl⟩ := rx; exact SeqAt.EqAt.str_str a t' b t
    | _ => exact absurd (show false = true from fx) Bool.false_ne_true
  | _ => exact absurd (show false = true from fy) Bool.false_ne_true
noncomputable def eqU (x : V) (u : Value) : Bool := match u with
  | .none => eqV .non x
  | .bool b => eqV (.bl b) x
  | .int i _ => eqV (.int i) x
  | .str z _ => eqV (.str z) x
  | _ => false
noncomputable def inV (x : V) (xs : List V) : Bool := xs.any fun y => eqV y x
noncomputable def rIn (K : PySem.W.Frag) (neg : Bool) : R2 := fun x y H Q => ∃ p xs, y = .ref p ∧ (SqL K H p xs ∨ SqT K H p xs) ∧ flatV x = true ∧ xs.all flatV = true ∧ Q (.bl (if neg then !inV x xs else inV x xs)) H
theorem call_len_seq : CallR X (.builtin "len") (fun xs H Q => ∃ p ys, xs = [.ref p] ∧ (SqL X.K H p ys ∨ SqT X.K H p ys) ∧ Q (.int ys.length) H) := by
  intro pins s σ H xs us Q I r h
  obtain ⟨p, ys, rfl, hq, q⟩ := h
  obtain ⟨u, rfl, rx⟩ := vals1 r
  cases rx
  have hn := line63
  rcases hq with hq | hq
  · obtain ⟨its, r', pl, hz⟩ := I.list hq
    have hlen := r'.length
    exact Calls.call_len_list pl.isList (by simp only [List.size_toArray] <;> omega) ⟨.int ys.length, H, I.tok _, ⟨s.toks + 1, by rw [List.size_toArray, hlen]⟩, q⟩
  · obtain ⟨its, r', pl, hz⟩ := I.tuple hq
    have hlen := r'.length
    exact len_tuple pl (by simp only [List.size_toArray] <;> omega) ⟨.int ys.length, H, I.tok _, ⟨s.toks + 1, by rw [List.size_toArray, hlen]⟩, q⟩
theorem call_len_str : CallR X (.builtin "len") (fun xs H Q => ∃ z, xs = [.str z] ∧ z.length ≤ sizeLine ∧ Q (.int z.length) H) := by
  intro pins s σ H xs us Q I r h
  obtain ⟨z, rfl, hz, q⟩ := h
  obtain ⟨u, rfl, t, rfl⟩ := vals1 r
  have hn := line63
  exact len_str (by omega) ⟨.int z.length, H, I.tok _, ⟨_, rfl⟩, q⟩
theorem call_list_of : CallR X (.type "list") (fun xs H Q => ∃ p ys, xs = [.ref p] ∧ (SqL X.K H p ys ∨ SqT X.K H p ys) ∧ ∀ l, H l = none → Q (.ref l) (upd H l (.lst ys))) := by
  intro pins s σ H xs us Q I r h
  obtain ⟨p, ys, rfl, hq, q⟩ := h
  obtain ⟨u, rfl, rx⟩ := vals1 r
  cases rx
  have fin : ∀ (its : List Value), Vals ys its → ys.length ≤ sizeLine → ∀ (h' : Heap) (c' : Nat), (∀ b o', s.heap.get? b = some o' → h'.get? b = some o') →
      h'.get? s.heap.objs.size = some { cls := .type "list", dict := none, data := .seq its.toArray c', slots := #[] } → EP X pins σ Q (.ref s.heap.objs.size) { s with heap := h' } := fun its r' hz h' c' kp e =>
    ⟨.ref s.heap.objs.size, _, I.laid (t' := s.toks) kp (Nat.le_refl _) (show ObjOk X.prog X.w _ h' _ (.lst ys) from ⟨hz, its, c', r', e⟩), rfl, q _ (I.hok.fresh (Nat.le_refl _))⟩
  rcases hq with hq | hq
  · obtain ⟨its, r', pl, hz⟩ := I.list hq
    have hlen := r'.length
    obtain ⟨o, ho, hc, n, hd⟩ := pl.isList
    exact call_list_seq p (.inl rfl) ho hc hd (fun h' c' kp e => fin its r' hz h' c' kp e) (by simp only [List.size_toArray] <;> omega)
  · obtain ⟨its, r', pl, hz⟩ := I.tuple hq
    have hlen := r'.length
    obtain ⟨o, ho, hc, n, hd⟩ := pl
    exact call_list_seq p (.inr rfl) ho hc hd (fun h' c' kp e => fin its r' hz h' c' kp e) (by simp only [List.size_toArray] <;> omega)
theorem call_tuple_of : CallR X (.type "tuple") (fun xs H Q => ∃ p ys, xs = [.ref p] ∧ ((SqL X.K H p ys ∧ ∀ l, H l = none → Q (.ref l) (upd H l (.tup ys))) ∨ (SqT X.K H p ys ∧ Q (.ref p) H))) := by
  intro pins s σ H xs us Q I r h
  obtain ⟨p, ys, rfl, h⟩ := h
  obtain ⟨u, rfl, rx⟩ := vals1 r
  cases rx
  rcases h with ⟨hq, q⟩ | ⟨hq, q⟩
  · obtain ⟨its, r', pl, hz⟩ := I.list hq
    have hlen := r'.length
    refine call_tuple_list pl.isList (fun h' kp => ?_) (by simp only [List.size_toArray] <;> omega)
    have I1 : Inv X pins σ H { s with heap := h' } := I.kept (t' := s.toks) kp
    have I2 : Inv X pins σ (upd H h'.objs.size (.tup ys)) { s with heap := h'.push { cls := .type "tuple", data := .seq its.toArray } } :=
      I1.laid (t' := s.toks) (fun b o e => Heap.get?_push_of_some _ e) (Nat.le_refl _) (show ObjOk X.prog X.w _ _ _ (.tup ys) from ⟨hz, its, r', IsTup.new _ _⟩)
    exact ⟨.ref h'.objs.size, _, I2, rfl, q _ (I1.hok.fresh (Nat.le_refl _))⟩
  · obtain ⟨its, r', pl, hz⟩ := I.tuple hq
    exact call_tuple_same pl ⟨.ref p, H, I, rfl, q⟩
noncomputable def tyV (K : PySem.W.Frag) (T : String) (x : V) (H : Hp) : Prop := match x with
  | .str _ => T = "str"
  | .int _ => T = "int"
  | .ref p => (T = "list" ∧ ∃ xs, SqL K H p xs) ∨ (T = "tuple" ∧ ∃ o, K.lookup p = some o ∧ o.cls = .type "tuple" ∧ o.dict = none) ∨
      (T = "dict" ∧ ((∃ kvs, H p = some (.dK kvs)) ∨ ∃ kvs, H p = some (.dT kvs))) ∨ (T = "set" ∧ ∃ S n, H p = some (.set S n))
  | _ => False
theorem tyV_is {pins : List (Addr × Obj)} {σ : St} {H : Hp} {s : Shared} {T : String} {x : V} {v : Value} (I : Inv X pins σ H s) (r : RelV x v) (ty : tyV X.K T x H) :
    s.TypeIs v T ∧ ∀ a, v = .ref a → ∃ ob, s.heap.get? a = some ob ∧ ob.dict = none := by
  cases x with
  | str z =>
    obtain ⟨t, rfl⟩ := r
    cases (show T = "str" from ty)
    exact ⟨typeIs_str s z t, fun _ e => nomatch e⟩
  | int i =>
    obtain ⟨t, rfl⟩ := r
    cases (show T = "int" from ty)
    exact ⟨typeIs_int s i t, fun _ e => nomatch e⟩
  | ref p =>
    cases r
    rcases ty with ⟨rfl, xs, hq⟩ | ⟨rfl, o, hk, hc, hd⟩ | ⟨rfl, hk⟩ | ⟨rfl, S, n, hk⟩
    · obtain ⟨its, _, pl, _⟩ := I.list hq
      refine ⟨pl.isList.typeIs, fun a e => ?_⟩
      cases e
      obtain ⟨o, n, e, c, hd, _⟩ := pl
      exact ⟨o, e, hd⟩
    · refine ⟨⟨o, I.kIn p o hk, hc⟩, fun a e => ?_⟩
      cases e
      exact ⟨o, I.kIn _ o hk, hd⟩
    · have z : ∃ o, s.heap.get? p = some o ∧ o.ExactDict := by
        rcases hk with ⟨kvs, hk⟩ | ⟨kvs, hk⟩
        · obtain ⟨_, _, _, _, o, _, _, e, ex, _⟩ := I.hok p _ hk
          exact ⟨o, e, ex⟩
        · obtain ⟨_, _, _, _, o, _, _, e, ex, _⟩ := I.hok p _ hk
          exact ⟨o, e, ex⟩
      obtain ⟨o, e, ex⟩ := z
      refine ⟨⟨o, e, ex.1⟩, fun a e2 => ?_⟩
      cases e2
      exact ⟨o, e, ex.2.1⟩
    · obtain ⟨o, _, _, _, e, ex, _⟩ := I.hok p _ hk
      refine ⟨⟨o, e, ex.1⟩, fun a e2 => ?_⟩
      cases e2
      exact ⟨o, e, ex.2.1⟩
  | _ => exact False.elim ty
noncomputable def tBM0 (K : PySem.W.Frag) (T : String) (r : V → List V → Hp → VK → Prop) (to : TE) : TE := fun σ H Q => to σ H fun x H1 => tyV K T x H1 ∧ r x [] H1 Q
noncomputable def tBM (K : PySem.W.Frag) (T : String) (r : V → List V → Hp → VK → Prop) (to : TE) (t : TA) : TE := fun σ H Q => to σ H fun x H1 => tyV K T x H1 ∧ t σ H1 fun xs H2 => r x xs H2 Q
variable {o e : Expr} {es : List Expr} {to : TE} {t : TA} {name : Str} {apos cpos : Pos} {T id : String} {r : V → List V → Hp → VK → Prop}
theorem pe_bm0 (pa : PlainAttrs T) (slot : Slot T name id) (hty : typeOf (.builtin id) = pure (.type "method_descriptor")) (hm : MtR X id r) (ho : PE X o to)
    (hbase : attributeBase o name X.env (eval o X.env) = eval o X.env := by rfl) (hline : (apos.endLine == cpos.line) = true := by rfl) : PE X (.Call (.Attribute o name apos) [] [] cpos) (tBM0 X.K T r to) := by
  intro pins s σ H Q I h
  refine wpAny_Call_method0_late hbase hline (thn (ho pins s σ H _ I h) fun v s1 ⟨x, H1, I1, r1, ty, q1⟩ => ?_)
  obtain ⟨h1, h2⟩ := tyV_is I1 r1 ty
  exact ⟨T, id, pa, slot, hty, h1, h2, Calls.callWith_builtin rfl (PySem.evalArgs_none (hm pins s1 σ H1 x [] v [] Q I1 r1 .nil q1))⟩
theorem pe_bm (pa : PlainAttrs T) (slot : Slot T name id) (hty : typeOf (.builtin id) = pure (.type "method_descriptor")) (hm : MtR X id r) (ho : PE X o to) (ha : PA X (e :: es) t)
    (hbase : attributeBase o name X.env (eval o X.env) = eval o X.env := by rfl)
    (hfew : ((backTo cpos (starEach (e :: es) X.env)).all (fun x => !x.1) && (backToKw cpos (keywordEach [] X.env)).all (fun x => x.1.isSome)
      && decide ((e :: es).length + ([] : List Keyword).length + (if ([] : List Keyword).isEmpty then 0 else 1) < 30)) = true := by rfl)
    (hline : (apos.endLine == cpos.line) = true := by rfl) (hs : starEach (e :: es) X.env = (false, eval e X.env) :: starEach es X.env := by rfl) (hplain : (backTo cpos (starEach es X.env)).any (·.1) = false := by rfl) :
    PE X (.Call (.Attribute o name apos) (e :: es) [] cpos) (tBM X.K T r to t) := by
  intro pins s σ H Q I h
  refine wpAny_Call_method_late hbase hfew hline rfl (thn (ho pins s σ H _ I h) fun v s1 ⟨x, H1, I1, r1, ty, q1⟩ => ?_)
  obtain ⟨h1, h2⟩ := tyV_is I1 r1 ty
  refine ⟨T, id, pa, slot, hty, h1, h2, ?_⟩
  have hA := ha cpos pins s1 σ H1 _ I1 q1
  rw [hs] at hA ⊢
  refine Calls.callWith_builtin (by show (false || (backTo cpos (starEach es X.env)).any (·.1)) = false; rw [hplain] <;> rfl) (Calls.evalArgs_plain ?_)
  exact thn hA fun us s2 ⟨vs, H2, I2, r2, q2⟩ => hm pins s2 σ H2 x vs v us Q I2 r1 r2 q2
end
end L2
namespace L2
open PySem PySem.Spec PyProof.Rows
noncomputable def MtM (X : Cx) (id : String) (r : V → List V → Hp → VK → Prop) : Prop :=
  ∀ (pins : List (Addr × Obj)) (s : Shared) (σ : St) (H : Hp) (x : V) (xs : List V) (v : Value) (us : List Value) (Q : VK), Inv X pins σ H s → RelV x v → Vals xs us → r x xs H Q →
    wpAny (model X.prog X.w) X.A (call (.builtin id) (v :: us)) (EP X pins σ Q) X.xe s
theorem Vals.one : ∀ {x : V} {us : List Value}, Vals [x] us → ∃ u, us = [u] ∧ RelV x u
  | _, _, .cons r .nil => ⟨_, rfl, r⟩
theorem Vals.zero : ∀ {us : List Value}, Vals [] us → us = []
  | _, .nil => rfl
theorem Vals.dropLast {xs : List V} {us : List Value} (h : Vals xs us) : Vals xs.dropLast us.dropLast := by
  induction h with
  | nil => exact .nil
  | cons r t ih =>
    cases t with
    | nil => exact .nil
    | cons q t' => exact .cons r ih
theorem Vals.eraseIdx : ∀ {xs : List V} {us : List Value} (i : Nat), Vals xs us → Vals (xs.eraseIdx i) (us.eraseIdx i)
  | _, _, _, .nil => .nil
  | _, _, 0, .cons _ t => t
  | _, _, i + 1, .cons r t => .cons r (Vals.eraseIdx i t)
theorem Vals.rep {xs : List V} {us : List Value} (h : Vals xs us) : ∀ k : Nat, Vals (List.replicate k xs).flatten (List.replicate k us).flatten
  | 0 => .nil
  | k + 1 => by
    rw [List.replicate_succ, List.replicate_succ, List.flatten_cons, List.flatten_cons]
    exact Vals.append h (Vals.rep h k)
theorem erase_last {α : Type} (l : List α) : l.eraseIdx (l.length - 1) = l.dropLast := by
  induction l with
  | nil => rfl
  | cons a r ih =>
    cases r with
    | nil => rfl
    | cons b r =>
      have e : (a :: b :: r).length - 1 = ((b :: r).length - 1) + 1 := by
        have h1 : (a :: b :: r).length = r.length + 2 := rfl
        have h2 : (b :: r).length = r.length + 1 := rfl
        omega
      rw [e, List.eraseIdx_cons_succ, ih]
      all_goals rfl
theorem len_erase {α : Type} : ∀ (l : List α) (i : Nat), (l.eraseIdx i).length ≤ l.length
  | [], _ => Nat.le_refl _
  | _ :: _, 0 => Nat.le_succ _
  | _ :: r, i + 1 => Nat.succ_le_succ (len_erase r i)
theorem foldl_rep (its : List Value) : ∀ (k : Nat) (acc : List Value),
    List.foldl (fun x1 x2 => x1 ++ x2) acc.toArray (List.replicate k its.toArray) = (acc ++ (List.replicate k its).flatten).toArray
  | 0, acc => by simp
  | k + 1, acc => by
    have e : acc.toArray ++ its.toArray = (acc ++ its).toArray := by simp
    have e2 : (acc ++ its) ++ (List.replicate k its).flatten = acc ++ (List.replicate (k + 1) its).flatten := by
      rw [List.replicate_succ, List.flatten_cons, List.append_assoc]
    rw [← e2, ← foldl_rep its k (acc ++ its), ← e, List.replicate_succ, List.foldl_cons]
section
variable {X : Cx} {pins : List (Addr × Obj)} {σ : St} {H : Hp} {s : Shared} {l b : Addr} {xs ys zs : List V}
theorem Inv.lset {its its' : List Value} {n : Nat} {f : Array Value → Array Value} {t' : Nat} (I : Inv X pins σ H s) (hH : H l = some (.lst xs))
    (e : s.heap.get? l = some { cls := .type "list", data := .seq its.toArray n }) (hf : f its.toArray = its'.toArray) (hv : Vals ys its') (hz : ys.length ≤ sizeLine) :
    Inv X pins σ (upd H l (.lst ys)) { s with heap := s.heap.update l (Obj.mapSeq f), toks := t' } := by
  have q := PySem.IsL.update e f
  rw [hf] at q
  refine I.write (x := l) (e := l) (by rw [hH]; exact trivial) (.inl rfl) (fun b' u hb hu => (Heap.get?_update_other s.heap (Obj.mapSeq f) (Ne.symm hb)).trans hu) ⟨_, q⟩ ?_
  exact ⟨hz, its', _, hv, q⟩
theorem Inv.lnew {its : List Value} {t' : Nat} (I : Inv X pins σ H s) (hv : Vals ys its) (hz : ys.length ≤ sizeLine) :
    Inv X pins σ (upd H s.heap.objs.size (.lst ys)) { s with heap := s.heap.push { cls := .type "list", data := .seq its.toArray }, toks := t' } :=
  I.laid (fun _ _ q => Heap.get?_push_of_some _ q) (Nat.le_refl _) ⟨hz, its, 0, hv, Heap.get?_push_size _ rfl⟩
theorem Inv.fresh (I : Inv X pins σ H s) : H s.heap.objs.size = none := I.hok.fresh (Nat.le_refl _)
theorem Inv.lstM (I : Inv X pins σ H s) (hH : H l = some (.lst xs)) : xs.length ≤ sizeLine ∧ ∃ (its : List Value) (n : Nat), Vals xs its ∧ xs.length = its.length ∧ s.heap.get? l = some { cls := .type "list", data := .seq its.toArray n } := by
  obtain ⟨z, its, n, r, e⟩ := I.hok l _ hH
  exact ⟨z, its, n, r, r.length, e⟩
theorem notLongL {n : Nat} (h : n ≤ sizeLine) : Builtin.List.listTooLong n = false := by
  unfold Builtin.List.listTooLong
  exact decide_eq_false (by omega)
end
section
variable {X : Cx}
noncomputable def rAppend : V → List V → Hp → VK → Prop := fun x vs H Q => ∃ l xs y, x = .ref l ∧ vs = [y] ∧ H l = some (.lst xs) ∧ xs.length < sizeLine ∧ Q .non (upd H l (.lst (xs ++ [y])))
theorem mt_append : MtM X "list.append" rAppend := by
  intro pins s σ H x vs v us Q I rx rv h
  obtain ⟨l, xs, y, rfl, rfl, hH, hz, q⟩ := h
  cases rx
  obtain ⟨u, rfl, ru⟩ := rv.one
  obtain ⟨z, its, n, r, hl, e⟩ := I.lstM hH
  refine call_meets F.slot_list_append ⟨_, e, rfl⟩ F.entry_list_append (F.args_list_append_2 _ _) (PySem.list_append l its.toArray n u (by rw [List.size_toArray]; omega)) ⟨e, ?_⟩
  refine ⟨.non, _, I.lset (its' := its ++ [u]) hH e (by simp) (r.append (.cons ru .nil)) ?_, rfl, q⟩
  rw [List.length_append, List.length_singleton]
  omega
noncomputable def rExtend : V → List V → Hp → VK → Prop := fun x vs H Q => ∃ l b xs zs, x = .ref l ∧ vs = [.ref b] ∧ H l = some (.lst xs) ∧ H b = some (.lst zs) ∧ xs.length + zs.length ≤ sizeLine ∧ Q .non (upd H l (.lst (xs ++ zs)))
theorem mt_extend : MtM X "list.extend" rExtend := by
  intro pins s σ H x vs v us Q I rx rv h
  obtain ⟨l, b, xs, zs, rfl, rfl, hH, hB, hz, q⟩ := h
  cases rx
  obtain ⟨u, rfl, ru⟩ := rv.one
  cases ru
  obtain ⟨z, its, n, r, hl, e⟩ := I.lstM hH
  obtain ⟨z2, its2, n2, r2, hl2, e2⟩ := I.lstM hB
  have hsz : its.toArray.size + its2.toArray.size ≤ sizeLine := by rw [List.size_toArray, List.size_toArray]; omega
  have hlong : ¬ (!its.toArray.isEmpty && Builtin.List.listTooLong (its.toArray.size + its2.toArray.size)) = true := by
    rw [notLongL hsz, Bool.and_false]
    exact Bool.false_ne_true
  refine call_meets F.slot_list_extend ⟨_, e, rfl⟩ F.entry_list_extend (F.args_list_extend_2 _ _)
    (AutoSeq1.list_extend_list_list_0 l its.toArray n b its2.toArray n2 hlong (by rw [List.size_toArray]; omega) (by omega)) ⟨e, e2, ?_⟩
  refine ⟨.non, _, I.lset (its' := its ++ its2) hH e (by simp) (r.append r2) ?_, rfl, q⟩
  rw [List.length_append]
  omega
noncomputable def rPop : V → List V → Hp → VK → Prop := fun x vs H Q => ∃ l xs y, x = .ref l ∧ vs = [] ∧ H l = some (.lst xs) ∧ xs[xs.length - 1]? = some y ∧ Q y (upd H l (.lst xs.dropLast))
theorem mt_pop : MtM X "list.pop" rPop := by
  intro pins s σ H x vs v us Q I rx rv h
  obtain ⟨l, xs, y, rfl, rfl, hH, hy, q⟩ := h
  cases rx
  have hus := rv.zero
  subst hus
  obtain ⟨z, its, n, r, hl, e⟩ := I.lstM hH
  obtain ⟨u, hu, ru⟩ := r.get hy
  have hy' : its.toArray[its.toArray.size - 1]? = some u := by
    show its.toArray[its.length - 1]? = some u
    rw [← Array.getElem?_toList, ← hl]
    exact hu
  refine call_meets F.slot_list_pop ⟨_, e, rfl⟩ F.entry_list_pop (F.args_list_pop_1 _) (MeetsSeq.list_pop_last l its.toArray n u hy' (by rw [List.size_toArray]; omega)) ⟨e, ?_⟩
  refine ⟨y, _, I.lset (its' := its.dropLast) hH e ?_ r.dropLast ?_, ru, q⟩
  · show its.toArray.eraseIdxIfInBounds (its.toArray.size - 1) = its.dropLast.toArray
    rw [List.size_toArray, List.eraseIdxIfInBounds_toArray, erase_last]
  · rw [List.length_dropLast]
    omega
noncomputable def rPopAt : V → List V → Hp → VK → Prop := fun x vs H Q => ∃ l xs i k y, x = .ref l ∧ vs = [.int i] ∧ H l = some (.lst xs) ∧ -(2 ^ 63) ≤ i ∧ i < 2 ^ 63 ∧ seqIndex? i xs.length = some k ∧ xs[k]? = some y ∧ Q y (upd H l (.lst (xs.eraseIdx k)))
theorem mt_popAt : MtM X "list.pop" rPopAt := by
  intro pins s σ H x vs v us Q I rx rv h
  obtain ⟨l, xs, i, k, y, rfl, rfl, hH, h1, h2, hk, hy, q⟩ := h
  cases rx
  obtain ⟨u, rfl, ru⟩ := rv.one
  obtain ⟨t, rfl⟩ := ru
  obtain ⟨z, its, n, r, hl, e⟩ := I.lstM hH
  obtain ⟨w, hw, rw'⟩ := r.get hy
  refine call_meets F.slot_list_pop ⟨_, e, rfl⟩ F.entry_list_pop (F.args_list_pop_2 _ _)
    (MeetsSeq.list_pop_at l its.toArray n i t k w (fitsIndex_both h1 h2) (by rw [List.size_toArray, ← hl]; exact hk) (by rw [← Array.getElem?_toList]; exact hw) (by rw [List.size_toArray]; omega)) ⟨e, ?_⟩
  refine ⟨y, _, I.lset (its' := its.eraseIdx k) hH e ?_ (r.eraseIdx k) ?_, rw', q⟩
  · show its.toArray.eraseIdxIfInBounds k = (its.eraseIdx k).toArray
    rw [List.eraseIdxIfInBounds_toArray]
  · have := len_erase xs k
    omega
noncomputable def rReverse : V → List V → Hp → VK → Prop := fun x vs H Q => ∃ l xs, x = .ref l ∧ vs = [] ∧ H l = some (.lst xs) ∧ Q .non (upd H l (.lst xs.reverse))
noncomputable def rClear : V → List V → Hp → VK → Prop := fun x vs H Q => ∃ l xs, x = .ref l ∧ vs = [] ∧ H l = some (.lst xs) ∧ Q .non (upd H l (.lst []))
theorem mt_clear : MtM X "list.clear" rClear := by
  intro pins s σ H x vs v us Q I rx rv h
  obtain ⟨l, xs, rfl, rfl, hH, q⟩ := h
  cases rx
  have hus := rv.zero
  subst hus
  obtain ⟨z, its, n, r, hl, e⟩ := I.lstM hH
  refine call_meets F.slot_list_clear ⟨_, e, rfl⟩ F.entry_list_clear (F.args_list_clear_1 _) (AutoSeq1.list_clear_list_0 l its.toArray n (by rw [List.size_toArray]; omega)) ⟨e, ?_⟩
  exact ⟨.non, _, I.lset (its' := []) (ys := []) hH e rfl .nil (Nat.zero_le _), rfl, q⟩
noncomputable def rCat : R2 := fun x y H Q => ∃ l b xs zs, x = .ref l ∧ y = .ref b ∧ H l = some (.lst xs) ∧ H b = some (.lst zs) ∧ xs.length + zs.length ≤ sizeLine ∧ ∀ p, H p = none → Q (.ref p) (upd H p (.lst (xs ++ zs)))
theorem op_cat : OpR X (binaryOp .Add) rCat := by
  intro pins s σ H x y v u Q I rx ry h
  obtain ⟨l, b, xs, zs, rfl, rfl, hH, hB, hz, q⟩ := h
  cases rx
  cases ry
  obtain ⟨z, its, n, r, hl, e⟩ := I.lstM hH
  obtain ⟨z2, its2, n2, r2, hl2, e2⟩ := I.lstM hB
  refine PySem.P.add_list e e2 ?_ (by rw [List.size_toArray, List.size_toArray]; omega)
  have ea : its.toArray ++ its2.toArray = (its ++ its2).toArray := by simp
  rw [ea]
  exact ⟨.ref _, _, I.lnew (t' := s.toks) (r.append r2) (by rw [List.length_append]; omega), rfl, q _ I.fresh⟩
noncomputable def rRep : R2 := fun x y H Q => ∃ l k xs, x = .ref l ∧ y = .int k ∧ H l = some (.lst xs) ∧ -(2 ^ 63) ≤ k ∧ k < 2 ^ 63 ∧ xs.length * k.toNat ≤ sizeLine ∧
  ∀ p, H p = none → Q (.ref p) (upd H p (.lst (List.replicate k.toNat xs).flatten))
theorem len_rep {α : Type} (xs : List α) (k : Nat) : (List.replicate k xs).flatten.length = k * xs.length := by
  induction k with
  | zero => simp
  | succ k ih => rw [List.replicate_succ, List.flatten_cons, List.length_append, ih, Nat.succ_mul, Nat.add_comm]
theorem op_rep : OpR X (binaryOp .Mult) rRep := by
  intro pins s σ H x y v u Q I rx ry h
  obtain ⟨l, k, xs, rfl, rfl, hH, h1, h2, hz, q⟩ := h
  cases rx
  obtain ⟨t, rfl⟩ := ry
  obtain ⟨z, its, n, r, hl, e⟩ := I.lstM hH
  have hlen : its.toArray.size * k.toNat ≤ sizeLine := by rw [List.size_toArray, ← hl]; exact hz
  have hcap : ¬ its.toArray.size * k.toNat > (2 ^ 63 - 1) / 8 := by
    have : (sizeLine : Nat) ≤ (2 ^ 63 - 1) / 8 := by decide
    omega
  have hfit : ¬ (!Builtin.List.listFitsIndex k) = true := by
    rw [fitsIndex_both h1 h2]
    exact Bool.false_ne_true
  have hlong : ¬ Builtin.List.listTooLong (its.toArray.size * k.toNat) = true := by
    rw [notLongL hlen]
    exact Bool.false_ne_true
  have hnew : List.foldl (fun x1 x2 => x1 ++ x2) #[] (List.replicate (if its.toArray.isEmpty = true then 0 else k.toNat) its.toArray) = (List.replicate k.toNat its).flatten.toArray := by
    have f0 : ∀ m : Nat, List.foldl (fun x1 x2 => x1 ++ x2) #[] (List.replicate m its.toArray) = (List.replicate m its).flatten.toArray := fun m => by
      have := foldl_rep its m []
      rw [List.nil_append] at this
      exact this
    rw [f0]
    cases its with
    | nil => simp
    | cons a r' => rw [if_neg (by simp)]
  refine wpAny_binaryOp_repeat_ref (T := "list") (U := "int") (by decide) ⟨_, e, rfl⟩ (fun s' => typeIs_int s' k t) noFill_list_mul F.fills_int_mul F.slot_int_rmul repeat_list F.slot_int_index.lookup
    (call_meets F.slot_int_rmul (typeIs_int s k t) F.entry_int_rmul (F.args_int_rmul_2 _ _) (int___rmul___int_list k t l its.toArray n)
      ⟨e, rfl, ⟨_, e, rfl⟩, call_meets F.slot_list_mul ⟨_, e, rfl⟩ F.entry_list_mul (F.args_list_mul_2 _ _) (AutoListH.list___mul___list_int_3 l its.toArray n k t hfit hcap hlong) ⟨e, ?_⟩⟩)
  rw [hnew]
  exact ⟨.ref _, _, I.lnew (t' := s.toks) (r.rep k.toNat) (by rw [len_rep, Nat.mul_comm]; exact hz), rfl, q _ I.fresh⟩
end
section
variable {prog : Program} {w : World} {A : Around} {E : Value → Shared → Prop} {s : Shared}
end
section
variable {X : Cx}
end
end L2
namespace Att
open PySem PySem.W PySem.Calls PyProof.Rows
theorem ints_of_wellAll {P : Params} {h : Heap} : ∀ (ns : List Int) (vs : List Value), WellAll P h vs (ns.map WData.int) → IntsAre vs ns := by
  intro ns
  induction ns with
  | nil =>
    intro vs w
    rw [List.map_nil] at w
    cases w
    exact .nil
  | cons n ns ih =>
    intro vs w
    rw [List.map_cons] at w
    cases w with
    | cons a b =>
      cases a
      exact .cons _ _ (ih _ b)
theorem script_of {l : OpenLaw} {n : Nat} (hn : l.most = some n) {P : Params} {h : Heap} {args : List WData} {vals : List Value}
    (hpre : l.row.toRowW.claim.pre args = true) (hwl : WellAll P h vals args) :
    ∃ a vs ns, vals = [Value.ref a] ∧ args = [WData.list (ns.map WData.int)] ∧ h.get? a = some { cls := .type "list", data := .seq vs.toArray } ∧ IntsAre vs ns ∧ ns.length ≤ n := by
  have hsh : WShape.hasAll [] args [.list .int] = true := (pre_splitW hpre).1
  have hc : l.pre.holds [] { args := args } = true := (pre_splitW hpre).2
  obtain ⟨d, r, rfl, h1, h2⟩ := hasAllW_cons hsh
  obtain rfl := hasAllW_nil h2
  obtain ⟨xs, rfl, h3⟩ := hasW_list h1
  obtain ⟨ns, rfl⟩ := items_int h3
  have hlen : ns.length ≤ n := by
    unfold OpenLaw.pre at hc
    have h4 : (WTm.not (.lt (.lit (.int (n : Int))) (.len (.arg 0)))).holds [] { args := [.list (ns.map .int)] } = true := by
      have h4 := (holds_andW hc).1
      rw [hn] at h4
      exact h4
    have h5 := condW_of h4 (w_not (w_lt w_lit (w_len_list (w_arg rfl))))
    rw [List.length_map] at h5
    refine Nat.le_of_not_lt fun q => ?_
    have q' : (n : Int) < ((ns.length : Nat) : Int) := by omega
    first
      | (rw [decide_eq_true q'] at h5; exact absurd h5 (by decide))
      | (simp at h5; omega)
  cases hwl with
  | cons w1 w2 =>
    cases w2
    cases w1 with
    | list ho hall => exact ⟨_, _, ns, rfl, rfl, ho, ints_of_wellAll ns _ hall, hlen⟩
theorem post_true (l : OpenLaw) (args : List WData) : l.row.toRowW.claim.post args (.bool true) args = true :=
  postW_of (r := l.row.toRowW) (X := (true == true))
    (show WShape.has [] (.bool true) .bool = true by first | rfl | decide | simp [WShape.has, WShape.arms, WShape.armsAll])
    (show (WTm.eq .res (.lit (.bool true))).value [] { args := args, res := some (.bool true), after := args } = some (.bool (true == true)) from w_eq_bool (w_res rfl) w_lit) rfl
theorem attach_call {l : OpenLaw} {n : Nat} {q : Program} {loose : List Str} {XP : (Str → Option Value) → Heap → Prop} {YP : World → Heap → Prop} {d : DefRec}
    (hn : l.most = some n) (hdf : d.params.defaults = [])
    (call : ∀ (w : World) (s₀ s₁ : Shared) (mg mb : Str → Option Value) (fa : Addr) (o : Obj) (pm cd doc : Value) (a : Addr) (vs : List Value) (ns : List Int),
      Ground q loose [] XP w s₀ mg mb s₁.heap → YP w s₁.heap →
      s₁.heap.get? fa = some o → o.data = .func (docDef d.name d.params d.body d.scope pm cd doc) → s₁.heap.CodeRec cd d.name → mg d.name = some (.ref fa) →
      s₁.heap.get? a = some { cls := .type "list", data := .seq vs.toArray } → IntsAre vs ns → ns.length ≤ n → s₁.gens = #[] →
      codeAny (model l.prog w) callerA (.call (.ref fa) ⟨[.ref a], []⟩) (fun r s' => r = .ok (.ret (.bool true)) ∧ OldK s₁.heap s'.heap ∧ s'.os = s₁.os ∧ AllBare s'.gens) s₁) :
    WalkO q loose XP YP l.row.toRowW d [] (fun f vs => PySem.call f vs) := by
  intro w s₀ s₁ mg mb G Y fa o pm cd doc dV kV ho hd hcd hD hmg hg args vals as hpre hlay hrd hwl hlo
  obtain rfl : dV = .none := Dflts.none hD hdf
  obtain rfl : kV = .none := Dflts.noKw hD
  obtain ⟨a, vs, ns, rfl, rfl, hobj, hints, hlen⟩ := script_of hn hpre hwl
  refine enter_call (codeAny_mono (call w s₀ s₁ mg mb fa o pm cd doc a vs ns G Y ho (fd_plain hd) hcd hmg hobj hints hlen hg) fun r s' hq => ?_)
  obtain ⟨rfl, h2, h3, h4⟩ := hq
  exact ⟨.inl ⟨.bool true, .bool true, [], rfl, fun _ => rfl, .bool true, post_true l _, fun _ => ⟨List.Pairwise.nil, fun _ hm => (nomatch hm)⟩⟩, h2, h3, h4⟩
section
variable {prog : Program} {w : World} {A : Around} {E : Value → Shared → Prop} {s : Shared} {K : Frag}
noncomputable def noObjs (h : Heap) : Heap := { h with objs := #[] }
noncomputable def ledger (h : Heap) (L d : Addr) : List (Addr × Obj) := (List.range h.objs.size).filterMap fun a => if a = L ∨ a = d then none else (h.get? a).map fun o => (a, o)
end
end Att
namespace L2
open PySem PySem.Spec PyProof.Rows
theorem vals_ints : ∀ {vs : List Value} {ns : List Int}, IntsAre vs ns → Vals (ns.map V.int) vs
  | _, _, .nil => .nil
  | _, _, .cons n t h => .cons ⟨t, rfl⟩ (vals_ints h)
noncomputable def Only (H : Hp) : Prop := ∀ b, H b = none ∨ ∃ o xs, H b = some (.frz o (.lst xs))
theorem law_call {P : Program} {w : World} {K : PySem.W.Frag} {mg mb : Str → Option Value} {CX : CXT} {k : Nat} {fa a : Addr} {fd : FuncData} {x : Str} {sp : Sp} {s₁ : Shared} {vs : List Value} {ns : List Int}
    (KX : K.In s₁.heap) (hns : s₁.heap.Ns mainGlobals mg) (hb : s₁.heap.Ns builtinsNs mb) (hbb : ∀ x : Str, x ≠ "__name__" → mb x = bootBuiltins x) (hlim : s₁.heap.NoLimit) (hg : s₁.gens = #[])
    (ha : s₁.heap.get? a = some { cls := .type "list", data := .seq vs.toArray }) (hi : IntsAre vs ns) (hl : ns.length ≤ sizeLine) (hr : Room k callerA)
    (F : ∀ base : Heap, K.In base → base.Ns mainGlobals mg → FnOk P w K mg base CX k fa fd [x] sp) (hbind : ∀ (s : Shared) (u : Value), BindsTo s fd ⟨[u], []⟩ [(x, u)])
    (hsp : ∀ H : Hp, Only H → SqL K H a (ns.map V.int) → sp [.ref a] H (fun v _ => v = .bl true) fun _ _ _ => False)
    (hCX : ∀ H e s', CX [] H s₁ (fun _ _ _ => False) e s' → False) :
    codeAny (model P w) callerA (.call (.ref fa) ⟨[.ref a], []⟩) (fun r s' => r = .ok (.ret (.bool true)) ∧ OldK s₁.heap s'.heap ∧ s'.os = s₁.os ∧ AllBare s'.gens) s₁ := by
  have rv := vals_ints hi
  have lenV := hi.length
  have core : ∀ H : Hp, Only H → SqL K H a (ns.map V.int) → HOk P w H s₁.heap → (∀ b, H b ≠ none → b = a) → (H a ≠ none → K.lookup a = none) →
      codeAny (model P w) callerA (.call (.ref fa) ⟨[.ref a], []⟩) (fun r s' => r = .ok (.ret (.bool true)) ∧ OldK s₁.heap s'.heap ∧ s'.os = s₁.os ∧ AllBare s'.gens) s₁ := by
    intro H hO hS hok hA hK
    have base_of : ∀ {b : Addr} {o : Obj}, s₁.heap.get? b = some o → H b = none → (hidT s₁.heap H).get? b = some o := fun e n => hidT_get e n
    have noA : ∀ {b : Addr} {o : Obj} {es : Array DictEntry} {ep : Nat}, s₁.heap.get? b = some o → o.data = .dict es ep → H b = none := fun {b o es ep} e d => by
      cases q : H b with
      | none => rfl
      | some u =>
        have e' : b = a := hA b (by rw [q]; simp)
        subst e'
        rw [ha] at e; cases e
        have d' : Data.seq vs.toArray _ = Data.dict es ep := d
        cases d'
    have nsK : ∀ {b : Addr} {m : Str → Option Value}, s₁.heap.Ns b m → (hidT s₁.heap H).Ns b m := fun {b m} ⟨o, es, ep, e, d, r⟩ => ⟨o, es, ep, base_of e (noA e d), d, r⟩
    have hKb : K.In (hidT s₁.heap H) := fun b o e => base_of (KX b o e) (by
      cases q : H b with
      | none => rfl
      | some u =>
        have e' : b = a := hA b (by rw [q]; simp)
        subst e'
        rw [hK (by rw [q]; simp)] at e; cases e)
    have hM : Mod K mg (hidT s₁.heap H) := ⟨hKb, nsK hns, ⟨mb, nsK hb, hbb⟩, let ⟨mc, h1, h2⟩ := hlim; ⟨mc, nsK h1, h2⟩⟩
    have e0 : Env0 P w K mg (hidT s₁.heap H) callerA [] s₁ H := ⟨rfl, hM, fun b o e => of_hidT e, Nat.le_of_eq (hidT_size _ _), trivial, fun b hb => absurd (show b ∈ ([] : List Addr) from hb) (by simp), hok, .of_eq hg⟩
    refine codeAny_mono ((F _ hKb (nsK hns)).run callerA [] s₁ H ⟨[.ref a], []⟩ [.ref a] [.ref a] _ _ hr e0 (hbind s₁ (.ref a)) (.cons rfl .nil) (hsp H hO hS)) fun r s' h => ?_
    cases r with
    | error e => exact (hCX H e s' h).elim
    | ok fl =>
      cases fl with
      | next => exact False.elim h
      | brk => exact False.elim h
      | cont => exact False.elim h
      | ret u =>
        obtain ⟨v, H', os, bare, un, hok', r', q⟩ := h
        have q' : v = .bl true := q
        subst q'
        obtain rfl : u = Value.bool true := r'
        refine ⟨rfl, OldK.of_keep fun b o e => ?_, os, bare⟩
        cases q : H b with
        | none => exact un.keep b o e q (by intro z; exact absurd (show b ∈ ([] : List Addr) from z) (by simp)) (by simp)
        | some u =>
          rcases hO b with z | ⟨ob, xs, z⟩
          · rw [q] at z; cases z
          · have z2 := un.frzs b ob _ z
            obtain ⟨e1, _⟩ := hok b _ z
            obtain ⟨e2, _⟩ := hok' b _ z2
            rw [e] at e1; cases e1
            exact e2
  cases hk : K.lookup a with
  | some o =>
    have e := KX a o hk
    rw [ha] at e
    cases e
    refine core (fun _ => none) (fun _ => .inl rfl) (.inr ⟨_, vs.toArray, _, hk, rfl, rfl, rfl, by rw [List.size_toArray, lenV]; exact hl, by simpa using rv⟩) (fun b u z => by have z' : (none : Option HO) = some u := z; cases z') (fun b z => absurd rfl z) fun z => absurd rfl z
  | none =>
    refine core (fun b => if b = a then some (.frz { cls := .type "list", data := .seq vs.toArray } (.lst (ns.map V.int))) else none) (fun b => ?_) (.inl (.inr ⟨{ cls := .type "list", data := .seq vs.toArray }, if_pos rfl⟩)) (fun b u z => ?_) (fun b z => ?_) fun _ => hk
    · by_cases hb : b = a
      · exact .inr ⟨_, _, if_pos hb⟩
      · exact .inl (if_neg hb)
    · by_cases hb : b = a
      · have z' := (if_pos hb).symm.trans z
        cases z'
        subst hb
        exact ⟨ha, by rw [List.length_map]; exact hl, vs, _, rv, ha⟩
      · have z' := (if_neg hb).symm.trans z
        cases z'
    · by_cases hb : b = a
      · exact hb
      · exact absurd (if_neg hb) z
end L2
namespace L2
open PySem PySem.Spec PyProof.Rows
noncomputable abbrev KOf {K : PySem.W.Frag} {h : Heap} (_ : K.In h) : PySem.W.Frag := K
theorem walk_of {l : PySem.W.OpenLaw} {n k : Nat} {q : Program} {loose : List Str} {XP : (Str → Option Value) → Heap → Prop} {YP : World → Heap → Prop} {d : DefRec} {K : Params → PySem.W.Frag} {CX : World → CXT} {sp : World → Sp} {x : Str}
    (hn : l.most = some n) (hn2 : n ≤ sizeLine) (hdf : d.params.defaults = []) (hr : Room k callerA)
    (hY : ∀ (w : World) (h : Heap), YP w h → (K w.params).In h)
    (F : ∀ (w : World) (mg : Str → Option Value) (fa : Addr) (h : Heap), (K w.params).In h → h.Ns mainGlobals mg → mg d.name = some (.ref fa) →
      ∃ fd : FuncData, (∀ (s : Shared) (u : Value), BindsTo s fd ⟨[u], []⟩ [(x, u)]) ∧
        ∀ base : Heap, (K w.params).In base → base.Ns mainGlobals mg → FnOk l.prog w (K w.params) mg base (CX w) k fa fd [x] (sp w))
    (hsp : ∀ (w : World) (H : Hp) (a : Addr) (ns : List Int), ns.length ≤ n → Only H → SqL (K w.params) H a (ns.map V.int) → sp w [.ref a] H (fun v _ => v = .bl true) fun _ _ _ => False)
    (hCX : ∀ (w : World) (H : Hp) (s : Shared) (e : Value) (s' : Shared), CX w [] H s (fun _ _ _ => False) e s' → False) :
    PySem.W.WalkO q loose XP YP l.row.toRowW d [] (fun f vs => PySem.call f vs) := by
  refine Att.attach_call hn hdf fun w s₀ s₁ mg mb fa o pm cd doc a vs ns G Y ho hd hcd hmg hobj hints hlen hg => ?_
  have KX := hY w _ Y
  obtain ⟨fd, hb, hF⟩ := F w mg fa _ KX G.T.g hmg
  exact law_call KX G.T.g G.T.b G.T.builtins G.T.nolimit hg hobj hints (Nat.le_trans hlen hn2) hr hF hb (fun H hO hS => hsp w H a ns hlen hO hS) fun H e s' => hCX w H s₁ e s'
end L2
namespace L2
open PySem PySem.Spec PyProof.Rows
noncomputable def inClass (s : Stmt) (j : Nat) : Stmt := match s with
  | .ClassDef _ _ _ body _ _ _ _ _ _ _ => body.getD j (.Pass ⟨0, 0, 0, 0⟩)
  | _ => .Pass ⟨0, 0, 0, 0⟩
noncomputable def defArgs (s : Stmt) : Arguments := match s with
  | .FunctionDef _ a _ _ _ _ _ _ _ _ => a
  | _ => { posonlyargs := [], args := [], vararg := none, kwonlyargs := [], kw_defaults := [], kwarg := none, defaults := [] }
noncomputable def defBody (s : Stmt) : List Stmt := match s with
  | .FunctionDef _ _ b _ _ _ _ _ _ _ => b
  | _ => []
noncomputable def defScope (s : Stmt) : Scope := match s with
  | .FunctionDef _ _ _ _ _ _ sc _ _ _ => sc
  | _ => { kind := .function, names := [], isGenerator := false, isCoroutine := false }
noncomputable abbrev CX0 : CXT := fun _ _ _ _ _ _ => False
noncomputable abbrev E0 : XK := fun _ _ _ => False
structure Fun (K : PySem.W.Frag) (x qual : Str) (st : Stmt) (f : Addr) (fd : FuncData) : Prop where
  ex : ∃ (oc : Value) (od : Option Addr) (kV doc pm : Value) (an : Option Addr) (cdv ct : Value) (osl : Array (Option Value)),
    fd = PySem.W.fnOf x qual (defArgs st) (defBody st) (defScope st) .none kV doc pm an cdv ct ∧ K.lookup f = some ⟨oc, od, .func fd, osl⟩ ∧ PySem.W.codeIn K cdv qual = true
  kp : PySem.W.keepIn K (.ref f) = true
section
variable {P : Program} {w : World} {K : PySem.W.Frag} {mg : Str → Option Value} {base : Heap}
theorem Fun.binds {x qual : Str} {st : Stmt} {f : Addr} {fd : FuncData} {ps : List Str} (F : Fun K x qual st f fd)
    (h : ∀ (kV doc pm : Value) (an : Option Addr) (cdv ct : Value) (us : List Value), us.length = ps.length → bindArgs (PySem.W.fnOf x qual (defArgs st) (defBody st) (defScope st) .none kV doc pm an cdv ct) ⟨us, []⟩ = pure (ps.zip us)) : Binds K fd ps [] := by
  obtain ⟨oc, od, kV, doc, pm, an, cdv, ct, osl, rfl, lk, hcd⟩ := F.ex
  exact .all (h kV doc pm an cdv ct)
theorem fun_mk {x qual : Str} {st : Stmt} {f : Addr} {oc : Value} {od an : Option Addr} {osl : Array (Option Value)} {kV doc pm cdv ct : Value} (l : K.lookup f = some ⟨oc, od, .func (PySem.W.fnOf x qual (defArgs st) (defBody st) (defScope st) .none kV doc pm an cdv ct), osl⟩)
    (c : PySem.W.codeIn K cdv qual = true) (k : PySem.W.keepIn K (.ref f) = true) : Fun K x qual st f (PySem.W.fnOf x qual (defArgs st) (defBody st) (defScope st) .none kV doc pm an cdv ct) := ⟨⟨oc, od, kV, doc, pm, an, cdv, ct, osl, rfl, l, c⟩, k⟩
end
section
variable {X : Cx}
end
theorem iteT {A B : Prop} (h : A) : if true = true then A else B := by
  rw [if_pos rfl]
  exact h
noncomputable def Same (H H' : Hp) : Prop := ∀ b o, H b = some o → H' b = some o
end L2
set_option maxRecDepth 100000
namespace L2
open PySem PySem.Spec PyProof.Rows
section
variable {κ : Type} [DecidableEq κ]
noncomputable def valV (kvs : List (κ × V)) (k : κ) : Option V := (kvs.find? fun kv => decide (kv.1 = k)).map (·.2)
noncomputable def putK (kvs : List (κ × V)) (k : κ) (v : V) : List (κ × V) :=
  if (kvs.any fun kv => decide (kv.1 = k)) = true then kvs.map (fun kv => if kv.1 = k then (kv.1, v) else kv) else kvs ++ [(k, v)]
noncomputable def dropK (kvs : List (κ × V)) (k : κ) : List (κ × V) := kvs.filter fun kv => decide (kv.1 ≠ k)
theorem valV_nil {k : κ} : valV ([] : List (κ × V)) k = none := rfl
theorem valV_pos {p : κ × V} {r : List (κ × V)} {k : κ} (e : p.1 = k) : valV (p :: r) k = some p.2 := by simp [valV, List.find?_cons, e]
theorem valV_neg {p : κ × V} {r : List (κ × V)} {k : κ} (e : ¬ p.1 = k) : valV (p :: r) k = valV r k := by simp [valV, List.find?_cons, e]
theorem valV_any (k : κ) : ∀ kvs : List (κ × V), (kvs.any fun kv => decide (kv.1 = k)) = (valV kvs k).isSome
  | [] => rfl
  | p :: r => by
    rw [List.any_cons]
    by_cases e : p.1 = k
    · simp only [valV_pos e, decide_eq_true e, Bool.true_or, Option.isSome_some]
    · rw [valV_neg e, decide_eq_false e, Bool.false_or]; exact valV_any k r
theorem length_putK (kvs : List (κ × V)) (k : κ) (v : V) : (putK kvs k v).length ≤ kvs.length + 1 := by
  unfold putK
  split
  · rw [List.length_map]; omega
  · rw [List.length_append, List.length_cons, List.length_nil]; omega
theorem putK_new {kvs : List (κ × V)} {k : κ} (v : V) (h : valV kvs k = none) : putK kvs k v = kvs ++ [(k, v)] := by
  unfold putK
  rw [valV_any, h]
  exact if_neg (by decide)
theorem RelO.isSome_eq {o : Option V} {u : Option Value} (r : RelO o u) : o.isSome = u.isSome := by
  cases o with
  | none => cases u with
    | none => rfl
    | some _ => exact (show False from r).elim
  | some _ => cases u with
    | none => exact (show False from r).elim
    | some _ => rfl
theorem KV.val {kvs : List (κ × V)} {vs : List (κ × Value)} (r : KV kvs vs) (k : κ) : RelO (valV kvs k) (valueAt vs k) := by
  unfold KV at r
  induction r with
  | nil => exact True.intro
  | @cons p q ps qs h t ih =>
    obtain ⟨h1, h2⟩ := h
    by_cases e : p.1 = k
    · have e' : q.1 = k := h1.symm.trans e
      have b : valueAt (q :: qs) k = some q.2 := by simp [valueAt, List.find?_cons, e']
      rw [valV_pos e, b]; exact h2
    · have e' : ¬ q.1 = k := fun z => e (h1.trans z)
      have b : valueAt (q :: qs) k = valueAt qs k := by simp [valueAt, List.find?_cons, e']
      rw [valV_neg e, b]; exact ih
theorem KV.any {kvs : List (κ × V)} {vs : List (κ × Value)} (r : KV kvs vs) (k : κ) : (kvs.any fun kv => decide (kv.1 = k)) = vs.any fun kv => decide (kv.1 = k) := by
  unfold KV at r
  induction r with
  | nil => rfl
  | cons h t ih => rw [List.any_cons, List.any_cons, ih, h.1]
theorem KV.repl {kvs : List (κ × V)} {vs : List (κ × Value)} (r : KV kvs vs) (k : κ) {y : V} {u : Value} (ry : RelV y u) :
    KV (kvs.map fun kv => if kv.1 = k then (kv.1, y) else kv) (vs.map fun kv => if kv.1 = k then (kv.1, u) else kv) := by
  unfold KV at r ⊢
  induction r with
  | nil => exact .nil
  | @cons p q ps qs h t ih =>
    rw [List.map_cons, List.map_cons]
    refine .cons ?_ ih
    obtain ⟨h1, h2⟩ := h
    by_cases e : p.1 = k
    · rw [if_pos e, if_pos (h1.symm.trans e)]; exact ⟨h1, ry⟩
    · rw [if_neg e, if_neg (fun z => e (h1.trans z))]; exact ⟨h1, h2⟩
theorem KV.put {kvs : List (κ × V)} {vs : List (κ × Value)} (r : KV kvs vs) (k : κ) {y : V} {u : Value} (ry : RelV y u) : KV (putK kvs k y) (stored vs k u) := by
  unfold putK stored
  rw [r.any k]
  by_cases e : (vs.any fun kv => decide (kv.1 = k)) = true
  · rw [if_pos e, if_pos e]; exact r.repl k ry
  · rw [if_neg e, if_neg e]; exact Paired.snoc r ⟨rfl, ry⟩
end
theorem kV_is {P : Program} {w : World} {k : Key} {u : Value} (r : RelV (kV k) u) : (mixKind P w).is k u = true := by
  cases k with
  | inl i => obtain ⟨t, e⟩ := (show ∃ t, u = Value.int i t from r); subst e; exact mixKind_int P w i t
  | inr x => obtain ⟨t, e⟩ := (show ∃ t, u = Value.str x t from r); subst e; exact mixKind_str P w x t
theorem items_are {P : Program} {w : World} : ∀ {ks : List Key} {us : List Value}, Vals (ks.map kV) us → ItemsAre (mixKind P w) ks us
  | [], _, r => by rw [List.map_nil] at r; cases r; exact .nil
  | k :: ks, _, r => by
    rw [List.map_cons] at r
    cases r with
    | cons h t => exact .cons (kV_is h) (items_are t)
noncomputable abbrev KT (H : Hp) : List (List Key × V) → List (List Key × Addr × Value) → Prop := Paired fun p q => p.1 = q.1 ∧ H q.2.1 = some (.tup (p.1.map kV)) ∧ RelV p.2 q.2.2
theorem KT.val {H : Hp} {kvs : List (List Key × V)} {xs : List (List Key × Addr × Value)} (r : KT H kvs xs) (k : List Key) : RelO (valV kvs k) ((atKey xs k).map (·.2)) := by
  induction r with
  | nil => exact True.intro
  | @cons p q ps qs h t ih =>
    obtain ⟨h1, _, h2⟩ := h
    by_cases e : p.1 = k
    · have e' : q.1 = k := h1.symm.trans e
      have b : atKey (q :: qs) k = some q.2 := by simp [atKey, List.find?_cons, e']
      rw [valV_pos e, b]; exact h2
    · have e' : ¬ q.1 = k := fun z => e (h1.trans z)
      have b : atKey (q :: qs) k = atKey qs k := by simp [atKey, List.find?_cons, e']
      rw [valV_neg e, b]; exact ih
section
variable {P : Program} {w : World} {H : Hp} {h : Heap} {a : Addr}
theorem rd_of {u : HO} (ok : HOk P w H h) (e : Rd H a u) : ObjOk P w H h a u := e.ok ok
theorem dk_rd {kvs : List (Key × V)} (ok : HOk P w H h) (e : Rd H a (.dK kvs)) : kvs.length ≤ sizeLine ∧ (a == sysModules) = false ∧ ∃ vs, KV kvs vs ∧ h.DictOf (mixKind P w) a vs :=
  show ObjOk P w H h a (.dK kvs) from rd_of ok e
theorem dk_of {kvs : List (Key × V)} (ok : HOk P w H h) (e : H a = some (.dK kvs)) : kvs.length ≤ sizeLine ∧ (a == sysModules) = false ∧ ∃ vs, KV kvs vs ∧ h.DictOf (mixKind P w) a vs := dk_rd ok (.inl e)
theorem key_of {ks : List Key} (ok : HOk P w H h) (e : H a = some (.tup (ks.map kV))) : (tupleKind (mixKind P w)).is h ks a := by
  obtain ⟨_, its, r, o, h1, h2, n, h3⟩ := (show ObjOk P w H h a (.tup (ks.map kV)) from ok a _ e)
  exact ⟨o, its.toArray, n, h1, h2, h3, by simpa using items_are r⟩
theorem dt_rd {kvs : List (List Key × V)} (ok : HOk P w H h) (e : Rd H a (.dT kvs)) : kvs.length ≤ sizeLine ∧ (a == sysModules) = false ∧
    ∃ xs, KT H kvs xs ∧ h.DictOfH (tupleKind (mixKind P w)) a xs := by
  obtain ⟨z, y, xs, r, o, es, ep, h1, h2, h3, h4, h5⟩ := (show ObjOk P w H h a (.dT kvs) from rd_of ok e)
  refine ⟨z, y, xs, r, o, es, ep, h1, h2, h3, h4, fun x hx => ?_, h5⟩
  have all : ∀ {l : List (List Key × V)} {m : List (List Key × Addr × Value)}, KT H l m → ∀ x ∈ m, (tupleKind (mixKind P w)).is h x.1 x.2.1 := by
    intro l m q
    induction q with
    | nil => intro x hx; exact nomatch hx
    | @cons p q ps qs hq t ih =>
      intro x hx
      rcases List.mem_cons.mp hx with e | hx
      · subst e
        exact key_of ok (by rw [← hq.1]; exact hq.2.1)
      · exact ih x hx
  exact all r x hx
end
noncomputable def DGet (H : Hp) (a : Addr) (y : V) (r : Option V) : Prop :=
  (∃ kvs k, Rd H a (.dK kvs) ∧ y = kV k ∧ r = valV kvs k) ∨ ∃ kvs k b, Rd H a (.dT kvs) ∧ y = .ref b ∧ H b = some (.tup (k.map kV)) ∧ r = valV kvs k
noncomputable def DPut (H : Hp) (a : Addr) (y v : V) (H' : Hp) : Prop :=
  (∃ kvs k, H a = some (.dK kvs) ∧ y = kV k ∧ kvs.length < sizeLine ∧ H' = upd H a (.dK (putK kvs k v))) ∨
  ∃ kvs k b, H a = some (.dT kvs) ∧ y = .ref b ∧ H b = some (.tup (k.map kV)) ∧ kvs.length < sizeLine ∧ H' = upd H a (.dT (putK kvs k v))
theorem DGet.k {H : Hp} {a : Addr} {kvs : List (Key × V)} {k : Key} (e : H a = some (.dK kvs)) : DGet H a (kV k) (valV kvs k) := .inl ⟨kvs, k, .inl e, rfl, rfl⟩
section
variable {X : Cx} {pins : List (Addr × Obj)} {σ : St} {H : Hp} {s : Shared} {a : Addr} {y v : V} {u r : Value} {o : Option V} {A : Around} {E : Value → Shared → Prop}
theorem Inv.big (I : Inv X pins σ H s) : sysModules < s.heap.objs.size := by
  have h : mainGlobals < s.heap.objs.size := (I.mod.glob.keeps I.bk).lt
  exact Nat.lt_trans (by decide) h
theorem d_getItem {Q : Value → Shared → Prop} (hu : A.units + 1 < cLine) (I : Inv X pins σ H s) (g : DGet H a y (some v)) (ry : RelV y u) (h : ∀ w' s', Inv X pins σ H s' → RelV v w' → Q w' s') :
    wpAny (model X.prog X.w) A (getItem (.ref a) u) Q E s := by
  rcases g with ⟨kvs, k, e, ey, l⟩ | ⟨kvs, k, b, e, ey, eb, l⟩
  · subst ey
    obtain ⟨z, hd, vs, rel, dd⟩ := dk_rd I.hok e
    obtain ⟨w', hw, rw'⟩ := RelO.some_of (v := v) (o := valueAt vs k) (by rw [l]; exact rel.val k)
    exact wpAny_getItem_of (kV_is ry) dd.mapOf hw (h w' _ (I.tok _) rw')
  · subst ey
    cases (show u = Value.ref b from ry)
    obtain ⟨z, hd, xs, rel, dd⟩ := dt_rd I.hok e
    obtain ⟨w', hw, rw'⟩ := RelO.some_of (v := v) (o := (atKey xs k).map (·.2)) (by rw [l]; exact rel.val k)
    obtain ⟨p, hp, hp2⟩ := Option.map_eq_some_iff.mp hw
    refine wpAny_getItem_heap (tupleKind_room_in1 hu) (key_of I.hok eb) dd hp ?_
    rw [hp2]
    exact h w' _ (I.tok _) rw'
theorem d_in {Q : Value → Shared → Prop} (hu : A.units + 1 < cLine) (I : Inv X pins σ H s) (g : DGet H a y o) (ry : RelV y u) (h : ∀ s', Inv X pins σ H s' → Q (.bool o.isSome) s') :
    wpAny (model X.prog X.w) A (compareOp .In u (.ref a)) Q E s := by
  rcases g with ⟨kvs, k, e, ey, l⟩ | ⟨kvs, k, b, e, ey, eb, l⟩
  · subst ey
    obtain ⟨z, hd, vs, rel, dd⟩ := dk_rd I.hok e
    refine wpAny_in_of (kV_is ry) hd dd.mapOf ?_
    rw [← (rel.val k).isSome_eq, ← l]
    exact h _ (I.tok _)
  · subst ey
    cases (show u = Value.ref b from ry)
    obtain ⟨z, hd, xs, rel, dd⟩ := dt_rd I.hok e
    refine wpAny_in_heap (tupleKind_room_in1 hu) (key_of I.hok eb) hd dd ?_
    have q := (rel.val k).isSome_eq
    rw [Option.isSome_map] at q
    rw [← q, ← l]
    exact h _ (I.tok _)
theorem d_notIn {Q : Value → Shared → Prop} (hu : A.units + 1 < cLine) (I : Inv X pins σ H s) (g : DGet H a y o) (ry : RelV y u) (h : ∀ s', Inv X pins σ H s' → Q (.bool (!o.isSome)) s') :
    wpAny (model X.prog X.w) A (compareOp .NotIn u (.ref a)) Q E s := by
  rcases g with ⟨kvs, k, e, ey, l⟩ | ⟨kvs, k, b, e, ey, eb, l⟩
  · subst ey
    obtain ⟨z, hd, vs, rel, dd⟩ := dk_rd I.hok e
    refine wpAny_notIn_of (kV_is ry) hd dd.mapOf ?_
    rw [← (rel.val k).isSome_eq, ← l]
    exact h _ (I.tok _)
  · subst ey
    cases (show u = Value.ref b from ry)
    obtain ⟨z, hd, xs, rel, dd⟩ := dt_rd I.hok e
    refine wpAny_notIn_heap (tupleKind_room_in1 hu) (key_of I.hok eb) hd dd ?_
    have q := (rel.val k).isSome_eq
    rw [Option.isSome_map] at q
    rw [← q, ← l]
    exact h _ (I.tok _)
theorem d_write {h' : Heap} {t' : Nat} {ob : HO} (I : Inv X pins σ H s) (mu : Mut (H a)) (hs : Heap.SameBut a s.heap h') (he : ∃ q, h'.get? a = some q) (new : ObjOk X.prog X.w (upd H a ob) h' a ob) :
    Inv X pins σ (upd H a ob) { s with heap := h', toks := t' } :=
  I.write (x := a) (e := a) mu (.inl rfl) (fun b q hb z => (hs.2 b hb).trans z) he new
theorem dk_new {P : Program} {w : World} {H' : Hp} {h' : Heap} {kvs : List (Key × V)} {vs : List (Key × Value)} (z : kvs.length ≤ sizeLine) (hd : (a == sysModules) = false) (rel : KV kvs vs) (dd : h'.DictOf (mixKind P w) a vs) :
    ObjOk P w H' h' a (.dK kvs) := ⟨z, hd, vs, rel, dd⟩
end
section
variable {X : Cx} {pins : List (Addr × Obj)} {σ : St} {H : Hp} {s : Shared} {a : Addr} {kvs : List (Key × V)} {k : Key} {u : Value} {A : Around} {E : Value → Shared → Prop}
end
noncomputable def NoSl (i : Expr) : Prop := ∀ ov iv, subscripted i false ov iv = operate [ov, iv] (getItem ov iv)
theorem dict_typeIs {X : Cx} {pins : List (Addr × Obj)} {σ : St} {H : Hp} {s : Shared} {a : Addr} {y : V} {o : Option V} (I : Inv X pins σ H s) (g : DGet H a y o) : s.TypeIs (.ref a) "dict" := by
  rcases g with ⟨kvs, k, e, _, _⟩ | ⟨kvs, k, b, e, _, _, _⟩
  · obtain ⟨_, _, vs, _, dd⟩ := dk_rd I.hok e
    exact dd.typeIs
  · obtain ⟨_, _, xs, _, dd⟩ := dt_rd I.hok e
    exact dd.typeIs
noncomputable def tDGet (td ty : TE) : TE := fun σ H Q => td σ H fun x H1 => ty σ H1 fun y H2 => ∃ a v, x = .ref a ∧ DGet H2 a y (some v) ∧ Q v H2
noncomputable def tDIn (ty td : TE) : TE := fun σ H Q => ty σ H fun y H1 => td σ H1 fun x H2 => ∃ a o, x = .ref a ∧ DGet H2 a y o ∧ Q (.bl o.isSome) H2
noncomputable def tDNotIn (ty td : TE) : TE := fun σ H Q => ty σ H fun y H1 => td σ H1 fun x H2 => ∃ a o, x = .ref a ∧ DGet H2 a y o ∧ Q (.bl (!o.isSome)) H2
noncomputable def sDPut (td ty tv : TE) : TS := fun D σ H => tv σ H fun v H1 => td σ H1 fun x H2 => ty σ H2 fun y H3 => ∃ a H4, x = .ref a ∧ DPut H3 a y v H4 ∧ D.nx σ H4
noncomputable def sDAug (td ty tv : TE) (rd : V → V → Hp → VK → Prop) : TS := fun D σ H => td σ H fun x H1 => ty σ H1 fun y H2 => ∃ a v, x = .ref a ∧ DGet H2 a y (some v) ∧
  tv σ H2 fun y2 H3 => rd v y2 H3 fun z H4 => ∃ H5, DPut H4 a y z H5 ∧ D.nx σ H5
noncomputable def sDDel (td ty : TE) : TS := fun D σ H => td σ H fun x H1 => ty σ H1 fun y H2 => ∃ a kvs k, x = .ref a ∧ H2 a = some (.dK kvs) ∧ y = kV k ∧ (valV kvs k).isSome = true ∧ D.nx σ (upd H2 a (.dK (dropK kvs k)))
section
variable {X : Cx} {o i e value : Expr} {pos pos' tpos : Pos} {td ty tv : TE}
end
theorem dk_empty {P : Program} {w : World} {H : Hp} (h : Heap) (hb : sysModules < h.objs.size) : ObjOk P w H (h.push { cls := .type "dict", data := .dict #[] }) h.objs.size (.dK []) :=
  ⟨Nat.zero_le _, beq_eq_false_iff_ne.mpr (Ne.symm (Nat.ne_of_lt hb)), [], .nil, Heap.DictOf.new h⟩
noncomputable def tDNewK : TE := fun _ H Q => ∀ p, H p = none → Q (.ref p) (upd H p (.dK []))
noncomputable def tDNewT : TE := fun _ H Q => ∀ p, H p = none → Q (.ref p) (upd H p (.dT []))
section
variable {X : Cx} {pos : Pos}
end
noncomputable def tPairs : List (TE × TE) → St → Hp → (List (V × V) → Hp → Prop) → Prop
  | [], _, H, Q => Q [] H
  | (tk, tv) :: r, σ, H, Q => tk σ H fun x H1 => tv σ H1 fun y H2 => tPairs r σ H2 fun ps H3 => Q ((x, y) :: ps) H3
noncomputable abbrev VV : List (V × V) → List (Value × Value) → Prop := Paired fun p q => RelV p.1 q.1 ∧ RelV p.2 q.2
noncomputable def PPs (X : Cx) (pos : Pos) (keys : List (Option Expr)) (values : List Expr) (trs : List (TE × TE)) : Prop :=
  ∀ (pins : List (Addr × Obj)) (s : Shared) (σ : St) (H : Hp) (Q : List (V × V) → Hp → Prop), Inv X pins σ H s → tPairs trs σ H Q →
    wpAny (model X.prog X.w) X.A (evalPairs (pairTrees keys values X.env pos)) (fun vs s' => ∃ ps H', Inv X pins σ H' s' ∧ VV ps vs ∧ Q ps H') X.xe s
theorem pps_nil {X : Cx} {pos : Pos} : PPs X pos [] [] [] := fun pins s σ H Q I h => pairTrees_nil_walk ⟨[], H, I, .nil, h⟩
theorem pps_cons {X : Cx} {pos : Pos} {k v : Expr} {ks : List (Option Expr)} {vs : List Expr} {tk tv : TE} {trs : List (TE × TE)} (hk : PE X k tk) (hv : PE X v tv) (hr : PPs X pos ks vs trs) :
    PPs X pos (some k :: ks) (v :: vs) ((tk, tv) :: trs) := fun pins s σ H Q I h =>
  pairTrees_cons_walk (thn (hk pins s σ H _ I h) fun u s1 ⟨x, H1, I1, rx, q1⟩ => thn (hv pins s1 σ H1 _ I1 q1) fun w2 s2 ⟨y, H2, I2, ry, q2⟩ =>
    thn (hr pins s2 σ H2 _ I2 q2) fun ws s3 ⟨ps, H3, I3, rel, q3⟩ => ⟨(x, y) :: ps, H3, I3, .cons ⟨rx, ry⟩ rel, q3⟩)
noncomputable def mergeK (kvs more : List (Key × V)) : List (Key × V) := more.foldl (fun acc kv => putK acc kv.1 kv.2) kvs
theorem KV.merge : ∀ {more : List (Key × V)} {rs : List (Key × Value)} {kvs : List (Key × V)} {vs : List (Key × Value)}, KV more rs → KV kvs vs → KV (mergeK kvs more) (merged vs rs) := by
  intro more rs kvs vs r
  unfold KV at r
  induction r generalizing kvs vs with
  | nil => intro q; exact q
  | @cons p q ps qs h t ih =>
    intro r0
    have e : KV (putK kvs p.1 p.2) (stored vs q.1 q.2) := by
      have := r0.put p.1 h.2
      rw [← h.1]; exact this
    exact ih e
theorem length_mergeK : ∀ (more kvs : List (Key × V)), (mergeK kvs more).length ≤ kvs.length + more.length
  | [], kvs => by show kvs.length ≤ kvs.length + 0; omega
  | p :: r, kvs => by
    have h1 := length_mergeK r (putK kvs p.1 p.2)
    have h2 := length_putK kvs p.1 p.2
    show (mergeK (putK kvs p.1 p.2) r).length ≤ _
    rw [List.length_cons]; omega
theorem carries_of {P : Program} {w : World} : ∀ {kvs : List (Key × V)} {ws : List (Value × Value)}, VV (kvs.map fun kv => (kV kv.1, kv.2)) ws → ∃ rs, Carries (mixKind P w) ws rs ∧ KV kvs rs
  | [], _, r => by rw [List.map_nil] at r; cases r; exact ⟨[], True.intro, .nil⟩
  | p :: kvs, _, r => by
    rw [List.map_cons] at r
    cases r with
    | @cons a b as bs h t =>
      obtain ⟨rs, c, q⟩ := carries_of (P := P) (w := w) t
      obtain ⟨b1, b2⟩ := b
      exact ⟨(p.1, b2) :: rs, ⟨kV_is h.1, rfl, c⟩, .cons ⟨rfl, h.2⟩ q⟩
noncomputable def tDisp (trs : List (TE × TE)) : TE := fun σ H Q => ∀ p, H p = none → tPairs trs σ (upd H p (.dK [])) fun ps H2 => H2 p = some (.dK []) ∧ ∃ kvs : List (Key × V), ps = kvs.map (fun kv => (kV kv.1, kv.2)) ∧ kvs.length ≤ 15 ∧ Q (.ref p) (upd H2 p (.dK (mergeK [] kvs)))
theorem pe_disp {X : Cx} {pos : Pos} {keys : List (Option Expr)} {values : List Expr} {trs : List (TE × TE)} (h : PPs X pos keys values trs) (hall : keys.all (·.isSome) = true) (hl : keys.length = values.length) (h0 : keys ≠ [])
    (h15 : keys.length ≤ 15) : PE X (.Dict keys values pos) (tDisp trs) := by
  intro pins s σ H Q I q
  have hn := I.hok.fresh (Nat.le_refl s.heap.objs.size)
  have I1 := I.laid (a := s.heap.objs.size) (o := .dK []) (h' := s.heap.push { cls := .type "dict", data := .dict #[] }) (t' := s.toks) (fun _ _ q => Heap.get?_push_of_some _ q) (Nat.le_refl _) (dk_empty s.heap I.big)
  refine wpAny_Dict_walk (knd := mixKind X.prog X.w) hall hl h0 h15 (thn (h pins _ σ _ _ I1 (q _ hn)) fun ws s2 ⟨ps, H2, I2, rel, e, kvs, ep, lk, q2⟩ => ?_)
  subst ep
  obtain ⟨rs, c, rk⟩ := carries_of (P := X.prog) (w := X.w) rel
  obtain ⟨z, hd, vs0, r0, dd⟩ := dk_of I2.hok e
  cases r0
  refine ⟨rs, c, dd, fun h' dd' hs => ⟨.ref s.heap.objs.size, _, ?_, rfl, q2⟩⟩
  have hz : (mergeK [] kvs).length ≤ sizeLine := by
    have h1 := length_mergeK kvs []
    rw [List.length_nil] at h1
    rw [sizeLine_eq]; omega
  have he : ∃ q, h'.get? s.heap.objs.size = some q := let ⟨q, _, _, hq, _⟩ := dd'; ⟨q, hq⟩
  exact d_write I2 (by rw [e]; exact True.intro) hs he (dk_new hz hd (rk.merge .nil) dd')
end L2
set_option Elab.async false
set_option linter.all false
set_option maxRecDepth 100000
set_option maxHeartbeats 4000000
namespace PySem.SeqAt
open AutoSeq1 (wpAny_loadPart')
open MeetsSeq
noncomputable def IsDct (h : Heap) (d : Addr) : Prop := ∃ es ep, h.get? d = some { cls := .type "dict", dict := none, data := .dict es ep, slots := #[] }
theorem dict_eq_declines_none (l : Addr) (es : Array DictEntry) (ep : Nat)  :
    Meets (Builtin.«dict.__eq__» ⟨[.ref l, .none], []⟩) (fun _ R s => s.heap.get? l = some { cls := .type "dict", dict := none, data := .dict es ep, slots := #[] } ∧ R (.ok (.ret .notImplemented)) s) :=
  .of_wp fun prog w A R s h => by obtain ⟨hp, g, d, tk, os⟩ := s; obtain ⟨hl, h⟩ := h; have f1 := F.sub_NoneType_dict; wp_walk using wpAny_loadPart' hl; exact ⟨_, rfl, h⟩
theorem dict_eq_declines_bool (l : Addr) (es : Array DictEntry) (ep : Nat) (b : Bool) :
    Meets (Builtin.«dict.__eq__» ⟨[.ref l, .bool b], []⟩) (fun _ R s => s.heap.get? l = some { cls := .type "dict", dict := none, data := .dict es ep, slots := #[] } ∧ R (.ok (.ret .notImplemented)) s) :=
  .of_wp fun prog w A R s h => by obtain ⟨hp, g, d, tk, os⟩ := s; obtain ⟨hl, h⟩ := h; have f1 := F.sub_bool_dict; wp_walk using wpAny_loadPart' hl; exact ⟨_, rfl, h⟩
theorem dict_eq_declines_int (l : Addr) (es : Array DictEntry) (ep : Nat) (b : Int) (u : Tok) :
    Meets (Builtin.«dict.__eq__» ⟨[.ref l, .int b u], []⟩) (fun _ R s => s.heap.get? l = some { cls := .type "dict", dict := none, data := .dict es ep, slots := #[] } ∧ R (.ok (.ret .notImplemented)) s) :=
  .of_wp fun prog w A R s h => by obtain ⟨hp, g, d, tk, os⟩ := s; obtain ⟨hl, h⟩ := h; have f1 := F.sub_int_dict; wp_walk using wpAny_loadPart' hl; exact ⟨_, rfl, h⟩
theorem dict_eq_declines_str (l : Addr) (es : Array DictEntry) (ep : Nat) (b : Str) (u : Tok) :
    Meets (Builtin.«dict.__eq__» ⟨[.ref l, .str b u], []⟩) (fun _ R s => s.heap.get? l = some { cls := .type "dict", dict := none, data := .dict es ep, slots := #[] } ∧ R (.ok (.ret .notImplemented)) s) :=
  .of_wp fun prog w A R s h => by obtain ⟨hp, g, d, tk, os⟩ := s; obtain ⟨hl, h⟩ := h; have f1 := F.sub_str_dict; wp_walk using wpAny_loadPart' hl; exact ⟨_, rfl, h⟩
theorem int_eq_declines_dict_bool (b : Bool) (l : Addr) (es : Array DictEntry) (ep : Nat) :
    Meets (Builtin.«int.__eq__» ⟨[.bool b, .ref l], []⟩) (fun _ R s => s.heap.get? l = some { cls := .type "dict", dict := none, data := .dict es ep, slots := #[] } ∧ R (.ok (.ret .notImplemented)) s) :=
  .of_wp fun prog w A R s h => by obtain ⟨hp, g, d, tk, os⟩ := s; obtain ⟨hl, h⟩ := h; wp_walk using wpAny_loadPart' hl, wpAny_load hl; exact ⟨_, rfl, h⟩
theorem int_eq_declines_dict_int (b : Int) (u : Tok) (l : Addr) (es : Array DictEntry) (ep : Nat) :
    Meets (Builtin.«int.__eq__» ⟨[.int b u, .ref l], []⟩) (fun _ R s => s.heap.get? l = some { cls := .type "dict", dict := none, data := .dict es ep, slots := #[] } ∧ R (.ok (.ret .notImplemented)) s) :=
  .of_wp fun prog w A R s h => by obtain ⟨hp, g, d, tk, os⟩ := s; obtain ⟨hl, h⟩ := h; wp_walk using wpAny_loadPart' hl, wpAny_load hl; exact ⟨_, rfl, h⟩
theorem str_eq_declines_dict (b : Str) (u : Tok) (l : Addr) (es : Array DictEntry) (ep : Nat) :
    Meets (Builtin.«str.__eq__» ⟨[.str b u, .ref l], []⟩) (fun _ R s => s.heap.get? l = some { cls := .type "dict", dict := none, data := .dict es ep, slots := #[] } ∧ R (.ok (.ret .notImplemented)) s) :=
  .of_wp fun prog w A R s h => by obtain ⟨hp, g, d, tk, os⟩ := s; obtain ⟨hl, h⟩ := h; wp_walk using wpAny_loadPart' hl, wpAny_load hl; exact ⟨_, rfl, h⟩
theorem dict_eq_declines_list (l b : Addr) (es : Array DictEntry) (ep : Nat) (items : Array Value) (n : Nat) (dd : Option Addr) (sl : Array (Option Value)) :
    Meets (Builtin.«dict.__eq__» ⟨[.ref l, .ref b], []⟩) (fun _ R s => s.heap.get? l = some { cls := .type "dict", dict := none, data := .dict es ep, slots := #[] } ∧ s.heap.get? b = some { cls := .type "list", dict := dd, data := .seq items n, slots := sl } ∧ R (.ok (.ret .notImplemented)) s) :=
  .of_wp fun prog w A R s h => by obtain ⟨hp, g, d, tk, os⟩ := s; obtain ⟨hl, hb, h⟩ := h; have f1 := F.sub_list_dict; wp_walk using wpAny_loadPart' hl, wpAny_loadPart' hb; exact ⟨_, rfl, h⟩
theorem list_eq_declines_dict (b l : Addr) (es : Array DictEntry) (ep : Nat) (items : Array Value) (n : Nat) (dd : Option Addr) (sl : Array (Option Value)) :
    Meets (Builtin.«list.__eq__» ⟨[.ref b, .ref l], []⟩) (fun _ R s => s.heap.get? b = some { cls := .type "list", dict := dd, data := .seq items n, slots := sl } ∧ s.heap.get? l = some { cls := .type "dict", dict := none, data := .dict es ep, slots := #[] } ∧ R (.ok (.ret .notImplemented)) s) :=
  .of_wp fun prog w A R s h => by obtain ⟨hp, g, d, tk, os⟩ := s; obtain ⟨hb, hl, h⟩ := h; have f1 := F.sub_dict_list; wp_walk using wpAny_loadPart' hl, wpAny_loadPart' hb; exact ⟨_, rfl, h⟩
theorem dict_eq_declines_tuple (l b : Addr) (es : Array DictEntry) (ep : Nat) (items : Array Value) (n : Nat) (dd : Option Addr) (sl : Array (Option Value)) :
    Meets (Builtin.«dict.__eq__» ⟨[.ref l, .ref b], []⟩) (fun _ R s => s.heap.get? l = some { cls := .type "dict", dict := none, data := .dict es ep, slots := #[] } ∧ s.heap.get? b = some { cls := .type "tuple", dict := dd, data := .seq items n, slots := sl } ∧ R (.ok (.ret .notImplemented)) s) :=
  .of_wp fun prog w A R s h => by obtain ⟨hp, g, d, tk, os⟩ := s; obtain ⟨hl, hb, h⟩ := h; have f1 := F.sub_tuple_dict; wp_walk using wpAny_loadPart' hl, wpAny_loadPart' hb; exact ⟨_, rfl, h⟩
theorem tuple_eq_declines_dict (b l : Addr) (es : Array DictEntry) (ep : Nat) (items : Array Value) (n : Nat) (dd : Option Addr) (sl : Array (Option Value)) :
    Meets (Builtin.«tuple.__eq__» ⟨[.ref b, .ref l], []⟩) (fun _ R s => s.heap.get? b = some { cls := .type "tuple", dict := dd, data := .seq items n, slots := sl } ∧ s.heap.get? l = some { cls := .type "dict", dict := none, data := .dict es ep, slots := #[] } ∧ R (.ok (.ret .notImplemented)) s) :=
  .of_wp fun prog w A R s h => by obtain ⟨hp, g, d, tk, os⟩ := s; obtain ⟨hb, hl, h⟩ := h; have f1 := F.sub_dict_tuple; wp_walk using wpAny_loadPart' hl, wpAny_loadPart' hb; exact ⟨_, rfl, h⟩
theorem dict_ne_declines_none (l : Addr) (es : Array DictEntry) (ep : Nat)  :
    Meets (Builtin.«dict.__ne__» ⟨[.ref l, .none], []⟩) (fun _ R s => s.heap.get? l = some { cls := .type "dict", dict := none, data := .dict es ep, slots := #[] } ∧ R (.ok (.ret .notImplemented)) s) :=
  .of_wp fun prog w A R s h => by obtain ⟨hp, g, d, tk, os⟩ := s; obtain ⟨hl, h⟩ := h; have f1 := F.sub_NoneType_dict; wp_walk using wpAny_loadPart' hl; exact ⟨_, rfl, h⟩
theorem dict_ne_declines_bool (l : Addr) (es : Array DictEntry) (ep : Nat) (b : Bool) :
    Meets (Builtin.«dict.__ne__» ⟨[.ref l, .bool b], []⟩) (fun _ R s => s.heap.get? l = some { cls := .type "dict", dict := none, data := .dict es ep, slots := #[] } ∧ R (.ok (.ret .notImplemented)) s) :=
  .of_wp fun prog w A R s h => by obtain ⟨hp, g, d, tk, os⟩ := s; obtain ⟨hl, h⟩ := h; have f1 := F.sub_bool_dict; wp_walk using wpAny_loadPart' hl; exact ⟨_, rfl, h⟩
theorem dict_ne_declines_int (l : Addr) (es : Array DictEntry) (ep : Nat) (b : Int) (u : Tok) :
    Meets (Builtin.«dict.__ne__» ⟨[.ref l, .int b u], []⟩) (fun _ R s => s.heap.get? l = some { cls := .type "dict", dict := none, data := .dict es ep, slots := #[] } ∧ R (.ok (.ret .notImplemented)) s) :=
  .of_wp fun prog w A R s h => by obtain ⟨hp, g, d, tk, os⟩ := s; obtain ⟨hl, h⟩ := h; have f1 := F.sub_int_dict; wp_walk using wpAny_loadPart' hl; exact ⟨_, rfl, h⟩
theorem dict_ne_declines_str (l : Addr) (es : Array DictEntry) (ep : Nat) (b : Str) (u : Tok) :
    Meets (Builtin.«dict.__ne__» ⟨[.ref l, .str b u], []⟩) (fun _ R s => s.heap.get? l = some { cls := .type "dict", dict := none, data := .dict es ep, slots := #[] } ∧ R (.ok (.ret .notImplemented)) s) :=
  .of_wp fun prog w A R s h => by obtain ⟨hp, g, d, tk, os⟩ := s; obtain ⟨hl, h⟩ := h; have f1 := F.sub_str_dict; wp_walk using wpAny_loadPart' hl; exact ⟨_, rfl, h⟩
theorem int_ne_declines_dict_bool (b : Bool) (l : Addr) (es : Array DictEntry) (ep : Nat) :
    Meets (Builtin.«int.__ne__» ⟨[.bool b, .ref l], []⟩) (fun _ R s => s.heap.get? l = some { cls := .type "dict", dict := none, data := .dict es ep, slots := #[] } ∧ R (.ok (.ret .notImplemented)) s) :=
  .of_wp fun prog w A R s h => by obtain ⟨hp, g, d, tk, os⟩ := s; obtain ⟨hl, h⟩ := h; wp_walk using wpAny_loadPart' hl, wpAny_load hl; exact ⟨_, rfl, h⟩
theorem int_ne_declines_dict_int (b : Int) (u : Tok) (l : Addr) (es : Array DictEntry) (ep : Nat) :
    Meets (Builtin.«int.__ne__» ⟨[.int b u, .ref l], []⟩) (fun _ R s => s.heap.get? l = some { cls := .type "dict", dict := none, data := .dict es ep, slots := #[] } ∧ R (.ok (.ret .notImplemented)) s) :=
  .of_wp fun prog w A R s h => by obtain ⟨hp, g, d, tk, os⟩ := s; obtain ⟨hl, h⟩ := h; wp_walk using wpAny_loadPart' hl, wpAny_load hl; exact ⟨_, rfl, h⟩
theorem str_ne_declines_dict (b : Str) (u : Tok) (l : Addr) (es : Array DictEntry) (ep : Nat) :
    Meets (Builtin.«str.__ne__» ⟨[.str b u, .ref l], []⟩) (fun _ R s => s.heap.get? l = some { cls := .type "dict", dict := none, data := .dict es ep, slots := #[] } ∧ R (.ok (.ret .notImplemented)) s) :=
  .of_wp fun prog w A R s h => by obtain ⟨hp, g, d, tk, os⟩ := s; obtain ⟨hl, h⟩ := h; wp_walk using wpAny_loadPart' hl, wpAny_load hl; exact ⟨_, rfl, h⟩
theorem dict_ne_declines_list (l b : Addr) (es : Array DictEntry) (ep : Nat) (items : Array Value) (n : Nat) (dd : Option Addr) (sl : Array (Option Value)) :
    Meets (Builtin.«dict.__ne__» ⟨[.ref l, .ref b], []⟩) (fun _ R s => s.heap.get? l = some { cls := .type "dict", dict := none, data := .dict es ep, slots := #[] } ∧ s.heap.get? b = some { cls := .type "list", dict := dd, data := .seq items n, slots := sl } ∧ R (.ok (.ret .notImplemented)) s) :=
  .of_wp fun prog w A R s h => by obtain ⟨hp, g, d, tk, os⟩ := s; obtain ⟨hl, hb, h⟩ := h; have f1 := F.sub_list_dict; wp_walk using wpAny_loadPart' hl, wpAny_loadPart' hb; exact ⟨_, rfl, h⟩
theorem list_ne_declines_dict (b l : Addr) (es : Array DictEntry) (ep : Nat) (items : Array Value) (n : Nat) (dd : Option Addr) (sl : Array (Option Value)) :
    Meets (Builtin.«list.__ne__» ⟨[.ref b, .ref l], []⟩) (fun _ R s => s.heap.get? b = some { cls := .type "list", dict := dd, data := .seq items n, slots := sl } ∧ s.heap.get? l = some { cls := .type "dict", dict := none, data := .dict es ep, slots := #[] } ∧ R (.ok (.ret .notImplemented)) s) :=
  .of_wp fun prog w A R s h => by obtain ⟨hp, g, d, tk, os⟩ := s; obtain ⟨hb, hl, h⟩ := h; have f1 := F.sub_dict_list; wp_walk using wpAny_loadPart' hl, wpAny_loadPart' hb; exact ⟨_, rfl, h⟩
theorem dict_ne_declines_tuple (l b : Addr) (es : Array DictEntry) (ep : Nat) (items : Array Value) (n : Nat) (dd : Option Addr) (sl : Array (Option Value)) :
    Meets (Builtin.«dict.__ne__» ⟨[.ref l, .ref b], []⟩) (fun _ R s => s.heap.get? l = some { cls := .type "dict", dict := none, data := .dict es ep, slots := #[] } ∧ s.heap.get? b = some { cls := .type "tuple", dict := dd, data := .seq items n, slots := sl } ∧ R (.ok (.ret .notImplemented)) s) :=
  .of_wp fun prog w A R s h => by obtain ⟨hp, g, d, tk, os⟩ := s; obtain ⟨hl, hb, h⟩ := h; have f1 := F.sub_tuple_dict; wp_walk using wpAny_loadPart' hl, wpAny_loadPart' hb; exact ⟨_, rfl, h⟩
theorem tuple_ne_declines_dict (b l : Addr) (es : Array DictEntry) (ep : Nat) (items : Array Value) (n : Nat) (dd : Option Addr) (sl : Array (Option Value)) :
    Meets (Builtin.«tuple.__ne__» ⟨[.ref b, .ref l], []⟩) (fun _ R s => s.heap.get? b = some { cls := .type "tuple", dict := dd, data := .seq items n, slots := sl } ∧ s.heap.get? l = some { cls := .type "dict", dict := none, data := .dict es ep, slots := #[] } ∧ R (.ok (.ret .notImplemented)) s) :=
  .of_wp fun prog w A R s h => by obtain ⟨hp, g, d, tk, os⟩ := s; obtain ⟨hb, hl, h⟩ := h; have f1 := F.sub_dict_tuple; wp_walk using wpAny_loadPart' hl, wpAny_loadPart' hb; exact ⟨_, rfl, h⟩
section
variable {A : Around} {s : Shared}
theorem RcAt.dict_none {l : Addr}  (hl : IsDct s.heap l) (hu : A.units < cLine) : RcAt A s (.ref l) (.none) false := fun prog w E Q h => by
  obtain ⟨es, ep, ho⟩ := hl
  exact rc_eq_decline_or (k := false) ⟨_, ho, rfl⟩ rfl (by decide) F.sub_NoneType_dict F.slot_dict_eq F.slot_NoneType_eq_refl
    (fun _ hq => call_meets F.slot_dict_eq ⟨_, ho, rfl⟩ F.entry_dict_eq (F.args_dict_eq_2 _ _) (dict_eq_declines_none l es ep ) ⟨ho, hq⟩)
    (fun _ hq => call_gives F.slot_NoneType_eq_refl rfl F.entry_NoneType_eq (F.args_NoneType_eq_2 _ _) (NoneType___eq___none_ref_0 l) hq)
    (fun _ hq => wpAny_of_eq (rfl : isSame (.ref l) (.none) = pure false) hq) (.inr hu) h
theorem RcAt.none_dict {l : Addr}  (hl : IsDct s.heap l) (hu : A.units < cLine) : RcAt A s (.none) (.ref l) false := fun prog w E Q h => by
  obtain ⟨es, ep, ho⟩ := hl
  exact rc_eq_decline_or (k := false) rfl ⟨_, ho, rfl⟩ (by decide) F.sub_dict_NoneType F.slot_NoneType_eq F.slot_dict_eq_refl
    (fun _ hq => call_gives F.slot_NoneType_eq rfl F.entry_NoneType_eq (F.args_NoneType_eq_2 _ _) (NoneType___eq___none_ref_0 l) hq)
    (fun _ hq => call_meets F.slot_dict_eq_refl ⟨_, ho, rfl⟩ F.entry_dict_eq (F.args_dict_eq_2 _ _) (dict_eq_declines_none l es ep ) ⟨ho, hq⟩)
    (fun _ hq => wpAny_of_eq (rfl : isSame (.none) (.ref l) = pure false) hq) (.inr hu) h
theorem RcAt.dict_bool {l : Addr} (b : Bool) (hl : IsDct s.heap l) (hu : A.units < cLine) : RcAt A s (.ref l) (.bool b) false := fun prog w E Q h => by
  obtain ⟨es, ep, ho⟩ := hl
  exact rc_eq_decline_or (k := false) ⟨_, ho, rfl⟩ rfl (by decide) F.sub_bool_dict F.slot_dict_eq F.slot_bool_eq_refl
    (fun _ hq => call_meets F.slot_dict_eq ⟨_, ho, rfl⟩ F.entry_dict_eq (F.args_dict_eq_2 _ _) (dict_eq_declines_bool l es ep b) ⟨ho, hq⟩)
    (fun _ hq => call_meets F.slot_bool_eq_refl rfl F.entry_int_eq (F.args_int_eq_2 _ _) (int_eq_declines_dict_bool b l es ep) ⟨ho, hq⟩)
    (fun _ hq => wpAny_of_eq (rfl : isSame (.ref l) (.bool b) = pure false) hq) (.inr hu) h
theorem RcAt.bool_dict {l : Addr} (b : Bool) (hl : IsDct s.heap l) (hu : A.units < cLine) : RcAt A s (.bool b) (.ref l) false := fun prog w E Q h => by
  obtain ⟨es, ep, ho⟩ := hl
  exact rc_eq_decline_or (k := false) rfl ⟨_, ho, rfl⟩ (by decide) F.sub_dict_bool F.slot_bool_eq F.slot_dict_eq_refl
    (fun _ hq => call_meets F.slot_bool_eq rfl F.entry_int_eq (F.args_int_eq_2 _ _) (int_eq_declines_dict_bool b l es ep) ⟨ho, hq⟩)
    (fun _ hq => call_meets F.slot_dict_eq_refl ⟨_, ho, rfl⟩ F.entry_dict_eq (F.args_dict_eq_2 _ _) (dict_eq_declines_bool l es ep b) ⟨ho, hq⟩)
    (fun _ hq => wpAny_of_eq (rfl : isSame (.bool b) (.ref l) = pure false) hq) (.inr hu) h
theorem RcAt.dict_int {l : Addr} (b : Int) (u : Tok) (hl : IsDct s.heap l) (hu : A.units < cLine) : RcAt A s (.ref l) (.int b u) false := fun prog w E Q h => by
  obtain ⟨es, ep, ho⟩ := hl
  exact rc_eq_decline_or (k := false) ⟨_, ho, rfl⟩ rfl (by decide) F.sub_int_dict F.slot_dict_eq F.slot_int_eq_refl
    (fun _ hq => call_meets F.slot_dict_eq ⟨_, ho, rfl⟩ F.entry_dict_eq (F.args_dict_eq_2 _ _) (dict_eq_declines_int l es ep b u) ⟨ho, hq⟩)
    (fun _ hq => call_meets F.slot_int_eq_refl rfl F.entry_int_eq (F.args_int_eq_2 _ _) (int_eq_declines_dict_int b u l es ep) ⟨ho, hq⟩)
    (fun _ hq => wpAny_of_eq (rfl : isSame (.ref l) (.int b u) = pure false) hq) (.inr hu) h
theorem RcAt.int_dict {l : Addr} (b : Int) (u : Tok) (hl : IsDct s.heap l) (hu : A.units < cLine) : RcAt A s (.int b u) (.ref l) false := fun prog w E Q h => by
  obtain ⟨es, ep, ho⟩ := hl
  exact rc_eq_decline_or (k := false) rfl ⟨_, ho, rfl⟩ (by decide) F.sub_dict_int F.slot_int_eq F.slot_dict_eq_refl
    (fun _ hq => call_meets F.slot_int_eq rfl F.entry_int_eq (F.args_int_eq_2 _ _) (int_eq_declines_dict_int b u l es ep) ⟨ho, hq⟩)
    (fun _ hq => call_meets F.slot_dict_eq_refl ⟨_, ho, rfl⟩ F.entry_dict_eq (F.args_dict_eq_2 _ _) (dict_eq_declines_int l es ep b u) ⟨ho, hq⟩)
    (fun _ hq => wpAny_of_eq (rfl : isSame (.int b u) (.ref l) = pure false) hq) (.inr hu) h
theorem RcAt.dict_str {l : Addr} (b : Str) (u : Tok) (hl : IsDct s.heap l) (hu : A.units < cLine) : RcAt A s (.ref l) (.str b u) false := fun prog w E Q h => by
  obtain ⟨es, ep, ho⟩ := hl
  exact rc_eq_decline_or (k := false) ⟨_, ho, rfl⟩ rfl (by decide) F.sub_str_dict F.slot_dict_eq F.slot_str_eq_refl
    (fun _ hq => call_meets F.slot_dict_eq ⟨_, ho, rfl⟩ F.entry_dict_eq (F.args_dict_eq_2 _ _) (dict_eq_declines_str l es ep b u) ⟨ho, hq⟩)
    (fun _ hq => call_meets F.slot_str_eq_refl rfl F.entry_str_eq (F.args_str_eq_2 _ _) (str_eq_declines_dict b u l es ep) ⟨ho, hq⟩)
    (fun _ hq => wpAny_of_eq (rfl : isSame (.ref l) (.str b u) = pure false) hq) (.inr hu) h
theorem RcAt.str_dict {l : Addr} (b : Str) (u : Tok) (hl : IsDct s.heap l) (hu : A.units < cLine) : RcAt A s (.str b u) (.ref l) false := fun prog w E Q h => by
  obtain ⟨es, ep, ho⟩ := hl
  exact rc_eq_decline_or (k := false) rfl ⟨_, ho, rfl⟩ (by decide) F.sub_dict_str F.slot_str_eq F.slot_dict_eq_refl
    (fun _ hq => call_meets F.slot_str_eq rfl F.entry_str_eq (F.args_str_eq_2 _ _) (str_eq_declines_dict b u l es ep) ⟨ho, hq⟩)
    (fun _ hq => call_meets F.slot_dict_eq_refl ⟨_, ho, rfl⟩ F.entry_dict_eq (F.args_dict_eq_2 _ _) (dict_eq_declines_str l es ep b u) ⟨ho, hq⟩)
    (fun _ hq => wpAny_of_eq (rfl : isSame (.str b u) (.ref l) = pure false) hq) (.inr hu) h
theorem RcAt.dict_list {l b : Addr} {items : Array Value} (hl : IsDct s.heap l) (hb : s.heap.IsList b items) (hu : A.units < cLine) : RcAt A s (.ref l) (.ref b) false := fun prog w E Q h => by
  obtain ⟨es, ep, ho⟩ := hl
  obtain ⟨⟨cls, dd, data, sl⟩, ho2, hc, n, hd⟩ := id hb
  simp only at hc hd
  subst hc hd
  have hne : l ≠ b := fun e => by subst e; rw [ho] at ho2; exact absurd ho2 (by simp)
  exact rc_eq_decline_or (k := false) ⟨_, ho, rfl⟩ ⟨_, ho2, rfl⟩ (by decide) F.sub_list_dict F.slot_dict_eq F.slot_list_eq_refl
    (fun _ hq => call_meets F.slot_dict_eq ⟨_, ho, rfl⟩ F.entry_dict_eq (F.args_dict_eq_2 _ _) (dict_eq_declines_list l b es ep items n dd sl) ⟨ho, ho2, hq⟩)
    (fun _ hq => call_meets F.slot_list_eq_refl ⟨_, ho2, rfl⟩ F.entry_list_eq (F.args_list_eq_2 _ _) (list_eq_declines_dict b l es ep items n dd sl) ⟨ho2, ho, hq⟩)
    (fun _ hq => wpAny_isSame_ref_other hne ho ho2 (by simp) hq) (.inr hu) h
theorem RcAt.list_dict {l b : Addr} {items : Array Value} (hb : s.heap.IsList b items) (hl : IsDct s.heap l) (hu : A.units < cLine) : RcAt A s (.ref b) (.ref l) false := fun prog w E Q h => by
  obtain ⟨es, ep, ho⟩ := hl
  obtain ⟨⟨cls, dd, data, sl⟩, ho2, hc, n, hd⟩ := id hb
  simp only at hc hd
  subst hc hd
  have hne : b ≠ l := fun e => by subst e; rw [ho] at ho2; exact absurd ho2 (by simp)
  exact rc_eq_decline_or (k := false) ⟨_, ho2, rfl⟩ ⟨_, ho, rfl⟩ (by decide) F.sub_dict_list F.slot_list_eq F.slot_dict_eq_refl
    (fun _ hq => call_meets F.slot_list_eq ⟨_, ho2, rfl⟩ F.entry_list_eq (F.args_list_eq_2 _ _) (list_eq_declines_dict b l es ep items n dd sl) ⟨ho2, ho, hq⟩)
    (fun _ hq => call_meets F.slot_dict_eq_refl ⟨_, ho, rfl⟩ F.entry_dict_eq (F.args_dict_eq_2 _ _) (dict_eq_declines_list l b es ep items n dd sl) ⟨ho, ho2, hq⟩)
    (fun _ hq => wpAny_isSame_ref_other' hne ho2 ho (by simp) hq) (.inr hu) h
theorem RcAt.dict_tuple {l b : Addr} {items : Array Value} (hl : IsDct s.heap l) (hb : s.heap.IsTuple b items) (hu : A.units < cLine) : RcAt A s (.ref l) (.ref b) false := fun prog w E Q h => by
  obtain ⟨es, ep, ho⟩ := hl
  obtain ⟨⟨cls, dd, data, sl⟩, ho2, hc, n, hd⟩ := id hb
  simp only at hc hd
  subst hc hd
  have hne : l ≠ b := fun e => by subst e; rw [ho] at ho2; exact absurd ho2 (by simp)
  exact rc_eq_decline_or (k := false) ⟨_, ho, rfl⟩ ⟨_, ho2, rfl⟩ (by decide) F.sub_tuple_dict F.slot_dict_eq F.slot_tuple_eq_refl
    (fun _ hq => call_meets F.slot_dict_eq ⟨_, ho, rfl⟩ F.entry_dict_eq (F.args_dict_eq_2 _ _) (dict_eq_declines_tuple l b es ep items n dd sl) ⟨ho, ho2, hq⟩)
    (fun _ hq => call_meets F.slot_tuple_eq_refl ⟨_, ho2, rfl⟩ F.entry_tuple_eq (F.args_tuple_eq_2 _ _) (tuple_eq_declines_dict b l es ep items n dd sl) ⟨ho2, ho, hq⟩)
    (fun _ hq => wpAny_isSame_ref_other hne ho ho2 (by simp) hq) (.inr hu) h
theorem RcAt.tuple_dict {l b : Addr} {items : Array Value} (hb : s.heap.IsTuple b items) (hl : IsDct s.heap l) (hu : A.units < cLine) : RcAt A s (.ref b) (.ref l) false := fun prog w E Q h => by
  obtain ⟨es, ep, ho⟩ := hl
  obtain ⟨⟨cls, dd, data, sl⟩, ho2, hc, n, hd⟩ := id hb
  simp only at hc hd
  subst hc hd
  have hne : b ≠ l := fun e => by subst e; rw [ho] at ho2; exact absurd ho2 (by simp)
  exact rc_eq_decline_or (k := false) ⟨_, ho2, rfl⟩ ⟨_, ho, rfl⟩ (by decide) F.sub_dict_tuple F.slot_tuple_eq F.slot_dict_eq_refl
    (fun _ hq => call_meets F.slot_tuple_eq ⟨_, ho2, rfl⟩ F.entry_tuple_eq (F.args_tuple_eq_2 _ _) (tuple_eq_declines_dict b l es ep items n dd sl) ⟨ho2, ho, hq⟩)
    (fun _ hq => call_meets F.slot_dict_eq_refl ⟨_, ho, rfl⟩ F.entry_dict_eq (F.args_dict_eq_2 _ _) (dict_eq_declines_tuple l b es ep items n dd sl) ⟨ho, ho2, hq⟩)
    (fun _ hq => wpAny_isSame_ref_other' hne ho2 ho (by simp) hq) (.inr hu) h
theorem RcNeAt.dict_none {l : Addr}  (hl : IsDct s.heap l) (hu : A.units < cLine) : RcNeAt A s (.ref l) (.none) true := fun prog w E Q h => by
  obtain ⟨es, ep, ho⟩ := hl
  exact rc_ne_decline_or (k := false) ⟨_, ho, rfl⟩ rfl (by decide) F.sub_NoneType_dict F.slot_dict_ne F.slot_NoneType_ne_refl
    (fun _ hq => call_meets F.slot_dict_ne ⟨_, ho, rfl⟩ F.entry_dict_ne (F.args_dict_ne_2 _ _) (dict_ne_declines_none l es ep ) ⟨ho, hq⟩)
    (fun _ hq => call_gives F.slot_NoneType_ne_refl rfl F.entry_NoneType_ne (F.args_NoneType_ne_2 _ _) (NoneType___ne___none_ref_0 l) hq)
    (fun _ hq => wpAny_of_eq (rfl : isSame (.ref l) (.none) = pure false) hq) (.inr hu) h
theorem RcNeAt.none_dict {l : Addr}  (hl : IsDct s.heap l) (hu : A.units < cLine) : RcNeAt A s (.none) (.ref l) true := fun prog w E Q h => by
  obtain ⟨es, ep, ho⟩ := hl
  exact rc_ne_decline_or (k := false) rfl ⟨_, ho, rfl⟩ (by decide) F.sub_dict_NoneType F.slot_NoneType_ne F.slot_dict_ne_refl
    (fun _ hq => call_gives F.slot_NoneType_ne rfl F.entry_NoneType_ne (F.args_NoneType_ne_2 _ _) (NoneType___ne___none_ref_0 l) hq)
    (fun _ hq => call_meets F.slot_dict_ne_refl ⟨_, ho, rfl⟩ F.entry_dict_ne (F.args_dict_ne_2 _ _) (dict_ne_declines_none l es ep ) ⟨ho, hq⟩)
    (fun _ hq => wpAny_of_eq (rfl : isSame (.none) (.ref l) = pure false) hq) (.inr hu) h
theorem RcNeAt.dict_bool {l : Addr} (b : Bool) (hl : IsDct s.heap l) (hu : A.units < cLine) : RcNeAt A s (.ref l) (.bool b) true := fun prog w E Q h => by
  obtain ⟨es, ep, ho⟩ := hl
  exact rc_ne_decline_or (k := false) ⟨_, ho, rfl⟩ rfl (by decide) F.sub_bool_dict F.slot_dict_ne F.slot_bool_ne_refl
    (fun _ hq => call_meets F.slot_dict_ne ⟨_, ho, rfl⟩ F.entry_dict_ne (F.args_dict_ne_2 _ _) (dict_ne_declines_bool l es ep b) ⟨ho, hq⟩)
    (fun _ hq => call_meets F.slot_bool_ne_refl rfl F.entry_int_ne (F.args_int_ne_2 _ _) (int_ne_declines_dict_bool b l es ep) ⟨ho, hq⟩)
    (fun _ hq => wpAny_of_eq (rfl : isSame (.ref l) (.bool b) = pure false) hq) (.inr hu) h
theorem RcNeAt.bool_dict {l : Addr} (b : Bool) (hl : IsDct s.heap l) (hu : A.units < cLine) : RcNeAt A s (.bool b) (.ref l) true := fun prog w E Q h => by
  obtain ⟨es, ep, ho⟩ := hl
  exact rc_ne_decline_or (k := false) rfl ⟨_, ho, rfl⟩ (by decide) F.sub_dict_bool F.slot_bool_ne F.slot_dict_ne_refl
    (fun _ hq => call_meets F.slot_bool_ne rfl F.entry_int_ne (F.args_int_ne_2 _ _) (int_ne_declines_dict_bool b l es ep) ⟨ho, hq⟩)
    (fun _ hq => call_meets F.slot_dict_ne_refl ⟨_, ho, rfl⟩ F.entry_dict_ne (F.args_dict_ne_2 _ _) (dict_ne_declines_bool l es ep b) ⟨ho, hq⟩)
    (fun _ hq => wpAny_of_eq (rfl : isSame (.bool b) (.ref l) = pure false) hq) (.inr hu) h
theorem RcNeAt.dict_int {l : Addr} (b : Int) (u : Tok) (hl : IsDct s.heap l) (hu : A.units < cLine) : RcNeAt A s (.ref l) (.int b u) true := fun prog w E Q h => by
  obtain ⟨es, ep, ho⟩ := hl
  exact rc_ne_decline_or (k := false) ⟨_, ho, rfl⟩ rfl (by decide) F.sub_int_dict F.slot_dict_ne F.slot_int_ne_refl
    (fun _ hq => call_meets F.slot_dict_ne ⟨_, ho, rfl⟩ F.entry_dict_ne (F.args_dict_ne_2 _ _) (dict_ne_declines_int l es ep b u) ⟨ho, hq⟩)
    (fun _ hq => call_meets F.slot_int_ne_refl rfl F.entry_int_ne (F.args_int_ne_2 _ _) (int_ne_declines_dict_int b u l es ep) ⟨ho, hq⟩)
    (fun _ hq => wpAny_of_eq (rfl : isSame (.ref l) (.int b u) = pure false) hq) (.inr hu) h
theorem RcNeAt.int_dict {l : Addr} (b : Int) (u : Tok) (hl : IsDct s.heap l) (hu : A.units < cLine) : RcNeAt A s (.int b u) (.ref l) true := fun prog w E Q h => by
  obtain ⟨es, ep, ho⟩ := hl
  exact rc_ne_decline_or (k := false) rfl ⟨_, ho, rfl⟩ (by decide) F.sub_dict_int F.slot_int_ne F.slot_dict_ne_refl
    (fun _ hq => call_meets F.slot_int_ne rfl F.entry_int_ne (F.args_int_ne_2 _ _) (int_ne_declines_dict_int b u l es ep) ⟨ho, hq⟩)
    (fun _ hq => call_meets F.slot_dict_ne_refl ⟨_, ho, rfl⟩ F.entry_dict_ne (F.args_dict_ne_2 _ _) (dict_ne_declines_int l es ep b u) ⟨ho, hq⟩)
    (fun _ hq => wpAny_of_eq (rfl : isSame (.int b u) (.ref l) = pure false) hq) (.inr hu) h
theorem RcNeAt.dict_str {l : Addr} (b : Str) (u : Tok) (hl : IsDct s.heap l) (hu : A.units < cLine) : RcNeAt A s (.ref l) (.str b u) true := fun prog w E Q h => by
  obtain ⟨es, ep, ho⟩ := hl
  exact rc_ne_decline_or (k := false) ⟨_, ho, rfl⟩ rfl (by decide) F.sub_str_dict F.slot_dict_ne F.slot_str_ne_refl
    (fun _ hq => call_meets F.slot_dict_ne ⟨_, ho, rfl⟩ F.entry_dict_ne (F.args_dict_ne_2 _ _) (dict_ne_declines_str l es ep b u) ⟨ho, hq⟩)
    (fun _ hq => call_meets F.slot_str_ne_refl rfl F.entry_str_ne (F.args_str_ne_2 _ _) (str_ne_declines_dict b u l es ep) ⟨ho, hq⟩)
    (fun _ hq => wpAny_of_eq (rfl : isSame (.ref l) (.str b u) = pure false) hq) (.inr hu) h
theorem RcNeAt.str_dict {l : Addr} (b : Str) (u : Tok) (hl : IsDct s.heap l) (hu : A.units < cLine) : RcNeAt A s (.str b u) (.ref l) true := fun prog w E Q h => by
  obtain ⟨es, ep, ho⟩ := hl
  exact rc_ne_decline_or (k := false) rfl ⟨_, ho, rfl⟩ (by decide) F.sub_dict_str F.slot_str_ne F.slot_dict_ne_refl
    (fun _ hq => call_meets F.slot_str_ne rfl F.entry_str_ne (F.args_str_ne_2 _ _) (str_ne_declines_dict b u l es ep) ⟨ho, hq⟩)
    (fun _ hq => call_meets F.slot_dict_ne_refl ⟨_, ho, rfl⟩ F.entry_dict_ne (F.args_dict_ne_2 _ _) (dict_ne_declines_str l es ep b u) ⟨ho, hq⟩)
    (fun _ hq => wpAny_of_eq (rfl : isSame (.str b u) (.ref l) = pure false) hq) (.inr hu) h
theorem RcNeAt.dict_list {l b : Addr} {items : Array Value} (hl : IsDct s.heap l) (hb : s.heap.IsList b items) (hu : A.units < cLine) : RcNeAt A s (.ref l) (.ref b) true := fun prog w E Q h => by
  obtain ⟨es, ep, ho⟩ := hl
  obtain ⟨⟨cls, dd, data, sl⟩, ho2, hc, n, hd⟩ := id hb
  simp only at hc hd
  subst hc hd
  have hne : l ≠ b := fun e => by subst e; rw [ho] at ho2; exact absurd ho2 (by simp)
  exact rc_ne_decline_or (k := false) ⟨_, ho, rfl⟩ ⟨_, ho2, rfl⟩ (by decide) F.sub_list_dict F.slot_dict_ne F.slot_list_ne_refl
    (fun _ hq => call_meets F.slot_dict_ne ⟨_, ho, rfl⟩ F.entry_dict_ne (F.args_dict_ne_2 _ _) (dict_ne_declines_list l b es ep items n dd sl) ⟨ho, ho2, hq⟩)
    (fun _ hq => call_meets F.slot_list_ne_refl ⟨_, ho2, rfl⟩ F.entry_list_ne (F.args_list_ne_2 _ _) (list_ne_declines_dict b l es ep items n dd sl) ⟨ho2, ho, hq⟩)
    (fun _ hq => wpAny_isSame_ref_other hne ho ho2 (by simp) hq) (.inr hu) h
theorem RcNeAt.list_dict {l b : Addr} {items : Array Value} (hb : s.heap.IsList b items) (hl : IsDct s.heap l) (hu : A.units < cLine) : RcNeAt A s (.ref b) (.ref l) true := fun prog w E Q h => by
  obtain ⟨es, ep, ho⟩ := hl
  obtain ⟨⟨cls, dd, data, sl⟩, ho2, hc, n, hd⟩ := id hb
  simp only at hc hd
  subst hc hd
  have hne : b ≠ l := fun e => by subst e; rw [ho] at ho2; exact absurd ho2 (by simp)
  exact rc_ne_decline_or (k := false) ⟨_, ho2, rfl⟩ ⟨_, ho, rfl⟩ (by decide) F.sub_dict_list F.slot_list_ne F.slot_dict_ne_refl
    (fun _ hq => call_meets F.slot_list_ne ⟨_, ho2, rfl⟩ F.entry_list_ne (F.args_list_ne_2 _ _) (list_ne_declines_dict b l es ep items n dd sl) ⟨ho2, ho, hq⟩)
    (fun _ hq => call_meets F.slot_dict_ne_refl ⟨_, ho, rfl⟩ F.entry_dict_ne (F.args_dict_ne_2 _ _) (dict_ne_declines_list l b es ep items n dd sl) ⟨ho, ho2, hq⟩)
    (fun _ hq => wpAny_isSame_ref_other' hne ho2 ho (by simp) hq) (.inr hu) h
theorem RcNeAt.dict_tuple {l b : Addr} {items : Array Value} (hl : IsDct s.heap l) (hb : s.heap.IsTuple b items) (hu : A.units < cLine) : RcNeAt A s (.ref l) (.ref b) true := fun prog w E Q h => by
  obtain ⟨es, ep, ho⟩ := hl
  obtain ⟨⟨cls, dd, data, sl⟩, ho2, hc, n, hd⟩ := id hb
  simp only at hc hd
  subst hc hd
  have hne : l ≠ b := fun e => by subst e; rw [ho] at ho2; exact absurd ho2 (by simp)
  exact rc_ne_decline_or (k := false) ⟨_, ho, rfl⟩ ⟨_, ho2, rfl⟩ (by decide) F.sub_tuple_dict F.slot_dict_ne F.slot_tuple_ne_refl
    (fun _ hq => call_meets F.slot_dict_ne ⟨_, ho, rfl⟩ F.entry_dict_ne (F.args_dict_ne_2 _ _) (dict_ne_declines_tuple l b es ep items n dd sl) ⟨ho, ho2, hq⟩)
    (fun _ hq => call_meets F.slot_tuple_ne_refl ⟨_, ho2, rfl⟩ F.entry_tuple_ne (F.args_tuple_ne_2 _ _) (tuple_ne_declines_dict b l es ep items n dd sl) ⟨ho2, ho, hq⟩)
    (fun _ hq => wpAny_isSame_ref_other hne ho ho2 (by simp) hq) (.inr hu) h
theorem RcNeAt.tuple_dict {l b : Addr} {items : Array Value} (hb : s.heap.IsTuple b items) (hl : IsDct s.heap l) (hu : A.units < cLine) : RcNeAt A s (.ref b) (.ref l) true := fun prog w E Q h => by
  obtain ⟨es, ep, ho⟩ := hl
  obtain ⟨⟨cls, dd, data, sl⟩, ho2, hc, n, hd⟩ := id hb
  simp only at hc hd
  subst hc hd
  have hne : b ≠ l := fun e => by subst e; rw [ho] at ho2; exact absurd ho2 (by simp)
  exact rc_ne_decline_or (k := false) ⟨_, ho2, rfl⟩ ⟨_, ho, rfl⟩ (by decide) F.sub_dict_tuple F.slot_tuple_ne F.slot_dict_ne_refl
    (fun _ hq => call_meets F.slot_tuple_ne ⟨_, ho2, rfl⟩ F.entry_tuple_ne (F.args_tuple_ne_2 _ _) (tuple_ne_declines_dict b l es ep items n dd sl) ⟨ho2, ho, hq⟩)
    (fun _ hq => call_meets F.slot_dict_ne_refl ⟨_, ho, rfl⟩ F.entry_dict_ne (F.args_dict_ne_2 _ _) (dict_ne_declines_tuple l b es ep items n dd sl) ⟨ho, ho2, hq⟩)
    (fun _ hq => wpAny_isSame_ref_other' hne ho2 ho (by simp) hq) (.inr hu) h
end
end PySem.SeqAt
set_option Elab.async false
set_option linter.all false
set_option maxRecDepth 100000
set_option maxHeartbeats 4000000
namespace L2
open PySem PySem.Spec PyProof.Rows
noncomputable def clOf (cells : List (Str × Addr)) : List (Str × NameKind) → List (Str × Addr) → List (Str × Addr)
  | [], cs => cs
  | (n, k) :: r, cs => if k == .free then clOf cells r ((n, (cells.lookup n).getD 0) :: cs) else clOf cells r cs
theorem closure_loop {env : Env} : ∀ (names : List (Str × NameKind)) (cs : List (Str × Addr)), (∀ x ∈ names, x.2 = .free → ∃ c, env.cells.lookup x.1 = some c) →
    (forIn names cs fun (x : Str × NameKind) (r : List (Str × Addr)) => (do
      if x.2 == NameKind.free then
        let a ← cellOf env x.1
        pure (ForInStep.yield ((x.1, a) :: r))
      else pure (ForInStep.yield r) : Sem (ForInStep (List (Str × Addr))))) = (pure (clOf env.cells names cs) : Sem (List (Str × Addr)))
  | [], cs, _ => rfl
  | (n, k) :: r, cs, h => by
    have ih := fun cs => closure_loop (env := env) r cs fun x hx => h x (List.mem_cons_of_mem _ hx)
    rw [List.forIn_cons]
    cases hk : (k == NameKind.free) with
    | true =>
      obtain ⟨c, hc⟩ := h (n, k) List.mem_cons_self (by simpa using hk)
      have hc' : env.cells.lookup n = some c := hc
      simp only [clOf, hk, if_true, cellOf, hc', Option.getD_some, pure_bind]
      exact ih _
    | false =>
      simp only [clOf, hk, Bool.false_eq_true, if_false, pure_bind]
      exact ih _
theorem closureFor_some {scope : Scope} {env : Env} (h : ∀ x ∈ scope.names, x.2 = .free → ∃ c, env.cells.lookup x.1 = some c) : closureFor scope env = pure (clOf env.cells scope.names []) := by
  rw [← closure_loop scope.names [] h]
  unfold closureFor
  simp only [bind_pure]
theorem clOf_in {cells : List (Str × Addr)} {y : Str} {c : Addr} : ∀ {names : List (Str × NameKind)} {cs : List (Str × Addr)}, (clOf cells names cs).lookup y = some c → ((y, NameKind.free) ∈ names ∧ c = (cells.lookup y).getD 0) ∨ cs.lookup y = some c
  | [], cs, h => .inr h
  | (n, k) :: r, cs, h => by
    unfold clOf at h
    cases hk : (k == NameKind.free) with
    | true =>
      have hk' : k = .free := by simpa using hk
      subst hk'
      rw [if_pos (by rfl)] at h
      rcases clOf_in h with ⟨a, b⟩ | q
      · exact .inl ⟨List.mem_cons_of_mem _ a, b⟩
      · cases hy : y == n with
        | true =>
          rw [List.lookup_cons, hy] at q
          have : y = n := by simpa using hy
          subst this
          exact .inl ⟨List.mem_cons_self, (Option.some.inj q).symm⟩
        | false => rw [List.lookup_cons, hy] at q; exact .inr q
    | false =>
      rw [hk] at h
      rcases clOf_in (by simpa using h) with ⟨a, b⟩ | q
      · exact .inl ⟨List.mem_cons_of_mem _ a, b⟩
      · exact .inr q
theorem clOf_has {cells : List (Str × Addr)} {y : Str} : ∀ {names : List (Str × NameKind)} {cs : List (Str × Addr)}, (∀ c, cs.lookup y = some c → c = (cells.lookup y).getD 0) → ((y, NameKind.free) ∈ names ∨ cs.lookup y = some ((cells.lookup y).getD 0)) →
    (clOf cells names cs).lookup y = some ((cells.lookup y).getD 0)
  | [], cs, _, h => by
    rcases h with h | h
    · simp at h
    · exact h
  | (n, k) :: r, cs, hc, h => by
    unfold clOf
    cases hk : (k == NameKind.free) with
    | true =>
      have hk' : k = .free := by simpa using hk
      subst hk'
      rw [if_pos (by rfl)]
      cases hy : y == n with
      | true =>
        have : y = n := by simpa using hy
        subst this
        refine clOf_has (fun c e => ?_) (.inr ?_)
        · rw [List.lookup_cons, hy] at e; exact (Option.some.inj e).symm
        · rw [List.lookup_cons, hy]
      | false =>
        refine clOf_has (fun c e => ?_) ?_
        · rw [List.lookup_cons, hy] at e; exact hc c e
        · rcases h with h | h
          · rcases List.mem_cons.mp h with e | e
            · injection e with e1 _
              rw [e1] at hy; simp at hy
            · exact .inl e
          · right; rw [List.lookup_cons, hy]; exact h
    | false =>
      have h' : (y, NameKind.free) ∈ r ∨ List.lookup y cs = some ((List.lookup y cells).getD 0) := by
        rcases h with h | h
        · rcases List.mem_cons.mp h with e | e
          · injection e with _ e2
            rw [← e2] at hk; simp at hk
          · exact .inl e
        · exact .inr h
      have q := clOf_has (names := r) (cs := cs) hc h'
      simpa using q
theorem lookup_relabel {env : Env} {names : List (Str × NameKind)} {x : Str} {k : NameKind} : (names.map fun (n, k) => if (k == NameKind.free && env.scope.kind == .function && env.kindOf n == some .cell) then (n, NameKind.cell) else (n, k)).lookup x = some k →
    names.lookup x = some k ∨ (k = .cell ∧ names.lookup x = some .free) := by
  induction names with
  | nil => intro h; simp at h
  | cons p r ih =>
    obtain ⟨n, k'⟩ := p
    intro h
    have h : List.lookup x ((if (k' == NameKind.free && env.scope.kind == .function && env.kindOf n == some .cell) = true then (n, NameKind.cell) else (n, k')) :: _) = some k := h
    cases hx : x == n with
    | true =>
      by_cases hc : (k' == NameKind.free && env.scope.kind == .function && env.kindOf n == some .cell) = true
      · rw [if_pos hc] at h
        simp only [List.lookup_cons, hx] at h
        cases h
        refine .inr ⟨rfl, ?_⟩
        simp only [List.lookup_cons, hx]
        simp only [Bool.and_eq_true] at hc
        have : k' = .free := by simpa using hc.1.1
        rw [this]
      · rw [if_neg hc] at h
        simp only [List.lookup_cons, hx] at h ⊢
        exact .inl h
    | false =>
      have h' : List.lookup x (r.map fun (n, k) => if (k == NameKind.free && env.scope.kind == .function && env.kindOf n == some .cell) then (n, NameKind.cell) else (n, k)) = some k := by
        by_cases hc : (k' == NameKind.free && env.scope.kind == .function && env.kindOf n == some .cell) = true
        · rw [if_pos hc] at h; simpa only [List.lookup_cons, hx] using h
        · rw [if_neg hc] at h; simpa only [List.lookup_cons, hx] using h
      simp only [List.lookup_cons, hx]
      exact ih h'
theorem compLoop_go {prog : Program} {w : World} {A : Around} {R : Result → Shared → Prop} {s : Shared} {elt target iter : Expr} {ifs : List Expr} {scope : Scope} {pos : Pos} {it acc : Value} {env : Env} (I : Nat → Shared → Prop)
    (turn : ∀ n s, I n s → wpAny (model prog w) A (pyNext it) (fun r s₁ => match r with
      | none => R (.ok .next) s₁
      | some v => wpAny (model prog w) A (letOwnedTupleGo target it v) (fun _ s₁' => wpAny (model prog w) A (assign target env v) (fun _ s₂ =>
          wpAny (model prog w) A (forIn ifs true fun c r => if r = true then do let ok ← isTrue c env (eval c env); pure (ForInStep.yield ok) else pure (ForInStep.yield r)) (fun ok s₃ =>
            if ok = true then wpAny (model prog w) A (eval elt env) (fun x s₄ =>
              wpAny (model prog w) A (call (.builtin "list.append") [acc, x]) (fun _ s₅ => ∃ m, m < n ∧ I m s₅) (notedBy (model prog w) A env fun e s' => R (.error e) s') s₄) (notedBy (model prog w) A env fun e s' => R (.error e) s') s₃
            else ∃ m, m < n ∧ I m s₃) (notedBy (model prog w) A env fun e s' => R (.error e) s') s₂) (notedBy (model prog w) A env fun e s' => R (.error e) s') s₁') (notedBy (model prog w) A env fun e s' => R (.error e) s') s₁) (notedBy (model prog w) A env fun e s' => R (.error e) s') s)
    (n : Nat) (h : I n s) :
    codeAny (model prog w) A (.compLoop (.ListComp elt [⟨target, iter, ifs, 0⟩] scope pos) 0 it acc env) R s := by
  refine codeAny_loop rfl I (fun n s hI => ?_) n h
  show wpAny _ A ((compTurn (.ListComp elt [⟨target, iter, ifs, 0⟩] scope pos) 0 it acc env).onRaise (fun x => do noteFrame x env; theTreesLotGoes x)) _ _ s
  refine wpAny_noted ?_
  rw [compTurn_list]
  refine wpAny_bind (wpAny_standAt (wpAny_bind (wpAny_mono (turn n s hI) (fun r s₁ h₁ => ?_) fun _ _ h' => h')))
  cases r with
  | none => exact wpAny_pure h₁
  | some v =>
    refine wpAny_bind (wpAny_mono h₁ (fun _ s₁' h₁' => ?_) fun _ _ h' => h')
    refine wpAny_bind (wpAny_mono h₁' (fun _ s₂ h₂ => wpAny_bind (wpAny_mono h₂ (fun ok s₃ h₃ => ?_) fun _ _ h' => h')) fun _ _ h' => h')
    cases ok with
    | false => exact wpAny_pure ⟨rfl, h₃⟩
    | true =>
      exact wpAny_bind (wpAny_bind (wpAny_mono h₃ (fun x s₄ h₄ => wpAny_bind (wpAny_mono h₄ (fun _ s₅ h₅ => wpAny_pure (wpAny_pure ⟨rfl, h₅⟩)) fun _ _ h' => h')) fun _ _ h' => h'))
noncomputable def cxComp (X : Cx) (x : Str) (scope : Scope) (fp : List Addr) (s : Shared) (H : Hp) : Cx where
  prog := X.prog
  w := X.w
  K := X.K
  mg := X.mg
  base := X.base
  A := X.A
  N := x :: X.N
  s₀ := s
  H₀ := H
  env := compEnvC scope (clOf X.env.cells scope.names []) s.heap.objs.size X.env
  outer := X.stack
  stack := X.stack
  ex := fp
  calm := X.calm
  fn := fun _ => false
  pn := X.pn
  xe := fun _ _ => False
structure CompScope (X : Cx) (x : Str) (scope : Scope) : Prop where
  kind : scope.kind = .function
  nocell : ∀ y ∈ scope.names, y.2 ≠ .cell
  locs : ∀ y ∈ scope.names, y.2 = .local → scope.names.lookup y.1 = some .local
  own : scope.names.lookup x = some .local
  frees : ∀ y ∈ scope.names, y.2 = .free → X.env.kindOf y.1 = some .cell ∨ X.env.kindOf y.1 = some .free
  apart : ∀ y ∈ scope.names, y.2 = .local → y.1 ∉ X.N
theorem CompScope.cells {X : Cx} {x : Str} {scope : Scope} (C : CompScope X x scope) (ok : X.Ok) : ∀ y ∈ scope.names, y.2 = .free → ∃ c, X.env.cells.lookup y.1 = some c := fun y hy hf => ok.has y.1 (C.frees y hy hf)
theorem CompScope.cell_of {X : Cx} {x y : Str} {c : Addr} {scope : Scope} (C : CompScope X x scope) (ok : X.Ok) (h : (clOf X.env.cells scope.names []).lookup y = some c) : (y, NameKind.free) ∈ scope.names ∧ X.env.cells.lookup y = some c := by
  rcases clOf_in h with ⟨a, b⟩ | q
  · obtain ⟨c', e⟩ := C.cells ok _ a rfl
    have e' : X.env.cells.lookup y = some c' := e
    rw [e', Option.getD_some] at b
    exact ⟨a, by rw [b]; exact e'⟩
  · simp at q
theorem comp_ok {X : Cx} {x : Str} {scope : Scope} {fp : List Addr} {pins : List (Addr × Obj)} {σ : St} {H : Hp} {s : Shared} (I : Inv X pins σ H s) (C : CompScope X x scope) (hf : ∀ b ∈ fp, FpOk X pins H b) (ho : ∀ b ∈ fp, ∃ o, s.heap.get? b = some o) :
    (cxComp X x scope fp s H).Ok where
  mod := I.ok.mod
  kind := C.kind
  glob := I.ok.glob
  blt := I.ok.blt
  above := Nat.le_refl _
  inj := fun y z c h1 h2 => I.ok.inj y z c (C.cell_of I.ok h1).2 (C.cell_of I.ok h2).2
  has := fun y hy => by
    have hy : (relabel scope X.env).names.lookup y = some .cell ∨ (relabel scope X.env).names.lookup y = some .free := hy
    have hfr : scope.names.lookup y = some .free := by
      rcases hy with hy | hy
      · rcases lookup_relabel hy with q | ⟨_, q⟩
        · exact absurd rfl (C.nocell _ (PySem.mem_of_lookup q))
        · exact q
      · rcases lookup_relabel hy with q | ⟨z, _⟩
        · exact q
        · cases z
    exact ⟨_, clOf_has (fun c e => by simp at e) (.inl (PySem.mem_of_lookup hfr))⟩
  cab := fun y c h _ => nomatch h
  hd := I.ok.hd
  frames := I.ok.frames
  stk := .inl rfl
  exf := fun b hb => by
    obtain ⟨o, e⟩ := ho b hb
    obtain ⟨f0, f1, f2, f3, f4, f5⟩ := hf b hb
    exact ⟨Nat.ne_of_lt (Heap.lt_size e), fun y c h => f4 y c (C.cell_of I.ok h).2⟩
  bs := I.bs
  bsz := Nat.le_trans I.ok.bsz I.sz
  noex := fun b o e hb => by
    obtain ⟨f0, f1, f2, f3, f4, f5⟩ := hf b hb
    rcases f3 with z | z
    · exact I.ok.noex b o e z
    · exact absurd (Nat.lt_of_lt_of_le (Heap.lt_size (I.ok.bs b o e).1) z) (Nat.lt_irrefl _)
  exfs := fun b hb hs => by
    obtain ⟨f0, f1, f2, f3, f4, f5⟩ := hf b hb
    rcases List.mem_cons.mp (I.stkSub b hs) with z | z
    · exact f1 z
    · exact f2 z
  funs := I.stack
  frf := I.stkFree
theorem comp_inv {X : Cx} {x : Str} {scope : Scope} {fp : List Addr} {pins : List (Addr × Obj)} {σ : St} {H : Hp} {s : Shared} {h' : Heap} {tk : Nat} {m : Str → Option Value} (I : Inv X pins σ H s) (C : CompScope X x scope) (hf : ∀ b ∈ fp, FpOk X pins H b) (ho : ∀ b ∈ fp, ∃ o, s.heap.get? b = some o)
    (hx : x ∉ X.N) (hn : h'.Ns s.heap.objs.size m) (k : ∀ b o, s.heap.get? b = some o → h'.get? b = some o) : Inv (cxComp X x scope fp s H) pins (none :: σ) H { s with heap := h', toks := tk } := by
  refine ⟨comp_ok I C hf ho, rfl, I.bare, Un.kept k, ⟨m, hn, fun i y v h1 h2 h3 => ?_⟩, fun y c h => ?_, I.hok.fresh (Nat.le_refl _), fun y c h => I.freeC y c (C.cell_of I.ok h).2, fun p hp => ?_, I.hok.kept k, ?_⟩
  · cases i with
    | zero => simp at h2
    | succ i =>
      have h1 : X.N[i]? = some y := by simpa [cxComp] using h1
      have h2 : σ[i]? = some (some v) := by simpa using h2
      have h3 : (relabel scope X.env).names.lookup y = some .local ∨ (relabel scope X.env).names.lookup y = some .cell ∨ (relabel scope X.env).names.lookup y = some .free := h3
      have hfr : scope.names.lookup y = some .free := by
        rcases h3 with q | q | q
        · rcases lookup_relabel q with q | ⟨z, _⟩
          · exact absurd (List.mem_of_getElem? h1) (C.apart _ (PySem.mem_of_lookup q) rfl)
          · cases z
        · rcases lookup_relabel q with q | ⟨_, q⟩
          · exact absurd rfl (C.nocell _ (PySem.mem_of_lookup q))
          · exact q
        · rcases lookup_relabel q with q | ⟨z, _⟩
          · exact q
          · cases z
      have hmem := PySem.mem_of_lookup hfr
      obtain ⟨m0, hn0, hl0⟩ := I.loc
      have hvis : Vis X.env.scope y := by
        rcases C.frees _ hmem rfl with q | q
        · exact .inr (.inl q)
        · exact .inr (.inr q)
      obtain ⟨u, r, l⟩ := hl0 i y v h1 h2 hvis
      refine ⟨u, r, .inr ⟨?_, ?_⟩⟩
      · rcases h3 with q | q | q
        · rcases lookup_relabel q with q | ⟨z, _⟩
          · rw [hfr] at q; cases q
          · cases z
        · exact .inl q
        · exact .inr q
      · rcases l with ⟨lk, _⟩ | ⟨_, c, hc, hcell⟩
        · rcases C.frees _ hmem rfl with q | q
          · rw [lk] at q; cases q
          · rw [lk] at q; cases q
        · refine ⟨c, ?_, ?_⟩
          · show (clOf X.env.cells scope.names []).lookup y = some c
            have q := clOf_has (cells := X.env.cells) (y := y) (names := scope.names) (cs := []) (fun c e => by simp at e) (.inl hmem)
            rw [hc, Option.getD_some] at q
            exact q
          · obtain ⟨o, e, d⟩ := hcell
            exact ⟨o, k _ _ e, d⟩
  · obtain ⟨v, o, e, d⟩ := I.cell y c (C.cell_of I.ok h).2
    exact ⟨v, o, k _ _ e, d⟩
  · obtain ⟨e, n, ne, nf, d⟩ := I.pin p hp
    refine ⟨k _ _ e, n, Nat.ne_of_lt (Heap.lt_size e), fun z => ?_, d⟩
    rcases List.mem_cons.mp (I.stkSub _ z) with q | q
    · exact ne q
    · exact nf q
  · show (none :: σ).length = (x :: X.N).length
    rw [List.length_cons, List.length_cons, I.len]
end L2
set_option Elab.async false
set_option linter.all false
set_option maxRecDepth 100000
set_option maxHeartbeats 4000000
namespace L2
open PySem PySem.Spec PyProof.Rows
noncomputable def tYes : TT := fun _ H Q => Q true H
noncomputable def PTs (X : Cx) (ifs : List Expr) (t : TT) : Prop :=
  ∀ (pins : List (Addr × Obj)) (s : Shared) (σ : St) (H : Hp) (Q : Bool → Hp → Prop), Inv X pins σ H s → t σ H Q →
    wpAny (model X.prog X.w) X.A (forIn ifs true fun c r => if r = true then do let ok ← isTrue c X.env (eval c X.env); pure (ForInStep.yield ok) else pure (ForInStep.yield r)) (TP X pins σ Q) X.xe s
theorem pts_nil {X : Cx} : PTs X [] tYes := fun _ _ _ H _ I h => wpAny_tests_nil ⟨H, I, h⟩
theorem pts_one {X : Cx} {c : Expr} {t : TT} (h : PT X c t) : PTs X [c] t := fun pins s σ H Q I q => wpAny_tests_one (h pins s σ H Q I q)
noncomputable def tComp (wi : TI) (tc : TT) (te : TE) : TE := fun σ H Q => wi σ H fun J H1 => ∀ D, H1 D = none → ∃ W : Nat → Nat → List V → Hp → Prop, (∃ m, W 0 m [] (upd H1 D (.lst []))) ∧ ∀ i m ys H2, W i m ys H2 →
  (J.stop i H2 ∧ Q (.ref D) H2) ∨ (J.go i H2 ∧ ∃ N : List V → Hp → Prop, (∀ ys' H', N ys' H' → ∃ m', m' < m ∧ W (i + 1) m' ys' H') ∧
    ∀ x H', J.yld i H2 x H' → tc (some x :: σ) H' fun b H3 => if b = true then te (some x :: σ) H3 fun y H4 => H4 D = some (.lst ys) ∧ ys.length < sizeLine ∧ N (ys ++ [y]) (upd H4 D (.lst (ys ++ [y]))) else N ys H3)
theorem comp_out {X : Cx} {x : Str} {scope : Scope} {fp : List Addr} {pins : List (Addr × Obj)} {σ σ' : St} {H H' : Hp} {s s' : Shared} {h' : Heap} (I : Inv X pins σ H s) (hf : ∀ b ∈ fp, FpOk X pins H b) (J : Inv (cxComp X x scope fp s H) pins σ' H' s')
    (sb : Heap.SameBut s.heap.objs.size s'.heap h') : Inv X pins σ H' { s' with heap := h' } := by
  have hC : H' s.heap.objs.size = none := J.free
  have ne : ∀ b o, s.heap.get? b = some o → b ≠ s.heap.objs.size := fun b o e => Nat.ne_of_lt (Heap.lt_size e)
  have u : Un (frs X.stack) fp H H' s.heap h' :=
    ⟨fun b o e n hb hx => (sb.2 b (ne b o e)).trans (J.base.keep b o e n hb hx), fun b o e n hb hx => by
        obtain ⟨sl, q⟩ := J.base.slot b o e n hb hx
        exact ⟨sl, (sb.2 b (ne b o e)).trans q⟩, J.base.free, fun b o e hx => by
        obtain ⟨o', q⟩ := J.base.there b o e hx
        exact ⟨o', (sb.2 b (ne b o e)).trans q⟩, J.base.tups, J.base.frzs, J.base.tbls⟩
  have hok : HOk X.prog X.w H' h' := fun b ob e => by
    refine (J.hok b ob e).stay (fun c w' hc q => (sb.2 c ?_).trans q) (fun _ q => q) fun _ _ q => q
    intro z
    rcases hc with y | y
    · rw [z] at y; rw [← y, hC] at e; cases e
    · rw [z, hC] at y; cases y
  exact I.call' (s' := { s' with heap := h' }) J.os u hok J.bare fun b hb => ⟨(hf b hb).2.2.2.1, (hf b hb).2.1, (hf b hb).2.2.2.2.1, (hf b hb).2.2.2.2.2⟩
theorem comp_core {X : Cx} {elt iter : Expr} {ifs : List Expr} {x : Str} {px : Pos} {scope : Scope} {pos : Pos} {wi : TI} {tc : TT} {te : TE} (hc : X.calm = true) (C : CompScope X x scope) (hx : x ∉ X.N) (hN : X.N.Nodup)
    (hi : PI X (.Name x px) iter wi) (ht : ∀ fp s H, PTs (cxComp X x scope fp s H) ifs tc) (he : ∀ fp s H, PE (cxComp X x scope fp s H) elt te)
    (hs : ∀ x, foldedSetIterable iter X.env x = pure x) {pins : List (Addr × Obj)} {s : Shared} {σ : St} {H : Hp} {Q : VK} (I : Inv X pins σ H s) (h : tComp wi tc te σ H Q)
    {use : Option (Value → Sem Unit)} {QQ : Value → Shared → Prop} {ppos : Pos}
    (fin : ∀ {fp : List Addr} {s3 s5 : Shared} {H3 H4 : Hp} {D : Addr} {o : Option V}, Inv X pins σ H3 s3 → (∀ b ∈ fp, FpOk X pins H3 b) → Inv (cxComp X x scope fp s3 H3) pins (o :: σ) H4 s5 → Q (.ref D) H4 → compPost (model X.prog X.w) X.A X.xe use QQ (.ref D) s3.heap.objs.size (.ok .next) s5) :
    wpAny (model X.prog X.w) X.A (comprehension (.ListComp elt [⟨.Name x px, iter, ifs, 0⟩] scope pos) scope X.env ppos (newList []) false (eval iter X.env) use) QQ X.xe s := by
  refine wpAny_comprehension_free rfl hs (closureFor_some (C.cells I.ok)) C.kind C.locs (thn (hi pins s σ H _ I h) fun v s1 h1 => thn h1 fun itv s2 h2 => ?_)
  obtain ⟨it, fp, tn, J, H2, e, I2, T, st2, f2, R⟩ := h2
  subst e
  have hD : H2 s2.heap.objs.size = none := I2.hok.fresh (Nat.le_refl _)
  obtain ⟨W, ⟨m0, w0⟩, turn⟩ := R _ hD
  refine wpAny_newObj_type (wpAny_newFunctionEnv C.nocell (by intro y hy; simp at hy) (fun h₁ hns₁ hsb₁ => ?_) C.kind)
  dsimp only at hns₁ hsb₁ ⊢
  have I3 : Inv X pins σ (upd H2 s2.heap.objs.size (.lst [])) { s2 with heap := s2.heap.push { cls := .type "list", dict := none, data := .seq ([] : List Value).toArray } } :=
    I2.laid (t' := s2.toks) (o := .lst []) (fun b ob q => Heap.get?_push_of_some _ q) (Nat.le_refl _) ⟨Nat.zero_le _, [], 0, .nil, Heap.get?_push_size _ rfl⟩
  have f3 : ∀ b ∈ fp, FpOk X pins (upd H2 s2.heap.objs.size (.lst [])) b := fun b hb => by
    obtain ⟨o, e, _⟩ := T.obj _ _ st2 b hb
    obtain ⟨g0, g⟩ := f2 b hb
    exact ⟨by rw [upd_ne (Nat.ne_of_lt (Heap.lt_size e))]; exact g0, g⟩
  have o3 : ∀ b ∈ fp, ∃ o, (s2.heap.push { cls := .type "list", dict := none, data := .seq ([] : List Value).toArray }).get? b = some o := fun b hb => by
    obtain ⟨o, e, _⟩ := T.obj _ _ st2 b hb
    exact ⟨o, Heap.get?_push_of_some _ e⟩
  have old : ∀ b o, (s2.heap.push { cls := .type "list", dict := none, data := .seq ([] : List Value).toArray }).get? b = some o → h₁.get? b = some o := fun b o e =>
    hsb₁.extBut b o (Nat.ne_of_lt (Heap.lt_size e)) (Heap.get?_push_of_some _ e)
  have K0 := comp_inv (x := x) (scope := scope) (fp := fp) (h' := h₁) (tk := s2.toks) I3 C f3 o3 hx hns₁ old
  have st3 : tn 0 h₁ := T.keep _ _ _ st2 fun b _ o e => old b o (Heap.get?_push_of_some _ e)
  generalize hs3 : ({ s2 with heap := s2.heap.push { cls := .type "list", dict := none, data := .seq ([] : List Value).toArray } } : Shared) = s3 at I3 K0
  have es3 : s2.heap.push { cls := .type "list", dict := none, data := .seq ([] : List Value).toArray } = s3.heap := by rw [← hs3]
  generalize hH3 : upd H2 s2.heap.objs.size (.lst []) = H3 at I3 K0 f3 w0
  have stat : ∀ {H' : Hp}, (∀ b ∈ fp, H' b = none) → ∀ b ∈ fp, FpOk (cxComp X x scope fp s3 H3) pins H' b := fun {H'} hn b hb => by
    obtain ⟨o, e⟩ := o3 b hb
    rw [es3] at e
    obtain ⟨g0, g1, g2, g3, g4, g5⟩ := f3 b hb
    refine ⟨hn b hb, Nat.ne_of_lt (Heap.lt_size e), fun z => ?_, .inl hb, fun y c h => g4 y c (C.cell_of I.ok h).2, g5⟩
    rcases List.mem_cons.mp (I3.stkSub _ z) with q | q
    · exact g1 q
    · exact g2 q
  have nd' : (x :: X.N).Nodup := List.nodup_cons.mpr ⟨hx, hN⟩
  have lx : (relabel scope X.env).names.lookup x = some .local := lookup_relabel_local C.own
  have loop : codeAny (model X.prog X.w) X.A (.compLoop (.ListComp elt [⟨.Name x px, iter, ifs, 0⟩] scope pos) 0 (.ref it) (.ref s2.heap.objs.size) (cxComp X x scope fp s3 H3).env)
      (compPost (model X.prog X.w) X.A X.xe use QQ (Value.ref s2.heap.objs.size) s3.heap.objs.size) { s3 with heap := h₁, toks := s2.toks } := by
    refine compLoop_go (fun n s' => ∃ i o ys H', Inv (cxComp X x scope fp s3 H3) pins (o :: σ) H' s' ∧ tn i s'.heap ∧ (∀ b ∈ fp, H' b = none) ∧ W i n ys H') ?_ m0 ⟨0, none, [], H3, K0, st3, fun b hb => (f3 b hb).1, w0⟩
    rintro n s4 ⟨i, o, ys, H4, I4, st4, fr4, w4⟩
    rcases turn i n ys H4 w4 with ⟨stop, qn⟩ | ⟨go, N, hNN, step⟩
    · refine thn (T.done (cxComp X x scope fp s3 H3) rfl rfl rfl hc i pins s4 (o :: σ) H4 _ I4 (stat fr4) st4 stop) fun r s5 ⟨hr, I5⟩ => ?_
      subst hr
      exact fin I3 f3 I5 qn
    · refine thn (T.item (cxComp X x scope fp s3 H3) rfl rfl rfl hc i pins s4 (o :: σ) H4 _ I4 (stat fr4) st4 go) fun r s5 ⟨u, hr, h5⟩ => ?_
      subst hr
      refine thn h5 fun _ s6 ⟨y, H6, I6, r6, y6, st6, fr6⟩ => ?_
      have I6' := I6.pinned (stat fr6) (T.obj _ _ st6)
      refine wpAny_assign_Name (store_ok (i := 0) I6' nd' rfl (.inl lx) r6 (fun s7 I7 => ?_) (.inr lx))
      have keepS : ∀ {o' : Option V} {H' : Hp} {s' : Shared}, Inv (cxComp X x scope fp s3 H3) (pins ++ pinsAt fp s6.heap) (o' :: σ) H' s' → tn (i + 1) s'.heap ∧ ∀ b ∈ fp, H' b = none := fun {o' H' s'} I' => by
        refine ⟨T.keep _ _ _ st6 fun b hb o e => (I'.pin (b, o) (List.mem_append_right _ (List.mem_append_right _ (mem_pinsAt hb e)))).1, fun b hb => ?_⟩
        obtain ⟨o, e, d⟩ := T.obj _ _ st6 b hb
        exact (I'.pin (b, o) (List.mem_append_right _ (List.mem_append_right _ (mem_pinsAt hb e)))).2.1
      refine wpAny_mono (ht fp s3 H3 _ s7 (some y :: σ) H6 _ I7 (step y H6 y6)) (fun b s8 ⟨H8, I8, q8⟩ => ?_) fun _ _ z => False.elim z
      cases b with
      | false =>
        rw [if_neg Bool.false_ne_true] at q8 ⊢
        obtain ⟨m', hm, w8⟩ := hNN ys H8 q8
        obtain ⟨a1, a2⟩ := keepS I8
        exact ⟨m', hm, i + 1, some y, ys, H8, I8.unpinned, a1, a2, w8⟩
      | true =>
        rw [if_pos rfl] at q8 ⊢
        refine wpAny_mono (he fp s3 H3 _ s8 (some y :: σ) H8 _ I8 q8) (fun v9 s9 ⟨y9, H9, I9, r9, hacc, hsz, q9⟩ => ?_) fun _ _ z => False.elim z
        refine wpAny_mono (mt_append (X := cxComp X x scope fp s3 H3) _ s9 (some y :: σ) H9 (.ref s2.heap.objs.size) [y9] _ [v9] (fun _ H' => N (ys ++ [y9]) H') I9 rfl (.cons r9 .nil) ⟨_, _, _, rfl, rfl, hacc, hsz, q9⟩) (fun _ s10 ⟨_, H10, I10, _, q10⟩ => ?_) fun _ _ z => False.elim z
        obtain ⟨m', hm, w10⟩ := hNN _ H10 q10
        obtain ⟨a1, a2⟩ := keepS I10
        exact ⟨m', hm, i + 1, some y, _, H10, I10.unpinned, a1, a2, w10⟩
  have eC : (s2.heap.push { cls := .type "list", dict := none, data := .seq ([] : List Value).toArray }).objs.size = s3.heap.objs.size := by rw [es3]
  rw [eC]
  have es4 : ({ heap := h₁, gens := s2.gens, drawn := s2.drawn, toks := s2.toks + ([] : List (Str × Value)).length, os := s2.os } : Shared) = { s3 with heap := h₁, toks := s2.toks } := by rw [← hs3]; rfl
  rw [es4]
  exact codeAny_compStart_list loop (T.self _ 0 _ _ _ st3 loop)
theorem pe_comp {X : Cx} {elt iter : Expr} {ifs : List Expr} {x : Str} {px : Pos} {scope : Scope} {pos : Pos} {wi : TI} {tc : TT} {te : TE} (hc : X.calm = true) (C : CompScope X x scope) (hx : x ∉ X.N) (hN : X.N.Nodup)
    (hi : PI X (.Name x px) iter wi) (ht : ∀ fp s H, PTs (cxComp X x scope fp s H) ifs tc) (he : ∀ fp s H, PE (cxComp X x scope fp s H) elt te)
    (hs : ∀ x, foldedSetIterable iter X.env x = pure x := by intro _; rfl) : PE X (.ListComp elt [⟨.Name x px, iter, ifs, 0⟩] scope pos) (tComp wi tc te) := by
  intro pins s σ H Q I h
  rw [eval_ListComp]
  refine comp_core (use := none) hc C hx hN hi ht he hs I h fun I3 f3 I5 qn => ?_
  obtain ⟨m5, hn5, _⟩ := id I5.loc
  exact ⟨m5, hn5, fun h' sb => ⟨.ref _, _, comp_out I3 f3 I5 sb, rfl, qn⟩⟩
end L2
set_option Elab.async false
set_option linter.all false
set_option maxRecDepth 100000
set_option maxHeartbeats 4000000
namespace L2
open PySem PySem.Spec PyProof.Rows
noncomputable def Ite (K : PySem.W.Frag) (a : Addr) : It :=
  ⟨fun i H => ∃ xs x, SqL K H a xs ∧ xs[i]? = some x,
   fun i H v H' => ∃ p x, v = .ref p ∧ H p = none ∧ H' = upd H p (.tup [.int (i : Int), x]) ∧ ∀ xs, SqL K H a xs → xs[i]? = some x,
   fun i H => ∃ xs, SqL K H a xs ∧ xs.length ≤ i⟩
noncomputable def enTn (e it a : Addr) (i : Nat) (h : Heap) : Prop := (∃ old, IsEnum h e it (i : Int) old) ∧ h.IsListIter it a i
noncomputable def iEnum (K : PySem.W.Frag) (tl : TA) : TI := fun σ H R => tl σ H fun vs H1 => ∃ a, vs = [.ref a] ∧ (∃ xs, SqL K H1 a xs) ∧ R (Ite K a) H1
noncomputable def cxComp2 (X : Cx) (x y : Str) (scope : Scope) (fp : List Addr) (s : Shared) (H : Hp) : Cx := { cxComp X x scope fp s H with N := x :: y :: X.N }
noncomputable def tComp2 (wi : TI) (g : TG) (te : TE) : TE := fun σ H Q => wi σ H fun J H1 => ∀ D, H1 D = none → ∃ W : Nat → Nat → List V → Hp → Prop, (∃ m, W 0 m [] (upd H1 D (.lst []))) ∧ ∀ i m ys H2, W i m ys H2 →
  (J.stop i H2 ∧ Q (.ref D) H2) ∨ (J.go i H2 ∧ ∃ N : List V → Hp → Prop, (∀ ys' H', N ys' H' → ∃ m', m' < m ∧ W (i + 1) m' ys' H') ∧
    ∀ x H', J.yld i H2 x H' → ∀ o1 o2, g x (o1 :: o2 :: σ) H' fun σ2 H3 => (∃ p1 p2, σ2 = p1 :: p2 :: σ) ∧ te σ2 H3 fun y H4 => H4 D = some (.lst ys) ∧ ys.length < sizeLine ∧ N (ys ++ [y]) (upd H4 D (.lst (ys ++ [y]))))
end L2
set_option Elab.async false
set_option linter.all false
set_option maxRecDepth 100000
set_option maxHeartbeats 4000000
namespace PySem
open Sem (wp)
open AutoSeq1 (wpAny_loadPart')
section
variable {prog : Program} {w : World} {A : Around} {E : Value → Shared → Prop} {s : Shared} {it t : Addr} {i : Nat} {items : Array Value} {Q : Value → Shared → Prop}
end
noncomputable def enumHeap (h : Heap) (t : Addr) : Heap := (h.push { cls := .type "tuple_iterator", data := .fields #[.ref t, .int 0 0] }).push { cls := .type "enumerate", data := .fields #[.none, .bool false, .ref h.objs.size, rawInt 0, .none, .none] }
end PySem
namespace L2
open PySem PySem.Spec PyProof.Rows
noncomputable def IteT (K : PySem.W.Frag) (a : Addr) : It :=
  ⟨fun i H => ∃ xs x, SqT K H a xs ∧ xs[i]? = some x,
   fun i H v H' => ∃ p x, v = .ref p ∧ H p = none ∧ H' = upd H p (.tup [.int (i : Int), x]) ∧ ∀ xs, SqT K H a xs → xs[i]? = some x,
   fun i H => ∃ xs, SqT K H a xs ∧ xs.length ≤ i⟩
noncomputable def enTnT (e it a : Addr) (i : Nat) (h : Heap) : Prop := (∃ old, IsEnum h e it (i : Int) old) ∧ h.IsTupleIter it a i
noncomputable def iEnum2 (K : PySem.W.Frag) (tl : TA) : TI := fun σ H R => tl σ H fun vs H1 => ∃ a, vs = [.ref a] ∧ (((∃ xs, SqL K H1 a xs) ∧ R (Ite K a) H1) ∨ ((∃ xs, SqT K H1 a xs) ∧ R (IteT K a) H1))
end L2
set_option Elab.async false
set_option linter.all false
set_option maxRecDepth 100000
set_option maxHeartbeats 4000000
namespace L2
open PySem PySem.Spec PyProof.Rows
section
variable {prog : Program} {w : World} {A : Around} {E : Value → Shared → Prop} {s : Shared}
theorem draw_list {it t : Addr} {items : Array Value} (hne : t ≠ it) : ∀ (n i : Nat) (s : Shared) (Q : List Value → Shared → Prop), s.heap.IsListIter it t i → s.heap.IsList t items → i + n ≤ items.size →
    (∀ h', h'.IsListIter it t (i + n) → Heap.SameBut it s.heap h' → Q ((items.toList.drop i).take n) { s with heap := h' }) → wpAny (model prog w) A (draw (.ref it) n) Q E s
  | 0, i, s, Q, hit, _, _, hQ => by
    show wpAny _ _ (pure []) Q E s
    exact wpAny_pure (by simpa using hQ s.heap hit (Heap.SameBut.refl ..))
  | n + 1, i, s, Q, hit, ht, hle, hQ => by
    have hlt : i < items.size := by omega
    show wpAny _ _ (pyNext (.ref it) >>= _) Q E s
    refine wpAny_bind (wpAny_pyNext_list_item hit ht (x := items[i]) (by simp [hlt]) fun h₁ hit₁ hs₁ => ?_)
    replace hs₁ : Heap.SameBut it s.heap h₁ := hs₁
    refine wpAny_bind (wpAny_holding (draw_list hne n (i + 1) _ _ hit₁ (ht.at fun o e => (hs₁.2 t hne).trans e) (by omega) fun h₂ hit₂ hs₂ => wpAny_pure ?_))
    have hd : items.toList.drop i = items[i] :: items.toList.drop (i + 1) := by simp [List.drop_eq_getElem_cons, hlt]
    have := hQ h₂ (by rw [show i + (n + 1) = i + 1 + n by omega]; exact hit₂) (hs₁.trans hs₂)
    rw [hd, List.take_succ_cons] at this
    exact this
theorem unpackItems_list {t : Addr} {items : Array Value} {Q : List Value → Shared → Prop} (hh : A.handled = none) (ht : s.heap.IsList t items)
    (hQ : ∀ h', Heap.ExtBut s.heap.objs.size s.heap h' → Q items.toList { s with heap := h' }) : wpAny (model prog w) A (unpackItems (.ref t) items.size none) Q E s := by
  have hlt : t ≠ s.heap.objs.size := by obtain ⟨o, ho, _⟩ := ht; exact Nat.ne_of_lt (Heap.lt_size ho)
  unfold unpackItems
  refine wpAny_bind ?_
  · unfold notIterableAtAll
    refine wpAny_bind (wpAny_specialOf ht.typeIs slot_list_iter.lookup ?_)
    refine wpAny_pure ?_
    simp only [Bool.false_eq_true, if_false]
    refine wpAny_bind (wpAny_holding (wpAny_pyIter_list ht ?_))
    refine wpAny_bind (wpAny_holding (draw_list hlt items.size 0 _ _ ⟨_, Heap.get?_push_size _ rfl, rfl, rfl⟩ (ht.at fun o e => Heap.get?_push_of_some _ e) (by omega) fun h₁ hit₁ hs₁ => ?_))
    have hall : List.take items.size (List.drop 0 items.toList) = items.toList := by
      rw [List.drop_zero]; exact List.take_of_length_le (by simp)
    rw [hall]
    rw [if_neg (by simp)]
    have ht₁ : h₁.IsList t items := ht.at fun o e => (hs₁.2 t hlt).trans (Heap.get?_push_of_some _ e)
    refine wpAny_bind (wpAny_holding (wpAny_pyNext_list_end hh hit₁ ht₁ (by simp) fun h₂ he₂ => ?_))
    simp only [Option.isSome_none, Bool.false_eq_true, if_false]
    refine wpAny_pure (hQ h₂ fun b o hb e => he₂ b o hb (hs₁.extBut b o hb (Heap.get?_push_of_some _ e)))
theorem assign_Tuple_list {env : Env} {elts : List Expr} {x1} {pos : Pos} {t : Addr} {items : Array Value} {Q : Unit → Shared → Prop} (hh : A.handled = none) (ht : s.heap.IsList t items)
    (hn : (assignEach elts env).length = items.size) (hstar : (assignEach elts env).findIdx? (·.1) = none)
    (h : ∀ h', Heap.ExtBut s.heap.objs.size s.heap h' → wpAny (model prog w) A (assignInOrder ((assignEach elts env).map (·.2)) items.toList) Q E { s with heap := h' }) :
    wpAny (model prog w) A (assign (.Tuple elts x1 pos) env (.ref t)) Q E s := by
  rw [assign_Tuple]
  refine wpAny_bind (wpAny_standAt ?_)
  unfold unpack
  rw [hn, hstar]
  exact wpAny_bind (wpAny_holding (unpackItems_list hh ht h))
end
section
variable {X : Cx} {pos : Pos}
noncomputable def gSeq (K : PySem.W.Frag) (n : Nat) (t : TGs) : TG := fun v σ H Q => ∃ a xs, v = .ref a ∧ (SqL K H a xs ∨ SqT K H a xs) ∧ xs.length = n ∧ t xs σ H Q
theorem pg_seq {es : List Expr} {k : Nat} {t : TGs} {n : Nat} (hc : X.calm = true) (h : PGs X es t)
    (hn : (assignEach es X.env).length = n) (hst : (assignEach es X.env).findIdx? (·.1) = none) : PG X (.Tuple es k pos) (gSeq X.K n t) := by
  intro pins s σ H v u Q I r hw
  obtain ⟨a, xs, e1, hq, hl, hw⟩ := hw
  subst e1
  cases r
  rcases hq with hq | hq
  · obtain ⟨its, rv, ht, hz⟩ := I.list hq
    refine assign_Tuple_list (I.ok.hd hc) ht.isList (by simp [hn, ← hl, rv.length]) hst fun h' hx => ?_
    have I1 : Inv X pins σ H { s with heap := h' } := I.kept (t' := s.toks) fun b o e => hx b o (Nat.ne_of_lt (Heap.lt_size e)) e
    exact h pins _ σ H xs _ Q I1 (by simpa using rv) hw
  · obtain ⟨its, rv, ht, hz⟩ := I.tuple hq
    refine assign_Tuple_tuple (I.ok.hd hc) ht (by simp [hn, ← hl, rv.length]) hst fun h' hx => ?_
    have I1 : Inv X pins σ H { s with heap := h' } := I.kept (t' := s.toks) fun b o e => hx b o (Nat.ne_of_lt (Heap.lt_size e)) e
    exact h pins _ σ H xs _ Q I1 (by simpa using rv) hw
end
theorem valV_app {k : Key} : ∀ {xs : List (Key × V)} {p : Key × V}, valV xs k = none → ¬ p.1 = k → valV (xs ++ [p]) k = none
  | [], p, _, h => by rw [List.nil_append, valV_neg h]; rfl
  | q :: xs, p, h, hp => by
    by_cases e : q.1 = k
    · rw [valV_pos e] at h; cases h
    · rw [valV_neg e] at h
      rw [List.cons_append, valV_neg e]
      exact valV_app h hp
theorem mergeK_disj : ∀ (more kvs : List (Key × V)), (more.map (·.1)).Nodup → (∀ k ∈ more.map (·.1), valV kvs k = none) → mergeK kvs more = kvs ++ more
  | [], kvs, _, _ => by show kvs = kvs ++ []; simp
  | p :: r, kvs, hn, hd => by
    rw [List.map_cons, List.nodup_cons] at hn
    show mergeK (putK kvs p.1 p.2) r = _
    rw [putK_new p.2 (hd p.1 (by simp)), mergeK_disj r (kvs ++ [(p.1, p.2)]) hn.2 fun k hk => ?_]
    · simp
    · refine valV_app (hd k (by simp [List.mem_map] at hk ⊢; exact .inr hk)) fun e => hn.1 (by rw [show p.1 = k from e]; exact hk)
noncomputable def rUpd : V → List V → Hp → VK → Prop := fun x vs H Q => ∃ l b xs zs, x = .ref l ∧ vs = [.ref b] ∧ l ≠ b ∧ H l = some (.dK xs) ∧ H b = some (.dK zs) ∧ xs.length + zs.length ≤ sizeLine ∧ Q .non (upd H l (.dK (mergeK xs zs)))
end L2
set_option Elab.async false
set_option linter.all false
set_option maxRecDepth 100000
set_option maxHeartbeats 4000000
namespace PySem
open Sem (wp)
open AutoSeq1 (wpAny_loadPart')
section
variable {prog : Program} {w : World} {A : Around} {E : Value → Shared → Prop} {s : Shared}
end
end PySem
namespace L2
open PySem PySem.Spec PyProof.Rows
noncomputable def tRev (K : PySem.W.Frag) (ta : TE) : TE := fun σ H Q => tCons ta tNil σ H fun vs H1 => ∃ l xs, vs = [.ref l] ∧ SqL K H1 l xs ∧ ∀ p, H1 p = none → Q (.ref p) (upd H1 p (.lst xs.reverse))
end L2
set_option Elab.async false
set_option linter.all false
set_option maxRecDepth 100000
set_option maxHeartbeats 4000000
namespace L2
open PySem PySem.Spec PyProof.Rows
theorem meets_extend_tup (l b : Addr) (items : Array Value) (n : Nat) (items2 : Array Value) (n2 : Nat) (hz : items.size + items2.size ≤ sizeLine) :
    Meets (Builtin.«list.extend» { pos := [.ref l, .ref b] }) fun _ R s => ∃ ob, s.heap.get? l = some { cls := .type "list", data := .seq items n } ∧ s.heap.get? b = some ob ∧ ob.cls = .type "tuple" ∧ ob.data = .seq items2 n2 ∧
      R (.ok (.ret .none)) { s with heap := s.heap.update l (Obj.mapSeq fun x => x ++ items2) } := by
  intro prog w A R s ⟨ob, hl, hb, hc, hd, hR⟩
  unfold Builtin.«list.extend»
  refine wpAny_bind ?_
  refine wpAny_pure (a := (Value.ref l, Value.ref b)) ?_
  show wpAny _ _ (Builtin.List.listExtendWith (.ref l) (.ref b) .none) _ _ _
  unfold Builtin.List.listExtendWith
  refine wpAny_bind (wpAny_typeOf_ref hb ?_)
  rw [hc]
  rw [if_pos (by simp)]
  refine wpAny_bind (listItems_at hb hd ?_)
  refine wpAny_bind (listItems_at hl rfl ?_)
  rw [if_neg (by rw [notLongL hz]; simp)]
  refine wpAny_bind (listUpdate_at hl rfl ?_ (by omega) (by simp; omega))
  exact wpAny_pure hR
section
variable {X : Cx}
noncomputable def rExtend2 (K : PySem.W.Frag) : V → List V → Hp → VK → Prop := fun x vs H Q => ∃ l b xs zs, x = .ref l ∧ vs = [.ref b] ∧ H l = some (.lst xs) ∧ (H b = some (.lst zs) ∨ SqT K H b zs) ∧ xs.length + zs.length ≤ sizeLine ∧ Q .non (upd H l (.lst (xs ++ zs)))
theorem mt_extend2 : MtM X "list.extend" (rExtend2 X.K) := by
  intro pins s σ H x vs v us Q I rx rv h
  obtain ⟨l, b, xs, zs, rfl, rfl, hH, hB, hz, q⟩ := h
  rcases hB with hB | hB
  · exact mt_extend pins s σ H _ _ v us Q I rx rv ⟨l, b, xs, zs, rfl, rfl, hH, hB, hz, q⟩
  · cases rx
    obtain ⟨u, rfl, ru⟩ := rv.one
    cases ru
    obtain ⟨z, its, n, r, hl, e⟩ := I.lstM hH
    obtain ⟨its2, r2, ⟨ob, ho, hc, n2, hd⟩, z2⟩ := I.tuple hB
    have hl2 := r2.length
    refine call_meets F.slot_list_extend ⟨_, e, rfl⟩ F.entry_list_extend (F.args_list_extend_2 _ _)
      (meets_extend_tup l b its.toArray n its2.toArray n2 (by rw [List.size_toArray, List.size_toArray]; omega)) ⟨ob, e, ho, hc, hd, ?_⟩
    refine ⟨.non, _, I.lset (its' := its ++ its2) hH e (by simp) (r.append r2) ?_, rfl, q⟩
    rw [List.length_append]
    omega
end
end L2
set_option Elab.async false
set_option linter.all false
set_option maxRecDepth 100000
set_option maxHeartbeats 1000000
namespace Ev
open PySem PySem.W Builtin Builtin.ObjectAttr
section
variable {prog : Program} {w : World} {A : Around} {E : Value → Shared → Prop} {s : Shared} {K : Frag} {x C : Addr} {ox : Obj} {od : Option Obj} {name : Str} {expr fill : Bool} {Q : Value → Shared → Prop} {tk : Tok}
noncomputable def excMro : List Value → Bool
  | .ref _ :: r => excMro r
  | l => l == [.type "ValueError", .type "Exception", .type "BaseException", .type "object"]
structure ECls (K : Frag) (C : Addr) : Prop where
  ga : findIn K (.ref C) "__getattribute__" = some (some (.builtin "BaseException.__getattribute__"))
  gh : findIn K (.ref C) "__getattr__" = some none
  sa : findIn K (.ref C) "__setattr__" = some (some (.builtin "object.__setattr__"))
  base : mroIn K C (.type "BaseException") = some true
  obj : mroIn K C (.type "object") = some true
  hd : hasDictIn K C = true
  cl : findIn K (.ref C) "__class__" = some (some (.builtin "object.__class__"))
  cg : specialIn K (.builtin "object.__class__") "__get__" = some (some (.builtin "getset_descriptor.__get__"))
  ct : takesIn K (.builtin "object.__class__") = some true
  po : (clsIn K C).any (fun cd => excMro cd.mro) = true
variable {R : Result → Shared → Prop} {v : Value}
noncomputable def strDict (K : Frag) (N : Addr) : Bool := match K.lookup N with
  | some ⟨_, _, .dict es _, _⟩ => es.toList.all fun y => match y.key with | .str _ _ => true | _ => false
  | _ => false
noncomputable abbrev vMro : List Value := [.type "ValueError", .type "Exception", .type "BaseException", .type "object"]
structure EMk (K : Frag) (C : Addr) : Prop where
  ob : ∃ (nm q : Str) (N S : Addr) (bs : List Value) (hdct : Bool) (sn : List Str) (sub : List Value) (ab : Bool) (col : Option Bool) (dd : Option Addr) (k0 k1 k2 k3 k5 : Option Value) (c0 : Value) (d0 : Option Addr) (cd : ClassData) (sl : Array (Option Value)),
    K.lookup C = some (excClassObj nm q C N bs (.ref S :: vMro) hdct sn sub ab col dd k0 k1 k2 k3 k5 "ValueError.__new__") ∧ K.lookup S = some ⟨c0, d0, .cls cd, sl⟩ ∧ strDict K cd.ns = true ∧ nsIn K cd.ns "__init__" = some none
noncomputable abbrev argsObj (us : List Value) : Obj := { cls := .type "tuple", data := .seq us.toArray }
noncomputable abbrev rawExc (C t : Addr) : Obj := { cls := .ref C, data := .fields #[.ref t, .none, .none, .none, .bool false, .none] }
structure ECat (K : Frag) (D : Addr) : Prop where
  ob : ∃ d cd sl, K.lookup D = some ⟨.type "type", d, .cls cd, sl⟩
  base : mroIn K D (.type "BaseException") = some true
end
end Ev
namespace Ev
open PySem PySem.W
section
variable {M : Model} {A : Around} {E : Value → Shared → Prop} {s : Shared} {env : Env}
end
end Ev
namespace Ev
open PySem
section
variable {M : Model} {A : Around} {E : Value → Shared → Prop} {s : Shared}
noncomputable abbrev frL (l : List Env) : List Addr := l.filterMap (·.frame)
structure Noted (l : List Env) (e T : Addr) (oe : Obj) (fl : Value) (h h' : Heap) : Prop where
  at_ : h'.get? e = some (oe.mapFields (·.setIfInBounds 1 (.ref T)))
  new : h.objs.size ≤ T
  tr : ∃ oT ts, h'.get? T = some oT ∧ oT.data = .fields ts ∧ ts[3]? = some fl
  keep : ∀ b o, b ∉ frL l → b ≠ e → h.get? b = some o → h'.get? b = some o
  slot : ∀ b o, b ≠ e → h.get? b = some o → ∃ sl, h'.get? b = some { o with slots := sl }
theorem note_new {base : Heap} {env : Env} {outer : List Env} {L e : Addr} {oe : Obj} {vs : Array Value} {head : Value} {hadNext : Bool} {Q : Unit → Shared → Prop}
    (hfr : A.frames = some (env :: outer)) (hl : s.heap.FunFrames base (env :: outer)) (hf : env.frame = some L) (he : s.heap.get? e = some oe) (hd : oe.data = .fields vs) (hsz : 1 < vs.size)
    (h : ∀ h' T, Noted (env :: outer) e T oe (rawInt L) s.heap h' → Q () { s with heap := h' }) :
    wpAny M A (do let a ← frameOf env; let pl ← entryPlaceOf L hadNext; let b ← EntryCells.newEntry head a .none (rawInt L) .none pl; setField (.ref e) 1 b) Q E s := by
  have ne : e ∉ frL (env :: outer) := fun hm => by
    obtain ⟨_, o, ho, hnf⟩ := hl.mem hm
    rw [he] at ho
    cases ho
    exact hnf vs hd
  refine wpAny_bind (wpAny_frameOf_fun hfr hl hf fun h1 hs1 => wpAny_bind (wpAny_entryPlaceOf fun pl hpl => ?_))
  unfold EntryCells.newEntry newFields
  refine wpAny_bind (wpAny_newObj_type ?_ (hpl.sizeOk5 _ _ _ _ _))
  have he1 : h1.get? e = some oe := (hs1.2.1 e ne).trans he
  have he2 := Heap.get?_push_of_some (h := h1) { cls := .type "traceback", dict := none, data := .fields ([head, .ref L, .none, rawInt L, .none] ++ (if pl.isEmpty then List.replicate 6 Value.none else pl)).toArray } he1
  have hTe : h1.objs.size ≠ e := Nat.ne_of_gt (Heap.lt_size he1)
  refine wpAny_setField he2 hd hsz (h _ h1.objs.size ⟨?_, Nat.le_of_eq hs1.1.symm, ?_, fun b o hb hbe hh => ?_, fun b o hbe hh => ?_⟩)
  · exact Heap.get?_update_self _ he2 (Obj.isFreed_of_fields (Obj.data_mapFields hd _))
  · refine ⟨_, _, (Heap.get?_update_other _ _ hTe.symm).trans (Heap.get?_push_size h1 rfl), rfl, ?_⟩
    first | (simp; done) | (rcases hpl with rfl | ⟨_, _, _, _, _, _, _, rfl⟩ <;> simp)
  · rw [Heap.get?_update_other _ _ (Ne.symm hbe)]
    exact Heap.get?_push_of_some _ ((hs1.2.1 b hb).trans hh)
  · obtain ⟨sl, q⟩ := hs1.2.2 b o hh
    exact ⟨sl, (Heap.get?_update_other _ _ (Ne.symm hbe)).trans (Heap.get?_push_of_some _ q)⟩
noncomputable def Fly (n : Nat) (e : Addr) (oe : Obj) (h : Heap) : Prop :=
  ∃ vs, oe.data = .fields vs ∧ 1 < vs.size ∧ (vs[1]? = some .none ∨ ∃ T oT ts, vs[1]? = some (.ref T) ∧ n ≤ T ∧ T ≠ e ∧ h.get? T = some oT ∧ oT.data = .fields ts ∧ ts[3]? = some .none)
theorem same_fields {o : Obj} {ts : Array Value} {i : Nat} {v : Value} (hd : o.data = .fields ts) (h : ts[i]? = some v) : o.mapFields (·.setIfInBounds i v) = o := by
  obtain ⟨c, d, dt, sl⟩ := o
  cases hd
  have : ts.setIfInBounds i v = ts := by
    apply Array.ext
    · simp
    · intro j h1 h2
      rw [Array.getElem_setIfInBounds]
      split
      · rename_i hj
        subst hj
        obtain ⟨_, q⟩ := Array.getElem?_eq_some_iff.mp h
        exact q.symm
      · rfl
  show Obj.mk c d (.fields (ts.setIfInBounds i v)) sl = _
  rw [this]
theorem fly_note {base : Heap} {env : Env} {outer : List Env} {L e : Addr} {oe : Obj} {n : Nat} {Q : Unit → Shared → Prop}
    (hfr : A.frames = some (env :: outer)) (hl : s.heap.FunFrames base (env :: outer)) (hf : env.frame = some L) (he : s.heap.get? e = some oe) (hy : Fly n e oe s.heap)
    (h : ∀ h' T, Noted (env :: outer) e T oe (rawInt L) s.heap h' → Q () { s with heap := h' }) : wpAny M A (noteFrame (.ref e) env) Q E s := by
  obtain ⟨vs, hd, hsz, hv⟩ := hy
  unfold noteFrame
  simp only [hf]
  rcases hv with h1 | ⟨T, oT, ts, h1, hnT, hTe, hT, hdT, h3⟩
  · refine wpAny_bind (wpAny_field he hd h1 ?_)
    rw [if_neg (by decide)]
    exact note_new hfr hl hf he hd hsz h
  · refine wpAny_bind (wpAny_field he hd h1 ?_)
    rw [if_pos (show (Value.ref T != Value.none) = true from by simp)]
    refine wpAny_bind (wpAny_field hT hdT h3 ?_)
    rw [if_neg (show ¬ ((Value.none == rawInt L) = true) from by simp [rawInt])]
    refine wpAny_bind (wpAny_setField hT hdT (Array.getElem?_eq_some_iff.mp h3).1 ?_)
    have sameT : (s.heap.update T (Obj.mapFields (·.setIfInBounds 3 Value.none))).get? T = some oT := by
      rw [Heap.get?_update_self _ hT (Obj.isFreed_of_fields (Obj.data_mapFields hdT _))]
      exact congrArg some (same_fields hdT h3)
    have same : ∀ b o, s.heap.get? b = some o → (s.heap.update T (Obj.mapFields (·.setIfInBounds 3 Value.none))).get? b = some o := fun b o q => by
      by_cases hb : b = T
      · subst hb; rw [sameT, ← hT, q]
      · exact (Heap.get?_update_other _ _ (Ne.symm hb)).trans q
    refine note_new (s := { s with heap := s.heap.update T (Obj.mapFields (·.setIfInBounds 3 Value.none)) }) hfr (hl.of_keeps fun b o q _ => ⟨o, same b o q, rfl⟩) hf (same e oe he) hd hsz fun h' T' z => h h' T' ⟨z.at_, ?_, z.tr, fun b o hb hbe q => z.keep b o hb hbe (same b o q), fun b o hbe q => z.slot b o hbe (same b o q)⟩
    have := z.new
    simpa using this
theorem fly_land {l : List Env} {e T : Addr} {oe : Obj} {vs : Array Value} {h : Heap} {fl : Value} {Q : Unit → Shared → Prop} (hd : oe.data = .fields vs) (hsz : 1 < vs.size) (he : h.get? e = some oe) (z : Noted l e T oe fl h s.heap)
    (hQ : ∀ h', Noted l e T oe .none h h' → Q () { s with heap := h' }) : wpAny M A (setFlight (.ref e) none) Q E s := by
  obtain ⟨oT, ts, hT, hdT, h3⟩ := z.tr
  have hTe : T ≠ e := fun q => by subst q; exact absurd (Nat.lt_of_lt_of_le (Heap.lt_size he) z.new) (Nat.lt_irrefl _)
  have hd3 := Obj.data_mapFields hd (·.setIfInBounds 1 (Value.ref T))
  unfold setFlight
  refine wpAny_bind (wpAny_field z.at_ hd3 (x := .ref T) (by simp [hsz]) ?_)
  rw [if_pos (show (Value.ref T != Value.none) = true from by simp)]
  have hs3 : 3 < ts.size := (Array.getElem?_eq_some_iff.mp h3).1
  have nT : ∀ b o, h.get? b = some o → b ≠ T := fun b o q w => by subst w; exact absurd (Nat.lt_of_lt_of_le (Heap.lt_size q) z.new) (Nat.lt_irrefl _)
  refine wpAny_setField hT hdT hs3 (hQ _ ⟨(Heap.get?_update_other _ _ hTe).trans z.at_, z.new, ⟨_, _, Heap.get?_update_self _ hT (Obj.isFreed_of_fields (Obj.data_mapFields hdT _)), Obj.data_mapFields hdT _, by simp [hs3]⟩, fun b o hb hbe q => ?_, fun b o hbe q => ?_⟩)
  · exact (Heap.get?_update_other _ _ (Ne.symm (nT b o q))).trans (z.keep b o hb hbe q)
  · obtain ⟨sl, w⟩ := z.slot b o hbe q
    exact ⟨sl, (Heap.get?_update_other _ _ (Ne.symm (nT b o q))).trans w⟩
theorem fly_leave {base : Heap} {env : Env} {outer : List Env} {L e : Addr} {oe : Obj} {n : Nat} {Q : Unit → Shared → Prop}
    (hfr : A.frames = some (env :: outer)) (hl : s.heap.FunFrames base (env :: outer)) (hf : env.frame = some L) (he : s.heap.get? e = some oe) (hy : Fly n e oe s.heap)
    (h : ∀ h' T, Noted (env :: outer) e T oe .none s.heap h' → Q () { s with heap := h' }) : wpAny M A (leaving env (.ref e)) Q E s := by
  unfold leaving
  refine wpAny_bind (fly_note hfr hl hf he hy fun h1 T z => ?_)
  obtain ⟨vs, hd, hsz, _⟩ := hy
  exact fly_land (s := { s with heap := h1 }) hd hsz he z fun h2 z2 => h h2 T z2
end
end Ev
set_option Elab.async false
set_option linter.all false
set_option maxRecDepth 100000
set_option maxHeartbeats 4000000
namespace L2
open PySem PySem.Spec PyProof.Rows
noncomputable def cutS (z : Str) (lo hi : Option Int) : Str := if ((Builtin.Str.strSliceIndices lo hi 1 z.length).length == z.length) = true then z else ⟨((Builtin.Str.strSliceIndices lo hi 1 z.length).filterMap (z.cps[·]?)).toArray⟩
section
variable {X : Cx}
theorem sl_str : SlR X (fun x lo hi H Q => ∃ z, x = .str z ∧ (cutS z lo hi).length ≤ sizeLine ∧ Q (.str (cutS z lo hi)) H) := by
  intro pins s σ H x v vl vu lo hi sl Q I rx hs pl pu h
  obtain ⟨z, rfl, hz, q⟩ := h
  obtain ⟨t, rfl⟩ := rx
  refine ⟨"str", _, F.slot_str_getitem.lookup, typeIs_str _ _ _, ?_⟩
  have key : ∀ {l u : Option (Int × Tok)}, vl = partValue l → vu = partValue u → l.map (·.1) = lo → u.map (·.1) = hi → wpAny (model X.prog X.w) X.A (getItem (.str z t) (.ref sl)) (EP X pins σ Q) X.xe s := by
    intro l u e1 e2 e3 e4
    subst e1 e2
    refine wpAny_getItem_str_slice (l := l) (u := u) (st := none) hs rfl ?_
    have e5 : slicePicked z l u none = Builtin.Str.strSliceIndices lo hi 1 z.length := by unfold slicePicked; rw [e3, e4]; rfl
    unfold sliceMade
    rw [e5]
    unfold cutS at q hz
    split
    · rename_i hc
      rw [if_pos (by simpa using hc)] at q
      exact ⟨.str z, H, I, ⟨t, rfl⟩, q⟩
    · rename_i hc
      rw [if_neg (by simpa using hc)] at q hz
      exact ⟨hz, .str _, H, I.tok _, ⟨_, rfl⟩, q⟩
  cases pl with
  | none =>
    cases pu with
    | none => exact key (l := none) (u := none) rfl rfl rfl rfl
    | int j tj => exact key (l := none) (u := some (j, tj)) rfl rfl rfl rfl
  | int i ti =>
    cases pu with
    | none => exact key (l := some (i, ti)) (u := none) rfl rfl rfl rfl
    | int j tj => exact key (l := some (i, ti)) (u := some (j, tj)) rfl rfl rfl rfl
theorem op_le_str : OpR X (compareOp .LtE) (fun x y H Q => ∃ i j, x = .str i ∧ y = .str j ∧ Q (.bl (!decide (j.cps.toList < i.cps.toList))) H) := by
  intro pins s σ H x y v u Q I rx ry h
  obtain ⟨i, j, rfl, rfl, q⟩ := h
  obtain ⟨t, rfl⟩ := rx
  obtain ⟨t', rfl⟩ := ry
  exact PySem.P.le_str (fin_bl I q rfl)
noncomputable def Itz (z : Str) : It :=
  ⟨fun i _ => ∃ c, z.cps[i]? = some c, fun i H v H' => ∃ c, z.cps[i]? = some c ∧ v = .str ⟨#[c]⟩ ∧ H' = H, fun i _ => z.cps[i]? = none⟩
theorem strIter_at {h h' : Heap} {a : Addr} {n : String} {x : Str} {t : Tok} {i : Nat} (st : h.IsStrIter a n x t i) (k : ∀ o, h.get? a = some o → h'.get? a = some o) : h'.IsStrIter a n x t i := let ⟨o, ho, r⟩ := st; ⟨o, k o ho, r⟩
theorem turn_strA {P : Program} {w : World} {K : PySem.W.Frag} {tg : Expr} (z : Str) (t : Tok) (it : Addr) : Turn P w K tg (Itz z) [it] it (fun i h => h.IsStrIter it "str_ascii_iterator" z t i) where
  mem := by simp
  obj := fun i h st b hb => by
    have e : b = it := by simpa using hb
    subst e
    obtain ⟨o, e, c, d⟩ := st
    exact ⟨o, e, fun v z => by rw [d] at z; cases z⟩
  keep := fun i h h' st k => strIter_at st fun o e => k it (by simp) o e
  item := by
    intro X hP hw hK hc i pins s σ H E I hf st hg
    subst hP hw hK
    obtain ⟨c, hx⟩ := hg
    obtain ⟨f0, f1, f2, f3, f4, f5⟩ := hf it (by simp)
    refine wpAny_pyNext_ascii_item st hx fun h' st' sb => ?_
    have I1 : Inv X pins σ H { s with heap := h', toks := s.toks + 1 } := I.turned (t' := s.toks + 1) (fun b o hb e => (sb.2 b hb).trans e) f0 f1 f3 f4 f5
    obtain ⟨o, e, c', d⟩ := id st'
    exact ⟨_, rfl, go_of (s := { s with heap := h', toks := s.toks + 1 }) e c' d (by decide) ⟨.str ⟨#[c]⟩, H, I1, ⟨_, rfl⟩, ⟨c, hx, rfl, rfl⟩, st', fun b hb => (hf b hb).1⟩⟩
  done := by
    intro X hP hw hK hc i pins s σ H E I hf st hg
    subst hP hw hK
    obtain ⟨f0, f1, f2, f3, f4, f5⟩ := hf it (by simp)
    exact wpAny_pyNext_ascii_end (I.ok.hd hc) st hg fun h' eb => ⟨rfl, I.turned (t' := s.toks) (fun b o hb e => eb b o hb e) f0 f1 f3 f4 f5⟩
  self := fun _ _ _ _ _ st h => wpAny_pyIter_striter_ascii st h
theorem turn_strW {P : Program} {w : World} {K : PySem.W.Frag} {tg : Expr} (z : Str) (t : Tok) (it : Addr) : Turn P w K tg (Itz z) [it] it (fun i h => h.IsStrIter it "str_iterator" z t i) where
  mem := by simp
  obj := fun i h st b hb => by
    have e : b = it := by simpa using hb
    subst e
    obtain ⟨o, e, c, d⟩ := st
    exact ⟨o, e, fun v z => by rw [d] at z; cases z⟩
  keep := fun i h h' st k => strIter_at st fun o e => k it (by simp) o e
  item := by
    intro X hP hw hK hc i pins s σ H E I hf st hg
    subst hP hw hK
    obtain ⟨c, hx⟩ := hg
    obtain ⟨f0, f1, f2, f3, f4, f5⟩ := hf it (by simp)
    refine wpAny_pyNext_wide_item st hx fun h' st' sb => ?_
    have I1 : Inv X pins σ H { s with heap := h', toks := s.toks + 1 } := I.turned (t' := s.toks + 1) (fun b o hb e => (sb.2 b hb).trans e) f0 f1 f3 f4 f5
    obtain ⟨o, e, c', d⟩ := id st'
    exact ⟨_, rfl, go_of (s := { s with heap := h', toks := s.toks + 1 }) e c' d (by decide) ⟨.str ⟨#[c]⟩, H, I1, ⟨_, rfl⟩, ⟨c, hx, rfl, rfl⟩, st', fun b hb => (hf b hb).1⟩⟩
  done := by
    intro X hP hw hK hc i pins s σ H E I hf st hg
    subst hP hw hK
    obtain ⟨f0, f1, f2, f3, f4, f5⟩ := hf it (by simp)
    exact wpAny_pyNext_wide_end (I.ok.hd hc) st hg fun h' eb => ⟨rfl, I.turned (t' := s.toks) (fun b o hb e => eb b o hb e) f0 f1 f3 f4 f5⟩
  self := fun _ _ _ _ _ st h => wpAny_pyIter_striter_wide st h
theorem iter_str {pins : List (Addr × Obj)} {σ : St} {H : Hp} {s : Shared} {tg : Expr} {R : It → Hp → Prop} {z : Str} {t : Tok} (I : Inv X pins σ H s) (q : R (Itz z) H) : wpAny (model X.prog X.w) X.A (pyIter (.str z t)) (PIE X pins σ tg R) X.xe s := by
  have new : ∀ b ∈ [s.heap.objs.size], FpOk X pins H b := fun b hb => by
    have e : b = s.heap.objs.size := by simpa using hb
    subst e
    exact I.fpOk (Nat.le_refl _) (I.hok.fresh (Nat.le_refl _))
  cases ha : z.cps.all (· < 128) with
  | true => exact wpAny_pyIter_ascii ha ⟨_, [s.heap.objs.size], _, _, H, rfl, I.kept (t' := s.toks) fun b o e => Heap.get?_push_of_some _ e, turn_strA z t _, ⟨_, Heap.get?_push_size _ rfl, rfl, rfl⟩, new, q⟩
  | false => exact wpAny_pyIter_wide ha ⟨_, [s.heap.objs.size], _, _, H, rfl, I.kept (t' := s.toks) fun b o e => Heap.get?_push_of_some _ e, turn_strW z t _, ⟨_, Heap.get?_push_size _ rfl, rfl, rfl⟩, new, q⟩
noncomputable def joined (sep : Str) (l : List Str) : Str := match l with
  | [x] => x
  | l => Builtin.Str.glued sep l
theorem strs_of : ∀ {l : List Str} {us : List Value}, Vals (l.map V.str) us → ∃ l' : List (Str × Tok), us = strValues l' ∧ l'.map (·.1) = l
  | [], _, r => by cases r; exact ⟨[], rfl, rfl⟩
  | x :: l, _, r => by
    cases r with
    | cons h t =>
      obtain ⟨l', e1, e2⟩ := strs_of t
      obtain ⟨tk, rfl⟩ := h
      subst e1
      exact ⟨(x, tk) :: l', rfl, by simp [e2]⟩
theorem mt_join : MtR X "str.join" (fun x vs H Q => ∃ sep a l, x = .str sep ∧ vs = [.ref a] ∧ SqL X.K H a (l.map V.str) ∧ Builtin.Str.tooLong (l.toArray.foldl (· + ·.length + sep.length) 0) = false ∧ (joined sep l).length ≤ sizeLine ∧ Q (.str (joined sep l)) H) := by
  intro pins s σ H x vs v us Q I rx rv h
  obtain ⟨sep, a, l, rfl, rfl, hq, hl, hz, q⟩ := h
  obtain ⟨t, rfl⟩ := rx
  obtain ⟨u, rfl, ru⟩ := vals1 rv
  cases ru
  obtain ⟨its, r, pl, _⟩ := I.list hq
  obtain ⟨l', e1, e2⟩ := strs_of r
  subst e1 e2
  refine call_meets PySem.F.slot_str_join (typeIs_str _ _ _) PySem.F.entry_str_join (PySem.F.args_str_join_2 _ _) (meets_str_join_list sep t a l' hl) ⟨pl.isList, ?_⟩
  match l', hz, q with
  | [], hz, q => exact ⟨hz, .str _, H, I.tok _, ⟨_, rfl⟩, q⟩
  | [p], hz, q => exact ⟨.str p.1, H, I, ⟨_, rfl⟩, q⟩
  | p :: p' :: r, hz, q => exact ⟨hz, .str _, H, I.tok _, ⟨_, rfl⟩, q⟩
end
end L2
set_option Elab.async false
set_option linter.all false
set_option maxRecDepth 100000
set_option maxHeartbeats 4000000
namespace Ev
open PySem PySem.Spec PyProof.Rows L2
inductive D where
  | non | bl (b : Bool) | int (i : Int) | str (x : Str) | tup (xs : List D) | fl (xs : List D) | ref (n : Nat)
  deriving Inhabited
inductive O where
  | lst (xs : List D) | dct (kvs : List (Str × D)) | err (x : Str) (d : Option Nat) (t : Bool) | edc (fs : List (Str × D))
noncomputable abbrev Sto := List O
inductive R (α : Type) where
  | ok (a : α) (st : Sto)
  | bad
noncomputable abbrev M (α : Type) := Sto → R α
noncomputable def ret {α : Type} (a : α) : M α := fun st => .ok a st
noncomputable def bnd {α β : Type} (m : M α) (f : α → M β) : M β := fun st => match m st with
  | .ok a st' => f a st'
  | .bad => .bad
noncomputable def stuck {α : Type} : M α := fun _ => .bad
noncomputable def ofO {α : Type} (o : Option α) : M α := fun st => match o with
  | some a => .ok a st
  | none => .bad
noncomputable def items : O → Option (List D)
  | .lst xs => some xs
  | _ => none
inductive Sh where
  | sc (v : V) | t (xs : List D) | l (xs : List D) | d
noncomputable def shape (st : Sto) : D → Option Sh
  | .non => some (.sc .non)
  | .bl b => some (.sc (.bl b))
  | .int i => some (.sc (.int i))
  | .str x => some (.sc (.str x))
  | .tup xs => some (.t xs)
  | .fl xs => some (.l xs)
  | .ref n => match st[n]? with
    | some (.lst xs) => some (.l xs)
    | some (.dct _) => some .d
    | _ => none
noncomputable def allEq (f : D → D → Option Bool) : List D → List D → Option Bool
  | [], [] => some true
  | [], _ :: _ => some false
  | _ :: _, [] => some false
  | a :: as, b :: bs => match f a b, allEq f as bs with
    | some x, some y => some (x && y)
    | _, _ => none
noncomputable def eqD (n : Nat) (st : Sto) (a b : D) : Option Bool := match n with
  | 0 => none
  | n + 1 => match shape st a, shape st b with
    | some (.sc x), some (.sc y) => some (eqV x y)
    | some (.t xs), some (.t ys) => allEq (eqD n st) xs ys
    | some (.l xs), some (.l ys) => allEq (eqD n st) xs ys
    | some .d, some .d => none
    | some _, some _ => some false
    | _, _ => none
noncomputable def SqF (K : PySem.W.Frag) (H : Hp) (a : Addr) (xs : List V) : Prop :=
  (∃ o, H a = some (.frz o (.lst xs))) ∨
    ∃ (o : Obj) (its : Array Value) (n : Nat), K.lookup a = some o ∧ o.cls = .type "list" ∧ o.dict = none ∧ o.data = .seq its n ∧ its.size ≤ sizeLine ∧ Vals xs its.toList
theorem SqF.sql {K : PySem.W.Frag} {H : Hp} {a : Addr} {xs : List V} (h : SqF K H a xs) : SqL K H a xs := by
  rcases h with h | h
  · exact .inl (.inr h)
  · exact .inr h
mutual
inductive VRel (K : PySem.W.Frag) (H : Hp) (ι : Nat → Addr) (m : Nat) : D → V → Prop where
  | non : VRel K H ι m .non .non
  | bl (b : Bool) : VRel K H ι m (.bl b) (.bl b)
  | int (i : Int) : VRel K H ι m (.int i) (.int i)
  | str (x : Str) : VRel K H ι m (.str x) (.str x)
  | tup {a : Addr} {ds : List D} {xs : List V} (h : SqT K H a xs) (r : VRels K H ι m ds xs) : VRel K H ι m (.tup ds) (.ref a)
  | fl {a : Addr} {ds : List D} {xs : List V} (h : SqF K H a xs) (r : VRels K H ι m ds xs) : VRel K H ι m (.fl ds) (.ref a)
  | ref {n : Nat} (h : n < m) : VRel K H ι m (.ref n) (.ref (ι n))
inductive VRels (K : PySem.W.Frag) (H : Hp) (ι : Nat → Addr) (m : Nat) : List D → List V → Prop where
  | nil : VRels K H ι m [] []
  | cons {d : D} {v : V} {ds : List D} {vs : List V} (h : VRel K H ι m d v) (t : VRels K H ι m ds vs) : VRels K H ι m (d :: ds) (v :: vs)
end
structure Ext0 (H H' : Hp) (ι ι' : Nat → Addr) (m m' : Nat) : Prop where
  le : m ≤ m'
  ad : ∀ n, n < m → ι' n = ι n
  tp : ∀ b xs, H b = some (.tup xs) → H' b = some (.tup xs)
  fz : ∀ b o u, H b = some (.frz o u) → H' b = some (.frz o u)
structure Ext (H H' : Hp) (ι ι' : Nat → Addr) (m m' : Nat) : Prop extends Ext0 H H' ι ι' m m' where
  fr : ∀ b o, H b = some o → (∀ n, n < m → ι n ≠ b) → H' b = some o ∧ ∀ n, n < m' → ι' n ≠ b
theorem Ext.refl (H : Hp) (ι : Nat → Addr) (m : Nat) : Ext H H ι ι m m := ⟨⟨Nat.le_refl _, fun _ _ => rfl, fun _ _ h => h, fun _ _ _ h => h⟩, fun _ _ h k => ⟨h, k⟩⟩
theorem Ext.trans {H H1 H2 : Hp} {ι ι1 ι2 : Nat → Addr} {m m1 m2 : Nat} (a : Ext H H1 ι ι1 m m1) (b : Ext H1 H2 ι1 ι2 m1 m2) : Ext H H2 ι ι2 m m2 :=
  ⟨⟨Nat.le_trans a.le b.le, fun n hn => (b.ad n (Nat.lt_of_lt_of_le hn a.le)).trans (a.ad n hn), fun c xs e => b.tp c xs (a.tp c xs e), fun c o u e => b.fz c o u (a.fz c o u e)⟩, fun c o e k => by
    obtain ⟨e1, k1⟩ := a.fr c o e k
    exact b.fr c o e1 k1⟩
theorem SqT.ext {K : PySem.W.Frag} {H H' : Hp} {ι ι' : Nat → Addr} {m m' : Nat} {a : Addr} {xs : List V} (e : Ext0 H H' ι ι' m m') (h : SqT K H a xs) : SqT K H' a xs := by
  rcases h with (h | ⟨o, h⟩) | h
  · exact .inl (.inl (e.tp _ _ h))
  · exact .inl (.inr ⟨o, e.fz _ _ _ h⟩)
  · exact .inr h
theorem SqF.ext {K : PySem.W.Frag} {H H' : Hp} {ι ι' : Nat → Addr} {m m' : Nat} {a : Addr} {xs : List V} (e : Ext0 H H' ι ι' m m') (h : SqF K H a xs) : SqF K H' a xs := by
  rcases h with ⟨o, h⟩ | h
  · exact .inl ⟨o, e.fz _ _ _ h⟩
  · exact .inr h
mutual
theorem VRel.ext0 {K : PySem.W.Frag} {H H' : Hp} {ι ι' : Nat → Addr} {m m' : Nat} (e : Ext0 H H' ι ι' m m') : ∀ {d : D} {v : V}, VRel K H ι m d v → VRel K H' ι' m' d v
  | _, _, .non => .non
  | _, _, .bl b => .bl b
  | _, _, .int i => .int i
  | _, _, .str x => .str x
  | _, _, .tup h r => .tup (SqT.ext e h) (VRels.ext0 e r)
  | _, _, .fl h r => .fl (SqF.ext e h) (VRels.ext0 e r)
  | _, _, .ref (n := n) h => by rw [← e.ad n h]; exact .ref (Nat.lt_of_lt_of_le h e.le)
theorem VRels.ext0 {K : PySem.W.Frag} {H H' : Hp} {ι ι' : Nat → Addr} {m m' : Nat} (e : Ext0 H H' ι ι' m m') : ∀ {ds : List D} {vs : List V}, VRels K H ι m ds vs → VRels K H' ι' m' ds vs
  | _, _, .nil => .nil
  | _, _, .cons h t => .cons (VRel.ext0 e h) (VRels.ext0 e t)
end
theorem VRel.ext {K : PySem.W.Frag} {H H' : Hp} {ι ι' : Nat → Addr} {m m' : Nat} {d : D} {v : V} (h : VRel K H ι m d v) (e : Ext H H' ι ι' m m') : VRel K H' ι' m' d v := VRel.ext0 e.toExt0 h
theorem VRels.ext {K : PySem.W.Frag} {H H' : Hp} {ι ι' : Nat → Addr} {m m' : Nat} {d : List D} {v : List V} (h : VRels K H ι m d v) (e : Ext H H' ι ι' m m') : VRels K H' ι' m' d v := VRels.ext0 e.toExt0 h
section
variable {K : PySem.W.Frag} {H : Hp} {ι : Nat → Addr} {m : Nat}
theorem VRels.length : ∀ {ds : List D} {vs : List V}, VRels K H ι m ds vs → ds.length = vs.length
  | _, _, .nil => rfl
  | _, _, .cons _ t => by rw [List.length_cons, List.length_cons, t.length]
theorem VRels.get : ∀ {ds : List D} {vs : List V} {i : Nat} {d : D}, VRels K H ι m ds vs → ds[i]? = some d → ∃ v, vs[i]? = some v ∧ VRel K H ι m d v
  | _, _, _, _, .nil, e => by simp at e
  | _, _, 0, _, .cons r _, e => by simp at e; subst e; exact ⟨_, rfl, r⟩
  | _, _, i + 1, d, .cons _ t, e => by
    obtain ⟨v, h1, h2⟩ := t.get (i := i) (d := d) (by simpa using e)
    exact ⟨v, by simpa using h1, h2⟩
theorem VRels.append : ∀ {ds es : List D} {vs ws : List V}, VRels K H ι m ds vs → VRels K H ι m es ws → VRels K H ι m (ds ++ es) (vs ++ ws)
  | _, _, _, _, .nil, s => s
  | _, _, _, _, .cons r t, s => .cons r (t.append s)
theorem VRels.take : ∀ {ds : List D} {vs : List V} (n : Nat), VRels K H ι m ds vs → VRels K H ι m (ds.take n) (vs.take n)
  | _, _, 0, _ => .nil
  | _, _, _ + 1, .nil => .nil
  | _, _, n + 1, .cons r t => .cons r (t.take n)
theorem VRels.drop : ∀ {ds : List D} {vs : List V} (n : Nat), VRels K H ι m ds vs → VRels K H ι m (ds.drop n) (vs.drop n)
  | _, _, 0, h => h
  | _, _, _ + 1, .nil => .nil
  | _, _, n + 1, .cons _ t => t.drop n
end
inductive DRels (K : PySem.W.Frag) (H : Hp) (ι : Nat → Addr) (m : Nat) : List (Str × D) → List (Key × V) → Prop where
  | nil : DRels K H ι m [] []
  | cons {k : Str} {d : D} {v : V} {ds : List (Str × D)} {vs : List (Key × V)} (h : VRel K H ι m d v) (t : DRels K H ι m ds vs) : DRels K H ι m ((k, d) :: ds) ((.inr k, v) :: vs)
theorem DRels.ext0 {K : PySem.W.Frag} {H H' : Hp} {ι ι' : Nat → Addr} {m m' : Nat} (e : Ext0 H H' ι ι' m m') {ds : List (Str × D)} {vs : List (Key × V)} (h : DRels K H ι m ds vs) : DRels K H' ι' m' ds vs := by
  induction h with
  | nil => exact .nil
  | cons h t ih => exact .cons (VRel.ext0 e h) ih
noncomputable def excO (a C : Addr) (d : Option Addr) (t : Bool) : HO := .ext fun h => ∃ o vs, h.get? a = some o ∧ o.cls = .ref C ∧ o.dict = d ∧ o.data = .fields vs ∧ vs.size = 6 ∧ (t = false → vs[1]? = some .none)
noncomputable def xdO (a : Addr) (fs : List (Str × V)) : HO := .ext fun h => ∃ mA, h.Ns1 a mA ∧ (∀ f, RelO (fs.lookup f) (mA f)) ∧ PySem.Within mA (fs.map (·.1))
inductive FRels (K : PySem.W.Frag) (H : Hp) (ι : Nat → Addr) (m : Nat) : List (Str × D) → List (Str × V) → Prop where
  | nil : FRels K H ι m [] []
  | cons {k : Str} {d : D} {v : V} {ds : List (Str × D)} {vs : List (Str × V)} (h : VRel K H ι m d v) (t : FRels K H ι m ds vs) : FRels K H ι m ((k, d) :: ds) ((k, v) :: vs)
theorem FRels.ext0 {K : PySem.W.Frag} {H H' : Hp} {ι ι' : Nat → Addr} {m m' : Nat} (e : Ext0 H H' ι ι' m m') {ds : List (Str × D)} {vs : List (Str × V)} (h : FRels K H ι m ds vs) : FRels K H' ι' m' ds vs := by
  induction h with
  | nil => exact .nil
  | cons h t ih => exact .cons (VRel.ext0 e h) ih
noncomputable def putD (f : Str) (d : D) : List (Str × D) → List (Str × D)
  | [] => [(f, d)]
  | (g, x) :: r => if g = f then (g, d) :: r else (g, x) :: putD f d r
noncomputable def ORel (K : PySem.W.Frag) (H : Hp) (ι : Nat → Addr) (m : Nat) (a : Addr) : O → Prop
  | .lst ds => ∃ xs, H a = some (.lst xs) ∧ VRels K H ι m ds xs
  | .dct kvs => ∃ vs, H a = some (.dK vs) ∧ DRels K H ι m kvs vs
  | .err x d t => ∃ C, PySem.W.nsIn K mainGlobals x = some (some (.ref C)) ∧ H a = some (excO a C (d.map ι) t) ∧ ∀ j, d = some j → j < m
  | .edc fs => ∃ vs, H a = some (xdO a vs) ∧ FRels K H ι m fs vs ∧ fs.length ≤ 900
theorem ORel.move {K : PySem.W.Frag} {H H' : Hp} {ι ι' : Nat → Addr} {m m' : Nat} {a : Addr} {o : O} (h : ORel K H ι m a o) (E : Ext0 H H' ι ι' m m') (ha : H' a = H a) : ORel K H' ι' m' a o := by
  cases o with
  | lst ds => obtain ⟨xs, h1, h2⟩ := h; exact ⟨xs, ha.trans h1, VRels.ext0 E h2⟩
  | dct ds => obtain ⟨xs, h1, h2⟩ := h; exact ⟨xs, ha.trans h1, h2.ext0 E⟩
  | err x d t =>
    obtain ⟨C, h0, h1, h2⟩ := h
    refine ⟨C, h0, ?_, fun j e => Nat.lt_of_lt_of_le (h2 j e) E.le⟩
    rw [ha, h1]
    cases d with
    | none => rfl
    | some j => rw [Option.map_some, Option.map_some, E.ad j (h2 j rfl)]
  | edc fs => obtain ⟨xs, h1, h2, h3⟩ := h; exact ⟨xs, ha.trans h1, h2.ext0 E, h3⟩
theorem ORel.there {K : PySem.W.Frag} {H : Hp} {ι : Nat → Addr} {m : Nat} {a : Addr} {o : O} (h : ORel K H ι m a o) : ∃ u, H a = some u ∧ (∀ xs, u ≠ .tup xs) ∧ ∀ ob w, u ≠ .frz ob w := by
  cases o with
  | lst ds => obtain ⟨xs, h1, h2⟩ := h; exact ⟨_, h1, (fun _ z => by cases z), (fun _ _ z => by cases z)⟩
  | dct ds => obtain ⟨xs, h1, h2⟩ := h; exact ⟨_, h1, (fun _ z => by cases z), (fun _ _ z => by cases z)⟩
  | err x d t => obtain ⟨C, h0, h1, h2⟩ := h; exact ⟨_, h1, (fun _ z => by unfold excO at z; cases z), (fun _ _ z => by unfold excO at z; cases z)⟩
  | edc fs => obtain ⟨xs, h1, h2⟩ := h; exact ⟨_, h1, (fun _ z => by unfold xdO at z; cases z), (fun _ _ z => by unfold xdO at z; cases z)⟩
structure Sim (K : PySem.W.Frag) (H : Hp) (ι : Nat → Addr) (st : Sto) : Prop where
  inj : ∀ i j, i < st.length → j < st.length → ι i = ι j → i = j
  ob : ∀ n o, st[n]? = some o → ORel K H ι st.length (ι n) o
theorem Sim.laid {K : PySem.W.Frag} {H : Hp} {ι : Nat → Addr} {st : Sto} (S : Sim K H ι st) {p : Addr} (hp : H p = none) {ho : HO} {o : O}
    (hr : ∀ ι', (∀ n, n < st.length → ι' n = ι n) → ι' st.length = p → ORel K (upd H p ho) ι' (st.length + 1) p o) :
    ∃ ι', Ext H (upd H p ho) ι ι' st.length (st.length + 1) ∧ ι' st.length = p ∧ Sim K (upd H p ho) ι' (st ++ [o]) := by
  have hK : ∀ n o, st[n]? = some o → ι n ≠ p := fun n o e => by
    have q := S.ob n o e
    obtain ⟨u, h1, _⟩ := q.there
    exact ne_of_none h1 hp
  have E : Ext H (upd H p ho) ι (fun n => if n = st.length then p else ι n) st.length (st.length + 1) := ⟨⟨Nat.le_succ _, fun n hn => by simp [Nat.ne_of_lt hn], fun b xs e => by rw [upd_ne (ne_of_none e hp)]; exact e, fun b ob u e => by rw [upd_ne (ne_of_none e hp)]; exact e⟩, fun b ob e k => by
    refine ⟨by rw [upd_ne (ne_of_none e hp)]; exact e, fun n hn => ?_⟩
    by_cases hn' : n = st.length
    · rw [if_pos hn']; exact (ne_of_none e hp).symm
    · rw [if_neg hn']; exact k n (by omega)⟩
  refine ⟨fun n => if n = st.length then p else ι n, E, by simp, ?_⟩
  have lt : ∀ {n}, n < st.length → ∃ o, st[n]? = some o := fun {n} hn => ⟨st[n], by simp [hn]⟩
  refine ⟨fun i j hi hj e => ?_, fun n ob e => ?_⟩
  · rw [List.length_append, List.length_singleton] at hi hj
    by_cases hi' : i = st.length
    · by_cases hj' : j = st.length
      · omega
      · have q : p = ι j := by simpa [hi', hj'] using e
        obtain ⟨ob, eo⟩ := lt (show j < st.length by omega)
        exact absurd q.symm (hK j ob eo)
    · by_cases hj' : j = st.length
      · have q : ι i = p := by simpa [hi', hj'] using e
        obtain ⟨ob, eo⟩ := lt (show i < st.length by omega)
        exact absurd q (hK i ob eo)
      · exact S.inj i j (by omega) (by omega) (by simpa [hi', hj'] using e)
  · rw [List.length_append, List.length_singleton]
    by_cases hn : n = st.length
    · subst hn
      rw [List.getElem?_append_right (Nat.le_refl _), Nat.sub_self] at e
      have e' : o = ob := by simpa using e
      subst e'
      have := hr (fun n => if n = st.length then p else ι n) (fun n hn => by simp [Nat.ne_of_lt hn]) (by simp)
      simpa using this
    · have hlt : n < st.length := by
        have := (List.getElem?_eq_some_iff.mp e).1
        rw [List.length_append, List.length_singleton] at this
        omega
      rw [List.getElem?_append_left hlt] at e
      have old := S.ob n ob e
      have hne : ι n ≠ p := hK n ob e
      have hι : (if n = st.length then p else ι n) = ι n := by rw [if_neg hn]
      rw [hι]
      exact old.move E.toExt0 (upd_ne hne)
theorem Sim.write {K : PySem.W.Frag} {H : Hp} {ι : Nat → Addr} {st : Sto} (S : Sim K H ι st) {n : Nat} {ds es : List D} {ys : List V} (e : st[n]? = some (.lst ds)) (r : VRels K H ι st.length es ys) :
    Ext H (upd H (ι n) (.lst ys)) ι ι st.length st.length ∧ Sim K (upd H (ι n) (.lst ys)) ι (st.set n (.lst es)) := by
  obtain ⟨xs, h1, h2⟩ := S.ob n _ e
  have hn : n < st.length := (List.getElem?_eq_some_iff.mp e).1
  have E : Ext H (upd H (ι n) (.lst ys)) ι ι st.length st.length := by
    refine ⟨⟨Nat.le_refl _, fun _ _ => rfl, fun b zs q => ?_, fun b o u q => ?_⟩, fun b o q k => ⟨by rw [upd_ne (k n hn).symm]; exact q, k⟩⟩
    · rw [upd_ne (ne_of q h1 (by intro z; cases z))]; exact q
    · rw [upd_ne (ne_of q h1 (by intro z; cases z))]; exact q
  refine ⟨E, fun i j hi hj => S.inj i j (by simpa using hi) (by simpa using hj), fun k o q => ?_⟩
  rw [List.length_set]
  by_cases hk : k = n
  · subst hk
    rw [List.getElem?_set_self hn] at q
    cases q
    exact ⟨ys, upd_same, r.ext E⟩
  · rw [List.getElem?_set_ne (Ne.symm hk)] at q
    have hk' : k < st.length := (List.getElem?_eq_some_iff.mp q).1
    have hne : ι k ≠ ι n := fun z => hk (S.inj k n hk' hn z)
    have old := S.ob k o q
    exact old.move E.toExt0 (upd_ne hne)
theorem Sim.add {K : PySem.W.Frag} {H : Hp} {ι : Nat → Addr} {st : Sto} (S : Sim K H ι st) {p : Addr} {ys : List V} {ds : List D} (hp : H p = some (.lst ys)) (ap : ∀ n, n < st.length → ι n ≠ p) (r : VRels K H ι st.length ds ys) :
    ∃ ι', (∀ n, n < st.length → ι' n = ι n) ∧ ι' st.length = p ∧ Sim K H ι' (st ++ [.lst ds]) := by
  have up : Ext0 H H ι (fun n => if n = st.length then p else ι n) st.length (st.length + 1) := ⟨Nat.le_succ _, fun n hn => by simp [Nat.ne_of_lt hn], fun _ _ e => e, fun _ _ _ e => e⟩
  refine ⟨fun n => if n = st.length then p else ι n, fun n hn => by simp [Nat.ne_of_lt hn], by simp, ⟨fun i j hi hj e => ?_, fun n ob e => ?_⟩⟩
  · rw [List.length_append, List.length_singleton] at hi hj
    by_cases hi' : i = st.length
    · by_cases hj' : j = st.length
      · omega
      · exact absurd (show ι j = p by simpa [hi', hj'] using e.symm) (ap j (by omega))
    · by_cases hj' : j = st.length
      · exact absurd (show ι i = p by simpa [hi', hj'] using e) (ap i (by omega))
      · exact S.inj i j (by omega) (by omega) (by simpa [hi', hj'] using e)
  · rw [List.length_append, List.length_singleton]
    by_cases hn : n = st.length
    · subst hn
      rw [List.getElem?_append_right (Nat.le_refl _), Nat.sub_self] at e
      have e' : O.lst ds = ob := by simpa using e
      subst e'
      refine ⟨ys, ?_, VRels.ext0 up r⟩
      simpa using hp
    · have hlt : n < st.length := by
        have := (List.getElem?_eq_some_iff.mp e).1
        rw [List.length_append, List.length_singleton] at this
        omega
      rw [List.getElem?_append_left hlt] at e
      have old := S.ob n ob e
      have hι : (if n = st.length then p else ι n) = ι n := by rw [if_neg hn]
      rw [hι]
      exact old.move up rfl
theorem Sim.addD {K : PySem.W.Frag} {H : Hp} {ι : Nat → Addr} {st : Sto} (S : Sim K H ι st) {p : Addr} {ys : List (Key × V)} {ds : List (Str × D)} (hp : H p = some (.dK ys)) (ap : ∀ n, n < st.length → ι n ≠ p) (r : DRels K H ι st.length ds ys) :
    ∃ ι', (∀ n, n < st.length → ι' n = ι n) ∧ ι' st.length = p ∧ Sim K H ι' (st ++ [.dct ds]) := by
  have up : Ext0 H H ι (fun n => if n = st.length then p else ι n) st.length (st.length + 1) := ⟨Nat.le_succ _, fun n hn => by simp [Nat.ne_of_lt hn], fun _ _ e => e, fun _ _ _ e => e⟩
  refine ⟨fun n => if n = st.length then p else ι n, fun n hn => by simp [Nat.ne_of_lt hn], by simp, ⟨fun i j hi hj e => ?_, fun n ob e => ?_⟩⟩
  · rw [List.length_append, List.length_singleton] at hi hj
    by_cases hi' : i = st.length
    · by_cases hj' : j = st.length
      · omega
      · exact absurd (show ι j = p by simpa [hi', hj'] using e.symm) (ap j (by omega))
    · by_cases hj' : j = st.length
      · exact absurd (show ι i = p by simpa [hi', hj'] using e) (ap i (by omega))
      · exact S.inj i j (by omega) (by omega) (by simpa [hi', hj'] using e)
  · rw [List.length_append, List.length_singleton]
    by_cases hn : n = st.length
    · subst hn
      rw [List.getElem?_append_right (Nat.le_refl _), Nat.sub_self] at e
      have e' : O.dct ds = ob := by simpa using e
      subst e'
      refine ⟨ys, ?_, r.ext0 up⟩
      simpa using hp
    · have hlt : n < st.length := by
        have := (List.getElem?_eq_some_iff.mp e).1
        rw [List.length_append, List.length_singleton] at this
        omega
      rw [List.getElem?_append_left hlt] at e
      have old := S.ob n ob e
      have hι : (if n = st.length then p else ι n) = ι n := by rw [if_neg hn]
      rw [hι]
      exact old.move up rfl
end Ev
set_option Elab.async false
set_option linter.all false
set_option maxRecDepth 100000
set_option maxHeartbeats 4000000
namespace Ev
open PySem PySem.Spec PyProof.Rows L2
section
variable {P : Program} {w : World} {H : Hp} {h : Heap} {a C : Addr} {d : Option Addr} {t : Bool} {fs : List (Str × V)}
theorem excO_get (hok : HOk P w H h) (e : H a = some (excO a C d t)) : ∃ o vs, h.get? a = some o ∧ o.cls = .ref C ∧ o.dict = d ∧ o.data = .fields vs ∧ vs.size = 6 ∧ (t = false → vs[1]? = some .none) :=
  (show ObjOk P w H h a (excO a C d t) from hok a _ e).1
theorem excO_ok {o : Obj} {vs : Array Value} (h1 : h.get? a = some o) (h2 : o.cls = .ref C) (h3 : o.dict = d) (h4 : o.data = .fields vs) (h5 : vs.size = 6) (h6 : t = false → vs[1]? = some .none) : ObjOk P w H h a (excO a C d t) :=
  ⟨⟨o, vs, h1, h2, h3, h4, h5, h6⟩, ⟨o, h1⟩, fun _ _ ⟨o, vs, q, r⟩ k => ⟨o, vs, k o q, r⟩⟩
end
noncomputable def FlyH (n : Nat) (H : Hp) (a : Addr) (h : Heap) : Prop := ∃ oe vs, h.get? a = some oe ∧ oe.data = .fields vs ∧
  (vs[1]? = some .none ∨ ∃ T oT ts, vs[1]? = some (.ref T) ∧ n ≤ T ∧ T ≠ a ∧ H T = none ∧ h.get? T = some oT ∧ oT.data = .fields ts ∧ ts[3]? = some .none)
noncomputable def CXe (P : Program) (w : World) : CXT := fun outer H s E e s' => ∃ a C d H', e = .ref a ∧ s'.os = s.os ∧ AllBare s'.gens ∧ Un (frs outer) [] H H' s.heap s'.heap ∧ HOk P w H' s'.heap ∧
  s.heap.objs.size ≤ a ∧ H' a = some (excO a C d true) ∧ FlyH s.heap.objs.size H' a s'.heap ∧ E (.ref a) none H'
theorem passE {P : Program} {w : World} {X : Cx} : Passes (CXe P w) X E0 := fun _ _ _ _ _ _ _ ⟨_, _, _, _, _, _, _, _, _, _, _, _, z⟩ => z.elim
noncomputable def XeOk (X : Cx) (Ex : Addr → L2.St → Hp → Prop) : Prop := ∀ (pins : List (Addr × Obj)) (σ : L2.St) (H : Hp) (s : Shared) (a C : Addr) (d : Option Addr),
  Inv X pins σ H s → H a = some (excO a C d true) → X.s₀.heap.objs.size ≤ a → FlyH X.s₀.heap.objs.size H a s.heap → Ex a σ H → X.xe (.ref a) s
noncomputable abbrev NoEx : Addr → L2.St → Hp → Prop := fun _ _ _ => False
section
variable {X : Cx} {pins : List (Addr × Obj)} {σ : L2.St} {H : Hp} {s : Shared} {a C : Addr} {d : Option Addr} {h' : Heap} {Ex : Addr → L2.St → Hp → Prop}
theorem _root_.L2.Inv.mark (I : Inv X pins σ H s) (e : H a = some (excO a C d false)) : Inv X pins σ (upd H a (excO a C d true)) s := by
  obtain ⟨o, vs, g1, g2, g3, g4, g5, _⟩ := excO_get I.hok e
  exact I.write (x := a) (e := a) (h' := s.heap) (t' := s.toks) (o := excO a C d true) (by rw [e]; exact True.intro) (.inl rfl) (fun b u _ q => q) ⟨o, g1⟩ (excO_ok g1 g2 g3 g4 g5 (fun z => nomatch z))
theorem ext_ne_own {b x : Addr} {t : Bool} (e : H a = some (excO a C d t)) (e' : H b = some (.own x)) : b ≠ a := fun z => by
  subst z
  rw [e] at e'
  unfold excO at e'
  cases e'
theorem _root_.L2.Inv.noted {T : Addr} {oe : Obj} {fl : Value} (I : Inv X pins σ H s) (e : H a = some (excO a C d true)) (ho : s.heap.get? a = some oe) (z : Noted X.stack a T oe fl s.heap h') : Inv X pins σ H { s with heap := h' } := by
  obtain ⟨o, vs, g1, g2, g3, g4, g5, _⟩ := excO_get I.hok e
  rw [ho] at g1
  cases g1
  have na : ∀ b, H b = none → b ≠ a := fun b n q => by subst q; rw [e] at n; cases n
  have nf : ∀ b u, H b = some u → b ∉ frL X.stack := fun b u q hb => by rw [I.stkFree b hb] at q; cases q
  refine I.step (g' := s.gens) (t' := s.toks) (d' := s.drawn) (ch := []) (fun _ z => nomatch z) (fun b ob hL hb _ q n => z.keep b ob (fun m => (List.mem_cons.mp (I.stkSub b m)).elim hL hb) (na b n) q)
    (fun b ob _ _ _ q n => z.slot b ob (na b n) q) (fun b ob _ q n => n) (fun b ob _ q => ?_) (fun _ _ q => q) (fun _ _ _ q => q) (fun b ps q => ⟨#[], by rw [q]; simp⟩) (fun m hm => ?_) (fun b u eb => ?_) I.bare
  · by_cases hb : b = a
    · subst hb; exact ⟨_, z.at_⟩
    · obtain ⟨sl, q'⟩ := z.slot b ob hb q
      exact ⟨_, q'⟩
  · obtain ⟨ob, es, ep, ho, r⟩ := hm
    obtain ⟨sl, q⟩ := z.slot _ ob (na _ I.free) ho
    exact ⟨_, es, ep, q, r⟩
  · by_cases hb : b = a
    · subst hb
      rw [e] at eb
      cases eb
      refine excO_ok (vs := vs.setIfInBounds 1 (.ref T)) z.at_ ((Obj.cls_mapFields _ _).trans g2) ?_ (Obj.data_mapFields g4 _) (by simpa using g5) (fun z => nomatch z)
      obtain ⟨c0, d0, t0, s0⟩ := oe
      cases g4
      exact g3
    · refine (I.hok b u eb).stay (fun c v hc q => ?_) (fun _ q => q) fun _ _ q => q
      rcases hc with rfl | hc
      · exact z.keep c v (nf c _ eb) hb q
      · exact z.keep c v (nf c _ hc) (ext_ne_own e hc) q
theorem FlyH.of_noted {n : Nat} {T : Addr} {oe : Obj} {vs : Array Value} (I : Inv X pins σ H s) (ho : s.heap.get? a = some oe) (hd : oe.data = .fields vs) (hz : 1 < vs.size) (z : Noted X.stack a T oe .none s.heap h') (hn : n ≤ s.heap.objs.size) : FlyH n H a h' := by
  obtain ⟨oT, ts, t1, t2, t3⟩ := z.tr
  refine ⟨_, _, z.at_, Obj.data_mapFields hd _, .inr ⟨T, oT, ts, by simp [hz], Nat.le_trans hn z.new, fun q => ?_, I.hok.fresh z.new, t1, t2, t3⟩⟩
  subst q
  exact absurd (Nat.lt_of_lt_of_le (Heap.lt_size ho) z.new) (Nat.lt_irrefl _)
theorem FlyH.fly {n : Nat} {oe : Obj} {vs : Array Value} (hy : FlyH n H a s.heap) (ho : s.heap.get? a = some oe) (hd : oe.data = .fields vs) (hz : 1 < vs.size) : Fly n a oe s.heap := by
  obtain ⟨o2, v2, h1, h2, q⟩ := hy
  rw [ho] at h1
  cases h1
  rw [hd] at h2
  cases h2
  refine ⟨vs, hd, hz, ?_⟩
  rcases q with q | ⟨T, oT, ts, q1, q2, q3, q4, q5⟩
  · exact .inl q
  · exact .inr ⟨T, oT, ts, q1, q2, q3, q5⟩
theorem xeok_body {P : Program} {w : World} {K : PySem.W.Frag} {mg : Str → Option Value} {base : Heap} {N : List Str} {qual : Str} {sc : Scope} {f : Addr} {cd : Value} {A : Around} {outer : List Env} {s0 : Shared} {H0 : Hp} {E : XK} :
    XeOk (cxOf (CXe P w) P w K mg base N qual sc f cd A outer s0 H0 E) (fun a _ H' => E (.ref a) none H') := by
  intro pins σ H s a C d I e ha hy q
  obtain ⟨o, vs, g1, g2, g3, g4, g5, _⟩ := excO_get I.hok e
  have hz : 1 < vs.size := by omega
  refine fly_leave (L := (envOfC qual sc s0.heap.objs.size f cd).locals) (outer := outer) (base := base) I.ok.frames I.stack rfl g1 (hy.fly g1 g4 hz) fun h' T z => ?_
  have I2 := I.noted e g1 z
  exact ⟨a, C, d, H, rfl, I2.os, I2.bare, I2.base, I2.hok, ha, e, FlyH.of_noted I g1 g4 hz z I.sz, q⟩
noncomputable def tCallE (sp : Sp) (Ex : Addr → L2.St → Hp → Prop) (t : TA) : TE := fun σ H Q => t σ H fun vs H1 => sp vs H1 Q (fun v _ H2 => ∃ a, v = .ref a ∧ Ex a σ H2)
noncomputable def RQ (X : Cx) (C : Addr) (Ex : Addr → L2.St → Hp → Prop) (σ : L2.St) : VK := fun v H2 => ∃ x d, v = .ref x ∧ X.s₀.heap.objs.size ≤ x ∧ H2 x = some (excO x C d false) ∧ Ex x σ (upd H2 x (excO x C d true))
noncomputable def tRais (X : Cx) (C : Addr) (sp : Sp) (Ex : Addr → L2.St → Hp → Prop) (t : TA) : TS := fun _ σ H => t σ H fun vs H1 => vs.length ≤ 1000 ∧ ∀ x, H1 x = none → X.s₀.heap.objs.size ≤ x →
  sp (.ref x :: vs) (upd H1 x (excO x C none false)) (fun v H2 => v = .non ∧ RQ X C Ex σ (.ref x) H2) E0
end
end Ev
set_option Elab.async false
set_option linter.all false
set_option maxRecDepth 100000
set_option maxHeartbeats 4000000
namespace Ev
open PySem PySem.Spec PyProof.Rows L2
section
variable {X : Cx} {pins : List (Addr × Obj)} {σ : L2.St} {H : Hp} {s : Shared} {a C : Addr} {d : Option Addr} {h' : Heap} {Ex : Addr → L2.St → Hp → Prop} {f : Str} {e o value : Expr} {ta tv : TE} {pos pos' : Pos}
noncomputable def sFldX (K : PySem.W.Frag) (ta tv : TE) (f : Str) : TS := fun D σ H => tv σ H fun y H1 => ta σ H1 fun x H2 => ∃ a C t, x = .ref a ∧ ECls K C ∧ PySem.W.findIn K (.ref C) f = some none ∧
  ((H2 a = some (excO a C none t) ∧ ∀ dx, H2 dx = none → dx ≠ a → D.nx σ (upd (upd H2 dx (xdO dx [(f, y)])) a (excO a C (some dx) t))) ∨
    ∃ dx fs, H2 a = some (excO a C (some dx) t) ∧ H2 dx = some (xdO dx fs) ∧ dx ≠ a ∧ fs.length ≤ 900 ∧ D.nx σ (upd H2 dx (xdO dx (putF f y fs))))
noncomputable def tFldX (K : PySem.W.Frag) (ta : TE) (f : Str) : TE := fun σ H Q => ta σ H fun x H1 => ∃ a C dx fs t v, x = .ref a ∧ H1 a = some (excO a C (some dx) t) ∧ H1 dx = some (xdO dx fs) ∧ ECls K C ∧ PySem.W.findIn K (.ref C) f = some none ∧ fs.lookup f = some v ∧ Q v H1
noncomputable def rIsc (K : PySem.W.Frag) : List V → Hp → VK → Prop := fun xs H Q => ∃ a C d t v c b, xs = [.ref a, v] ∧ H a = some (excO a C d t) ∧ (∀ dx, d = some dx → ∃ fs, H dx = some (xdO dx fs)) ∧ ECls K C ∧ (∀ u, RelV v u → u = c) ∧ PySem.W.kitOne K (.ref C) c = some b ∧ Q (.bl b) H
noncomputable def rIscs (K : PySem.W.Frag) : List V → Hp → VK → Prop := fun xs H Q => ∃ a C d t p vs cs b, xs = [.ref a, .ref p] ∧ H a = some (excO a C d t) ∧ (∀ dx, d = some dx → ∃ fs, H dx = some (xdO dx fs)) ∧ ECls K C ∧ H p = some (.tup vs) ∧ (∀ us, Vals vs us → us = cs) ∧ PySem.W.kitAny K (.ref C) cs = some b ∧ Q (.bl b) H
noncomputable abbrev cxTry (X : Cx) (pins : List (Addr × Obj)) (E : Value → Shared → Prop) : Cx := { X with pn := X.pn ++ pins, xe := E }
noncomputable abbrev cxSuite (X : Cx) (a : Addr) : Cx := { X with A := X.A.mark (some (.ref a)), calm := false, xe := fun _ _ => False }
end
end Ev
set_option Elab.async false
set_option linter.all false
set_option maxRecDepth 100000
set_option maxHeartbeats 4000000
namespace Ev
open PySem PySem.Spec PyProof.Rows L2
section
variable {X : Cx}
noncomputable def exTry (K : PySem.W.Frag) (D : Addr) (i : Nat) (ts : TS) (Dn : Ends) : Addr → L2.St → Hp → Prop := fun a σ1 H1 =>
  (∃ C d, H1 a = some (excO a C d true) ∧ PySem.W.mroIn K C (.ref D) = some true) ∧ ts { nx := fun σ2 H2 => Dn.nx (σ2.set i none) H2, rt := Dn.rt } (σ1.set i (some (.ref a))) H1
noncomputable def tTry (K : PySem.W.Frag) (D : Addr) (i : Nat) (tb : (Addr → L2.St → Hp → Prop) → TS) (ts : TS) : TS := fun Dn σ H => tb (exTry K D i ts Dn) Dn σ H
end
end Ev
set_option Elab.async false
set_option linter.all false
set_option maxRecDepth 100000
set_option maxHeartbeats 4000000
namespace Ev
open PySem PySem.Spec PyProof.Rows L2
open PySem.SeqAt
theorem RcAt_V {A : Around} {s : Shared} {y x : V} {u v : Value} (ry : RelV y u) (rx : RelV x v) (fy : flatV y = true) (fx : flatV x = true) : RcAt A s u v (eqV y x) := by
  cases y with
  | non =>
    cases ry
    cases x with
    | non => cases rx; exact RcAt.none_none
    | bl b => cases rx; exact RcAt.none_bool  b
    | int b => obtain ⟨tb, rfl⟩ := rx; exact RcAt.none_int  b tb
    | str b => obtain ⟨tb, rfl⟩ := rx; exact RcAt.none_str  b tb
    | _ => exact absurd (show false = true from fx) Bool.false_ne_true
  | bl a =>
    cases ry
    cases x with
    | non => cases rx; exact RcAt.bool_none a
    | bl b => cases rx; exact RcAt.bool_bool a b
    | int b => obtain ⟨tb, rfl⟩ := rx; exact RcAt.bool_int a b tb
    | str b => obtain ⟨tb, rfl⟩ := rx; exact RcAt.bool_str a b tb
    | _ => exact absurd (show false = true from fx) Bool.false_ne_true
  | int a =>
    obtain ⟨ta, rfl⟩ := ry
    cases x with
    | non => cases rx; exact RcAt.int_none a ta
    | bl b => cases rx; exact RcAt.int_bool a ta b
    | int b => obtain ⟨tb, rfl⟩ := rx; exact RcAt.int_int a ta b tb
    | str b => obtain ⟨tb, rfl⟩ := rx; exact RcAt.int_str a ta b tb
    | _ => exact absurd (show false = true from fx) Bool.false_ne_true
  | str a =>
    obtain ⟨ta, rfl⟩ := ry
    cases x with
    | non => cases rx; exact RcAt.str_none a ta
    | bl b => cases rx; exact RcAt.str_bool a ta b
    | int b => obtain ⟨tb, rfl⟩ := rx; exact RcAt.str_int a ta b tb
    | str b => obtain ⟨tb, rfl⟩ := rx; exact RcAt.str_str a ta b tb
    | _ => exact absurd (show false = true from fx) Bool.false_ne_true
  | _ => exact absurd (show false = true from fy) Bool.false_ne_true
theorem RcNeAt_V {A : Around} {s : Shared} {y x : V} {u v : Value} (ry : RelV y u) (rx : RelV x v) (fy : flatV y = true) (fx : flatV x = true) : RcNeAt A s u v (!eqV y x) := by
  cases y with
  | non =>
    cases ry
    cases x with
    | non => cases rx; exact RcNeAt.none_none
    | bl b => cases rx; exact RcNeAt.none_bool  b
    | int b => obtain ⟨tb, rfl⟩ := rx; exact RcNeAt.none_int  b tb
    | str b => obtain ⟨tb, rfl⟩ := rx; exact RcNeAt.none_str  b tb
    | _ => exact absurd (show false = true from fx) Bool.false_ne_true
  | bl a =>
    cases ry
    cases x with
    | non => cases rx; exact RcNeAt.bool_none a
    | bl b => cases rx; exact RcNeAt.bool_bool a b
    | int b => obtain ⟨tb, rfl⟩ := rx; exact RcNeAt.bool_int a b tb
    | str b => obtain ⟨tb, rfl⟩ := rx; exact RcNeAt.bool_str a b tb
    | _ => exact absurd (show false = true from fx) Bool.false_ne_true
  | int a =>
    obtain ⟨ta, rfl⟩ := ry
    cases x with
    | non => cases rx; exact RcNeAt.int_none a ta
    | bl b => cases rx; exact RcNeAt.int_bool a ta b
    | int b => obtain ⟨tb, rfl⟩ := rx; exact RcNeAt.int_int a ta b tb
    | str b => obtain ⟨tb, rfl⟩ := rx; exact RcNeAt.int_str a ta b tb
    | _ => exact absurd (show false = true from fx) Bool.false_ne_true
  | str a =>
    obtain ⟨ta, rfl⟩ := ry
    cases x with
    | non => cases rx; exact RcNeAt.str_none a ta
    | bl b => cases rx; exact RcNeAt.str_bool a ta b
    | int b => obtain ⟨tb, rfl⟩ := rx; exact RcNeAt.str_int a ta b tb
    | str b => obtain ⟨tb, rfl⟩ := rx; exact RcNeAt.str_str a ta b tb
    | _ => exact absurd (show false = true from fx) Bool.false_ne_true
  | _ => exact absurd (show false = true from fy) Bool.false_ne_true
theorem RcAt_listV {A : Around} {s : Shared} {l : Addr} {items : Array Value} (hl : s.heap.IsList l items) (hu : A.units < cLine) {x : V} {v : Value} (rx : RelV x v) (fx : flatV x = true) : RcAt A s (.ref l) v false := by
  cases x with
  | non => cases rx; exact RcAt.list_none  hl hu
  | bl b => cases rx; exact RcAt.list_bool b hl hu
  | int b => obtain ⟨tb, rfl⟩ := rx; exact RcAt.list_int b tb hl hu
  | str b => obtain ⟨tb, rfl⟩ := rx; exact RcAt.list_str b tb hl hu
  | _ => exact absurd (show false = true from fx) Bool.false_ne_true
theorem RcAt_Vlist {A : Around} {s : Shared} {l : Addr} {items : Array Value} (hl : s.heap.IsList l items) (hu : A.units < cLine) {x : V} {v : Value} (rx : RelV x v) (fx : flatV x = true) : RcAt A s v (.ref l) false := by
  cases x with
  | non => cases rx; exact RcAt.none_list  hl hu
  | bl b => cases rx; exact RcAt.bool_list b hl hu
  | int b => obtain ⟨tb, rfl⟩ := rx; exact RcAt.int_list b tb hl hu
  | str b => obtain ⟨tb, rfl⟩ := rx; exact RcAt.str_list b tb hl hu
  | _ => exact absurd (show false = true from fx) Bool.false_ne_true
theorem RcNeAt_listV {A : Around} {s : Shared} {l : Addr} {items : Array Value} (hl : s.heap.IsList l items) (hu : A.units < cLine) {x : V} {v : Value} (rx : RelV x v) (fx : flatV x = true) : RcNeAt A s (.ref l) v true := by
  cases x with
  | non => cases rx; exact RcNeAt.list_none  hl hu
  | bl b => cases rx; exact RcNeAt.list_bool b hl hu
  | int b => obtain ⟨tb, rfl⟩ := rx; exact RcNeAt.list_int b tb hl hu
  | str b => obtain ⟨tb, rfl⟩ := rx; exact RcNeAt.list_str b tb hl hu
  | _ => exact absurd (show false = true from fx) Bool.false_ne_true
theorem RcNeAt_Vlist {A : Around} {s : Shared} {l : Addr} {items : Array Value} (hl : s.heap.IsList l items) (hu : A.units < cLine) {x : V} {v : Value} (rx : RelV x v) (fx : flatV x = true) : RcNeAt A s v (.ref l) true := by
  cases x with
  | non => cases rx; exact RcNeAt.none_list  hl hu
  | bl b => cases rx; exact RcNeAt.bool_list b hl hu
  | int b => obtain ⟨tb, rfl⟩ := rx; exact RcNeAt.int_list b tb hl hu
  | str b => obtain ⟨tb, rfl⟩ := rx; exact RcNeAt.str_list b tb hl hu
  | _ => exact absurd (show false = true from fx) Bool.false_ne_true
theorem RcAt_tupleV {A : Around} {s : Shared} {l : Addr} {items : Array Value} (hl : s.heap.IsTuple l items) (hu : A.units < cLine) {x : V} {v : Value} (rx : RelV x v) (fx : flatV x = true) : RcAt A s (.ref l) v false := by
  cases x with
  | non => cases rx; exact RcAt.tuple_none  hl hu
  | bl b => cases rx; exact RcAt.tuple_bool b hl hu
  | int b => obtain ⟨tb, rfl⟩ := rx; exact RcAt.tuple_int b tb hl hu
  | str b => obtain ⟨tb, rfl⟩ := rx; exact RcAt.tuple_str b tb hl hu
  | _ => exact absurd (show false = true from fx) Bool.false_ne_true
theorem RcAt_Vtuple {A : Around} {s : Shared} {l : Addr} {items : Array Value} (hl : s.heap.IsTuple l items) (hu : A.units < cLine) {x : V} {v : Value} (rx : RelV x v) (fx : flatV x = true) : RcAt A s v (.ref l) false := by
  cases x with
  | non => cases rx; exact RcAt.none_tuple  hl hu
  | bl b => cases rx; exact RcAt.bool_tuple b hl hu
  | int b => obtain ⟨tb, rfl⟩ := rx; exact RcAt.int_tuple b tb hl hu
  | str b => obtain ⟨tb, rfl⟩ := rx; exact RcAt.str_tuple b tb hl hu
  | _ => exact absurd (show false = true from fx) Bool.false_ne_true
theorem RcNeAt_tupleV {A : Around} {s : Shared} {l : Addr} {items : Array Value} (hl : s.heap.IsTuple l items) (hu : A.units < cLine) {x : V} {v : Value} (rx : RelV x v) (fx : flatV x = true) : RcNeAt A s (.ref l) v true := by
  cases x with
  | non => cases rx; exact RcNeAt.tuple_none  hl hu
  | bl b => cases rx; exact RcNeAt.tuple_bool b hl hu
  | int b => obtain ⟨tb, rfl⟩ := rx; exact RcNeAt.tuple_int b tb hl hu
  | str b => obtain ⟨tb, rfl⟩ := rx; exact RcNeAt.tuple_str b tb hl hu
  | _ => exact absurd (show false = true from fx) Bool.false_ne_true
theorem RcNeAt_Vtuple {A : Around} {s : Shared} {l : Addr} {items : Array Value} (hl : s.heap.IsTuple l items) (hu : A.units < cLine) {x : V} {v : Value} (rx : RelV x v) (fx : flatV x = true) : RcNeAt A s v (.ref l) true := by
  cases x with
  | non => cases rx; exact RcNeAt.none_tuple  hl hu
  | bl b => cases rx; exact RcNeAt.bool_tuple b hl hu
  | int b => obtain ⟨tb, rfl⟩ := rx; exact RcNeAt.int_tuple b tb hl hu
  | str b => obtain ⟨tb, rfl⟩ := rx; exact RcNeAt.str_tuple b tb hl hu
  | _ => exact absurd (show false = true from fx) Bool.false_ne_true
theorem RcAt_dictV {A : Around} {s : Shared} {l : Addr} (hl : IsDct s.heap l) (hu : A.units < cLine) {x : V} {v : Value} (rx : RelV x v) (fx : flatV x = true) : RcAt A s (.ref l) v false := by
  cases x with
  | non => cases rx; exact RcAt.dict_none  hl hu
  | bl b => cases rx; exact RcAt.dict_bool b hl hu
  | int b => obtain ⟨tb, rfl⟩ := rx; exact RcAt.dict_int b tb hl hu
  | str b => obtain ⟨tb, rfl⟩ := rx; exact RcAt.dict_str b tb hl hu
  | _ => exact absurd (show false = true from fx) Bool.false_ne_true
theorem RcAt_Vdict {A : Around} {s : Shared} {l : Addr} (hl : IsDct s.heap l) (hu : A.units < cLine) {x : V} {v : Value} (rx : RelV x v) (fx : flatV x = true) : RcAt A s v (.ref l) false := by
  cases x with
  | non => cases rx; exact RcAt.none_dict  hl hu
  | bl b => cases rx; exact RcAt.bool_dict b hl hu
  | int b => obtain ⟨tb, rfl⟩ := rx; exact RcAt.int_dict b tb hl hu
  | str b => obtain ⟨tb, rfl⟩ := rx; exact RcAt.str_dict b tb hl hu
  | _ => exact absurd (show false = true from fx) Bool.false_ne_true
theorem RcNeAt_dictV {A : Around} {s : Shared} {l : Addr} (hl : IsDct s.heap l) (hu : A.units < cLine) {x : V} {v : Value} (rx : RelV x v) (fx : flatV x = true) : RcNeAt A s (.ref l) v true := by
  cases x with
  | non => cases rx; exact RcNeAt.dict_none  hl hu
  | bl b => cases rx; exact RcNeAt.dict_bool b hl hu
  | int b => obtain ⟨tb, rfl⟩ := rx; exact RcNeAt.dict_int b tb hl hu
  | str b => obtain ⟨tb, rfl⟩ := rx; exact RcNeAt.dict_str b tb hl hu
  | _ => exact absurd (show false = true from fx) Bool.false_ne_true
theorem RcNeAt_Vdict {A : Around} {s : Shared} {l : Addr} (hl : IsDct s.heap l) (hu : A.units < cLine) {x : V} {v : Value} (rx : RelV x v) (fx : flatV x = true) : RcNeAt A s v (.ref l) true := by
  cases x with
  | non => cases rx; exact RcNeAt.none_dict  hl hu
  | bl b => cases rx; exact RcNeAt.bool_dict b hl hu
  | int b => obtain ⟨tb, rfl⟩ := rx; exact RcNeAt.int_dict b tb hl hu
  | str b => obtain ⟨tb, rfl⟩ := rx; exact RcNeAt.str_dict b tb hl hu
  | _ => exact absurd (show false = true from fx) Bool.false_ne_true
theorem EqAt_refL {A : Around} {s : Shared} {l : Addr} {b : Value} {k : Bool} (hne : (Value.ref l == b) = false) (h : RcAt A s (.ref l) b k) : EqAt A s (.ref l) b k := fun prog w E Q hq => by
  unfold eqBool
  refine wpAny_holding ?_
  refine wpAny_ite_split (fun hab => absurd hab (by rw [hne]; exact Bool.false_ne_true)) (fun _ => ?_)
  exact wpAny_bind (h prog w E _ (wpAny_truthy_bool hq))
theorem EqAt_refR {A : Around} {s : Shared} {l : Addr} {a : Value} {k : Bool} (hne : (a == Value.ref l) = false) (h : RcAt A s a (.ref l) k) : EqAt A s a (.ref l) k := fun prog w E Q hq => by
  unfold eqBool
  refine wpAny_holding ?_
  refine wpAny_ite_split (fun hab => absurd hab (by rw [hne]; exact Bool.false_ne_true)) (fun _ => ?_)
  cases a <;> exact wpAny_bind (h prog w E _ (wpAny_truthy_bool hq))
noncomputable def At (K : PySem.W.Frag) (H : Hp) (ι : Nat → Addr) (m : Nat) (d : D) (u : Value) : Prop := ∃ v, VRel K H ι m d v ∧ RelV v u
noncomputable def Ats (K : PySem.W.Frag) (H : Hp) (ι : Nat → Addr) (m : Nat) (ds : List D) (us : List Value) : Prop := ∃ vs, VRels K H ι m ds vs ∧ Vals vs us
theorem Ats.length {K : PySem.W.Frag} {H : Hp} {ι : Nat → Addr} {m : Nat} {ds : List D} {us : List Value} (h : Ats K H ι m ds us) : ds.length = us.length := by
  obtain ⟨vs, a, b⟩ := h
  rw [a.length, b.length]
inductive ShAt (K : PySem.W.Frag) (H : Hp) (ι : Nat → Addr) (m : Nat) (s : Shared) : Sh → Value → Prop where
  | sc {v : V} {u : Value} (f : flatV v = true) (r : RelV v u) : ShAt K H ι m s (.sc v) u
  | t {a : Addr} {xs : List D} {its : Array Value} (h : s.heap.IsTuple a its) (r : Ats K H ι m xs its.toList) : ShAt K H ι m s (.t xs) (.ref a)
  | l {a : Addr} {xs : List D} {its : Array Value} (h : s.heap.IsList a its) (r : Ats K H ι m xs its.toList) : ShAt K H ι m s (.l xs) (.ref a)
  | d {a : Addr} (h : IsDct s.heap a) : ShAt K H ι m s .d (.ref a)
theorem shape_at {X : Cx} {pins : List (Addr × Obj)} {σ : L2.St} {H : Hp} {s : Shared} {ι : Nat → Addr} {st : Sto} {d : D} {u : Value} {sh : Sh} (I : Inv X pins σ H s) (S : Sim X.K H ι st) (h : At X.K H ι st.length d u) (e : shape st d = some sh) :
    ShAt X.K H ι st.length s sh u := by
  obtain ⟨v, hv, r⟩ := h
  cases hv with
  | non => cases e; exact .sc rfl r
  | bl b => cases e; exact .sc rfl r
  | int i => cases e; exact .sc rfl r
  | str x => cases e; exact .sc rfl r
  | tup h hr =>
    cases e; cases r
    obtain ⟨its, rv, p, _⟩ := I.tuple h
    exact .t p ⟨_, hr, by simpa using rv⟩
  | fl h hr =>
    cases e; cases r
    obtain ⟨its, rv, p, _⟩ := I.list h.sql
    exact .l p.isList ⟨_, hr, by simpa using rv⟩
  | @ref n hn =>
    cases r
    simp only [shape] at e
    cases q : st[n]? with
    | none => rw [q] at e; cases e
    | some o =>
      rw [q] at e
      have ho := S.ob n o q
      cases o with
      | lst xs =>
        cases e
        obtain ⟨vs, h1, h2⟩ := ho
        obtain ⟨its, rv, p, _⟩ := I.list (SqL.of h1)
        exact .l p.isList ⟨_, h2, by simpa using rv⟩
      | dct kvs =>
        cases e
        obtain ⟨ws, ho, _⟩ := ho
        obtain ⟨hz, hS, vs, rv, o, es, ep, h1, h2, h3, _⟩ := (show ObjOk X.prog X.w H s.heap (ι n) (.dK ws) from I.hok _ _ ho)
        obtain ⟨c1, c2, c3⟩ := h2
        refine .d ⟨es, ep, ?_⟩
        rw [h1]
        obtain ⟨cls, dd, data, sl⟩ := o
        simp only at c1 c2 c3 h3
        subst c1 c2 c3 h3
        rfl
      | err _ _ _ => cases e
      | edc _ => cases e
theorem all_cons {e : Nat → Bool} {x : Bool} {n : Nat} : (List.range (n + 1)).all (fun j => match j with | 0 => x | j + 1 => e j) = (x && (List.range n).all e) := by
  rw [List.range_succ_eq_map, List.all_cons, List.all_map]
  rfl
theorem known_free {X : Cx} {pins : List (Addr × Obj)} {σ : L2.St} {H : Hp} {s : Shared} {a : Addr} {o : Obj} (I : Inv X pins σ H s) (h : X.K.lookup a = some o) : H a = none := (I.bs a o (I.ok.mod.kin a o h)).2
theorem seq_ne {X : Cx} {pins : List (Addr × Obj)} {σ : L2.St} {H : Hp} {s : Shared} {a : Addr} {xs ys : List V} (I : Inv X pins σ H s) (h : SqT X.K H a xs) (h' : SqL X.K H a ys) : False := by
  obtain ⟨_, _, p, _⟩ := I.tuple h
  obtain ⟨_, _, q, _⟩ := I.list h'
  exact ne_of_list_tuple q.isList p rfl
theorem tup_obj {X : Cx} {pins : List (Addr × Obj)} {σ : L2.St} {H : Hp} {s : Shared} {a : Addr} {xs : List V} (I : Inv X pins σ H s) (h : SqT X.K H a xs) : (∃ zs, H a = some (.tup zs)) ∨ (∃ o u, H a = some (.frz o u)) ∨ H a = none := by
  rcases h with (h | ⟨o, h⟩) | ⟨o, _, _, h, _⟩
  · exact .inl ⟨_, h⟩
  · exact .inr (.inl ⟨_, _, h⟩)
  · exact .inr (.inr (known_free I h))
theorem fl_obj {X : Cx} {pins : List (Addr × Obj)} {σ : L2.St} {H : Hp} {s : Shared} {a : Addr} {xs : List V} (I : Inv X pins σ H s) (h : SqF X.K H a xs) : (∃ o u, H a = some (.frz o u)) ∨ H a = none := by
  rcases h with ⟨o, h⟩ | ⟨o, _, _, h, _⟩
  · exact .inl ⟨_, _, h⟩
  · exact .inr (known_free I h)
theorem Sim.obj {K : PySem.W.Frag} {H : Hp} {ι : Nat → Addr} {st : Sto} (S : Sim K H ι st) {n : Nat} (h : n < st.length) : ∃ u, H (ι n) = some u ∧ (∀ xs, u ≠ .tup xs) ∧ ∀ ob w, u ≠ .frz ob w :=
  (S.ob n st[n] (by simp [h])).there
mutual
theorem VRel.uniq {X : Cx} {pins : List (Addr × Obj)} {σ : L2.St} {H : Hp} {s : Shared} {ι : Nat → Addr} {st : Sto} (I : Inv X pins σ H s) (S : Sim X.K H ι st) : ∀ {d d' : D} {v : V}, VRel X.K H ι st.length d v → VRel X.K H ι st.length d' v → d = d'
  | _, _, _, .non, h => by cases h; rfl
  | _, _, _, .bl b, h => by cases h; rfl
  | _, _, _, .int i, h => by cases h; rfl
  | _, _, _, .str x, h => by cases h; rfl
  | _, _, _, .tup h r, h' => by
    cases h' with
    | tup q r' => rw [I.tuple_inj h q] at r; rw [VRels.uniq I S r r']
    | fl q _ => exact (seq_ne I h q.sql).elim
    | ref q =>
      obtain ⟨u, e', n1, n2⟩ := S.obj q; rcases tup_obj I h with ⟨_, e⟩ | ⟨_, _, e⟩ | e <;> rw [e] at e' <;> first | (cases e'; done) | (cases e'; exact absurd rfl (n1 _)) | (cases e'; exact absurd rfl (n2 _ _))
  | _, _, _, .fl h r, h' => by
    cases h' with
    | tup q _ => exact (seq_ne I q h.sql).elim
    | fl q r' => rw [I.list_inj h.sql q.sql] at r; rw [VRels.uniq I S r r']
    | ref q =>
      obtain ⟨u, e', n1, n2⟩ := S.obj q; rcases fl_obj I h with ⟨_, _, e⟩ | e <;> rw [e] at e' <;> first | (cases e'; done) | (cases e'; exact absurd rfl (n1 _)) | (cases e'; exact absurd rfl (n2 _ _))
  | _, _, _, .ref (n := n) q, h' => by
    generalize hz : V.ref (ι n) = z at h'
    cases h' with
    | tup h _ =>
      injection hz with hz
      rw [← hz] at h
      obtain ⟨u, e', n1, n2⟩ := S.obj q; rcases tup_obj I h with ⟨_, e⟩ | ⟨_, _, e⟩ | e <;> rw [e] at e' <;> first | (cases e'; done) | (cases e'; exact absurd rfl (n1 _)) | (cases e'; exact absurd rfl (n2 _ _))
    | fl h _ =>
      injection hz with hz
      rw [← hz] at h
      obtain ⟨u, e', n1, n2⟩ := S.obj q; rcases fl_obj I h with ⟨_, _, e⟩ | e <;> rw [e] at e' <;> first | (cases e'; done) | (cases e'; exact absurd rfl (n1 _)) | (cases e'; exact absurd rfl (n2 _ _))
    | ref q' => injection hz with hz; rw [S.inj _ _ q q' hz]
    | _ => cases hz
theorem VRels.uniq {X : Cx} {pins : List (Addr × Obj)} {σ : L2.St} {H : Hp} {s : Shared} {ι : Nat → Addr} {st : Sto} (I : Inv X pins σ H s) (S : Sim X.K H ι st) : ∀ {ds ds' : List D} {vs : List V}, VRels X.K H ι st.length ds vs → VRels X.K H ι st.length ds' vs → ds = ds'
  | _, _, _, .nil, h => by cases h; rfl
  | _, _, _, .cons r t, h => by
    cases h with
    | cons r' t' => rw [VRel.uniq I S r r', VRels.uniq I S t t']
end
theorem At.uniq {X : Cx} {pins : List (Addr × Obj)} {σ : L2.St} {H : Hp} {s : Shared} {ι : Nat → Addr} {st : Sto} {a b : D} {u : Value} (I : Inv X pins σ H s) (S : Sim X.K H ι st) (ha : At X.K H ι st.length a u) (hb : At X.K H ι st.length b u) : a = b := by
  obtain ⟨v, h1, r1⟩ := ha
  obtain ⟨w, h2, r2⟩ := hb
  rw [r1.inj r2] at h1
  exact h1.uniq I S h2
theorem eqV_refl {v : V} (h : flatV v = true) : eqV v v = true := by cases v <;> simp_all [eqV, flatV]
theorem shape_flat {st : Sto} {d : D} {v : V} (h : shape st d = some (.sc v)) : flatV v = true := by
  cases d with
  | ref n => simp only [shape] at h; split at h <;> cases h
  | _ => cases h <;> rfl
theorem allEq_refl {f : D → D → Option Bool} (hf : ∀ x k, f x x = some k → k = true) : ∀ {xs : List D} {k : Bool}, allEq f xs xs = some k → k = true
  | [], k, e => (Option.some.inj e).symm
  | x :: xs, k, e => by
    unfold allEq at e
    cases e1 : f x x with
    | none => rw [e1] at e; simp at e
    | some p =>
      cases e2 : allEq f xs xs with
      | none => rw [e1, e2] at e; simp at e
      | some q =>
        rw [e1, e2] at e
        have e' : (p && q) = k := Option.some.inj e
        rw [← e', hf _ _ e1, allEq_refl hf e2]; rfl
theorem eqD_refl {st : Sto} : ∀ (n : Nat) {a : D} {k : Bool}, eqD n st a a = some k → k = true
  | 0, _, _, e => by unfold eqD at e; cases e
  | n + 1, a, k, e => by
    unfold eqD at e
    cases ea : shape st a with
    | none => rw [ea] at e; simp at e
    | some sa =>
      rw [ea] at e
      cases sa with
      | sc v => have e' : eqV v v = k := Option.some.inj e; rw [← e', eqV_refl (shape_flat ea)]
      | t xs => exact allEq_refl (fun _ _ => eqD_refl n) e
      | l xs => exact allEq_refl (fun _ _ => eqD_refl n) e
      | d => cases e
theorem flat_ne {A : Around} {s : Shared} {y : V} {u : Value} {l : Addr} (ry : RelV y u) (fy : flatV y = true) : (u == Value.ref l) = false := by
  cases y with
  | non => cases ry; rfl
  | bl b => cases ry; rfl
  | int i => obtain ⟨t, rfl⟩ := ry; rfl
  | str i => obtain ⟨t, rfl⟩ := ry; rfl
  | _ => cases fy
theorem ne_flat {A : Around} {s : Shared} {y : V} {u : Value} {l : Addr} (ry : RelV y u) (fy : flatV y = true) : (Value.ref l == u) = false := by
  cases y with
  | non => cases ry; rfl
  | bl b => cases ry; rfl
  | int i => obtain ⟨t, rfl⟩ := ry; rfl
  | str i => obtain ⟨t, rfl⟩ := ry; rfl
  | _ => cases fy
theorem eqAt_Ds {X : Cx} {pins : List (Addr × Obj)} {σ : L2.St} {H : Hp} {s : Shared} {ι : Nat → Addr} {st : Sto} (I : Inv X pins σ H s) (S : Sim X.K H ι st) {n : Nat}
    (ih : ∀ {a b : D} {u v : Value} {A : Around} {k : Bool}, eqD n st a b = some k → At X.K H ι st.length a u → At X.K H ι st.length b v → A.units + n < cLine → EqAt A s u v k) :
    ∀ {xs ys : List D} {us vs : List Value} {A : Around} {k : Bool}, allEq (eqD n st) xs ys = some k → Ats X.K H ι st.length xs us → Ats X.K H ι st.length ys vs → A.units + n < cLine →
    ∃ e : Nat → Bool, (∀ j (h1 : j < us.length) (h2 : j < vs.length), EqAt A s us[j] vs[j] (e j)) ∧ k = ((List.range (min us.length vs.length)).all e && us.length == vs.length)
  | xs, ys, us, vs, A, k, e, ha, hb, hu => by
    have la := ha.length
    have lb := hb.length
    unfold allEq at e
    cases xs with
    | nil =>
      cases us with
      | cons _ _ => simp at la
      | nil =>
        refine ⟨fun _ => true, fun j h1 _ => absurd h1 (Nat.not_lt_zero _), ?_⟩
        cases ys with
        | nil =>
          cases vs with
          | cons _ _ => simp at lb
          | nil => rw [← Option.some.inj e]; rfl
        | cons y ys =>
          cases vs with
          | nil => simp at lb
          | cons _ _ => rw [← Option.some.inj e]; simp
    | cons x xs =>
      cases us with
      | nil => simp at la
      | cons u us =>
        cases ys with
        | nil =>
          cases vs with
          | cons _ _ => simp at lb
          | nil => exact ⟨fun _ => true, fun j _ h2 => absurd h2 (Nat.not_lt_zero _), by rw [← Option.some.inj e]; simp⟩
        | cons y ys =>
          cases vs with
          | nil => simp at lb
          | cons v vs =>
            obtain ⟨_, r1, q1⟩ := ha
            obtain ⟨_, r2, q2⟩ := hb
            cases q1 with
            | cons w1 w2 =>
              cases q2 with
              | cons z1 z2 =>
                cases r1 with
                | cons m1 m2 =>
                  cases r2 with
                  | cons n1 n2 =>
                    simp only at e
                    cases e1 : eqD n st x y with
                    | none => rw [e1] at e; simp at e
                    | some p =>
                      cases e2 : allEq (eqD n st) xs ys with
                      | none => rw [e1, e2] at e; simp at e
                      | some q =>
                        rw [e1, e2] at e
                        have hE := ih (A := A) e1 ⟨_, m1, w1⟩ ⟨_, n1, z1⟩ hu
                        obtain ⟨f, hf, hk⟩ := eqAt_Ds I S ih (A := A) e2 ⟨_, m2, w2⟩ ⟨_, n2, z2⟩ hu
                        refine ⟨fun j => match j with | 0 => p | j + 1 => f j, fun j h1 h2 => ?_, ?_⟩
                        · cases j with
                          | zero => exact hE
                          | succ j => exact hf j (by simpa using h1) (by simpa using h2)
                        · have e3 : min (u :: us).length (v :: vs).length = min us.length vs.length + 1 := by simp only [List.length_cons]; omega
                          have e4 : ((u :: us).length == (v :: vs).length) = (us.length == vs.length) := by simp
                          rw [e3, e4, all_cons, ← Option.some.inj e, hk, Bool.and_assoc]
theorem eqAt_D {X : Cx} {pins : List (Addr × Obj)} {σ : L2.St} {H : Hp} {s : Shared} {ι : Nat → Addr} {st : Sto} (I : Inv X pins σ H s) (S : Sim X.K H ι st) : ∀ (n : Nat) {a b : D} {u v : Value} {A : Around} {k : Bool}, eqD n st a b = some k → At X.K H ι st.length a u → At X.K H ι st.length b v → A.units + n < cLine →
    RcAt A s u v k ∧ RcNeAt A s u v (!k) ∧ EqAt A s u v k
  | 0, _, _, _, _, _, _, e, _, _, _ => by unfold eqD at e; cases e
  | n + 1, a, b, u, v, A, k, e, pa, pb, hu => by
    have hu0 : A.units < cLine := by omega
    have hu1 : A.in1.units + n < cLine := by show A.units + 1 + n < cLine; omega
    have e0 := e
    unfold eqD at e
    cases ea : shape st a with
    | none => rw [ea] at e; simp at e
    | some sa =>
      cases eb : shape st b with
      | none => rw [ea, eb] at e; simp at e
      | some sb =>
        rw [ea, eb] at e
        have ua := shape_at I S pa ea
        have ub := shape_at I S pb eb
        have refs : ∀ {l l' : Addr}, u = .ref l → v = .ref l' → RcAt A s u v k → RcNeAt A s u v (!k) → RcAt A s u v k ∧ RcNeAt A s u v (!k) ∧ EqAt A s u v k := fun {l l'} h1 h2 h3 h4 => by
          refine ⟨h3, h4, ?_⟩
          by_cases hl : l = l'
          · have huv : u = v := by rw [h1, h2, hl]
            subst huv
            have := pa.uniq I S pb
            subst this
            rw [eqD_refl _ e0]
            exact EqAt.same _
          · subst h1 h2
            exact EqAt.of_refs hl h3
        have seqs : ∀ {xs ys : List D} {us vs : List Value}, allEq (eqD n st) xs ys = some k → Ats X.K H ι st.length xs us → Ats X.K H ι st.length ys vs →
            ∃ e : Nat → Bool, (∀ j (h1 : j < us.length) (h2 : j < vs.length), EqAt A.in1 s us[j] vs[j] (e j)) ∧ k = ((List.range (min us.length vs.length)).all e && us.length == vs.length) := fun q ra rb => eqAt_Ds I S (fun a b c d => (eqAt_D I S n a b c d).2.2) q ra rb hu1
        cases ua with
        | sc fa ra =>
          cases ub with
          | sc fb rb => cases e; exact ⟨RcAt_V ra rb fa fb, RcNeAt_V ra rb fa fb, eqAt_V ra rb fa fb⟩
          | t hb _ => cases e; exact ⟨RcAt_Vtuple hb hu0 ra fa, RcNeAt_Vtuple hb hu0 ra fa, EqAt_refR (flat_ne (A := A) (s := s) ra fa) (RcAt_Vtuple hb hu0 ra fa)⟩
          | l hb _ => cases e; exact ⟨RcAt_Vlist hb hu0 ra fa, RcNeAt_Vlist hb hu0 ra fa, EqAt_refR (flat_ne (A := A) (s := s) ra fa) (RcAt_Vlist hb hu0 ra fa)⟩
          | d hb => cases e; exact ⟨RcAt_Vdict hb hu0 ra fa, RcNeAt_Vdict hb hu0 ra fa, EqAt_refR (flat_ne (A := A) (s := s) ra fa) (RcAt_Vdict hb hu0 ra fa)⟩
        | @t a1 xs its ha ra =>
          cases ub with
          | sc fb rb => cases e; exact ⟨RcAt_tupleV ha hu0 rb fb, RcNeAt_tupleV ha hu0 rb fb, EqAt_refL (ne_flat (A := A) (s := s) rb fb) (RcAt_tupleV ha hu0 rb fb)⟩
          | @t b1 ys its2 hb rb =>
            obtain ⟨f, hf, hk⟩ := seqs e ra rb
            have hf' : ∀ j (h1 : j < its.size) (h2 : j < its2.size), EqAt A.in1 s its[j] its2[j] (f j) := fun j h1 h2 => by
              have q := hf j (by simpa using h1) (by simpa using h2)
              rw [Array.getElem_toList, Array.getElem_toList] at q
              exact q
            have q1 := RcAt.tuples ha hb hu0 hf'
            have q2 := RcNeAt.tuples ha hb hu0 hf'
            have ek : ((List.range (min its.size its2.size)).all f && its.size == its2.size) = k := by rw [hk]; simp
            rw [ek] at q1 q2
            exact refs rfl rfl q1 q2
          | l hb _ => cases e; exact refs rfl rfl (RcAt.tuple_list ha hb hu0) (RcNeAt.tuple_list ha hb hu0)
          | d hb => cases e; exact refs rfl rfl (RcAt.tuple_dict ha hb hu0) (RcNeAt.tuple_dict ha hb hu0)
        | @l a1 xs its ha ra =>
          cases ub with
          | sc fb rb => cases e; exact ⟨RcAt_listV ha hu0 rb fb, RcNeAt_listV ha hu0 rb fb, EqAt_refL (ne_flat (A := A) (s := s) rb fb) (RcAt_listV ha hu0 rb fb)⟩
          | t hb _ => cases e; exact refs rfl rfl (RcAt.list_tuple ha hb hu0) (RcNeAt.list_tuple ha hb hu0)
          | @l b1 ys its2 hb rb =>
            obtain ⟨f, hf, hk⟩ := seqs e ra rb
            have hf' : ∀ j (h1 : j < its.size) (h2 : j < its2.size), EqAt A.in1 s its[j] its2[j] (f j) := fun j h1 h2 => by
              have q := hf j (by simpa using h1) (by simpa using h2)
              rw [Array.getElem_toList, Array.getElem_toList] at q
              exact q
            by_cases hsz : its.size = its2.size
            · have q1 := RcAt.lists ha hb hsz hu0 hf'
              have q2 := RcNeAt.lists ha hb hsz hu0 hf'
              have ek : (List.range its.size).all f = k := by rw [hk]; simp [hsz]
              rw [ek] at q1 q2
              exact refs rfl rfl q1 q2
            · have ek : k = false := by rw [hk]; simp [hsz]
              subst ek
              exact refs rfl rfl (RcAt.lists_lengths ha hb (by simpa using hsz) hu0) (RcNeAt.lists_lengths ha hb (by simpa using hsz) hu0)
          | d hb => cases e; exact refs rfl rfl (RcAt.list_dict ha hb hu0) (RcNeAt.list_dict ha hb hu0)
        | d ha =>
          cases ub with
          | sc fb rb => cases e; exact ⟨RcAt_dictV ha hu0 rb fb, RcNeAt_dictV ha hu0 rb fb, EqAt_refL (ne_flat (A := A) (s := s) rb fb) (RcAt_dictV ha hu0 rb fb)⟩
          | t hb _ => cases e; exact refs rfl rfl (RcAt.dict_tuple ha hb hu0) (RcNeAt.dict_tuple ha hb hu0)
          | l hb _ => cases e; exact refs rfl rfl (RcAt.dict_list ha hb hu0) (RcNeAt.dict_list ha hb hu0)
          | d hb => cases e
end Ev
set_option Elab.async false
set_option linter.all false
set_option maxRecDepth 100000
set_option maxHeartbeats 4000000
namespace Ev
open PySem PySem.Spec PyProof.Rows L2
noncomputable abbrev Loc := List (Option D)
inductive Bo where
  | add | sub | mul | fdiv | mod | pow
inductive Bt where
  | len | list | tuple | int | abs | all | max | min
inductive Ty where
  | int | bool | str | list | tuple | dict
inductive Ex where
  | c (d : D) | v (i : Nat) | tup (es : List Ex) | lst (es : List Ex) | emp
  | bin (op : Bo) (a b : Ex) | neg (a : Ex) | not (a : Ex) | and (a b : Ex) | or (a b : Ex)
  | cmp (op : CmpOp) (a b : Ex) | chain (op op' : CmpOp) (a b c : Ex)
  | ix (a b : Ex) | sl (a lo hi : Ex) (hl hh : Bool)
  | fn (f : Nat) (args : List Ex) | bt (f : Bt) (args : List Ex) | isi (a : Ex) (t : Ty)
  | comp (rng : Bool) (src elt : Ex) | compIf (rng : Bool) (src test elt : Ex)
  | ite (c a b : Ex) | compE (src elt : Ex) | dict (ks : List Str) (vs : List Ex) | lrev (a : Ex) | pop (o : Ex) (fr : Bool) | idx (a b : Ex) | join (sep : Str) (a : Ex)
  | fld (a : Ex) (f : Str) (cs : List Str) | isc (a : Ex) (yes no : List Str)
noncomputable def alloc (xs : List D) : M D := fun st => .ok (.ref st.length) (st ++ [.lst xs])
noncomputable def allocD : M D := fun st => .ok (.ref st.length) (st ++ [.dct []])
noncomputable def seqOf (st : Sto) : D → Option (List D)
  | .tup xs => some xs
  | .fl xs => some xs
  | .ref n => match st[n]? with
    | some (.lst xs) => some xs
    | _ => none
  | _ => none
noncomputable def popD (fr : Bool) (x : D) : M D := fun st => match x with
  | .ref n => match st[n]? with
    | some (.lst xs) => if fr then (match xs[0]? with
      | some y => .ok y (st.set n (.lst (xs.drop 1)))
      | none => .bad) else (match xs[xs.length - 1]? with
      | some y => .ok y (st.set n (.lst xs.dropLast))
      | none => .bad)
    | _ => .bad
  | _ => .bad
noncomputable def big : Int := 18446744073709551616
noncomputable def strRep (a : Str) (j : Int) : Str := if j < 1 then Str.empty else if (j == 1 || a.length == 0) = true then a else ⟨(List.replicate j.toNat a.cps).foldl (· ++ ·) #[]⟩
theorem foldl_size {α : Type} (xs : Array α) : ∀ (n : Nat) (acc : Array α), ((List.replicate n xs).foldl (· ++ ·) acc).size = acc.size + n * xs.size
  | 0, acc => by simp
  | n + 1, acc => by
    rw [List.replicate_succ, List.foldl_cons, foldl_size xs n, Array.size_append, Nat.succ_mul]
    omega
theorem strRep_length {a : Str} {j : Int} (h0 : 0 ≤ j) : (strRep a j).length ≤ a.length * j.toNat := by
  unfold strRep
  split
  · show 0 ≤ _
    omega
  · rename_i h1
    split
    · rename_i h2
      rcases Bool.or_eq_true_iff.mp h2 with h2 | h2
      · have : j = 1 := by simpa using h2
        subst this
        simp
      · have : a.length = 0 := by simpa using h2
        rw [this]; omega
    · show ((List.replicate j.toNat a.cps).foldl (· ++ ·) #[]).size ≤ a.cps.size * j.toNat
      rw [foldl_size, Nat.mul_comm]
      simp
noncomputable def binop (op : Bo) (x y : D) : M D := fun st => match op, x, y with
  | .add, .int i, .int j => .ok (.int (i + j)) st
  | .add, .str a, .str b => if a.length + b.length ≤ 1000000 then .ok (.str (a ++ b)) st else .bad
  | .add, .tup (a :: as), .tup bs => if (a :: as).length + bs.length ≤ 1000000 then .ok (.tup (a :: as ++ bs)) st else .bad
  | .add, .tup [], .tup bs => .ok (.tup bs) st
  | .add, .ref m, .ref n => match st[m]?, st[n]? with
    | some (.lst as), some (.lst bs) => if as.length + bs.length ≤ 1000000 then alloc (as ++ bs) st else .bad
    | _, _ => .bad
  | .sub, .int i, .int j => .ok (.int (i - j)) st
  | .mul, .int i, .int j => if ((-big < i ∧ i < big) ∨ (-big < j ∧ j < big)) ∨ (i.natAbs < 2 ^ 1000 ∧ j.natAbs < 2 ^ 1000) then .ok (.int (i * j)) st else .bad
  | .mul, .ref m, .int j => match st[m]? with
    | some (.lst as) => if 0 ≤ j ∧ j ≤ 1000 ∧ as.length ≤ 1000 then alloc (List.flatten (List.replicate j.toNat as)) st else .bad
    | _ => .bad
  | .mul, .str a, .int j => if 0 ≤ j ∧ j ≤ 1000 ∧ a.length ≤ 1000 then .ok (.str (strRep a j)) st else .bad
  | .fdiv, .int i, .int j => if j ≠ 0 ∧ j.natAbs < 2 ^ 200 then .ok (.int (i.fdiv j)) st else .bad
  | .mod, .int i, .int j => if j ≠ 0 then .ok (.int (i.fmod j)) st else .bad
  | .pow, .int i, .int j => if 0 ≤ j ∧ j ≤ 1000 ∧ i.natAbs < 1000 then .ok (.int (i ^ j.toNat)) st else .bad
  | _, _, _ => .bad
noncomputable def anyEq (st : Sto) (x : D) : List D → Option Bool
  | [] => some false
  | y :: ys => match eqD 60 st y x, anyEq st x ys with
    | some a, some b => some (a || b)
    | _, _ => none
noncomputable def lstOk (o : D) : M Unit := fun st => match o with
  | .ref n => match st[n]? with
    | some (.lst _) => .ok () st
    | _ => .bad
  | _ => .bad
noncomputable def idxD (x y : D) : M D := fun st => match x with
  | .ref n => match st[n]? with
    | some (.lst ys) => if anyEq st y ys = some true ∧ ys.length ≤ 1000000 then .ok (.int (ys.findIdx fun z => eqD 60 st z y == some true)) st else .bad
    | _ => .bad
  | _ => .bad
noncomputable def allB : List D → Option Bool
  | [] => some true
  | .bl b :: ds => match allB ds with
    | some k => some (b && k)
    | none => none
  | _ :: _ => none
noncomputable def dictIn (st : Sto) (x y : D) : Option Bool := match x, y with
  | .str s, .ref n => match st[n]? with
    | some (.dct kvs) => some (kvs.lookup s).isSome
    | _ => none
  | _, _ => none
noncomputable def isD (x y : D) : Option Bool := match y with
  | .non => some (match x with | .non => true | _ => false)
  | .bl b => some (match x with | .bl a => a == b | _ => false)
  | _ => none
noncomputable def txtIn (x y : D) : Option Bool := match x, y with
  | .str a, .str b => some (!(Builtin.Str.occurrences b a 0 b.length 1).isEmpty)
  | _, _ => none
noncomputable def strs? : List D → Option (List Str)
  | [] => some []
  | .str s :: r => (strs? r).map (s :: ·)
  | _ :: _ => none
noncomputable def joinD (sep : Str) (x : D) : M D := fun st => match x with
  | .ref n => match st[n]? with
    | some (.lst xs) => match strs? xs with
      | some l => if Builtin.Str.tooLong (l.toArray.foldl (· + ·.length + sep.length) 0) = false ∧ (joined sep l).length ≤ 1000000 then .ok (.str (joined sep l)) st else .bad
      | none => .bad
    | _ => .bad
  | _ => .bad
noncomputable def signs (z : Str) : List D := z.cps.toList.map fun c => .str ⟨#[c]⟩
noncomputable def cmpop (op : CmpOp) (x y : D) : M D := fun st => match op with
  | .Eq => match eqD 60 st x y with
    | some k => .ok (.bl k) st
    | none => .bad
  | .NotEq => match eqD 60 st x y with
    | some k => .ok (.bl (!k)) st
    | none => .bad
  | .Lt => match x, y with
    | .int i, .int j => .ok (.bl (decide (i < j))) st
    | _, _ => .bad
  | .LtE => match x, y with
    | .int i, .int j => .ok (.bl (decide (i ≤ j))) st
    | .str a, .str b => .ok (.bl (!decide (b.cps.toList < a.cps.toList))) st
    | _, _ => .bad
  | .Gt => match x, y with
    | .int i, .int j => .ok (.bl (decide (j < i))) st
    | _, _ => .bad
  | .GtE => match x, y with
    | .int i, .int j => .ok (.bl (decide (j ≤ i))) st
    | _, _ => .bad
  | .In => match seqOf st y with
    | some ys => match anyEq st x ys with
      | some k => .ok (.bl k) st
      | none => .bad
    | none => match dictIn st x y with
      | some k => .ok (.bl k) st
      | none => match txtIn x y with
        | some k => .ok (.bl k) st
        | none => .bad
  | .NotIn => match seqOf st y with
    | some ys => match anyEq st x ys with
      | some k => .ok (.bl (!k)) st
      | none => .bad
    | none => match dictIn st x y with
      | some k => .ok (.bl (!k)) st
      | none => .bad
  | .Is => match isD x y with
    | some k => .ok (.bl k) st
    | none => .bad
  | .IsNot => match isD x y with
    | some k => .ok (.bl (!k)) st
    | none => .bad
noncomputable def index (x y : D) : M D := fun st => match x, y with
  | .str z, .int i => if z.length ≤ 1000000 then (match atI z.cps.toList i with
    | some c => .ok (.str ⟨#[c]⟩) st
    | none => .bad) else .bad
  | x, .int i => match seqOf st x with
    | some xs => match atI xs i with
      | some d => .ok d st
      | none => .bad
    | none => .bad
  | .ref n, .str k => match st[n]? with
    | some (.dct kvs) => match kvs.lookup k with
      | some d => .ok d st
      | none => .bad
    | _ => .bad
  | _, _ => .bad
noncomputable def btin (f : Bt) (ds : List D) : M D := fun st => match f, ds with
  | .len, [.str z] => if z.length ≤ 1000000 then .ok (.int z.length) st else .bad
  | .len, [x] => match seqOf st x with
    | some xs => .ok (.int xs.length) st
    | none => .bad
  | .list, [x] => match seqOf st x with
    | some xs => alloc xs st
    | none => .bad
  | .tuple, [.tup xs] => .ok (.tup xs) st
  | .tuple, [x] => match seqOf st x with
    | some xs => .ok (.tup xs) st
    | none => .bad
  | .int, [.int i] => .ok (.int i) st
  | .int, [.bl b] => .ok (.int (if b then 1 else 0)) st
  | .all, [.ref n] => match st[n]? with
    | some (.lst xs) => match allB xs with
      | some k => .ok (.bl k) st
      | none => .bad
    | _ => .bad
  | .abs, [.int i] => .ok (.int (if i < 0 then -i else i)) st
  | .max, [.int i, .int j] => .ok (.int (if j > i then j else i)) st
  | .min, [.int i, .int j] => .ok (.int (if j < i then j else i)) st
  | _, _ => .bad
noncomputable def isiD (st : Sto) (t : Ty) : D → Option Bool
  | .non => some false
  | .bl _ => some (match t with | .int => true | .bool => true | _ => false)
  | .int _ => some (match t with | .int => true | _ => false)
  | .str _ => some (match t with | .str => true | _ => false)
  | .tup _ => some (match t with | .tuple => true | _ => false)
  | .fl _ => some (match t with | .list => true | _ => false)
  | .ref n => match st[n]? with
    | some (.lst _) => some (match t with | .list => true | _ => false)
    | some (.dct _) => some (match t with | .dict => true | _ => false)
    | _ => none
inductive Src where
  | its (xs : List D) | at (n : Nat) | en (n : Nat)
noncomputable def rangeD (n : Nat) : List D := (List.range n).map fun (i : Nat) => D.int (i : Int)
noncomputable def source (rng : Bool) (d : D) : Option Src := match rng, d with
  | true, .int j => if -1000000 ≤ j ∧ j ≤ 1000000 then some (.its (rangeD j.toNat)) else none
  | false, .tup xs => some (.its xs)
  | false, .fl xs => some (.its xs)
  | false, .ref n => some (.at n)
  | false, .str z => if z.length ≤ 1000000 then some (.its (signs z)) else none
  | _, _ => none
noncomputable def enumL (k : Nat) : List D → List D
  | [] => []
  | x :: xs => .tup [.int (k : Int), x] :: enumL (k + 1) xs
noncomputable def enumS : D → Option Src
  | .ref n => some (.en n)
  | .tup xs => some (.its (enumL 0 xs))
  | _ => none
noncomputable def nxt (s : Src) (i : Nat) (st : Sto) : Option (Option D) := match s with
  | .its xs => some xs[i]?
  | .at n => match st[n]? with
    | some (.lst xs) => some xs[i]?
    | _ => none
  | .en n => match st[n]? with
    | some (.lst xs) => some (xs[i]?.map fun x => .tup [.int (i : Int), x])
    | _ => none
noncomputable def lenS (s : Src) (st : Sto) : Nat := match s with
  | .its xs => xs.length
  | .at n => match st[n]? with
    | some (.lst xs) => xs.length
    | _ => 0
  | .en n => match st[n]? with
    | some (.lst xs) => xs.length
    | _ => 0
noncomputable def compN (f : D → M (Option D)) (s : Src) : Nat → Nat → List D → M (List D)
  | 0, _, _ => stuck
  | k + 1, i, acc => fun st => match nxt s i st with
    | some (some x) => bnd (f x) (fun o => match o with
      | some y => compN f s k (i + 1) (acc ++ [y])
      | none => compN f s k (i + 1) acc) st
    | some none => .ok acc st
    | none => .bad
noncomputable def compS (f : D → M (Option D)) (s : Src) : M D := fun st => if lenS s st ≤ 1000000 then bnd (compN f s (lenS s st + 1) 0 []) alloc st else .bad
noncomputable def bool? : D → Option Bool
  | .bl b => some b
  | _ => none
noncomputable def int? : D → Option Int
  | .int i => some i
  | _ => none
noncomputable def cutD (xs : List D) (lo hi : Option Int) : List D := (xs.drop (HT.sIx xs.length 0 lo)).take (HT.sIx xs.length xs.length hi - HT.sIx xs.length 0 lo)
noncomputable def slice (x : D) (lo hi : Option Int) : M D := fun st => match x with
  | .str z => if (cutS z lo hi).length ≤ 1000000 then .ok (.str (cutS z lo hi)) st else .bad
  | .tup xs => if HT.sIx xs.length 0 lo = 0 ∧ HT.sIx xs.length xs.length hi = xs.length then .bad else .ok (.tup (cutD xs lo hi)) st
  | x => match seqOf st x with
    | some xs => alloc (cutD xs lo hi) st
    | none => .bad
noncomputable def allocK (ks : List Str) (ds : List D) : M D := fun st => if ks.length = ds.length ∧ ks.Nodup then .ok (.ref st.length) (st ++ [.dct (ks.zip ds)]) else .bad
noncomputable def revd (x : D) : M D := fun st => match x with
  | .ref n => match st[n]? with
    | some (.lst xs) => if xs.length ≤ 1000000 then alloc xs.reverse st else .bad
    | _ => .bad
  | _ => .bad
noncomputable def fldD (f : Str) (cs : List Str) (x : D) : M D := fun st => match x with
  | .ref n => match st[n]? with
    | some (.err c (some m) _) => match st[m]? with
      | some (.edc fs) => match fs.lookup f with
        | some d => if c ∈ cs then .ok d st else .bad
        | none => .bad
      | _ => .bad
    | _ => .bad
  | _ => .bad
noncomputable def dictOk (st : Sto) : Option Nat → Bool
  | none => true
  | some m => match st[m]? with
    | some (.edc _) => true
    | _ => false
noncomputable def iscD (yes no : List Str) (x : D) : M D := fun st => match x with
  | .ref n => match st[n]? with
    | some (.err c d _) => if dictOk st d = true then (if c ∈ yes then .ok (.bl true) st else if c ∈ no then .ok (.bl false) st else .bad) else .bad
    | _ => .bad
  | _ => .bad
inductive Rs where
  | v (d : D) | x (n : Nat)
noncomputable def Rs.val? : Rs → Option D
  | .v d => some d
  | .x _ => none
noncomputable abbrev Fns := Nat → List D → M Rs
mutual
noncomputable def run (g : Fns) : Ex → Loc → M D
  | .c d, _ => ret d
  | .v i, loc => ofO (loc[i]?.join)
  | .tup es, loc => bnd (runs g es loc) fun ds => ret (.tup ds)
  | .lst es, loc => bnd (runs g es loc) alloc
  | .emp, _ => allocD
  | .bin op a b, loc => bnd (run g a loc) fun x => bnd (run g b loc) fun y => binop op x y
  | .neg a, loc => bnd (run g a loc) fun x => bnd (ofO (int? x)) fun i => ret (.int (-i))
  | .not a, loc => bnd (run g a loc) fun x => bnd (ofO (bool? x)) fun b => ret (.bl (!b))
  | .and a b, loc => bnd (run g a loc) fun x => bnd (ofO (bool? x)) fun k => if k then run g b loc else ret (.bl false)
  | .or a b, loc => bnd (run g a loc) fun x => bnd (ofO (bool? x)) fun k => if k then ret (.bl true) else run g b loc
  | .cmp op a b, loc => bnd (run g a loc) fun x => bnd (run g b loc) fun y => cmpop op x y
  | .chain op op' a b c, loc => bnd (run g a loc) fun x => bnd (run g b loc) fun y => bnd (cmpop op x y) fun z => bnd (ofO (bool? z)) fun k => if k then bnd (run g c loc) fun w => cmpop op' y w else ret (.bl false)
  | .ix a b, loc => bnd (run g a loc) fun x => bnd (run g b loc) fun y => index x y
  | .sl a lo hi hl hh, loc => bnd (run g a loc) fun x => bnd (if hl then bnd (run g lo loc) fun z => bnd (ofO (int? z)) fun i => ret (some i) else ret none) fun l =>
      bnd (if hh then bnd (run g hi loc) fun z => bnd (ofO (int? z)) fun i => ret (some i) else ret none) fun h => slice x l h
  | .fn f args, loc => bnd (runs g args loc) fun ds => bnd (g f ds) fun r => ofO r.val?
  | .bt f args, loc => bnd (runs g args loc) fun ds => btin f ds
  | .isi a t, loc => bnd (run g a loc) fun x => fun st => match isiD st t x with
    | some k => .ok (.bl k) st
    | none => .bad
  | .comp rng src elt, loc => bnd (run g src loc) fun d => bnd (ofO (source rng d)) fun s => compS (fun x => bnd (run g elt (some x :: loc)) fun y => ret (some y)) s
  | .compIf rng src test elt, loc => bnd (run g src loc) fun d => bnd (ofO (source rng d)) fun s =>
      compS (fun x => bnd (run g test (some x :: loc)) fun z => bnd (ofO (bool? z)) fun k => if k then bnd (run g elt (some x :: loc)) fun y => ret (some y) else ret none) s
  | .ite c a b, loc => bnd (run g c loc) fun x => bnd (ofO (bool? x)) fun k => if k then run g a loc else run g b loc
  | .compE src elt, loc => bnd (run g src loc) fun d => bnd (ofO (enumS d)) fun s =>
      compS (fun x => match x with
        | .tup [a, b] => bnd (run g elt (some a :: some b :: loc)) fun y => ret (some y)
        | _ => stuck) s
  | .dict ks es, loc => bnd (runs g es loc) fun ds => allocK ks ds
  | .lrev a, loc => bnd (run g a loc) fun x => revd x
  | .pop o fr, loc => bnd (run g o loc) fun x => popD fr x
  | .join sep a, loc => bnd (run g a loc) fun x => joinD sep x
  | .idx a b, loc => bnd (run g a loc) fun x => bnd (lstOk x) fun _ => bnd (run g b loc) fun y => idxD x y
  | .fld a f cs, loc => bnd (run g a loc) fun x => fldD f cs x
  | .isc a yes no, loc => bnd (run g a loc) fun x => iscD yes no x
noncomputable def runs (g : Fns) : List Ex → Loc → M (List D)
  | [], _ => ret []
  | e :: es, loc => bnd (run g e loc) fun d => bnd (runs g es loc) fun ds => ret (d :: ds)
end
inductive Tg where
  | no | set (i : Nat) | ret | one (i : Nat)
inductive S where
  | set (i : Nat) (e : Ex) | setix (o i e : Ex) | ret (e : Ex) | ret0 | ex (e : Ex) | app (o e : Ex) | pass
  | ite (c : Ex) (a b : List S) | for_ (i : Nat) (rng : Bool) (src : Ex) (body : List S)
  | upd (o e : Ex) | whil (c : Ex) (body : List S) | unp (is : List Nat) (e : Ex)
  | ext (o e : Ex) | clr (o : Ex) | aug (i : Nat) (e : Ex) | forU (is : List Nat) (src : Ex) (body : List S)
  | setf (o : Ex) (f : Str) (e : Ex) (cs : List Str) | callx (k : Tg) (f : Nat) (args : List Ex) | rais (x : Str) (f : Nat) (args : List Ex) | tryx (body : List S) (yes : List Str) (i : Nat) (suite : List S)
  | stop
inductive Fl where
  | nx (loc : Loc) | rt (d : D) | ex (n : Nat) (loc : Loc)
noncomputable def setitem (o i v : D) : M Unit := fun st => match o, i with
  | .ref n, .int k => match st[n]? with
    | some (.lst xs) => match ixN xs.length k with
      | some j => .ok () (st.set n (.lst (xs.set j v)))
      | none => .bad
    | _ => .bad
  | _, _ => .bad
noncomputable def append (o v : D) : M Unit := fun st => match o with
  | .ref n => match st[n]? with
    | some (.lst xs) => if xs.length < 1000000 then .ok () (st.set n (.lst (xs ++ [v]))) else .bad
    | _ => .bad
  | _ => .bad
noncomputable def extend (o v : D) : M Unit := fun st => match o, v with
  | .ref n, .ref m => match st[n]?, st[m]? with
    | some (.lst xs), some (.lst ys) => if xs.length + ys.length ≤ 10000000 then .ok () (st.set n (.lst (xs ++ ys))) else .bad
    | _, _ => .bad
  | .ref n, .tup ys => match st[n]? with
    | some (.lst xs) => if xs.length + ys.length ≤ 10000000 then .ok () (st.set n (.lst (xs ++ ys))) else .bad
    | _ => .bad
  | _, _ => .bad
noncomputable def clearD (o : D) : M Unit := fun st => match o with
  | .ref n => match st[n]? with
    | some (.lst _) => .ok () (st.set n (.lst []))
    | _ => .bad
  | _ => .bad
noncomputable def addI (x y : D) : M D := fun st => match x, y with
  | .int i, .int j => .ok (.int (i + j)) st
  | _, _ => .bad
noncomputable def forN (f : D → Loc → M Fl) (s : Src) : Nat → Nat → Loc → M Fl
  | 0, _, _ => stuck
  | k + 1, i, loc => fun st => match nxt s i st with
    | some (some x) => bnd (f x loc) (fun r => match r with
      | .nx loc' => forN f s k (i + 1) loc'
      | .rt d => ret (.rt d)
      | .ex n l => ret (.ex n l)) st
    | some none => .ok (.nx loc) st
    | none => .bad
noncomputable def forS (f : D → Loc → M Fl) (s : Src) (loc : Loc) : M Fl := fun st => forN f s (lenS s st + 1) 0 loc st
noncomputable def dctOk (o : D) : M Unit := fun st => match o with
  | .ref n => match st[n]? with
    | some (.dct _) => .ok () st
    | _ => .bad
  | _ => .bad
noncomputable def update (o v : D) : M Unit := fun st => match o, v with
  | .ref n, .ref m => match st[n]?, st[m]? with
    | some (.dct kvs), some (.dct more) => if n ≠ m ∧ (more.map (·.1)).Nodup ∧ (∀ k ∈ more.map (·.1), k ∉ kvs.map (·.1)) ∧ kvs.length + more.length ≤ 1000 then .ok () (st.set n (.dct (kvs ++ more))) else .bad
    | _, _ => .bad
  | _, _ => .bad
noncomputable def whileN (c : Loc → M D) (f : Loc → M Fl) : Nat → Loc → M Fl
  | 0, _ => stuck
  | k + 1, loc => bnd (c loc) fun x => bnd (ofO (bool? x)) fun b => if b then bnd (f loc) (fun r => match r with
      | .nx loc' => whileN c f k loc'
      | .rt d => ret (.rt d)
      | .ex n l => ret (.ex n l)) else ret (.nx loc)
noncomputable def fuel : Nat := 1000000000
noncomputable def setL : List Nat → List D → Loc → Loc
  | i :: is, d :: ds, loc => setL is ds (loc.set i (some d))
  | _, _, loc => loc
noncomputable def items? (n : Nat) (d : D) : M (List D) := fun st => match seqOf st d with
  | some xs => if xs.length = n then .ok xs st else .bad
  | none => .bad
noncomputable def setfD (cs : List Str) (o : D) (f : Str) (v : D) : M Unit := fun st => match o with
  | .ref n => match st[n]? with
    | some (.err c none t) => if c ∈ cs then .ok () (st.set n (.err c (some st.length) t) ++ [.edc [(f, v)]]) else .bad
    | some (.err c (some m) _) => match st[m]? with
      | some (.edc fs) => if fs.length < 900 ∧ c ∈ cs then .ok () (st.set m (.edc (putD f v fs))) else .bad
      | _ => .bad
    | _ => .bad
  | _ => .bad
noncomputable def finT (k : Tg) (d : D) (loc : Loc) : M Fl := match k with
  | .no => ret (.nx loc)
  | .set i => ret (.nx (loc.set i (some d)))
  | .ret => ret (.rt d)
  | .one i => bnd (alloc [d]) fun p => ret (.nx (loc.set i (some p)))
noncomputable def finC (k : Tg) (loc : Loc) : Rs → M Fl
  | .v d => finT k d loc
  | .x n => ret (.ex n loc)
noncomputable def mkErr (g : Fns) (x : Str) (f : Nat) (ds : List D) : M Nat := fun st => bnd (g f (.ref st.length :: ds)) (fun r => match r with
  | .v .non => fun st1 => match st1[st.length]? with
    | some (.err c d false) => if c = x then .ok st.length (st1.set st.length (.err c d true)) else .bad
    | _ => .bad
  | _ => stuck) (st ++ [.err x none false])
mutual
noncomputable def exec (g : Fns) : S → Loc → M Fl
  | .set i e, loc => bnd (run g e loc) fun d => ret (.nx (loc.set i (some d)))
  | .setix o i e, loc => bnd (run g e loc) fun d => bnd (run g o loc) fun x => bnd (run g i loc) fun k => bnd (setitem x k d) fun _ => ret (.nx loc)
  | .ret e, loc => bnd (run g e loc) fun d => ret (.rt d)
  | .ret0, _ => ret (.rt .non)
  | .ex e, loc => bnd (run g e loc) fun _ => ret (.nx loc)
  | .app o e, loc => bnd (run g o loc) fun x => bnd (lstOk x) fun _ => bnd (run g e loc) fun d => bnd (append x d) fun _ => ret (.nx loc)
  | .pass, loc => ret (.nx loc)
  | .ite c a b, loc => bnd (run g c loc) fun x => bnd (ofO (bool? x)) fun k => if k then execs g a loc else execs g b loc
  | .for_ i rng src body, loc => bnd (run g src loc) fun d => bnd (ofO (source rng d)) fun s => forS (fun x loc' => execs g body (loc'.set i (some x))) s loc
  | .upd o e, loc => bnd (run g o loc) fun x => bnd (dctOk x) fun _ => bnd (run g e loc) fun d => bnd (update x d) fun _ => ret (.nx loc)
  | .whil c body, loc => whileN (run g c) (execs g body) fuel loc
  | .unp is e, loc => bnd (run g e loc) fun d => bnd (items? is.length d) fun ds => ret (.nx (setL is ds loc))
  | .ext o e, loc => bnd (run g o loc) fun x => bnd (lstOk x) fun _ => bnd (run g e loc) fun d => bnd (extend x d) fun _ => ret (.nx loc)
  | .forU is src body, loc => bnd (run g src loc) fun d => bnd (ofO (source false d)) fun s => forS (fun x loc' => bnd (items? is.length x) fun ds => execs g body (setL is ds loc')) s loc
  | .clr o, loc => bnd (run g o loc) fun x => bnd (clearD x) fun _ => ret (.nx loc)
  | .setf o f e cs, loc => bnd (run g e loc) fun d => bnd (run g o loc) fun x => bnd (setfD cs x f d) fun _ => ret (.nx loc)
  | .callx k f args, loc => bnd (runs g args loc) fun ds => bnd (g f ds) fun r => finC k loc r
  | .rais x f args, loc => bnd (runs g args loc) fun ds => bnd (mkErr g x f ds) fun n => ret (.ex n loc)
  | .tryx body yes i suite, loc => bnd (execs g body loc) fun r => match r with
    | .nx l => ret (.nx l)
    | .rt d => ret (.rt d)
    | .ex n l => fun st => match st[n]? with
      | some (.err x _ true) => if x ∈ yes then bnd (execs g suite (l.set i (some (.ref n)))) (fun r => match r with
          | .nx l2 => ret (.nx (l2.set i none))
          | .rt d => ret (.rt d)
          | .ex _ _ => stuck) st else .bad
      | _ => .bad
  | .stop, _ => stuck
  | .aug i e, loc => bnd (run g (.v i) loc) fun x => bnd (run g e loc) fun y => bnd (addI x y) fun z => ret (.nx (loc.set i (some z)))
noncomputable def execs (g : Fns) : List S → Loc → M Fl
  | [], loc => ret (.nx loc)
  | s :: ss, loc => bnd (exec g s loc) fun r => match r with
    | .nx loc' => execs g ss loc'
    | .rt d => ret (.rt d)
    | .ex n l => ret (.ex n l)
end
structure Fn where
  ar : Nat
  nl : Nat
  body : List S
noncomputable def callB (g : Fns) (f : Fn) (ds : List D) : M Rs := if ds.length = f.ar then bnd (execs g f.body (ds.map some ++ List.replicate (f.nl - ds.length) none)) fun r => match r with
    | .nx _ => ret (.v .non)
    | .rt d => ret (.v d)
    | .ex n _ => ret (.x n)
  else stuck
noncomputable def calls (tab : List Fn) : Nat → Fns
  | 0, _, _ => stuck
  | k + 1, f, ds => match tab[f]? with
    | some fn => callB (calls tab k) fn ds
    | none => stuck
end Ev
set_option Elab.async false
set_option linter.all false
set_option maxRecDepth 100000
set_option maxHeartbeats 4000000
namespace Ev
open PySem PySem.Spec PyProof.Rows L2
noncomputable def Post (K : PySem.W.Frag) (H : Hp) (ι : Nat → Addr) (st : Sto) (r : R D) (Q : VK) : Prop := match r with
  | .ok d st' => ∀ H' ι' v, Ext H H' ι ι' st.length st'.length → Sim K H' ι' st' → VRel K H' ι' st'.length d v → Q v H'
  | .bad => False
section
variable {K : PySem.W.Frag} {H : Hp} {ι : Nat → Addr} {st : Sto} {Q : VK}
theorem Post.same {d : D} {v : V} (S : Sim K H ι st) (P : Post K H ι st (.ok d st) Q) (r : VRel K H ι st.length d v) : Q v H := P H ι v (Ext.refl _ _ _) S r
theorem Post.mono {H1 : Hp} {ι1 : Nat → Addr} {st1 : Sto} {r : R D} (P : Post K H ι st r Q) (E : Ext H H1 ι ι1 st.length st1.length) : Post K H1 ι1 st1 r Q := by
  cases r with
  | ok d st' => exact fun H' ι' v E' S' r' => P H' ι' v (E.trans E') S' r'
  | bad => exact P
theorem Post.alloc {xs : List D} {vs : List V} (S : Sim K H ι st) (P : Post K H ι st (alloc xs st) Q) (r : VRels K H ι st.length xs vs) : ∀ p, H p = none → Q (.ref p) (upd H p (.lst vs)) := fun p hp => by
  obtain ⟨ι', E, e, S'⟩ := S.laid (o := .lst xs) (ho := .lst vs) hp (fun ι' h1 h2 => ⟨vs, upd_same, VRels.ext0 ⟨Nat.le_succ _, h1, fun b xs e => by rw [upd_ne (ne_of_none e hp)]; exact e, fun b ob u e => by rw [upd_ne (ne_of_none e hp)]; exact e⟩ r⟩)
  have l : (st ++ [O.lst xs]).length = st.length + 1 := by simp
  refine P _ ι' _ (by rw [l]; exact E) S' ?_
  rw [← e, l]
  exact .ref (Nat.lt_succ_self _)
theorem Post.allocD (S : Sim K H ι st) (P : Post K H ι st (allocD st) Q) : ∀ p, H p = none → Q (.ref p) (upd H p (.dK [])) := fun p hp => by
  obtain ⟨ι', E, e, S'⟩ := S.laid (o := .dct []) (ho := .dK []) hp (fun ι' h1 h2 => ⟨[], upd_same, .nil⟩)
  have l : (st ++ [O.dct []]).length = st.length + 1 := by simp
  refine P _ ι' _ (by rw [l]; exact E) S' ?_
  rw [← e, l]
  exact .ref (Nat.lt_succ_self _)
theorem Post.tup {xs : List D} {vs : List V} (S : Sim K H ι st) (P : Post K H ι st (.ok (.tup xs) st) Q) (r : VRels K H ι st.length xs vs) : ∀ p, H p = none → Q (.ref p) (upd H p (.tup vs)) := fun p hp => by
  have hK : ∀ n, n < st.length → ι n ≠ p := fun n hn => by
    obtain ⟨_, h, _⟩ := S.obj hn; exact ne_of_none h hp
  have E : Ext H (upd H p (.tup vs)) ι ι st.length st.length := ⟨⟨Nat.le_refl _, fun _ _ => rfl, fun b xs e => by rw [upd_ne (ne_of_none e hp)]; exact e, fun b ob u e => by rw [upd_ne (ne_of_none e hp)]; exact e⟩, fun b ob e k => ⟨by rw [upd_ne (ne_of_none e hp)]; exact e, k⟩⟩
  refine P _ ι _ E ⟨S.inj, fun n o e => ?_⟩ (.tup (SqT.of upd_same) (r.ext E))
  have hn : n < st.length := (List.getElem?_eq_some_iff.mp e).1
  have old := S.ob n o e
  exact old.move E.toExt0 (upd_ne (hK n hn))
theorem VRel.seq {d : D} {v : V} {xs : List D} (S : Sim K H ι st) (r : VRel K H ι st.length d v) (e : seqOf st d = some xs) : ∃ a vs, v = .ref a ∧ (SqL K H a vs ∨ SqT K H a vs) ∧ VRels K H ι st.length xs vs := by
  cases r with
  | non => cases e
  | bl b => cases e
  | int i => cases e
  | str x => cases e
  | tup h r => cases e; exact ⟨_, _, rfl, .inr h, r⟩
  | fl h r => cases e; exact ⟨_, _, rfl, .inl h.sql, r⟩
  | @ref n hn =>
    simp only [seqOf] at e
    cases q : st[n]? with
    | none => rw [q] at e; cases e
    | some o =>
      rw [q] at e
      cases o with
      | lst zs =>
        cases e
        obtain ⟨vs, h1, h2⟩ := S.ob n _ q
        exact ⟨_, vs, rfl, .inl (SqL.of h1), h2⟩
      | dct kvs => cases e
      | err _ _ _ => cases e
      | edc _ => cases e
theorem VRels.inv1 {d : D} {vs : List V} (r : VRels K H ι st.length [d] vs) : ∃ v, vs = [v] ∧ VRel K H ι st.length d v := by
  cases r with
  | cons h t => cases t; exact ⟨_, rfl, h⟩
end
noncomputable def rD (K : PySem.W.Frag) (op : D → D → M D) : R2 := fun vx vy H Q => ∃ ι st dx dy, Sim K H ι st ∧ VRel K H ι st.length dx vx ∧ VRel K H ι st.length dy vy ∧ Post K H ι st (op dx dy st) Q
noncomputable def Bo.op : Bo → Operator
  | .add => .Add
  | .sub => .Sub
  | .mul => .Mult
  | .fdiv => .FloorDiv
  | .mod => .Mod
  | .pow => .Pow
theorem flat_rep {K : PySem.W.Frag} {H : Hp} {ι : Nat → Addr} {m : Nat} {as : List D} {vs : List V} (r : VRels K H ι m as vs) : ∀ n : Nat, VRels K H ι m (List.replicate n as).flatten (List.replicate n vs).flatten
  | 0 => .nil
  | n + 1 => by
    rw [List.replicate_succ, List.replicate_succ, List.flatten_cons, List.flatten_cons]
    exact r.append (flat_rep r n)
theorem op_fdivB {X : Cx} : OpR X (binaryOp .FloorDiv) (rI (fun _ j => j ≠ 0 ∧ j.natAbs < 2 ^ 200) fun i j => .int (i.fdiv j)) := opI fun i j _ _ _ _ _ hc q => floordiv_int hc.1 q (.inl (PyProof.noPylong_of_log2 (by
  have h0 : j.natAbs ≠ 0 := by have := hc.1; omega
  have : j.natAbs.log2 < 200 := (Nat.log2_lt h0).mpr hc.2
  omega)))
theorem cat_tup0 {prog : Program} {w : World} {A : Around} {E : Value → Shared → Prop} {s : Shared} {t b : Addr} {ws : List Value} {Q : Value → Shared → Prop} (ht : IsTup s.heap t ([] : List Value).toArray) (hb : IsTup s.heap b ws.toArray) (h : Q (.ref b) s) : wpAny (model prog w) A (binaryOp .Add (.ref t) (.ref b)) Q E s := by
  obtain ⟨⟨cls, dd, data, sl⟩, ho, hc, n, hd⟩ := id ht
  obtain ⟨⟨cls2, dd2, data2, sl2⟩, ho2, hc2, n2, hd2⟩ := id hb
  simp only at hc hd hc2 hd2
  subst hc hd hc2 hd2
  exact concat_meets ⟨_, ho, rfl⟩ ⟨_, ho2, rfl⟩ noFill_tuple_add seq_tuple_add PySem.F.slot_tuple_add PySem.F.entry_tuple_add (PySem.F.args_tuple_add_2 _ _)
      (tuple_addW0 t b _ ws.toArray n n2 dd dd2 sl sl2 (by simp)) ⟨ho, ho2, h⟩
theorem op_mulB {X : Cx} : OpR X (binaryOp .Mult) (rI (fun i j => CMul i j ∨ (i.natAbs < 2 ^ 1000 ∧ j.natAbs < 2 ^ 1000)) fun i j => .int (i * j)) := opI fun _ _ _ _ _ _ _ hc q => mul_int q (by
  rcases hc with hc | hc
  · exact hc.ok
  · exact .of_bits (Nat.le_trans (PyProof.Rows.intBits_le hc.1) (by decide)) (Nat.le_trans (PyProof.Rows.intBits_le hc.2) (by decide)))
theorem op_mulS {X : Cx} : OpR X (binaryOp .Mult) (fun x y H Q => ∃ a j, x = .str a ∧ y = .int j ∧ 0 ≤ j ∧ j ≤ 1000 ∧ a.length ≤ 1000 ∧ Q (.str (strRep a j)) H) := by
  intro pins s σ H x y v u Q I rx ry h
  obtain ⟨a, j, rfl, rfl, h0, h1, hz, q⟩ := h
  obtain ⟨t, rfl⟩ := rx
  obtain ⟨t', rfl⟩ := ry
  have sz : sizeLine = 16777216 := sizeLine_eq
  have hl := strRep_length (a := a) h0
  have hm : a.length * j.toNat ≤ 1000 * 1000 := Nat.mul_le_mul hz (by omega)
  refine PySem.P.mul_str ?_ ?_ ?_ ?_
  · have e1 : decide (j < -(2 ^ 63 : Int)) = false := decide_eq_false (by omega)
    have e2 : decide (j ≥ 2 ^ 63) = false := decide_eq_false (by omega)
    rw [e1, e2, Bool.or_false]
  · intro n1 _ hg
    have : (9223372036854775 : Int) ≤ (2 ^ 63 - 1) / j := Int.le_ediv_of_mul_le (by omega) (by omega)
    omega
  · intro n1 _
    unfold Builtin.Str.tooLong
    exact decide_eq_false (by omega)
  · unfold strRep at q hl
    split
    · rename_i h2
      rw [if_pos h2] at q hl
      exact ⟨by omega, ⟨.str _, H, I.tok _, ⟨_, rfl⟩, q⟩⟩
    · rename_i h2
      rw [if_neg h2] at q hl
      split
      · rename_i h3
        rw [if_pos h3] at q
        exact ⟨.str _, H, I, ⟨_, rfl⟩, q⟩
      · rename_i h3
        rw [if_neg h3] at q hl
        exact ⟨by omega, ⟨.str _, H, I.tok _, ⟨_, rfl⟩, q⟩⟩
theorem op_bin {X : Cx} (op : Bo) : OpR X (binaryOp op.op) (rD X.K (binop op)) := by
  intro pins s σ H vx vy ux uy Q I rx ry h
  obtain ⟨ι, st, dx, dy, S, hx, hy, P⟩ := h
  have sz : sizeLine = 16777216 := sizeLine_eq
  unfold binop at P
  split at P
  · cases hx; cases hy
    exact op_add pins s σ H _ _ _ _ Q I rx ry ⟨_, _, rfl, rfl, P.same S (.int _)⟩
  · split at P
    · cases hx; cases hy
      exact op_add_str pins s σ H _ _ _ _ Q I rx ry ⟨_, _, rfl, rfl, by omega, P.same S (.str _)⟩
    · exact False.elim P
  · split at P
    · rename_i hl
      cases hx with
      | tup ha ra =>
        cases hy with
        | tup hb rb =>
          have l1 := ra.length
          have l2 := rb.length
          refine op_catT pins s σ H _ _ _ _ Q I rx ry ⟨_, _, _, _, rfl, rfl, ha, hb, ?_, by omega, fun e => ?_, fun e => P.tup S (ra.append rb)⟩
          · intro z; rw [z] at l1; simp at l1
          · subst e
            cases rb
            rw [List.append_nil] at P
            exact P.same S (.tup ha ra)
    · exact False.elim P
  · cases hx with
    | tup ha ra =>
      cases hy with
      | tup hb rb =>
        cases ra
        cases rx
        cases ry
        obtain ⟨its, r1, p1, _⟩ := I.tuple ha
        obtain ⟨its2, r2, p2, _⟩ := I.tuple hb
        cases r1
        exact cat_tup0 p1 p2 ⟨.ref _, H, I, rfl, P.same S (.tup hb rb)⟩
  · split at P
    · rename_i m n _ _ as bs e1 e2
      split at P
      · rename_i hl
        cases hx with
        | ref h1 =>
          cases hy with
          | ref h2 =>
            obtain ⟨v1, g1, r1⟩ := S.ob _ _ e1
            obtain ⟨v2, g2, r2⟩ := S.ob _ _ e2
            have l1 := r1.length
            have l2 := r2.length
            exact op_cat pins s σ H _ _ _ _ Q I rx ry ⟨_, _, _, _, rfl, rfl, g1, g2, by omega, P.alloc S (r1.append r2)⟩
      · exact False.elim P
    · exact False.elim P
  · cases hx; cases hy
    exact op_sub pins s σ H _ _ _ _ Q I rx ry ⟨_, _, rfl, rfl, P.same S (.int _)⟩
  · split at P
    · rename_i hc
      cases hx; cases hy
      exact op_mulB pins s σ H _ _ _ _ Q I rx ry ⟨_, _, rfl, rfl, hc, P.same S (.int _)⟩
    · exact False.elim P
  · split at P
    · rename_i m j _ as e1
      split at P
      · rename_i hl
        cases hx with
        | ref h1 =>
          cases hy
          obtain ⟨v1, g1, r1⟩ := S.ob _ _ e1
          have l1 := r1.length
          have hj : v1.length * j.toNat ≤ 1000 * 1000 := Nat.mul_le_mul (by omega) (by omega)
          exact op_rep pins s σ H _ _ _ _ Q I rx ry ⟨_, _, _, rfl, rfl, g1, by omega, by omega, by omega, P.alloc S (flat_rep r1 _)⟩
      · exact False.elim P
    · exact False.elim P
  · split at P
    · rename_i hc
      cases hx; cases hy
      exact op_mulS pins s σ H _ _ _ _ Q I rx ry ⟨_, _, rfl, rfl, hc.1, hc.2.1, hc.2.2, P.same S (.str _)⟩
    · exact False.elim P
  · split at P
    · rename_i hc
      cases hx; cases hy
      exact op_fdivB pins s σ H _ _ _ _ Q I rx ry ⟨_, _, rfl, rfl, hc, P.same S (.int _)⟩
    · exact False.elim P
  · split at P
    · rename_i hc
      cases hx; cases hy
      exact op_modN pins s σ H _ _ _ _ Q I rx ry ⟨_, _, rfl, rfl, hc, P.same S (.int _)⟩
    · exact False.elim P
  · split at P
    · rename_i hc
      cases hx; cases hy
      exact op_pow pins s σ H _ _ _ _ Q I rx ry ⟨_, _, rfl, rfl, ⟨hc.1, by omega, by omega⟩, P.same S (.int _)⟩
    · exact False.elim P
  · exact False.elim P
open Classical in
noncomputable def eAt (K : PySem.W.Frag) (H : Hp) (ι : Nat → Addr) (st : Sto) (x : D) (z : Value) : Bool := if h : ∃ d, At K H ι st.length d z then (eqD 60 st h.choose x).getD false else false
theorem eAt_of {X : Cx} {pins : List (Addr × Obj)} {σ : L2.St} {H : Hp} {s : Shared} {ι : Nat → Addr} {st : Sto} (I : Inv X pins σ H s) (S : Sim X.K H ι st) {x y : D} {u : Value} (h : At X.K H ι st.length y u) : eAt X.K H ι st x u = (eqD 60 st y x).getD false := by
  unfold eAt
  have h' : ∃ d, At X.K H ι st.length d u := ⟨y, h⟩
  rw [dif_pos h', h'.choose_spec.uniq I S h]
theorem any_at {X : Cx} {pins : List (Addr × Obj)} {σ : L2.St} {H : Hp} {s : Shared} {ι : Nat → Addr} {st : Sto} (I : Inv X pins σ H s) (S : Sim X.K H ι st) {x : D} {ux : Value} {A : Around} (hx : At X.K H ι st.length x ux) (hu : A.units + 60 < cLine) :
    ∀ {ys : List D} {us : List Value} {k : Bool}, anyEq st x ys = some k → Ats X.K H ι st.length ys us → (∀ u ∈ us, SeqAt.EqAt A s u ux (eAt X.K H ι st x u)) ∧ us.any (eAt X.K H ι st x) = k
  | [], us, k, h, r => by
    have l := r.length
    cases us with
    | cons _ _ => simp at l
    | nil => exact ⟨fun u hu => (by cases hu), Option.some.inj h⟩
  | y :: ys, us, k, h, r => by
    have l := r.length
    cases us with
    | nil => simp at l
    | cons u us =>
      obtain ⟨_, r1, q1⟩ := r
      cases q1 with
      | cons w1 w2 =>
        cases r1 with
        | cons m1 m2 =>
          unfold anyEq at h
          cases e1 : eqD 60 st y x with
          | none => rw [e1] at h; simp at h
          | some a =>
            cases e2 : anyEq st x ys with
            | none => rw [e1, e2] at h; simp at h
            | some b =>
              rw [e1, e2] at h
              obtain ⟨he, hk⟩ := any_at I S hx hu e2 ⟨_, m2, w2⟩
              obtain ⟨_, _, hE⟩ := eqAt_D I S 60 (A := A) e1 ⟨_, m1, w1⟩ hx hu
              have ea : eAt X.K H ι st x u = a := by rw [eAt_of I S ⟨_, m1, w1⟩, e1]; rfl
              refine ⟨fun z hz => ?_, ?_⟩
              · rcases List.mem_cons.mp hz with rfl | hz
                · rw [ea]; exact hE
                · exact he z hz
              · rw [List.any_cons, ea, hk]
                exact Option.some.inj h
theorem DRels.look {K : PySem.W.Frag} {H : Hp} {ι : Nat → Addr} {m : Nat} {k : Str} {kvs : List (Str × D)} {vs : List (Key × V)} (h : DRels K H ι m kvs vs) :
    (match kvs.lookup k with | some d => ∃ v, valV vs (Sum.inr k : Key) = some v ∧ VRel K H ι m d v | none => valV vs (Sum.inr k : Key) = none) := by
  induction h with
  | nil => exact valV_nil
  | @cons k' d v ds vs hv t ih =>
    cases hk : k == k' with
    | true =>
      have e : k = k' := by simpa using hk
      subst e
      rw [List.lookup_cons, hk]
      exact ⟨v, valV_pos rfl, hv⟩
    | false =>
      have ne : ¬ (Sum.inr k' : Key) = Sum.inr k := fun z => by
        have := Sum.inr.inj z
        rw [this] at hk
        simp at hk
      rw [List.lookup_cons, hk, valV_neg (p := ((Sum.inr k' : Key), v)) (r := vs) ne]
      exact ih
theorem dictIn_at {K : PySem.W.Frag} {H : Hp} {ι : Nat → Addr} {st : Sto} {x y : D} {k : Bool} {vx vy : V} (S : Sim K H ι st) (e : dictIn st x y = some k) (hx : VRel K H ι st.length x vx) (hy : VRel K H ι st.length y vy) : ∃ a o, vy = .ref a ∧ DGet H a vx o ∧ o.isSome = k := by
  unfold dictIn at e
  split at e
  · rename_i s n
    split at e
    · rename_i kvs q
      have e := Option.some.inj e
      subst e
      cases hx
      cases hy
      obtain ⟨vs, h1, r⟩ := S.ob _ _ q
      refine ⟨_, _, rfl, DGet.k (k := Sum.inr s) h1, ?_⟩
      have l := r.look (k := s)
      cases q2 : kvs.lookup s with
      | none => rw [q2] at l; rw [show valV vs (Sum.inr s) = none from l]; rfl
      | some d => rw [q2] at l; obtain ⟨v, l, _⟩ := l; rw [show valV vs (Sum.inr s) = some v from l]; rfl
    · cases e
  · cases e
theorem isD_at {K : PySem.W.Frag} {H : Hp} {ι : Nat → Addr} {m : Nat} {x y : D} {k : Bool} {vx vy : V} {ux uy : Value} (e : isD x y = some k) (hx : VRel K H ι m x vx) (hy : VRel K H ι m y vy) (rx : RelV vx ux) (ry : RelV vy uy) : plainIs ux uy = true ∧ (ux == uy) = k := by
  unfold isD at e
  split at e
  · cases hy
    cases ry
    have e := Option.some.inj e
    subst e
    cases hx with
    | non => cases rx; exact ⟨rfl, rfl⟩
    | bl b => cases rx; exact ⟨rfl, rfl⟩
    | int i => obtain ⟨t, rfl⟩ := rx; exact ⟨rfl, rfl⟩
    | str i => obtain ⟨t, rfl⟩ := rx; exact ⟨rfl, rfl⟩
    | tup _ _ => cases rx; exact ⟨rfl, rfl⟩
    | fl _ _ => cases rx; exact ⟨rfl, rfl⟩
    | ref _ => cases rx; exact ⟨rfl, rfl⟩
  · cases hy
    cases ry
    have e := Option.some.inj e
    subst e
    cases hx with
    | non => cases rx; exact ⟨rfl, rfl⟩
    | bl b =>
      cases rx
      refine ⟨rfl, ?_⟩
      rename_i c
      cases b <;> cases c <;> decide
    | int i => obtain ⟨t, rfl⟩ := rx; exact ⟨rfl, rfl⟩
    | str i => obtain ⟨t, rfl⟩ := rx; exact ⟨rfl, rfl⟩
    | tup _ _ => cases rx; exact ⟨rfl, rfl⟩
    | fl _ _ => cases rx; exact ⟨rfl, rfl⟩
    | ref _ => cases rx; exact ⟨rfl, rfl⟩
  · cases e
theorem op_cmp {X : Cx} (hu : X.A.units + 100 < cLine) (op : CmpOp) : OpR X (compareOp op) (rD X.K (cmpop op)) := by
  intro pins s σ H vx vy ux uy Q I rx ry h
  obtain ⟨ι, st, dx, dy, S, hx, hy, P⟩ := h
  have ax : At X.K H ι st.length dx ux := ⟨_, hx, rx⟩
  have ay : At X.K H ι st.length dy uy := ⟨_, hy, ry⟩
  unfold cmpop at P
  split at P
  · split at P
    · rename_i k e
      obtain ⟨h1, _, _⟩ := eqAt_D I S 60 (A := X.A) e ax ay (by omega)
      exact h1 _ _ _ _ ⟨.bl k, H, I, rfl, P.same S (.bl k)⟩
    · exact False.elim P
  · split at P
    · rename_i k e
      obtain ⟨_, h1, _⟩ := eqAt_D I S 60 (A := X.A) e ax ay (by omega)
      exact h1 _ _ _ _ ⟨.bl (!k), H, I, rfl, P.same S (.bl (!k))⟩
    · exact False.elim P
  · split at P
    · cases hx; cases hy
      exact op_lt pins s σ H _ _ _ _ Q I rx ry ⟨_, _, rfl, rfl, P.same S (.bl _)⟩
    · exact False.elim P
  · split at P
    · cases hx; cases hy
      exact op_le pins s σ H _ _ _ _ Q I rx ry ⟨_, _, rfl, rfl, P.same S (.bl _)⟩
    · cases hx; cases hy
      exact op_le_str pins s σ H _ _ _ _ Q I rx ry ⟨_, _, rfl, rfl, P.same S (.bl _)⟩
    · exact False.elim P
  · split at P
    · cases hx; cases hy
      exact op_gt pins s σ H _ _ _ _ Q I rx ry ⟨_, _, rfl, rfl, P.same S (.bl _)⟩
    · exact False.elim P
  · split at P
    · cases hx; cases hy
      exact op_ge pins s σ H _ _ _ _ Q I rx ry ⟨_, _, rfl, rfl, P.same S (.bl _)⟩
    · exact False.elim P
  · split at P
    · rename_i ys es
      split at P
      · rename_i k ek
        obtain ⟨a, vs, rfl, hq, rv⟩ := hy.seq S es
        cases ry
        rcases hq with hq | hq
        · obtain ⟨its, r', pl, hz⟩ := I.list hq
          obtain ⟨hE, hk⟩ := any_at I S (A := X.A.in1) ax (by show X.A.units + 1 + 60 < cLine; omega) ek ⟨_, rv, r'⟩
          refine SeqAt.in_listAt _ pl.isList (fun w hw => hE w (by simpa using hw)) ⟨.bl _, H, I, rfl, ?_⟩
          rw [show its.toArray.any (eAt X.K H ι st dx) = its.any (eAt X.K H ι st dx) by simp, hk]
          exact P.same S (.bl k)
        · obtain ⟨its, r', pl, hz⟩ := I.tuple hq
          obtain ⟨hE, hk⟩ := any_at I S (A := X.A.in1) ax (by show X.A.units + 1 + 60 < cLine; omega) ek ⟨_, rv, r'⟩
          refine SeqAt.in_tupleAt _ pl (fun w hw => hE w (by simpa using hw)) ⟨.bl _, H, I, rfl, ?_⟩
          rw [show its.toArray.any (eAt X.K H ι st dx) = its.any (eAt X.K H ι st dx) by simp, hk]
          exact P.same S (.bl k)
      · exact False.elim P
    · split at P
      · rename_i k ek
        obtain ⟨a, o, rfl, g, ho⟩ := dictIn_at S ek hx hy
        cases ry
        refine d_in (by omega) I g rx fun s' I' => ⟨.bl k, H, I', by rw [ho]; rfl, P.same S (.bl k)⟩
      · split at P
        · rename_i k ek
          unfold txtIn at ek
          split at ek
          · cases ek
            cases hx; cases hy
            exact op_in_str pins s σ H _ _ _ _ Q I rx ry ⟨_, _, rfl, rfl, P.same S (.bl _)⟩
          · cases ek
        · exact False.elim P
  · split at P
    · rename_i ys es
      split at P
      · rename_i k ek
        obtain ⟨a, vs, rfl, hq, rv⟩ := hy.seq S es
        cases ry
        rcases hq with hq | hq
        · obtain ⟨its, r', pl, hz⟩ := I.list hq
          obtain ⟨hE, hk⟩ := any_at I S (A := X.A.in1) ax (by show X.A.units + 1 + 60 < cLine; omega) ek ⟨_, rv, r'⟩
          refine SeqAt.notIn_listAt _ pl.isList (fun w hw => hE w (by simpa using hw)) ⟨.bl _, H, I, rfl, ?_⟩
          rw [show its.toArray.any (eAt X.K H ι st dx) = its.any (eAt X.K H ι st dx) by simp, hk]
          exact P.same S (.bl (!k))
        · obtain ⟨its, r', pl, hz⟩ := I.tuple hq
          obtain ⟨hE, hk⟩ := any_at I S (A := X.A.in1) ax (by show X.A.units + 1 + 60 < cLine; omega) ek ⟨_, rv, r'⟩
          refine SeqAt.notIn_tupleAt _ pl (fun w hw => hE w (by simpa using hw)) ⟨.bl _, H, I, rfl, ?_⟩
          rw [show its.toArray.any (eAt X.K H ι st dx) = its.any (eAt X.K H ι st dx) by simp, hk]
          exact P.same S (.bl (!k))
      · exact False.elim P
    · split at P
      · rename_i k ek
        obtain ⟨a, o, rfl, g, ho⟩ := dictIn_at S ek hx hy
        cases ry
        refine d_notIn (by omega) I g rx fun s' I' => ⟨.bl (!k), H, I', by rw [ho]; rfl, P.same S (.bl (!k))⟩
      · exact False.elim P
  · split at P
    · rename_i k e
      obtain ⟨h1, h2⟩ := isD_at e hx hy rx ry
      exact wpAny_is_plain h1 ⟨.bl k, H, I, by rw [h2]; rfl, P.same S (.bl k)⟩
    · exact False.elim P
  · split at P
    · rename_i k e
      obtain ⟨h1, h2⟩ := isD_at e hx hy rx ry
      exact wpAny_isNot_plain h1 ⟨.bl (!k), H, I, by rw [h2]; rfl, P.same S (.bl (!k))⟩
    · exact False.elim P
theorem atI_rel {K : PySem.W.Frag} {H : Hp} {ι : Nat → Addr} {m : Nat} {ds : List D} {vs : List V} {i : Int} {d : D} (r : VRels K H ι m ds vs) (e : atI ds i = some d) : ∃ v, atI vs i = some v ∧ VRel K H ι m d v := by
  unfold atI at e ⊢
  rw [← r.length]
  cases q : ixN ds.length i with
  | none => rw [q] at e; cases e
  | some j =>
    rw [q] at e
    exact r.get e
theorem ix_D {X : Cx} (hu : X.A.units + 100 < cLine) : IxR X (rD X.K index) := by
  intro value slice pins s σ H vx vy ux uy Q I rx ry h hs
  obtain ⟨ι, st, dx, dy, S, hx, hy, P⟩ := h
  have sz : sizeLine = 16777216 := sizeLine_eq
  unfold index at P
  split at P
  · split at P
    · split at P
      · rename_i hl c e
        cases hx; cases hy
        exact ix_str value slice pins s σ H _ _ _ _ Q I rx ry ⟨_, _, _, rfl, rfl, by omega, e, P.same S (.str _)⟩ hs
      · exact False.elim P
    · exact False.elim P
  · split at P
    · rename_i xs es
      split at P
      · rename_i d ed
        cases hy
        obtain ⟨a, vs, rfl, hq, rv⟩ := hx.seq S es
        obtain ⟨w, ew, rw'⟩ := atI_rel rv ed
        rcases hq with hq | hq
        · exact ix_list value slice pins s σ H _ _ _ _ Q I rx ry ⟨_, _, _, _, rfl, rfl, hq, ew, P.same S rw'⟩ hs
        · exact ix_tup value slice pins s σ H _ _ _ _ Q I rx ry ⟨_, _, _, _, rfl, rfl, hq, ew, P.same S rw'⟩ hs
      · exact False.elim P
    · exact False.elim P
  · rename_i n k
    split at P
    · rename_i kvs e1
      split at P
      · rename_i d ek
        cases hx
        cases hy
        cases rx
        obtain ⟨vs, h1, r⟩ := S.ob _ _ e1
        have l := r.look (k := k)
        rw [ek] at l
        obtain ⟨w, ew, rw'⟩ := l
        have g : DGet H (ι n) (.str k) (some w) := by rw [← ew]; exact DGet.k (k := Sum.inr k) h1
        exact tail_any (dict_typeIs I g) PySem.F.slot_dict_getitem.lookup (d_getItem (by omega) I g ry fun w' s' I' rw2 => ⟨w, H, I', rw2, P.same S rw'⟩) hs
      · exact False.elim P
    · exact False.elim P
  · exact False.elim P
end Ev
set_option Elab.async false
set_option linter.all false
set_option maxRecDepth 100000
set_option maxHeartbeats 4000000
namespace Ev
open PySem PySem.Spec PyProof.Rows L2
noncomputable def Ty.name : Ty → String
  | .int => "int"
  | .bool => "bool"
  | .str => "str"
  | .list => "list"
  | .tuple => "tuple"
  | .dict => "dict"
theorem isi_ok {X : Cx} {pins : List (Addr × Obj)} {σ : L2.St} {H : Hp} {s : Shared} {ι : Nat → Addr} {st : Sto} {d : D} {v : V} {u : Value} {t : Ty} {k : Bool} {Q : VK} (I : Inv X pins σ H s) (S : Sim X.K H ι st) (hv : VRel X.K H ι st.length d v) (r : RelV v u)
    (e : isiD st t d = some k) (q : Q (.bl k) H) : wpAny (model X.prog X.w) X.A (call (.builtin "isinstance") [u, .type t.name]) (EP X pins σ Q) X.xe s := by
  have fin : ∀ tk, EP X pins σ Q (.bool k) { s with toks := tk } := fun tk => ⟨.bl k, H, I.tok _, rfl, q⟩
  have fin0 : EP X pins σ Q (.bool k) s := ⟨.bl k, H, I, rfl, q⟩
  cases hv with
  | non =>
    cases r
    cases e
    cases t
    · exact call_isinstance (isinstance_false_none (by decide +kernel) F.isi_meta_int F.sub_NoneType_int) (fin _)
    · exact call_isinstance (isinstance_false_none (by decide +kernel) F.isi_meta_bool F.sub_NoneType_bool) (fin _)
    · exact call_isinstance (isinstance_false_none (by decide +kernel) F.isi_meta_str F.sub_NoneType_str) (fin _)
    · exact call_isinstance (isinstance_false_none (by decide +kernel) F.isi_meta_list F.sub_NoneType_list) (fin _)
    · exact call_isinstance (isinstance_false_none (by decide +kernel) F.isi_meta_tuple F.sub_NoneType_tuple) (fin _)
    · exact call_isinstance (isinstance_false_none (by decide +kernel) F.isi_meta_dict F.sub_NoneType_dict) (fin _)
  | bl b =>
    cases r
    cases t
    · cases e; exact IsiPair.bool_int fin0
    · cases e; exact IsiPair.bool_bool fin0
    · cases e; exact IsiPair.bool_str (fin _)
    · cases e; exact IsiPair.bool_list (fin _)
    · cases e; exact IsiPair.bool_tuple (fin _)
    · cases e; exact IsiPair.bool_dict (fin _)
  | int i =>
    obtain ⟨tk, rfl⟩ := r
    cases t
    · cases e; exact IsiPair.int_int fin0
    · cases e; exact IsiPair.int_bool (fin _)
    · cases e; exact IsiPair.int_str (fin _)
    · cases e; exact IsiPair.int_list (fin _)
    · cases e; exact IsiPair.int_tuple (fin _)
    · cases e; exact IsiPair.int_dict (fin _)
  | str x =>
    obtain ⟨tk, rfl⟩ := r
    cases t
    · cases e; exact IsiPair.str_int (fin _)
    · cases e; exact IsiPair.str_bool (fin _)
    · cases e; exact IsiPair.str_str fin0
    · cases e; exact IsiPair.str_list (fin _)
    · cases e; exact IsiPair.str_tuple (fin _)
    · cases e; exact IsiPair.str_dict (fin _)
  | tup h _ =>
    cases r
    obtain ⟨_, _, ⟨o, h1, h2, _⟩, _⟩ := I.tuple h
    cases t
    · cases e; exact IsiPair.tuple_int h1 h2 (fin _)
    · cases e; exact IsiPair.tuple_bool h1 h2 (fin _)
    · cases e; exact IsiPair.tuple_str h1 h2 (fin _)
    · cases e; exact IsiPair.tuple_list h1 h2 (fin _)
    · cases e; exact IsiPair.tuple_tuple h1 h2 fin0
    · cases e; exact IsiPair.tuple_dict h1 h2 (fin _)
  | fl h _ =>
    cases r
    obtain ⟨_, _, p, _⟩ := I.list h.sql
    obtain ⟨o, h1, h2, _⟩ := p.isList
    cases t
    · cases e; exact IsiPair.list_int h1 h2 (fin _)
    · cases e; exact IsiPair.list_bool h1 h2 (fin _)
    · cases e; exact IsiPair.list_str h1 h2 (fin _)
    · cases e; exact IsiPair.list_list h1 h2 fin0
    · cases e; exact IsiPair.list_tuple h1 h2 (fin _)
    · cases e; exact IsiPair.list_dict h1 h2 (fin _)
  | @ref n hn =>
    cases r
    simp only [isiD] at e
    cases q' : st[n]? with
    | none => rw [q'] at e; cases e
    | some ob =>
      rw [q'] at e
      have ho := S.ob n ob q'
      cases ob with
      | lst xs =>
        obtain ⟨vs, g1, g2⟩ := ho
        obtain ⟨_, _, p, _⟩ := I.list (SqL.of g1)
        obtain ⟨o, h1, h2, _⟩ := p.isList
        cases t
        · cases e; exact IsiPair.list_int h1 h2 (fin _)
        · cases e; exact IsiPair.list_bool h1 h2 (fin _)
        · cases e; exact IsiPair.list_str h1 h2 (fin _)
        · cases e; exact IsiPair.list_list h1 h2 fin0
        · cases e; exact IsiPair.list_tuple h1 h2 (fin _)
        · cases e; exact IsiPair.list_dict h1 h2 (fin _)
      | dct kvs =>
        obtain ⟨ws, ho, _⟩ := ho
        obtain ⟨_, _, _, _, o, es, ep, h1, h2, _⟩ := (show ObjOk X.prog X.w H s.heap (ι n) (.dK ws) from I.hok _ _ ho)
        cases t
        · cases e; exact IsiPair.dict_int h1 h2.1 (fin _)
        · cases e; exact IsiPair.dict_bool h1 h2.1 (fin _)
        · cases e; exact IsiPair.dict_str h1 h2.1 (fin _)
        · cases e; exact IsiPair.dict_list h1 h2.1 (fin _)
        · cases e; exact IsiPair.dict_tuple h1 h2.1 (fin _)
        · cases e; exact IsiPair.dict_dict h1 h2.1 fin0
      | err _ _ _ => cases e
      | edc _ => cases e
theorem cut_rel {K : PySem.W.Frag} {H : Hp} {ι : Nat → Addr} {m : Nat} {ds : List D} {vs : List V} (r : VRels K H ι m ds vs) (lo hi : Option Int) : VRels K H ι m (cutD ds lo hi) (cutV vs lo hi) := by
  unfold cutD cutV
  rw [← r.length]
  exact (r.drop _).take _
theorem sl_D {X : Cx} : SlR X (fun vx lo hi H Q => ∃ ι st dx, Sim X.K H ι st ∧ VRel X.K H ι st.length dx vx ∧ Post X.K H ι st (slice dx lo hi st) Q) := by
  intro pins s σ H x v vl vu lo hi sl Q I rx hs pl pu h
  obtain ⟨ι, st, dx, S, hx, P⟩ := h
  have sz : sizeLine = 16777216 := sizeLine_eq
  unfold slice at P
  split at P
  · split at P
    · cases hx
      exact sl_str pins s σ H _ v vl vu lo hi sl Q I rx hs pl pu ⟨_, rfl, by omega, P.same S (.str _)⟩
    · exact False.elim P
  · split at P
    · exact False.elim P
    · rename_i hw
      cases hx with
      | tup ha ra =>
        exact sl_tup pins s σ H _ v vl vu lo hi sl Q I rx hs pl pu ⟨_, _, rfl, ha, by rw [← ra.length]; exact hw, P.tup S (cut_rel ra lo hi)⟩
  · split at P
    · rename_i xs es
      obtain ⟨a, vs, rfl, hq, rv⟩ := hx.seq S es
      rcases hq with hq | hq
      · exact sl_list pins s σ H _ v vl vu lo hi sl Q I rx hs pl pu ⟨_, _, rfl, hq, P.alloc S (cut_rel rv lo hi)⟩
      · exfalso
        cases hx with
        | tup _ _ => simp_all
        | fl h _ => exact seq_ne I hq h.sql
        | ref h =>
          obtain ⟨u, e', n1, n2⟩ := S.obj h; rcases tup_obj I hq with ⟨_, e⟩ | ⟨_, _, e⟩ | e <;> rw [e] at e' <;> first | (cases e'; done) | (cases e'; exact absurd rfl (n1 _)) | (cases e'; exact absurd rfl (n2 _ _))
    · exact False.elim P
noncomputable def rB (K : PySem.W.Frag) (f : Bt) : List V → Hp → VK → Prop := fun vs H Q => ∃ ι st ds, Sim K H ι st ∧ VRels K H ι st.length ds vs ∧ Post K H ι st (btin f ds st) Q
noncomputable def Bt.val : Bt → Value
  | .len => .builtin "len"
  | .list => .type "list"
  | .tuple => .type "tuple"
  | .int => .type "int"
  | .abs => .builtin "abs"
  | .all => .builtin "all"
  | .max => .builtin "max"
  | .min => .builtin "min"
theorem allB_at {K : PySem.W.Frag} {H : Hp} {ι : Nat → Addr} {m : Nat} : ∀ {ds : List D} {vs : List V} {us : List Value} {k : Bool}, allB ds = some k → VRels K H ι m ds vs → Vals vs us → ∃ tr : Nat → Bool, (∀ (i : Nat) (u : Value), us[i]? = some u → u = Value.bool (tr i)) ∧ (List.range us.length).all tr = k
  | [], _, _, k, e, r, q => by
    cases r; cases q
    exact ⟨fun _ => true, fun i u h => by simp at h, Option.some.inj e⟩
  | d :: ds, _, _, k, e, r, q => by
    cases r with
    | cons r1 r2 =>
      cases q with
      | cons q1 q2 =>
        cases r1 with
        | bl b =>
          simp only [allB] at e
          cases e1 : allB ds with
          | none => rw [e1] at e; cases e
          | some k' =>
            rw [e1] at e
            obtain ⟨tr, h1, h2⟩ := allB_at e1 r2 q2
            cases q1
            refine ⟨fun j => match j with | 0 => b | j + 1 => tr j, fun i u h => ?_, ?_⟩
            · cases i with
              | zero => simp at h; exact h.symm
              | succ i => exact h1 i u (by simpa using h)
            · rw [List.length_cons]
              refine (show _ = _ from all_cons (e := tr) (x := b)).trans ?_
              rw [h2]
              exact Option.some.inj e
        | _ => cases e
theorem call_all_D {X : Cx} (hc : X.calm = true) : CallR X (.builtin "all") (fun xs H Q => ∃ a vs us k, xs = [.ref a] ∧ SqL X.K H a vs ∧ (∀ its, Vals vs its → ∃ tr : Nat → Bool, (∀ (i : Nat) (u : Value), its[i]? = some u → u = Value.bool (tr i)) ∧ (List.range its.length).all tr = k) ∧ us = k ∧ Q (.bl k) H) := by
  intro pins s σ H xs us Q I r h
  obtain ⟨a, vs, _, k, rfl, hq, htr, _, q⟩ := h
  obtain ⟨u, rfl, rx⟩ := vals1 r
  cases rx
  obtain ⟨its, r', pl, hz⟩ := I.list hq
  obtain ⟨tr, h1, h2⟩ := htr its r'
  have hlt : a < s.heap.objs.size := by obtain ⟨_, e, _⟩ := pl.isList; exact Heap.lt_size e
  refine call_all_walk (wpAny_pyIter_list pl.isList ?_)
  refine ⟨s.heap.objs.size, _, _, _, _, _, tr, rfl, Walks.list (A := X.A.in1) (I.ok.hd hc) s.heap.objs.size a (Nat.ne_of_lt hlt) its.toArray, ⟨⟨_, Heap.get?_push_size _ rfl, rfl, rfl⟩, pl.isList.push _⟩, fun i v s' Q' E' hP hQ => ?_, fun h' tk hk => ?_⟩
  · rw [h1 i v (by simpa using hP)]
    exact wpAny_truthy_bool hQ
  · rw [List.size_toArray, h2]
    refine ⟨.bl k, H, ?_, rfl, q⟩
    have I1 : Inv X pins σ H { s with heap := s.heap.push { cls := .type "list_iterator", data := .fields #[.ref a, .int 0 0] } } := I.kept (t' := s.toks) fun b o e => Heap.get?_push_of_some _ e
    refine I.kept (t' := tk) fun b o e => hk b o (fun z => ?_) (Heap.get?_push_of_some _ e)
    have zb : b = s.heap.objs.size := by simpa using z
    rw [zb] at e
    exact absurd (Heap.lt_size e) (Nat.lt_irrefl _)
theorem call_D {X : Cx} (hc : X.calm = true) (f : Bt) : CallR X f.val (rB X.K f) := by
  intro pins s σ H xs us Q I r h
  obtain ⟨ι, st, ds, S, rv, P⟩ := h
  have sz : sizeLine = 16777216 := sizeLine_eq
  unfold btin at P
  split at P
  · split at P
    · obtain ⟨v, rfl, hv⟩ := rv.inv1
      cases hv
      exact call_len_str pins s σ H _ us Q I r ⟨_, rfl, by omega, P.same S (.int _)⟩
    · exact False.elim P
  · split at P
    · rename_i hx ys es
      obtain ⟨v, rfl, hv⟩ := rv.inv1
      obtain ⟨a, vs, rfl, hq, rr⟩ := hv.seq S es
      exact call_len_seq pins s σ H _ us Q I r ⟨_, _, rfl, hq, by rw [← rr.length]; exact P.same S (.int _)⟩
    · exact False.elim P
  · split at P
    · rename_i ys es
      obtain ⟨v, rfl, hv⟩ := rv.inv1
      obtain ⟨a, vs, rfl, hq, rr⟩ := hv.seq S es
      exact call_list_of pins s σ H _ us Q I r ⟨_, _, rfl, hq, P.alloc S rr⟩
    · exact False.elim P
  · obtain ⟨v, rfl, hv⟩ := rv.inv1
    cases hv with
    | tup h rr => exact call_tuple_of pins s σ H _ us Q I r ⟨_, _, rfl, .inr ⟨h, P.same S (.tup h rr)⟩⟩
  · split at P
    · rename_i hnt ys es
      obtain ⟨v, rfl, hv⟩ := rv.inv1
      obtain ⟨a, vs, rfl, hq, rr⟩ := hv.seq S es
      rcases hq with hq | hq
      · exact call_tuple_of pins s σ H _ us Q I r ⟨_, _, rfl, .inl ⟨hq, P.tup S rr⟩⟩
      · exact call_tuple_of pins s σ H _ us Q I r ⟨_, _, rfl, .inr ⟨hq, P.same S (.tup hq rr)⟩⟩
    · exact False.elim P
  · obtain ⟨v, rfl, hv⟩ := rv.inv1
    cases hv
    exact call_int1 pins s σ H _ us Q I r (.inl ⟨_, rfl, P.same S (.int _)⟩)
  · obtain ⟨v, rfl, hv⟩ := rv.inv1
    cases hv
    exact call_int1 pins s σ H _ us Q I r (.inr ⟨_, rfl, P.same S (.int _)⟩)
  · split at P
    · rename_i n ys es
      split at P
      · rename_i k ek
        obtain ⟨v, rfl, hv⟩ := rv.inv1
        cases hv with
        | ref hn =>
          obtain ⟨vs, g1, g2⟩ := S.ob _ _ es
          exact call_all_D hc pins s σ H _ us Q I r ⟨_, _, _, k, rfl, SqL.of g1, fun its q => allB_at ek g2 q, rfl, P.same S (.bl k)⟩
      · exact False.elim P
    · exact False.elim P
  · obtain ⟨v, rfl, hv⟩ := rv.inv1
    cases hv
    exact call_abs pins s σ H _ us Q I r ⟨_, rfl, P.same S (.int _)⟩
  · cases rv with
    | cons h1 t => cases t with
      | cons h2 t => cases t; cases h1; cases h2; exact call_max2 hc pins s σ H _ us Q I r ⟨_, _, rfl, P.same S (.int _)⟩
  · cases rv with
    | cons h1 t => cases t with
      | cons h2 t => cases t; cases h1; cases h2; exact call_min2 hc pins s σ H _ us Q I r ⟨_, _, rfl, P.same S (.int _)⟩
  · exact False.elim P
end Ev
set_option Elab.async false
set_option linter.all false
set_option maxRecDepth 100000
set_option maxHeartbeats 4000000
namespace Ev
open PySem PySem.Spec PyProof.Rows L2
structure Tab where
  fns : List Str
  csts : List (Str × D)
  cls : List (Str × List Str)
  cats : List Str
  ini : List (Str × Nat)
  flds : List Str
  calm : Bool
  rz : Bool
noncomputable def Tab.yes (T : Tab) (ts : List Str) : List Str := (T.cls.filter fun p => ts.any fun t => p.2.contains t).map (·.1)
noncomputable def Tab.no (T : Tab) (ts : List Str) : List Str := (T.cls.filter fun p => !(ts.any fun t => p.2.contains t)).map (·.1)
noncomputable def ixOf : List Str → Str → Option Nat
  | [], _ => none
  | y :: r, x => if y = x then some 0 else (ixOf r x).map (· + 1)
theorem ixOf_get : ∀ {N : List Str} {x : Str} {i : Nat}, ixOf N x = some i → N[i]? = some x
  | [], _, _, h => by cases h
  | y :: r, x, i, h => by
    unfold ixOf at h
    split at h
    · rename_i e; cases h; rw [e]; rfl
    · cases q : ixOf r x with
      | none => rw [q] at h; cases h
      | some j =>
        rw [q] at h
        have : j + 1 = i := Option.some.inj h
        subst this
        simpa using ixOf_get q
noncomputable def btOf : List (Str × Bt) := [("len", .len), ("list", .list), ("tuple", .tuple), ("int", .int), ("abs", .abs), ("all", .all), ("max", .max), ("min", .min)]
noncomputable def tyOf : List (Str × Ty) := [("int", .int), ("bool", .bool), ("str", .str), ("list", .list), ("tuple", .tuple), ("dict", .dict)]
noncomputable def blts : List Str := ["reversed", "enumerate", "len", "list", "tuple", "int", "abs", "all", "max", "min", "bool", "str", "dict", "isinstance", "range", "ValueError"]
noncomputable def boOf : Operator → Option Bo
  | .Add => some .add
  | .Sub => some .sub
  | .Mult => some .mul
  | .FloorDiv => some .fdiv
  | .Mod => some .mod
  | .Pow => some .pow
  | _ => none
noncomputable def compOk (sc scope : Scope) (N : List Str) (x : Str) : Bool :=
  (scope.kind == .function) && (scope.names.lookup x == some .local) && !(N.contains x) && (x != "__debug__") && (x != "__classdict__") &&
  scope.names.all fun y => (y.2 != .cell) && (y.2 != .local || (scope.names.lookup y.1 == some .local && !(N.contains y.1))) && (y.2 != .free || sc.names.lookup y.1 == some .cell || sc.names.lookup y.1 == some .free)
noncomputable def compOk2 (sc scope : Scope) (N : List Str) (x y : Str) : Bool :=
  compOk sc scope N x && (scope.names.lookup y == some .local) && !(N.contains y) && (x != y) && (y != "__debug__") && (y != "__classdict__")
noncomputable def relabS (sc scope : Scope) : Scope :=
  { scope with names := scope.names.map fun (n, k) => if (k == .free && sc.kind == .function && sc.names.lookup n == some .cell) then (n, .cell) else (n, k) }
noncomputable def isGlob (sc : Scope) (x : Str) : Bool := sc.names.lookup x == some .globalImplicit
noncomputable def plainSub : Expr → Bool
  | .Slice .. => false
  | _ => true
noncomputable def dkeys : List (Option Expr) → Option (List Str)
  | [] => some []
  | some (.Constant (.str k) _ _) :: r => (dkeys r).map (k :: ·)
  | _ :: _ => none
noncomputable def nm? : Expr → Option Str
  | .Name x _ => some x
  | _ => none
theorem nm?_inv {e : Expr} {x : Str} (h : nm? e = some x) : ∃ p, e = .Name x p := by
  cases e <;> cases h
  exact ⟨_, rfl⟩
noncomputable def callN? : Expr → Option (Str × List Expr)
  | .Call f args kw _ => (match nm? f with
    | some r => (match kw with
      | [] => some (r, args)
      | _ :: _ => none)
    | none => none)
  | _ => none
theorem callN?_inv {e : Expr} {x : Str} {as : List Expr} (h : callN? e = some (x, as)) : ∃ p q, e = .Call (.Name x p) as [] q := by
  unfold callN? at h
  split at h
  · split at h
    · rename_i hr
      obtain ⟨p, rfl⟩ := nm?_inv hr
      split at h
      · cases h; exact ⟨_, _, rfl⟩
      · cases h
    · cases h
  · cases h
noncomputable def call1? (e : Expr) : Option (Str × Expr) := match callN? e with
  | some (r, as) => (match as with
    | [a] => some (r, a)
    | _ => none)
  | none => none
theorem call1?_inv {e : Expr} {x : Str} {a : Expr} (h : call1? e = some (x, a)) : ∃ p q, e = .Call (.Name x p) [a] [] q := by
  unfold call1? at h
  split at h
  · rename_i hr
    split at h
    · cases h; exact callN?_inv hr
    · cases h
  · cases h
noncomputable def isNameE : Expr → Bool
  | .Name .. => true
  | _ => false
noncomputable def isListE : Expr → Bool
  | .List .. => true
  | _ => false
noncomputable def isJoin (s : Str) : Bool := s == "join"
noncomputable def txtE : Expr → Option Str
  | .Constant (.str z) _ _ => some z
  | _ => none
theorem txtE_inv {e : Expr} {z : Str} (h : txtE e = some z) : ∃ k p, e = .Constant (.str z) k p := by
  unfold txtE at h
  split at h
  · cases h; exact ⟨_, _, rfl⟩
  · cases h
noncomputable def isIdx (s : Str) : Bool := s == "index"
noncomputable def isPop (s : Str) : Bool := s == "pop"
noncomputable def popArg : List Expr → Option Bool
  | [] => some false
  | [.Constant (.int i) _ _] => if i = 0 then some true else none
  | _ => none
noncomputable def isRev (f : Str) (args : List Expr) : Option Expr := if f = "list" then (match args with
  | [.Call (.Name r _) [a] [] _] => if r = "reversed" then some a else none
  | _ => none) else none
noncomputable def catOk (T : Tab) (sc : Scope) (t : Str) : Bool := isGlob sc t && (T.cats.contains t || t == "ValueError")
noncomputable def tnames (T : Tab) (sc : Scope) : List Expr → Option (List Str)
  | [] => some []
  | .Name t _ :: r => if isGlob sc t && T.cats.contains t then (tnames T sc r).map (t :: ·) else none
  | _ :: _ => none
mutual
noncomputable def cE (T : Tab) (n : Nat) (sc : Scope) (N : List Str) (e : Expr) : Option Ex := match n with
  | 0 => none
  | n + 1 => match e with
    | .Constant c _ _ => (match c with
      | .int i => some (.c (.int i))
      | .str s => some (.c (.str s))
      | .bool b => some (.c (.bl b))
      | .none => some (.c .non)
      | _ => none)
    | .Name x _ => match sc.names.lookup x with
      | some .local => (ixOf N x).map .v
      | some .cell => (ixOf N x).map .v
      | some .free => (ixOf N x).map .v
      | some .globalImplicit => (T.csts.lookup x).map .c
      | _ => none
    | .Tuple es _ _ => if es.length ≤ 1000 then (cEs T n sc N es).map .tup else none
    | .List es _ => if es.length ≤ 1000 then (cEs T n sc N es).map .lst else none
    | .Dict ks vs _ => (match ks with
      | [] => (match vs with
        | [] => some .emp
        | _ :: _ => none)
      | k :: ks => (match dkeys (k :: ks), cEs T n sc N vs with
        | some ks', some vs' => if ks'.length = vs.length ∧ ks'.length ≤ 15 ∧ ks'.Nodup then some (.dict ks' vs') else none
        | _, _ => none))
    | .BinOp a op b _ => match cE T n sc N a, boOf op, cE T n sc N b with
      | some a', some o, some b' => some (.bin o a' b')
      | _, _, _ => none
    | .UnaryOp op a _ => (match op with
      | .Not => (cE T n sc N a).map .not
      | .USub => (cE T n sc N a).map .neg
      | _ => none)
    | .BoolOp op es p => (match es with
      | [] => none
      | [a] => cE T n sc N a
      | a :: b :: r => (match op with
        | .And => (match cE T n sc N a, cE T n sc N (.BoolOp .And (b :: r) p) with
          | some a', some b' => some (.and a' b')
          | _, _ => none)
        | .Or => (match cE T n sc N a, cE T n sc N (.BoolOp .Or (b :: r) p) with
          | some a', some b' => some (.or a' b')
          | _, _ => none)))
    | .Compare a ops bs _ => (match ops, bs with
      | [op], [b] => (match cE T n sc N a, cE T n sc N b with
        | some a', some b' => some (.cmp op a' b')
        | _, _ => none)
      | [op, op'], [b, c] => (match cE T n sc N a, cE T n sc N b, cE T n sc N c with
        | some a', some b', some c' => some (.chain op op' a' b' c')
        | _, _, _ => none)
      | _, _ => none)
    | .Subscript a b _ => if plainSub b then (match cE T n sc N a, cE T n sc N b with
      | some a', some b' => some (.ix a' b')
      | _, _ => none) else (match b with
      | .Slice lo hi stp _ => (match stp with
        | some _ => none
        | none => (match lo with
          | none => (match hi with
            | none => none
            | some h => (match cE T n sc N a, cE T n sc N h with
              | some a', some h' => some (.sl a' h' h' false true)
              | _, _ => none))
          | some l => (match hi with
            | none => (match cE T n sc N a, cE T n sc N l with
              | some a', some l' => some (.sl a' l' l' true false)
              | _, _ => none)
            | some h => (match cE T n sc N a, cE T n sc N l, cE T n sc N h with
              | some a', some l', some h' => some (.sl a' l' h' true true)
              | _, _, _ => none))))
      | _ => none)
    | .Call fe args kw cp => (match kw with
      | _ :: _ => none
      | [] => (match nm? fe with
        | some f => (if isGlob sc f = false then none else match args with
          | [] => none
          | a :: as => match ixOf T.fns f with
            | some i => (cEs T n sc N (a :: as)).map (.fn i)
            | none => match btOf.lookup f with
              | some b => if T.calm = true then (cEs T n sc N (a :: as)).map (.bt b) else none
              | none => if f = "isinstance" then (match as with
                | [.Name t _] => if isGlob sc t then (match tyOf.lookup t, cE T n sc N a with
                  | some ty, some a' => some (.isi a' ty)
                  | _, _ => none) else none
                | _ => none) else none)
        | none => (match fe with
          | .Attribute o m ap => if isPop m && (ap.endLine == cp.line) && isNameE o then (match popArg args with
            | some fr => (cE T n sc N o).map fun o' => .pop o' fr
            | none => none) else if isJoin m && (ap.endLine == cp.line) then (match txtE o with
            | some sep => (match args with
              | [e] => (cE T n sc N e).map (.join sep)
              | _ => none)
            | none => none) else none
          | _ => none)))
    | .ListComp elt gens scope _ => (match gens with
      | [⟨t, it, ifs, k⟩] => if k = 0 then (match nm? t with
        | some x => if T.calm = true ∧ compOk sc scope N x = true then (match call1? it with
          | some ra => if ra.1 = "range" ∧ isGlob sc ra.1 = true then cComp T n sc N true ra.2 x elt ifs scope else cComp T n sc N false it x elt ifs scope
          | none => cComp T n sc N false it x elt ifs scope) else none
        | none => none) else none
      | _ => none)
    | _ => none
noncomputable def cEs (T : Tab) (n : Nat) (sc : Scope) (N : List Str) (es : List Expr) : Option (List Ex) := match n with
  | 0 => none
  | n + 1 => match es with
    | [] => some []
    | e :: r => match cE T n sc N e, cEs T n sc N r with
      | some e', some r' => some (e' :: r')
      | _, _ => none
noncomputable def cComp (T : Tab) (n : Nat) (sc : Scope) (N : List Str) (rng : Bool) (src : Expr) (x : Str) (elt : Expr) (ifs : List Expr) (scope : Scope) : Option Ex := match n with
  | 0 => none
  | n + 1 => match cE T n sc N src, cE T n (relabS sc scope) (x :: N) elt with
    | some s', some e' => match ifs with
      | [] => some (.comp rng s' e')
      | [c] => match cE T n (relabS sc scope) (x :: N) c with
        | some c' => some (.compIf rng s' c' e')
        | none => none
      | _ => none
    | _, _ => none
end
structure LRel (K : PySem.W.Frag) (H : Hp) (ι : Nat → Addr) (m : Nat) (loc : Loc) (σ : L2.St) : Prop where
  len : loc.length = σ.length
  at_ : ∀ (i : Nat) (d : D), loc[i]? = some (some d) → ∃ v : V, σ[i]? = some (some v) ∧ VRel K H ι m d v
theorem LRel.ext {K : PySem.W.Frag} {H H' : Hp} {ι ι' : Nat → Addr} {m m' : Nat} {loc : Loc} {σ : L2.St} (L : LRel K H ι m loc σ) (E : Ext H H' ι ι' m m') : LRel K H' ι' m' loc σ :=
  ⟨L.len, fun i d e => let ⟨v, h1, h2⟩ := L.at_ i d e; ⟨v, h1, h2.ext E⟩⟩
theorem LRel.cons {K : PySem.W.Frag} {H : Hp} {ι : Nat → Addr} {m : Nat} {loc : Loc} {σ : L2.St} {d : D} {v : V} (L : LRel K H ι m loc σ) (r : VRel K H ι m d v) : LRel K H ι m (some d :: loc) (some v :: σ) :=
  ⟨by simp [L.len], fun i e h => by
    cases i with
    | zero =>
      have : d = e := by simpa using h
      subst this
      exact ⟨v, rfl, r⟩
    | succ i => simpa using L.at_ i e (by simpa using h)⟩
theorem LRel.set {K : PySem.W.Frag} {H : Hp} {ι : Nat → Addr} {m : Nat} {loc : Loc} {σ : L2.St} {d : D} {v : V} (L : LRel K H ι m loc σ) (j : Nat) (r : VRel K H ι m d v) : LRel K H ι m (loc.set j (some d)) (σ.set j (some v)) :=
  ⟨by simp [L.len], fun i e h => by
    by_cases hj : j = i
    · subst hj
      have hl : j < loc.length := by
        have := (List.getElem?_eq_some_iff.mp h).1
        simpa using this
      rw [List.getElem?_set_self hl] at h
      cases h
      exact ⟨v, by rw [List.getElem?_set_self (by rw [← L.len]; exact hl)], r⟩
    · rw [List.getElem?_set_ne hj] at h
      obtain ⟨w, h1, h2⟩ := L.at_ i e h
      exact ⟨w, by rw [List.getElem?_set_ne hj]; exact h1, h2⟩⟩
noncomputable def tE (K : PySem.W.Frag) (m : Loc → M D) : TE := fun σ H Q => ∃ ι st loc, Sim K H ι st ∧ LRel K H ι st.length loc σ ∧ Post K H ι st (m loc st) Q
noncomputable def PostT (K : PySem.W.Frag) (H : Hp) (ι : Nat → Addr) (st : Sto) (r : R D) (Q : Bool → Hp → Prop) : Prop := match r with
  | .ok (.bl k) st' => ∀ H' ι', Ext H H' ι ι' st.length st'.length → Sim K H' ι' st' → Q k H'
  | _ => False
noncomputable def tT (K : PySem.W.Frag) (m : Loc → M D) : TT := fun σ H Q => ∃ ι st loc, Sim K H ι st ∧ LRel K H ι st.length loc σ ∧ PostT K H ι st (m loc st) Q
noncomputable def PostA (K : PySem.W.Frag) (H : Hp) (ι : Nat → Addr) (st : Sto) (r : R (List D)) (Q : List V → Hp → Prop) : Prop := match r with
  | .ok ds st' => ∀ H' ι' vs, Ext H H' ι ι' st.length st'.length → Sim K H' ι' st' → VRels K H' ι' st'.length ds vs → Q vs H'
  | .bad => False
noncomputable def tA (K : PySem.W.Frag) (m : Loc → M (List D)) : TA := fun σ H Q => ∃ ι st loc, Sim K H ι st ∧ LRel K H ι st.length loc σ ∧ PostA K H ι st (m loc st) Q
section
variable {K : PySem.W.Frag} {H : Hp} {ι : Nat → Addr} {st : Sto} {σ : L2.St} {loc : Loc}
theorem tE_of {m : Loc → M D} {Q : VK} {d : D} {st1 : Sto} (S : Sim K H ι st) (L : LRel K H ι st.length loc σ) (e : m loc st = .ok d st1) (k : ∀ H1 ι1 v, Ext H H1 ι ι1 st.length st1.length → Sim K H1 ι1 st1 → VRel K H1 ι1 st1.length d v → Q v H1) : tE K m σ H Q :=
  ⟨ι, st, loc, S, L, by rw [e]; exact k⟩
theorem tT_of {m : Loc → M D} {Q : Bool → Hp → Prop} {b : Bool} {st1 : Sto} (S : Sim K H ι st) (L : LRel K H ι st.length loc σ) (e : m loc st = .ok (.bl b) st1) (k : ∀ H1 ι1, Ext H H1 ι ι1 st.length st1.length → Sim K H1 ι1 st1 → Q b H1) : tT K m σ H Q :=
  ⟨ι, st, loc, S, L, by rw [e]; exact k⟩
theorem tA_of {m : Loc → M (List D)} {Q : List V → Hp → Prop} {ds : List D} {st1 : Sto} (S : Sim K H ι st) (L : LRel K H ι st.length loc σ) (e : m loc st = .ok ds st1) (k : ∀ H1 ι1 vs, Ext H H1 ι ι1 st.length st1.length → Sim K H1 ι1 st1 → VRels K H1 ι1 st1.length ds vs → Q vs H1) : tA K m σ H Q :=
  ⟨ι, st, loc, S, L, by rw [e]; exact k⟩
theorem bnd_inv {α : Type} {m : M α} {f : α → M D} {st0 : Sto} {Q : VK} (P : Post K H ι st (bnd m f st0) Q) : ∃ a st1, m st0 = .ok a st1 ∧ Post K H ι st (f a st1) Q := by
  unfold bnd at P
  cases e : m st0 with
  | ok a st1 => rw [e] at P; exact ⟨a, st1, rfl, P⟩
  | bad => rw [e] at P; exact P.elim
theorem bnd_invT {α : Type} {m : M α} {f : α → M D} {st0 : Sto} {Q : Bool → Hp → Prop} (P : PostT K H ι st (bnd m f st0) Q) : ∃ a st1, m st0 = .ok a st1 ∧ PostT K H ι st (f a st1) Q := by
  unfold bnd at P
  cases e : m st0 with
  | ok a st1 => rw [e] at P; exact ⟨a, st1, rfl, P⟩
  | bad => rw [e] at P; exact P.elim
theorem bnd_invA {α β : Type} {m : M α} {f : α → M (List D)} {st0 : Sto} {Q : List V → Hp → Prop} (P : PostA K H ι st (bnd m f st0) Q) : ∃ a st1, m st0 = .ok a st1 ∧ PostA K H ι st (f a st1) Q := by
  unfold bnd at P
  cases e : m st0 with
  | ok a st1 => rw [e] at P; exact ⟨a, st1, rfl, P⟩
  | bad => rw [e] at P; exact P.elim
theorem ofO_inv {α : Type} {o : Option α} {a : α} {st0 st1 : Sto} (e : ofO o st0 = .ok a st1) : o = some a ∧ st1 = st0 := by
  unfold ofO at e
  cases o with
  | none => cases e
  | some b => cases e; exact ⟨rfl, rfl⟩
theorem bool?_inv {x : D} {b : Bool} (e : bool? x = some b) : x = .bl b := by
  cases x <;> cases e
  rfl
theorem int?_inv {x : D} {b : Int} (e : int? x = some b) : x = .int b := by
  cases x <;> cases e
  rfl
theorem PostT.inv {r : R D} {Q : Bool → Hp → Prop} (P : PostT K H ι st r Q) : ∃ b st1, r = .ok (.bl b) st1 ∧ ∀ H' ι', Ext H H' ι ι' st.length st1.length → Sim K H' ι' st1 → Q b H' := by
  unfold PostT at P
  split at P
  · exact ⟨_, _, rfl, P⟩
  · exact P.elim
theorem PostT.mono {r : R D} {Q : Bool → Hp → Prop} {H1 : Hp} {ι1 : Nat → Addr} {st1 : Sto} (P : PostT K H ι st r Q) (E : Ext H H1 ι ι1 st.length st1.length) : PostT K H1 ι1 st1 r Q := by
  obtain ⟨b, st2, rfl, k⟩ := P.inv
  exact fun H' ι' E' S' => k H' ι' (E.trans E') S'
end
theorem _root_.L2.PE.imp {X : Cx} {e : Expr} {t t' : TE} (h : PE X e t) (k : ∀ σ H Q, t' σ H Q → t σ H Q) : PE X e t' := fun pins s σ H Q I q => h pins s σ H Q I (k σ H Q q)
theorem _root_.L2.PT.imp {X : Cx} {e : Expr} {t t' : TT} (h : PT X e t) (k : ∀ σ H Q, t' σ H Q → t σ H Q) : PT X e t' := fun pins s σ H Q I q => h pins s σ H Q I (k σ H Q q)
theorem _root_.L2.PA.imp {X : Cx} {es : List Expr} {t t' : TA} (h : PA X es t) (k : ∀ σ H Q, t' σ H Q → t σ H Q) : PA X es t' := fun pos pins s σ H Q I q => h pos pins s σ H Q I (k σ H Q q)
noncomputable def PostF (K : PySem.W.Frag) (E : XK) (H : Hp) (ι : Nat → Addr) (st : Sto) (r : R Rs) (Q : VK) : Prop := match r with
  | .ok (.v d) st' => ∀ H' ι' v, Ext H H' ι ι' st.length st'.length → Sim K H' ι' st' → VRel K H' ι' st'.length d v → Q v H'
  | .ok (.x n) st' => ∀ H' ι', Ext H H' ι ι' st.length st'.length → Sim K H' ι' st' → E (.ref (ι' n)) none H'
  | .bad => False
theorem PostF.mono {K : PySem.W.Frag} {E : XK} {H : Hp} {ι : Nat → Addr} {st : Sto} {r : R Rs} {Q : VK} {H1 : Hp} {ι1 : Nat → Addr} {st1 : Sto} (P : PostF K E H ι st r Q) (E1 : Ext H H1 ι ι1 st.length st1.length) : PostF K E H1 ι1 st1 r Q := by
  cases r with
  | ok f st2 =>
    cases f with
    | v d => exact fun H' ι' v E' S' r' => P H' ι' v (E1.trans E') S' r'
    | x n => exact fun H' ι' E' S' => P H' ι' (E1.trans E') S'
  | bad => exact P
theorem PostF.val {K : PySem.W.Frag} {H : Hp} {ι : Nat → Addr} {st : Sto} {m : M Rs} {st1 : Sto} {Q : VK} {E : XK} (P : Post K H ι st (bnd m (fun r => ofO r.val?) st1) Q) : PostF K E H ι st (m st1) Q := by
  obtain ⟨r, st2, e, P⟩ := bnd_inv P
  rw [e]
  cases r with
  | v d => exact P
  | x n => exact P.elim
noncomputable def spF (K : PySem.W.Frag) (n : Nat) (f : List D → M Rs) : Sp := fun vs H Q E => vs.length = n ∧ ∃ ι st ds, Sim K H ι st ∧ VRels K H ι st.length ds vs ∧ PostF K E H ι st (f ds st) Q
structure Ctx (T : Tab) (g : Fns) (X : Cx) (sc : Scope) (N : List Str) : Prop where
  sc : X.env.scope = sc
  n : X.N = N
  nd : N.Nodup
  nm : ∀ x ∈ N, (x == ("__debug__" : Str)) = false ∧ (x == ("__classdict__" : Str)) = false
  calm : T.calm = true → X.calm = true
  un : X.A.units + 100 < cLine
  fns : ∀ i f, T.fns[i]? = some f → (f == ("__debug__" : Str)) = false ∧ ∃ a fd ps k, X.mg f = some (.ref a) ∧ PySem.W.keepIn X.K (.ref a) = true ∧ Binds X.K fd ps [] ∧ Room k X.A ∧ (∀ ds st, ds.length ≠ ps.length → g i ds st = R.bad) ∧ FnOk X.prog X.w X.K X.mg X.base (CXe X.prog X.w) k a fd ps (spF X.K ps.length (g i))
  csts : ∀ x d, T.csts.lookup x = some d → (x == ("__debug__" : Str)) = false ∧ ∃ u v, X.mg x = some u ∧ RelV v u ∧ ∀ H ι m, VRel X.K H ι m d v
  blt : ∀ x ∈ blts, X.mg x = none
  cats : ∀ t, t ∈ T.cats → (t == ("__debug__" : Str)) = false ∧ ∃ D, PySem.W.nsIn X.K mainGlobals t = some (some (.ref D)) ∧ X.mg t = some (.ref D) ∧ ECat X.K D
  cls : ∀ x anc, (x, anc) ∈ T.cls → ∃ C, PySem.W.nsIn X.K mainGlobals x = some (some (.ref C)) ∧ ECls X.K C ∧ (∀ f ∈ T.flds, PySem.W.findIn X.K (.ref C) f = some none) ∧
    (∀ t ∈ T.cats, ∀ D, PySem.W.nsIn X.K mainGlobals t = some (some (.ref D)) → PySem.W.kitOne X.K (.ref C) (.ref D) = some (anc.contains t) ∧ PySem.W.mroIn X.K C (.ref D) = some (anc.contains t)) ∧ PySem.W.kitOne X.K (.ref C) (.type "ValueError") = some (anc.contains "ValueError")
  ini : ∀ x j, (x, j) ∈ T.ini → (x == ("__debug__" : Str)) = false ∧ ∃ C a fd ps k, PySem.W.nsIn X.K mainGlobals x = some (some (.ref C)) ∧ X.mg x = some (.ref C) ∧ EMk X.K C ∧ PySem.W.mroIn X.K C (.type "BaseException") = some true ∧ PySem.W.keepIn X.K (.ref C) = true ∧
    PySem.W.findIn X.K (.ref C) "__init__" = some (some (.ref a)) ∧ PySem.W.isFn X.K (.ref a) = true ∧ Binds X.K fd ps [] ∧ Room (k + 1) X.A ∧ (∀ ds st, ds.length ≠ ps.length → g j ds st = R.bad) ∧ FnOk X.prog X.w X.K X.mg X.base (CXe X.prog X.w) k a fd ps (spF X.K ps.length (g j))
end Ev
set_option Elab.async false
set_option linter.all false
set_option maxRecDepth 100000
set_option maxHeartbeats 4000000
namespace Ev
open PySem PySem.Spec PyProof.Rows L2
noncomputable def iSeq (K : PySem.W.Frag) (tl : TE) : TI := fun σ H R => tl σ H fun x H1 => (∃ a, x = .ref a ∧ (((∃ xs, SqL K H1 a xs) ∧ R (Itl K a) H1) ∨ ((∃ xs, SqT K H1 a xs) ∧ R (Itt K a) H1))) ∨ ∃ z, x = .str z ∧ R (Itz z) H1
theorem pi_seq {X : Cx} {tg l : Expr} {tl : TE} (hl : PE X l tl) : PI X tg l (iSeq X.K tl) := by
  intro pins s σ H R I h
  refine thn (hl pins s σ H _ I h) fun v s1 ⟨x, H1, I1, r1, q1⟩ => ?_
  obtain ⟨a, rfl, ⟨⟨xs, hq⟩, q⟩ | ⟨⟨xs, hq⟩, q⟩⟩ | ⟨z, rfl, q⟩ := q1
  · cases r1
    obtain ⟨its, rv, p, hz⟩ := I1.list hq
    refine wpAny_pyIter_list p.isList ?_
    refine ⟨s1.heap.objs.size, [s1.heap.objs.size], _, _, H1, rfl, I1.kept (t' := s1.toks) fun b o e => Heap.get?_push_of_some _ e, turn_list a _, ⟨_, Heap.get?_push_size _ rfl, rfl, rfl⟩, fun b hb => ?_, q⟩
    have e : b = s1.heap.objs.size := by simpa using hb
    subst e
    exact I1.fpOk (Nat.le_refl _) (I1.hok.fresh (Nat.le_refl _))
  · cases r1
    obtain ⟨its, rv, p, hz⟩ := I1.tuple hq
    refine wpAny_pyIter_tuple (show s1.heap.IsTuple a its.toArray from p) ?_
    refine ⟨s1.heap.objs.size, [s1.heap.objs.size], _, _, H1, rfl, I1.kept (t' := s1.toks) fun b o e => Heap.get?_push_of_some _ e, turn_tuple a _, ⟨_, Heap.get?_push_size _ rfl, rfl, rfl⟩, fun b hb => ?_, q⟩
    have e : b = s1.heap.objs.size := by simpa using hb
    subst e
    exact I1.fpOk (Nat.le_refl _) (I1.hok.fresh (Nat.le_refl _))
  · obtain ⟨t, rfl⟩ := r1
    exact iter_str I1 q
noncomputable def Corr (K : PySem.W.Frag) (J : It) (s : Src) (H0 : Hp) (ι0 : Nat → Addr) (m0 : Nat) : Prop := ∀ H ι st i, Ext H0 H ι0 ι m0 st.length → Sim K H ι st →
  (nxt s i st = some none → J.stop i H) ∧ ∀ x, nxt s i st = some (some x) → J.go i H ∧ ∀ v H', J.yld i H v H' → H' = H ∧ VRel K H ι st.length x v
theorem Corr.txt {K : PySem.W.Frag} {z : Str} {H0 : Hp} {ι0 : Nat → Addr} {m0 : Nat} : Corr K (Itz z) (.its (signs z)) H0 ι0 m0 := fun H ι st i E S => by
  simp only [nxt, signs, List.getElem?_map, Array.getElem?_toList]
  refine ⟨fun e => ?_, fun x e => ?_⟩
  · have e := Option.some.inj e
    show z.cps[i]? = none
    simpa using e
  · have e := Option.some.inj e
    cases e2 : z.cps[i]? with
    | none => rw [e2] at e; cases e
    | some c =>
      rw [e2] at e
      have e : D.str ⟨#[c]⟩ = x := Option.some.inj e
      subst e
      refine ⟨⟨c, e2⟩, fun v H' yy => ?_⟩
      obtain ⟨c', e3, rfl, rfl⟩ := yy
      rw [e2] at e3
      cases e3
      exact ⟨rfl, .str _⟩
theorem Corr.tup {K : PySem.W.Frag} {a : Addr} {H0 : Hp} {ι0 : Nat → Addr} {m0 : Nat} {xs : List D} {vs : List V} (h : SqT K H0 a vs) (r : VRels K H0 ι0 m0 xs vs) : Corr K (Itt K a) (.its xs) H0 ι0 m0 := fun H ι st i E S => by
  have l := r.length
  have h' := SqT.ext E.toExt0 h
  refine ⟨fun e => ?_, fun x e => ?_⟩
  · have e : xs[i]? = none := Option.some.inj e
    exact ⟨vs, h', by have := List.getElem?_eq_none_iff.mp e; omega⟩
  · have e : xs[i]? = some x := Option.some.inj e
    obtain ⟨v, hv, rv⟩ := (r.ext E).get e
    refine ⟨⟨vs, v, h', hv⟩, fun w H' y => ⟨y.1, ?_⟩⟩
    have := y.2 vs h'
    rw [hv] at this
    cases this
    exact rv
theorem Corr.fl {K : PySem.W.Frag} {a : Addr} {H0 : Hp} {ι0 : Nat → Addr} {m0 : Nat} {xs : List D} {vs : List V} (h : SqF K H0 a vs) (r : VRels K H0 ι0 m0 xs vs) : Corr K (Itl K a) (.its xs) H0 ι0 m0 := fun H ι st i E S => by
  have l := r.length
  have h' := (SqF.ext E.toExt0 h).sql
  refine ⟨fun e => ?_, fun x e => ?_⟩
  · have e : xs[i]? = none := Option.some.inj e
    exact ⟨vs, h', by have := List.getElem?_eq_none_iff.mp e; omega⟩
  · have e : xs[i]? = some x := Option.some.inj e
    obtain ⟨v, hv, rv⟩ := (r.ext E).get e
    refine ⟨⟨vs, v, h', hv⟩, fun w H' y => ⟨y.1, ?_⟩⟩
    have := y.2 vs h'
    rw [hv] at this
    cases this
    exact rv
theorem Corr.ref {K : PySem.W.Frag} {n : Nat} {H0 : Hp} {ι0 : Nat → Addr} {m0 : Nat} (hn : n < m0) : Corr K (Itl K (ι0 n)) (.at n) H0 ι0 m0 := fun H ι st i E S => by
  simp only [nxt]
  cases q : st[n]? with
  | none => exact ⟨fun e => (by cases e), fun x e => (by cases e)⟩
  | some o =>
    have ob := S.ob n o q
    rw [E.ad n hn] at ob
    cases o with
    | dct kvs => exact ⟨fun e => (by cases e), fun x e => (by cases e)⟩
    | err _ _ _ => exact ⟨fun e => (by cases e), fun x e => (by cases e)⟩
    | edc _ => exact ⟨fun e => (by cases e), fun x e => (by cases e)⟩
    | lst xs =>
      obtain ⟨vs, h1, r⟩ := ob
      have l := r.length
      have h' : SqL K H (ι0 n) vs := SqL.of h1
      refine ⟨fun e => ?_, fun x e => ?_⟩
      · have e : xs[i]? = none := Option.some.inj e
        exact ⟨vs, h', by have := List.getElem?_eq_none_iff.mp e; omega⟩
      · have e : xs[i]? = some x := Option.some.inj e
        obtain ⟨v, hv, rv⟩ := r.get e
        refine ⟨⟨vs, v, h', hv⟩, fun w H' y => ⟨y.1, ?_⟩⟩
        have := y.2 vs h'
        rw [hv] at this
        cases this
        exact rv
theorem Corr.rng {K : PySem.W.Frag} {H0 : Hp} {ι0 : Nat → Addr} {m0 k : Nat} : Corr K (Itr 0 k) (.its (rangeD k)) H0 ι0 m0 := fun H ι st i E S => by
  refine ⟨fun e => ?_, fun x e => ?_⟩
  · have e : (rangeD k)[i]? = none := Option.some.inj e
    show k ≤ i
    have := List.getElem?_eq_none_iff.mp e
    simpa [rangeD] using this
  · have e : (rangeD k)[i]? = some x := Option.some.inj e
    have hi : i < k := by
      have := (List.getElem?_eq_some_iff.mp e).1
      simpa [rangeD] using this
    have hx : x = .int (i : Int) := by
      have : (rangeD k)[i]? = some (.int (i : Int)) := by simp [rangeD, hi]
      rw [this] at e
      exact (Option.some.inj e).symm
    subst hx
    refine ⟨hi, fun v H' y => ⟨y.1, ?_⟩⟩
    have : v = .int (0 + (i : Int)) := y.2
    rw [this, Int.zero_add]
    exact .int _
structure EltOk (K : PySem.W.Frag) (tc : TT) (te : TE) (f : Loc → D → M (Option D)) : Prop where
  turn : ∀ {H : Hp} {ι : Nat → Addr} {st st1 : Sto} {loc : Loc} {σ : L2.St} {x : D} {v : V} {o : Option D} {Q : Option V → Hp → Prop}, Sim K H ι st → LRel K H ι st.length loc σ → VRel K H ι st.length x v → f loc x st = .ok o st1 →
    (∀ H1 ι1 w, Ext H H1 ι ι1 st.length st1.length → Sim K H1 ι1 st1 → (match o, w with | some y, some z => VRel K H1 ι1 st1.length y z | none, none => True | _, _ => False) → Q w H1) →
    tc (some v :: σ) H fun b H3 => if b = true then te (some v :: σ) H3 fun y H4 => Q (some y) H4 else Q none H3
theorem comp_ok {K : PySem.W.Frag} {tc : TT} {te : TE} {f : Loc → D → M (Option D)} (ok : EltOk K tc te f) {J : It} {s : Src} {H : Hp} {ι : Nat → Addr} {st st0 : Sto} {H0 : Hp} {ι0 : Nat → Addr} {loc : Loc} {σ : L2.St} {Q : VK}
    (F : Corr K J s H ι st.length) (E0 : Ext H0 H ι0 ι st0.length st.length) (S : Sim K H ι st) (L : LRel K H ι st.length loc σ) (P : Post K H0 ι0 st0 (compS (f loc) s st) Q) : ∀ Dd, H Dd = none → ∃ W : Nat → Nat → List V → Hp → Prop, (∃ m, W 0 m [] (upd H Dd (.lst []))) ∧ ∀ i m ys H2, W i m ys H2 →
      (J.stop i H2 ∧ Q (.ref Dd) H2) ∨ (J.go i H2 ∧ ∃ N : List V → Hp → Prop, (∀ ys' H', N ys' H' → ∃ m', m' < m ∧ W (i + 1) m' ys' H') ∧
        ∀ x H', J.yld i H2 x H' → tc (some x :: σ) H' fun b H3 => if b = true then te (some x :: σ) H3 fun y H4 => H4 Dd = some (.lst ys) ∧ ys.length < sizeLine ∧ N (ys ++ [y]) (upd H4 Dd (.lst (ys ++ [y]))) else N ys H3) := by
  intro Dd hD
  have sz : sizeLine = 16777216 := sizeLine_eq
  unfold compS at P
  split at P
  case isFalse => exact P.elim
  case isTrue hz =>
  refine ⟨fun i m ys H2 => i + m ≤ 1000001 ∧ ∃ ι2 st2 acc, Ext H H2 ι ι2 st.length st2.length ∧ Sim K H2 ι2 st2 ∧ H2 Dd = some (.lst ys) ∧ (∀ n, n < st2.length → ι2 n ≠ Dd) ∧ VRels K H2 ι2 st2.length acc ys ∧ acc.length ≤ i ∧
      Post K H0 ι0 st0 (bnd (compN (f loc) s m i acc) alloc st2) Q, ⟨lenS s st + 1, by omega, ι, st, [], ?_, ?_, upd_same, fun n hn => ?_, .nil, Nat.le_refl _, P⟩, ?_⟩
  · exact ⟨⟨Nat.le_refl _, fun _ _ => rfl, fun b xs e => by rw [upd_ne (ne_of_none e hD)]; exact e, fun b ob u e => by rw [upd_ne (ne_of_none e hD)]; exact e⟩, fun b ob e k => ⟨by rw [upd_ne (ne_of_none e hD)]; exact e, k⟩⟩
  · refine ⟨S.inj, fun n o e => ?_⟩
    have hn : n < st.length := (List.getElem?_eq_some_iff.mp e).1
    have hne : ι n ≠ Dd := by obtain ⟨_, h, _⟩ := S.obj hn; exact ne_of_none h hD
    have E : Ext0 H (upd H Dd (.lst [])) ι ι st.length st.length := ⟨Nat.le_refl _, fun _ _ => rfl, fun b xs e => by rw [upd_ne (ne_of_none e hD)]; exact e, fun b ob u e => by rw [upd_ne (ne_of_none e hD)]; exact e⟩
    have old := S.ob n o e
    exact old.move E (upd_ne hne)
  · obtain ⟨_, h, _⟩ := S.obj hn; exact ne_of_none h hD
  · rintro i m ys H2 ⟨hm, ι2, st2, acc, E2, S2, hDd, ap, ra, la, P2⟩
    obtain ⟨zs, st9, e9, P9⟩ := bnd_inv P2
    obtain ⟨c1, c2⟩ := F H2 ι2 st2 i E2 S2
    cases m with
    | zero => cases e9
    | succ m =>
      simp only [compN] at e9
      cases en : nxt s i st2 with
      | none => rw [en] at e9; cases e9
      | some ox =>
        rw [en] at e9
        cases ox with
        | none =>
          have e9 : R.ok acc st2 = R.ok zs st9 := e9
          cases e9
          refine .inl ⟨c1 en, ?_⟩
          obtain ⟨ι', h1, h2, h3⟩ := S2.add hDd ap ra
          have l : (st2 ++ [O.lst acc]).length = st2.length + 1 := by simp
          refine P9 H2 ι' (.ref Dd) ?_ h3 ?_
          · rw [l]
            have E6 := E0.trans E2
            refine ⟨⟨Nat.le_succ_of_le E6.le, fun n hn => (h1 n (Nat.lt_of_lt_of_le hn E6.le)).trans (E6.ad n hn), E6.tp, E6.fz⟩, fun b ob e k => ?_⟩
            obtain ⟨g1, g2⟩ := E6.fr b ob e k
            refine ⟨g1, fun n hn => ?_⟩
            by_cases hn' : n = st2.length
            · rw [hn', h2]
              obtain ⟨g3, _⟩ := E0.fr b ob e k
              exact (ne_of_none g3 hD).symm
            · rw [h1 n (by omega)]; exact g2 n (by omega)
          · rw [← h2, l]; exact .ref (Nat.lt_succ_self _)
        | some x =>
          obtain ⟨hgo, hyl⟩ := c2 x en
          refine .inr ⟨hgo, fun ys' H' => ∃ ι2 st2 acc, Ext H H' ι ι2 st.length st2.length ∧ Sim K H' ι2 st2 ∧ H' Dd = some (.lst ys') ∧ (∀ n, n < st2.length → ι2 n ≠ Dd) ∧ VRels K H' ι2 st2.length acc ys' ∧ acc.length ≤ i + 1 ∧
            Post K H0 ι0 st0 (bnd (compN (f loc) s m (i + 1) acc) alloc st2) Q, fun ys' H' b => ⟨m, Nat.lt_succ_self _, by omega, b⟩, fun v H' y => ?_⟩
          obtain ⟨rfl, rv⟩ := hyl v H' y
          simp only [bnd] at e9
          cases e3 : f loc x st2 with
          | bad => rw [e3] at e9; cases e9
          | ok o st3 =>
            rw [e3] at e9
            refine ok.turn (Q := fun w H4 => match w with
              | some y => H4 Dd = some (.lst ys) ∧ ys.length < sizeLine ∧ ∃ ι2 st2 acc, Ext H (upd H4 Dd (.lst (ys ++ [y]))) ι ι2 st.length st2.length ∧ Sim K (upd H4 Dd (.lst (ys ++ [y]))) ι2 st2 ∧ upd H4 Dd (.lst (ys ++ [y])) Dd = some (.lst (ys ++ [y])) ∧ (∀ n, n < st2.length → ι2 n ≠ Dd) ∧ VRels K (upd H4 Dd (.lst (ys ++ [y]))) ι2 st2.length acc (ys ++ [y]) ∧ acc.length ≤ i + 1 ∧
                  Post K H0 ι0 st0 (bnd (compN (f loc) s m (i + 1) acc) alloc st2) Q
              | none => ∃ ι2 st2 acc, Ext H H4 ι ι2 st.length st2.length ∧ Sim K H4 ι2 st2 ∧ H4 Dd = some (.lst ys) ∧ (∀ n, n < st2.length → ι2 n ≠ Dd) ∧ VRels K H4 ι2 st2.length acc ys ∧ acc.length ≤ i + 1 ∧
                  Post K H0 ι0 st0 (bnd (compN (f loc) s m (i + 1) acc) alloc st2) Q) S2 (L.ext E2) rv e3 fun H4 ι4 w E4 S4 r4 => ?_
            obtain ⟨hDd4, ap4⟩ := E4.fr Dd _ hDd ap
            cases o with
            | none =>
              cases w with
              | some _ => exact r4.elim
              | none =>
                have e9' : compN (f loc) s m (i + 1) acc st3 = .ok zs st9 := e9
                refine ⟨ι4, st3, acc, E2.trans E4, S4, hDd4, ap4, ra.ext E4, by omega, ?_⟩
                unfold bnd
                rw [e9']
                exact P9
            | some yd =>
              cases w with
              | none => exact r4.elim
              | some yv =>
                have e9' : compN (f loc) s m (i + 1) (acc ++ [yd]) st3 = .ok zs st9 := e9
                have lra := ra.length
                refine ⟨hDd4, by omega, ι4, st3, acc ++ [yd], ?_⟩
                have E5 : Ext0 H4 (upd H4 Dd (.lst (ys ++ [yv]))) ι4 ι4 st3.length st3.length := ⟨Nat.le_refl _, fun _ _ => rfl, fun b xs e => by rw [upd_ne (ne_of e hDd4 (by intro z; cases z))]; exact e, fun b ob u e => by rw [upd_ne (ne_of e hDd4 (by intro z; cases z))]; exact e⟩
                refine ⟨?_, ⟨S4.inj, fun n ob e => ?_⟩, upd_same, ap4, VRels.ext0 E5 ((ra.ext E4).append (.cons r4 .nil)), by simp; omega, ?_⟩
                · have E6 := E2.trans E4
                  refine ⟨⟨E6.le, E6.ad, fun b xs e => E5.tp b xs (E6.tp b xs e), fun b ob u e => E5.fz b ob u (E6.fz b ob u e)⟩, fun b ob e k => ?_⟩
                  obtain ⟨g1, g2⟩ := E6.fr b ob e k
                  exact ⟨by rw [upd_ne (ne_of_none e hD)]; exact g1, g2⟩
                · have hn : n < st3.length := (List.getElem?_eq_some_iff.mp e).1
                  have old := S4.ob n ob e
                  exact old.move E5 (upd_ne (ap4 n hn))
                · unfold bnd
                  rw [e9']
                  exact P9
end Ev
set_option Elab.async false
set_option linter.all false
set_option maxRecDepth 100000
set_option maxHeartbeats 4000000
namespace Ev
open PySem PySem.Spec PyProof.Rows L2
noncomputable def CorrG (K : PySem.W.Frag) (J : It) (s : Src) (H0 : Hp) (ι0 : Nat → Addr) (m0 : Nat) : Prop := ∀ H ι st i, Ext H0 H ι0 ι m0 st.length → Sim K H ι st →
  (nxt s i st = some none → J.stop i H) ∧ ∀ x, nxt s i st = some (some x) → J.go i H ∧ ∀ v H', J.yld i H v H' → Ext H H' ι ι st.length st.length ∧ Sim K H' ι st ∧ VRel K H' ι st.length x v
structure EltG (K : PySem.W.Frag) (tt : V → Hp → (Option V → Hp → Prop) → Prop) (f : D → M (Option D)) (H0 : Hp) (ι0 : Nat → Addr) (m0 : Nat) : Prop where
  turn : ∀ {H : Hp} {ι : Nat → Addr} {st st1 : Sto} {x : D} {v : V} {o : Option D} {Q : Option V → Hp → Prop}, Ext H0 H ι0 ι m0 st.length → Sim K H ι st → VRel K H ι st.length x v → f x st = .ok o st1 →
    (∀ H1 ι1 w, Ext H H1 ι ι1 st.length st1.length → Sim K H1 ι1 st1 → (match o, w with | some y, some z => VRel K H1 ι1 st1.length y z | none, none => True | _, _ => False) → Q w H1) → tt v H Q
end Ev
set_option Elab.async false
set_option linter.all false
set_option maxRecDepth 100000
set_option maxHeartbeats 4000000
namespace Ev
open PySem PySem.Spec PyProof.Rows L2
section
variable {T : Tab} {g : Fns} {X : Cx} {sc : Scope} {N : List Str} {pos p2 : Pos}
theorem pt_plain {e : Expr} {m : Loc → M D} (h : PE X e (tE X.K m)) (he : ∀ whole, isTrue e X.env whole = (do let v ← whole; standAt e.pos; holding [v] (truthy v))) : PT X e (tT X.K m) :=
  (pt_val h he).imp fun σ H Q ⟨ι, st, loc, S, L, P⟩ => by
    obtain ⟨b, st1, e1, k⟩ := P.inv
    exact tE_of S L e1 fun H1 ι1 v E1 S1 r1 => by cases r1; exact ⟨b, rfl, k H1 ι1 E1 S1⟩
theorem e_const {d : D} {v : V} {e : Expr} (h : PE X e (tC v)) (r : ∀ H ι m, VRel X.K H ι m d v) : PE X e (tE X.K (run g (.c d))) :=
  h.imp fun σ H Q ⟨ι, st, loc, S, L, P⟩ => by
    rw [run] at P
    exact P.same S (r H ι _)
theorem e_var {x : Str} {i : Nat} (C : Ctx T g X sc N) (hi : ixOf N x = some i) (hv : Vis sc x) : PE X (.Name x pos) (tE X.K (run g (.v i))) := by
  have hN : X.N[i]? = some x := by rw [C.n]; exact ixOf_get hi
  obtain ⟨h1, h2⟩ := C.nm x (List.mem_of_getElem? (ixOf_get hi))
  refine (pe_var hN (by rw [C.sc]; exact hv) h1 h2).imp fun σ H Q ⟨ι, st, loc, S, L, P⟩ => ?_
  rw [run] at P
  unfold ofO at P
  cases e : loc[i]? with
  | none => rw [e] at P; exact P.elim
  | some o =>
    rw [e] at P
    cases o with
    | none => exact P.elim
    | some d =>
      obtain ⟨v, hv, r⟩ := L.at_ i d e
      exact ⟨v, hv, P.same S r⟩
theorem e_tup {es : List Expr} {xs : List Ex} {k : Nat} (ha : PA X es (tA X.K (runs g xs))) (hz : es.length ≤ 1000) (hl : es.length = xs.length) : PE X (.Tuple es k pos) (tE X.K (run g (.tup xs))) :=
  (pe_tup ha).imp fun σ H Q ⟨ι, st, loc, S, L, P⟩ => by
    rw [run] at P
    obtain ⟨ds, st1, e1, P⟩ := bnd_inv P
    have sz : sizeLine = 16777216 := sizeLine_eq
    refine tA_of S L e1 fun H1 ι1 vs E1 S1 r1 => ⟨?_, (P.mono E1).tup S1 r1⟩
    have := runs_len e1
    have l := r1.length
    omega
where
  runs_len : ∀ {xs : List Ex} {loc : Loc} {st st1 : Sto} {ds : List D}, runs g xs loc st = .ok ds st1 → ds.length = xs.length
  | [], loc, st, st1, ds, e => by rw [runs] at e; cases e; rfl
  | x :: xs, loc, st, st1, ds, e => by
    rw [runs] at e
    simp only [bnd, ret] at e
    split at e
    · split at e
      · rename_i e2
        cases e
        rw [List.length_cons, List.length_cons, runs_len e2]
      · cases e
    · cases e
theorem e_lst {es : List Expr} {xs : List Ex} (ha : PA X es (tA X.K (runs g xs))) (hz : es.length ≤ 1000) (hl : es.length = xs.length) : PE X (.List es pos) (tE X.K (run g (.lst xs))) :=
  (pe_lst ha).imp fun σ H Q ⟨ι, st, loc, S, L, P⟩ => by
    rw [run] at P
    obtain ⟨ds, st1, e1, P⟩ := bnd_inv P
    have sz : sizeLine = 16777216 := sizeLine_eq
    refine tA_of S L e1 fun H1 ι1 vs E1 S1 r1 => ⟨?_, (P.mono E1).alloc S1 r1⟩
    have := e_tup.runs_len e1
    have l := r1.length
    omega
theorem big_ok {pins : List (Addr × Obj)} {σ : L2.St} {H : Hp} {s : Shared} (I : Inv X pins σ H s) : sysModules < s.heap.objs.size := Nat.lt_trans (by decide) (show mainGlobals < s.heap.objs.size from (I.mod.glob.keeps I.bk).lt)
theorem e_emp : PE X (.Dict [] [] pos) (tE X.K (run g .emp)) := by
  intro pins s σ H Q I ⟨ι, st, loc, S, L, P⟩
  rw [run] at P
  refine wpAny_Dict_empty ⟨.ref s.heap.objs.size, _, I.laid (a := s.heap.objs.size) (o := .dK []) (t' := s.toks) (fun _ _ q => Heap.get?_push_of_some _ q) (Nat.le_refl _) ?_, rfl, P.allocD S _ (I.hok.fresh (Nat.le_refl _))⟩
  exact ⟨Nat.zero_le _, beq_eq_false_iff_ne.mpr (Ne.symm (Nat.ne_of_lt (big_ok I))), [], .nil, Heap.DictOf.new s.heap⟩
theorem rd_op {a b : Ex} {f : D → D → M D} {σ : L2.St} {H : Hp} {Q : VK} (h : tE X.K (fun loc => bnd (run g a loc) fun x => bnd (run g b loc) fun y => f x y) σ H Q) : tOp (rD X.K f) (tE X.K (run g a)) (tE X.K (run g b)) σ H Q := by
  obtain ⟨ι, st, loc, S, L, P⟩ := h
  obtain ⟨x, st1, e1, P⟩ := bnd_inv P
  obtain ⟨y, st2, e2, P⟩ := bnd_inv P
  exact tE_of S L e1 fun H1 ι1 vx E1 S1 r1 => tE_of S1 (L.ext E1) e2 fun H2 ι2 vy E2 S2 r2 => ⟨ι2, st2, x, y, S2, r1.ext E2, r2, P.mono (E1.trans E2)⟩
theorem e_bin {a b : Expr} {a' b' : Ex} {op : Operator} {o : Bo} (ho : boOf op = some o) (ha : PE X a (tE X.K (run g a'))) (hb : PE X b (tE X.K (run g b'))) : PE X (.BinOp a op b pos) (tE X.K (run g (.bin o a' b'))) := by
  have e : op = o.op := by cases op <;> cases ho <;> rfl
  subst e
  refine (pe_op (op_bin o) ha hb).imp fun σ H Q h => rd_op ?_
  obtain ⟨ι, st, loc, S, L, P⟩ := h
  rw [run] at P
  exact ⟨ι, st, loc, S, L, P⟩
theorem e_neg {a : Expr} {a' : Ex} (ha : PE X a (tE X.K (run g a'))) : PE X (.UnaryOp .USub a pos) (tE X.K (run g (.neg a'))) :=
  (pe_un un_neg ha).imp fun σ H Q ⟨ι, st, loc, S, L, P⟩ => by
    rw [run] at P
    obtain ⟨x, st1, e1, P⟩ := bnd_inv P
    obtain ⟨i, st2, e2, P⟩ := bnd_inv P
    obtain ⟨e3, rfl⟩ := ofO_inv e2
    have := int?_inv e3
    subst this
    exact tE_of S L e1 fun H1 ι1 v E1 S1 r1 => by cases r1; exact ⟨i, rfl, (P.mono E1).same S1 (.int _)⟩
theorem e_not {a : Expr} {a' : Ex} (ha : PE X a (tE X.K (run g a'))) : PE X (.UnaryOp .Not a pos) (tE X.K (run g (.not a'))) :=
  (pe_not ha).imp fun σ H Q ⟨ι, st, loc, S, L, P⟩ => by
    rw [run] at P
    obtain ⟨x, st1, e1, P⟩ := bnd_inv P
    obtain ⟨i, st2, e2, P⟩ := bnd_inv P
    obtain ⟨e3, rfl⟩ := ofO_inv e2
    have := bool?_inv e3
    subst this
    exact tE_of S L e1 fun H1 ι1 v E1 S1 r1 => by cases r1; exact ⟨i, rfl, (P.mono E1).same S1 (.bl _)⟩
theorem t_not {a : Expr} {a' : Ex} (ha : PT X a (tT X.K (run g a'))) : PT X (.UnaryOp .Not a pos) (tT X.K (run g (.not a'))) :=
  (pt_not ha).imp fun σ H Q ⟨ι, st, loc, S, L, P⟩ => by
    rw [run] at P
    obtain ⟨x, st1, e1, P⟩ := bnd_invT P
    obtain ⟨i, st2, e2, P⟩ := bnd_invT P
    obtain ⟨e3, rfl⟩ := ofO_inv e2
    have := bool?_inv e3
    subst this
    exact tT_of S L e1 fun H1 ι1 E1 S1 => P H1 ι1 E1 S1
theorem e_and {a b : Expr} {r : List Expr} {a' b' : Ex} (ha : PE X a (tE X.K (run g a'))) (hb : PE X (.BoolOp .And (b :: r) pos) (tE X.K (run g b'))) : PE X (.BoolOp .And (a :: b :: r) pos) (tE X.K (run g (.and a' b'))) :=
  (pe_and ha hb).imp fun σ H Q ⟨ι, st, loc, S, L, P⟩ => by
    rw [run] at P
    obtain ⟨x, st1, e1, P⟩ := bnd_inv P
    obtain ⟨i, st2, e2, P⟩ := bnd_inv P
    obtain ⟨e3, rfl⟩ := ofO_inv e2
    have := bool?_inv e3
    subst this
    refine tE_of S L e1 fun H1 ι1 v E1 S1 r1 => ?_
    cases r1
    refine ⟨i, rfl, ?_⟩
    cases i with
    | true => rw [if_pos rfl]; exact ⟨ι1, st2, loc, S1, L.ext E1, P.mono E1⟩
    | false => rw [if_neg Bool.false_ne_true]; exact (P.mono E1).same S1 (.bl false)
theorem e_or {a b : Expr} {r : List Expr} {a' b' : Ex} (ha : PE X a (tE X.K (run g a'))) (hb : PE X (.BoolOp .Or (b :: r) pos) (tE X.K (run g b'))) : PE X (.BoolOp .Or (a :: b :: r) pos) (tE X.K (run g (.or a' b'))) :=
  (pe_or ha hb).imp fun σ H Q ⟨ι, st, loc, S, L, P⟩ => by
    rw [run] at P
    obtain ⟨x, st1, e1, P⟩ := bnd_inv P
    obtain ⟨i, st2, e2, P⟩ := bnd_inv P
    obtain ⟨e3, rfl⟩ := ofO_inv e2
    have := bool?_inv e3
    subst this
    refine tE_of S L e1 fun H1 ι1 v E1 S1 r1 => ?_
    cases r1
    refine ⟨i, rfl, ?_⟩
    cases i with
    | false => rw [if_neg Bool.false_ne_true]; exact ⟨ι1, st2, loc, S1, L.ext E1, P.mono E1⟩
    | true => rw [if_pos rfl]; exact (P.mono E1).same S1 (.bl true)
theorem pw_of {op : BoolOp} {es : List Expr} {t : TT} (h : PT X (.BoolOp op es pos) t) : PW X (.BoolOp op es pos) t := fun wh pins s σ H Q I q => by
  have := h pins s σ H Q I q
  exact this
theorem t_and {a b : Expr} {r : List Expr} {a' b' : Ex} (ha : PT X a (tT X.K (run g a'))) (hb : PT X (.BoolOp .And (b :: r) pos) (tT X.K (run g b'))) : PT X (.BoolOp .And (a :: b :: r) pos) (tT X.K (run g (.and a' b'))) :=
  (pw_and ha (pw_of hb)).pt.imp fun σ H Q ⟨ι, st, loc, S, L, P⟩ => by
    rw [run] at P
    obtain ⟨x, st1, e1, P⟩ := bnd_invT P
    obtain ⟨i, st2, e2, P⟩ := bnd_invT P
    obtain ⟨e3, rfl⟩ := ofO_inv e2
    have := bool?_inv e3
    subst this
    refine tT_of S L e1 fun H1 ι1 E1 S1 => ?_
    cases i with
    | true => rw [if_pos rfl]; exact ⟨ι1, st2, loc, S1, L.ext E1, P.mono E1⟩
    | false => rw [if_neg Bool.false_ne_true]; exact P H1 ι1 E1 S1
theorem t_or {a b : Expr} {r : List Expr} {a' b' : Ex} (ha : PT X a (tT X.K (run g a'))) (hb : PT X (.BoolOp .Or (b :: r) pos) (tT X.K (run g b'))) : PT X (.BoolOp .Or (a :: b :: r) pos) (tT X.K (run g (.or a' b'))) :=
  (pw_or ha (pw_of hb)).pt.imp fun σ H Q ⟨ι, st, loc, S, L, P⟩ => by
    rw [run] at P
    obtain ⟨x, st1, e1, P⟩ := bnd_invT P
    obtain ⟨i, st2, e2, P⟩ := bnd_invT P
    obtain ⟨e3, rfl⟩ := ofO_inv e2
    have := bool?_inv e3
    subst this
    refine tT_of S L e1 fun H1 ι1 E1 S1 => ?_
    cases i with
    | false => rw [if_neg Bool.false_ne_true]; exact ⟨ι1, st2, loc, S1, L.ext E1, P.mono E1⟩
    | true => rw [if_pos rfl]; exact P H1 ι1 E1 S1
theorem t_one {op : BoolOp} {a : Expr} {t : TT} (ha : PT X a t) : PT X (.BoolOp op [a] pos) t := by
  cases op with
  | And => exact (pw_and1 ha).pt
  | Or => exact (pw_or1 ha).pt
theorem e_cmp (hu : X.A.units + 100 < cLine) {a b : Expr} {a' b' : Ex} {op : CmpOp} (hm : behindInMarks op b = false) (ha : PE X a (tE X.K (run g a'))) (hb : PE X b (tE X.K (run g b'))) : PE X (.Compare a [op] [b] pos) (tE X.K (run g (.cmp op a' b'))) :=
  (pe_cmpR (op_cmp hu op) ha hb hm).imp fun σ H Q ⟨ι, st, loc, S, L, P⟩ => by
    rw [run] at P
    exact rd_op ⟨ι, st, loc, S, L, P⟩
theorem test_of {m : Loc → M D} {t : TE} {σ : L2.St} {H : Hp} {Q : Bool → Hp → Prop} (k : ∀ Q', tE X.K m σ H Q' → t σ H Q') (h : tT X.K m σ H Q) : tTest t σ H Q := by
  refine k _ ?_
  obtain ⟨ι, st, loc, S, L, P⟩ := h
  obtain ⟨b, st1, e, q⟩ := P.inv
  exact tE_of S L e fun H1 ι1 v E1 S1 r1 => by cases r1; exact ⟨b, rfl, q H1 ι1 E1 S1⟩
theorem t_cmp (hu : X.A.units + 100 < cLine) {a b : Expr} {a' b' : Ex} {op : CmpOp} (hm : behindInMarks op b = false) (ha : PE X a (tE X.K (run g a'))) (hb : PE X b (tE X.K (run g b'))) : PT X (.Compare a [op] [b] pos) (tT X.K (run g (.cmp op a' b'))) :=
  (pt_cmpR (op_cmp hu op) ha hb hm).imp fun σ H Q h => test_of (fun Q' ⟨ι, st, loc, S, L, P⟩ => by
    rw [run] at P
    exact rd_op ⟨ι, st, loc, S, L, P⟩) h
theorem rd_chain {a b c : Ex} {op op' : CmpOp} {σ : L2.St} {H : Hp} {Q : VK} (h : tE X.K (run g (.chain op op' a b c)) σ H Q) : tChain (rD X.K (cmpop op)) (rD X.K (cmpop op')) (tE X.K (run g a)) (tE X.K (run g b)) (tE X.K (run g c)) σ H Q := by
  obtain ⟨ι, st, loc, S, L, P⟩ := h
  rw [run] at P
  obtain ⟨x, st1, e1, P⟩ := bnd_inv P
  obtain ⟨y, st2, e2, P⟩ := bnd_inv P
  obtain ⟨z, st3, e3, P⟩ := bnd_inv P
  obtain ⟨k, st4, e4, P⟩ := bnd_inv P
  obtain ⟨e5, rfl⟩ := ofO_inv e4
  have := bool?_inv e5
  subst this
  refine tE_of S L e1 fun H1 ι1 vx E1 S1 r1 => tE_of S1 (L.ext E1) e2 fun H2 ι2 vy E2 S2 r2 => ⟨ι2, st2, x, y, S2, r1.ext E2, r2, ?_⟩
  rw [e3]
  intro H3 ι3 vz E3 S3 r3
  cases r3
  refine ⟨k, rfl, ?_⟩
  have E := (E1.trans E2).trans E3
  cases k with
  | true =>
    rw [if_pos rfl]
    obtain ⟨w, st5, e5, P⟩ := bnd_inv (show Post X.K H ι st (bnd (run g c loc) (fun w => cmpop op' y w) st4) Q from P)
    exact tE_of S3 (L.ext E) e5 fun H5 ι5 vw E5 S5 r5 => ⟨ι5, st5, y, w, S5, (r2.ext E3).ext E5, r5, P.mono (E.trans E5)⟩
  | false =>
    rw [if_neg Bool.false_ne_true]
    exact (P.mono E).same S3 (.bl false)
theorem e_chain (hu : X.A.units + 100 < cLine) {a b c : Expr} {a' b' c' : Ex} {op op' : CmpOp} (hm : behindInMarks op' c = false) (ha : PE X a (tE X.K (run g a'))) (hb : PE X b (tE X.K (run g b'))) (hc : PE X c (tE X.K (run g c'))) : PE X (.Compare a [op, op'] [b, c] pos) (tE X.K (run g (.chain op op' a' b' c'))) :=
  (pe_chain (op_cmp hu op) (op_cmp hu op') ha hb hc hm).imp fun σ H Q h => rd_chain h
theorem t_chain (hu : X.A.units + 100 < cLine) {a b c : Expr} {a' b' c' : Ex} {op op' : CmpOp} (hm : behindInMarks op' c = false) (ha : PE X a (tE X.K (run g a'))) (hb : PE X b (tE X.K (run g b'))) (hc : PE X c (tE X.K (run g c'))) : PT X (.Compare a [op, op'] [b, c] pos) (tT X.K (run g (.chain op op' a' b' c'))) :=
  (pt_chain (op_cmp hu op) (op_cmp hu op') ha hb hc hm).imp fun σ H Q h => test_of (fun Q' h' => rd_chain h') h
theorem e_ix {a b : Expr} {a' b' : Ex} (hu : X.A.units + 100 < cLine) (hs : plainSub b = true) (ha : PE X a (tE X.K (run g a'))) (hb : PE X b (tE X.K (run g b'))) : PE X (.Subscript a b pos) (tE X.K (run g (.ix a' b'))) :=
  (pe_ix (ix_D hu) ha hb (fun o i => by cases b <;> first | rfl | cases hs)).imp fun σ H Q ⟨ι, st, loc, S, L, P⟩ => by
    rw [run] at P
    exact rd_op ⟨ι, st, loc, S, L, P⟩
theorem e_sl {a : Expr} {lo hi : Option Expr} {a' l' h' : Ex} {hl hh : Bool} {tl th : TO} (ha : PE X a (tE X.K (run g a'))) (hlo : PO X lo tl) (hhi : PO X hi th)
    (kl : ∀ {H : Hp} {ι : Nat → Addr} {st st1 : Sto} {loc : Loc} {σ : L2.St} {o : Option Int} {Q : Option Int → Hp → Prop}, Sim X.K H ι st → LRel X.K H ι st.length loc σ → (if hl = true then bnd (run g l' loc) fun z => bnd (ofO (int? z)) fun i => ret (some i) else ret none) st = R.ok o st1 →
      (∀ H1 ι1, Ext H H1 ι ι1 st.length st1.length → Sim X.K H1 ι1 st1 → Q o H1) → tl σ H Q)
    (kh : ∀ {H : Hp} {ι : Nat → Addr} {st st1 : Sto} {loc : Loc} {σ : L2.St} {o : Option Int} {Q : Option Int → Hp → Prop}, Sim X.K H ι st → LRel X.K H ι st.length loc σ → (if hh = true then bnd (run g h' loc) fun z => bnd (ofO (int? z)) fun i => ret (some i) else ret none) st = R.ok o st1 →
      (∀ H1 ι1, Ext H H1 ι ι1 st.length st1.length → Sim X.K H1 ι1 st1 → Q o H1) → th σ H Q) : PE X (.Subscript a (.Slice lo hi none p2) pos) (tE X.K (run g (.sl a' l' h' hl hh))) :=
  (pe_slice sl_D ha hlo hhi).imp fun σ H Q ⟨ι, st, loc, S, L, P⟩ => by
    rw [run] at P
    obtain ⟨x, st1, e1, P⟩ := bnd_inv P
    obtain ⟨ol, st2, e2, P⟩ := bnd_inv P
    obtain ⟨oh, st3, e3, P⟩ := bnd_inv P
    refine tE_of S L e1 fun H1 ι1 vx E1 S1 r1 => kl S1 (L.ext E1) e2 fun H2 ι2 E2 S2 => kh S2 ((L.ext E1).ext E2) e3 fun H3 ι3 E3 S3 => ⟨ι3, st3, x, S3, (r1.ext E2).ext E3, P.mono ((E1.trans E2).trans E3)⟩
theorem part_no {l' : Ex} {H : Hp} {ι : Nat → Addr} {st st1 : Sto} {loc : Loc} {σ : L2.St} {o : Option Int} {Q : Option Int → Hp → Prop} (S : Sim X.K H ι st) (L : LRel X.K H ι st.length loc σ) (e : (if false = true then bnd (run g l' loc) fun z => bnd (ofO (int? z)) fun i => ret (some i) else ret none) st = R.ok o st1)
    (k : ∀ H1 ι1, Ext H H1 ι ι1 st.length st1.length → Sim X.K H1 ι1 st1 → Q o H1) : tNoPart σ H Q := by
  rw [if_neg Bool.false_ne_true] at e
  cases e
  exact k H ι (Ext.refl _ _ _) S
theorem part_yes {l' : Ex} {H : Hp} {ι : Nat → Addr} {st st1 : Sto} {loc : Loc} {σ : L2.St} {o : Option Int} {Q : Option Int → Hp → Prop} (S : Sim X.K H ι st) (L : LRel X.K H ι st.length loc σ) (e : (if true = true then bnd (run g l' loc) fun z => bnd (ofO (int? z)) fun i => ret (some i) else ret none) st = R.ok o st1)
    (k : ∀ H1 ι1, Ext H H1 ι ι1 st.length st1.length → Sim X.K H1 ι1 st1 → Q o H1) : tPart (tE X.K (run g l')) σ H Q := by
  rw [if_pos rfl] at e
  simp only [bnd, ret] at e
  cases e1 : run g l' loc st with
  | bad => rw [e1] at e; cases e
  | ok z st2 =>
    rw [e1] at e
    simp only [ofO] at e
    cases e2 : int? z with
    | none => rw [e2] at e; cases e
    | some i =>
      rw [e2] at e
      cases e
      have := int?_inv e2
      subst this
      exact tE_of S L e1 fun H1 ι1 v E1 S1 r1 => by cases r1; exact ⟨i, rfl, k H1 ι1 E1 S1⟩
theorem e_fn {f : Str} {i : Nat} {a : Expr} {as : List Expr} {xs : List Ex} (C : Ctx T g X sc N) (hg : isGlob sc f = true) (hi : ixOf T.fns f = some i) (ha : PA X (a :: as) (tA X.K (runs g xs))) (hl : (a :: as).length = xs.length)
    (he : starEach (a :: as) X.env = (false, eval a X.env) :: starEach as X.env) (hpl : (backTo pos (starEach as X.env)).any (·.1) = false) : PE X (.Call (.Name f p2) (a :: as) [] pos) (tE X.K (run g (.fn i xs))) := by
  obtain ⟨hd, ad, fd, ps, k, hm, kp, hb, hr, har, F⟩ := C.fns i f (ixOf_get hi)
  have hgl : Gl X f := by
    show X.env.scope.names.lookup f = some .globalImplicit
    rw [C.sc]
    simpa [isGlob] using hg
  refine (pe_call F hr hgl hm kp hb .nil passE ha hd he hpl).imp fun σ H Q ⟨ι, st, loc, S, L, P⟩ => ?_
  rw [run] at P
  obtain ⟨ds, st1, e1, P⟩ := bnd_inv P
  refine tA_of S L e1 fun H1 ι1 vs E1 S1 r1 => ?_
  rw [List.append_nil]
  refine ⟨?_, ι1, st1, ds, S1, r1, (PostF.val P).mono E1⟩
  by_cases hps : ds.length = ps.length
  · rw [← r1.length]; exact hps
  · have P2 := PostF.val (E := E0) P
    rw [har ds st1 hps] at P2; exact P2.elim
theorem e_bt {f : Str} {b : Bt} {a : Expr} {as : List Expr} {xs : List Ex} (C : Ctx T g X sc N) (hcm : T.calm = true) (hg : isGlob sc f = true) (hb : btOf.lookup f = some b) (ha : PA X (a :: as) (tA X.K (runs g xs)))
    (he : starEach (a :: as) X.env = (false, eval a X.env) :: starEach as X.env) (hpl : (backTo pos (starEach as X.env)).any (·.1) = false) : PE X (.Call (.Name f p2) (a :: as) [] pos) (tE X.K (run g (.bt b xs))) := by
  have hgl : Gl X f := by
    show X.env.scope.names.lookup f = some .globalImplicit
    rw [C.sc]
    simpa [isGlob] using hg
  have hbl : ∀ x : Str, x ∈ blts → X.mg x = none := C.blt
  have key : PE X (.Call (.Name f p2) (a :: as) [] pos) (tCB (rB X.K b) (tA X.K (runs g xs))) := by
    have hmem := PySem.mem_of_lookup hb
    have cc : CallR X b.val (rB X.K b) := call_D (C.calm hcm) b
    simp only [btOf, List.mem_cons, List.mem_nil_iff, Prod.mk.injEq, or_false] at hmem
    rcases hmem with ⟨rfl, rfl⟩ | ⟨rfl, rfl⟩ | ⟨rfl, rfl⟩ | ⟨rfl, rfl⟩ | ⟨rfl, rfl⟩ | ⟨rfl, rfl⟩ | ⟨rfl, rfl⟩ | ⟨rfl, rfl⟩
    · exact pe_callB cc hgl (hbl _ (by decide +kernel)) PySem.boot_len ha (by decide +kernel) (by decide +kernel) he hpl
    · exact pe_callTy cc hgl (hbl _ (by decide +kernel)) (by decide +kernel) ha (by decide +kernel) (by decide +kernel) he hpl
    · exact pe_callTy cc hgl (hbl _ (by decide +kernel)) (by decide +kernel) ha (by decide +kernel) (by decide +kernel) he hpl
    · exact pe_callTy cc hgl (hbl _ (by decide +kernel)) (by decide +kernel) ha (by decide +kernel) (by decide +kernel) he hpl
    · exact pe_callB cc hgl (hbl _ (by decide +kernel)) (by decide +kernel) ha (by decide +kernel) (by decide +kernel) he hpl
    · exact pe_callB cc hgl (hbl _ (by decide +kernel)) (by decide +kernel) ha (by decide +kernel) (by decide +kernel) he hpl
    · exact pe_callB cc hgl (hbl _ (by decide +kernel)) (by decide +kernel) ha (by decide +kernel) (by decide +kernel) he hpl
    · exact pe_callB cc hgl (hbl _ (by decide +kernel)) (by decide +kernel) ha (by decide +kernel) (by decide +kernel) he hpl
  refine key.imp fun σ H Q ⟨ι, st, loc, S, L, P⟩ => ?_
  rw [run] at P
  obtain ⟨ds, st1, e1, P⟩ := bnd_inv P
  exact tA_of S L e1 fun H1 ι1 vs E1 S1 r1 => ⟨ι1, st1, ds, S1, r1, P.mono E1⟩
theorem ty_boot {t : Str} {ty : Ty} (h : tyOf.lookup t = some ty) : bootBuiltins t = some (.type ty.name) ∧ t ≠ "__name__" ∧ (t == ("__debug__" : Str)) = false ∧ t ∈ blts := by
  have hmem := PySem.mem_of_lookup h
  simp only [tyOf, List.mem_cons, List.mem_nil_iff, Prod.mk.injEq, or_false] at hmem
  rcases hmem with ⟨rfl, rfl⟩ | ⟨rfl, rfl⟩ | ⟨rfl, rfl⟩ | ⟨rfl, rfl⟩ | ⟨rfl, rfl⟩ | ⟨rfl, rfl⟩ <;> exact ⟨by decide +kernel, by decide +kernel, by decide +kernel, by decide +kernel⟩
theorem e_isi {t : Str} {ty : Ty} {a : Expr} {a' : Ex} {p3 : Pos} (C : Ctx T g X sc N) (hg : isGlob sc "isinstance" = true) (hgt : isGlob sc t = true) (ht : tyOf.lookup t = some ty) (ha : PE X a (tE X.K (run g a')))
    (he : starEach [a, .Name t p3] X.env = (false, eval a X.env) :: starEach [.Name t p3] X.env) : PE X (.Call (.Name "isinstance" p2) [a, .Name t p3] [] pos) (tE X.K (run g (.isi a' ty))) := by
  have gl : ∀ {x : Str}, isGlob sc x = true → Gl X x := fun {x} h => by
    show X.env.scope.names.lookup x = some .globalImplicit
    rw [C.sc]
    simpa [isGlob] using h
  obtain ⟨b1, b2, b3, b4⟩ := ty_boot ht
  have cc : CallR X (.builtin "isinstance") (fun vs H Q => ∃ ι st d v k, vs = [v, .ty ty.name] ∧ Sim X.K H ι st ∧ VRel X.K H ι st.length d v ∧ isiD st ty d = some k ∧ Q (.bl k) H) := by
    intro pins s σ H vs us Q I r h
    obtain ⟨ι, st, d, v, k, rfl, S, rv, e, q⟩ := h
    cases r with
    | cons r1 r2 =>
      cases r2 with
      | cons r2 r3 =>
        cases r3
        cases r2
        exact isi_ok I S rv r1 e q
  have ht' : PE X (.Name t p3) (tC (.ty ty.name)) := pe_bltn (gl hgt) (C.blt t b4) b1 rfl b2 b3
  refine (pe_callB cc (gl hg) (C.blt _ (by decide +kernel)) (by decide +kernel) (pa_cons ha (pa_cons ht' pa_nil) he) (by decide +kernel) (by decide +kernel) he rfl).imp fun σ H Q ⟨ι, st, loc, S, L, P⟩ => ?_
  rw [run] at P
  obtain ⟨x, st1, e1, P⟩ := bnd_inv P
  refine tE_of S L e1 fun H1 ι1 v E1 S1 r1 => ?_
  cases e2 : isiD st1 ty x with
  | none => rw [e2] at P; exact P.elim
  | some k =>
    rw [e2] at P
    exact ⟨ι1, st1, x, v, k, rfl, S1, r1, e2, (P.mono E1).same S1 (.bl k)⟩
end
end Ev
set_option Elab.async false
set_option linter.all false
set_option maxRecDepth 100000
set_option maxHeartbeats 8000000
namespace Ev
open PySem PySem.Spec PyProof.Rows L2
section
variable {T : Tab} {g : Fns} {X : Cx} {sc : Scope} {N : List Str} {pos px : Pos}
theorem comp_scope {x : Str} {scope : Scope} (C : Ctx T g X sc N) (h : compOk sc scope N x = true) : CompScope X x scope ∧ x ∉ X.N ∧ (x == ("__debug__" : Str)) = false ∧ (x == ("__classdict__" : Str)) = false := by
  unfold compOk at h
  simp only [Bool.and_eq_true, List.all_eq_true] at h
  obtain ⟨⟨⟨⟨⟨h1, h2⟩, h3⟩, h4⟩, h5⟩, h6⟩ := h
  have hx : x ∉ N := by simpa using h3
  refine ⟨⟨by simpa using h1, fun y hy => ?_, fun y hy hl => ?_, by simpa using h2, fun y hy hf => ?_, fun y hy hl => ?_⟩, by rw [C.n]; exact hx, by simpa using h4, by simpa using h5⟩
  · obtain ⟨⟨a, b⟩, c⟩ := h6 y hy
    simpa using a
  · obtain ⟨⟨a, b⟩, c⟩ := h6 y hy
    rw [hl] at b
    simp at b
    exact b.1
  · obtain ⟨⟨a, b⟩, c⟩ := h6 y hy
    rw [hf] at c
    have c' : sc.names.lookup y.1 = some .cell ∨ sc.names.lookup y.1 = some .free := by simpa using c
    show X.env.scope.names.lookup y.1 = _ ∨ X.env.scope.names.lookup y.1 = _
    rw [C.sc]
    exact c'
  · obtain ⟨⟨a, b⟩, c⟩ := h6 y hy
    rw [hl] at b
    simp at b
    rw [C.n]
    exact b.2
theorem ctx_comp {x : Str} {scope : Scope} (C : Ctx T g X sc N) (h : compOk sc scope N x = true) (fp : List Addr) (s : Shared) (H : Hp) : Ctx T g (cxComp X x scope fp s H) (relabS sc scope) (x :: N) := by
  obtain ⟨h1, h2, h3, h4⟩ := comp_scope C h
  refine ⟨?_, ?_, List.nodup_cons.mpr ⟨by rw [← C.n]; exact h2, C.nd⟩, fun y hy => ?_, C.calm, C.un, C.fns, C.csts, C.blt, C.cats, C.cls, C.ini⟩
  · show relabel scope X.env = relabS sc scope
    rw [← C.sc]
    rfl
  · show x :: X.N = x :: N
    rw [C.n]
  · rcases List.mem_cons.mp hy with rfl | hy
    · exact ⟨h3, h4⟩
    · exact C.nm y hy
theorem elt_plain {K : PySem.W.Frag} {e : Ex} : EltOk K tYes (tE K (run g e)) (fun loc x => bnd (run g e (some x :: loc)) fun y => ret (some y)) where
  turn := fun {H ι st st1 loc σ x v o Q} S L rv e1 k => by
    unfold tYes
    refine iteT ?_
    simp only [bnd, ret] at e1
    cases e2 : run g e (some x :: loc) st with
    | bad => rw [e2] at e1; cases e1
    | ok y st2 =>
      rw [e2] at e1
      cases e1
      exact tE_of S (L.cons rv) e2 fun H1 ι1 w E1 S1 r1 => k H1 ι1 (some w) E1 S1 r1
theorem elt_if {K : PySem.W.Frag} {c e : Ex} : EltOk K (tT K (run g c)) (tE K (run g e)) (fun loc x => bnd (run g c (some x :: loc)) fun z => bnd (ofO (bool? z)) fun k => if k then bnd (run g e (some x :: loc)) fun y => ret (some y) else ret none) where
  turn := fun {H ι st st1 loc σ x v o Q} S L rv e1 k => by
    simp only [bnd] at e1
    cases e2 : run g c (some x :: loc) st with
    | bad => rw [e2] at e1; cases e1
    | ok z st2 =>
      rw [e2] at e1
      simp only [ofO] at e1
      cases e3 : bool? z with
      | none => rw [e3] at e1; cases e1
      | some b =>
        rw [e3] at e1
        have := bool?_inv e3
        subst this
        refine tT_of S (L.cons rv) e2 fun H1 ι1 E1 S1 => ?_
        cases b with
        | true =>
          rw [if_pos rfl]
          simp only [if_true, bnd, ret] at e1
          cases e4 : run g e (some x :: loc) st2 with
          | bad => rw [e4] at e1; cases e1
          | ok y st3 =>
            rw [e4] at e1
            cases e1
            exact tE_of S1 ((L.cons rv).ext E1) e4 fun H2 ι2 w E2 S2 r2 => k H2 ι2 (some w) (E1.trans E2) S2 r2
        | false =>
          rw [if_neg Bool.false_ne_true]
          simp only [Bool.false_eq_true, if_false, ret] at e1
          cases e1
          exact k H1 ι1 none E1 S1 True.intro
theorem src_seq {s' : Ex} {k : Loc → Src → M D} {σ : L2.St} {H : Hp} {Q : VK} {RR : It → Hp → Prop} (h : tE X.K (fun loc => bnd (run g s' loc) fun d => bnd (ofO (source false d)) fun s => k loc s) σ H Q)
    (hk : ∀ {J : It} {s : Src} {ι ι1 : Nat → Addr} {st st1 : Sto} {loc : Loc} {H1 : Hp}, Corr X.K J s H1 ι1 st1.length → Ext H H1 ι ι1 st.length st1.length → Sim X.K H1 ι1 st1 → LRel X.K H1 ι1 st1.length loc σ → Post X.K H ι st (k loc s st1) Q → RR J H1)
    (hbad : ∀ loc n st, (∀ xs, st[n]? ≠ some (.lst xs)) → k loc (.at n) st = .bad) : iSeq X.K (tE X.K (run g s')) σ H RR := by
  obtain ⟨ι, st, loc, S, L, P⟩ := h
  obtain ⟨d, st1, e1, P⟩ := bnd_inv P
  obtain ⟨s, st2, e2, P⟩ := bnd_inv P
  obtain ⟨e3, rfl⟩ := ofO_inv e2
  refine tE_of S L e1 fun H1 ι1 v E1 S1 r1 => ?_
  cases r1 with
  | tup h r => cases e3; exact .inl ⟨_, rfl, .inr ⟨⟨_, h⟩, hk (Corr.tup h r) E1 S1 (L.ext E1) P⟩⟩
  | fl h r => cases e3; exact .inl ⟨_, rfl, .inl ⟨⟨_, h.sql⟩, hk (Corr.fl h r) E1 S1 (L.ext E1) P⟩⟩
  | str z =>
    simp only [source] at e3
    split at e3
    · cases e3; exact .inr ⟨_, rfl, hk Corr.txt E1 S1 (L.ext E1) P⟩
    · cases e3
  | @ref n hn =>
    cases e3
    cases q : st2[n]? with
    | none =>
      rw [hbad loc n st2 (fun xs z => by rw [q] at z; cases z)] at P
      exact P.elim
    | some o =>
      cases o with
      | dct kvs =>
        rw [hbad loc n st2 (fun xs z => by rw [q] at z; cases z)] at P
        exact P.elim
      | err _ _ _ =>
        rw [hbad loc n st2 (fun xs z => by rw [q] at z; cases z)] at P
        exact P.elim
      | edc _ =>
        rw [hbad loc n st2 (fun xs z => by rw [q] at z; cases z)] at P
        exact P.elim
      | lst xs =>
        obtain ⟨vs, h1, _⟩ := S1.ob n _ q
        exact .inl ⟨_, rfl, .inl ⟨⟨vs, SqL.of h1⟩, hk (Corr.ref hn) E1 S1 (L.ext E1) P⟩⟩
  | _ => cases e3
theorem src_rng {s' : Ex} {k : Loc → Src → M D} {σ : L2.St} {H : Hp} {Q : VK} {RR : It → Hp → Prop} (h : tE X.K (fun loc => bnd (run g s' loc) fun d => bnd (ofO (source true d)) fun s => k loc s) σ H Q)
    (hk : ∀ {J : It} {s : Src} {ι ι1 : Nat → Addr} {st st1 : Sto} {loc : Loc} {H1 : Hp}, Corr X.K J s H1 ι1 st1.length → Ext H H1 ι ι1 st.length st1.length → Sim X.K H1 ι1 st1 → LRel X.K H1 ι1 st1.length loc σ → Post X.K H ι st (k loc s st1) Q → RR J H1) :
    iRng1 (tCons (tE X.K (run g s')) tNil) σ H RR := by
  obtain ⟨ι, st, loc, S, L, P⟩ := h
  obtain ⟨d, st1, e1, P⟩ := bnd_inv P
  obtain ⟨s, st2, e2, P⟩ := bnd_inv P
  obtain ⟨e3, rfl⟩ := ofO_inv e2
  refine tE_of S L e1 fun H1 ι1 v E1 S1 r1 => ?_
  cases r1 with
  | int j =>
    simp only [source] at e3
    split at e3
    · rename_i hj
      cases e3
      exact ⟨j, rfl, by omega, by omega, hk Corr.rng E1 S1 (L.ext E1) P⟩
    · cases e3
  | _ => cases e3
theorem nxt_bad {n i : Nat} {st : Sto} (h : ∀ xs, st[n]? ≠ some (.lst xs)) : nxt (.at n) i st = none := by
  unfold nxt
  show (match st[n]? with | some (.lst xs) => some xs[i]? | _ => none) = none
  cases q : st[n]? with
  | none => rfl
  | some o =>
    cases o with
    | dct kvs => rfl
    | err _ _ _ => rfl
    | edc _ => rfl
    | lst xs => exact absurd q (h xs)
theorem comp_bad {f : D → M (Option D)} (n : Nat) (st : Sto) (h : ∀ xs, st[n]? ≠ some (.lst xs)) : compS f (.at n) st = .bad := by
  unfold compS
  split
  · simp only [bnd, compN, nxt_bad h]
  · rfl
noncomputable def CompD (g : Fns) (X : Cx) (x : Str) (px : Pos) (iter : Expr) (ifs : List Expr) (elt : Expr) (scope : Scope) (y : Ex) : Prop :=
  ∃ wi tc te, PI X (.Name x px) iter wi ∧ (∀ fp s H, PTs (cxComp X x scope fp s H) ifs tc) ∧ (∀ fp s H, PE (cxComp X x scope fp s H) elt te) ∧ (∀ v, foldedSetIterable iter X.env v = pure v) ∧ ∀ σ H Q, tE X.K (run g y) σ H Q → tComp wi tc te σ H Q
theorem CompD.pe {x : Str} {iter elt : Expr} {ifs : List Expr} {scope : Scope} {y : Ex} (C : Ctx T g X sc N) (hcm : T.calm = true) (hc : compOk sc scope N x = true) (h : CompD g X x px iter ifs elt scope y) : PE X (.ListComp elt [⟨.Name x px, iter, ifs, 0⟩] scope pos) (tE X.K (run g y)) := by
  obtain ⟨wi, tc, te, a, b, c, d, e⟩ := h
  obtain ⟨h1, h2, _, _⟩ := comp_scope C hc
  exact (pe_comp (C.calm hcm) h1 h2 (by rw [C.n]; exact C.nd) a b c d).imp e
variable {x : Str} {elt it : Expr} {scope : Scope} {s' c' e' : Ex}
theorem e_comp (C : Ctx T g X sc N) (hc : compOk sc scope N x = true) (hs : PE X it (tE X.K (run g s'))) (he : ∀ fp s H, PE (cxComp X x scope fp s H) elt (tE X.K (run g e'))) (hf : ∀ v, foldedSetIterable it X.env v = pure v) :
    CompD g X x px it [] elt scope (.comp false s' e') := by
  refine ⟨_, _, _, pi_seq hs, fun _ _ _ => pts_nil, he, hf, fun σ H Q ⟨ι, st, loc, S, L, P⟩ => ?_⟩
  rw [run] at P
  exact src_seq (k := fun loc s => compS (fun x => bnd (run g e' (some x :: loc)) fun y => ret (some y)) s) ⟨ι, st, loc, S, L, P⟩ (fun {J s ι ι1 st st1 loc H1} F E S1 L1 P1 => comp_ok (loc := loc) (f := fun loc x => bnd (run g e' (some x :: loc)) fun y => ret (some y)) elt_plain F E S1 L1 P1) (fun _ => comp_bad)
theorem e_compIf {c : Expr} (C : Ctx T g X sc N) (hc : compOk sc scope N x = true) (hs : PE X it (tE X.K (run g s'))) (ht : ∀ fp s H, PT (cxComp X x scope fp s H) c (tT X.K (run g c'))) (he : ∀ fp s H, PE (cxComp X x scope fp s H) elt (tE X.K (run g e'))) (hf : ∀ v, foldedSetIterable it X.env v = pure v) :
    CompD g X x px it [c] elt scope (.compIf false s' c' e') := by
  refine ⟨_, _, _, pi_seq hs, fun fp s H => pts_one (ht fp s H), he, hf, fun σ H Q ⟨ι, st, loc, S, L, P⟩ => ?_⟩
  rw [run] at P
  exact src_seq (k := fun loc s => compS (fun x => bnd (run g c' (some x :: loc)) fun z => bnd (ofO (bool? z)) fun k => if k then bnd (run g e' (some x :: loc)) fun y => ret (some y) else ret none) s) ⟨ι, st, loc, S, L, P⟩
    (fun {J s ι ι1 st st1 loc H1} F E S1 L1 P1 => comp_ok (loc := loc) (f := fun loc x => bnd (run g c' (some x :: loc)) fun z => bnd (ofO (bool? z)) fun k => if k then bnd (run g e' (some x :: loc)) fun y => ret (some y) else ret none) elt_if F E S1 L1 P1) (fun _ => comp_bad)
variable {a : Expr} {p3 p4 : Pos}
theorem e_compR (C : Ctx T g X sc N) (hc : compOk sc scope N x = true) (hg : isGlob sc "range" = true) (hst : starEach [a] X.env = [(false, eval a X.env)]) (hs : PE X a (tE X.K (run g s'))) (he : ∀ fp s H, PE (cxComp X x scope fp s H) elt (tE X.K (run g e'))) :
    CompD g X x px (.Call (.Name "range" p3) [a] [] p4) [] elt scope (.comp true s' e') := by
  have hgl : Gl X "range" := by
    show X.env.scope.names.lookup _ = some .globalImplicit
    rw [C.sc]
    simpa [isGlob] using hg
  refine ⟨_, _, _, pi_range1 hgl (C.blt _ (by decide +kernel)) (pa_cons hs pa_nil hst) hst, fun _ _ _ => pts_nil, he, fun _ => rfl, fun σ H Q ⟨ι, st, loc, S, L, P⟩ => ?_⟩
  rw [run] at P
  exact src_rng (k := fun loc s => compS (fun x => bnd (run g e' (some x :: loc)) fun y => ret (some y)) s) ⟨ι, st, loc, S, L, P⟩ (fun {J s ι ι1 st st1 loc H1} F E S1 L1 P1 => comp_ok (loc := loc) (f := fun loc x => bnd (run g e' (some x :: loc)) fun y => ret (some y)) elt_plain F E S1 L1 P1)
theorem e_compRIf {c : Expr} (C : Ctx T g X sc N) (hc : compOk sc scope N x = true) (hg : isGlob sc "range" = true) (hst : starEach [a] X.env = [(false, eval a X.env)]) (hs : PE X a (tE X.K (run g s'))) (ht : ∀ fp s H, PT (cxComp X x scope fp s H) c (tT X.K (run g c'))) (he : ∀ fp s H, PE (cxComp X x scope fp s H) elt (tE X.K (run g e'))) :
    CompD g X x px (.Call (.Name "range" p3) [a] [] p4) [c] elt scope (.compIf true s' c' e') := by
  have hgl : Gl X "range" := by
    show X.env.scope.names.lookup _ = some .globalImplicit
    rw [C.sc]
    simpa [isGlob] using hg
  refine ⟨_, _, _, pi_range1 hgl (C.blt _ (by decide +kernel)) (pa_cons hs pa_nil hst) hst, fun fp s H => pts_one (ht fp s H), he, fun _ => rfl, fun σ H Q ⟨ι, st, loc, S, L, P⟩ => ?_⟩
  rw [run] at P
  exact src_rng (k := fun loc s => compS (fun x => bnd (run g c' (some x :: loc)) fun z => bnd (ofO (bool? z)) fun k => if k then bnd (run g e' (some x :: loc)) fun y => ret (some y) else ret none) s) ⟨ι, st, loc, S, L, P⟩
    (fun {J s ι ι1 st st1 loc H1} F E S1 L1 P1 => comp_ok (loc := loc) (f := fun loc x => bnd (run g c' (some x :: loc)) fun z => bnd (ofO (bool? z)) fun k => if k then bnd (run g e' (some x :: loc)) fun y => ret (some y) else ret none) elt_if F E S1 L1 P1)
end
theorem cE_marks {T : Tab} {n : Nat} {sc : Scope} {N : List Str} {b : Expr} {x : Ex} (h : cE T n sc N b = some x) (op : CmpOp) : behindInMarks op b = false := by
  cases n with
  | zero => cases h
  | succ n => cases b <;> first | rfl | (simp [cE] at h)
theorem cE_fold {T : Tab} {n : Nat} {sc : Scope} {N : List Str} {b : Expr} {x : Ex} (h : cE T n sc N b = some x) (env : Env) (v : Value) : foldedSetIterable b env v = pure v := by
  cases n with
  | zero => cases h
  | succ n => cases b <;> first | rfl | (simp [cE] at h)
theorem cE_star {T : Tab} {n : Nat} {sc : Scope} {N : List Str} {b : Expr} {x : Ex} (h : cE T n sc N b = some x) (es : List Expr) (env : Env) : starEach (b :: es) env = (false, eval b env) :: starEach es env := by
  cases n with
  | zero => cases h
  | succ n => cases b <;> first | rfl | (simp [cE] at h)
end Ev
set_option Elab.async false
set_option linter.all false
set_option maxRecDepth 100000
set_option maxHeartbeats 8000000
namespace Ev
open PySem PySem.Spec PyProof.Rows L2
section
variable {T : Tab} {g : Fns} {X : Cx} {sc scope : Scope} {N : List Str} {pos px py pt p3 p4 : Pos} {x y : Str}
end
end Ev
set_option Elab.async false
set_option linter.all false
set_option maxRecDepth 100000
set_option maxHeartbeats 8000000
namespace Ev
open PySem PySem.Spec PyProof.Rows L2
theorem DRels.zip {K : PySem.W.Frag} {H : Hp} {ι : Nat → Addr} {m : Nat} : ∀ {ks : List Str} {ds : List D} {vs : List V}, VRels K H ι m ds vs → DRels K H ι m (ks.zip ds) ((ks.zip vs).map fun q => ((Sum.inr q.1 : Key), q.2))
  | [], _, _, _ => .nil
  | _ :: _, _, _, .nil => .nil
  | _ :: _, _, _, .cons h t => .cons h (DRels.zip t)
section
variable {T : Tab} {g : Fns} {X : Cx} {sc : Scope} {N : List Str} {pos p1 p2 q1 q2 : Pos}
theorem base_no {o : Expr} (hk : isNameE o = true) (m : Str) (env : Env) : attributeBase o m env (eval o env) = eval o env := by
  cases o <;> first | rfl | (simp [isNameE] at hk; done)
theorem VRels.dropLast {K : PySem.W.Frag} {H : Hp} {ι : Nat → Addr} {m : Nat} {ds : List D} {vs : List V} (r : VRels K H ι m ds vs) : VRels K H ι m ds.dropLast vs.dropLast := by
  rw [List.dropLast_eq_take, List.dropLast_eq_take, ← r.length]
  exact r.take _
theorem e_popL {o : Expr} {o' : Ex} {m : Str} {ap cp : Pos} (hm : isPop m = true) (hl : (ap.endLine == cp.line) = true) (hb : attributeBase o m X.env (eval o X.env) = eval o X.env) (ho : PE X o (tE X.K (run g o'))) :
    PE X (.Call (.Attribute o m ap) [] [] cp) (tE X.K (run g (.pop o' false))) := by
  have hm : m = "pop" := by simpa [isPop] using hm
  subst hm
  refine (pe_bm0 PySem.F.plainAttrs_list PySem.F.slot_list_pop PySem.F.type_list_pop mt_pop ho hb hl).imp fun σ H Q ⟨ι, st, loc, S, L, P⟩ => ?_
  rw [run] at P
  obtain ⟨x, st1, e1, P⟩ := bnd_inv P
  refine tE_of S L e1 fun H1 ι1 v E1 S1 r1 => ?_
  unfold popD at P
  split at P
  · rename_i n
    split at P
    · rename_i xs q
      rw [if_neg (by decide)] at P
      split at P
      · rename_i y hy
        cases r1 with
        | ref hn =>
          obtain ⟨vs, g1, g2⟩ := S1.ob _ _ q
          obtain ⟨u, hu, ru⟩ := g2.get hy
          obtain ⟨E4, S4⟩ := S1.write q g2.dropLast
          have E4' : Ext H1 (upd H1 (ι1 n) (.lst vs.dropLast)) ι1 ι1 st1.length (st1.set n (O.lst xs.dropLast)).length := by rw [List.length_set]; exact E4
          exact ⟨.inl ⟨rfl, vs, SqL.of g1⟩, _, vs, u, rfl, rfl, g1, by rw [← g2.length]; exact hu, P _ ι1 _ (E1.trans E4') S4 (ru.ext E4')⟩
      · exact P.elim
    · exact P.elim
  · exact P.elim
theorem e_popF {o : Expr} {o' : Ex} {m : Str} {ap cp kp : Pos} {k : Nat} (hm : isPop m = true) (hl : (ap.endLine == cp.line) = true) (hb : attributeBase o m X.env (eval o X.env) = eval o X.env) (ho : PE X o (tE X.K (run g o'))) :
    PE X (.Call (.Attribute o m ap) [.Constant (.int 0) k kp] [] cp) (tE X.K (run g (.pop o' true))) := by
  have hm : m = "pop" := by simpa [isPop] using hm
  subst hm
  refine (pe_bm PySem.F.plainAttrs_list PySem.F.slot_list_pop PySem.F.type_list_pop mt_popAt ho (pa_cons pe_int pa_nil rfl) hb rfl hl rfl rfl).imp fun σ H Q ⟨ι, st, loc, S, L, P⟩ => ?_
  rw [run] at P
  obtain ⟨x, st1, e1, P⟩ := bnd_inv P
  refine tE_of S L e1 fun H1 ι1 v E1 S1 r1 => ?_
  unfold popD at P
  split at P
  · rename_i n
    split at P
    · rename_i xs q
      rw [if_pos rfl] at P
      split at P
      · rename_i y hy
        cases r1 with
        | ref hn =>
          obtain ⟨vs, g1, g2⟩ := S1.ob _ _ q
          obtain ⟨u, hu, ru⟩ := g2.get hy
          have hlen : 0 < vs.length := (List.getElem?_eq_some_iff.mp hu).1
          have hd := g2.drop 1
          obtain ⟨E4, S4⟩ := S1.write q hd
          have E4' : Ext H1 (upd H1 (ι1 n) (.lst (vs.drop 1))) ι1 ι1 st1.length (st1.set n (O.lst (xs.drop 1))).length := by rw [List.length_set]; exact E4
          refine ⟨.inl ⟨rfl, vs, SqL.of g1⟩, _, vs, 0, 0, u, rfl, rfl, g1, by decide, by decide, ?_, hu, ?_⟩
          · simp [seqIndex?, hlen]
          · have z := P _ ι1 _ (E1.trans E4') S4 (ru.ext E4')
            rw [List.drop_one] at z
            rw [List.eraseIdx_zero]
            exact z
      · exact P.elim
    · exact P.elim
  · exact P.elim
noncomputable def rIdx (K : PySem.W.Frag) : V → List V → Hp → VK → Prop := fun x vs H Q => ∃ ι st n ys d v, x = .ref (ι n) ∧ vs = [v] ∧ Sim K H ι st ∧ st[n]? = some (.lst ys) ∧ VRel K H ι st.length d v ∧ anyEq st d ys = some true ∧ ys.length ≤ 1000000 ∧ Q (.int (ys.findIdx fun z => eqD 60 st z d == some true)) H
theorem strs_rel {K : PySem.W.Frag} {H : Hp} {ι : Nat → Addr} {m : Nat} : ∀ {xs : List D} {l : List Str} {vs : List V}, strs? xs = some l → VRels K H ι m xs vs → vs = l.map V.str
  | [], _, _, h, r => by cases h; cases r; rfl
  | x :: xs, l, _, h, r => by
    unfold strs? at h
    split at h
    · rename_i hh; cases hh
    · rename_i z _ hh
      cases hh
      cases q : strs? xs with
      | none => rw [q] at h; cases h
      | some l' =>
        rw [q] at h
        cases h
        cases r with
        | cons h1 t =>
          cases h1
          rw [strs_rel q t]
          rfl
    · cases h
theorem e_join {e : Expr} {e' : Ex} {m : Str} {ap cp kp : Pos} {sep : Str} {k : Nat} (hm : isJoin m = true) (hl : (ap.endLine == cp.line) = true) (he : PE X e (tE X.K (run g e'))) (hst : starEach [e] X.env = [(false, eval e X.env)]) : PE X (.Call (.Attribute (.Constant (.str sep) k kp) m ap) [e] [] cp) (tE X.K (run g (.join sep e'))) := by
  have hm : m = "join" := by simpa [isJoin] using hm
  subst hm
  have sz : sizeLine = 16777216 := sizeLine_eq
  refine (pe_bm PySem.F.plainAttrs_str PySem.F.slot_str_join PySem.F.type_str_join mt_join pe_str (pa_cons he pa_nil hst) rfl (by rw [hst]; rfl) hl hst rfl).imp fun σ H Q ⟨ι, st, loc, S, L, P⟩ => ?_
  rw [run] at P
  obtain ⟨x, st1, e1, P1⟩ := bnd_inv P
  refine ⟨rfl, tE_of S L e1 fun H1 ι1 v E1 S1 r1 => ?_⟩
  · unfold joinD at P1
    split at P1
    · rename_i n
      split at P1
      · rename_i xs q
        split at P1
        · rename_i l hs
          split at P1
          · rename_i hc
            cases r1 with
            | ref hn =>
              obtain ⟨vs, g1, g2⟩ := S1.ob _ _ q
              have := strs_rel hs g2
              subst this
              exact ⟨sep, _, l, rfl, rfl, SqL.of g1, hc.1, by omega, (P1.mono E1).same S1 (.str _)⟩
          · exact P1.elim
        · exact P1.elim
      · exact P1.elim
    · exact P1.elim
noncomputable def SD (T : Tab) (g : Fns) (n : Nat) : Prop := ∀ {X : Cx} {sc : Scope} {N : List Str} {es : List Expr} {xs : List Ex} {ks : List Str} {keys : List (Option Expr)} (pos : Pos), Ctx T g X sc N → cEs T n sc N es = some xs → dkeys keys = some ks → ks.length = es.length →
  ∃ trs, PPs X pos keys es trs ∧ keys.length = es.length ∧ keys.all (·.isSome) = true ∧ ∀ {σ : L2.St} {H : Hp} {ι : Nat → Addr} {st : Sto} {loc : Loc} {ds : List D} {st1 : Sto} {Q : List (V × V) → Hp → Prop}, Sim X.K H ι st → LRel X.K H ι st.length loc σ → runs g xs loc st = .ok ds st1 →
    (∀ H1 ι1 vs, Ext H H1 ι ι1 st.length st1.length → Sim X.K H1 ι1 st1 → VRels X.K H1 ι1 st1.length ds vs → Q ((ks.zip vs).map fun p => (V.str p.1, p.2)) H1) → tPairs trs σ H Q
theorem sd_step {n : Nat} (h : ∀ {X : Cx} {sc : Scope} {N : List Str} {e : Expr} {x : Ex}, Ctx T g X sc N → cE T n sc N e = some x → PE X e (tE X.K (run g x))) (hs : SD T g n) : SD T g (n + 1) := by
  intro X sc N es xs ks keys pos C e hk hl
  unfold cEs at e
  split at e
  · cases e
    have : ks = [] := List.length_eq_zero_iff.mp hl
    subst this
    have : keys = [] := by
      cases keys with
      | nil => rfl
      | cons k r =>
        unfold dkeys at hk
        split at hk
        · rename_i he; exact he
        · rename_i z _ _; cases hq : dkeys _ <;> rw [hq] at hk <;> cases hk
        · cases hk
    subst this
    refine ⟨[], pps_nil, rfl, rfl, fun {σ H ι st loc ds st1 Q} S L e1 k => ?_⟩
    rw [runs] at e1
    cases e1
    exact k H ι [] (Ext.refl _ _ _) S .nil
  · split at e
    · rename_i a0 as0 _ _ e' r' e2 r2
      cases e
      cases keys with
      | nil => cases hk; simp at hl
      | cons k r =>
        unfold dkeys at hk
        split at hk
        · cases hk; simp at hl
        · rename_i kk _ _ rr hke
          cases hke
          cases hq : dkeys r with
          | none => rw [hq] at hk; cases hk
          | some ks2 =>
            rw [hq] at hk
            have hk : kk :: ks2 = ks := Option.some.inj hk
            subst hk
            obtain ⟨trs, h1, h2, h3, h4⟩ := hs pos C r2 hq (by simpa using hl)
            refine ⟨_, pps_cons pe_str (h C e2) h1, by simp [h2], by simp [h3], fun {σ H ι st loc ds st1 Q} S L e1 k => ?_⟩
            rw [runs] at e1
            unfold bnd at e1
            cases e5 : run g e' loc st with
            | bad => rw [e5] at e1; cases e1
            | ok d st2 =>
              rw [e5] at e1
              simp only [bnd] at e1
              cases e6 : runs g r' loc st2 with
              | bad => rw [e6] at e1; cases e1
              | ok ds2 st3 =>
                rw [e6] at e1
                cases e1
                show tE X.K (run g e') σ H _
                exact tE_of S L e5 fun H1 ι1 v E1 S1 r1 => h4 S1 (L.ext E1) e6 fun H2 ι2 vs E2 S2 r2 => k H2 ι2 (v :: vs) (E1.trans E2) S2 (.cons (r1.ext E2) r2)
        · cases hk
    · cases e
theorem e_dict {n : Nat} {k : Option Expr} {ks : List (Option Expr)} {es : List Expr} {ks' : List Str} {xs : List Ex} (hs : SD T g n) (C : Ctx T g X sc N) (hk : dkeys (k :: ks) = some ks') (he : cEs T n sc N es = some xs) (hl : ks'.length = es.length) (h15 : ks'.length ≤ 15) (hn : ks'.Nodup) :
    PE X (.Dict (k :: ks) es pos) (tE X.K (run g (.dict ks' xs))) := by
  obtain ⟨trs, h1, h2, h3, h4⟩ := hs pos C he hk hl
  refine (pe_disp h1 h3 h2 (by simp) (by rw [h2, ← hl]; exact h15)).imp fun σ H Q ⟨ι, st, loc, S, L, P⟩ => ?_
  intro p hp
  rw [run] at P
  obtain ⟨ds, st1, e1, P⟩ := bnd_inv P
  have E0 : Ext H (upd H p (.dK [])) ι ι st.length st.length := ⟨⟨Nat.le_refl _, fun _ _ => rfl, fun b ys e => by rw [upd_ne (ne_of_none e hp)]; exact e, fun b ob u e => by rw [upd_ne (ne_of_none e hp)]; exact e⟩, fun b ob e k => ⟨by rw [upd_ne (ne_of_none e hp)]; exact e, k⟩⟩
  have hap : ∀ n, n < st.length → ι n ≠ p := fun n hn => by obtain ⟨_, h, _⟩ := S.obj hn; exact ne_of_none h hp
  have S0 : Sim X.K (upd H p (.dK [])) ι st := by
    refine ⟨S.inj, fun n o e => ?_⟩
    have hn : n < st.length := (List.getElem?_eq_some_iff.mp e).1
    have old := S.ob n o e
    exact old.move E0.toExt0 (upd_ne (hap n hn))
  refine h4 S0 (L.ext E0) e1 fun H1 ι1 vs E1 S1 r1 => ?_
  obtain ⟨hp1, ap1⟩ := E1.fr p _ upd_same hap
  have lv := r1.length
  unfold allocK at P
  split at P
  · rename_i hkd
    refine ⟨hp1, (ks'.zip vs).map (fun q => ((Sum.inr q.1 : Key), q.2)), ?_, by simp; omega, ?_⟩
    · rw [List.map_map]; rfl
    · have hmk : mergeK [] ((ks'.zip vs).map (fun q => ((Sum.inr q.1 : Key), q.2))) = (ks'.zip vs).map (fun q => ((Sum.inr q.1 : Key), q.2)) := by
        rw [mergeK_disj _ [] ?_ (fun k _ => rfl), List.nil_append]
        rw [List.map_map]
        have e3 : (fun q : Key × V => q.1) ∘ (fun q : Str × V => ((Sum.inr q.1 : Key), q.2)) = (fun s : Str => (Sum.inr s : Key)) ∘ Prod.fst := rfl
        rw [e3, ← List.map_map, List.map_fst_zip (by omega)]
        exact List.Pairwise.map _ (fun a b hab z => hab (Sum.inr.inj z)) hn
      rw [hmk]
      generalize hkv : (ks'.zip vs).map (fun q => ((Sum.inr q.1 : Key), q.2)) = kvs
      have E2 : Ext0 H1 (upd H1 p (.dK kvs)) ι1 ι1 st1.length st1.length := ⟨Nat.le_refl _, fun _ _ => rfl, fun b ys e => by rw [upd_ne (ne_of e hp1 (by intro z; cases z))]; exact e, fun b ob u e => by rw [upd_ne (ne_of e hp1 (by intro z; cases z))]; exact e⟩
      have S2 : Sim X.K (upd H1 p (.dK kvs)) ι1 st1 := by
        refine ⟨S1.inj, fun n o e => ?_⟩
        have hn : n < st1.length := (List.getElem?_eq_some_iff.mp e).1
        have old := S1.ob n o e
        exact old.move E2 (upd_ne (ap1 n hn))
      have rd : DRels X.K (upd H1 p (.dK kvs)) ι1 st1.length (ks'.zip ds) kvs := by
        have q := DRels.zip (ks := ks') (VRels.ext0 E2 r1)
        rw [hkv] at q
        exact q
      obtain ⟨ι', g1, g2, g3⟩ := S2.addD upd_same ap1 rd
      have l : (st1 ++ [O.dct (ks'.zip ds)]).length = st1.length + 1 := by simp
      refine P _ ι' (.ref p) ?_ g3 ?_
      · rw [l]
        have E6 := E0.trans E1
        refine ⟨⟨Nat.le_succ_of_le E6.le, fun n hn => (g1 n (Nat.lt_of_lt_of_le hn E6.le)).trans (E6.ad n hn), fun b ys e => E2.tp b ys (E6.tp b ys e), fun b ob u e => E2.fz b ob u (E6.fz b ob u e)⟩, fun b ob e k => ?_⟩
        obtain ⟨g4, g5⟩ := E6.fr b ob e k
        refine ⟨by rw [upd_ne (ne_of_none e hp)]; exact g4, fun n hn => ?_⟩
        by_cases hn' : n = st1.length
        · rw [hn', g2]; exact (ne_of_none e hp).symm
        · rw [g1 n (by omega)]; exact g5 n (by omega)
      · rw [← g2, l]; exact .ref (Nat.lt_succ_self _)
  · exact P.elim
end
end Ev
set_option Elab.async false
set_option linter.all false
set_option maxRecDepth 100000
set_option maxHeartbeats 8000000
namespace Ev
open PySem PySem.Spec PyProof.Rows L2
section
variable {T : Tab} {g : Fns} {X : Cx} {sc : Scope} {N : List Str} {pos p1 p2 q1 q2 : Pos}
end
end Ev
set_option Elab.async false
set_option linter.all false
set_option maxRecDepth 100000
set_option maxHeartbeats 16000000
namespace Ev
open PySem PySem.Spec PyProof.Rows L2
noncomputable def Plain (es : List Expr) (env : Env) (pos : Pos) : Prop := (backTo pos (starEach es env)).any (·.1) = false
theorem plain_cons {e : Expr} {es : List Expr} {env : Env} {pos : Pos} (h : starEach (e :: es) env = (false, eval e env) :: starEach es env) (k : Plain es env pos) : Plain (e :: es) env pos := by
  unfold Plain at k ⊢
  rw [h]
  simpa [backTo] using k
noncomputable def SE (T : Tab) (g : Fns) (n : Nat) : Prop := ∀ {X : Cx} {sc : Scope} {N : List Str} {e : Expr} {x : Ex}, Ctx T g X sc N → cE T n sc N e = some x → PE X e (tE X.K (run g x)) ∧ PT X e (tT X.K (run g x))
noncomputable def SEs (T : Tab) (g : Fns) (n : Nat) : Prop := ∀ {X : Cx} {sc : Scope} {N : List Str} {es : List Expr} {xs : List Ex}, Ctx T g X sc N → cEs T n sc N es = some xs →
  PA X es (tA X.K (runs g xs)) ∧ es.length = xs.length ∧ (∀ pos, Plain es X.env pos) ∧ ∀ e r, es = e :: r → starEach (e :: r) X.env = (false, eval e X.env) :: starEach r X.env ∧ ∀ pos, Plain r X.env pos
noncomputable def SC (T : Tab) (g : Fns) (n : Nat) : Prop := ∀ {X : Cx} {sc scope : Scope} {N : List Str} {x : Str} {elt src : Expr} {ifs : List Expr} {y : Ex} {px : Pos}, Ctx T g X sc N → compOk sc scope N x = true →
  (cComp T n sc N false src x elt ifs scope = some y → CompD g X x px src ifs elt scope y) ∧
  (∀ p3 p4, isGlob sc "range" = true → cComp T n sc N true src x elt ifs scope = some y → CompD g X x px (.Call (.Name "range" p3) [src] [] p4) ifs elt scope y)
theorem ses_step {T : Tab} {g : Fns} {n : Nat} (h : SE T g n) (hs : SEs T g n) : SEs T g (n + 1) := by
  intro X sc N es xs C e
  unfold cEs at e
  split at e
  · cases e
    refine ⟨pa_nil.imp fun σ H Q ⟨ι, st, loc, S, L, P⟩ => ?_, rfl, fun pos => rfl, fun _ _ z => nomatch z⟩
    rw [runs] at P
    exact P H ι [] (Ext.refl _ _ _) S .nil
  · split at e
    · rename_i a0 as0 _ _ e1 r1 e2 r2
      cases e
      have h1 := h C e2
      obtain ⟨h2, h3, h4, _⟩ := hs C r2
      have st := cE_star e2 as0 X.env
      refine ⟨(pa_cons h1.1 h2 st).imp fun σ H Q ⟨ι, st, loc, S, L, P⟩ => ?_, by simp [h3], fun pos => plain_cons st (h4 pos), fun a b z => by cases z; exact ⟨st, h4⟩⟩
      rw [runs] at P
      obtain ⟨d, st1, e1, P⟩ := bnd_invA (β := D) P
      obtain ⟨ds, st2, e2, P⟩ := bnd_invA (β := D) P
      exact tE_of S L e1 fun H1 ι1 v E1 S1 r1 => tA_of S1 (L.ext E1) e2 fun H2 ι2 vs E2 S2 r2 => P H2 ι2 (v :: vs) (E1.trans E2) S2 (.cons (r1.ext E2) r2)
    · cases e
theorem sc_step {T : Tab} {g : Fns} {n : Nat} (h : SE T g n) : SC T g (n + 1) := by
  intro X sc scope N x elt src ifs y px C hc
  refine ⟨fun e => ?_, fun p3 p4 hg e => ?_⟩
  · unfold cComp at e
    split at e
    · rename_i s' e' e1 e2
      have h1 := h C e1
      have h2 := fun fp s H => (h (ctx_comp C hc fp s H) e2).1
      split at e
      · cases e
        exact e_comp C hc h1.1 h2 (cE_fold e1 X.env)
      · split at e
        · rename_i c' e3
          cases e
          exact e_compIf C hc h1.1 (fun fp s H => (h (ctx_comp C hc fp s H) e3).2) h2 (cE_fold e1 X.env)
        · cases e
      · cases e
    · cases e
  · unfold cComp at e
    split at e
    · rename_i s' e' e1 e2
      have h1 := h C e1
      have h2 := fun fp s H => (h (ctx_comp C hc fp s H) e2).1
      have st := cE_star e1 [] X.env
      split at e
      · cases e
        exact e_compR C hc hg st h1.1 h2
      · split at e
        · rename_i c' e3
          cases e
          exact e_compRIf C hc hg st h1.1 (fun fp s H => (h (ctx_comp C hc fp s H) e3).2) h2
        · cases e
      · cases e
    · cases e
theorem both {X : Cx} {e : Expr} {m : Loc → M D} (h : PE X e (tE X.K m)) (he : ∀ whole, isTrue e X.env whole = (do let v ← whole; standAt e.pos; holding [v] (truthy v))) : PE X e (tE X.K m) ∧ PT X e (tT X.K m) := ⟨h, pt_plain h he⟩
theorem map_some {α β : Type} {f : α → β} {o : Option α} {b : β} (h : o.map f = some b) : ∃ a, o = some a ∧ b = f a := by
  cases o with
  | none => cases h
  | some a => exact ⟨a, rfl, (Option.some.inj h).symm⟩
theorem se_step {T : Tab} {g : Fns} {n : Nat} (h : SE T g n) (hs : SEs T g n) (hc : SC T g n) (hd : SD T g n) : SE T g (n + 1) := by
  intro X sc N e x C ex
  unfold cE at ex
  split at ex
  · split at ex
    · cases ex; exact both (e_const (X := X) (g := g) pe_int (d := .int _) (fun _ _ _ => .int _)) fun _ => rfl
    · cases ex; exact both (e_const (X := X) (g := g) pe_str (d := .str _) (fun _ _ _ => .str _)) fun _ => rfl
    · cases ex; exact both (e_const (X := X) (g := g) pe_bl (d := .bl _) (fun _ _ _ => .bl _)) fun _ => rfl
    · cases ex; exact both (e_const (X := X) (g := g) pe_non (d := .non) (fun _ _ _ => .non)) fun _ => rfl
    · cases ex
  · split at ex
    · rename_i q
      obtain ⟨i, hi, rfl⟩ := map_some ex
      exact both (e_var C hi (.inl q)) fun _ => rfl
    · rename_i q
      obtain ⟨i, hi, rfl⟩ := map_some ex
      exact both (e_var C hi (.inr (.inl q))) fun _ => rfl
    · rename_i q
      obtain ⟨i, hi, rfl⟩ := map_some ex
      exact both (e_var C hi (.inr (.inr q))) fun _ => rfl
    · rename_i q
      obtain ⟨d, hd, rfl⟩ := map_some ex
      obtain ⟨a1, u, v, a2, a3, a4⟩ := C.csts _ _ hd
      exact both (e_const (pe_glob (by show X.env.scope.names.lookup _ = _; rw [C.sc]; exact q) a2 a3 a1) a4) fun _ => rfl
    · cases ex
  · split at ex
    · rename_i hz
      obtain ⟨xs, hx, rfl⟩ := map_some ex
      obtain ⟨h1, h2, _⟩ := hs C hx
      exact both (e_tup h1 hz h2) fun _ => rfl
    · cases ex
  · split at ex
    · rename_i hz
      obtain ⟨xs, hx, rfl⟩ := map_some ex
      obtain ⟨h1, h2, _⟩ := hs C hx
      exact both (e_lst h1 hz h2) fun _ => rfl
    · cases ex
  · split at ex
    · split at ex
      · cases ex; exact both (e_emp (X := X) (g := g)) fun _ => rfl
      · cases ex
    · split at ex
      · rename_i hk he
        split at ex
        · rename_i hl
          cases ex
          exact both (e_dict hd C hk he hl.1 hl.2.1 hl.2.2) fun _ => rfl
        · cases ex
      · cases ex
  · split at ex
    · rename_i e1 e2 e3
      cases ex
      exact both (e_bin e2 (h C e1).1 (h C e3).1) fun _ => rfl
    · cases ex
  · split at ex
    · obtain ⟨a', ha, rfl⟩ := map_some ex
      exact ⟨e_not (h C ha).1, t_not (h C ha).2⟩
    · obtain ⟨a', ha, rfl⟩ := map_some ex
      exact both (e_neg (h C ha).1) fun _ => rfl
    · cases ex
  · split at ex
    · cases ex
    · exact ⟨pe_one (h C ex).1, t_one (h C ex).2⟩
    · split at ex
      · split at ex
        · rename_i e1 e2
          cases ex
          exact ⟨e_and (h C e1).1 (h C e2).1, t_and (h C e1).2 (h C e2).2⟩
        · cases ex
      · split at ex
        · rename_i e1 e2
          cases ex
          exact ⟨e_or (h C e1).1 (h C e2).1, t_or (h C e1).2 (h C e2).2⟩
        · cases ex
  · split at ex
    · split at ex
      · rename_i e1 e2
        cases ex
        exact ⟨e_cmp C.un (cE_marks e2 _) (h C e1).1 (h C e2).1, t_cmp C.un (cE_marks e2 _) (h C e1).1 (h C e2).1⟩
      · cases ex
    · split at ex
      · rename_i e1 e2 e3
        cases ex
        exact ⟨e_chain C.un (cE_marks e3 _) (h C e1).1 (h C e2).1 (h C e3).1, t_chain C.un (cE_marks e3 _) (h C e1).1 (h C e2).1 (h C e3).1⟩
      · cases ex
    · cases ex
  · split at ex
    · rename_i hp
      split at ex
      · rename_i e1 e2
        cases ex
        exact both (e_ix C.un hp (h C e1).1 (h C e2).1) fun _ => rfl
      · cases ex
    · split at ex
      · split at ex
        · cases ex
        · split at ex
          · split at ex
            · cases ex
            · split at ex
              · rename_i e1 e2
                cases ex
                exact both (e_sl (h C e1).1 po_none (po_some (h C e2).1) part_no part_yes) fun _ => rfl
              · cases ex
          · split at ex
            · split at ex
              · rename_i e1 e2
                cases ex
                exact both (e_sl (h C e1).1 (po_some (h C e2).1) po_none part_yes part_no) fun _ => rfl
              · cases ex
            · split at ex
              · rename_i e1 e2 e3
                cases ex
                exact both (e_sl (h C e1).1 (po_some (h C e2).1) (po_some (h C e3).1) part_yes part_yes) fun _ => rfl
              · cases ex
      · cases ex
  · split at ex
    · cases ex
    · split at ex
      · rename_i hfe
        obtain ⟨pfe, rfl⟩ := nm?_inv hfe
        split at ex
        · cases ex
        · rename_i hg
          rw [Bool.not_eq_false] at hg
          split at ex
          · cases ex
          · split at ex
            · rename_i hi
              obtain ⟨xs, hx, rfl⟩ := map_some ex
              obtain ⟨h1, h2, _, h3⟩ := hs C hx
              obtain ⟨h4, h5⟩ := h3 _ _ rfl
              exact both (e_fn C hg hi h1 h2 h4 (h5 _)) fun _ => rfl
            · split at ex
              · rename_i hb
                split at ex
                · rename_i hcm
                  obtain ⟨xs, hx, rfl⟩ := map_some ex
                  obtain ⟨h1, h2, _, h3⟩ := hs C hx
                  obtain ⟨h4, h5⟩ := h3 _ _ rfl
                  exact both (e_bt C hcm hg hb h1 h4 (h5 _)) fun _ => rfl
                · cases ex
              · split at ex
                · rename_i hf
                  subst hf
                  split at ex
                  · split at ex
                    · rename_i hgt
                      split at ex
                      · rename_i ty a' ht ha
                        cases ex
                        exact both (e_isi C hg hgt ht (h C ha).1 (cE_star ha _ _)) fun _ => rfl
                      · cases ex
                    · cases ex
                  · cases ex
                · cases ex
      · split at ex
        · split at ex
          · rename_i hm
            simp only [Bool.and_eq_true] at hm
            split at ex
            · rename_i fr hfr
              obtain ⟨o', ho, rfl⟩ := map_some ex
              unfold popArg at hfr
              split at hfr
              · cases hfr
                exact both (e_popL hm.1.1 hm.1.2 (base_no hm.2 _ _) (h C ho).1) fun _ => rfl
              · split at hfr
                · rename_i hi
                  subst hi
                  cases hfr
                  exact both (e_popF hm.1.1 hm.1.2 (base_no hm.2 _ _) (h C ho).1) fun _ => rfl
                · cases hfr
              · cases hfr
            · cases ex
          · split at ex
            · rename_i hm
              simp only [Bool.and_eq_true] at hm
              split at ex
              · rename_i hsep
                obtain ⟨_, _, rfl⟩ := txtE_inv hsep
                split at ex
                · obtain ⟨e', q, rfl⟩ := map_some ex
                  exact both (e_join hm.1 hm.2 (h C q).1 (cE_star q [] _)) fun _ => rfl
                · cases ex
              · cases ex
            · cases ex
        · cases ex
  · split at ex
    · split at ex
      · rename_i k0
        subst k0
        split at ex
        · rename_i ht
          obtain ⟨_, rfl⟩ := nm?_inv ht
          split at ex
          · rename_i hk
            obtain ⟨hcm, hk⟩ := hk
            split at ex
            · rename_i ra hra
              obtain ⟨_, _, rfl⟩ := call1?_inv hra
              split at ex
              · rename_i hr
                obtain ⟨hr1, hr⟩ := hr
                rw [hr1] at hr ⊢
                exact both (((hc C hk).2 _ _ hr ex).pe C hcm hk) fun _ => rfl
              · exact both (((hc C hk).1 ex).pe C hcm hk) fun _ => rfl
            · exact both (((hc C hk).1 ex).pe C hcm hk) fun _ => rfl
          · cases ex
        · cases ex
      · cases ex
    · cases ex
  · cases ex
theorem sound (T : Tab) (g : Fns) : ∀ n, SE T g n ∧ SEs T g n ∧ SC T g n ∧ SD T g n
  | 0 => by
    refine ⟨?_, ?_, ?_, ?_⟩
    · intro X sc N e x C h
      unfold cE at h
      cases h
    · intro X sc N e x C h
      unfold cEs at h
      cases h
    · intro X sc scope N x elt src ifs y px C hc
      refine ⟨fun h => ?_, fun _ _ _ h => ?_⟩
      · unfold cComp at h
        cases h
      · unfold cComp at h
        cases h
    · intro X sc N es xs ks keys pos C h
      unfold cEs at h
      cases h
  | n + 1 => by
    obtain ⟨a, b, c, d⟩ := sound T g n
    exact ⟨se_step a b c d, ses_step a b, sc_step a, sd_step (fun C e => (a C e).1) d⟩
end Ev
set_option Elab.async false
set_option linter.all false
set_option maxRecDepth 100000
set_option maxHeartbeats 16000000
namespace Ev
open PySem PySem.Spec PyProof.Rows L2
noncomputable def isLocal (sc : Scope) (x : Str) : Bool := sc.names.lookup x == some .local || sc.names.lookup x == some .cell
noncomputable def isComp : Expr → Bool
  | .ListComp .. => true
  | _ => false
noncomputable def isExtend (s : Str) : Bool := s == "extend"
noncomputable def isClear (s : Str) : Bool := s == "clear"
noncomputable def isAppend (s : Str) : Bool := s == "append"
noncomputable def isUpdate (s : Str) : Bool := s == "update"
noncomputable def isNC : Expr → Bool
  | .Name .. => true
  | .Call .. => true
  | .Subscript .. => true
  | _ => false
noncomputable def tixs (sc : Scope) (N : List Str) : List Expr → Option (List Nat)
  | [] => some []
  | .Name x _ :: r => if isLocal sc x then (match ixOf N x, tixs sc N r with
    | some i, some is => some (i :: is)
    | _, _ => none) else none
  | _ :: _ => none
noncomputable def cxCall (T : Tab) (n : Nat) (sc : Scope) (N : List Str) (k : Tg) (e : Expr) : Option S := match e with
  | .Call (.Name f _) (a :: as) [] _ => if isGlob sc f then (match ixOf T.fns f, cEs T n sc N (a :: as) with
    | some i, some as' => some (.callx k i as')
    | _, _ => none) else none
  | _ => none
noncomputable def cX (T : Tab) (n : Nat) (sc : Scope) (N : List Str) (s : Stmt) : Option S := none
noncomputable def Tab.suite (T : Tab) : Tab := { T with fns := [], ini := [], calm := false, rz := false }
mutual
noncomputable def cS (T : Tab) (n : Nat) (sc : Scope) (N : List Str) (s : Stmt) : Option S := match n with
  | 0 => none
  | n + 1 => match (if T.rz = true then cX T n sc N s else none) with
   | some r => some r
   | none => match s with
    | .Assign ts e _ => (match ts with
      | [t] => (match nm? t with
        | some x => if isLocal sc x && !isComp e then (match ixOf N x, cE T n sc N e with
          | some i, some e' => some (.set i e')
          | _, _ => none) else none
        | none => none)
      | _ => none)
    | .AugAssign t op e _ => (match op with
      | .Add => (match nm? t with
        | some x => if isLocal sc x then (match ixOf N x, cE T n sc N e with
          | some i, some e' => some (.aug i e')
          | _, _ => none) else none
        | none => none)
      | _ => none)
    | .Return v _ => (match v with
      | some e => (match cE T n sc N e with
        | some e' => some (.ret e')
        | none => none)
      | none => none)
    | .Expr e _ => (match e with
      | .Call fe args kw cp => (match kw with
        | _ :: _ => none
        | [] => (match fe with
          | .Attribute o m ap => (match args with
            | [] => if isClear m && (ap.endLine == cp.line) && isNameE o then (cE T n sc N o).map .clr else none
            | [e] => if isAppend m && (ap.endLine == cp.line) && isNameE o then (match cE T n sc N o, cE T n sc N e with
                | some o', some e' => some (.app o' e')
                | _, _ => none) else if isExtend m && (ap.endLine == cp.line) && isNameE o then (match cE T n sc N o, cE T n sc N e with
                | some o', some e' => some (.ext o' e')
                | _, _ => none) else none
            | _ => none)
          | _ => none))
      | _ => none)
    | .If c a b _ => match cE T n sc N c, cSs T n sc N a, cSs T n sc N b with
      | some c', some a', some b' => some (.ite c' a' b')
      | _, _, _ => none
    | .For t it body els _ => (match els with
      | _ :: _ => none
      | [] => (match nm? t with
        | some x => if isLocal sc x = true ∧ T.calm = true then (match ixOf N x, cSs T n sc N body with
          | some i, some b' => (match call1? it with
            | some ra => if ra.1 = "range" ∧ isGlob sc ra.1 = true then (cE T n sc N ra.2).map fun a' => .for_ i true a' b' else (cE T n sc N it).map fun a' => .for_ i false a' b'
            | none => (cE T n sc N it).map fun a' => .for_ i false a' b')
          | _, _ => none) else none
        | none => (match t with
          | .Tuple ts _ _ => if T.calm = true then (match tixs sc N ts, cE T n sc N it, cSs T n sc N body with
            | some is, some a', some b' => some (.forU is a' b')
            | _, _, _ => none) else none
          | _ => none)))
    | .While c body els _ => (match els with
      | [] => (match cE T n sc N c, cSs T n sc N body with
        | some c', some b' => some (.whil c' b')
        | _, _ => none)
      | _ :: _ => none)
    | _ => none
noncomputable def cSs (T : Tab) (n : Nat) (sc : Scope) (N : List Str) (ss : List Stmt) : Option (List S) := match n with
  | 0 => none
  | n + 1 => match ss with
    | [] => some []
    | s :: r => match cS T n sc N s, cSs T n sc N r with
      | some s', some r' => some (s' :: r')
      | _, _ => none
end
noncomputable def PostS (K : PySem.W.Frag) (Xw : Addr → L2.St → Hp → Prop) (H : Hp) (ι : Nat → Addr) (st : Sto) (r : R Fl) (D : Ends) : Prop := match r with
  | .ok (.nx loc) st' => ∀ H' ι' σ', Ext H H' ι ι' st.length st'.length → Sim K H' ι' st' → LRel K H' ι' st'.length loc σ' → D.nx σ' H'
  | .ok (.rt d) st' => ∀ H' ι' v, Ext H H' ι ι' st.length st'.length → Sim K H' ι' st' → VRel K H' ι' st'.length d v → D.rt v H'
  | .ok (.ex n loc) st' => ∀ H' ι' σ', Ext H H' ι ι' st.length st'.length → Sim K H' ι' st' → LRel K H' ι' st'.length loc σ' → Xw (ι' n) σ' H'
  | .bad => False
noncomputable def tS (K : PySem.W.Frag) (Xw : Addr → L2.St → Hp → Prop) (m : Loc → M Fl) : TS := fun D σ H => ∃ ι st loc, Sim K H ι st ∧ LRel K H ι st.length loc σ ∧ PostS K Xw H ι st (m loc st) D
section
variable {K : PySem.W.Frag} {Xw : Addr → L2.St → Hp → Prop} {H : Hp} {ι : Nat → Addr} {st : Sto}
theorem bnd_invS {α : Type} {m : M α} {f : α → M Fl} {st0 : Sto} {D : Ends} (P : PostS K Xw H ι st (bnd m f st0) D) : ∃ a st1, m st0 = .ok a st1 ∧ PostS K Xw H ι st (f a st1) D := by
  unfold bnd at P
  cases e : m st0 with
  | ok a st1 => rw [e] at P; exact ⟨a, st1, rfl, P⟩
  | bad => rw [e] at P; exact P.elim
theorem PostS.mono {r : R Fl} {D : Ends} {H1 : Hp} {ι1 : Nat → Addr} {st1 : Sto} (P : PostS K Xw H ι st r D) (E : Ext H H1 ι ι1 st.length st1.length) : PostS K Xw H1 ι1 st1 r D := by
  cases r with
  | ok f st2 =>
    cases f with
    | nx loc => exact fun H' ι' σ' E' S' r' => P H' ι' σ' (E.trans E') S' r'
    | rt d => exact fun H' ι' v E' S' r' => P H' ι' v (E.trans E') S' r'
    | ex n loc => exact fun H' ι' σ' E' S' r' => P H' ι' σ' (E.trans E') S' r'
  | bad => exact P
end
theorem _root_.L2.PS.imp {X : Cx} {s : Stmt} {t t' : TS} (h : PS X s t) (k : ∀ D σ H, t' D σ H → t D σ H) : PS X s t' := fun pins s σ H D I q => h pins s σ H D I (k D σ H q)
theorem _root_.L2.PSs.imp {X : Cx} {s : List Stmt} {t t' : TS} (h : PSs X s t) (k : ∀ D σ H, t' D σ H → t D σ H) : PSs X s t' := fun pins s σ H D I q => h pins s σ H D I (k D σ H q)
section
variable {T : Tab} {g : Fns} {X : Cx} {sc : Scope} {N : List Str} {pos p2 p3 : Pos} {Xw : Addr → L2.St → Hp → Prop}
theorem loc_of (C : Ctx T g X sc N) {x : Str} (h : isLocal sc x = true) : L2.Loc X.env.scope x := by
  show X.env.scope.names.lookup x = _ ∨ X.env.scope.names.lookup x = _
  rw [C.sc]
  simpa [isLocal] using h
theorem rd_set {e' : Ex} {i : Nat} {D : Ends} {σ : L2.St} {H : Hp} (h : tS X.K Xw (exec g (.set i e')) D σ H) : tAsg (tE X.K (run g e')) (gName i) D σ H := by
  obtain ⟨ι, st, loc, S, L, P⟩ := h
  rw [exec] at P
  obtain ⟨d, st1, e1, P⟩ := bnd_invS P
  exact tE_of S L e1 fun H1 ι1 v E1 S1 r1 => P H1 ι1 _ E1 S1 ((L.ext E1).set i r1)
theorem s_ret {e : Expr} {e' : Ex} (he : PE X e (tE X.K (run g e'))) : PS X (.Return (some e) pos) (tS X.K Xw (exec g (.ret e'))) :=
  (ps_ret he).imp fun D σ H ⟨ι, st, loc, S, L, P⟩ => by
    rw [exec] at P
    obtain ⟨d, st1, e1, P⟩ := bnd_invS P
    exact tE_of S L e1 fun H1 ι1 v E1 S1 r1 => P H1 ι1 v E1 S1 r1
theorem s_app {o e : Expr} {o' e' : Ex} {m : Str} {ap cp : Pos} (hm : isAppend m = true) (hl : (ap.endLine == cp.line) = true) (hst : starEach [e] X.env = [(false, eval e X.env)]) (hb : attributeBase o m X.env (eval o X.env) = eval o X.env) (ho : PE X o (tE X.K (run g o'))) (he : PE X e (tE X.K (run g e'))) :
    PS X (.Expr (.Call (.Attribute o m ap) [e] [] cp) pos) (tS X.K Xw (exec g (.app o' e'))) := by
  have hm : m = "append" := by simpa [isAppend] using hm
  subst hm
  refine (ps_expr (pe_bm PySem.F.plainAttrs_list PySem.F.slot_list_append PySem.F.type_list_append mt_append ho (pa_cons he pa_nil hst) hb (by rw [hst]; rfl) hl hst rfl)).imp fun D σ H ⟨ι, st, loc, S, L, P⟩ => ?_
  rw [exec] at P
  obtain ⟨x, st1, e1, P⟩ := bnd_invS P
  obtain ⟨u0, st0, e0, P⟩ := bnd_invS P
  obtain ⟨d, st2, e2, P⟩ := bnd_invS P
  obtain ⟨u, st3, e3, P⟩ := bnd_invS P
  have sz : sizeLine = 16777216 := sizeLine_eq
  unfold append at e3
  split at e3
  · rename_i n z1 z0
    split at e3
    · rename_i xs q
      split at e3
      · rename_i hz
        cases e3
        simp only [lstOk] at e0
        split at e0
        · rename_i zs q0
          cases e0
          refine tE_of S L e1 fun H1 ι1 vx E1 S1 r1 => ?_
          cases r1 with
          | ref hn =>
            obtain ⟨ws, w1, _⟩ := S1.ob _ _ q0
            refine ⟨.inl ⟨rfl, ws, SqL.of w1⟩, tE_of S1 (L.ext E1) e2 fun H2 ι2 v E2 S2 r2 => ?_⟩
            obtain ⟨vs, g1, g2⟩ := S2.ob _ _ q
            have l := g2.length
            have rr := g2.append (.cons r2 .nil)
            obtain ⟨E4, S4⟩ := S2.write q rr
            rw [E2.ad n hn] at g1 E4 S4
            refine ⟨_, _, _, rfl, rfl, g1, by omega, ?_⟩
            have E5 := E1.trans E2
            have E4' : Ext H2 (upd H2 (ι1 n) (.lst (vs ++ [v]))) ι2 ι2 st2.length (st2.set n (O.lst (xs ++ [d]))).length := by rw [List.length_set]; exact E4
            exact P _ ι2 σ (E5.trans E4') S4 ((L.ext E5).ext E4')
        · cases e0
      · cases e3
    · cases e3
  · cases e3
theorem s_ext {o e : Expr} {o' e' : Ex} {m : Str} {ap cp : Pos} (hm : isExtend m = true) (hl : (ap.endLine == cp.line) = true) (hst : starEach [e] X.env = [(false, eval e X.env)]) (hb : attributeBase o m X.env (eval o X.env) = eval o X.env) (ho : PE X o (tE X.K (run g o'))) (he : PE X e (tE X.K (run g e'))) :
    PS X (.Expr (.Call (.Attribute o m ap) [e] [] cp) pos) (tS X.K Xw (exec g (.ext o' e'))) := by
  have hm : m = "extend" := by simpa [isExtend] using hm
  subst hm
  refine (ps_expr (pe_bm PySem.F.plainAttrs_list PySem.F.slot_list_extend PySem.F.type_list_extend mt_extend2 ho (pa_cons he pa_nil hst) hb (by rw [hst]; rfl) hl hst rfl)).imp fun D σ H ⟨ι, st, loc, S, L, P⟩ => ?_
  rw [exec] at P
  obtain ⟨x, st1, e1, P⟩ := bnd_invS P
  obtain ⟨u0, st0, e0, P⟩ := bnd_invS P
  obtain ⟨d, st2, e2, P⟩ := bnd_invS P
  obtain ⟨u, st3, e3, P⟩ := bnd_invS P
  have sz : sizeLine = 16777216 := sizeLine_eq
  cases x with
  | ref n =>
    simp only [lstOk] at e0
    split at e0
    · rename_i zs q0
      cases e0
      refine tE_of S L e1 fun H1 ι1 vx E1 S1 r1 => ?_
      cases r1 with
      | ref hn =>
        obtain ⟨ws, w1, _⟩ := S1.ob _ _ q0
        refine ⟨.inl ⟨rfl, ws, SqL.of w1⟩, tE_of S1 (L.ext E1) e2 fun H2 ι2 v E2 S2 r2 => ?_⟩
        have E5 := E1.trans E2
        unfold extend at e3
        split at e3
        · rename_i n1 m1 zz1
          cases zz1
          split at e3
          · rename_i xs ys q qm
            split at e3
            · rename_i hz
              cases e3
              cases r2 with
              | ref hm2 =>
                obtain ⟨vs, g1, g2⟩ := S2.ob _ _ q
                obtain ⟨us, k1, k2⟩ := S2.ob _ _ qm
                have l := g2.length
                have l2 := k2.length
                obtain ⟨E4, S4⟩ := S2.write q (g2.append k2)
                rw [E2.ad n hn] at g1 E4 S4
                refine ⟨_, _, _, _, rfl, rfl, g1, .inl k1, by omega, ?_⟩
                have E4' : Ext H2 (upd H2 (ι1 n) (.lst (vs ++ us))) ι2 ι2 st2.length (st2.set n (O.lst (xs ++ ys))).length := by rw [List.length_set]; exact E4
                exact P _ ι2 σ (E5.trans E4') S4 ((L.ext E5).ext E4')
            · cases e3
          · cases e3
        · rename_i n1 ys zz1
          cases zz1
          split at e3
          · rename_i xs q
            split at e3
            · rename_i hz
              cases e3
              cases r2 with
              | @tup _ _ us hq k2 =>
                obtain ⟨vs, g1, g2⟩ := S2.ob _ _ q
                have l := g2.length
                have l2 := k2.length
                obtain ⟨E4, S4⟩ := S2.write q (g2.append k2)
                rw [E2.ad n hn] at g1 E4 S4
                refine ⟨_, _, _, _, rfl, rfl, g1, .inr hq, by omega, ?_⟩
                have E4' : Ext H2 (upd H2 (ι1 n) (.lst (vs ++ us))) ι2 ι2 st2.length (st2.set n (O.lst (xs ++ ys))).length := by rw [List.length_set]; exact E4
                exact P _ ι2 σ (E5.trans E4') S4 ((L.ext E5).ext E4')
            · cases e3
          · cases e3
        · cases e3
    · cases e0
  | _ => cases e0
theorem s_clr {o : Expr} {o' : Ex} {m : Str} {ap cp : Pos} (hm : isClear m = true) (hl : (ap.endLine == cp.line) = true) (hb : attributeBase o m X.env (eval o X.env) = eval o X.env) (ho : PE X o (tE X.K (run g o'))) :
    PS X (.Expr (.Call (.Attribute o m ap) [] [] cp) pos) (tS X.K Xw (exec g (.clr o'))) := by
  have hm : m = "clear" := by simpa [isClear] using hm
  subst hm
  refine (ps_expr (pe_bm0 PySem.F.plainAttrs_list PySem.F.slot_list_clear PySem.F.type_list_clear mt_clear ho hb hl)).imp fun D σ H ⟨ι, st, loc, S, L, P⟩ => ?_
  rw [exec] at P
  obtain ⟨x, st1, e1, P⟩ := bnd_invS P
  obtain ⟨u, st3, e3, P⟩ := bnd_invS P
  refine tE_of S L e1 fun H1 ι1 vx E1 S1 r1 => ?_
  unfold clearD at e3
  split at e3
  · rename_i n
    split at e3
    · rename_i xs q
      cases e3
      cases r1 with
      | ref hn =>
        obtain ⟨vs, g1, g2⟩ := S1.ob _ _ q
        obtain ⟨E4, S4⟩ := S1.write q .nil
        have E4' : Ext H1 (upd H1 (ι1 n) (.lst [])) ι1 ι1 st1.length (st1.set n (O.lst [])).length := by rw [List.length_set]; exact E4
        exact ⟨.inl ⟨rfl, vs, SqL.of g1⟩, _, vs, rfl, rfl, g1, P _ ι1 σ (E1.trans E4') S4 ((L.ext E1).ext E4')⟩
    · cases e3
  · cases e3
theorem s_aug {x : Str} {i : Nat} {e : Expr} {e' : Ex} {p : Pos} (hN : X.N.Nodup) (hi : X.N[i]? = some x) (hx : L2.Loc X.env.scope x) (hf : X.fn x = true) (he : PE X e (tE X.K (run g e'))) :
    PS X (.AugAssign (.Name x p) .Add e pos) (tS X.K Xw (exec g (.aug i e'))) := by
  refine (ps_aug hN hi hx he ip_add (.inl hf)).imp fun D σ H ⟨ι, st, loc, S, L, P⟩ => ?_
  rw [exec] at P
  obtain ⟨a, st0, e0, P⟩ := bnd_invS P
  obtain ⟨y, st1, e1, P⟩ := bnd_invS P
  obtain ⟨z, st2, e2, P⟩ := bnd_invS P
  rw [run] at e0
  unfold ofO at e0
  split at e0
  · rename_i d hd
    cases e0
    have hd' : loc[i]? = some (some a) := by
      cases q : loc[i]? with
      | none => rw [q] at hd; cases hd
      | some o => rw [q] at hd; cases o with
        | none => cases hd
        | some w => cases hd; rfl
    obtain ⟨v, hv, r⟩ := L.at_ i _ hd'
    refine ⟨v, hv, tE_of S L e1 fun H1 ι1 w E1 S1 r1 => ?_⟩
    unfold addI at e2
    split at e2
    · cases e2
      cases r
      cases r1
      exact ⟨_, _, rfl, rfl, P _ ι1 _ E1 S1 ((L.ext E1).set i (.int _))⟩
    · cases e2
  · cases e0
theorem s_if {c : Expr} {a b : List Stmt} {c' : Ex} {a' b' : List S} (hc : PT X c (tT X.K (run g c'))) (ha : PSs X a (tS X.K Xw (execs g a'))) (hb : PSs X b (tS X.K Xw (execs g b'))) : PS X (.If c a b pos) (tS X.K Xw (exec g (.ite c' a' b'))) :=
  (ps_if hc ha hb).imp fun D σ H ⟨ι, st, loc, S, L, P⟩ => by
    rw [exec] at P
    obtain ⟨x, st1, e1, P⟩ := bnd_invS P
    obtain ⟨i, st2, e2, P⟩ := bnd_invS P
    obtain ⟨e3, rfl⟩ := ofO_inv e2
    have := bool?_inv e3
    subst this
    refine tT_of S L e1 fun H1 ι1 E1 S1 => ?_
    cases i with
    | true => rw [if_pos rfl]; exact ⟨ι1, st2, loc, S1, L.ext E1, P.mono E1⟩
    | false => rw [if_neg Bool.false_ne_true]; exact ⟨ι1, st2, loc, S1, L.ext E1, P.mono E1⟩
theorem s_whil {c : Expr} {body : List Stmt} {c' : Ex} {b' : List S} (hp : PassesOwn (model X.prog X.w) X.A X.env X.xe) (hc : PT X c (tT X.K (run g c'))) (hb : PSs X body (tS X.K Xw (execs g b'))) : PS X (.While c body [] pos) (tS X.K Xw (exec g (.whil c' b'))) := by
  refine (ps_while hp hc hb).imp fun D σ H ⟨ι, st, loc, S, L, P⟩ => ?_
  rw [exec] at P
  refine ⟨fun m σ2 H2 => ∃ ι2 st2 loc2, Ext H H2 ι ι2 st.length st2.length ∧ Sim X.K H2 ι2 st2 ∧ LRel X.K H2 ι2 st2.length loc2 σ2 ∧ PostS X.K Xw H ι st (whileN (run g c') (execs g b') m loc2 st2) D, ⟨fuel, ι, st, loc, Ext.refl _ _ _, S, L, P⟩, ?_⟩
  rintro m σ2 H2 ⟨ι2, st2, loc2, E2, S2, L2', P2⟩
  cases m with
  | zero => exact P2.elim
  | succ m =>
    rw [whileN] at P2
    obtain ⟨x, st3, e3, P3⟩ := bnd_invS P2
    obtain ⟨b, st4, e4, P4⟩ := bnd_invS P3
    obtain ⟨e5, rfl⟩ := ofO_inv e4
    have := bool?_inv e5
    subst this
    refine tT_of S2 L2' e3 fun H3 ι3 E3 S3 => ?_
    cases b with
    | false =>
      rw [if_neg Bool.false_ne_true]
      exact P4 H3 ι3 σ2 (E2.trans E3) S3 (L2'.ext E3)
    | true =>
      rw [if_pos rfl]
      refine ⟨fun σ4 H4 => ∃ ι4 st5 loc5, Ext H H4 ι ι4 st.length st5.length ∧ Sim X.K H4 ι4 st5 ∧ LRel X.K H4 ι4 st5.length loc5 σ4 ∧ PostS X.K Xw H ι st (whileN (run g c') (execs g b') m loc5 st5) D, fun σ' H' q => ⟨m, Nat.lt_succ_self _, q⟩, ?_⟩
      rw [if_pos rfl] at P4
      obtain ⟨r, st6, e6, P6⟩ := bnd_invS P4
      refine ⟨ι3, st4, loc2, S3, L2'.ext E3, ?_⟩
      rw [e6]
      cases r with
      | nx loc3 => exact fun H4 ι4 σ4 E4 S4 L4 => ⟨ι4, st6, loc3, (E2.trans E3).trans E4, S4, L4, P6⟩
      | rt d => exact fun H4 ι4 w E4 S4 r4 => P6 H4 ι4 w ((E2.trans E3).trans E4) S4 r4
      | ex n l => exact fun H4 ι4 σ4 E4 S4 L4 => P6 H4 ι4 σ4 ((E2.trans E3).trans E4) S4 L4
noncomputable def gNames : List Nat → TGs
  | [] => gNil
  | i :: is => gCons (gName i) (gNames is)
theorem names_pg (C : Ctx T g X sc N) (hfn : ∀ y, X.fn y = true) : ∀ {ts : List Expr} {is : List Nat}, tixs sc N ts = some is → PGs X ts (gNames is) ∧ (assignEach ts X.env).length = is.length ∧ (assignEach ts X.env).findIdx? (·.1) = none
  | [], is, h => by cases h; exact ⟨pgs_nil, rfl, rfl⟩
  | t :: r, is, h => by
    unfold tixs at h
    split at h
    · rename_i hz; cases hz
    · rename_i x px r' he
      cases he
      split at h
      · rename_i hl
        split at h
        · rename_i i is' hi hr
          cases h
          obtain ⟨h1, h2, h3⟩ := names_pg C hfn hr
          refine ⟨pgs_cons (pg_name (i := i) (by rw [C.n]; exact C.nd) (by rw [C.n]; exact ixOf_get hi) (loc_of C hl) (.inl (hfn x))) h1 rfl, ?_, ?_⟩
          · show (assignEach r X.env).length + 1 = is'.length + 1
            rw [h2]
          · show (((false, assign (.Name x px) X.env) :: assignEach r X.env).findIdx? (·.1)) = none
            rw [List.findIdx?_cons, h3]; rfl
        · cases h
      · cases h
    · cases h
theorem names_rd {K : PySem.W.Frag} {H : Hp} {ι : Nat → Addr} {m : Nat} {Q : L2.St → Hp → Prop} : ∀ {is : List Nat} {ds : List D} {vs : List V} {loc : Loc} {σ : L2.St}, VRels K H ι m ds vs → ds.length = is.length → LRel K H ι m loc σ → (∀ σ', LRel K H ι m (setL is ds loc) σ' → Q σ' H) → gNames is vs σ H Q
  | [], _, _, _, _, .nil, _, L, k => ⟨rfl, k _ L⟩
  | i :: is, _, _, _, _, .cons (v := v) (vs := vs) h t, hl, L, k => ⟨v, vs, rfl, names_rd t (by simpa using hl) (L.set i h) k⟩
  | [], _, _, _, _, .cons _ _, hl, _, _ => by simp at hl
  | _ :: _, _, _, _, _, .nil, hl, _, _ => by simp at hl
theorem for_ok {J : It} {s : Src} {H : Hp} {ι : Nat → Addr} {st st0 : Sto} {H0 : Hp} {ι0 : Nat → Addr} {loc : Loc} {σ : L2.St} {D : Ends} {i : Nat} {b' : List S}
    (F : Corr X.K J s H ι st.length) (E0 : Ext H0 H ι0 ι st0.length st.length) (Sm : Sim X.K H ι st) (L : LRel X.K H ι st.length loc σ) (P : PostS X.K Xw H0 ι0 st0 (forS (fun x loc' => execs g b' (loc'.set i (some x))) s loc st) D) :
    ∃ W : Nat → Nat → L2.St → Hp → Prop, (∃ m, W 0 m σ H) ∧ ∀ k m σ H, W k m σ H →
      (J.stop k H ∧ D.nx σ H) ∨ (J.go k H ∧ ∃ Nn : L2.St → Hp → Prop, (∀ σ' H', Nn σ' H' → ∃ m', m' < m ∧ W (k + 1) m' σ' H') ∧ ∀ x H', J.yld k H x H' → gName i x σ H' fun σ2 H2 => tS X.K Xw (execs g b') { D with nx := Nn, ct := Nn, bk := D.nx } σ2 H2) := by
  refine ⟨fun k m σ2 H2 => ∃ ι2 st2 loc2, Ext H H2 ι ι2 st.length st2.length ∧ Sim X.K H2 ι2 st2 ∧ LRel X.K H2 ι2 st2.length loc2 σ2 ∧ PostS X.K Xw H0 ι0 st0 (forN (fun x loc' => execs g b' (loc'.set i (some x))) s m k loc2 st2) D, ⟨lenS s st + 1, ι, st, loc, Ext.refl _ _ _, Sm, L, P⟩, ?_⟩
  rintro k m σ2 H2 ⟨ι2, st2, loc2, E2, S2, L2', P2⟩
  obtain ⟨c1, c2⟩ := F H2 ι2 st2 k E2 S2
  cases m with
  | zero => exact P2.elim
  | succ m =>
    simp only [forN] at P2
    cases en : nxt s k st2 with
    | none => rw [en] at P2; exact P2.elim
    | some ox =>
      rw [en] at P2
      cases ox with
      | none => exact .inl ⟨c1 en, P2 H2 ι2 σ2 (E0.trans E2) S2 L2'⟩
      | some x =>
        obtain ⟨hgo, hyl⟩ := c2 x en
        refine .inr ⟨hgo, fun σ3 H3 => ∃ ι3 st3 loc3, Ext H H3 ι ι3 st.length st3.length ∧ Sim X.K H3 ι3 st3 ∧ LRel X.K H3 ι3 st3.length loc3 σ3 ∧ PostS X.K Xw H0 ι0 st0 (forN (fun x loc' => execs g b' (loc'.set i (some x))) s m (k + 1) loc3 st3) D, fun σ' H' q => ⟨m, Nat.lt_succ_self _, q⟩, fun v H' y => ?_⟩
        obtain ⟨rfl, rv⟩ := hyl v H' y
        obtain ⟨r, st3, e3, P3⟩ := bnd_invS P2
        refine ⟨ι2, st2, loc2.set i (some x), S2, L2'.set i rv, ?_⟩
        rw [e3]
        cases r with
        | nx loc3 => exact fun H3 ι3 σ3 E3 S3 L3 => ⟨ι3, st3, loc3, E2.trans E3, S3, L3, P3⟩
        | rt d => exact fun H3 ι3 w E3 S3 r3 => P3 H3 ι3 w ((E0.trans E2).trans E3) S3 r3
        | ex n l => exact fun H3 ι3 σ3 E3 S3 L3 => P3 H3 ι3 σ3 ((E0.trans E2).trans E3) S3 L3
theorem for_bad {f : D → Loc → M Fl} {loc : Loc} (n : Nat) (st : Sto) (h : ∀ xs, st[n]? ≠ some (.lst xs)) : forS f (.at n) loc st = .bad := by
  unfold forS
  simp only [forN, nxt_bad h]
theorem for_okU {J : It} {s : Src} {H : Hp} {ι : Nat → Addr} {st st0 : Sto} {H0 : Hp} {ι0 : Nat → Addr} {loc : Loc} {σ : L2.St} {D : Ends} {is : List Nat} {b' : List S}
    (F : Corr X.K J s H ι st.length) (E0 : Ext H0 H ι0 ι st0.length st.length) (Sm : Sim X.K H ι st) (L : LRel X.K H ι st.length loc σ) (P : PostS X.K Xw H0 ι0 st0 (forS (fun x loc' => bnd (items? is.length x) fun ds => execs g b' (setL is ds loc')) s loc st) D) :
    ∃ W : Nat → Nat → L2.St → Hp → Prop, (∃ m, W 0 m σ H) ∧ ∀ k m σ H, W k m σ H →
      (J.stop k H ∧ D.nx σ H) ∨ (J.go k H ∧ ∃ Nn : L2.St → Hp → Prop, (∀ σ' H', Nn σ' H' → ∃ m', m' < m ∧ W (k + 1) m' σ' H') ∧ ∀ x H', J.yld k H x H' → gSeq X.K is.length (gNames is) x σ H' fun σ2 H2 => tS X.K Xw (execs g b') { D with nx := Nn, ct := Nn, bk := D.nx } σ2 H2) := by
  refine ⟨fun k m σ2 H2 => ∃ ι2 st2 loc2, Ext H H2 ι ι2 st.length st2.length ∧ Sim X.K H2 ι2 st2 ∧ LRel X.K H2 ι2 st2.length loc2 σ2 ∧ PostS X.K Xw H0 ι0 st0 (forN (fun x loc' => bnd (items? is.length x) fun ds => execs g b' (setL is ds loc')) s m k loc2 st2) D, ⟨lenS s st + 1, ι, st, loc, Ext.refl _ _ _, Sm, L, P⟩, ?_⟩
  rintro k m σ2 H2 ⟨ι2, st2, loc2, E2, S2, L2', P2⟩
  obtain ⟨c1, c2⟩ := F H2 ι2 st2 k E2 S2
  cases m with
  | zero => exact P2.elim
  | succ m =>
    simp only [forN] at P2
    cases en : nxt s k st2 with
    | none => rw [en] at P2; exact P2.elim
    | some ox =>
      rw [en] at P2
      cases ox with
      | none => exact .inl ⟨c1 en, P2 H2 ι2 σ2 (E0.trans E2) S2 L2'⟩
      | some x =>
        obtain ⟨hgo, hyl⟩ := c2 x en
        refine .inr ⟨hgo, fun σ3 H3 => ∃ ι3 st3 loc3, Ext H H3 ι ι3 st.length st3.length ∧ Sim X.K H3 ι3 st3 ∧ LRel X.K H3 ι3 st3.length loc3 σ3 ∧ PostS X.K Xw H0 ι0 st0 (forN (fun x loc' => bnd (items? is.length x) fun ds => execs g b' (setL is ds loc')) s m (k + 1) loc3 st3) D, fun σ' H' q => ⟨m, Nat.lt_succ_self _, q⟩, fun v H' y => ?_⟩
        obtain ⟨rfl, rv⟩ := hyl v H' y
        obtain ⟨r, st3, e3, P3⟩ := bnd_invS P2
        unfold items? at e3
        cases es : seqOf st2 x with
        | none => simp only [bnd, es] at e3; cases e3
        | some xs =>
          by_cases hl : xs.length = is.length
          · have e4 : execs g b' (setL is xs loc2) st2 = .ok r st3 := by
              simp only [bnd, es, if_pos hl] at e3
              exact e3
            obtain ⟨a, vs, rfl, hq, rw'⟩ := rv.seq S2 es
            refine ⟨a, vs, rfl, hq, by rw [← rw'.length]; exact hl, names_rd rw' hl L2' fun σ' L' => ⟨ι2, st2, setL is xs loc2, S2, L', ?_⟩⟩
            rw [e4]
            cases r with
            | nx loc3 => exact fun H3 ι3 σ3 E3 S3 L3 => ⟨ι3, st3, loc3, E2.trans E3, S3, L3, P3⟩
            | rt d => exact fun H3 ι3 w E3 S3 r3 => P3 H3 ι3 w ((E0.trans E2).trans E3) S3 r3
            | ex n l => exact fun H3 ι3 σ3 E3 S3 L3 => P3 H3 ι3 σ3 ((E0.trans E2).trans E3) S3 L3
          · simp only [bnd, es, if_neg hl] at e3
            cases e3
theorem s_forU (hp : PassesOwn (model X.prog X.w) X.A X.env X.xe) (C : Ctx T g X sc N) (hcm : T.calm = true) {ts : List Expr} {is : List Nat} {tk : Nat} {it : Expr} {body : List Stmt} {a' : Ex} {b' : List S} (hfn : ∀ y, X.fn y = true) (ht : tixs sc N ts = some is) (ha : PE X it (tE X.K (run g a'))) (hf : ∀ v, foldedSetIterable it X.env v = pure v) (hb : PSs X body (tS X.K Xw (execs g b'))) :
    PS X (.For (.Tuple ts tk p2) it body [] pos) (tS X.K Xw (exec g (.forU is a' b'))) := by
  obtain ⟨h1, h2, h3⟩ := names_pg C hfn ht
  refine (ps_for hp (C.calm hcm) (pi_seq ha) (pg_seq (C.calm hcm) h1 h2 h3) hb hf).imp fun D σ H ⟨ι, st, loc, S, L, P⟩ => ?_
  rw [exec] at P
  obtain ⟨d, st1, e1, P⟩ := bnd_invS P
  obtain ⟨s, st2, e2, P⟩ := bnd_invS P
  obtain ⟨e3, rfl⟩ := ofO_inv e2
  refine tE_of S L e1 fun H1 ι1 v E1 S1 r1 => ?_
  cases r1 with
  | tup h r => cases e3; exact .inl ⟨_, rfl, .inr ⟨⟨_, h⟩, for_okU (Corr.tup h r) E1 S1 (L.ext E1) P⟩⟩
  | fl h r => cases e3; exact .inl ⟨_, rfl, .inl ⟨⟨_, h.sql⟩, for_okU (Corr.fl h r) E1 S1 (L.ext E1) P⟩⟩
  | str z =>
    simp only [source] at e3
    split at e3
    · cases e3; exact .inr ⟨_, rfl, for_okU Corr.txt E1 S1 (L.ext E1) P⟩
    · cases e3
  | @ref n hn =>
    cases e3
    cases q : st2[n]? with
    | none =>
      rw [for_bad n st2 (fun xs z => by rw [q] at z; cases z)] at P
      exact P.elim
    | some o =>
      cases o with
      | dct kvs =>
        rw [for_bad n st2 (fun xs z => by rw [q] at z; cases z)] at P
        exact P.elim
      | err _ _ _ =>
        rw [for_bad n st2 (fun xs z => by rw [q] at z; cases z)] at P
        exact P.elim
      | edc _ =>
        rw [for_bad n st2 (fun xs z => by rw [q] at z; cases z)] at P
        exact P.elim
      | lst xs =>
        obtain ⟨vs, h1, _⟩ := S1.ob n _ q
        exact .inl ⟨_, rfl, .inl ⟨⟨vs, SqL.of h1⟩, for_okU (Corr.ref hn) E1 S1 (L.ext E1) P⟩⟩
  | _ => cases e3
theorem s_for (hp : PassesOwn (model X.prog X.w) X.A X.env X.xe) (C : Ctx T g X sc N) (hcm : T.calm = true) {x : Str} {it : Expr} {body : List Stmt} {a' : Ex} {b' : List S} {i : Nat} (hx : isLocal sc x = true) (hfn : ∀ y, X.fn y = true) (hi : ixOf N x = some i) (ha : PE X it (tE X.K (run g a'))) (hf : ∀ v, foldedSetIterable it X.env v = pure v) (hb : PSs X body (tS X.K Xw (execs g b'))) :
    PS X (.For (.Name x p2) it body [] pos) (tS X.K Xw (exec g (.for_ i false a' b'))) := by
  refine (ps_for hp (C.calm hcm) (pi_seq ha) (pg_name (i := i) (by rw [C.n]; exact C.nd) (by rw [C.n]; exact ixOf_get hi) (loc_of C hx) (.inl (hfn x))) hb hf).imp fun D σ H ⟨ι, st, loc, S, L, P⟩ => ?_
  rw [exec] at P
  obtain ⟨d, st1, e1, P⟩ := bnd_invS P
  obtain ⟨s, st2, e2, P⟩ := bnd_invS P
  obtain ⟨e3, rfl⟩ := ofO_inv e2
  refine tE_of S L e1 fun H1 ι1 v E1 S1 r1 => ?_
  cases r1 with
  | tup h r => cases e3; exact .inl ⟨_, rfl, .inr ⟨⟨_, h⟩, for_ok (Corr.tup h r) E1 S1 (L.ext E1) P⟩⟩
  | fl h r => cases e3; exact .inl ⟨_, rfl, .inl ⟨⟨_, h.sql⟩, for_ok (Corr.fl h r) E1 S1 (L.ext E1) P⟩⟩
  | str z =>
    simp only [source] at e3
    split at e3
    · cases e3; exact .inr ⟨_, rfl, for_ok Corr.txt E1 S1 (L.ext E1) P⟩
    · cases e3
  | @ref n hn =>
    cases e3
    cases q : st2[n]? with
    | none =>
      rw [for_bad n st2 (fun xs z => by rw [q] at z; cases z)] at P
      exact P.elim
    | some o =>
      cases o with
      | dct kvs =>
        rw [for_bad n st2 (fun xs z => by rw [q] at z; cases z)] at P
        exact P.elim
      | err _ _ _ =>
        rw [for_bad n st2 (fun xs z => by rw [q] at z; cases z)] at P
        exact P.elim
      | edc _ =>
        rw [for_bad n st2 (fun xs z => by rw [q] at z; cases z)] at P
        exact P.elim
      | lst xs =>
        obtain ⟨vs, h1, _⟩ := S1.ob n _ q
        exact .inl ⟨_, rfl, .inl ⟨⟨vs, SqL.of h1⟩, for_ok (Corr.ref hn) E1 S1 (L.ext E1) P⟩⟩
  | _ => cases e3
theorem s_forR (hp : PassesOwn (model X.prog X.w) X.A X.env X.xe) (C : Ctx T g X sc N) (hcm : T.calm = true) {x : Str} {a : Expr} {body : List Stmt} {a' : Ex} {b' : List S} {i : Nat} (hx : isLocal sc x = true) (hfn : ∀ y, X.fn y = true) (hi : ixOf N x = some i) (hg : isGlob sc "range" = true) (hst : starEach [a] X.env = [(false, eval a X.env)]) (ha : PE X a (tE X.K (run g a'))) (hb : PSs X body (tS X.K Xw (execs g b'))) {p4 : Pos} :
    PS X (.For (.Name x p2) (.Call (.Name "range" p3) [a] [] p4) body [] pos) (tS X.K Xw (exec g (.for_ i true a' b'))) := by
  have hgl : Gl X "range" := by
    show X.env.scope.names.lookup _ = some .globalImplicit
    rw [C.sc]
    simpa [isGlob] using hg
  refine (ps_for hp (C.calm hcm) (pi_range1 hgl (C.blt _ (by decide +kernel)) (pa_cons ha pa_nil hst) hst) (pg_name (i := i) (by rw [C.n]; exact C.nd) (by rw [C.n]; exact ixOf_get hi) (loc_of C hx) (.inl (hfn x))) hb).imp fun D σ H ⟨ι, st, loc, S, L, P⟩ => ?_
  rw [exec] at P
  obtain ⟨d, st1, e1, P⟩ := bnd_invS P
  obtain ⟨s, st2, e2, P⟩ := bnd_invS P
  obtain ⟨e3, rfl⟩ := ofO_inv e2
  refine tE_of S L e1 fun H1 ι1 v E1 S1 r1 => ?_
  cases r1 with
  | int j =>
    simp only [source] at e3
    split at e3
    · rename_i hj
      cases e3
      exact ⟨j, rfl, by omega, by omega, for_ok Corr.rng E1 S1 (L.ext E1) P⟩
    · cases e3
  | _ => cases e3
end
end Ev
set_option Elab.async false
set_option linter.all false
set_option maxRecDepth 100000
set_option maxHeartbeats 16000000
namespace Ev
open PySem PySem.Spec PyProof.Rows L2
section
variable {T : Tab} {g : Fns} {X : Cx} {sc : Scope} {N : List Str} {pos p2 p3 : Pos} {Xw : Addr → L2.St → Hp → Prop}
noncomputable def tX (X : Cx) (Xw : Addr → L2.St → Hp → Prop) (m : Loc → M Rs) : TE := fun σ H Q => ∃ ι st loc, Sim X.K H ι st ∧ LRel X.K H ι st.length loc σ ∧ PostF X.K (fun v _ H2 => ∃ a, v = .ref a ∧ Xw a σ H2) H ι st (m loc st) Q
end
end Ev
set_option Elab.async false
set_option linter.all false
set_option maxRecDepth 100000
set_option maxHeartbeats 16000000
namespace Ev
open PySem PySem.Spec PyProof.Rows L2
noncomputable abbrev OwnFrame (X : Cx) : Prop := X.stack = X.env :: X.outer ∧ X.env.frame = some X.env.locals
noncomputable def SS (T : Tab) (g : Fns) (n : Nat) : Prop := ∀ {X : Cx} {sc : Scope} {N : List Str} {s : Stmt} {s' : S} {Xw : Addr → L2.St → Hp → Prop}, Ctx T g X sc N → (∀ y, X.fn y = true) → PassesOwn (model X.prog X.w) X.A X.env X.xe → OwnFrame X → XeOk X Xw → cS T n sc N s = some s' → PS X s (tS X.K Xw (exec g s'))
noncomputable def SSs (T : Tab) (g : Fns) (n : Nat) : Prop := ∀ {X : Cx} {sc : Scope} {N : List Str} {s : List Stmt} {s' : List S} {Xw : Addr → L2.St → Hp → Prop}, Ctx T g X sc N → (∀ y, X.fn y = true) → PassesOwn (model X.prog X.w) X.A X.env X.xe → OwnFrame X → XeOk X Xw → cSs T n sc N s = some s' → PSs X s (tS X.K Xw (execs g s'))
theorem sss_step {T : Tab} {g : Fns} {n : Nat} (h1 : SS T g n) (h2 : SSs T g n) : SSs T g (n + 1) := by
  intro X sc N s s' Xw C hf hp hst hx h
  unfold cSs at h
  split at h
  · cases h
    refine pss_nil.imp fun D σ H ⟨ι, st, loc, S, L, P⟩ => ?_
    rw [execs] at P
    exact P H ι σ (Ext.refl _ _ _) S L
  · split at h
    · rename_i a r _ _ a' r' ea er
      cases h
      refine (pss_cons (h1 C hf hp hst hx ea) (h2 C hf hp hst hx er)).imp fun D σ H ⟨ι, st, loc, S, L, P⟩ => ?_
      rw [execs] at P
      obtain ⟨f, st1, e1, P⟩ := bnd_invS P
      refine ⟨ι, st, loc, S, L, ?_⟩
      rw [e1]
      cases f with
      | nx loc1 => exact fun H1 ι1 σ1 E1 S1 L1 => ⟨ι1, st1, loc1, S1, L1, P.mono E1⟩
      | rt d => exact P
      | ex n l => exact P
    · cases h
theorem swaps_no {T : Tab} {n : Nat} {sc : Scope} {N : List Str} {e : Expr} {e' : Ex} (hk : isComp e = false) (hm : cE T n sc N e = some e') (o : Option Expr) (l : Nat) (env : Env) (ho : o = none ∨ ∃ x p, o = some (.Name x p)) : swapsWith e o l env = pure false := by
  cases n with
  | zero => cases hm
  | succ n =>
    rcases ho with rfl | ⟨x, p, rfl⟩
    · cases e <;> first | rfl | (simp [isComp] at hk; done) | (simp [cE] at hm; done)
    · cases e <;> first | rfl | (simp [isComp] at hk; done) | (simp [cE] at hm; done)
theorem sx_step {T : Tab} {g : Fns} {n : Nat} {X : Cx} {sc : Scope} {N : List Str} {s : Stmt} {s' : S} {Xw : Addr → L2.St → Hp → Prop} (C : Ctx T g X sc N) (hf : ∀ y, X.fn y = true) (hx : XeOk X Xw) (h : cX T n sc N s = some s') : PS X s (tS X.K Xw (exec g s')) := by
  have hN : X.N.Nodup := by rw [C.n]; exact C.nd
  unfold cX at h
  cases h
theorem ss_step {T : Tab} {g : Fns} {n : Nat} (h1 : SS T g n) (h2 : SSs T g n) (h3 : SSs T.suite g n) : SS T g (n + 1) := by
  intro X sc N s s' Xw C hf hp hst hx h
  have snd := sound T g n
  have he := fun {e : Expr} {e' : Ex} (q : cE T n sc N e = some e') => snd.1 C q
  unfold cS at h
  split at h
  · rename_i r hr
    cases h
    split at hr
    · exact sx_step C hf hx hr
    · cases hr
  split at h
  · split at h
    · split at h
      · rename_i ht
        obtain ⟨_, rfl⟩ := nm?_inv ht
        split at h
        · rename_i hl
          simp only [Bool.and_eq_true] at hl
          obtain ⟨hl, h2c⟩ := hl
          split at h
          · rename_i i e' hi hee
            cases h
            exact (ps_set (by rw [C.n]; exact C.nd) (by rw [C.n]; exact ixOf_get hi) (loc_of C hl) (he hee).1 (swaps_no (by simpa using h2c) hee _ _ _ (.inr ⟨_, _, rfl⟩)) (.inl (hf _))).imp fun D σ H q => rd_set q
          · cases h
        · cases h
      · cases h
    · cases h
  · split at h
    · split at h
      · rename_i ht
        obtain ⟨_, rfl⟩ := nm?_inv ht
        split at h
        · rename_i hl
          split at h
          · rename_i i e' hi hee
            cases h
            exact s_aug (by rw [C.n]; exact C.nd) (by rw [C.n]; exact ixOf_get hi) (loc_of C hl) (hf _) (he hee).1
          · cases h
        · cases h
      · cases h
    · cases h
  · split at h
    · split at h
      · rename_i e' q
        cases h
        exact s_ret (he q).1
      · cases h
    · cases h
  · split at h
    · split at h
      · cases h
      · split at h
        · split at h
          · split at h
            · rename_i hm
              simp only [Bool.and_eq_true] at hm
              obtain ⟨o', q, rfl⟩ := map_some h
              exact s_clr hm.1.1 hm.1.2 (base_no hm.2 _ _) (he q).1
            · cases h
          · split at h
            · rename_i hm
              simp only [Bool.and_eq_true] at hm
              split at h
              · rename_i a1 a2
                cases h
                exact s_app hm.1.1 hm.1.2 (cE_star a2 [] _) (base_no hm.2 _ _) (he a1).1 (he a2).1
              · cases h
            · split at h
              · rename_i hm
                simp only [Bool.and_eq_true] at hm
                split at h
                · rename_i a1 a2
                  cases h
                  exact s_ext hm.1.1 hm.1.2 (cE_star a2 [] _) (base_no hm.2 _ _) (he a1).1 (he a2).1
                · cases h
              · cases h
          · cases h
        · cases h
    · cases h
  · split at h
    · rename_i a1 a2 a3
      cases h
      exact s_if (he a1).2 (h2 C hf hp hst hx a2) (h2 C hf hp hst hx a3)
    · cases h
  · split at h
    · cases h
    · split at h
      · rename_i ht
        obtain ⟨_, rfl⟩ := nm?_inv ht
        split at h
        · rename_i hl
          split at h
          · rename_i hi hb
            split at h
            · rename_i ra hra
              obtain ⟨_, _, rfl⟩ := call1?_inv (x := ra.1) (a := ra.2) hra
              split at h
              · rename_i hr
                obtain ⟨hr1, hr⟩ := hr
                rw [hr1] at hr ⊢
                obtain ⟨a', q, rfl⟩ := map_some h
                exact s_forR hp C hl.2 hl.1 hf hi hr (cE_star q [] _) (he q).1 (h2 C hf hp hst hx hb)
              · obtain ⟨a', q, rfl⟩ := map_some h
                exact s_for hp C hl.2 hl.1 hf hi (he q).1 (cE_fold q _) (h2 C hf hp hst hx hb)
            · obtain ⟨a', q, rfl⟩ := map_some h
              exact s_for hp C hl.2 hl.1 hf hi (he q).1 (cE_fold q _) (h2 C hf hp hst hx hb)
          · cases h
        · cases h
      · split at h
        · split at h
          · rename_i hcm
            split at h
            · rename_i ht q hb
              cases h
              exact s_forU hp C hcm hf ht (he q).1 (cE_fold q _) (h2 C hf hp hst hx hb)
            · cases h
          · cases h
        · cases h
  · split at h
    · split at h
      · rename_i hc hb
        cases h
        exact s_whil hp (he hc).2 (h2 C hf hp hst hx hb)
      · cases h
    · cases h
  · cases h
theorem ssound (g : Fns) : ∀ n T, SS T g n ∧ SSs T g n
  | 0, T => by
    refine ⟨?_, ?_⟩
    · intro X sc N s s' Xw C hf hp hst hx h
      unfold cS at h
      cases h
    · intro X sc N s s' Xw C hf hp hst hx h
      unfold cSs at h
      cases h
  | n + 1, T => ⟨ss_step (ssound g n T).1 (ssound g n T).2 (ssound g n T.suite).2, sss_step (ssound g n T).1 (ssound g n T).2⟩
structure Rec where
  name : Str
  fname : Str
  qual : Str
  ps : List Str
  N : List Str
  st : Stmt
  fn : Fn
  rz : Bool
structure Chk (T : Tab) (r : Rec) : Prop where
  sc : FnScope r.N r.ps (defScope r.st)
  nm : ∀ x ∈ r.N, (x == ("__debug__" : Str)) = false ∧ (x == ("__classdict__" : Str)) = false
  cc : cSs { T with rz := r.rz } 100 (defScope r.st) r.N (defBody r.st) = some r.fn.body
  ar : r.fn.ar = r.ps.length
  nl : r.fn.nl = r.N.length
structure Lnk (K : PySem.W.Frag) (r : Rec) (a : Addr) (fd : FuncData) : Prop where
  f : Fun K r.fname r.qual r.st a fd
  b : Binds K fd r.ps []
theorem okE {P : Program} {w : World} {K : PySem.W.Frag} {mg : Str → Option Value} {base : Heap} {x qual : Str} {st : Stmt} {f : Addr} {fd : FuncData} {N ps : List Str} {k : Nat} {sp : Sp} (F : Fun K x qual st f fd) (S : FnScope N ps (defScope st)) (len : ∀ vs H Q E, sp vs H Q E → vs.length = ps.length)
    (hbody : ∀ (cdv : Value) (A : Around) (outer : List Env) (s : Shared) (H : Hp) (vs : List V) (Q : VK) (E : XK), Room k (A.deeper (envOfC qual (defScope st) s.heap.objs.size f cdv)) → sp vs H Q E →
      ∃ t, PSs (cxOf (CXe P w) P w K mg base N qual (defScope st) f cdv A outer s H E) (defBody st) t ∧ t { nx := fun _ H' => Q .non H', rt := Q } (start N vs) H) : FnOk P w K mg base (CXe P w) (k + 1) f fd ps sp := by
  obtain ⟨oc, od, kV, doc, pm, an, cdv, ct, osl, rfl, lk, hcd⟩ := F.ex
  exact fn_of lk hcd S len fun A outer s H vs Q E hr hsp => hbody cdv A outer s H vs Q E hr hsp
theorem calls_bad {recs : List Rec} {T : Tab} {i : Nat} {r : Rec} (hr : recs[i]? = some r) (hc : Chk T r) : ∀ (n : Nat) (ds : List D) (st : Sto), ds.length ≠ r.ps.length → calls (recs.map (·.fn)) n i ds st = .bad
  | 0, _, _, _ => rfl
  | n + 1, ds, st, h => by
    have e : (recs.map (·.fn))[i]? = some r.fn := by rw [List.getElem?_map, hr]; rfl
    simp only [calls, e, callB]
    rw [if_neg (by rw [hc.ar]; exact h)]
    rfl
theorem start_rel {K : PySem.W.Frag} {H : Hp} {ι : Nat → Addr} {m : Nat} {ds : List D} {vs : List V} (r : VRels K H ι m ds vs) (N : List Str) (k : Nat) (hk : k = N.length) : LRel K H ι m (ds.map some ++ List.replicate (k - ds.length) none) (L2.start N vs) := by
  have l := r.length
  refine ⟨by simp [L2.start, l, hk], fun i d e => ?_⟩
  by_cases hi : i < ds.length
  · rw [List.getElem?_append_left (by simpa using hi), List.getElem?_map] at e
    cases q : ds[i]? with
    | none => rw [q] at e; cases e
    | some d' =>
      rw [q] at e
      have e' : d' = d := by simpa using e
      subst e'
      obtain ⟨v, hv, rv⟩ := r.get q
      refine ⟨v, ?_, rv⟩
      unfold L2.start
      rw [List.getElem?_append_left (by simpa [← l] using hi), List.getElem?_map, hv]
      rfl
  · rw [List.getElem?_append_right (by simpa using hi), List.getElem?_replicate] at e
    split at e <;> cases e
structure Facts (K : PySem.W.Frag) (mg : Str → Option Value) (T : Tab) (recs : List Rec) : Prop where
  chk : ∀ r ∈ recs, Chk T r
  calm : T.calm = true
  fns : ∀ (i : Nat) (f : Str), T.fns[i]? = some f → (f == ("__debug__" : Str)) = false ∧ ∃ r a fd, recs[i]? = some r ∧ Lnk K r a fd ∧ mg f = some (.ref a)
  csts : ∀ x d, T.csts.lookup x = some d → (x == ("__debug__" : Str)) = false ∧ ∃ u v, mg x = some u ∧ RelV v u ∧ ∀ H ι m, VRel K H ι m d v
  blt : ∀ x ∈ blts, mg x = none
  cats : ∀ t, t ∈ T.cats → (t == ("__debug__" : Str)) = false ∧ ∃ D, PySem.W.nsIn K mainGlobals t = some (some (.ref D)) ∧ mg t = some (.ref D) ∧ ECat K D
  cls : ∀ x anc, (x, anc) ∈ T.cls → ∃ C, PySem.W.nsIn K mainGlobals x = some (some (.ref C)) ∧ ECls K C ∧ (∀ f ∈ T.flds, PySem.W.findIn K (.ref C) f = some none) ∧
    (∀ t ∈ T.cats, ∀ D, PySem.W.nsIn K mainGlobals t = some (some (.ref D)) → PySem.W.kitOne K (.ref C) (.ref D) = some (anc.contains t) ∧ PySem.W.mroIn K C (.ref D) = some (anc.contains t)) ∧ PySem.W.kitOne K (.ref C) (.type "ValueError") = some (anc.contains "ValueError")
  ini : ∀ (x : Str) (j : Nat), (x, j) ∈ T.ini → (x == ("__debug__" : Str)) = false ∧ ∃ C r a fd, recs[j]? = some r ∧ Lnk K r a fd ∧ PySem.W.nsIn K mainGlobals x = some (some (.ref C)) ∧ mg x = some (.ref C) ∧ EMk K C ∧ PySem.W.mroIn K C (.type "BaseException") = some true ∧ PySem.W.keepIn K (.ref C) = true ∧
    PySem.W.findIn K (.ref C) "__init__" = some (some (.ref a)) ∧ PySem.W.isFn K (.ref a) = true
theorem all_fns {P : Program} {w : World} {K : PySem.W.Frag} {mg : Str → Option Value} {base : Heap} {T : Tab} {recs : List Rec} (Z : Facts K mg T recs) :
    ∀ (n i : Nat) (r : Rec) (a : Addr) (fd : FuncData), recs[i]? = some r → Lnk K r a fd → FnOk P w K mg base (CXe P w) (2 * n) a fd r.ps (spF K r.ps.length (calls (recs.map (·.fn)) n i))
  | 0, i, r, a, fd, hr, L => ⟨fun vs H Q E h => h.1, fun A outer s H args us vs Q E _ _ _ _ h => by
      obtain ⟨_, ι, st, ds, _, _, q⟩ := h
      exact False.elim q⟩
  | n + 1, i, r, a, fd, hr, L => by
    have c := Z.chk r (List.mem_of_getElem? hr)
    refine okE (k := 2 * n + 1) L.f c.sc (fun vs H Q E h => h.1) (fun cdv A outer s H vs Q E hroom h => ?_)
    obtain ⟨hlen, ι, st, ds, S, rv, q⟩ := h
    have un := hroom.un
    have C : Ctx { T with rz := r.rz } (calls (recs.map (·.fn)) n) (cxOf (CXe P w) P w K mg base r.N r.qual (defScope r.st) a cdv A outer s H E) (defScope r.st) r.N := by
      refine ⟨rfl, rfl, c.sc.nd, c.nm, fun _ => rfl, ?_, fun j f hj => ?_, Z.csts, Z.blt, Z.cats, Z.cls, fun x j hj => ?_⟩
      · show (A.deeper _).units + 100 < cLine
        omega
      · obtain ⟨hd, r2, a2, fd2, hr2, L2', hm⟩ := Z.fns j f hj
        exact ⟨hd, a2, fd2, r2.ps, 2 * n, hm, L2'.f.kp, L2'.b, hroom.mono (Nat.le_succ _), calls_bad hr2 (Z.chk r2 (List.mem_of_getElem? hr2)) n, all_fns Z n j r2 a2 fd2 hr2 L2'⟩
      · obtain ⟨hd, C0, r2, a2, fd2, hr2, L2', q1, q2, q3, q4, q5, q6, q7⟩ := Z.ini x j hj
        exact ⟨hd, C0, a2, fd2, r2.ps, 2 * n, q1, q2, q3, q4, q5, q6, q7, L2'.b, hroom, calls_bad hr2 (Z.chk r2 (List.mem_of_getElem? hr2)) n, all_fns Z n j r2 a2 fd2 hr2 L2'⟩
    refine ⟨_, (ssound _ 100 _).2 C (fun _ => rfl) PassesOwn.leaving ⟨rfl, rfl⟩ xeok_body c.cc, ι, st, ds.map some ++ List.replicate (r.fn.nl - ds.length) none, S, start_rel rv _ _ c.nl, ?_⟩
    have e : (recs.map (·.fn))[i]? = some r.fn := by rw [List.getElem?_map, hr]; rfl
    have hd : ds.length = r.fn.ar := by rw [rv.length, hlen, c.ar]
    simp only [calls, e, callB] at q
    rw [if_pos hd] at q
    unfold bnd at q
    cases e1 : execs (calls (recs.map (·.fn)) n) r.fn.body (ds.map some ++ List.replicate (r.fn.nl - ds.length) none) st with
    | bad => rw [e1] at q; exact q.elim
    | ok f st1 =>
      rw [e1] at q
      cases f with
      | nx loc => exact fun H1 ι1 σ1 E1 S1 L1 => q H1 ι1 .non E1 S1 .non
      | rt d => exact q
      | ex m l => exact fun H1 ι1 σ1 E1 S1 L1 => q H1 ι1 E1 S1
noncomputable def spLaw (K : PySem.W.Frag) : Sp := fun vs H Q _ => ∃ (a : Addr) (ns : List Int), vs = [.ref a] ∧ SqL K H a (ns.map V.int) ∧ Only H ∧ ns.length ≤ 63 ∧ ∀ H', Q (.bl true) H'
theorem ints_rel {K : PySem.W.Frag} {H : Hp} {ι : Nat → Addr} {m : Nat} : ∀ ns : List Int, VRels K H ι m (ns.map .int) (ns.map V.int)
  | [] => .nil
  | n :: ns => .cons (.int n) (ints_rel ns)
theorem law_fn {P : Program} {w : World} {K : PySem.W.Frag} {mg : Str → Option Value} {base : Heap} {n : Nat} {a : Addr} {fd : FuncData} {x : Str} {f : List D → M Rs} (F : FnOk P w K mg base (CXe P w) n a fd [x] (spF K 1 f))
    (h : ∀ ns : List Int, ns.length ≤ 63 → ∃ st', f [.fl (ns.map .int)] [] = .ok (.v (.bl true)) st') : FnOk P w K mg base (CXe P w) n a fd [x] (spLaw K) := by
  refine F.imp fun vs H Q E ⟨a, ns, e, hS, hO, hl, q⟩ => ?_
  subst e
  obtain ⟨st', e⟩ := h ns hl
  refine ⟨rfl, fun _ => 0, [], [.fl (ns.map .int)], ⟨fun i _ hi => absurd hi (Nat.not_lt_zero _), fun i o e => by simp at e⟩, .cons (.fl (xs := ns.map V.int) ?_ (ints_rel ns)) .nil, ?_⟩
  · rcases hS with (h | h) | h
    · rcases hO a with z | ⟨o, xs, z⟩
      · rw [h] at z; cases z
      · rw [h] at z; cases z
    · exact .inl h
    · exact .inr h
  · rw [e]
    intro H' ι' v E' S' r
    cases r
    exact q H'
theorem walk {l : PySem.W.OpenLaw} {q : Program} {loose : List Str} {XP : (Str → Option Value) → Heap → Prop} {YP : World → Heap → Prop} {d : DefRec} {K : Params → PySem.W.Frag} {x : Str} {n : Nat} (hn : l.most = some 63) (hdf : d.params.defaults = []) (hr : Room n callerA)
    (hY : ∀ (w : World) (h : Heap), YP w h → (K w.params).In h)
    (F : ∀ (w : World) (mg : Str → Option Value) (fa : Addr) (h : Heap), (K w.params).In h → h.Ns mainGlobals mg → mg d.name = some (.ref fa) →
      ∃ fd : FuncData, (∀ (s : Shared) (u : Value), BindsTo s fd ⟨[u], []⟩ [(x, u)]) ∧ ∀ base : Heap, (K w.params).In base → base.Ns mainGlobals mg → FnOk l.prog w (K w.params) mg base (CXe l.prog w) n fa fd [x] (spLaw (K w.params))) :
    PySem.W.WalkO q loose XP YP l.row.toRowW d [] (fun f vs => PySem.call f vs) :=
  L2.walk_of (n := 63) (k := n) (x := x) (CX := fun w => CXe l.prog w) (sp := fun w => spLaw (K w.params)) hn (by decide) hdf hr hY F (fun _ _ a ns hl hO hS => ⟨a, ns, rfl, hS, hO, hl, fun _ => rfl⟩) fun _ _ _ _ _ ⟨_, _, _, _, _, _, _, _, _, _, _, _, z⟩ => z
end Ev
set_option Elab.async false
set_option linter.all false
set_option maxRecDepth 100000
set_option maxHeartbeats 4000000
namespace Ev
open PySem PySem.Spec PyProof.Rows L2
noncomputable def isBi (o : Option (Option Value)) (s : String) : Bool := match o with
  | some (some (.builtin t)) => t == s
  | _ => false
theorem isBi_ok {o : Option (Option Value)} {s : String} (h : isBi o s = true) : o = some (some (.builtin s)) := by
  unfold isBi at h
  split at h
  · rename_i t
    have : t = s := by simpa using h
    rw [this]
  · cases h
noncomputable def isNo (o : Option (Option Value)) : Bool := match o with
  | some none => true
  | _ => false
theorem isNo_ok {o : Option (Option Value)} (h : isNo o = true) : o = some none := by
  unfold isNo at h
  split at h
  · rfl
  · cases h
noncomputable def isB (o : Option Bool) (b : Bool) : Bool := match o with
  | some c => c == b
  | _ => false
theorem isB_ok {o : Option Bool} {b : Bool} (h : isB o b = true) : o = some b := by
  unfold isB at h
  split at h
  · rename_i c
    have : c = b := by simpa using h
    rw [this]
  · cases h
noncomputable def eclsB (K : PySem.W.Frag) (C : Addr) : Bool :=
  isBi (PySem.W.findIn K (.ref C) "__getattribute__") "BaseException.__getattribute__" && (isNo (PySem.W.findIn K (.ref C) "__getattr__") &&
  (isBi (PySem.W.findIn K (.ref C) "__setattr__") "object.__setattr__" && (isB (PySem.W.mroIn K C (.type "BaseException")) true && (isB (PySem.W.mroIn K C (.type "object")) true &&
  (PySem.W.hasDictIn K C && (isBi (PySem.W.findIn K (.ref C) "__class__") "object.__class__" && (isBi (PySem.W.specialIn K (.builtin "object.__class__") "__get__") "getset_descriptor.__get__" &&
  (isB (PySem.W.takesIn K (.builtin "object.__class__")) true && (PySem.W.clsIn K C).any (fun cd => excMro cd.mro)))))))))
theorem eclsB_ok {K : PySem.W.Frag} {C : Addr} (h : eclsB K C = true) : ECls K C := by
  unfold eclsB at h
  simp only [Bool.and_eq_true] at h
  obtain ⟨h1, h2, h3, h4, h5, h6, h7, h8, h9, h10⟩ := h
  exact ⟨isBi_ok h1, isNo_ok h2, isBi_ok h3, isB_ok h4, isB_ok h5, h6, isBi_ok h7, isBi_ok h8, isB_ok h9, h10⟩
noncomputable def catB (K : PySem.W.Frag) (D : Addr) : Bool := (match K.lookup D with
  | some ⟨.type t, _, .cls _, _⟩ => t == "type"
  | _ => false) && isB (PySem.W.mroIn K D (.type "BaseException")) true
theorem catB_ok {K : PySem.W.Frag} {D : Addr} (h : catB K D = true) : ECat K D := by
  unfold catB at h
  rw [Bool.and_eq_true] at h
  obtain ⟨h1, h2⟩ := h
  refine ⟨?_, isB_ok h2⟩
  split at h1
  · rename_i t d cd sl e
    have : t = "type" := by simpa using h1
    subst this
    exact ⟨_, _, _, e⟩
  · cases h1
noncomputable def atRef (K : PySem.W.Frag) (x : Str) (f : Addr → Bool) : Bool := match PySem.W.nsIn K mainGlobals x with
  | some (some (.ref C)) => f C
  | _ => false
theorem atRef_ok {K : PySem.W.Frag} {x : Str} {f : Addr → Bool} (h : atRef K x f = true) : ∃ C, PySem.W.nsIn K mainGlobals x = some (some (.ref C)) ∧ f C = true := by
  unfold atRef at h
  split at h
  · exact ⟨_, by assumption, h⟩
  · cases h
noncomputable def isFnO (K : PySem.W.Frag) (o : Option (Option Value)) : Bool := match o with
  | some (some v) => PySem.W.isFn K v
  | _ => false
noncomputable def clsB (K : PySem.W.Frag) (T : Tab) : Bool :=
  (T.cats.all fun t => (t == ("__debug__" : Str)) == false && atRef K t (catB K)) &&
  ((T.cls.all fun p => atRef K p.1 fun C => eclsB K C && (T.flds.all (fun f => isNo (PySem.W.findIn K (.ref C) f)) &&
    (T.cats.all (fun t => atRef K t fun D => isB (PySem.W.kitOne K (.ref C) (.ref D)) (p.2.contains t) && isB (PySem.W.mroIn K C (.ref D)) (p.2.contains t)) && isB (PySem.W.kitOne K (.ref C) (.type "ValueError")) (p.2.contains "ValueError")))) &&
  (T.ini.all fun p => atRef K p.1 fun C => isB (PySem.W.mroIn K C (.type "BaseException")) true && (PySem.W.keepIn K (.ref C) && isFnO K (PySem.W.findIn K (.ref C) "__init__"))))
noncomputable def IniOk (K : PySem.W.Frag) (mg : Str → Option Value) (recs : List Rec) (x : Str) (j : Nat) : Prop := (x == ("__debug__" : Str)) = false ∧ ∃ C r a fd, recs[j]? = some r ∧ Lnk K r a fd ∧ PySem.W.nsIn K mainGlobals x = some (some (.ref C)) ∧ mg x = some (.ref C) ∧ EMk K C ∧ PySem.W.mroIn K C (.type "BaseException") = some true ∧ PySem.W.keepIn K (.ref C) = true ∧
    PySem.W.findIn K (.ref C) "__init__" = some (some (.ref a)) ∧ PySem.W.isFn K (.ref a) = true
section
variable {K : PySem.W.Frag} {mg : Str → Option Value} {T : Tab} {recs : List Rec} {h : Heap}
theorem facts_mk (X : K.In h) (G : h.Ns mainGlobals mg) (hc : ∀ r ∈ recs, Chk T r) (hq : T.calm = true) (hlen : T.fns.length ≤ recs.length)
    (hf : ∀ p ∈ List.zip T.fns recs, (p.1 == ("__debug__" : Str)) = false ∧ ∃ a fd, Lnk K p.2 a fd ∧ mg p.1 = some (.ref a))
    (hcs : ∀ x d, T.csts.lookup x = some d → (x == ("__debug__" : Str)) = false ∧ ∃ u v, mg x = some u ∧ RelV v u ∧ ∀ H ι m, VRel K H ι m d v)
    (hb : ∀ x ∈ blts, mg x = none) (hB : clsB K T = true) (hi : ∀ p ∈ T.ini, IniOk K mg recs p.1 p.2) : Facts K mg T recs := by
  have hB' := hB
  unfold clsB at hB'
  simp only [Bool.and_eq_true] at hB'
  obtain ⟨h1, h2, _⟩ := hB'
  refine ⟨hc, hq, ?_, hcs, hb, ?_, ?_, fun x j hm => hi (x, j) hm⟩
  · intro i f e
    have hl : i < recs.length := Nat.lt_of_lt_of_le (List.getElem?_eq_some_iff.mp e).1 hlen
    have er : recs[i]? = some recs[i] := List.getElem?_eq_getElem hl
    have : (f, recs[i]) ∈ List.zip T.fns recs := List.mem_of_getElem? (i := i) (by rw [List.getElem?_zip_eq_some]; exact ⟨e, er⟩)
    obtain ⟨d, a, fd, L, m⟩ := hf _ this
    exact ⟨d, _, a, fd, er, L, m⟩
  · intro t ht
    have q := List.all_eq_true.mp h1 t ht
    simp only [Bool.and_eq_true] at q
    obtain ⟨D, e, qc⟩ := atRef_ok q.2
    exact ⟨by simpa using q.1, D, e, PySem.W.mg_of X G e, catB_ok qc⟩
  · intro x anc hx
    obtain ⟨C, e, q⟩ := atRef_ok (List.all_eq_true.mp h2 (x, anc) hx)
    simp only [Bool.and_eq_true] at q
    obtain ⟨q1, q2, q3, q4⟩ := q
    refine ⟨C, e, eclsB_ok q1, fun f hf => isNo_ok (List.all_eq_true.mp q2 f hf), fun t ht D eD => ?_, isB_ok q4⟩
    obtain ⟨D', eD', qq⟩ := atRef_ok (List.all_eq_true.mp q3 t ht)
    rw [eD] at eD'
    cases eD'
    simp only [Bool.and_eq_true] at qq
    exact ⟨isB_ok qq.1, isB_ok qq.2⟩
end
end Ev
set_option Elab.async false
set_option linter.all false
set_option maxRecDepth 100000
set_option maxHeartbeats 4000000
namespace Ev
open PySem L2
noncomputable def W {α : Type} (r : R α) (Q : α → Sto → Prop) : Prop := match r with
  | .ok a st => Q a st
  | .bad => False
theorem W.mono {α : Type} {r : R α} {Q Q' : α → Sto → Prop} (h : W r Q) (k : ∀ a st, Q a st → Q' a st) : W r Q' := by
  cases r with
  | ok a st => exact k _ _ h
  | bad => exact h
theorem W.get {α : Type} {r : R α} {Q : α → Sto → Prop} (h : W r Q) : ∃ a st, r = .ok a st ∧ Q a st := by
  cases r with
  | ok a st => exact ⟨a, st, rfl, h⟩
  | bad => exact h.elim
noncomputable def Vq (Q : D → Sto → Prop) : Rs → Sto → Prop := fun r st => match r with
  | .v d => Q d st
  | .x _ => False
noncomputable abbrev Wv (r : R Rs) (Q : D → Sto → Prop) : Prop := W r (Vq Q)
theorem w_bnd {α β : Type} {m : M α} {f : α → M β} {st : Sto} {Q : β → Sto → Prop} (h : W (m st) fun a st1 => W (f a st1) Q) : W (bnd m f st) Q := by
  unfold bnd
  cases e : m st with
  | ok a st1 => rw [e] at h; exact h
  | bad => rw [e] at h; exact h
section
variable {g : Fns} {loc : Loc} {st : Sto} {Q : D → Sto → Prop} {a b c : Ex}
theorem w_c {d : D} (h : Q d st) : W (run g (.c d) loc st) Q := by rw [run]; exact h
theorem w_v {i : Nat} {d : D} (e : loc[i]? = some (some d)) (h : Q d st) : W (run g (.v i) loc st) Q := by
  rw [run]; unfold ofO; rw [e]; exact h
theorem w_tup {es : List Ex} (h : W (runs g es loc st) fun ds st1 => Q (.tup ds) st1) : W (run g (.tup es) loc st) Q := by
  rw [run]; exact w_bnd (h.mono fun _ _ q => q)
theorem w_lst {es : List Ex} (h : W (runs g es loc st) fun ds st1 => Q (.ref st1.length) (st1 ++ [.lst ds])) : W (run g (.lst es) loc st) Q := by
  rw [run]; exact w_bnd (h.mono fun _ _ q => q)
theorem w_emp (h : Q (.ref st.length) (st ++ [.dct []])) : W (run g .emp loc st) Q := by rw [run]; exact h
theorem w_bin {op : Bo} (h : W (run g a loc st) fun x st1 => W (run g b loc st1) fun y st2 => W (binop op x y st2) Q) : W (run g (.bin op a b) loc st) Q := by
  rw [run]; exact w_bnd (h.mono fun _ _ q => w_bnd q)
theorem w_neg (h : W (run g a loc st) fun x st1 => ∃ i, x = .int i ∧ Q (.int (-i)) st1) : W (run g (.neg a) loc st) Q := by
  rw [run]; exact w_bnd (h.mono fun _ _ ⟨i, e, q⟩ => by subst e; exact q)
theorem w_not (h : W (run g a loc st) fun x st1 => ∃ k, x = .bl k ∧ Q (.bl (!k)) st1) : W (run g (.not a) loc st) Q := by
  rw [run]; exact w_bnd (h.mono fun _ _ ⟨i, e, q⟩ => by subst e; exact q)
theorem w_or (h : W (run g a loc st) fun x st1 => ∃ k, x = .bl k ∧ (k = true → Q (.bl true) st1) ∧ (k = false → W (run g b loc st1) Q)) : W (run g (.or a b) loc st) Q := by
  rw [run]; exact w_bnd (h.mono fun _ _ ⟨k, e, q1, q2⟩ => by
    subst e
    cases k with
    | true => exact q1 rfl
    | false => exact q2 rfl)
theorem w_cmp {op : CmpOp} (h : W (run g a loc st) fun x st1 => W (run g b loc st1) fun y st2 => W (cmpop op x y st2) Q) : W (run g (.cmp op a b) loc st) Q := by
  rw [run]; exact w_bnd (h.mono fun _ _ q => w_bnd q)
theorem w_chain {op op' : CmpOp} (h : W (run g a loc st) fun x st1 => W (run g b loc st1) fun y st2 => W (cmpop op x y st2) fun z st3 => ∃ k, z = .bl k ∧
    (k = true → W (run g c loc st3) fun w st4 => W (cmpop op' y w st4) Q) ∧ (k = false → Q (.bl false) st3)) : W (run g (.chain op op' a b c) loc st) Q := by
  rw [run]
  exact w_bnd (h.mono fun _ _ q => w_bnd (q.mono fun _ _ q => w_bnd (q.mono fun _ _ ⟨k, e, q1, q2⟩ => by
    subst e
    cases k with
    | true => exact w_bnd (show W ((bnd (run g c loc) fun w => cmpop op' _ w) _) Q from w_bnd (q1 rfl))
    | false => exact q2 rfl)))
theorem w_ix (h : W (run g a loc st) fun x st1 => W (run g b loc st1) fun y st2 => W (index x y st2) Q) : W (run g (.ix a b) loc st) Q := by
  rw [run]; exact w_bnd (h.mono fun _ _ q => w_bnd q)
theorem w_slTo (h : W (run g a loc st) fun x st1 => W (run g b loc st1) fun y st2 => ∃ i, y = .int i ∧ W (slice x none (some i) st2) Q) : W (run g (.sl a b b false true) loc st) Q := by
  rw [run]
  refine w_bnd (h.mono fun _ _ q => w_bnd ?_)
  show W ((bnd (if true = true then bnd (run g b loc) fun z => bnd (ofO (int? z)) fun i => ret (some i) else ret none) fun h => slice _ none h) _) Q
  exact w_bnd (show W ((bnd (run g b loc) fun z => bnd (ofO (int? z)) fun i => ret (some i)) _) _ from w_bnd (q.mono fun _ _ ⟨i, e, q⟩ => by subst e; exact q))
theorem w_slFrom (h : W (run g a loc st) fun x st1 => W (run g b loc st1) fun y st2 => ∃ i, y = .int i ∧ W (slice x (some i) none st2) Q) : W (run g (.sl a b b true false) loc st) Q := by
  rw [run]
  refine w_bnd (h.mono fun _ _ q => w_bnd ?_)
  exact w_bnd (q.mono fun _ _ ⟨i, e, q⟩ => by subst e; exact q)
theorem w_fn {f : Nat} {args : List Ex} (h : W (runs g args loc st) fun ds st1 => Wv (g f ds st1) Q) : W (run g (.fn f args) loc st) Q := by
  rw [run]
  refine w_bnd (h.mono fun ds st1 q => w_bnd (W.mono q fun r st2 q => ?_))
  cases r with
  | v d => exact q
  | x n => exact q.elim
theorem w_bt {f : Bt} {args : List Ex} (h : W (runs g args loc st) fun ds st1 => W (btin f ds st1) Q) : W (run g (.bt f args) loc st) Q := by
  rw [run]; exact w_bnd h
theorem w_isi {t : Ty} (h : W (run g a loc st) fun x st1 => ∃ k, isiD st1 t x = some k ∧ Q (.bl k) st1) : W (run g (.isi a t) loc st) Q := by
  rw [run]; exact w_bnd (h.mono fun _ _ ⟨k, e, q⟩ => by show W (match isiD _ t _ with | some k => R.ok (.bl k) _ | none => .bad) Q; rw [e]; exact q)
theorem w_dict {ks : List Str} {es : List Ex} (h : W (runs g es loc st) fun ds st1 => (ks.length = ds.length ∧ ks.Nodup) ∧ Q (.ref st1.length) (st1 ++ [.dct (ks.zip ds)])) : W (run g (.dict ks es) loc st) Q := by
  rw [run]; exact w_bnd (h.mono fun ds st1 ⟨e, q⟩ => by unfold allocK; rw [if_pos e]; exact q)
theorem w_join {sep : Str} (h : W (run g a loc st) fun x st1 => ∃ n xs l, x = .ref n ∧ st1[n]? = some (.lst xs) ∧ strs? xs = some l ∧ (Builtin.Str.tooLong (l.toArray.foldl (· + ·.length + sep.length) 0) = false ∧ (joined sep l).length ≤ 1000000) ∧ Q (.str (joined sep l)) st1) : W (run g (.join sep a) loc st) Q := by
  rw [run]; exact w_bnd (h.mono fun x st1 ⟨n, xs, l, e, e1, e2, hc, q⟩ => by subst e; simp only [joinD, e1, e2]; rw [if_pos hc]; exact q)
theorem w_popL (h : W (run g a loc st) fun x st1 => ∃ n xs y, x = .ref n ∧ st1[n]? = some (.lst xs) ∧ xs[xs.length - 1]? = some y ∧ Q y (st1.set n (.lst xs.dropLast))) : W (run g (.pop a false) loc st) Q := by
  rw [run]; exact w_bnd (h.mono fun x st1 ⟨n, xs, y, e, e1, e2, q⟩ => by subst e; simp only [popD, e1, e2]; exact q)
theorem w_popF (h : W (run g a loc st) fun x st1 => ∃ n y ys, x = .ref n ∧ st1[n]? = some (.lst (y :: ys)) ∧ Q y (st1.set n (.lst ys))) : W (run g (.pop a true) loc st) Q := by
  rw [run]; exact w_bnd (h.mono fun x st1 ⟨n, y, ys, e, e1, q⟩ => by subst e; simp only [popD, e1]; exact q)
theorem w_comp {rng : Bool} (h : W (run g a loc st) fun d st1 => ∃ s, source rng d = some s ∧ W (compS (fun x => bnd (run g b (some x :: loc)) fun y => ret (some y)) s st1) Q) : W (run g (.comp rng a b) loc st) Q := by
  rw [run]; exact w_bnd (h.mono fun _ _ ⟨s, e, q⟩ => w_bnd (by unfold ofO; rw [e]; exact q))
theorem w_compIf {rng : Bool} (h : W (run g a loc st) fun d st1 => ∃ s, source rng d = some s ∧ W (compS (fun x => bnd (run g c (some x :: loc)) fun z => bnd (ofO (bool? z)) fun k => if k then bnd (run g b (some x :: loc)) fun y => ret (some y) else ret none) s st1) Q) : W (run g (.compIf rng a c b) loc st) Q := by
  rw [run]; exact w_bnd (h.mono fun _ _ ⟨s, e, q⟩ => w_bnd (by unfold ofO; rw [e]; exact q))
end
section
variable {g : Fns} {loc : Loc} {st : Sto} {Q : List D → Sto → Prop}
theorem w_anil (h : Q [] st) : W (runs g [] loc st) Q := by rw [runs]; exact h
theorem w_acons {e : Ex} {es : List Ex} (h : W (run g e loc st) fun d st1 => W (runs g es loc st1) fun ds st2 => Q (d :: ds) st2) : W (runs g (e :: es) loc st) Q := by
  rw [runs]; exact w_bnd (h.mono fun _ _ q => w_bnd (q.mono fun _ _ q => q))
end
section
variable {st : Sto} {Q : D → Sto → Prop} {f : D → M (Option D)}
theorem w_compN {xs : List D} {Q : List D → Sto → Prop} (I : Nat → List D → Sto → Prop) (step : ∀ i x acc st, xs[i]? = some x → I i acc st → W (f x st) fun o st1 => I (i + 1) (match o with | some y => acc ++ [y] | none => acc) st1)
    (fin : ∀ acc st, I xs.length acc st → Q acc st) : ∀ k i acc st, i ≤ xs.length → xs.length < k + i → I i acc st → W (compN f (.its xs) k i acc st) Q
  | 0, i, acc, st, h1, h2, h => by omega
  | k + 1, i, acc, st, h1, h2, h => by
    simp only [compN, nxt]
    cases e : xs[i]? with
    | none =>
      have : i = xs.length := by have := List.getElem?_eq_none_iff.mp e; omega
      subst this
      exact fin acc st h
    | some x =>
      have hi := (List.getElem?_eq_some_iff.mp e).1
      refine w_bnd ((step i x acc st e h).mono fun o st1 q => ?_)
      cases o with
      | none => exact w_compN I step fin k (i + 1) acc st1 hi (by omega) q
      | some y => exact w_compN I step fin k (i + 1) (acc ++ [y]) st1 hi (by omega) q
theorem w_compS {xs : List D} (hl : xs.length ≤ 1000000) (I : Nat → List D → Sto → Prop) (h0 : I 0 [] st) (step : ∀ i x acc st, xs[i]? = some x → I i acc st → W (f x st) fun o st1 => I (i + 1) (match o with | some y => acc ++ [y] | none => acc) st1)
    (fin : ∀ acc st, I xs.length acc st → Q (.ref st.length) (st ++ [.lst acc])) : W (compS f (.its xs) st) Q := by
  unfold compS
  rw [if_pos (show lenS (.its xs) st ≤ 1000000 from hl)]
  refine w_bnd (W.mono (w_compN (Q := fun acc st => Q (.ref st.length) (st ++ [.lst acc])) I step fin (xs.length + 1) 0 [] st (by omega) (by show xs.length < xs.length + 1 + 0; omega) h0) fun acc st q => (show Q (.ref st.length) (st ++ [.lst acc]) from q))
theorem w_compNA {n : Nat} {xs : List D} {Q : List D → Sto → Prop} (I : Nat → List D → Sto → Prop) (keep : ∀ i acc st, I i acc st → st[n]? = some (.lst xs)) (step : ∀ i x acc st, xs[i]? = some x → I i acc st → W (f x st) fun o st1 => I (i + 1) (match o with | some y => acc ++ [y] | none => acc) st1)
    (fin : ∀ acc st, I xs.length acc st → Q acc st) : ∀ k i acc st, i ≤ xs.length → xs.length < k + i → I i acc st → W (compN f (.at n) k i acc st) Q
  | 0, i, acc, st, h1, h2, h => by omega
  | k + 1, i, acc, st, h1, h2, h => by
    simp only [compN, nxt, keep i acc st h]
    cases e : xs[i]? with
    | none =>
      have : i = xs.length := by have := List.getElem?_eq_none_iff.mp e; omega
      subst this
      exact fin acc st h
    | some x =>
      have hi := (List.getElem?_eq_some_iff.mp e).1
      refine w_bnd ((step i x acc st e h).mono fun o st1 q => ?_)
      cases o with
      | none => exact w_compNA I keep step fin k (i + 1) acc st1 hi (by omega) q
      | some y => exact w_compNA I keep step fin k (i + 1) (acc ++ [y]) st1 hi (by omega) q
theorem w_compSA {n : Nat} {xs : List D} (hl : xs.length ≤ 1000000) (hn : st[n]? = some (.lst xs)) (I : Nat → List D → Sto → Prop) (h0 : I 0 [] st) (keep : ∀ i acc st, I i acc st → st[n]? = some (.lst xs)) (step : ∀ i x acc st, xs[i]? = some x → I i acc st → W (f x st) fun o st1 => I (i + 1) (match o with | some y => acc ++ [y] | none => acc) st1)
    (fin : ∀ acc st, I xs.length acc st → Q (.ref st.length) (st ++ [.lst acc])) : W (compS f (.at n) st) Q := by
  have hL : lenS (.at n) st = xs.length := by simp only [lenS, hn]
  unfold compS
  rw [hL, if_pos hl]
  refine w_bnd (W.mono (w_compNA (Q := fun acc st => Q (.ref st.length) (st ++ [.lst acc])) I keep step fin (xs.length + 1) 0 [] st (by omega) (by omega) h0) fun acc st q => (show Q (.ref st.length) (st ++ [.lst acc]) from q))
theorem w_elt {g : Fns} {loc : Loc} {b : Ex} {x : D} {Q : Option D → Sto → Prop} (h : W (run g b (some x :: loc) st) fun y st1 => Q (some y) st1) : W (bnd (run g b (some x :: loc)) (fun y => ret (some y)) st) Q := w_bnd (h.mono fun _ _ q => q)
theorem w_eltIf {g : Fns} {loc : Loc} {c b : Ex} {x : D} {Q : Option D → Sto → Prop} (h : W (run g c (some x :: loc) st) fun z st1 => ∃ k, z = .bl k ∧ (k = true → W (run g b (some x :: loc) st1) fun y st2 => Q (some y) st2) ∧ (k = false → Q none st1)) :
    W (bnd (run g c (some x :: loc)) (fun z => bnd (ofO (bool? z)) fun k => if k then bnd (run g b (some x :: loc)) fun y => ret (some y) else ret none) st) Q :=
  w_bnd (h.mono fun _ _ ⟨k, e, q1, q2⟩ => by
    subst e
    cases k with
    | true => exact w_bnd (w_bnd (q1 rfl))
    | false => exact w_bnd (q2 rfl))
end
noncomputable def Kn (g : Fns) (ss : List S) (Q : Fl → Sto → Prop) : Fl → Sto → Prop := fun r st => match r with
  | .nx loc => W (execs g ss loc st) Q
  | .rt d => Q (.rt d) st
  | .ex n l => Q (.ex n l) st
noncomputable def Kr (Q : D → Sto → Prop) : Fl → Sto → Prop := fun r st => match r with
  | .nx _ => Q .non st
  | .rt d => Q d st
  | .ex _ _ => False
noncomputable def Kx (Q : Rs → Sto → Prop) : Fl → Sto → Prop := fun r st => match r with
  | .nx _ => Q (.v .non) st
  | .rt d => Q (.v d) st
  | .ex n _ => Q (.x n) st
section
variable {g : Fns} {loc : Loc} {st : Sto} {Q : Fl → Sto → Prop} {ss : List S} {e o i c : Ex}
theorem kn_nx (h : W (execs g ss loc st) Q) : Kn g ss Q (.nx loc) st := h
theorem kn_rt {d : D} (h : Q (.rt d) st) : Kn g ss Q (.rt d) st := h
theorem kr_rt {Q : D → Sto → Prop} {d : D} (h : Q d st) : Kr Q (.rt d) st := h
theorem w_snil (h : Q (.nx loc) st) : W (execs g [] loc st) Q := by rw [execs]; exact h
theorem w_scons {s : S} (h : W (exec g s loc st) (Kn g ss Q)) : W (execs g (s :: ss) loc st) Q := by
  rw [execs]
  refine w_bnd (h.mono fun r st1 q => ?_)
  cases r with
  | nx loc' => exact q
  | rt d => exact q
  | ex n l => exact q
noncomputable def Kt (g : Fns) (yes : List Str) (i : Nat) (suite : List S) (Q : Fl → Sto → Prop) : Fl → Sto → Prop := fun r st => match r with
  | .nx l => Q (.nx l) st
  | .rt d => Q (.rt d) st
  | .ex n l => ∃ x d, st[n]? = some (.err x d true) ∧ x ∈ yes ∧ W (execs g suite (l.set i (some (.ref n))) st) fun r st1 => match r with
    | .nx l2 => Q (.nx (l2.set i none)) st1
    | .rt d => Q (.rt d) st1
    | .ex _ _ => False
theorem w_set {n : Nat} (h : W (run g e loc st) fun d st1 => W (execs g ss (loc.set n (some d)) st1) Q) : W (execs g (.set n e :: ss) loc st) Q :=
  w_scons (by rw [exec]; exact w_bnd (h.mono fun _ _ q => q))
theorem w_ret (h : W (run g e loc st) fun d st1 => Q (.rt d) st1) : W (execs g (.ret e :: ss) loc st) Q :=
  w_scons (by rw [exec]; exact w_bnd (h.mono fun _ _ q => q))
theorem w_app (h : W (run g o loc st) fun x st1 => W (lstOk x st1) fun _ st2 => W (run g e loc st2) fun d st3 => W (append x d st3) fun _ st4 => W (execs g ss loc st4) Q) : W (execs g (.app o e :: ss) loc st) Q :=
  w_scons (by rw [exec]; exact w_bnd (h.mono fun _ _ q => w_bnd (q.mono fun _ _ q => w_bnd (q.mono fun _ _ q => w_bnd (q.mono fun _ _ q => q)))))
theorem w_whileN {c : Loc → M D} {f : Loc → M Fl} (I : Nat → Loc → Sto → Prop) (turn : ∀ m loc st, I m loc st → W (c loc st) fun x st1 => ∃ b, x = .bl b ∧ (b = true → ∃ m', m = m' + 1 ∧ W (f loc st1) fun r st2 => match r with | .nx loc' => I m' loc' st2 | .rt d => Q (.rt d) st2 | .ex n l => Q (.ex n l) st2) ∧ (b = false → Q (.nx loc) st1)) :
    ∀ k m loc st, m < k → I m loc st → W (whileN c f k loc st) Q
  | 0, m, loc, st, h1, h => by omega
  | k + 1, m, loc, st, h1, h => by
    rw [whileN]
    refine w_bnd ((turn m loc st h).mono fun x st1 ⟨b, e, q1, q2⟩ => ?_)
    subst e
    cases b with
    | false => exact q2 rfl
    | true =>
      obtain ⟨m', rfl, q⟩ := q1 rfl
      refine w_bnd (show W ((if true = true then bnd (f loc) _ else _) st1) _ from w_bnd (q.mono fun r st2 q => ?_))
      cases r with
      | nx loc' => exact w_whileN I turn k m' loc' st2 (by omega) q
      | rt d => exact q
      | ex n l => exact q
theorem w_if {x y : List S} (h : W (run g c loc st) fun z st1 => ∃ k, z = .bl k ∧ (k = true → W (execs g x loc st1) (Kn g ss Q)) ∧ (k = false → W (execs g y loc st1) (Kn g ss Q))) : W (execs g (.ite c x y :: ss) loc st) Q :=
  w_scons (by
    rw [exec]
    exact w_bnd (h.mono fun _ _ ⟨k, e, q1, q2⟩ => by
      subst e
      cases k with
      | true => exact q1 rfl
      | false => exact q2 rfl))
theorem w_forN {f : D → Loc → M Fl} {xs : List D} (I : Nat → Loc → Sto → Prop) (step : ∀ i x loc st, xs[i]? = some x → I i loc st → W (f x loc st) fun r st1 => match r with | .nx loc' => I (i + 1) loc' st1 | .rt d => Q (.rt d) st1 | .ex n l => Q (.ex n l) st1)
    (fin : ∀ loc st, I xs.length loc st → Q (.nx loc) st) : ∀ k i loc st, i ≤ xs.length → xs.length < k + i → I i loc st → W (forN f (.its xs) k i loc st) Q
  | 0, i, acc, st, h1, h2, h => by omega
  | k + 1, i, loc, st, h1, h2, h => by
    simp only [forN, nxt]
    cases e : xs[i]? with
    | none =>
      have : i = xs.length := by have := List.getElem?_eq_none_iff.mp e; omega
      subst this
      exact fin loc st h
    | some x =>
      have hi := (List.getElem?_eq_some_iff.mp e).1
      refine w_bnd ((step i x loc st e h).mono fun r st1 q => ?_)
      cases r with
      | nx loc' => exact w_forN I step fin k (i + 1) loc' st1 hi (by omega) q
      | rt d => exact q
      | ex n l => exact q
noncomputable def Kf (I : Loc → Sto → Prop) (Q : Fl → Sto → Prop) : Fl → Sto → Prop := fun r st => match r with
  | .nx loc => I loc st
  | .rt d => Q (.rt d) st
  | .ex n l => Q (.ex n l) st
theorem kf_nx {I : Loc → Sto → Prop} (h : I loc st) : Kf I Q (.nx loc) st := h
theorem w_for {n : Nat} {rng : Bool} {body : List S} (I : List D → Nat → Loc → Sto → Prop)
    (h : W (run g e loc st) fun d st1 => ∃ xs, source rng d = some (.its xs) ∧ I xs 0 loc st1 ∧ (∀ i x loc st, xs[i]? = some x → I xs i loc st → W (execs g body (loc.set n (some x)) st) (Kf (I xs (i + 1)) (Kn g ss Q))) ∧ ∀ loc st, I xs xs.length loc st → W (execs g ss loc st) Q) :
    W (execs g (.for_ n rng e body :: ss) loc st) Q := by
  refine w_scons ?_
  rw [exec]
  refine w_bnd (h.mono fun d st1 ⟨xs, hs, h0, step, fin⟩ => w_bnd ?_)
  unfold ofO
  rw [hs]
  show W (forS _ (.its xs) loc st1) _
  unfold forS
  refine w_forN (I xs) (fun i x loc st e q => (step i x loc st e q).mono fun r st1 q => ?_) fin _ 0 loc st1 (by omega) (by show xs.length < xs.length + 1 + 0; omega) h0
  cases r with
  | nx loc' => exact q
  | rt d => exact q
  | ex n l => exact q
end
section
variable {g : Fns} {loc : Loc} {st : Sto} {Q : Fl → Sto → Prop} {ss : List S} {e : Ex}
theorem w_forNA {f : D → Loc → M Fl} {n : Nat} {xs : List D} (I : Nat → Loc → Sto → Prop) (keep : ∀ i loc st, I i loc st → st[n]? = some (.lst xs)) (step : ∀ i x loc st, xs[i]? = some x → I i loc st → W (f x loc st) fun r st1 => match r with | .nx loc' => I (i + 1) loc' st1 | .rt d => Q (.rt d) st1 | .ex n l => Q (.ex n l) st1)
    (fin : ∀ loc st, I xs.length loc st → Q (.nx loc) st) : ∀ k i loc st, i ≤ xs.length → xs.length < k + i → I i loc st → W (forN f (.at n) k i loc st) Q
  | 0, i, acc, st, h1, h2, h => by omega
  | k + 1, i, loc, st, h1, h2, h => by
    simp only [forN, nxt, keep i loc st h]
    cases e : xs[i]? with
    | none =>
      have : i = xs.length := by have := List.getElem?_eq_none_iff.mp e; omega
      subst this
      exact fin loc st h
    | some x =>
      have hi := (List.getElem?_eq_some_iff.mp e).1
      refine w_bnd ((step i x loc st e h).mono fun r st1 q => ?_)
      cases r with
      | nx loc' => exact w_forNA I keep step fin k (i + 1) loc' st1 hi (by omega) q
      | rt d => exact q
      | ex n l => exact q
theorem w_forA {m : Nat} {body : List S} (I : Nat → List D → Nat → Loc → Sto → Prop)
    (h : W (run g e loc st) fun d st1 => ∃ n xs, d = .ref n ∧ st1[n]? = some (.lst xs) ∧ I n xs 0 loc st1 ∧ (∀ i loc st, I n xs i loc st → st[n]? = some (.lst xs)) ∧ (∀ i x loc st, xs[i]? = some x → I n xs i loc st → W (execs g body (loc.set m (some x)) st) (Kf (I n xs (i + 1)) (Kn g ss Q))) ∧ ∀ loc st, I n xs xs.length loc st → W (execs g ss loc st) Q) :
    W (execs g (.for_ m false e body :: ss) loc st) Q := by
  refine w_scons ?_
  rw [exec]
  refine w_bnd (h.mono fun d st1 ⟨n, xs, hd, hn, h0, keep, step, fin⟩ => w_bnd ?_)
  subst hd
  show W (forS _ (.at n) loc st1) _
  have hL : lenS (.at n) st1 = xs.length := by simp only [lenS, hn]
  unfold forS
  rw [hL]
  refine w_forNA (I n xs) keep (fun i x loc st e q => (step i x loc st e q).mono fun r st1 q => ?_) fin _ 0 loc st1 (by omega) (by omega) h0
  cases r with
  | nx loc' => exact q
  | rt d => exact q
  | ex n l => exact q
end
theorem w_whil {g : Fns} {loc : Loc} {st : Sto} {Q : Fl → Sto → Prop} {ss body : List S} {c : Ex} (I : Nat → Loc → Sto → Prop) (m : Nat) (hm : m < 1000000000) (h0 : I m loc st) (turn : ∀ m loc st, I m loc st → W (run g c loc st) fun x st1 => ∃ b, x = .bl b ∧ (b = true → ∃ m', m = m' + 1 ∧ W (execs g body loc st1) (Kf (I m') (Kn g ss Q))) ∧ (b = false → W (execs g ss loc st1) Q)) :
    W (execs g (.whil c body :: ss) loc st) Q := by
  refine w_scons ?_
  rw [exec]
  refine w_whileN I (fun m loc st h => (turn m loc st h).mono fun x st1 ⟨b, e, q1, q2⟩ => ⟨b, e, fun hb => ?_, q2⟩) fuel m loc st hm h0
  obtain ⟨m', e, q⟩ := q1 hb
  refine ⟨m', e, q.mono fun r st2 q => ?_⟩
  cases r with
  | nx loc' => exact q
  | rt d => exact q
  | ex n l => exact q
theorem w_call {tab : List Fn} {k f : Nat} {fn : Fn} {ds : List D} {st : Sto} {Q : D → Sto → Prop} (hf : tab[f]? = some fn) (hl : ds.length = fn.ar) (h : W (execs (calls tab k) fn.body (ds.map some ++ List.replicate (fn.nl - ds.length) none) st) (Kr Q)) : Wv (calls tab (k + 1) f ds st) Q := by
  simp only [Wv, calls, hf, callB, if_pos hl]
  refine w_bnd (h.mono fun r st1 q => ?_)
  cases r with
  | nx loc' => exact q
  | rt d => exact q
  | ex n l => exact q.elim
section
variable {st : Sto} {Q : D → Sto → Prop} {i j : Int}
theorem w_add (h : Q (.int (i + j)) st) : W (binop .add (.int i) (.int j) st) Q := h
theorem w_sub (h : Q (.int (i - j)) st) : W (binop .sub (.int i) (.int j) st) Q := h
theorem w_mul (hb : (-18446744073709551616 < i ∧ i < 18446744073709551616) ∨ (-18446744073709551616 < j ∧ j < 18446744073709551616)) (h : Q (.int (i * j)) st) : W (binop .mul (.int i) (.int j) st) Q := by
  simp only [binop]; rw [if_pos (.inl (show (-big < i ∧ i < big) ∨ (-big < j ∧ j < big) from hb))]; exact h
theorem w_mod (hb : 0 < j) (h : Q (.int (i % j)) st) : W (binop .mod (.int i) (.int j) st) Q := by
  simp only [binop]; rw [if_pos (by omega), Int.fmod_eq_emod_of_nonneg i (by omega)]; exact h
theorem w_fdiv (hb : 0 < j ∧ j < 4611686018427387904) (h : Q (.int (i / j)) st) : W (binop .fdiv (.int i) (.int j) st) Q := by
  simp only [binop]
  rw [if_pos ⟨by omega, Nat.lt_of_lt_of_le (show j.natAbs < 4611686018427387904 by omega) (by decide)⟩, Int.fdiv_eq_ediv_of_nonneg i (by omega)]; exact h
theorem w_pow (hb : 0 ≤ j ∧ j ≤ 1000 ∧ i.natAbs < 1000) (h : Q (.int (i ^ j.toNat)) st) : W (binop .pow (.int i) (.int j) st) Q := by
  simp only [binop]; rw [if_pos hb]; exact h
theorem w_catT {as bs : List D} (ha : as ≠ []) (hb : as.length + bs.length ≤ 1000000) (h : Q (.tup (as ++ bs)) st) : W (binop .add (.tup as) (.tup bs) st) Q := by
  cases as with
  | nil => exact absurd rfl ha
  | cons a as => simp only [binop]; rw [if_pos hb]; exact h
theorem w_catL {m n : Nat} {as bs : List D} (hm : st[m]? = some (.lst as)) (hn : st[n]? = some (.lst bs)) (hb : as.length + bs.length ≤ 1000000) (h : Q (.ref st.length) (st ++ [.lst (as ++ bs)])) : W (binop .add (.ref m) (.ref n) st) Q := by
  simp only [binop, hm, hn]; rw [if_pos hb]; exact h
theorem w_eq {x y : D} {k : Bool} (e : eqD 60 st x y = some k) (h : Q (.bl k) st) : W (cmpop .Eq x y st) Q := by simp only [cmpop, e]; exact h
theorem w_ne {x y : D} {k : Bool} (e : eqD 60 st x y = some k) (h : Q (.bl (!k)) st) : W (cmpop .NotEq x y st) Q := by simp only [cmpop, e]; exact h
theorem w_eqI (h : Q (.bl (decide (i = j))) st) : W (cmpop .Eq (.int i) (.int j) st) Q := w_eq (k := decide (i = j)) (by simp [eqD, shape, eqV]; rfl) h
theorem w_neI (h : Q (.bl (!decide (i = j))) st) : W (cmpop .NotEq (.int i) (.int j) st) Q := w_ne (k := decide (i = j)) (by simp [eqD, shape, eqV]; rfl) h
theorem w_lt (h : Q (.bl (decide (i < j))) st) : W (cmpop .Lt (.int i) (.int j) st) Q := h
theorem w_le (h : Q (.bl (decide (i ≤ j))) st) : W (cmpop .LtE (.int i) (.int j) st) Q := h
theorem w_gt (h : Q (.bl (decide (j < i))) st) : W (cmpop .Gt (.int i) (.int j) st) Q := h
theorem w_is {x y : D} {k : Bool} (e : isD x y = some k) (h : Q (.bl k) st) : W (cmpop .Is x y st) Q := by simp only [cmpop, e]; exact h
theorem w_ixT {xs : List D} {d : D} (e : atI xs i = some d) (h : Q d st) : W (index (.tup xs) (.int i) st) Q := by simp only [index, seqOf, e]; exact h
theorem w_ixL {xs : List D} {n : Nat} {d : D} (hn : st[n]? = some (.lst xs)) (e : atI xs i = some d) (h : Q d st) : W (index (.ref n) (.int i) st) Q := by simp only [index, seqOf, hn, e]; exact h
theorem atI_in {α : Type} {xs : List α} (h0 : 0 ≤ i) (h1 : i < xs.length) : ∃ d, atI xs i = some d ∧ xs[i.toNat]? = some d := by
  have hi : i.toNat < xs.length := by omega
  refine ⟨xs[i.toNat], ?_, by simp [hi]⟩
  unfold atI ixN
  rw [if_pos h0, if_pos h1]
  show xs[i.toNat]? = _
  simp [hi]
theorem w_ixAny {xs : List D} {n : Nat} (hn : st[n]? = some (.lst xs)) (h0 : 0 ≤ i) (h1 : i < xs.length) (h : ∀ d, d ∈ xs → xs[i.toNat]? = some d → Q d st) : W (index (.ref n) (.int i) st) Q := by
  obtain ⟨d, e, e2⟩ := atI_in h0 h1
  exact w_ixL hn e (h d (List.mem_of_getElem? e2) e2)
theorem w_lenL {xs : List D} {n : Nat} (hn : st[n]? = some (.lst xs)) (h : Q (.int xs.length) st) : W (btin .len [.ref n] st) Q := by simp only [btin, seqOf, hn]; exact h
theorem w_listT {xs : List D} (h : Q (.ref st.length) (st ++ [.lst xs])) : W (btin .list [.tup xs] st) Q := h
theorem w_tupleL {xs : List D} {n : Nat} (hn : st[n]? = some (.lst xs)) (h : Q (.tup xs) st) : W (btin .tuple [.ref n] st) Q := by simp only [btin, seqOf, hn]; exact h
theorem w_allL {xs : List D} {n : Nat} {k : Bool} (hn : st[n]? = some (.lst xs)) (e : allB xs = some k) (h : Q (.bl k) st) : W (btin .all [.ref n] st) Q := by simp only [btin, hn, e]; exact h
theorem w_slT {xs : List D} {lo hi : Option Int} (hn : ¬ (HT.sIx xs.length 0 lo = 0 ∧ HT.sIx xs.length xs.length hi = xs.length)) (h : Q (.tup (cutD xs lo hi)) st) : W (slice (.tup xs) lo hi st) Q := by simp only [slice]; rw [if_neg hn]; exact h
theorem w_slL {xs : List D} {n : Nat} {lo hi : Option Int} (hn : st[n]? = some (.lst xs)) (h : Q (.ref st.length) (st ++ [.lst (cutD xs lo hi)])) : W (slice (.ref n) lo hi st) Q := by simp only [slice, seqOf, hn]; exact h
theorem w_lstOk {n : Nat} {xs : List D} {Q : Unit → Sto → Prop} (hn : st[n]? = some (.lst xs)) (h : Q () st) : W (lstOk (.ref n) st) Q := by simp only [lstOk, hn]; exact h
theorem w_append {n : Nat} {xs : List D} {v : D} {Q : Unit → Sto → Prop} (hn : st[n]? = some (.lst xs)) (hl : xs.length < 1000000) (h : Q () (st.set n (.lst (xs ++ [v])))) : W (append (.ref n) v st) Q := by simp only [append, hn]; rw [if_pos hl]; exact h
end
end Ev
set_option Elab.async false
set_option linter.all false
set_option maxRecDepth 100000
set_option maxHeartbeats 4000000
namespace Ev
open PySem L2
noncomputable def Gr (st st' : Sto) : Prop := ∃ t, st' = st ++ t
theorem Gr.refl (st : Sto) : Gr st st := ⟨[], by simp⟩
theorem Gr.trans {a b c : Sto} (h : Gr a b) (k : Gr b c) : Gr a c := by
  obtain ⟨t, rfl⟩ := h
  obtain ⟨u, rfl⟩ := k
  exact ⟨t ++ u, by simp⟩
theorem Gr.one (st : Sto) (o : O) : Gr st (st ++ [o]) := ⟨[o], rfl⟩
theorem Gr.more {a b : Sto} (h : Gr a b) (o : O) : Gr a (b ++ [o]) := h.trans (.one b o)
theorem Gr.le {a b : Sto} (h : Gr a b) : a.length ≤ b.length := by obtain ⟨t, rfl⟩ := h; simp
theorem Gr.at {a b : Sto} (h : Gr a b) {i : Nat} {o : O} (e : a[i]? = some o) : b[i]? = some o := by
  obtain ⟨t, rfl⟩ := h
  have := (List.getElem?_eq_some_iff.mp e).1
  rw [List.getElem?_append_left this]; exact e
theorem at_new {st : Sto} {o : O} : (st ++ [o])[st.length]? = some o := by simp
theorem at_old {st : Sto} {o : O} {t : Sto} {i : Nat} (e : st[i]? = some o) : (st ++ t)[i]? = some o := by
  have := (List.getElem?_eq_some_iff.mp e).1
  rw [List.getElem?_append_left this]; exact e
noncomputable def Bx (st : Sto) (n : Nat) : Prop := ∃ a b c, st[n]? = some (.lst [.int a, .int b, .int c])
structure Stp (n : Nat) (st st' : Sto) : Prop where
  le : st.length ≤ st'.length
  same : ∀ i, i < st.length → i ≠ n → st'[i]? = st[i]?
  box : Bx st' n
theorem source_rng {j : Int} (h : -1000000 ≤ j ∧ j ≤ 1000000) : source true (.int j) = some (.its (rangeD j.toNat)) := by simp only [source]; rw [if_pos h]
theorem rangeD_len (n : Nat) : (rangeD n).length = n := by simp [rangeD]
theorem set_at {st : Sto} {n : Nat} {o : O} (h : n < st.length) : (st.set n o)[n]? = some o := by rw [List.getElem?_set_self h]
noncomputable def plainP : D → Bool
  | .int _ => true
  | .bl _ => true
  | .str _ => true
  | .non => true
  | _ => false
theorem eqD_plain {st : Sto} {n : Nat} {d : D} (h : plainP d = true) : eqD (n + 1) st d d = some true := by
  cases d <;> simp [plainP] at h <;> simp [eqD, shape, eqV]
theorem allEq_same {f : D → D → Option Bool} : ∀ {xs : List D}, (∀ x ∈ xs, f x x = some true) → allEq f xs xs = some true
  | [], _ => rfl
  | x :: xs, h => by
    unfold allEq
    rw [h x (by simp), allEq_same fun y hy => h y (by simp [hy])]
    rfl
theorem set_one {st : Sto} {a b : O} : (st ++ [a]).set st.length b = st ++ [b] := by simp
section
variable {Q : Nat → Sto → Prop} {g : Fns} {st : Sto} {x : Str} {j : Nat} {ds : List D}
end
section
variable {Q : Unit → Sto → Prop} {st : Sto} {cs : List Str} {f x : Str} {v : D}
end
end Ev
set_option Elab.async false
set_option linter.all false
set_option maxRecDepth 100000
set_option maxHeartbeats 4000000
namespace Ev
open PySem L2
local macro_rules | `(tactic| walk_at "ev1") => `(tactic| with_reducible first
  | refine w_c ?_ | (refine w_v (by with_unfolding_all rfl) ?_) | refine w_tup ?_ | refine w_lst ?_ | refine w_emp ?_ | refine w_bin ?_ | refine w_neg ?_ | refine w_not ?_ | refine w_and ?_ | refine w_or ?_ | refine w_cmp ?_ | refine w_chain ?_ | refine w_ix ?_ | refine w_slTo ?_ | refine w_slFrom ?_
  | refine w_fn ?_ | refine w_bt ?_ | refine w_isi ?_ | refine w_ife ?_ | refine w_comp ?_ | refine w_compIf ?_ | refine w_anil ?_ | refine w_acons ?_ | refine w_elt ?_ | refine w_eltIf ?_
  | refine w_snil ?_ | refine w_set ?_ | refine w_setix ?_ | refine w_ret ?_ | refine w_ret0 ?_ | refine w_ex ?_ | refine w_app ?_ | refine w_pass ?_ | refine w_if ?_ | refine kn_nx ?_ | refine kn_rt ?_ | refine kr_nx ?_ | refine kr_rt ?_ | refine kf_nx ?_ | refine kf_rt ?_
  | refine w_add ?_ | refine w_sub ?_ | refine w_eqI ?_ | refine w_neI ?_ | refine w_lt ?_ | refine w_le ?_ | refine w_gt ?_ | refine w_ge ?_ | refine w_lenT ?_ | refine w_lenF ?_ | refine w_listT ?_ | refine w_tupleT ?_ | refine w_intB ?_ | refine w_max ?_ | refine w_min ?_ | refine w_abs ?_
  | (refine w_mul (by omega) ?_) | (refine w_mod (by omega) ?_) | (refine w_fdiv (by omega) ?_) | (refine w_pow (by decide) ?_) | (refine w_ixT (by with_unfolding_all rfl) ?_))
local macro_rules | `(tactic| walk_at "ev") => `(tactic| repeat (walk_at "ev1"))
namespace K06
noncomputable abbrev i_is_name : Nat := 0
noncomputable def f_is_name : Fn := ⟨1, 1, [.ite (.or (.not (.isi (.v 0) .str)) (.not (.chain .LtE .LtE (.c (.int 1)) (.bt .len [.v 0]) (.c (.int 8))))) [.ret (.c (.bl false))] [],
    .ret (.bt .all [.comp false (.v 0) (.cmp .In (.v 0) (.c (.str "abcdefghijklmnopqrstuvwxyz")))])]⟩
noncomputable abbrev i_parts_in : Nat := 1
noncomputable def f_parts_in : Fn := ⟨1, 2, [.set 1 (.ix (.v 0) (.c (.int 0))),
    .ite (.cmp .In (.v 1) (.tup [.c (.str "num"), .c (.str "truth"), .c (.str "name"), .c (.str "raise")])) [.ret (.lst [])] [],
    .ite (.cmp .In (.v 1) (.tup [.c (.str "log"), .c (.str "do"), .c (.str "return"), .c (.str "field")])) [.ret (.lst [.ix (.v 0) (.c (.int 1))])] [],
    .ite (.cmp .In (.v 1) (.tup [.c (.str "one"), .c (.str "let"), .c (.str "set")])) [.ret (.lst [.ix (.v 0) (.c (.int 2))])] [],
    .ite (.cmp .Eq (.v 1) (.c (.str "setfield"))) [.ret (.lst [.ix (.v 0) (.c (.int 3))])] [],
    .ite (.cmp .Eq (.v 1) (.c (.str "index"))) [.ret (.lst [.ix (.v 0) (.c (.int 1)), .ix (.v 0) (.c (.int 2))])] [],
    .ite (.cmp .In (.v 1) (.tup [.c (.str "two"), .c (.str "setat")])) [.ret (.lst [.ix (.v 0) (.c (.int 2)), .ix (.v 0) (.c (.int 3))])] [],
    .ret (.fn 2 [.v 0])]⟩
noncomputable abbrev i_parts_in_tuples : Nat := 2
noncomputable def f_parts_in_tuples : Fn := ⟨1, 2, [.set 1 (.ix (.v 0) (.c (.int 0))),
    .ite (.cmp .Eq (.v 1) (.c (.str "row"))) [.ret (.bt .list [.ix (.v 0) (.c (.int 1))])] [],
    .ite (.cmp .In (.v 1) (.tup [.c (.str "call"), .c (.str "new")])) [.ret (.bt .list [.ix (.v 0) (.c (.int 2))])] [],
    .ite (.cmp .Eq (.v 1) (.c (.str "fun"))) [.ret (.bt .list [.ix (.v 0) (.c (.int 4))])] [],
    .ite (.cmp .Eq (.v 1) (.c (.str "while"))) [.ret (.bin .add (.lst [.ix (.v 0) (.c (.int 1))]) (.bt .list [.ix (.v 0) (.c (.int 2))]))] [],
    .ite (.cmp .Eq (.v 1) (.c (.str "if"))) [.ret (.bin .add (.bin .add (.lst [.ix (.v 0) (.c (.int 1))]) (.bt .list [.ix (.v 0) (.c (.int 2))])) (.bt .list [.ix (.v 0) (.c (.int 3))]))] [],
    .ret (.fn 3 [.v 0])]⟩
noncomputable abbrev i_parts_in_try : Nat := 3
noncomputable def f_parts_in_try : Fn := ⟨1, 3, [.set 1 (.bt .list [.ix (.v 0) (.c (.int 1))]),
    .for_ 2 false (.ix (.v 0) (.c (.int 2))) [.ext (.v 1) (.ix (.v 2) (.c (.int 1)))],
    .ret (.v 1)]⟩
noncomputable abbrev i_counted : Nat := 4
noncomputable def f_counted : Fn := ⟨1, 4, [.set 1 (.lst [.v 0]),
    .set 2 (.c (.int 0)),
    .whil (.cmp .Gt (.bt .len [.v 1]) (.c (.int 0))) [.set 3 (.fn 1 [.pop (.v 1) false]),
    .ext (.v 1) (.v 3),
    .aug 2 (.c (.int 1))],
    .ret (.v 2)]⟩
noncomputable abbrev i__law_mixed : Nat := 5
noncomputable def f__law_mixed : Fn := ⟨2, 3, [.set 2 (.bin .mod (.bin .add (.bin .add (.bin .mul (.bin .mod (.v 0) (.c (.int 2147483629))) (.c (.int 48271))) (.bin .mul (.v 1) (.c (.int 7919)))) (.c (.int 104729))) (.c (.int 2147483629))),
    .set 2 (.bin .mod (.bin .add (.bin .add (.bin .mul (.bin .mod (.bin .mul (.v 2) (.v 2)) (.c (.int 2147483629))) (.c (.int 16807))) (.bin .mul (.v 1) (.c (.int 104729)))) (.c (.int 11))) (.c (.int 2147483587))),
    .ret (.bin .mod (.bin .mul (.v 2) (.v 2)) (.c (.int 2147483587)))]⟩
noncomputable abbrev i__law_numbers : Nat := 6
noncomputable def f__law_numbers : Fn := ⟨2, 6, [.set 2 (.lst []),
    .for_ 3 false (.v 0) [.set 4 (.v 3),
    .for_ 5 true (.c (.int 40)) [.ite (.cmp .Lt (.v 3) (.bin .pow (.c (.int 10)) (.c (.int 18)))) [.app (.v 2) (.bin .mod (.fn 5 [.v 3, .bt .len [.v 2]]) (.c (.int 1009)))] [.ite (.cmp .Gt (.v 4) (.c (.int 0))) [.app (.v 2) (.bin .mod (.v 4) (.c (.int 1009))),
    .set 4 (.bin .fdiv (.v 4) (.c (.int 1009)))] []]]],
    .whil (.cmp .Lt (.bt .len [.v 2]) (.v 1)) [.app (.v 2) (.bin .mod (.fn 5 [.bt .len [.v 2], .v 1]) (.c (.int 1009)))],
    .ret (.sl (.v 2) (.v 1) (.v 1) false true)]⟩
noncomputable abbrev i__law_take : Nat := 7
noncomputable def f__law_take : Fn := ⟨1, 1, [.ite (.cmp .Eq (.v 0) (.lst [])) [.ret (.c (.int 0))] [],
    .ret (.pop (.v 0) true)]⟩
noncomputable abbrev i__law_name : Nat := 8
noncomputable def f__law_name : Fn := ⟨1, 1, [.ret (.ix (.lst [.c (.str "a"), .c (.str "bb"), .c (.str "row"), .c (.str "let"), .c (.str "zzzzzzzz"), .c (.str "try"), .c (.str "num")]) (.bin .mod (.fn 7 [.v 0]) (.c (.int 7))))]⟩
noncomputable abbrev i__law_parts_of : Nat := 9
noncomputable def f__law_parts_of : Fn := ⟨3, 3, [.ret (.bt .tuple [.comp true (.v 2) (.fn 10 [.v 1, .bin .sub (.v 2) (.c (.int 1))])])]⟩
noncomputable abbrev i__law_expression : Nat := 10
noncomputable def f__law_expression : Fn := ⟨2, 6, [.set 2 (.fn 7 [.v 0]),
    .set 3 (.bin .mod (.v 2) (.c (.int 11))),
    .set 4 (.bin .fdiv (.v 2) (.c (.int 11))),
    .ite (.or (.cmp .Eq (.v 1) (.c (.int 0))) (.cmp .Lt (.v 3) (.c (.int 3)))) [.ret (.ix (.lst [.tup [.c (.str "num"), .v 4], .tup [.c (.str "truth"), .cmp .Eq (.bin .mod (.v 4) (.c (.int 2))) (.c (.int 0))], .tup [.c (.str "name"), .fn 8 [.v 0]]]) (.bin .mod (.v 2) (.c (.int 3))))] [],
    .ite (.cmp .Eq (.v 3) (.c (.int 3))) [.set 5 (.ix (.lst [.c (.str "+"), .c (.str "-"), .c (.str "*"), .c (.str "/"), .c (.str "mod"), .c (.str "<"), .c (.str "="), .c (.str "and"), .c (.str "or")]) (.bin .mod (.v 4) (.c (.int 9)))),
    .ret (.bin .add (.tup [.c (.str "two"), .v 5]) (.fn 9 [.v 0, .v 1, .c (.int 2)]))] [],
    .ite (.cmp .Eq (.v 3) (.c (.int 4))) [.ret (.bin .add (.tup [.c (.str "one"), .ix (.lst [.c (.str "-"), .c (.str "not")]) (.bin .mod (.v 4) (.c (.int 2)))]) (.fn 9 [.v 0, .v 1, .c (.int 1)]))] [],
    .ite (.cmp .Eq (.v 3) (.c (.int 5))) [.ret (.bin .add (.bin .add (.tup [.c (.str "field")]) (.fn 9 [.v 0, .v 1, .c (.int 1)])) (.tup [.fn 8 [.v 0]]))] [],
    .ite (.cmp .Eq (.v 3) (.c (.int 6))) [.ret (.bin .add (.tup [.c (.str "index")]) (.fn 9 [.v 0, .v 1, .c (.int 2)]))] [],
    .ite (.cmp .Eq (.v 3) (.c (.int 7))) [.ret (.tup [.c (.str "row"), .fn 9 [.v 0, .v 1, .bin .add (.c (.int 1)) (.bin .mod (.v 4) (.c (.int 6)))]])] [],
    .ret (.tup [.ix (.lst [.c (.str "call"), .c (.str "new"), .c (.str "call")]) (.bin .sub (.v 3) (.c (.int 8))), .fn 8 [.v 0], .fn 9 [.v 0, .v 1, .bin .mod (.v 4) (.c (.int 5))]])]⟩
noncomputable abbrev i__law_some : Nat := 11
noncomputable def f__law_some : Fn := ⟨3, 3, [.ret (.bt .tuple [.comp true (.bin .mod (.fn 7 [.v 0]) (.bin .add (.v 2) (.c (.int 1)))) (.fn 13 [.v 1, .v 2])])]⟩
noncomputable abbrev i__law_guarded : Nat := 12
noncomputable def f__law_guarded : Fn := ⟨3, 5, [.set 3 (.lst [.c (.str "zero"), .c (.str "odd"), .c (.str "a"), .c (.str "range"), .c (.str "great"), .c (.str "end"), .c (.str "low"), .c (.str "try")]),
    .ite (.cmp .Lt (.bin .mod (.v 2) (.c (.int 8))) (.c (.int 7))) [.set 3 (.sl (.v 3) (.bin .mod (.v 2) (.c (.int 5))) (.bin .add (.bin .add (.bin .mod (.v 2) (.c (.int 5))) (.c (.int 1))) (.bin .mod (.bin .fdiv (.v 2) (.c (.int 8))) (.c (.int 4)))) true true)] [],
    .set 4 (.fn 11 [.v 0, .bin .sub (.v 1) (.c (.int 1)), .c (.int 2)]),
    .ret (.tup [.c (.str "try"), .v 4, .bt .tuple [.comp false (.v 3) (.tup [.v 0, .fn 11 [.v 1, .bin .sub (.v 2) (.c (.int 1)), .c (.int 2)]])]])]⟩
noncomputable abbrev i__law_row : Nat := 13
noncomputable def f__law_row : Fn := ⟨2, 5, [.set 2 (.fn 7 [.v 0]),
    .set 3 (.bin .mod (.v 2) (.c (.int 12))),
    .ite (.cmp .Eq (.v 3) (.c (.int 0))) [.ret (.tup [.c (.str "raise"), .fn 8 [.v 0]])] [],
    .ite (.cmp .Lt (.v 3) (.c (.int 4))) [.ret (.tup [.ix (.lst [.c (.str "log"), .c (.str "do"), .c (.str "return")]) (.bin .sub (.v 3) (.c (.int 1))), .fn 10 [.v 0, .c (.int 3)]])] [],
    .ite (.cmp .Lt (.v 3) (.c (.int 6))) [.ret (.tup [.ix (.lst [.c (.str "let"), .c (.str "set")]) (.bin .sub (.v 3) (.c (.int 4))), .fn 8 [.v 0], .fn 10 [.v 0, .c (.int 3)]])] [],
    .ite (.cmp .Eq (.v 3) (.c (.int 6))) [.ret (.tup [.c (.str "setat"), .fn 8 [.v 0], .fn 10 [.v 0, .c (.int 2)], .fn 10 [.v 0, .c (.int 2)]])] [],
    .ite (.or (.cmp .Eq (.v 3) (.c (.int 7))) (.cmp .Eq (.v 1) (.c (.int 0)))) [.ret (.tup [.c (.str "setfield"), .fn 8 [.v 0], .fn 8 [.v 0], .fn 10 [.v 0, .c (.int 3)]])] [],
    .ite (.cmp .Lt (.v 3) (.c (.int 10))) [.set 4 (.fn 10 [.v 0, .c (.int 2)]),
    .ret (.tup [.c (.str "if"), .v 4, .fn 11 [.v 0, .bin .sub (.v 1) (.c (.int 1)), .c (.int 3)], .fn 11 [.v 0, .bin .sub (.v 1) (.c (.int 1)), .c (.int 3)]])] [],
    .ite (.cmp .Eq (.v 3) (.c (.int 10))) [.ret (.tup [.c (.str "while"), .fn 10 [.v 0, .c (.int 2)], .fn 11 [.v 0, .bin .sub (.v 1) (.c (.int 1)), .c (.int 3)]])] [],
    .ret (.fn 12 [.v 0, .v 1, .bin .fdiv (.v 2) (.c (.int 12))])]⟩
noncomputable abbrev i__law_rows_in : Nat := 14
noncomputable def f__law_rows_in : Fn := ⟨1, 4, [.set 1 (.lst []),
    .forU [2, 3] (.v 0) [.ext (.v 1) (.v 3)],
    .ret (.v 1)]⟩
noncomputable abbrev i__law_parts : Nat := 15
noncomputable def f__law_parts : Fn := ⟨1, 2, [.set 1 (.ix (.v 0) (.c (.int 0))),
    .ite (.cmp .Eq (.v 1) (.c (.str "fun"))) [.ret (.bt .list [.ix (.v 0) (.c (.int 4))])] [],
    .ite (.cmp .Eq (.v 1) (.c (.str "try"))) [.ret (.bin .add (.bt .list [.ix (.v 0) (.c (.int 1))]) (.fn 14 [.ix (.v 0) (.c (.int 2))]))] [],
    .ite (.cmp .In (.v 1) (.tup [.c (.str "if"), .c (.str "while")])) [.ret (.bin .add (.lst [.ix (.v 0) (.c (.int 1))]) (.fn 14 [.comp false (.sl (.v 0) (.c (.int 2)) (.c (.int 2)) true false) (.tup [.c (.str ""), .v 0])]))] [],
    .ite (.cmp .In (.v 1) (.tup [.c (.str "call"), .c (.str "new"), .c (.str "row")])) [.ret (.bt .list [.ix (.v 0) (.neg (.c (.int 1)))])] [],
    .ret (.compIf false (.sl (.v 0) (.c (.int 1)) (.c (.int 1)) true false) (.isi (.v 0) .tuple) (.v 0))]⟩
noncomputable abbrev i__law_right : Nat := 16
noncomputable def f__law_right : Fn := ⟨1, 7, [.set 1 (.fn 15 [.v 0]),
    .set 2 (.fn 1 [.v 0]),
    .ite (.or (.not (.isi (.v 2) .list)) (.cmp .NotEq (.v 2) (.v 1))) [.ret (.c (.non))] [],
    .clr (.v 2),
    .set 3 (.c (.int 1)),
    .for_ 4 false (.v 1) [.set 5 (.fn 16 [.v 4]),
    .ite (.cmp .Is (.v 5) (.c (.non))) [.ret (.c (.non))] [],
    .set 3 (.bin .add (.v 3) (.v 5))],
    .set 6 (.fn 4 [.v 0]),
    .ite (.or (.cmp .NotEq (.fn 1 [.v 0]) (.v 1)) (.or (.not (.isi (.v 6) .int)) (.or (.isi (.v 6) .bool) (.cmp .NotEq (.v 6) (.v 3))))) [.ret (.c (.non))] [],
    .ret (.v 3)]⟩
noncomputable abbrev i__law_thing : Nat := 17
noncomputable def f__law_thing : Fn := ⟨1, 6, [.set 1 (.c (.str "abcdefghijklmnopqrstuvwxyz")),
    .set 2 (.fn 5 [.v 0, .c (.int 1)]),
    .set 3 (.join "" (.comp true (.bin .mod (.v 2) (.c (.int 11))) (.ix (.v 2) (.bin .mod (.fn 5 [.v 1, .bin .add (.c (.int 2)) (.v 0)]) (.c (.int 26)))))),
    .set 4 (.bin .mod (.bin .fdiv (.v 2) (.c (.int 55))) (.bin .add (.bt .len [.v 3]) (.c (.int 1)))),
    .ite (.cmp .Eq (.bin .mod (.bin .fdiv (.v 2) (.c (.int 11))) (.c (.int 3))) (.c (.int 0))) [.set 5 (.ix (.c (.str "A1_-0Zz@~ ")) (.bin .mod (.bin .fdiv (.v 2) (.c (.int 1000))) (.c (.int 10)))),
    .ret (.bin .add (.bin .add (.sl (.v 3) (.v 4) (.v 4) false true) (.v 5)) (.sl (.v 3) (.bin .add (.v 4) (.bin .mod (.bin .fdiv (.v 2) (.c (.int 10000))) (.c (.int 2)))) (.bin .add (.v 4) (.bin .mod (.bin .fdiv (.v 2) (.c (.int 10000))) (.c (.int 2)))) true false))] [],
    .ite (.cmp .Eq (.bin .mod (.bin .fdiv (.v 2) (.c (.int 11))) (.c (.int 3))) (.c (.int 1))) [.ret (.ix (.lst [.c (.non), .c (.int 1), .c (.bl true), .lst [.c (.str "a")], .tup [.c (.str "a")], .emp, .c (.int 0), .dict ["a"] [.c (.str "a")]]) (.bin .mod (.bin .fdiv (.v 2) (.c (.int 1000))) (.c (.int 8))))] [],
    .ret (.v 3)]⟩
noncomputable abbrev i__law_due : Nat := 18
noncomputable def f__law_due : Fn := ⟨1, 1, [.ite (.or (.not (.isi (.v 0) .str)) (.not (.chain .LtE .LtE (.c (.int 1)) (.bt .len [.v 0]) (.c (.int 8))))) [.ret (.c (.bl false))] [],
    .ret (.cmp .Eq (.compIf false (.v 0) (.not (.chain .LtE .LtE (.c (.str "a")) (.v 0) (.c (.str "z")))) (.v 0)) (.lst []))]⟩
noncomputable abbrev i_law : Nat := 19
noncomputable def f_law : Fn := ⟨1, 7, [.set 1 (.fn 6 [.v 0, .c (.int 300)]),
    .for_ 2 true (.bin .add (.c (.int 1)) (.bin .mod (.fn 7 [.v 1]) (.c (.int 6)))) [.set 3 (.fn 11 [.v 1, .c (.int 3), .c (.int 5)]),
    .set 4 (.tup [.tup [.c (.str "a"), .tup [.c (.str "num")]], .tup [.c (.str "b"), .tup [.c (.str "row"), .c (.int 3)]]]),
    .ite (.cmp .Is (.fn 16 [.tup [.c (.str "fun"), .fn 8 [.v 1], .v 4, .tup [.c (.str "num")], .v 3]]) (.c (.non))) [.ret (.c (.bl false))] []],
    .for_ 5 false (.bin .add (.sl (.v 0) (.c (.int 30)) (.c (.int 30)) false true) (.lst [.c (.int 3), .c (.int 4), .c (.int 5)])) [.set 6 (.fn 0 [.fn 17 [.v 5]]),
    .ite (.or (.not (.isi (.v 6) .bool)) (.cmp .NotEq (.v 6) (.fn 18 [.fn 17 [.v 5]]))) [.ret (.c (.bl false))] []],
    .ret (.c (.bl true))]⟩
noncomputable def tab : List Fn := [f_is_name, f_parts_in, f_parts_in_tuples, f_parts_in_try, f_counted, f__law_mixed, f__law_numbers, f__law_take, f__law_name, f__law_parts_of, f__law_expression, f__law_some, f__law_guarded, f__law_row, f__law_rows_in, f__law_parts, f__law_right, f__law_thing, f__law_due, f_law]
local macro_rules | `(tactic| walk_at "call") => `(tactic| (refine w_call rfl rfl ?_; dsimp only [f_is_name, f_parts_in, f_parts_in_tuples, f_parts_in_try, f_counted, f__law_mixed, f__law_numbers, f__law_take, f__law_name, f__law_parts_of, f__law_expression, f__law_some, f__law_guarded, f__law_row, f__law_rows_in, f__law_parts, f__law_right, f__law_thing, f__law_due, f_law, List.map, List.length, List.replicate, List.append, HAppend.hAppend, Append.append]; walk_at "ev"))
theorem eqD_ss {st : Sto} {n : Nat} {s t : Str} : eqD (n + 1) st (.str s) (.str t) = some (s == t) := by
  simp only [eqD, shape, eqV]
theorem w_eqS {st : Sto} {Q : D → Sto → Prop} {s t : Str} (b : Bool) (hb : (s == t) = b) (h : Q (.bl b) st) : W (cmpop .Eq (.str s) (.str t) st) Q := w_eq (by rw [eqD_ss, hb]) h
theorem inC {s : Str} {ms : List Str} {st : Sto} : anyEq st (.str s) (ms.map .str) = some (ms.any fun m => m == s) := by
  induction ms with
  | nil => rfl
  | cons m ms ih =>
    simp only [List.map_cons, anyEq, ih, List.any_cons]
    rw [eqD_ss]
noncomputable def unS : List D → List Str
  | .str s :: r => s :: unS r
  | _ => []
theorem w_inK {st : Sto} {Q : D → Sto → Prop} {s : Str} {xs : List D} (b : Bool) (hx : (unS xs).map .str = xs) (hb : ((unS xs).any fun m => m == s) = b) (h : Q (.bl b) st) : W (cmpop .In (.str s) (.tup xs) st) Q := by
  rw [← hx]
  simp only [cmpop, seqOf, inC, hb]
  exact h
section
variable {g : Fns} {o e : Ex} {loc : Loc} {st : Sto} {ss : List S} {Q : Fl → Sto → Prop}
theorem w_extT (h : W (run g o loc st) fun x st1 => ∃ n zs, x = .ref n ∧ st1[n]? = some (.lst zs) ∧ W (run g e loc st1) fun d st2 => ∃ ys xs, st2[n]? = some (.lst xs) ∧ d = .tup ys ∧ xs.length + ys.length ≤ 10000000 ∧ W (execs g ss loc (st2.set n (.lst (xs ++ ys)))) Q) : W (execs g (.ext o e :: ss) loc st) Q :=
  w_scons (by
    rw [exec]
    refine w_bnd (h.mono fun x st1 ⟨n, zs, e0, e1, h⟩ => w_bnd ?_)
    subst e0
    simp only [lstOk, e1]
    refine w_bnd (h.mono fun d st2 ⟨ys, xs, e2, e3, hz, q⟩ => w_bnd ?_)
    subst e3
    simp only [extend, e2]
    rw [if_pos hz]
    exact q)
theorem w_extL (h : W (run g o loc st) fun x st1 => ∃ n zs, x = .ref n ∧ st1[n]? = some (.lst zs) ∧ W (run g e loc st1) fun d st2 => ∃ m ys xs, st2[n]? = some (.lst xs) ∧ d = .ref m ∧ st2[m]? = some (.lst ys) ∧ xs.length + ys.length ≤ 10000000 ∧ W (execs g ss loc (st2.set n (.lst (xs ++ ys)))) Q) : W (execs g (.ext o e :: ss) loc st) Q :=
  w_scons (by
    rw [exec]
    refine w_bnd (h.mono fun x st1 ⟨n, zs, e0, e1, h⟩ => w_bnd ?_)
    subst e0
    simp only [lstOk, e1]
    refine w_bnd (h.mono fun d st2 ⟨m, ys, xs, e2, e3, e4, hz, q⟩ => w_bnd ?_)
    subst e3
    simp only [extend, e2, e4]
    rw [if_pos hz]
    exact q)
theorem w_clr (h : W (run g o loc st) fun x st1 => ∃ n xs, x = .ref n ∧ st1[n]? = some (.lst xs) ∧ W (execs g ss loc (st1.set n (.lst []))) Q) : W (execs g (.clr o :: ss) loc st) Q :=
  w_scons (by
    rw [exec]
    refine w_bnd (h.mono fun x st1 ⟨n, xs, e0, e1, h⟩ => w_bnd ?_)
    subst e0
    simp only [clearD, e1]
    exact h)
end
noncomputable def isT (d : D) : Prop := ∃ xs, d = .tup xs
inductive Fm : D → List D → Prop where
  | leaf {w : Str} {x : D} (hw : w ∈ (["num", "truth", "name", "raise"] : List Str)) (hx : plainP x = true) : Fm (.tup [.str w, x]) []
  | a1 {w : Str} {e : D} (hw : w ∈ (["log", "do", "return"] : List Str)) (he : isT e) : Fm (.tup [.str w, e]) [e]
  | fld {e : D} {s : Str} (he : isT e) : Fm (.tup [.str "field", e, .str s]) [e]
  | a2 {w s : Str} {e : D} (hw : w ∈ (["one", "let", "set"] : List Str)) (he : isT e) : Fm (.tup [.str w, .str s, e]) [e]
  | a3 {s t : Str} {e : D} (he : isT e) : Fm (.tup [.str "setfield", .str s, .str t, e]) [e]
  | ix {e f : D} (he : isT e) (hf : isT f) : Fm (.tup [.str "index", e, f]) [e, f]
  | b2 {w s : Str} {e f : D} (hw : w ∈ (["two", "setat"] : List Str)) (he : isT e) (hf : isT f) : Fm (.tup [.str w, .str s, e, f]) [e, f]
  | row {es : List D} : Fm (.tup [.str "row", .tup es]) es
  | call {w s : Str} {es : List D} (hw : w ∈ (["call", "new"] : List Str)) : Fm (.tup [.str w, .str s, .tup es]) es
  | fn {s : Str} {t k : D} {rs : List D} : Fm (.tup [.str "fun", .str s, t, k, .tup rs]) rs
  | whil {e : D} {rs : List D} : Fm (.tup [.str "while", e, .tup rs]) ([e] ++ rs)
  | cond {e : D} {r1 r2 : List D} : Fm (.tup [.str "if", e, .tup r1, .tup r2]) ([e] ++ r1 ++ r2)
  | tr {rs : List D} {cs : List (Str × List D)} : Fm (.tup [.str "try", .tup rs, .tup (cs.map fun c => .tup [.str c.1, .tup c.2])]) (rs ++ (cs.map (·.2)).flatten)
theorem Fm.isT {d : D} {ps : List D} (h : Fm d ps) : K06.isT d := by cases h <;> exact ⟨_, rfl⟩
local macro_rules | `(tactic| walk_at "t1") => `(tactic| first
  | (refine w_inK false rfl (by decide +kernel) ⟨_, rfl, nofun, fun _ => ?_⟩; walk_at "ev") | (refine w_inK true rfl (by decide +kernel) ⟨_, rfl, (fun _ => ?_), nofun⟩; walk_at "ev")
  | (refine w_eqS false (by decide +kernel) ⟨_, rfl, nofun, fun _ => ?_⟩; walk_at "ev") | (refine w_eqS true (by decide +kernel) ⟨_, rfl, (fun _ => ?_), nofun⟩; walk_at "ev"))
local macro_rules | `(tactic| walk_at "tt") => `(tactic| repeat (walk_at "t1"))
section
variable {k : Nat} {st : Sto} {Q : D → Sto → Prop}
noncomputable def Told (st : Sto) (ps : List D) (Q : D → Sto → Prop) : Prop := ∀ p st', st.length ≤ p → Gr st st' → st'[p]? = some (.lst ps) → Q (.ref p) st'
theorem s_try {rs : List D} {cs : List (Str × List D)} (hl : rs.length + (cs.map (·.2)).flatten.length ≤ 1000) (h : Told st (rs ++ (cs.map (·.2)).flatten) Q) :
    Wv (calls tab (k + 1) i_parts_in_try [.tup [.str "try", .tup rs, .tup (cs.map fun c => .tup [.str c.1, .tup c.2])]] st) Q := by
  walk_at "call"
  refine w_for (fun xs i loc st' => (∃ x, loc = [some (.tup [.str "try", .tup rs, .tup (cs.map fun c => .tup [.str c.1, .tup c.2])]), some (.ref st.length), x]) ∧ st' = st ++ [.lst (rs ++ ((cs.take i).map (·.2)).flatten)]) ?_
  walk_at "ev"
  refine ⟨_, rfl, ⟨⟨_, rfl⟩, by simp⟩, ?_, ?_⟩
  · intro i x loc st1 hx ⟨⟨y, e1⟩, e2⟩
    subst e1 e2
    rw [List.getElem?_map, Option.map_eq_some_iff] at hx
    obtain ⟨c, hc, rfl⟩ := hx
    simp only [List.set_cons_succ, List.set_cons_zero]
    refine w_extT ?_
    walk_at "ev"
    refine ⟨_, _, rfl, at_new, ?_⟩
    walk_at "ev"
    have e3 : cs.take (i + 1) = cs.take i ++ [c] := by
      rw [List.take_succ, hc]; rfl
    have e4 : ((cs.take (i + 1)).map (·.2)).flatten = ((cs.take i).map (·.2)).flatten ++ c.2 := by rw [e3]; simp
    have hz : ((cs.take (i + 1)).map (·.2)).flatten.length ≤ (cs.map (·.2)).flatten.length := by
      have : cs = cs.take (i + 1) ++ cs.drop (i + 1) := (List.take_append_drop _ _).symm
      conv => rhs; rw [this]
      rw [List.map_append, List.flatten_append, List.length_append]
      omega
    rw [e4] at hz
    simp only [List.length_append] at hz
    refine ⟨_, _, at_new, rfl, by simp only [List.length_append]; omega, ?_⟩
    walk_at "ev"
    refine ⟨⟨_, rfl⟩, ?_⟩
    rw [set_one, e4, List.append_assoc]
  · intro loc st1 ⟨⟨y, e1⟩, e2⟩
    subst e1 e2
    walk_at "ev"
    rw [List.length_map, List.take_length]
    exact h _ _ (Nat.le_refl _) (.one _ _) at_new
theorem s_parts_in {d : D} {ps : List D} (hf : Fm d ps) (hl : ps.length ≤ 1000) (h : Told st ps Q) : Wv (calls tab (k + 3) i_parts_in [d] st) Q := by
  cases hf with
  | leaf hw hx =>
    simp only [List.mem_cons, List.not_mem_nil, or_false] at hw
    rcases hw with rfl | rfl | rfl | rfl <;> (walk_at "call"; walk_at "tt"; exact h _ _ (Nat.le_refl _) (.one _ _) at_new)
  | a1 hw he =>
    simp only [List.mem_cons, List.not_mem_nil, or_false] at hw
    rcases hw with rfl | rfl | rfl <;> (walk_at "call"; walk_at "tt"; exact h _ _ (Nat.le_refl _) (.one _ _) at_new)
  | fld he => walk_at "call"; walk_at "tt"; exact h _ _ (Nat.le_refl _) (.one _ _) at_new
  | a2 hw he =>
    simp only [List.mem_cons, List.not_mem_nil, or_false] at hw
    rcases hw with rfl | rfl | rfl <;> (walk_at "call"; walk_at "tt"; exact h _ _ (Nat.le_refl _) (.one _ _) at_new)
  | a3 he => walk_at "call"; walk_at "tt"; exact h _ _ (Nat.le_refl _) (.one _ _) at_new
  | ix he hf => walk_at "call"; walk_at "tt"; exact h _ _ (Nat.le_refl _) (.one _ _) at_new
  | b2 hw he hf =>
    simp only [List.mem_cons, List.not_mem_nil, or_false] at hw
    rcases hw with rfl | rfl <;> (walk_at "call"; walk_at "tt"; exact h _ _ (Nat.le_refl _) (.one _ _) at_new)
  | row =>
    walk_at "call"; walk_at "tt"
    walk_at "call"; walk_at "tt"
    exact h _ _ (Nat.le_refl _) (.one _ _) at_new
  | call hw =>
    simp only [List.mem_cons, List.not_mem_nil, or_false] at hw
    rcases hw with rfl | rfl <;> (walk_at "call"; walk_at "tt"; walk_at "call"; walk_at "tt"; exact h _ _ (Nat.le_refl _) (.one _ _) at_new)
  | fn =>
    walk_at "call"; walk_at "tt"
    walk_at "call"; walk_at "tt"
    exact h _ _ (Nat.le_refl _) (.one _ _) at_new
  | whil =>
    simp only [List.length_append] at hl
    walk_at "call"; walk_at "tt"
    walk_at "call"; walk_at "tt"
    refine w_catL (at_old at_new) at_new (by omega) ?_
    walk_at "ev"
    exact h _ _ (by simp) (((Gr.one _ _).more _).more _) at_new
  | cond =>
    simp only [List.length_append] at hl
    walk_at "call"; walk_at "tt"
    walk_at "call"; walk_at "tt"
    refine w_catL (at_old at_new) at_new (by omega) ?_
    walk_at "ev"
    refine w_catL (at_old at_new) at_new (by simp only [List.length_append]; omega) ?_
    walk_at "ev"
    exact h _ _ (by simp) (((((Gr.one _ _).more _).more _).more _).more _) at_new
  | tr =>
    simp only [List.length_append] at hl
    walk_at "call"; walk_at "tt"
    walk_at "call"; walk_at "tt"
    refine s_try hl fun p st' a b c => ?_
    walk_at "ev"
    exact h p st' a b c
end
noncomputable def tupB : D → Bool
  | .tup _ => true
  | _ => false
theorem isi_tup {st : Sto} {x : D} (h : plainP x = true ∨ isT x) : isiD st .tuple x = some (tupB x) := by
  rcases h with h | ⟨xs, rfl⟩
  · cases x <;> first | rfl | (cases h; done)
  · rfl
theorem cut1 {x : D} {xs : List D} : cutD (x :: xs) (some 1) none = xs := by
  simp [cutD, HT.sIx]
theorem cut2 {x y : D} {xs : List D} : cutD (x :: y :: xs) (some 2) none = xs := by
  simp [cutD, HT.sIx]
section
variable {k : Nat} {st : Sto}
theorem filt {g : Fns} {loc : Loc} {xs : List D} {Q : D → Sto → Prop} (hl : xs.length ≤ 1000) (hx : ∀ x ∈ xs, plainP x = true ∨ isT x) (h : Q (.ref st.length) (st ++ [.lst (xs.filter tupB)])) :
    W (compS (fun x => bnd (run g (.isi (.v 0) .tuple) (some x :: loc)) fun z => bnd (ofO (bool? z)) fun k => if k then bnd (run g (.v 0) (some x :: loc)) fun y => ret (some y) else ret none) (.its xs) st) Q := by
  refine w_compS (by omega) (fun i acc st' => acc = (xs.take i).filter tupB ∧ st' = st) ⟨by simp, rfl⟩ (fun i x acc st' hxi ⟨ea, es⟩ => ?_) (fun acc st' ⟨ea, es⟩ => ?_)
  · subst ea es
    have e3 : xs.take (i + 1) = xs.take i ++ [x] := by rw [List.take_succ, hxi]; rfl
    refine w_eltIf ?_
    walk_at "ev"
    refine ⟨_, isi_tup (hx x (List.mem_of_getElem? hxi)), _, rfl, fun e => ?_, fun e => ?_⟩
    · walk_at "ev"
      rw [e3, List.filter_append]
      simp [e]
    · rw [e3, List.filter_append]
      simp [e]
  · subst ea es
    rw [List.take_length]
    exact h
end
section
variable {g : Fns} {loc : Loc} {st : Sto} {Q : Fl → Sto → Prop} {ss body : List S} {e : Ex} {is : List Nat}
theorem w_forU (I : List D → Nat → Loc → Sto → Prop)
    (h : W (run g e loc st) fun d st1 => ∃ xs, source false d = some (.its xs) ∧ I xs 0 loc st1 ∧ (∀ i x loc st, xs[i]? = some x → I xs i loc st → ∃ ds, seqOf st x = some ds ∧ ds.length = is.length ∧ W (execs g body (setL is ds loc) st) (Kf (I xs (i + 1)) (Kn g ss Q))) ∧ ∀ loc st, I xs xs.length loc st → W (execs g ss loc st) Q) :
    W (execs g (.forU is e body :: ss) loc st) Q := by
  refine w_scons ?_
  rw [exec]
  refine w_bnd (h.mono fun d st1 ⟨xs, hs, h0, step, fin⟩ => w_bnd ?_)
  unfold ofO
  rw [hs]
  show W (forS _ (.its xs) loc st1) _
  unfold forS
  refine w_forN (I xs) (fun i x loc st e q => ?_) fin _ 0 loc st1 (by omega) (by show xs.length < xs.length + 1 + 0; omega) h0
  obtain ⟨ds, e1, e2, q⟩ := step i x loc st e q
  refine w_bnd ?_
  unfold items?
  rw [e1]
  dsimp only
  rw [if_pos e2]
  show W (execs g body (setL is ds loc) st) _
  refine q.mono fun r st1 q => ?_
  cases r with
  | nx loc' => exact q
  | rt d => exact q
  | ex n l => exact q
theorem w_forUA (I : Nat → List D → Nat → Loc → Sto → Prop)
    (h : W (run g e loc st) fun d st1 => ∃ n xs, d = .ref n ∧ st1[n]? = some (.lst xs) ∧ I n xs 0 loc st1 ∧ (∀ i loc st, I n xs i loc st → st[n]? = some (.lst xs)) ∧ (∀ i x loc st, xs[i]? = some x → I n xs i loc st → ∃ ds, seqOf st x = some ds ∧ ds.length = is.length ∧ W (execs g body (setL is ds loc) st) (Kf (I n xs (i + 1)) (Kn g ss Q))) ∧ ∀ loc st, I n xs xs.length loc st → W (execs g ss loc st) Q) :
    W (execs g (.forU is e body :: ss) loc st) Q := by
  refine w_scons ?_
  rw [exec]
  refine w_bnd (h.mono fun d st1 ⟨n, xs, hd, hn, h0, keep, step, fin⟩ => w_bnd ?_)
  subst hd
  show W (forS _ (.at n) loc st1) _
  have hL : lenS (.at n) st1 = xs.length := by simp only [lenS, hn]
  unfold forS
  rw [hL]
  refine w_forNA (I n xs) keep (fun i x loc st e q => ?_) fin _ 0 loc st1 (by omega) (by omega) h0
  obtain ⟨ds, e1, e2, q⟩ := step i x loc st e q
  refine w_bnd ?_
  unfold items?
  rw [e1]
  dsimp only
  rw [if_pos e2]
  show W (execs g body (setL is ds loc) st) _
  refine q.mono fun r st1 q => ?_
  cases r with
  | nx loc' => exact q
  | rt d => exact q
  | ex n l => exact q
end
section
variable {k : Nat} {st : Sto} {Q : D → Sto → Prop}
noncomputable abbrev catD (cs : List (Str × List D)) : List D := cs.map fun c => .tup [.str c.1, .tup c.2]
theorem flat_take {cs : List (Str × List D)} {i : Nat} {c : Str × List D} (hc : cs[i]? = some c) : ((cs.take (i + 1)).map (·.2)).flatten = ((cs.take i).map (·.2)).flatten ++ c.2 ∧ (((cs.take i).map (·.2)).flatten ++ c.2).length ≤ (cs.map (·.2)).flatten.length := by
  have e3 : cs.take (i + 1) = cs.take i ++ [c] := by rw [List.take_succ, hc]; rfl
  have e4 : ((cs.take (i + 1)).map (·.2)).flatten = ((cs.take i).map (·.2)).flatten ++ c.2 := by rw [e3]; simp
  refine ⟨e4, ?_⟩
  rw [← e4]
  have : cs = cs.take (i + 1) ++ cs.drop (i + 1) := (List.take_append_drop _ _).symm
  conv => rhs; rw [this]
  rw [List.map_append, List.flatten_append, List.length_append]
  omega
theorem s_rows_inT {cs : List (Str × List D)} (hl : (cs.map (·.2)).flatten.length ≤ 1000) (h : Told st (cs.map (·.2)).flatten Q) : Wv (calls tab (k + 1) i__law_rows_in [.tup (catD cs)] st) Q := by
  walk_at "call"
  refine w_forU (fun xs i loc st' => (∃ x y, loc = [some (.tup (catD cs)), some (.ref st.length), x, y]) ∧ st' = st ++ [.lst ((cs.take i).map (·.2)).flatten]) ?_
  walk_at "ev"
  refine ⟨_, rfl, ⟨⟨_, _, rfl⟩, by simp⟩, ?_, ?_⟩
  · intro i x loc st1 hx ⟨⟨y, z, e1⟩, e2⟩
    subst e1 e2
    rw [List.getElem?_map, Option.map_eq_some_iff] at hx
    obtain ⟨c, hc, rfl⟩ := hx
    obtain ⟨e4, hz⟩ := flat_take hc
    refine ⟨_, rfl, rfl, ?_⟩
    dsimp only [setL, List.set_cons_succ, List.set_cons_zero]
    refine w_extT ?_
    walk_at "ev"
    refine ⟨_, _, rfl, at_new, ?_⟩
    walk_at "ev"
    simp only [List.length_append] at hz
    refine ⟨_, _, at_new, rfl, by omega, ?_⟩
    walk_at "ev"
    refine ⟨⟨_, _, rfl⟩, ?_⟩
    rw [set_one, e4]
  · intro loc st1 ⟨⟨y, z, e1⟩, e2⟩
    subst e1 e2
    walk_at "ev"
    rw [List.length_map, List.take_length]
    exact h _ _ (Nat.le_refl _) (.one _ _) at_new
theorem s_rows_inL {cs : List (Str × List D)} {n : Nat} (hn : st[n]? = some (.lst (catD cs))) (hl : (cs.map (·.2)).flatten.length ≤ 1000) (h : Told st (cs.map (·.2)).flatten Q) : Wv (calls tab (k + 1) i__law_rows_in [.ref n] st) Q := by
  walk_at "call"
  refine w_forUA (fun m xs i loc st' => m = n ∧ xs = catD cs ∧ (∃ x y, loc = [some (.ref n), some (.ref st.length), x, y]) ∧ st' = st ++ [.lst ((cs.take i).map (·.2)).flatten]) ?_
  walk_at "ev"
  refine ⟨n, catD cs, rfl, at_old hn, ⟨rfl, rfl, ⟨_, _, rfl⟩, by simp⟩, fun i loc st' ⟨_, _, _, e⟩ => by rw [e]; exact at_old hn, ?_, ?_⟩
  · intro i x loc st1 hx ⟨_, _, ⟨y, z, e1⟩, e2⟩
    subst e1 e2
    rw [List.getElem?_map, Option.map_eq_some_iff] at hx
    obtain ⟨c, hc, rfl⟩ := hx
    obtain ⟨e4, hz⟩ := flat_take hc
    refine ⟨_, rfl, rfl, ?_⟩
    dsimp only [setL, List.set_cons_succ, List.set_cons_zero]
    refine w_extT ?_
    walk_at "ev"
    refine ⟨_, _, rfl, at_new, ?_⟩
    walk_at "ev"
    simp only [List.length_append] at hz
    refine ⟨_, _, at_new, rfl, by omega, ?_⟩
    walk_at "ev"
    refine ⟨rfl, rfl, ⟨_, _, rfl⟩, ?_⟩
    rw [set_one, e4]
  · intro loc st1 ⟨_, _, ⟨y, z, e1⟩, e2⟩
    subst e1 e2
    walk_at "ev"
    rw [List.length_map, List.take_length]
    exact h _ _ (Nat.le_refl _) (.one _ _) at_new
end
local macro_rules | `(tactic| walk_at "t0") => `(tactic| first
  | (refine w_inK false rfl (by decide +kernel) ⟨_, rfl, nofun, fun _ => ?_⟩) | (refine w_inK true rfl (by decide +kernel) ⟨_, rfl, (fun _ => ?_), nofun⟩)
  | (refine w_eqS false (by decide +kernel) ⟨_, rfl, nofun, fun _ => ?_⟩) | (refine w_eqS true (by decide +kernel) ⟨_, rfl, (fun _ => ?_), nofun⟩))
section
variable {k : Nat} {st : Sto} {Q : D → Sto → Prop}
theorem rest {g : Fns} {loc : Loc} {w : D} {xs ps : List D} (hl : xs.length ≤ 10) (hx : ∀ x ∈ xs, plainP x = true ∨ isT x) (hp : xs.filter tupB = ps) (h : Q (.ref st.length) (st ++ [.lst ps])) :
    ∃ i, D.int 1 = .int i ∧ W (slice (.tup (w :: xs)) (some i) none st) fun d st1 => ∃ s, source false d = some s ∧ W (compS (fun x => bnd (run g (.isi (.v 0) .tuple) (some x :: loc)) fun z => bnd (ofO (bool? z)) fun k => if k then bnd (run g (.v 0) (some x :: loc)) fun y => ret (some y) else ret none) s st1) Q := by
  refine ⟨_, rfl, w_slT (fun z => ?_) ?_⟩
  · have := z.1
    simp [HT.sIx] at this
  · rw [cut1]
    refine ⟨_, rfl, filt (by omega) hx ?_⟩
    rw [hp]
    exact h
theorem pairs {g : Fns} {loc : Loc} {xs : List D} (hl : xs.length ≤ 10) (h : Q (.ref st.length) (st ++ [.lst (xs.map fun x => .tup [.str "", x])])) :
    W (compS (fun x => bnd (run g (.tup [.c (.str ""), .v 0]) (some x :: loc)) fun y => ret (some y)) (.its xs) st) Q := by
  refine w_compS (by omega) (fun i acc st' => acc = (xs.take i).map (fun x => .tup [.str "", x]) ∧ st' = st) ⟨by simp, rfl⟩ (fun i x acc st' hxi ⟨ea, es⟩ => ?_) (fun acc st' ⟨ea, es⟩ => ?_)
  · subst ea es
    have e3 : xs.take (i + 1) = xs.take i ++ [x] := by rw [List.take_succ, hxi]; rfl
    refine w_elt ?_
    walk_at "ev"
    rw [e3, List.map_append]
    exact ⟨rfl, rfl⟩
  · subst ea es
    rw [List.take_length]
    exact h
theorem tupB_p {x : D} (hx : plainP x = true) : tupB x = false := by cases x <;> first | rfl | (cases hx; done)
theorem tupB_t {x : D} (hx : isT x) : tupB x = true := by obtain ⟨_, rfl⟩ := hx; rfl
theorem tupB_s {s : Str} : tupB (.str s) = false := rfl
theorem px {s : Str} : plainP (.str s) = true ∨ isT (.str s) := .inl rfl
theorem al1 {P : D → Prop} {a : D} (h : P a) : ∀ x ∈ [a], P x := fun x hx => by rw [List.mem_singleton.mp hx]; exact h
theorem al2 {P : D → Prop} {a b : D} (h : P a) (k : P b) : ∀ x ∈ [a, b], P x := fun x hx => by
  rcases List.mem_cons.mp hx with rfl | hx
  · exact h
  · exact al1 k x hx
theorem al3 {P : D → Prop} {a b c : D} (h : P a) (k : P b) (l : P c) : ∀ x ∈ [a, b, c], P x := fun x hx => by
  rcases List.mem_cons.mp hx with rfl | hx
  · exact h
  · exact al2 k l x hx
theorem s_law_parts {d : D} {ps : List D} (hf : Fm d ps) (hl : ps.length ≤ 1000) (h : Told st ps Q) : Wv (calls tab (k + 2) i__law_parts [d] st) Q := by
  cases hf with
  | @leaf w x hw hx =>
    simp only [List.mem_cons, List.not_mem_nil, or_false] at hw
    rcases hw with rfl | rfl | rfl | rfl <;> (walk_at "call"; walk_at "tt"; refine rest (ps := []) (by simp) (al1 (.inl hx)) (by simp [tupB_p hx]) ?_; walk_at "ev"; exact h _ _ (Nat.le_refl _) (.one _ _) at_new)
  | @a1 w e hw he =>
    simp only [List.mem_cons, List.not_mem_nil, or_false] at hw
    rcases hw with rfl | rfl | rfl <;> (walk_at "call"; walk_at "tt"; refine rest (ps := [e]) (by simp) (al1 (.inr he)) (by simp [tupB_t he]) ?_; walk_at "ev"; exact h _ _ (Nat.le_refl _) (.one _ _) at_new)
  | @fld e s he => walk_at "call"; walk_at "tt"; refine rest (ps := [e]) (by simp) (al2 (.inr he) px) (by simp [tupB_t he, tupB_s]) ?_; walk_at "ev"; exact h _ _ (Nat.le_refl _) (.one _ _) at_new
  | @a2 w s e hw he =>
    simp only [List.mem_cons, List.not_mem_nil, or_false] at hw
    rcases hw with rfl | rfl | rfl <;> (walk_at "call"; walk_at "tt"; refine rest (ps := [e]) (by simp) (al2 px (.inr he)) (by simp [tupB_t he, tupB_s]) ?_; walk_at "ev"; exact h _ _ (Nat.le_refl _) (.one _ _) at_new)
  | @a3 s t e he => walk_at "call"; walk_at "tt"; refine rest (ps := [e]) (by simp) (al3 px px (.inr he)) (by simp [tupB_t he, tupB_s]) ?_; walk_at "ev"; exact h _ _ (Nat.le_refl _) (.one _ _) at_new
  | @ix e f he hf => walk_at "call"; walk_at "tt"; refine rest (ps := [e, f]) (by simp) (al2 (.inr he) (.inr hf)) (by simp [tupB_t he, tupB_t hf]) ?_; walk_at "ev"; exact h _ _ (Nat.le_refl _) (.one _ _) at_new
  | @b2 w s e f hw he hf =>
    simp only [List.mem_cons, List.not_mem_nil, or_false] at hw
    rcases hw with rfl | rfl <;> (walk_at "call"; walk_at "tt"; refine rest (ps := [e, f]) (by simp) (al3 px (.inr he) (.inr hf)) (by simp [tupB_t he, tupB_t hf, tupB_s]) ?_; walk_at "ev"; exact h _ _ (Nat.le_refl _) (.one _ _) at_new)
  | row =>
    walk_at "call"; walk_at "tt"
    refine ⟨_, rfl, ?_⟩
    walk_at "ev"
    exact h _ _ (Nat.le_refl _) (.one _ _) at_new
  | call hw =>
    simp only [List.mem_cons, List.not_mem_nil, or_false] at hw
    rcases hw with rfl | rfl <;> (walk_at "call"; walk_at "tt"; refine ⟨_, rfl, ?_⟩; walk_at "ev"; exact h _ _ (Nat.le_refl _) (.one _ _) at_new)
  | fn =>
    walk_at "call"; walk_at "tt"
    exact h _ _ (Nat.le_refl _) (.one _ _) at_new
  | @whil e rs =>
    simp only [List.length_append] at hl
    walk_at "call"; walk_at "tt"
    refine ⟨_, rfl, w_slT (fun z => by have := z.1; simp [HT.sIx] at this) ?_⟩
    rw [cut2]
    refine ⟨_, rfl, pairs (by simp) ?_⟩
    walk_at "ev"
    refine s_rows_inL (cs := [("", rs)]) at_new (by simp; omega) fun p st' hp G e => ?_
    refine w_catL (G.at (at_old at_new)) e (by simp; omega) ?_
    walk_at "ev"
    simp only [List.map_cons, List.map_nil, List.flatten_cons, List.flatten_nil, List.append_nil]
    exact h _ _ (by have := G.le; simp at this; omega) ((((Gr.one _ _).more _).trans G).more _) at_new
  | @cond e r1 r2 =>
    simp only [List.length_append] at hl
    walk_at "call"; walk_at "tt"
    refine ⟨_, rfl, w_slT (fun z => by have := z.1; simp [HT.sIx] at this) ?_⟩
    rw [cut2]
    refine ⟨_, rfl, pairs (by simp) ?_⟩
    walk_at "ev"
    refine s_rows_inL (cs := [("", r1), ("", r2)]) at_new (by simp; omega) fun p st' hp G e => ?_
    refine w_catL (G.at (at_old at_new)) e (by simp; omega) ?_
    walk_at "ev"
    simp only [List.map_cons, List.map_nil, List.flatten_cons, List.flatten_nil, List.append_nil]
    refine h _ _ (by have := G.le; simp at this; omega) ((((Gr.one _ _).more _).trans G).more _) ?_
    rw [at_new, List.append_assoc]
  | @tr rs cs =>
    simp only [List.length_append] at hl
    walk_at "call"; walk_at "tt"
    refine s_rows_inT (cs := cs) (by omega) fun p st' hp G e => ?_
    refine w_catL (G.at at_new) e (by omega) ?_
    walk_at "ev"
    exact h _ _ (by have := G.le; simp at this; omega) (((Gr.one _ _).trans G).more _) at_new
end
inductive Ok : Nat → D → Prop where
  | sc {n : Nat} {d : D} (h : plainP d = true) : Ok (n + 1) d
  | t {n : Nat} {xs : List D} (h : ∀ x ∈ xs, Ok n x) : Ok (n + 1) (.tup xs)
theorem Ok.mono : ∀ {n m : Nat} {d : D}, Ok n d → n ≤ m → Ok m d
  | n + 1, m, _, .sc h, hm => by
    obtain ⟨j, rfl⟩ : ∃ j, m = j + 1 := ⟨m - 1, by omega⟩
    exact .sc h
  | n + 1, m, _, .t h, hm => by
    obtain ⟨j, rfl⟩ : ∃ j, m = j + 1 := ⟨m - 1, by omega⟩
    exact .t fun x hx => (h x hx).mono (by omega)
theorem Ok.eq {st : Sto} : ∀ {n : Nat} {d : D}, Ok n d → eqD n st d d = some true
  | n + 1, _, .sc h => eqD_plain h
  | n + 1, _, .t h => by
    show allEq (eqD n st) _ _ = some true
    exact allEq_same fun x hx => (h x hx).eq
theorem eqL {st : Sto} {p q : Nat} {xs : List D} (hp : st[p]? = some (.lst xs)) (hq : st[q]? = some (.lst xs)) (h : ∀ x ∈ xs, Ok 59 x) : eqD 60 st (.ref p) (.ref q) = some true := by
  have e : eqD 60 st (.ref p) (.ref q) = allEq (eqD 59 st) xs xs := by
    show (match shape st (.ref p), shape st (.ref q) with
    | some (.sc x), some (.sc y) => some (eqV x y)
    | some (.t xs), some (.t ys) => allEq (eqD 59 st) xs ys
    | some (.l xs), some (.l ys) => allEq (eqD 59 st) xs ys
    | some .d, some .d => none
    | some _, some _ => some false
    | _, _ => none) = _
    simp only [shape, hp, hq]
  rw [e]
  exact allEq_same fun x hx => (h x hx).eq
inductive R2 (P : D → Nat → Prop) : List D → List Nat → Prop where
  | nil : R2 P [] []
  | cons {d : D} {m : Nat} {ds : List D} {ms : List Nat} (h : P d m) (t : R2 P ds ms) : R2 P (d :: ds) (m :: ms)
theorem R2.imp {P P' : D → Nat → Prop} (k : ∀ d m, P d m → P' d m) : ∀ {ds : List D} {ms : List Nat}, R2 P ds ms → R2 P' ds ms
  | _, _, .nil => .nil
  | _, _, .cons h t => .cons (k _ _ h) (R2.imp k t)
theorem R2.append {P : D → Nat → Prop} : ∀ {ds es : List D} {ms ns : List Nat}, R2 P ds ms → R2 P es ns → R2 P (ds ++ es) (ms ++ ns)
  | _, _, _, _, .nil, k => k
  | _, _, _, _, .cons h t, k => .cons h (t.append k)
theorem R2.le {P : D → Nat → Prop} (hp : ∀ d m, P d m → 1 ≤ m) : ∀ {ds : List D} {ms : List Nat}, R2 P ds ms → ds.length ≤ ms.sum
  | _, _, .nil => Nat.le_refl _
  | _, _, .cons h t => by
    have := R2.le hp t
    have := hp _ _ h
    simp only [List.length_cons, List.sum_cons]
    omega
theorem R2.get {P : D → Nat → Prop} : ∀ {ds : List D} {ms : List Nat} {i : Nat} {d : D}, R2 P ds ms → ds[i]? = some d → ∃ m, P d m ∧ (ms.take (i + 1)).sum = (ms.take i).sum + m ∧ m ≤ ms.sum
  | _, _, 0, _, .cons (m := m) h t, e => by
    cases e
    exact ⟨m, h, by simp, by simp⟩
  | _, _, i + 1, _, .cons (m := m) h t, e => by
    obtain ⟨m', h1, h2, h3⟩ := t.get (by simpa using e)
    refine ⟨m', h1, ?_, ?_⟩
    · simp only [List.take_succ_cons, List.sum_cons, h2]; omega
    · simp only [List.sum_cons]; omega
theorem R2.len {P : D → Nat → Prop} : ∀ {ds : List D} {ms : List Nat}, R2 P ds ms → ds.length = ms.length
  | _, _, .nil => rfl
  | _, _, .cons h t => by simp [t.len]
theorem R2.last {P : D → Nat → Prop} : ∀ {ds : List D} {ms : List Nat}, R2 P ds ms → ds ≠ [] → ∃ y m ms', ds[ds.length - 1]? = some y ∧ P y m ∧ R2 P ds.dropLast ms' ∧ ms.sum = ms'.sum + m
  | _, _, .nil, h => absurd rfl h
  | _, _, .cons (d := d) (m := m) h .nil, _ => ⟨d, m, [], rfl, h, .nil, by simp⟩
  | _, _, .cons (d := d) (m := m) h (.cons (d := d') (m := m') h' t), _ => by
    obtain ⟨y, my, ms', h1, h2, h3, h4⟩ := R2.last (.cons h' t) (by simp)
    refine ⟨y, my, m :: ms', ?_, h2, .cons h h3, ?_⟩
    · simpa using h1
    · simp only [List.sum_cons] at h4 ⊢; omega
noncomputable def Tz : Nat → D → Nat → Prop
  | 0, _, _ => False
  | n + 1, d, m => ∃ ps ms, Fm d ps ∧ ps.length ≤ 1000 ∧ R2 (Tz n) ps ms ∧ m = 1 + ms.sum ∧ Ok 59 d
theorem Tz.ok : ∀ {n : Nat} {d : D} {m : Nat}, Tz n d m → Ok 59 d
  | _ + 1, _, _, ⟨_, _, _, _, _, _, h⟩ => h
theorem Tz.pos : ∀ {n : Nat} {d : D} {m : Nat}, Tz n d m → 1 ≤ m
  | _ + 1, _, _, ⟨_, _, _, _, _, h, _⟩ => by omega
theorem Tz.oks {n : Nat} {ps : List D} {ms : List Nat} (h : R2 (Tz n) ps ms) : ∀ x ∈ ps, Ok 59 x := by
  induction h with
  | nil => exact nofun
  | cons h t ih =>
    intro x hx
    rcases List.mem_cons.mp hx with rfl | hx
    · exact h.ok
    · exact ih x hx
theorem gr_set {st st1 : Sto} {p : Nat} {o : O} (g : Gr st st1) (hp : st.length ≤ p) : Gr st (st1.set p o) := by
  obtain ⟨t, rfl⟩ := g
  exact ⟨t.set (p - st.length) o, by rw [List.set_append_right _ _ hp]⟩
section
variable {g : Fns} {loc : Loc} {st : Sto} {ss : List S} {Q : Fl → Sto → Prop} {e : Ex} {i : Nat}
theorem w_aug {x : Int} (hx : loc[i]? = some (some (.int x))) (h : W (run g e loc st) fun d st1 => ∃ y : Int, d = .int y ∧ W (execs g ss (loc.set i (some (.int (x + y)))) st1) Q) : W (execs g (.aug i e :: ss) loc st) Q :=
  w_scons (by
    rw [exec]
    refine w_bnd (w_v (by rw [hx]) (w_bnd (h.mono fun d st1 ⟨y, e1, q⟩ => w_bnd ?_)))
    subst e1
    exact q)
end
section
variable {k : Nat} {st : Sto} {Q : D → Sto → Prop}
theorem s_counted {n m : Nat} {d : D} (hd : Tz n d m) (hm : m ≤ 10000000) (h : ∀ st', Gr st st' → Q (.int m) st') : Wv (calls tab (k + 4) i_counted [d] st) Q := by
  walk_at "call"
  refine w_whil (fun m' loc st' => ∃ Wt ms, ∃ c : Nat, ∃ p3, loc = [some d, some (.ref st.length), some (.int c), p3] ∧ Gr st st' ∧ st'[st.length]? = some (.lst Wt) ∧ R2 (fun d m => ∃ n, Tz n d m) Wt ms ∧ m' = ms.sum ∧ c + ms.sum = m) m (by omega) ⟨[d], [m], 0, none, rfl, .one _ _, at_new, .cons ⟨n, hd⟩ .nil, by simp, by simp⟩ ?_
  intro m' loc st1 ⟨Wt, ms, c, p3, e1, G1, e2, r, e3, e4⟩
  subst e1
  walk_at "ev"
  refine w_lenL e2 ?_
  walk_at "ev"
  refine ⟨_, rfl, fun hb => ?_, fun hb => ?_⟩
  · have hne : Wt ≠ [] := fun z => by subst z; simp at hb
    obtain ⟨y, my, ms', h1, ⟨ny, h2⟩, h3, h4⟩ := r.last hne
    cases ny with
    | zero => exact h2.elim
    | succ ny =>
      obtain ⟨ps, msy, hf, hpl, hr, hmy, _⟩ := h2
      have hl1 := h3.le (fun d m ⟨n, z⟩ => z.pos)
      have hl2 := hr.le (fun d m z => z.pos)
      refine ⟨(ms' ++ msy).sum, by simp only [List.sum_append]; omega, ?_⟩
      walk_at "ev"
      refine w_popL ?_
      walk_at "ev"
      refine ⟨_, _, y, rfl, e2, h1, ?_⟩
      have lt := (List.getElem?_eq_some_iff.mp e2).1
      have e5 : (st1.set st.length (.lst Wt.dropLast))[st.length]? = some (.lst Wt.dropLast) := set_at lt
      walk_at "ev"
      refine s_parts_in hf hpl fun p st2 hp G2 e6 => ?_
      walk_at "ev"
      refine w_extL ?_
      walk_at "ev"
      refine ⟨_, _, rfl, G2.at e5, ?_⟩
      walk_at "ev"
      refine ⟨_, _, _, G2.at e5, rfl, e6, by omega, ?_⟩
      refine w_aug (x := c) rfl ?_
      walk_at "ev"
      refine ⟨1, rfl, ?_⟩
      walk_at "ev"
      have G3 : Gr st st2 := (gr_set G1 (Nat.le_refl _)).trans G2
      refine ⟨Wt.dropLast ++ ps, ms' ++ msy, c + 1, _, rfl, gr_set G3 (Nat.le_refl _), set_at (List.getElem?_eq_some_iff.mp (G2.at e5)).1, h3.append (hr.imp fun d m z => ⟨_, z⟩), rfl, ?_⟩
      simp only [List.sum_append]
      omega
  · have hz : Wt = [] := by
      have : Wt.length = 0 := by simpa using hb
      exact List.length_eq_zero_iff.mp this
    subst hz
    cases r
    walk_at "ev"
    have : c = m := by simpa using e4
    subst this
    exact h _ G1
end
theorem right_loop {k n : Nat} {d : D} {p1 p2 : Nat} {ps : List D} {ms : List Nat} {st0 st : Sto} {ss : List S} {Q : Fl → Sto → Prop}
    (ih : ∀ {d : D} {m : Nat} {st : Sto} {Q : D → Sto → Prop}, Tz n d m → m ≤ 10000000 → (∀ st', Gr st st' → Q (.int m) st') → Wv (calls tab k i__law_right [d] st) Q)
    (hr : R2 (Tz n) ps ms) (hm : ms.sum ≤ 10000000) (G : Gr st0 st) (h1 : st[p1]? = some (.lst ps))
    (h : ∀ a b st', Gr st0 st' → st'[p1]? = some (.lst ps) → W (execs (calls tab k) ss [some d, some (.ref p1), some (.ref p2), some (.int (1 + ms.sum : Nat)), a, b, none] st') Q) :
    W (execs (calls tab k) (.for_ 4 false (.v 1) [.set 5 (.fn 16 [.v 4]), .ite (.cmp .Is (.v 5) (.c (.non))) [.ret (.c (.non))] [], .set 3 (.bin .add (.v 3) (.v 5))] :: ss) [some d, some (.ref p1), some (.ref p2), some (.int 1), none, none, none] st) Q := by
  refine w_forA (fun n' xs i loc st' => n' = p1 ∧ xs = ps ∧ (∃ a b, loc = [some d, some (.ref p1), some (.ref p2), some (.int (1 + (ms.take i).sum : Nat)), a, b, none]) ∧ Gr st0 st' ∧ st'[p1]? = some (.lst ps)) ?_
  walk_at "ev"
  refine ⟨p1, ps, rfl, h1, ⟨rfl, rfl, ⟨none, none, by simp⟩, G, h1⟩, fun i loc st' ⟨_, _, _, _, e⟩ => e, ?_, ?_⟩
  · intro i x loc st1 hx ⟨_, _, ⟨a, b, e1⟩, G1, e2⟩
    subst e1
    obtain ⟨m, hd, hs, hle⟩ := hr.get hx
    simp only [List.set_cons_succ, List.set_cons_zero]
    walk_at "ev"
    refine ih hd (by omega) fun st2 G2 => ?_
    walk_at "ev"
    refine w_is (k := false) rfl ⟨_, rfl, nofun, fun _ => ?_⟩
    walk_at "ev"
    have ez : ((1 + (ms.take i).sum : Nat) : Int) + (m : Int) = ((1 + (ms.take (i + 1)).sum : Nat) : Int) := by rw [hs]; omega
    rw [ez]
    exact ⟨trivial, trivial, ⟨_, _, rfl⟩, G1.trans G2, G2.at e2⟩
  · intro loc st1 ⟨_, _, ⟨a, b, e1⟩, G1, e2⟩
    subst e1
    have : ps.length = ms.length := hr.len
    rw [this, List.take_length]
    exact h a b st1 G1 e2
theorem s_right {k : Nat} : ∀ {n : Nat} {d : D} {m : Nat} {st : Sto} {Q : D → Sto → Prop}, Tz n d m → m ≤ 10000000 → (∀ st', Gr st st' → Q (.int m) st') → Wv (calls tab (k + n + 4) i__law_right [d] st) Q
  | 0, _, _, _, _, hd, _, _ => hd.elim
  | n + 1, d, m, st, Q, hd, hm, h => by
    obtain ⟨ps, ms, hf, hl, hr, e, _⟩ := id hd
    have hok := Tz.oks hr
    show Wv (calls tab (k + n + 4 + 1) i__law_right [d] st) Q
    refine w_call rfl rfl ?_
    dsimp only [f__law_right, List.map, List.length, List.replicate, List.append, HAppend.hAppend, Append.append]
    walk_at "ev"
    refine s_law_parts (k := k + n + 2) hf hl fun p1 st1 hp1 G1 e1 => ?_
    walk_at "ev"
    refine s_parts_in (k := k + n + 1) hf hl fun p2 st2 hp2 G2 e2 => ?_
    walk_at "ev"
    have lt1 := (List.getElem?_eq_some_iff.mp e1).1
    refine ⟨true, by simp only [isiD, e2], _, rfl, ?_⟩
    refine ⟨_, rfl, nofun, fun _ => ?_⟩
    walk_at "ev"
    refine w_ne (eqL e2 (G2.at e1) hok) ?_
    refine ⟨_, rfl, nofun, fun _ => ?_⟩
    walk_at "ev"
    refine w_clr ?_
    walk_at "ev"
    refine ⟨_, _, rfl, e2, ?_⟩
    walk_at "ev"
    have G3 : Gr st (st2.set p2 (.lst [])) := gr_set (G1.trans G2) (by have := G1.le; omega)
    have e3 : (st2.set p2 (.lst []))[p1]? = some (.lst ps) := by rw [List.getElem?_set_ne (by omega)]; exact G2.at e1
    refine right_loop (ms := ms) (fun a b c => s_right a b c) hr (by omega) G3 e3 fun a b st4 G4 e4 => ?_
    walk_at "ev"
    refine s_counted (k := k + n) hd hm fun st5 G5 => ?_
    walk_at "ev"
    refine s_parts_in (k := k + n + 1) hf hl fun p6 st6 hp6 G6 e6 => ?_
    walk_at "ev"
    refine w_ne (eqL e6 ((G5.trans G6).at e4) hok) ?_
    refine ⟨_, rfl, nofun, fun _ => ?_⟩
    walk_at "ev"
    refine ⟨true, rfl, _, rfl, ?_⟩
    refine ⟨_, rfl, nofun, fun _ => ?_⟩
    walk_at "ev"
    refine ⟨false, rfl, ?_⟩
    refine ⟨_, rfl, nofun, fun _ => ?_⟩
    walk_at "ev"
    refine ⟨_, rfl, (fun z => absurd z (by rw [e]; simp)), fun _ => ?_⟩
    walk_at "ev"
    rw [← e]
    exact h _ ((G4.trans G5).trans G6)
noncomputable def LB (st : Sto) (n : Nat) : Prop := ∃ ns : List Int, st[n]? = some (.lst (ns.map .int))
structure Lp (n : Nat) (st st' : Sto) : Prop where
  le : st.length ≤ st'.length
  same : ∀ i, i < st.length → i ≠ n → st'[i]? = st[i]?
  box : LB st' n
theorem LB.lt {st : Sto} {n : Nat} (h : LB st n) : n < st.length := by
  obtain ⟨ns, e⟩ := h
  exact (List.getElem?_eq_some_iff.mp e).1
theorem Lp.of_gr {st st' : Sto} {n : Nat} (h : LB st n) (g : Gr st st') : Lp n st st' :=
  ⟨g.le, fun i hi _ => by
    obtain ⟨t, rfl⟩ := g
    rw [List.getElem?_append_left hi], let ⟨ns, e⟩ := h; ⟨ns, g.at e⟩⟩
theorem Lp.refl {st : Sto} {n : Nat} (h : LB st n) : Lp n st st := .of_gr h (.refl _)
theorem Lp.trans {n : Nat} {a b c : Sto} (h : Lp n a b) (k : Lp n b c) : Lp n a c :=
  ⟨Nat.le_trans h.le k.le, fun i hi hn => (k.same i (Nat.lt_of_lt_of_le hi h.le) hn).trans (h.same i hi hn), k.box⟩
theorem Lp.more {n : Nat} {a b : Sto} (h : Lp n a b) (o : O) : Lp n a (b ++ [o]) := h.trans (.of_gr h.box (.one _ _))
theorem Lp.at {n : Nat} {a b : Sto} (h : Lp n a b) {i : Nat} {o : O} (e : a[i]? = some o) (hn : i ≠ n) : b[i]? = some o := by
  rw [h.same i (List.getElem?_eq_some_iff.mp e).1 hn]; exact e
theorem new_neL {st : Sto} {n : Nat} (h : LB st n) : st.length ≠ n := Nat.ne_of_gt h.lt
theorem eqL_nil {st : Sto} {p q : Nat} {xs : List D} (hp : st[p]? = some (.lst xs)) (hq : st[q]? = some (.lst [])) : eqD 60 st (.ref p) (.ref q) = some xs.isEmpty := by
  have e : eqD 60 st (.ref p) (.ref q) = allEq (eqD 59 st) xs [] := by
    show (match shape st (.ref p), shape st (.ref q) with
    | some (.sc x), some (.sc y) => some (eqV x y)
    | some (.t xs), some (.t ys) => allEq (eqD 59 st) xs ys
    | some (.l xs), some (.l ys) => allEq (eqD 59 st) xs ys
    | some .d, some .d => none
    | some _, some _ => some false
    | _, _ => none) = _
    simp only [shape, hp, hq]
  rw [e]
  cases xs <;> rfl
section
variable {k n : Nat} {st : Sto} {Q : D → Sto → Prop}
theorem s_take (hb : LB st n) (h : ∀ i st', Lp n st st' → Q (.int i) st') : Wv (calls tab (k + 1) i__law_take [.ref n] st) Q := by
  obtain ⟨ns, e⟩ := id hb
  have L1 := (Lp.refl hb).more (.lst [])
  walk_at "call"
  refine w_eq (eqL_nil (at_old e) at_new) ⟨_, rfl, fun z => ?_, fun z => ?_⟩
  · walk_at "ev"
    exact h _ _ L1
  · walk_at "ev"
    cases ns with
    | nil => simp at z
    | cons i ns =>
      refine w_popF ?_
      walk_at "ev"
      refine ⟨_, _, _, rfl, at_old e, ?_⟩
      walk_at "ev"
      refine h _ _ ⟨by rw [List.length_set]; exact L1.le, fun j hj hn => by rw [List.getElem?_set_ne (Ne.symm hn)]; exact L1.same j hj hn, ⟨ns, set_at L1.box.lt⟩⟩
theorem s_name (hb : LB st n) (h : ∀ s st', Lp n st st' → Q (.str s) st') : Wv (calls tab (k + 2) i__law_name [.ref n] st) Q := by
  walk_at "call"
  refine s_take ((Lp.refl hb).more _).box fun i st1 L1 => ?_
  walk_at "ev"
  have hq : 0 ≤ i % 7 ∧ i % 7 < 7 := ⟨Int.emod_nonneg _ (by decide), Int.emod_lt_of_pos _ (by decide)⟩
  refine w_ixAny (L1.at at_new (new_neL hb)) hq.1 hq.2 fun d hd _ => ?_
  have : ∃ s, d = .str s := by
    simp only [List.mem_cons, List.not_mem_nil, or_false] at hd
    rcases hd with rfl | rfl | rfl | rfl | rfl | rfl | rfl <;> exact ⟨_, rfl⟩
  obtain ⟨s, rfl⟩ := this
  walk_at "ev"
  exact h _ _ (((Lp.refl hb).more _).trans L1)
end
noncomputable def B : Nat → Nat
  | 0 => 1
  | d + 1 => 1 + 6 * B d
theorem Tz.mono : ∀ {a b : Nat} {d : D} {m : Nat}, Tz a d m → a ≤ b → Tz b d m
  | a + 1, b, d, m, ⟨ps, ms, h1, h2, h3, h4, h5⟩, hb => by
    obtain ⟨c, rfl⟩ : ∃ c, b = c + 1 := ⟨b - 1, by omega⟩
    exact ⟨ps, ms, h1, h2, h3.imp fun x y z => Tz.mono z (by omega), h4, h5⟩
structure Exp (dep : Nat) (d : D) : Prop where
  tz : ∃ m, Tz (dep + 1) d m ∧ m ≤ B dep
  ok : Ok (4 * (dep + 1)) d
theorem Exp.isT {dep : Nat} {d : D} (h : Exp dep d) : K06.isT d := by
  obtain ⟨m, ⟨ps, ms, hf, _⟩, _⟩ := h.tz
  exact hf.isT
theorem Exp.all {dep : Nat} : ∀ {es : List D}, (∀ e ∈ es, Exp dep e) → ∃ ms, R2 (Tz (dep + 1)) es ms ∧ ms.sum ≤ es.length * B dep
  | [], _ => ⟨[], .nil, by simp⟩
  | e :: es, h => by
    obtain ⟨ms, h1, h2⟩ := Exp.all (es := es) fun x hx => h x (List.mem_cons_of_mem _ hx)
    obtain ⟨m, h3, h4⟩ := (h e (by simp)).tz
    refine ⟨m :: ms, .cons h3 h1, ?_⟩
    simp only [List.sum_cons, List.length_cons, Nat.add_mul]
    omega
theorem leaf_exp {w : Str} {x : D} (dep : Nat) (hw : w ∈ (["num", "truth", "name", "raise"] : List Str)) (hx : plainP x = true) : Exp dep (.tup [.str w, x]) := by
  have ho : Ok (4 * (dep + 1)) (.tup [.str w, x]) := by
    have : Ok 2 (.tup [.str w, x]) := .t (al2 (.sc rfl) (.sc hx))
    exact this.mono (by omega)
  have ho2 : Ok 59 (.tup [.str w, x]) := by
    have : Ok 2 (.tup [.str w, x]) := .t (al2 (.sc rfl) (.sc hx))
    exact this.mono (by omega)
  refine ⟨⟨1, ⟨[], [], .leaf hw hx, by simp, .nil, rfl, ho2⟩, ?_⟩, ho⟩
  cases dep <;> simp [B]
theorem mk_exp {dep : Nat} {d : D} {es : List D} (hf : Fm d es) (hd : dep ≤ 3) (he : ∀ e ∈ es, Exp dep e) (hl : es.length ≤ 6) (ho : Ok (4 * (dep + 1) + 4) d) : Exp (dep + 1) d := by
  obtain ⟨ms, h1, h2⟩ := Exp.all he
  refine ⟨⟨1 + ms.sum, ⟨es, ms, hf, by omega, h1, rfl, ho.mono (by omega)⟩, ?_⟩, ho.mono (by omega)⟩
  have : es.length * B dep ≤ 6 * B dep := Nat.mul_le_mul_right _ hl
  simp only [B]
  omega
section
variable {n : Nat} {st : Sto} {Q : D → Sto → Prop}
theorem s_parts_of {K dep : Nat} (ih : ∀ {st : Sto} {Q : D → Sto → Prop}, LB st n → (∀ d st', Exp dep d → Lp n st st' → Q d st') → Wv (calls tab K i__law_expression [.ref n, .int dep] st) Q)
    {m : Int} (hm : 0 ≤ m ∧ m ≤ 6) (hb : LB st n) (h : ∀ es st', es.length = m.toNat → (∀ e ∈ es, Exp dep e) → Lp n st st' → Q (.tup es) st') :
    Wv (calls tab (K + 1) i__law_parts_of [.ref n, .int (dep + 1 : Nat), .int m] st) Q := by
  walk_at "call"
  refine ⟨_, source_rng (by omega), w_compS (by rw [rangeD_len]; omega) (fun i acc st' => Lp n st st' ∧ acc.length = i ∧ ∀ e ∈ acc, Exp dep e) ⟨.refl hb, rfl, nofun⟩ (fun i x acc st' hx ⟨L1, e1, e2⟩ => ?_) (fun acc st' ⟨L1, e1, e2⟩ => ?_)⟩
  · refine w_elt ?_
    walk_at "ev"
    rw [show ((dep + 1 : Nat) : Int) - 1 = (dep : Int) by omega]
    refine ih L1.box fun d st2 hd L2 => ?_
    refine ⟨L1.trans L2, by simp [e1], fun e he => ?_⟩
    rcases List.mem_append.mp he with he | he
    · exact e2 e he
    · rw [List.mem_singleton.mp he]; exact hd
  · walk_at "ev"
    refine w_tupleL at_new ?_
    walk_at "ev"
    rw [rangeD_len] at e1
    exact h acc _ e1 e2 (L1.more _)
end
theorem len1 {es : List D} (h : es.length = 1) : ∃ e, es = [e] := List.length_eq_one_iff.mp h
theorem len2 {es : List D} (h : es.length = 2) : ∃ e f, es = [e, f] := by
  match es, h with
  | [e, f], _ => exact ⟨e, f, rfl⟩
theorem leaf3 {dep : Nat} {d : D} {m : Int} {b : Bool} {s : Str} (hd : d ∈ ([.tup [.str "num", .int m], .tup [.str "truth", .bl b], .tup [.str "name", .str s]] : List D)) : Exp dep d := by
  simp only [List.mem_cons, List.not_mem_nil, or_false] at hd
  rcases hd with rfl | rfl | rfl
  · exact leaf_exp dep (by decide +kernel) rfl
  · exact leaf_exp dep (by decide +kernel) rfl
  · exact leaf_exp dep (by decide +kernel) rfl
theorem em {i m : Int} (h : 0 < m) : 0 ≤ i % m ∧ i % m < m := ⟨Int.emod_nonneg _ (by omega), Int.emod_lt_of_pos _ h⟩
theorem okS {n : Nat} {s : Str} (h : 0 < n) : Ok n (.str s) := by
  cases n with
  | zero => omega
  | succ n => exact .sc rfl
theorem okT {n : Nat} {es : List D} (h : ∀ e ∈ es, Ok n e) : Ok (n + 1) (.tup es) := .t h
section
variable {n : Nat} {st : Sto} {Q : D → Sto → Prop}
theorem s_expr0 {k : Nat} (hb : LB st n) (h : ∀ d st', Exp 0 d → Lp n st st' → Q d st') : Wv (calls tab (k + 3) i__law_expression [.ref n, .int (0 : Nat)] st) Q := by
  walk_at "call"
  refine s_take hb fun w st1 L1 => ?_
  walk_at "ev"
  refine ⟨_, rfl, fun _ => ?_, fun z => absurd z (by simp)⟩
  refine ⟨_, rfl, (fun _ => ?_), nofun⟩
  walk_at "ev"
  refine s_name L1.box fun s st2 L2 => ?_
  walk_at "ev"
  refine w_ixAny at_new (em (by decide)).1 (em (by decide)).2 fun d hd _ => ?_
  walk_at "ev"
  exact h _ _ (leaf3 hd) ((L1.trans L2).more _)
theorem s_exprS {K dep : Nat} (hdep : dep ≤ 2) (ih : ∀ {st : Sto} {Q : D → Sto → Prop}, LB st n → (∀ d st', Exp dep d → Lp n st st' → Q d st') → Wv (calls tab (K + 1) i__law_expression [.ref n, .int dep] st) Q)
    (hb : LB st n) (h : ∀ d st', Exp (dep + 1) d → Lp n st st' → Q d st') : Wv (calls tab (K + 3) i__law_expression [.ref n, .int (dep + 1 : Nat)] st) Q := by
  walk_at "call"
  refine s_take hb fun w st1 L1 => ?_
  walk_at "ev"
  refine ⟨_, rfl, fun z => absurd z (by simp; omega), fun _ => ?_⟩
  walk_at "ev"
  refine ⟨_, rfl, fun _ => ?_, fun z3 => ?_⟩
  · walk_at "ev"
    refine s_name L1.box fun s st2 L2 => ?_
    walk_at "ev"
    refine w_ixAny at_new (em (by decide)).1 (em (by decide)).2 fun d hd _ => ?_
    walk_at "ev"
    exact h _ _ (leaf3 hd) ((L1.trans L2).more _)
  walk_at "ev"
  refine ⟨_, rfl, fun _ => ?_, fun z4 => ?_⟩
  · walk_at "ev"
    refine w_ixAny at_new (em (by decide)).1 (em (by decide)).2 fun d hd _ => ?_
    have : ∃ s, d = .str s := by
      simp only [List.mem_cons, List.not_mem_nil, or_false] at hd
      rcases hd with rfl | rfl | rfl | rfl | rfl | rfl | rfl | rfl | rfl <;> exact ⟨_, rfl⟩
    obtain ⟨s, rfl⟩ := this
    walk_at "ev"
    refine s_parts_of ih (by decide) (L1.more _).box fun es st2 hl he L2 => ?_
    obtain ⟨e, f, rfl⟩ := len2 hl
    refine w_catT (by simp) (by simp) ?_
    walk_at "ev"
    have h1 := he e (by simp)
    have h2 := he f (by simp)
    refine h _ _ (mk_exp (.b2 (w := "two") (by decide +kernel) h1.isT h2.isT) (by omega) (al2 h1 h2) (by simp) ?_) ((L1.more _).trans L2)
    exact .t (fun x hx => by
      simp only [List.cons_append, List.nil_append, List.mem_cons, List.not_mem_nil, or_false] at hx
      rcases hx with rfl | rfl | rfl | rfl
      · exact okS (by omega)
      · exact okS (by omega)
      · exact h1.ok.mono (by omega)
      · exact h2.ok.mono (by omega))
  walk_at "ev"
  refine ⟨_, rfl, fun _ => ?_, fun z5 => ?_⟩
  · walk_at "ev"
    refine w_ixAny at_new (em (by decide)).1 (em (by decide)).2 fun d hd _ => ?_
    have : ∃ s, d = .str s := by
      simp only [List.mem_cons, List.not_mem_nil, or_false] at hd
      rcases hd with rfl | rfl <;> exact ⟨_, rfl⟩
    obtain ⟨s, rfl⟩ := this
    walk_at "ev"
    refine s_parts_of ih (by decide) (L1.more _).box fun es st2 hl he L2 => ?_
    obtain ⟨e, rfl⟩ := len1 hl
    refine w_catT (by simp) (by simp) ?_
    walk_at "ev"
    have h1 := he e (by simp)
    refine h _ _ (mk_exp (.a2 (w := "one") (by decide +kernel) h1.isT) (by omega) (al1 h1) (by simp) ?_) ((L1.more _).trans L2)
    exact .t (al3 (okS (by omega)) (okS (by omega)) (h1.ok.mono (by omega)))
  walk_at "ev"
  refine ⟨_, rfl, fun _ => ?_, fun z6 => ?_⟩
  · walk_at "ev"
    refine s_parts_of ih (by decide) L1.box fun es st2 hl he L2 => ?_
    obtain ⟨e, rfl⟩ := len1 hl
    refine w_catT (by simp) (by simp) ?_
    walk_at "ev"
    refine s_name (k := K) L2.box fun s st3 L3 => ?_
    walk_at "ev"
    refine w_catT (by simp) (by simp) ?_
    walk_at "ev"
    have h1 := he e (by simp)
    refine h _ _ (mk_exp (.fld h1.isT) (by omega) (al1 h1) (by simp) ?_) ((L1.trans L2).trans L3)
    exact .t (al3 (okS (by omega)) (h1.ok.mono (by omega)) (okS (by omega)))
  walk_at "ev"
  refine ⟨_, rfl, fun _ => ?_, fun z7 => ?_⟩
  · walk_at "ev"
    refine s_parts_of ih (by decide) L1.box fun es st2 hl he L2 => ?_
    obtain ⟨e, f, rfl⟩ := len2 hl
    refine w_catT (by simp) (by simp) ?_
    walk_at "ev"
    have h1 := he e (by simp)
    have h2 := he f (by simp)
    refine h _ _ (mk_exp (.ix h1.isT h2.isT) (by omega) (al2 h1 h2) (by simp) ?_) (L1.trans L2)
    exact .t (al3 (okS (by omega)) (h1.ok.mono (by omega)) (h2.ok.mono (by omega)))
  walk_at "ev"
  refine ⟨_, rfl, fun _ => ?_, fun z8 => ?_⟩
  · walk_at "ev"
    have hq : 0 ≤ w / 11 % 6 ∧ w / 11 % 6 < 6 := em (by decide)
    refine s_parts_of ih (by omega) L1.box fun es st2 hl he L2 => ?_
    walk_at "ev"
    refine h _ _ (mk_exp .row (by omega) he (by omega) ?_) (L1.trans L2)
    exact .t (al2 (okS (by omega)) (okT fun e hx => (he e hx).ok.mono (by omega)))
  walk_at "ev"
  have hk : 0 ≤ w % 11 ∧ w % 11 < 11 := em (by decide)
  have z3 := of_decide_eq_false z3
  have z4 := of_decide_eq_false z4
  have z5 := of_decide_eq_false z5
  have z6 := of_decide_eq_false z6
  have z7 := of_decide_eq_false z7
  have z8 := of_decide_eq_false z8
  refine w_ixAny at_new (by omega : 0 ≤ w % 11 - 8) (by show w % 11 - 8 < 3; omega) fun d hd _ => ?_
  have : ∃ s : Str, d = .str s ∧ s ∈ (["call", "new"] : List Str) := by
    simp only [List.mem_cons, List.not_mem_nil, or_false] at hd
    rcases hd with rfl | rfl | rfl <;> exact ⟨_, rfl, by decide +kernel⟩
  obtain ⟨s, rfl, hs⟩ := this
  walk_at "ev"
  refine s_name (k := K) (L1.more _).box fun s' st2 L2 => ?_
  walk_at "ev"
  have hq : 0 ≤ w / 11 % 5 ∧ w / 11 % 5 < 5 := em (by decide)
  refine s_parts_of ih (by omega) L2.box fun es st3 hl he L3 => ?_
  walk_at "ev"
  refine h _ _ (mk_exp (.call hs) (by omega) he (by omega) ?_) (((L1.more _).trans L2).trans L3)
  exact .t (al3 (okS (by omega)) (okS (by omega)) (okT fun e hx => (he e hx).ok.mono (by omega)))
theorem s_expr {k : Nat} : ∀ (dep : Nat), dep ≤ 3 → ∀ {st : Sto} {Q : D → Sto → Prop}, LB st n → (∀ d st', Exp dep d → Lp n st st' → Q d st') → Wv (calls tab (k + 3 + 2 * dep) i__law_expression [.ref n, .int dep] st) Q
  | 0, _, _, _, hb, h => s_expr0 hb h
  | dep + 1, hd, st, Q, hb, h => by
    have e1 : k + 3 + 2 * (dep + 1) = (k + 2 + 2 * dep) + 3 := by omega
    have e2 : k + 3 + 2 * dep = (k + 2 + 2 * dep) + 1 := by omega
    have ih := fun {st : Sto} {Q : D → Sto → Prop} => @s_expr k dep (by omega) st Q
    rw [e2] at ih
    rw [e1]
    exact s_exprS (by omega) (fun a b => ih a b) hb h
end
noncomputable def Rb : Nat → Nat
  | 0 => 300
  | d + 1 => 301 + 18 * Rb d
theorem Rb.ge : ∀ d, 300 ≤ Rb d
  | 0 => Nat.le_refl _
  | d + 1 => by have := Rb.ge d; simp only [Rb]; omega
structure Rw (dep : Nat) (d : D) : Prop where
  tz : ∃ m, Tz (5 + dep) d m ∧ m ≤ Rb dep
  ok : Ok (20 + 4 * dep) d
theorem Rw.all {dep : Nat} : ∀ {es : List D}, (∀ e ∈ es, Rw dep e) → ∃ ms, R2 (Tz (5 + dep)) es ms ∧ ms.sum ≤ es.length * Rb dep
  | [], _ => ⟨[], .nil, by simp⟩
  | e :: es, h => by
    obtain ⟨ms, h1, h2⟩ := Rw.all (es := es) fun x hx => h x (List.mem_cons_of_mem _ hx)
    obtain ⟨m, h3, h4⟩ := (h e (by simp)).tz
    refine ⟨m :: ms, .cons h3 h1, ?_⟩
    simp only [List.sum_cons, List.length_cons, Nat.add_mul]
    omega
theorem row_leaf {dep : Nat} {s : Str} (hd : dep ≤ 3) : Rw dep (.tup [.str "raise", .str s]) := by
  have ho : Ok 2 (.tup [.str "raise", .str s]) := .t (al2 (.sc rfl) (.sc rfl))
  have hr : Tz 1 (.tup [.str "raise", .str s]) 1 := ⟨[], [], .leaf (by decide +kernel) rfl, by simp, .nil, rfl, ho.mono (by omega)⟩
  exact ⟨⟨1, hr.mono (by omega), by have := Rb.ge dep; omega⟩, ho.mono (by omega)⟩
theorem row_one {dep : Nat} {d e : D} (hf : Fm d [e]) (hd : dep ≤ 3) (he : Exp 3 e) (ho : Ok 17 d) : Rw dep d := by
  obtain ⟨m, h1, h2⟩ := he.tz
  have hb : B 3 = 259 := rfl
  have hr : Tz 5 d (1 + [m].sum) := ⟨[e], [m], hf, by simp, .cons h1 .nil, rfl, ho.mono (by omega)⟩
  exact ⟨⟨_, hr.mono (by omega), by have := Rb.ge dep; simp only [List.sum_cons, List.sum_nil]; omega⟩, ho.mono (by omega)⟩
theorem row_two {dep : Nat} {d e f : D} (hfm : Fm d [e, f]) (hd : dep ≤ 3) (he : Exp 2 e) (hf : Exp 2 f) (ho : Ok 17 d) : Rw dep d := by
  obtain ⟨m, h1, h2⟩ := he.tz
  obtain ⟨m', h3, h4⟩ := hf.tz
  have hb : B 2 = 43 := rfl
  have hr : Tz 4 d (1 + [m, m'].sum) := ⟨[e, f], [m, m'], hfm, by simp, .cons h1 (.cons h3 .nil), rfl, ho.mono (by omega)⟩
  exact ⟨⟨_, hr.mono (by omega), by have := Rb.ge dep; simp only [List.sum_cons, List.sum_nil]; omega⟩, ho.mono (by omega)⟩
theorem row_rows {dep : Nat} {d : D} {ts rs : List D} (hf : Fm d (ts ++ rs)) (hd : dep ≤ 2) (ht : ∀ e ∈ ts, Exp 2 e) (htl : ts.length ≤ 1) (hr : ∀ r ∈ rs, Rw dep r) (hrl : rs.length ≤ 18) (ho : Ok (20 + 4 * (dep + 1)) d) : Rw (dep + 1) d := by
  obtain ⟨ms, h1, h2⟩ := Exp.all ht
  obtain ⟨ms', h3, h4⟩ := Rw.all hr
  have hb : B 2 = 43 := rfl
  have q1 : ts.length * B 2 ≤ 1 * B 2 := Nat.mul_le_mul_right _ htl
  have q2 : rs.length * Rb dep ≤ 18 * Rb dep := Nat.mul_le_mul_right _ hrl
  have hz : Tz (5 + dep + 1) d (1 + (ms ++ ms').sum) := ⟨ts ++ rs, ms ++ ms', hf, by simp only [List.length_append]; omega, (h1.imp fun a b c => c.mono (by omega)).append h3, rfl, ho.mono (by omega)⟩
  refine ⟨⟨_, hz.mono (by omega), ?_⟩, ho⟩
  simp only [List.sum_append, Rb]
  omega
theorem cut_mem {xs : List D} {lo hi : Option Int} {x : D} (h : x ∈ cutD xs lo hi) : x ∈ xs := List.mem_of_mem_drop (List.mem_of_mem_take h)
theorem cut_len {xs : List D} {lo hi : Option Int} : (cutD xs lo hi).length ≤ xs.length := by
  unfold cutD
  rw [List.length_take, List.length_drop]
  omega
theorem w_slB {g : Fns} {a b c : Ex} {loc : Loc} {st : Sto} {Q : D → Sto → Prop} (h : W (run g a loc st) fun x st1 => W (run g b loc st1) fun y st2 => ∃ i, y = .int i ∧ W (run g c loc st2) fun z st3 => ∃ j, z = .int j ∧ W (slice x (some i) (some j) st3) Q) : W (run g (.sl a b c true true) loc st) Q := by
  rw [run]
  refine w_bnd (h.mono fun _ _ q => w_bnd ?_)
  show W ((bnd (run g b loc) fun z => bnd (ofO (int? z)) fun i => ret (some i)) _) _
  refine w_bnd (q.mono fun _ _ ⟨i, e, q⟩ => ?_)
  subst e
  show W ((bnd (if true = true then bnd (run g c loc) fun z => bnd (ofO (int? z)) fun i => ret (some i) else ret none) fun h => slice _ (some i) h) _) Q
  exact w_bnd (show W ((bnd (run g c loc) fun z => bnd (ofO (int? z)) fun i => ret (some i)) _) _ from w_bnd (q.mono fun _ _ ⟨i, e, q⟩ => by subst e; exact q))
section
variable {n : Nat} {st : Sto} {Q : D → Sto → Prop}
theorem s_some {K dep : Nat} (ih : ∀ {st : Sto} {Q : D → Sto → Prop}, LB st n → (∀ d st', Rw dep d → Lp n st st' → Q d st') → Wv (calls tab (K + 1) i__law_row [.ref n, .int dep] st) Q)
    {m : Nat} (hm : m ≤ 5) (hb : LB st n) (h : ∀ rs st', rs.length ≤ m → (∀ r ∈ rs, Rw dep r) → Lp n st st' → Q (.tup rs) st') :
    Wv (calls tab (K + 2) i__law_some [.ref n, .int dep, .int m] st) Q := by
  walk_at "call"
  refine s_take hb fun w st1 L1 => ?_
  walk_at "ev"
  have hq : 0 ≤ w % ((m : Int) + 1) ∧ w % ((m : Int) + 1) < (m : Int) + 1 := em (by omega)
  refine ⟨_, source_rng (by omega), w_compS (by rw [rangeD_len]; omega) (fun i acc st' => Lp n st1 st' ∧ acc.length = i ∧ ∀ e ∈ acc, Rw dep e) ⟨.refl L1.box, rfl, nofun⟩ (fun i x acc st' hx ⟨L2, e1, e2⟩ => ?_) (fun acc st' ⟨L2, e1, e2⟩ => ?_)⟩
  · refine w_elt ?_
    walk_at "ev"
    refine ih L2.box fun d st2 hd L3 => ?_
    refine ⟨L2.trans L3, by simp [e1], fun e he => ?_⟩
    rcases List.mem_append.mp he with he | he
    · exact e2 e he
    · rw [List.mem_singleton.mp he]; exact hd
  · walk_at "ev"
    refine w_tupleL at_new ?_
    walk_at "ev"
    rw [rangeD_len] at e1
    exact h acc _ (by omega) e2 (L1.trans (L2.more _))
theorem flat_le : ∀ {cs : List (Str × List D)}, (∀ c ∈ cs, c.2.length ≤ 2) → (cs.map (·.2)).flatten.length ≤ 2 * cs.length
  | [], _ => by simp
  | c :: cs, h => by
    have h1 := flat_le (cs := cs) fun x hx => h x (List.mem_cons_of_mem _ hx)
    have h2 := h c (by simp)
    simp only [List.map_cons, List.flatten_cons, List.length_append, List.length_cons]
    omega
theorem s_guarded {K dep : Nat} (hd : dep ≤ 2) (ih : ∀ {st : Sto} {Q : D → Sto → Prop}, LB st n → (∀ rs st', rs.length ≤ 2 → (∀ r ∈ rs, Rw dep r) → Lp n st st' → Q (.tup rs) st') → Wv (calls tab K i__law_some [.ref n, .int dep, .int (2 : Nat)] st) Q)
    {m : Int} (hb : LB st n) (h : ∀ d st', Rw (dep + 1) d → Lp n st st' → Q d st') :
    Wv (calls tab (K + 1) i__law_guarded [.ref n, .int (dep + 1 : Nat), .int m] st) Q := by
  have words : ∀ x ∈ ([.str "zero", .str "odd", .str "a", .str "range", .str "great", .str "end", .str "low", .str "try"] : List D), ∃ s, x = .str s := fun x hx => by
    simp only [List.mem_cons, List.not_mem_nil, or_false] at hx
    rcases hx with rfl | rfl | rfl | rfl | rfl | rfl | rfl | rfl <;> exact ⟨_, rfl⟩
  have rest : ∀ {p3 : Nat} {ws : List D} {st1 : Sto}, Lp n st st1 → st1[p3]? = some (.lst ws) → p3 ≠ n → ws.length ≤ 8 → (∀ x ∈ ws, ∃ s, x = .str s) →
      W (execs (calls tab K) [.set 4 (.fn 11 [.v 0, .bin .sub (.v 1) (.c (.int 1)), .c (.int 2)]), .ret (.tup [.c (.str "try"), .v 4, .bt .tuple [.comp false (.v 3) (.tup [.v 0, .fn 11 [.v 1, .bin .sub (.v 2) (.c (.int 1)), .c (.int 2)]])]])] [some (.ref n), some (.int (dep + 1 : Nat)), some (.int m), some (.ref p3), none] st1) (Kr Q) := by
    intro p3 ws st1 L1 e3 hne hl hw
    walk_at "ev"
    rw [show ((dep + 1 : Nat) : Int) - 1 = (dep : Int) by omega]
    refine ih L1.box fun rs st2 hrl hr L2 => ?_
    walk_at "ev"
    refine ⟨_, rfl, ?_⟩
    refine w_compSA (by omega) (L2.at e3 hne) (fun i acc st' => Lp n st2 st' ∧ ∃ cs, acc = catD cs ∧ cs.length = i ∧ ∀ c ∈ cs, c.2.length ≤ 2 ∧ ∀ r ∈ c.2, Rw dep r) ⟨.refl L2.box, [], rfl, rfl, nofun⟩ (fun i acc st' ⟨L3, _⟩ => L3.at (L2.at e3 hne) hne) (fun i x acc st' hx ⟨L3, cs, e1, e2, e4⟩ => ?_) (fun acc st' ⟨L3, cs, e1, e2, e4⟩ => ?_)
    · obtain ⟨s, rfl⟩ := hw x (List.mem_of_getElem? hx)
      refine w_elt ?_
      walk_at "ev"
      rw [show ((dep + 1 : Nat) : Int) - 1 = (dep : Int) by omega]
      refine ih L3.box fun rs' st3 hrl' hr' L4 => ?_
      walk_at "ev"
      refine ⟨L3.trans L4, cs ++ [(s, rs')], by rw [e1]; simp, by simp [e2], fun c hc => ?_⟩
      rcases List.mem_append.mp hc with hc | hc
      · exact e4 c hc
      · rw [List.mem_singleton.mp hc]; exact ⟨hrl', hr'⟩
    · walk_at "ev"
      refine w_tupleL at_new ?_
      walk_at "ev"
      subst e1
      have hfl := flat_le fun c hc => (e4 c hc).1
      have hall : ∀ r ∈ (cs.map (·.2)).flatten, Rw dep r := fun r hx => by
        obtain ⟨l, hl1, hl2⟩ := List.mem_flatten.mp hx
        obtain ⟨c, hc, rfl⟩ := List.mem_map.mp hl1
        exact (e4 c hc).2 r hl2
      refine h _ _ (row_rows (ts := []) (rs := rs ++ (cs.map (·.2)).flatten) Fm.tr hd nofun (by simp) (fun r hx => ?_) (by simp only [List.length_append]; omega) ?_) (L1.trans (L2.trans (L3.more _)))
      · rcases List.mem_append.mp hx with hx | hx
        · exact hr r hx
        · exact hall r hx
      · refine Ok.mono (n := 20 + 4 * dep + 4) (okT (n := 20 + 4 * dep + 3) (al3 (okS (by omega)) (okT (n := 20 + 4 * dep + 2) fun r hx => (hr r hx).ok.mono (by omega)) (okT (n := 20 + 4 * dep + 2) fun x hx => ?_))) (by omega)
        obtain ⟨c, hc, rfl⟩ := List.mem_map.mp hx
        exact okT (n := 20 + 4 * dep + 1) (al2 (okS (by omega)) (okT (n := 20 + 4 * dep) fun r hx => ((e4 c hc).2 r hx).ok))
  walk_at "call"
  refine ⟨_, rfl, fun _ => ?_, fun _ => ?_⟩
  · refine w_set (w_slB ?_)
    walk_at "ev"
    refine ⟨_, rfl, ?_⟩
    walk_at "ev"
    refine ⟨_, rfl, w_slL at_new ?_⟩
    refine w_snil (kn_nx ?_)
    exact rest (((Lp.refl hb).more _).more _) at_new (new_neL ((Lp.refl hb).more _).box) (Nat.le_trans cut_len (by simp)) fun x hx => words x (cut_mem hx)
  · refine w_snil (kn_nx ?_)
    exact rest ((Lp.refl hb).more _) at_new (new_neL hb) (by simp) words
end
theorem e16 {dep : Nat} {d : D} (h : Exp dep d) (hd : dep ≤ 3) : Ok 16 d := h.ok.mono (by omega)
theorem ok17a {w : Str} {e : D} (h : Ok 16 e) : Ok 17 (.tup [.str w, e]) := okT (n := 16) (al2 (okS (by omega)) h)
theorem ok17b {w s : Str} {e : D} (h : Ok 16 e) : Ok 17 (.tup [.str w, .str s, e]) := okT (n := 16) (al3 (okS (by omega)) (okS (by omega)) h)
theorem ok17c {w s t : Str} {e : D} (h : Ok 16 e) : Ok 17 (.tup [.str w, .str s, .str t, e]) := okT (n := 16) fun x hx => by
  rcases List.mem_cons.mp hx with rfl | hx
  · exact okS (by omega)
  · exact al3 (okS (by omega)) (okS (by omega)) h x hx
theorem ok17d {w s : Str} {e f : D} (h : Ok 16 e) (h' : Ok 16 f) : Ok 17 (.tup [.str w, .str s, e, f]) := okT (n := 16) fun x hx => by
  rcases List.mem_cons.mp hx with rfl | hx
  · exact okS (by omega)
  · exact al3 (okS (by omega)) h h' x hx
section
variable {n : Nat}
theorem s_rowG {k dep : Nat} {st : Sto} {Q : D → Sto → Prop} (hd : dep ≤ 3)
    (rows : ∀ {m : Nat} {st : Sto} {Q : D → Sto → Prop} {j : Nat}, dep = j + 1 → m ≤ 3 → LB st n → (∀ rs st', rs.length ≤ m → (∀ r ∈ rs, Rw j r) → Lp n st st' → Q (.tup rs) st') → Wv (calls tab (k + 9) i__law_some [.ref n, .int j, .int m] st) Q)
    (grd : ∀ {m : Int} {st : Sto} {Q : D → Sto → Prop} {j : Nat}, dep = j + 1 → LB st n → (∀ d st', Rw (j + 1) d → Lp n st st' → Q d st') → Wv (calls tab (k + 9) i__law_guarded [.ref n, .int (j + 1 : Nat), .int m] st) Q)
    (hb : LB st n) (h : ∀ d st', Rw dep d → Lp n st st' → Q d st') : Wv (calls tab (k + 10) i__law_row [.ref n, .int dep] st) Q := by
  have ex3 : ∀ {st : Sto} {Q : D → Sto → Prop}, LB st n → (∀ d st', Exp 3 d → Lp n st st' → Q d st') → Wv (calls tab (k + 9) i__law_expression [.ref n, .int 3] st) Q := fun hb h => s_expr (k := k) 3 (by omega) hb h
  have ex2 : ∀ {st : Sto} {Q : D → Sto → Prop}, LB st n → (∀ d st', Exp 2 d → Lp n st st' → Q d st') → Wv (calls tab (k + 9) i__law_expression [.ref n, .int 2] st) Q := fun hb h => s_expr (k := k + 2) 2 (by omega) hb h
  walk_at "call"
  refine s_take hb fun w st1 L1 => ?_
  have hk : 0 ≤ w % 12 ∧ w % 12 < 12 := em (by decide)
  walk_at "ev"
  refine ⟨_, rfl, fun _ => ?_, fun z0 => ?_⟩
  · walk_at "ev"
    refine s_name (k := k + 7) L1.box fun s st2 L2 => ?_
    walk_at "ev"
    exact h _ _ (row_leaf hd) (L1.trans L2)
  have z0 := of_decide_eq_false z0
  walk_at "ev"
  refine ⟨_, rfl, fun z1 => ?_, fun z1 => ?_⟩
  · have z1 := of_decide_eq_true z1
    walk_at "ev"
    refine w_ixAny at_new (by omega : 0 ≤ w % 12 - 1) (by show w % 12 - 1 < 3; omega) fun d hx _ => ?_
    have : ∃ s : Str, d = .str s ∧ s ∈ (["log", "do", "return"] : List Str) := by
      simp only [List.mem_cons, List.not_mem_nil, or_false] at hx
      rcases hx with rfl | rfl | rfl <;> exact ⟨_, rfl, by decide +kernel⟩
    obtain ⟨s, rfl, hs⟩ := this
    walk_at "ev"
    refine ex3 (L1.more _).box fun e st2 he L2 => ?_
    walk_at "ev"
    exact h _ _ (row_one (.a1 hs he.isT) hd he (ok17a (e16 he (by omega)))) ((L1.more _).trans L2)
  have z1 := of_decide_eq_false z1
  walk_at "ev"
  refine ⟨_, rfl, fun z2 => ?_, fun z2 => ?_⟩
  · have z2 := of_decide_eq_true z2
    walk_at "ev"
    refine w_ixAny at_new (by omega : 0 ≤ w % 12 - 4) (by show w % 12 - 4 < 2; omega) fun d hx _ => ?_
    have : ∃ s : Str, d = .str s ∧ s ∈ (["one", "let", "set"] : List Str) := by
      simp only [List.mem_cons, List.not_mem_nil, or_false] at hx
      rcases hx with rfl | rfl <;> exact ⟨_, rfl, by decide +kernel⟩
    obtain ⟨s, rfl, hs⟩ := this
    walk_at "ev"
    refine s_name (k := k + 7) (L1.more _).box fun s' st2 L2 => ?_
    walk_at "ev"
    refine ex3 L2.box fun e st3 he L3 => ?_
    walk_at "ev"
    exact h _ _ (row_one (.a2 hs he.isT) hd he (ok17b (e16 he (by omega)))) (((L1.more _).trans L2).trans L3)
  have z2 := of_decide_eq_false z2
  walk_at "ev"
  refine ⟨_, rfl, fun _ => ?_, fun z3 => ?_⟩
  · walk_at "ev"
    refine s_name (k := k + 7) L1.box fun s' st2 L2 => ?_
    walk_at "ev"
    refine ex2 L2.box fun e st3 he L3 => ?_
    walk_at "ev"
    refine ex2 L3.box fun f st4 hf L4 => ?_
    walk_at "ev"
    exact h _ _ (row_two (.b2 (w := "setat") (by decide +kernel) he.isT hf.isT) hd he hf (ok17d (e16 he (by omega)) (e16 hf (by omega)))) (((L1.trans L2).trans L3).trans L4)
  have z3 := of_decide_eq_false z3
  walk_at "ev"
  have sf : ∀ {Q' : Fl → Sto → Prop}, (∀ d st', Q d st' → Q' (.rt d) st') → W (execs (calls tab (k + 9)) [.ret (.tup [.c (.str "setfield"), .fn 8 [.v 0], .fn 8 [.v 0], .fn 10 [.v 0, .c (.int 3)]])] [some (.ref n), some (.int dep), some (.int w), some (.int (w % 12)), none] st1) Q' := fun {Q'} fin => by
    walk_at "ev"
    refine s_name (k := k + 7) L1.box fun s' st2 L2 => ?_
    walk_at "ev"
    refine s_name (k := k + 7) L2.box fun s'' st3 L3 => ?_
    walk_at "ev"
    refine ex3 L3.box fun e st4 he L4 => ?_
    walk_at "ev"
    exact fin _ _ (h _ _ (row_one (.a3 he.isT) hd he (ok17c (e16 he (by omega)))) (((L1.trans L2).trans L3).trans L4))
  refine ⟨_, rfl, fun _ => ?_, fun z4 => ?_⟩
  · refine ⟨_, rfl, (fun _ => ?_), nofun⟩
    exact sf fun d st' q => q
  have z4 := of_decide_eq_false z4
  walk_at "ev"
  refine ⟨_, rfl, fun _ => ?_, fun z5 => ?_⟩
  · exact sf fun d st' q => q
  have z5 := of_decide_eq_false z5
  obtain ⟨j, rfl⟩ : ∃ j, dep = j + 1 := ⟨dep - 1, by omega⟩
  walk_at "ev"
  refine ⟨_, rfl, fun _ => ?_, fun z6 => ?_⟩
  · walk_at "ev"
    refine ex2 L1.box fun e st2 he L2 => ?_
    walk_at "ev"
    rw [show ((j + 1 : Nat) : Int) - 1 = (j : Int) by omega]
    refine rows (m := 3) rfl (by omega) L2.box fun r1 st3 l1 h1 L3 => ?_
    walk_at "ev"
    rw [show ((j + 1 : Nat) : Int) - 1 = (j : Int) by omega]
    refine rows (m := 3) rfl (by omega) L3.box fun r2 st4 l2 h2 L4 => ?_
    walk_at "ev"
    refine h _ _ (row_rows (ts := [e]) (rs := r1 ++ r2) (by rw [← List.append_assoc]; exact .cond) (by omega) (al1 he) (by simp) (fun r hx => ?_) (by simp only [List.length_append]; omega) ?_) (((L1.trans L2).trans L3).trans L4)
    · rcases List.mem_append.mp hx with hx | hx
      · exact h1 r hx
      · exact h2 r hx
    · refine Ok.mono (n := 20 + 4 * j + 2) (okT (n := 20 + 4 * j + 1) fun x hx => ?_) (by omega)
      rcases List.mem_cons.mp hx with rfl | hx
      · exact okS (by omega)
      · exact al3 ((e16 he (by omega)).mono (by omega)) (okT (n := 20 + 4 * j) fun r hx => (h1 r hx).ok) (okT (n := 20 + 4 * j) fun r hx => (h2 r hx).ok) x hx
  have z6 := of_decide_eq_false z6
  walk_at "ev"
  refine ⟨_, rfl, fun _ => ?_, fun z7 => ?_⟩
  · walk_at "ev"
    refine ex2 L1.box fun e st2 he L2 => ?_
    walk_at "ev"
    rw [show ((j + 1 : Nat) : Int) - 1 = (j : Int) by omega]
    refine rows (m := 3) rfl (by omega) L2.box fun r1 st3 l1 h1 L3 => ?_
    walk_at "ev"
    refine h _ _ (row_rows (ts := [e]) (rs := r1) .whil (by omega) (al1 he) (by simp) h1 (by omega) ?_) ((L1.trans L2).trans L3)
    exact Ok.mono (n := 20 + 4 * j + 2) (okT (n := 20 + 4 * j + 1) (al3 (okS (by omega)) ((e16 he (by omega)).mono (by omega)) (okT (n := 20 + 4 * j) fun r hx => (h1 r hx).ok))) (by omega)
  walk_at "ev"
  refine grd rfl L1.box fun d st2 hd' L2 => ?_
  walk_at "ev"
  exact h _ _ hd' (L1.trans L2)
theorem s_row : ∀ (dep : Nat), dep ≤ 3 → ∀ {k : Nat} {st : Sto} {Q : D → Sto → Prop}, LB st n → (∀ d st', Rw dep d → Lp n st st' → Q d st') → Wv (calls tab (k + 3 * dep + 10) i__law_row [.ref n, .int dep] st) Q
  | 0, _, k, st, Q, hb, h => s_rowG (k := k + 3 * 0) (by omega) (fun e => by omega) (fun e => by omega) hb h
  | dep + 1, hd, k, st, Q, hb, h => by
    have some' : ∀ {k' m : Nat} {st : Sto} {Q : D → Sto → Prop}, m ≤ 5 → LB st n → (∀ rs st', rs.length ≤ m → (∀ r ∈ rs, Rw dep r) → Lp n st st' → Q (.tup rs) st') → Wv (calls tab (k' + 3 * dep + 9 + 2) i__law_some [.ref n, .int dep, .int m] st) Q := fun {k' m st Q} hm hb h => s_some (K := k' + 3 * dep + 9) (fun a b => s_row dep (by omega) (k := k') a b) hm hb h
    refine s_rowG (k := k + 3 * (dep + 1)) hd ?_ ?_ hb h
    · intro m st Q j e hm hb h
      cases e
      have e1 : k + 3 * (dep + 1) + 9 = (k + 1) + 3 * dep + 9 + 2 := by omega
      rw [e1]
      exact some' (by omega) hb h
    · intro m st Q j e hb h
      cases e
      have e1 : k + 3 * (dep + 1) + 9 = (k + 3 * dep + 9 + 2) + 1 := by omega
      rw [e1]
      exact s_guarded (by omega) (fun a b => some' (m := 2) (by omega) a b) hb h
theorem s_rows {k : Nat} {st : Sto} {Q : D → Sto → Prop} (hb : LB st n) (h : ∀ rs st', rs.length ≤ 5 → (∀ r ∈ rs, Rw 3 r) → Lp n st st' → Q (.tup rs) st') : Wv (calls tab (k + 20) i__law_some [.ref n, .int 3, .int 5] st) Q :=
  s_some (K := k + 18) (dep := 3) (m := 5) (fun a b => s_row 3 (by omega) (k := k) a b) (by omega) hb h
end
noncomputable def mx (c m : Int) : Int := (((c % 2147483629 * 48271 + m * 7919 + 104729) % 2147483629 * ((c % 2147483629 * 48271 + m * 7919 + 104729) % 2147483629) % 2147483629 * 16807 + m * 104729 + 11) % 2147483587) * (((c % 2147483629 * 48271 + m * 7919 + 104729) % 2147483629 * ((c % 2147483629 * 48271 + m * 7919 + 104729) % 2147483629) % 2147483629 * 16807 + m * 104729 + 11) % 2147483587) % 2147483587
section
variable {k : Nat} {st : Sto} {Q : D → Sto → Prop}
theorem s_mixed {c m : Int} (h : Q (.int (mx c m)) st) : Wv (calls tab (k + 1) i__law_mixed [.int c, .int m] st) Q := by
  walk_at "call"
  exact h
theorem w_appI {g : Fns} {o e : Ex} {loc : Loc} {st : Sto} {ss : List S} {Q : Fl → Sto → Prop} {p : Nat} {xs : List D} (ho : ∀ {Q : D → Sto → Prop}, Q (.ref p) st → W (run g o loc st) Q) (hp : st[p]? = some (.lst xs)) (hl : xs.length < 1000000) (h : W (run g e loc st) fun d st1 => st1 = st ∧ W (execs g ss loc (st.set p (.lst (xs ++ [d])))) Q) : W (execs g (.app o e :: ss) loc st) Q :=
  w_app (ho (w_lstOk hp (h.mono fun d st1 ⟨e, q⟩ => by subst e; exact w_append hp hl q)))
noncomputable def Mk (st st' : Sto) (m : Nat) : Prop := ∃ ns : List Int, st' = st ++ [.lst (ns.map .int)] ∧ ns.length ≤ m
theorem Mk.add {st : Sto} {m : Nat} {ns : List Int} {i : Int} (hl : ns.length ≤ m) : Mk st (List.set (st ++ [O.lst (ns.map D.int)]) st.length (O.lst (ns.map D.int ++ [D.int i]))) (m + 1) := by
  refine ⟨ns ++ [i], ?_, by simp; omega⟩
  rw [set_one]
  simp
theorem s_numbers {ns : List Int} (hl : ns.length ≤ 63) (h : ∀ p st', Gr st st' → st.length ≤ p → LB st' p → Q (.ref p) st') : Wv (calls tab (k + 2) i__law_numbers [.fl (ns.map .int), .int 300] st) Q := by
  walk_at "call"
  refine w_for (fun xs i loc st' => (∃ a b c, loc = [some (.fl (ns.map .int)), some (.int 300), some (.ref st.length), a, b, c]) ∧ Mk st st' (40 * i)) ?_
  walk_at "ev"
  refine ⟨_, rfl, ⟨⟨_, _, _, rfl⟩, [], rfl, by simp⟩, ?_, ?_⟩
  · intro i x loc st1 hx ⟨⟨a, b, c, e1⟩, hM⟩
    subst e1
    have hi : i < 63 := by
      have := (List.getElem?_eq_some_iff.mp hx).1
      simp at this
      omega
    have : ∃ v : Int, x = .int v := by
      have := List.mem_of_getElem? hx
      obtain ⟨v, _, rfl⟩ := List.mem_map.mp this
      exact ⟨v, rfl⟩
    obtain ⟨v, rfl⟩ := this
    simp only [List.set_cons_succ, List.set_cons_zero]
    walk_at "ev"
    refine w_for (fun xs j loc st' => (∃ (b : Int) (c : Option D), loc = [some (.fl (ns.map .int)), some (.int 300), some (.ref st.length), some (.int v), some (.int b), c]) ∧ Mk st st' (40 * i + j)) ?_
    walk_at "ev"
    refine ⟨_, source_rng (by decide), ⟨⟨_, _, rfl⟩, hM⟩, ?_, ?_⟩
    · intro j y loc st2 hy ⟨⟨b, c, e2⟩, hM2⟩
      subst e2
      have hj : j < 40 := by
        have := (List.getElem?_eq_some_iff.mp hy).1
        rw [rangeD_len] at this
        exact this
      obtain ⟨zs, rfl, hz⟩ := hM2
      simp only [List.set_cons_succ, List.set_cons_zero]
      walk_at "ev"
      refine ⟨_, rfl, fun _ => ?_, fun _ => ?_⟩
      · refine w_appI (fun q => w_v rfl q) at_new (by simp; omega) ?_
        walk_at "ev"
        refine w_lenL at_new ?_
        walk_at "ev"
        refine s_mixed ?_
        walk_at "ev"
        refine ⟨rfl, ?_⟩
        walk_at "ev"
        exact ⟨⟨_, _, rfl⟩, Mk.add (by omega)⟩
      · walk_at "ev"
        refine ⟨_, rfl, fun _ => ?_, fun _ => ?_⟩
        · refine w_appI (fun q => w_v rfl q) at_new (by simp; omega) ?_
          walk_at "ev"
          refine ⟨rfl, ?_⟩
          walk_at "ev"
          exact ⟨⟨_, _, rfl⟩, Mk.add (by omega)⟩
        · walk_at "ev"
          exact ⟨⟨_, _, rfl⟩, zs, rfl, by omega⟩
    · intro loc st2 ⟨⟨b, c, e2⟩, hM2⟩
      subst e2
      walk_at "ev"
      rw [rangeD_len] at hM2
      exact ⟨⟨_, _, _, rfl⟩, by simpa [Nat.mul_add] using hM2⟩
  · intro loc st1 ⟨⟨a, b, c, e1⟩, hM⟩
    subst e1
    obtain ⟨zs, rfl, hz⟩ := hM
    rw [List.length_map] at hz
    refine w_whil (fun m' loc st' => ∃ zs : List Int, st' = st ++ [.lst (zs.map .int)] ∧ zs.length ≤ 40 * 63 + 300 ∧ m' = 300 - zs.length ∧ loc = [some (.fl (ns.map .int)), some (.int 300), some (.ref st.length), a, b, c]) (300 - zs.length) (by omega) ⟨zs, rfl, by omega, rfl, rfl⟩ ?_
    intro m' loc st2 ⟨ys, e2, hy, e3, e4⟩
    subst e2 e4
    walk_at "ev"
    refine w_lenL at_new ?_
    walk_at "ev"
    refine ⟨_, rfl, fun hb => ?_, fun hb => ?_⟩
    · have hb := of_decide_eq_true hb
      simp only [List.length_map] at hb
      refine ⟨300 - (ys.length + 1), by omega, ?_⟩
      refine w_appI (fun q => w_v rfl q) at_new (by simp; omega) ?_
      walk_at "ev"
      refine w_lenL at_new ?_
      walk_at "ev"
      refine s_mixed ?_
      walk_at "ev"
      refine ⟨rfl, ?_⟩
      walk_at "ev"
      refine ⟨ys ++ [mx (ys.map D.int).length 300 % 1009], ?_, by simp; omega, by simp, rfl⟩
      rw [set_one]
      simp
    · walk_at "ev"
      refine ⟨_, rfl, w_slL at_new ?_⟩
      walk_at "ev"
      refine h _ _ ((Gr.one _ _).more _) (by simp) ⟨(ys.drop (HT.sIx (ys.map D.int).length 0 none)).take (HT.sIx (ys.map D.int).length (ys.map D.int).length (some 300) - HT.sIx (ys.map D.int).length 0 none), ?_⟩
      rw [at_new]
      simp [cutD, List.map_take, List.map_drop]
end
noncomputable abbrev LET : Str := "abcdefghijklmnopqrstuvwxyz"
noncomputable def inAZ (c : Nat) : Bool := decide (97 ≤ c) && decide (c ≤ 122)
theorem let_mem (c : Nat) : decide (c ∈ LET.cps.toList) = inAZ c := by
  have e : LET.cps.toList = (List.range 26).map (· + 97) := by decide +kernel
  rw [e, Bool.eq_iff_iff]
  simp only [inAZ, decide_eq_true_eq, List.mem_map, List.mem_range, Bool.and_eq_true]
  constructor
  · rintro ⟨a, h, rfl⟩
    omega
  · rintro ⟨h1, h2⟩
    exact ⟨c - 97, by omega, by omega⟩
theorem w_inS {st : Sto} {Q : D → Sto → Prop} {c : Nat} {z : Str} (h : Q (.bl (decide (c ∈ z.cps.toList))) st) : W (cmpop .In (.str ⟨#[c]⟩) (.str z) st) Q := by
  rw [← PySem.StrLaws.found_one] at h
  simp only [cmpop, seqOf, dictIn, txtIn]
  exact h
theorem w_leS {st : Sto} {Q : D → Sto → Prop} {a b : Str} (h : Q (.bl (!decide (b.cps.toList < a.cps.toList))) st) : W (cmpop .LtE (.str a) (.str b) st) Q := h
theorem lt_one {a b : Nat} : decide ([a] < [b]) = decide (a < b) := by
  rw [Bool.eq_iff_iff]
  simp [List.cons_lt_cons_iff]
noncomputable def nameB (z : Str) : Bool := (decide (1 ≤ z.length) && decide (z.length ≤ 8)) && z.cps.toList.all inAZ
theorem allB_map {l : List Bool} : allB (l.map .bl) = some (l.all id) := by
  induction l with
  | nil => rfl
  | cons b l ih => simp only [List.map_cons, allB, ih, List.all_cons, id]
section
variable {k : Nat} {st : Sto} {Q : D → Sto → Prop}
theorem w_lenS {z : Str} (hz : z.length ≤ 1000000) (h : Q (.int z.length) st) : W (btin .len [.str z] st) Q := by
  simp only [btin]; rw [if_pos hz]; exact h
theorem len_test {g : Fns} {loc : Loc} {z : Str} {Q : D → Sto → Prop} (hz : z.length ≤ 100) (hv : loc[0]? = some (some (.str z))) (h : Q (.bl (!(decide (1 ≤ z.length) && decide (z.length ≤ 8)))) st) :
    W (run g (.or (.not (.isi (.v 0) .str)) (.not (.chain .LtE .LtE (.c (.int 1)) (.bt .len [.v 0]) (.c (.int 8))))) loc st) Q := by
  have e1 : decide ((1 : Int) ≤ (z.length : Int)) = decide (1 ≤ z.length) := by rw [Bool.eq_iff_iff]; simp; omega
  have e2 : decide ((z.length : Int) ≤ (8 : Int)) = decide (z.length ≤ 8) := by rw [Bool.eq_iff_iff]; simp; omega
  refine w_or (w_not (w_isi (w_v (by rw [hv]) ⟨true, rfl, _, rfl, ?_⟩)))
  refine ⟨_, rfl, nofun, fun _ => ?_⟩
  refine w_not (w_chain (w_c (w_bt (w_acons (w_v (by rw [hv]) (w_anil (w_lenS (by omega) (w_le ?_))))))))
  rw [e1]
  refine ⟨_, rfl, fun t => ?_, fun f => ?_⟩
  · refine w_c (w_le ?_)
    rw [e2]
    refine ⟨_, rfl, ?_⟩
    rw [t] at h
    exact h
  · refine ⟨_, rfl, ?_⟩
    rw [f] at h
    exact h
theorem s_is_name {z : Str} (hz : z.length ≤ 100) (h : ∀ st', Gr st st' → Q (.bl (nameB z)) st') : Wv (calls tab (k + 1) i_is_name [.str z] st) Q := by
  refine w_call rfl rfl ?_
  dsimp only [f_is_name, List.map, List.length, List.replicate, List.append, HAppend.hAppend, Append.append]
  refine w_if (len_test hz rfl ?_)
  have hl : (signs z).length = z.length := by simp [signs, Str.length]
  refine ⟨_, rfl, fun e => ?_, fun e => ?_⟩
  · walk_at "ev"
    have e : (decide (1 ≤ z.length) && decide (z.length ≤ 8)) = false := by simpa only [Bool.not_eq_true'] using e
    have := h st (.refl _)
    rw [nameB, e] at this
    exact this
  · have e : (decide (1 ≤ z.length) && decide (z.length ≤ 8)) = true := by simpa only [Bool.not_eq_false'] using e
    walk_at "ev"
    refine ⟨.its (signs z), by simp only [source]; rw [if_pos (by omega)], ?_⟩
    refine w_compS (by omega) (fun i acc st' => acc = ((z.cps.toList.take i).map inAZ).map D.bl ∧ st' = st) ⟨by simp, rfl⟩ (fun i x acc st' hx ⟨ea, es⟩ => ?_) (fun acc st' ⟨ea, es⟩ => ?_)
    · subst ea es
      rw [signs, List.getElem?_map, Option.map_eq_some_iff] at hx
      obtain ⟨c, hc, rfl⟩ := hx
      have e3 : z.cps.toList.take (i + 1) = z.cps.toList.take i ++ [c] := by rw [List.take_succ, hc]; rfl
      refine w_elt ?_
      walk_at "ev"
      refine w_inS ?_
      rw [let_mem, e3]
      simp
    · subst ea es
      walk_at "ev"
      refine w_allL at_new allB_map ?_
      walk_at "ev"
      have e4 : (signs z).length = z.cps.toList.length := by simp [signs]
      rw [e4, List.take_length]
      have := h _ (Gr.one _ (.lst ((z.cps.toList.map inAZ).map D.bl)))
      rw [nameB, e] at this
      simpa [List.all_map] using this
theorem s_due {z : Str} (hz : z.length ≤ 100) (h : ∀ st', Gr st st' → Q (.bl (nameB z)) st') : Wv (calls tab (k + 1) i__law_due [.str z] st) Q := by
  refine w_call rfl rfl ?_
  dsimp only [f__law_due, List.map, List.length, List.replicate, List.append, HAppend.hAppend, Append.append]
  refine w_if (len_test hz rfl ?_)
  have hl : (signs z).length = z.length := by simp [signs, Str.length]
  refine ⟨_, rfl, fun e => ?_, fun e => ?_⟩
  · walk_at "ev"
    have e : (decide (1 ≤ z.length) && decide (z.length ≤ 8)) = false := by simpa only [Bool.not_eq_true'] using e
    have := h st (.refl _)
    rw [nameB, e] at this
    exact this
  · have e : (decide (1 ≤ z.length) && decide (z.length ≤ 8)) = true := by simpa only [Bool.not_eq_false'] using e
    walk_at "ev"
    refine ⟨.its (signs z), by simp only [source]; rw [if_pos (by omega)], ?_⟩
    refine w_compS (by omega) (fun i acc st' => acc.isEmpty = (z.cps.toList.take i).all inAZ ∧ st' = st) ⟨rfl, rfl⟩ (fun i x acc st' hx ⟨ea, es⟩ => ?_) (fun acc st' ⟨ea, es⟩ => ?_)
    · subst es
      rw [signs, List.getElem?_map, Option.map_eq_some_iff] at hx
      obtain ⟨c, hc, rfl⟩ := hx
      have e3 : z.cps.toList.take (i + 1) = z.cps.toList.take i ++ [c] := by rw [List.take_succ, hc]; rfl
      have ea1 : ("a" : Str).cps.toList = [97] := by decide +kernel
      have ez1 : ("z" : Str).cps.toList = [122] := by decide +kernel
      refine w_eltIf ?_
      walk_at "ev"
      refine w_leS ?_
      rw [ea1, show ((⟨#[c]⟩ : Str).cps.toList) = [c] from rfl, lt_one]
      rw [e3, List.all_append, ← ea]
      refine ⟨_, rfl, fun t => ?_, fun f => ?_⟩
      · walk_at "ev"
        refine w_leS ?_
        rw [ez1, show ((⟨#[c]⟩ : Str).cps.toList) = [c] from rfl, lt_one]
        refine ⟨_, rfl, ?_⟩
        have t : 97 ≤ c := by simpa using t
        refine ⟨_, rfl, fun q => ?_, fun q => ?_⟩
        · walk_at "ev"
          have q : 122 < c := by simpa using q
          have hq : inAZ c = false := by
            simp only [inAZ, Bool.and_eq_false_iff, decide_eq_false_iff_not]
            omega
          exact ⟨by simp [hq], rfl⟩
        · have q : c ≤ 122 := by simpa using q
          have hq : inAZ c = true := by
            simp only [inAZ, Bool.and_eq_true, decide_eq_true_eq]
            omega
          exact ⟨by simp [hq], rfl⟩
      · refine ⟨_, rfl, ?_⟩
        have f : c < 97 := by simpa using f
        refine ⟨_, rfl, (fun _ => ?_), nofun⟩
        walk_at "ev"
        have hq : inAZ c = false := by
          simp only [inAZ, Bool.and_eq_false_iff, decide_eq_false_iff_not]
          omega
        exact ⟨by simp [hq], rfl⟩
    · subst es
      walk_at "ev"
      refine w_eq (eqL_nil (at_old at_new) at_new) ?_
      walk_at "ev"
      have e4 : (signs z).length = z.cps.toList.length := by simp [signs]
      rw [ea, e4, List.take_length]
      have := h _ ((Gr.one _ (.lst acc)).more (.lst []))
      rw [nameB, e] at this
      simpa using this
end
theorem strs_map {l : List Str} : strs? (l.map D.str) = some l := by
  induction l with
  | nil => rfl
  | cons s l ih => simp only [List.map_cons, strs?, ih]; rfl
theorem sum_one : ∀ {l : List Str}, (∀ s ∈ l, s.length = 1) → (l.map (·.length)).sum = l.length
  | [], _ => rfl
  | s :: l, h => by
    have := sum_one (l := l) fun x hx => h x (List.mem_cons_of_mem _ hx)
    simp only [List.map_cons, List.sum_cons, List.length_cons, h s (by simp), this]
    omega
theorem joined_len {l : List Str} (h : ∀ s ∈ l, s.length = 1) : (joined "" l).length ≤ l.length := by
  have e0 : ("" : Str).length = 0 := by decide +kernel
  unfold joined
  split
  · rename_i x
    rw [h x (by simp)]
    simp
  · rw [PySem.size_glued, e0, sum_one h]
    omega
theorem fold_len {l : List Str} (h : ∀ s ∈ l, s.length = 1) : ∀ a : Nat, l.foldl (· + ·.length + ("" : Str).length) a = a + l.length := by
  have e0 : ("" : Str).length = 0 := by decide +kernel
  induction l with
  | nil => intro a; simp
  | cons s l ih =>
    intro a
    rw [List.foldl_cons, ih (fun x hx => h x (List.mem_cons_of_mem _ hx)), h s (by simp), e0, List.length_cons]
    omega
theorem cutS_len {z : Str} {lo hi : Option Int} : (cutS z lo hi).length ≤ z.length := by
  unfold cutS
  split
  · exact Nat.le_refl _
  · show (List.toArray _).size ≤ _
    rw [List.size_toArray]
    refine Nat.le_trans (List.length_filterMap_le _ _) ?_
    unfold Builtin.Str.strSliceIndices sliceRange
    simp only [List.length_map, List.length_range, show ((1 : Int) > 0) by decide, if_true]
    cases lo <;> cases hi <;> simp only [] <;> (repeat' split) <;> omega
section
variable {st : Sto} {Q : D → Sto → Prop}
theorem w_ixS {z : Str} {i : Int} {c : Nat} (hz : z.length ≤ 1000000) (e : atI z.cps.toList i = some c) (h : Q (.str ⟨#[c]⟩) st) : W (index (.str z) (.int i) st) Q := by
  simp only [index]
  rw [if_pos hz]
  simp only [e]
  exact h
theorem w_slS {z : Str} {lo hi : Option Int} (hz : z.length ≤ 1000000) (h : Q (.str (cutS z lo hi)) st) : W (slice (.str z) lo hi st) Q := by
  simp only [slice]
  rw [if_pos (Nat.le_trans cutS_len hz)]
  exact h
theorem w_addS {a b : Str} (hz : a.length + b.length ≤ 1000000) (h : Q (.str (a ++ b)) st) : W (binop .add (.str a) (.str b) st) Q := by
  simp only [binop]
  rw [if_pos hz]
  exact h
end
noncomputable def chr (z : Str) (i : Int) : Nat := z.cps.toList.getD i.toNat 0
theorem chr_at {z : Str} {i : Int} (h0 : 0 ≤ i) (h1 : i < z.cps.toList.length) : atI z.cps.toList i = some (chr z i) := by
  obtain ⟨d, e1, e2⟩ := atI_in h0 h1
  rw [e1, chr, List.getD_eq_getElem?_getD, e2]
  rfl
theorem len_app (a b : Str) : (a ++ b).length = a.length + b.length := by
  show (a.cps ++ b.cps).size = _
  simp [Str.length]
noncomputable def ch (c : Int) (j : Nat) : Str := ⟨#[chr LET (mx c (2 + j) % 26)]⟩
noncomputable def word (c : Int) : Str := joined "" ((List.range (mx c 1 % 11).toNat).map (ch c))
theorem word_len {c : Int} : (word c).length ≤ 10 := by
  have h := joined_len (l := (List.range (mx c 1 % 11).toNat).map (ch c)) fun s hs => by
    obtain ⟨j, _, rfl⟩ := List.mem_map.mp hs
    rfl
  have : 0 ≤ mx c 1 % 11 ∧ mx c 1 % 11 < 11 := em (by decide)
  simp only [List.length_map, List.length_range] at h
  unfold word
  omega
noncomputable def Thing (c : Int) : Prop := (∃ z : Str, z.length ≤ 100 ∧ ∀ (k : Nat) (st : Sto) (Q : D → Sto → Prop), (∀ st', Gr st st' → Q (.str z) st') → Wv (calls tab (k + 2) i__law_thing [.int c] st) Q) ∨
  (∀ (k : Nat) (st : Sto) (Q : D → Sto → Prop), (∀ d st', Gr st st' → isiD st' .str d = some false → Q d st') → Wv (calls tab (k + 2) i__law_thing [.int c] st) Q)
theorem head {k : Nat} {c : Int} {st : Sto} {Q : D → Sto → Prop}
    (h : ∀ st', Gr st st' → W (execs (calls tab (k + 1)) (f__law_thing.body.drop 4) [some (.int c), some (.str LET), some (.int (mx c 1)), some (.str (word c)), some (.int (mx c 1 / 55 % ((word c).length + 1))), none] st') (Kr Q)) : Wv (calls tab (k + 2) i__law_thing [.int c] st) Q := by
  have hL : LET.cps.toList.length = 26 := by decide +kernel
  have hL2 : LET.length = 26 := by decide +kernel
  have hm : 0 ≤ mx c 1 % 11 ∧ mx c 1 % 11 < 11 := em (by decide)
  refine w_call rfl rfl ?_
  show W (execs (calls tab (k + 1)) (.set 1 _ :: .set 2 _ :: .set 3 _ :: .set 4 _ :: f__law_thing.body.drop 4) [some (.int c), none, none, none, none, none] st) (Kr Q)
  refine w_set (w_c (w_set ?_))
  walk_at "ev"
  refine s_mixed ?_
  refine w_set (w_join ?_)
  walk_at "ev"
  refine ⟨_, source_rng (by omega), w_compS (by rw [rangeD_len]; omega) (fun i acc st' => acc = ((List.range i).map (ch c)).map D.str ∧ st' = st) ⟨rfl, rfl⟩ (fun i x acc st' hx ⟨ea, es⟩ => ?_) (fun acc st' ⟨ea, es⟩ => ?_)⟩
  · subst ea es
    have : x = .int (i : Int) := by
      simp only [rangeD, List.getElem?_map, Option.map_eq_some_iff] at hx
      obtain ⟨j, hj, rfl⟩ := hx
      obtain ⟨_, this⟩ := List.getElem?_eq_some_iff.mp hj
      simp at this
      rw [this]
    subst this
    refine w_elt ?_
    walk_at "ev"
    refine s_mixed ?_
    walk_at "ev"
    have hq : 0 ≤ mx c (2 + (i : Int)) % 26 ∧ mx c (2 + (i : Int)) % 26 < 26 := em (by decide)
    refine w_ixS (by rw [hL2]; decide) (chr_at hq.1 (by rw [hL]; exact hq.2)) ?_
    refine ⟨?_, rfl⟩
    rw [List.range_succ, List.map_append, List.map_append]
    rfl
  · subst ea es
    rw [rangeD_len]
    have h1 : ∀ s ∈ (List.range (mx c 1 % 11).toNat).map (ch c), s.length = 1 := fun s hs => by
      obtain ⟨j, _, rfl⟩ := List.mem_map.mp hs
      rfl
    have wl : (joined "" ((List.range (mx c 1 % 11).toNat).map (ch c))).length ≤ 10 := word_len
    refine ⟨_, _, _, rfl, at_new, strs_map, ⟨?_, by omega⟩, ?_⟩
    · rw [List.foldl_toArray, fold_len h1]
      simp only [List.length_map, List.length_range]
      unfold Builtin.Str.tooLong
      have : sizeLine = 16777216 := by decide
      rw [this]
      exact decide_eq_false (by omega)
    · refine w_set ?_
      walk_at "ev"
      refine w_lenS (by omega) ?_
      walk_at "ev"
      exact h _ (.one _ _)
theorem isi_lst {st : Sto} {p : Nat} {xs : List D} (e : st[p]? = some (.lst xs)) : isiD st .str (.ref p) = some false := by simp only [isiD, e]
theorem isi_dct {st : Sto} {p : Nat} {xs : List (Str × D)} (e : st[p]? = some (.dct xs)) : isiD st .str (.ref p) = some false := by simp only [isiD, e]
theorem thing (c : Int) : Thing c := by
  have wl := word_len (c := c)
  have hO : ("A1_-0Zz@~ " : Str).cps.toList.length = 10 := by decide +kernel
  have hO2 : ("A1_-0Zz@~ " : Str).length = 10 := by decide +kernel
  by_cases h0 : mx c 1 / 11 % 3 = 0
  · left
    refine ⟨(cutS (word c) none (some (mx c 1 / 55 % ((word c).length + 1))) ++ ⟨#[chr "A1_-0Zz@~ " (mx c 1 / 1000 % 10)]⟩) ++ cutS (word c) (some (mx c 1 / 55 % ((word c).length + 1) + mx c 1 / 10000 % 2)) none, ?_, fun k st Q h => ?_⟩
    · have l1 := cutS_len (z := word c) (lo := none) (hi := some (mx c 1 / 55 % ((word c).length + 1)))
      have l2 := cutS_len (z := word c) (lo := some (mx c 1 / 55 % ((word c).length + 1) + mx c 1 / 10000 % 2)) (hi := none)
      rw [len_app, len_app]
      have : (⟨#[chr "A1_-0Zz@~ " (mx c 1 / 1000 % 10)]⟩ : Str).length = 1 := rfl
      omega
    · refine head fun st1 G1 => ?_
      dsimp only [f__law_thing, List.drop]
      walk_at "ev"
      refine ⟨_, rfl, fun _ => ?_, fun z => absurd h0 (of_decide_eq_false z)⟩
      walk_at "ev"
      have hq : 0 ≤ mx c 1 / 1000 % 10 ∧ mx c 1 / 1000 % 10 < 10 := em (by decide)
      refine w_ixS (by rw [hO2]; decide) (chr_at hq.1 (by rw [hO]; exact hq.2)) ?_
      walk_at "ev"
      have l1 := cutS_len (z := word c) (lo := none) (hi := some (mx c 1 / 55 % ((word c).length + 1)))
      have l2 := cutS_len (z := word c) (lo := some (mx c 1 / 55 % ((word c).length + 1) + mx c 1 / 10000 % 2)) (hi := none)
      have l3 : (⟨#[chr "A1_-0Zz@~ " (mx c 1 / 1000 % 10)]⟩ : Str).length = 1 := rfl
      refine ⟨_, rfl, w_slS (by omega) ?_⟩
      walk_at "ev"
      refine w_addS (by omega) ?_
      walk_at "ev"
      refine ⟨_, rfl, w_slS (by omega) ?_⟩
      refine w_addS (by rw [len_app]; omega) ?_
      walk_at "ev"
      exact h _ G1
  · by_cases h1 : mx c 1 / 11 % 3 = 1
    · right
      intro k st Q h
      refine head fun st1 G1 => ?_
      dsimp only [f__law_thing, List.drop]
      walk_at "ev"
      refine ⟨_, rfl, (fun z => absurd (of_decide_eq_true z) h0), fun _ => ?_⟩
      walk_at "ev"
      refine ⟨_, rfl, (fun _ => ?_), fun z => absurd h1 (of_decide_eq_false z)⟩
      walk_at "ev"
      refine w_dict ?_
      walk_at "ev"
      refine ⟨⟨rfl, by decide⟩, ?_⟩
      walk_at "ev"
      have hq : 0 ≤ mx c 1 / 1000 % 8 ∧ mx c 1 / 1000 % 8 < 8 := em (by decide)
      refine w_ixAny at_new hq.1 hq.2 fun d hd _ => ?_
      walk_at "ev"
      refine h _ _ (((G1.more _).more _).more _ |>.more _) ?_
      simp only [List.mem_cons, List.not_mem_nil, or_false] at hd
      rcases hd with rfl | rfl | rfl | rfl | rfl | rfl | rfl | rfl
      · rfl
      · rfl
      · rfl
      · exact isi_lst (at_old (at_old (at_old at_new)))
      · rfl
      · exact isi_dct (at_old (at_old at_new))
      · rfl
      · exact isi_dct (at_old at_new)
    · left
      refine ⟨word c, by omega, fun k st Q h => ?_⟩
      refine head fun st1 G1 => ?_
      dsimp only [f__law_thing, List.drop]
      walk_at "ev"
      refine ⟨_, rfl, (fun z => absurd (of_decide_eq_true z) h0), fun _ => ?_⟩
      walk_at "ev"
      refine ⟨_, rfl, (fun z => absurd (of_decide_eq_true z) h1), fun _ => ?_⟩
      walk_at "ev"
      exact h _ G1
section
variable {k : Nat} {st : Sto} {Q : D → Sto → Prop}
theorem s_is_name_no {d : D} (hd : isiD st .str d = some false) (h : Q (.bl false) st) : Wv (calls tab (k + 1) i_is_name [d] st) Q := by
  walk_at "call"
  refine ⟨_, hd, _, rfl, ?_⟩
  refine ⟨_, rfl, (fun _ => ?_), nofun⟩
  refine ⟨_, rfl, (fun _ => ?_), nofun⟩
  walk_at "ev"
  exact h
theorem s_due_no {d : D} (hd : isiD st .str d = some false) (h : Q (.bl false) st) : Wv (calls tab (k + 1) i__law_due [d] st) Q := by
  walk_at "call"
  refine ⟨_, hd, _, rfl, ?_⟩
  refine ⟨_, rfl, (fun _ => ?_), nofun⟩
  refine ⟨_, rfl, (fun _ => ?_), nofun⟩
  walk_at "ev"
  exact h
theorem w_slF {xs : List D} {lo hi : Option Int} (h : Q (.ref st.length) (st ++ [.lst (cutD xs lo hi)])) : W (slice (.fl xs) lo hi st) Q := by
  simp only [slice, seqOf]; exact h
theorem sc_bb {n : Nat} {i j : Bool} : eqD (n + 1) st (.bl i) (.bl j) = some (i == j) := by simp [eqD, shape, eqV]
end
theorem fun_tz {s : Str} {rs : List D} (hl : rs.length ≤ 5) (hr : ∀ r ∈ rs, Rw 3 r) : ∃ m, Tz 9 (.tup [.str "fun", .str s, .tup [.tup [.str "a", .tup [.str "num"]], .tup [.str "b", .tup [.str "row", .int 3]]], .tup [.str "num"], .tup rs]) m ∧ m ≤ 10000000 := by
  obtain ⟨ms, h1, h2⟩ := Rw.all hr
  have hb : Rb 3 = 1852843 := rfl
  have q : rs.length * Rb 3 ≤ 5 * Rb 3 := Nat.mul_le_mul_right _ hl
  refine ⟨1 + ms.sum, ⟨rs, ms, .fn, by omega, h1, rfl, ?_⟩, by omega⟩
  have okrs : Ok 33 (.tup rs) := okT (n := 32) fun r hx => (hr r hx).ok
  have ok3 : Ok 33 (.tup [.tup [.str "a", .tup [.str "num"]], .tup [.str "b", .tup [.str "row", .int 3]]]) :=
    okT (n := 32) (al2 (okT (n := 31) (al2 (okS (by omega)) (okT (n := 30) (al1 (okS (by omega)))))) (okT (n := 31) (al2 (okS (by omega)) (okT (n := 30) (al2 (okS (by omega)) (.sc rfl))))))
  refine Ok.mono (n := 34) (okT (n := 33) fun x hx => ?_) (by omega)
  rcases List.mem_cons.mp hx with rfl | hx
  · exact okS (by omega)
  rcases List.mem_cons.mp hx with rfl | hx
  · exact okS (by omega)
  exact al3 ok3 (okT (n := 32) (al1 (okS (by omega)))) okrs x hx
theorem s_names {k p : Nat} {ns : List Int} {st : Sto} {a b c d e : Option D} : W (execs (calls tab (k + 20)) (f_law.body.drop 2) [some (.fl (ns.map .int)), some (.ref p), a, b, c, d, e] st) (Kr fun d _ => d = .bl true) := by
  dsimp only [f_law, List.drop]
  refine w_forA (fun n' xs i loc st' => (∃ a b c d e, loc = [some (.fl (ns.map .int)), some (.ref p), a, b, c, d, e]) ∧ st'[n']? = some (.lst xs) ∧ ∀ x ∈ xs, ∃ v : Int, x = .int v) ?_
  walk_at "ev"
  refine ⟨_, rfl, w_slF ?_⟩
  walk_at "ev"
  refine w_catL (at_old at_new) at_new (by have := cut_len (xs := ns.map D.int) (lo := none) (hi := some 30); simp [cutD, HT.sIx]; omega) ?_
  refine ⟨_, _, rfl, at_new, ⟨⟨_, _, _, _, _, rfl⟩, at_new, fun x hx => ?_⟩, fun i loc st' ⟨_, e, _⟩ => e, ?_, ?_⟩
  · rcases List.mem_append.mp hx with hx | hx
    · obtain ⟨v, _, rfl⟩ := List.mem_map.mp (cut_mem hx)
      exact ⟨v, rfl⟩
    · simp only [List.mem_cons, List.not_mem_nil, or_false] at hx
      rcases hx with rfl | rfl | rfl <;> exact ⟨_, rfl⟩
  · intro i x loc st1 hx ⟨⟨_, _, _, _, _, e1⟩, e2, e3⟩
    subst e1
    obtain ⟨v, rfl⟩ := e3 x (List.mem_of_getElem? hx)
    simp only [List.set_cons_succ, List.set_cons_zero]
    walk_at "ev"
    rcases thing v with ⟨z, hz, ht⟩ | ht
    · refine ht _ _ _ fun st2 G2 => ?_
      walk_at "ev"
      refine s_is_name hz fun st3 G3 => ?_
      walk_at "ev"
      refine ⟨true, rfl, _, rfl, ?_⟩
      refine ⟨_, rfl, nofun, fun _ => ?_⟩
      walk_at "ev"
      refine ht _ _ _ fun st4 G4 => ?_
      walk_at "ev"
      refine s_due hz fun st5 G5 => ?_
      refine w_ne sc_bb ?_
      refine ⟨_, rfl, (fun q => absurd q (by cases nameB z <;> decide)), fun _ => ?_⟩
      walk_at "ev"
      exact ⟨⟨_, _, _, _, _, rfl⟩, (((G2.trans G3).trans G4).trans G5).at e2, e3⟩
    · refine ht _ _ _ fun d1 st2 G2 h2 => ?_
      walk_at "ev"
      refine s_is_name_no h2 ?_
      walk_at "ev"
      refine ⟨true, rfl, _, rfl, ?_⟩
      refine ⟨_, rfl, nofun, fun _ => ?_⟩
      walk_at "ev"
      refine ht _ _ _ fun d2 st4 G4 h4 => ?_
      walk_at "ev"
      refine s_due_no h4 ?_
      refine w_ne sc_bb ?_
      refine ⟨_, rfl, nofun, fun _ => ?_⟩
      walk_at "ev"
      exact ⟨⟨_, _, _, _, _, rfl⟩, (G2.trans G4).at e2, e3⟩
  · intro loc st1 ⟨⟨_, _, _, _, _, e1⟩, _, _⟩
    subst e1
    walk_at "ev"
    rfl
theorem s_law {k : Nat} {ns : List Int} {st : Sto} (hl : ns.length ≤ 63) : Wv (calls tab (k + 21) i_law [.fl (ns.map .int)] st) fun d _ => d = .bl true := by
  refine w_call rfl rfl ?_
  show W (execs (calls tab (k + 20)) (.set 1 _ :: .for_ 2 true _ _ :: f_law.body.drop 2) [some (.fl (ns.map .int)), none, none, none, none, none, none] st) (Kr fun d _ => d = .bl true)
  refine w_set ?_
  walk_at "ev"
  refine s_numbers (k := k + 18) hl fun p st1 G1 hp hb => ?_
  refine w_for (fun xs i loc st' => (∃ a b c d e, loc = [some (.fl (ns.map .int)), some (.ref p), a, b, c, d, e]) ∧ LB st' p) ?_
  walk_at "ev"
  refine s_take (k := k + 19) hb fun w st2 L2 => ?_
  walk_at "ev"
  have hq : 0 ≤ w % 6 ∧ w % 6 < 6 := em (by decide)
  refine ⟨_, source_rng (by omega), ⟨⟨_, _, _, _, _, rfl⟩, L2.box⟩, ?_, ?_⟩
  · intro i x loc st3 hx ⟨⟨_, _, _, _, _, e1⟩, hb3⟩
    subst e1
    simp only [List.set_cons_succ, List.set_cons_zero]
    walk_at "ev"
    refine s_rows (k := k) hb3 fun rs st4 hrl hr L4 => ?_
    walk_at "ev"
    refine s_name (k := k + 18) L4.box fun s st5 L5 => ?_
    walk_at "ev"
    obtain ⟨m, ht, hm⟩ := fun_tz (s := s) hrl hr
    refine @s_right (k + 7) 9 _ m _ _ ht hm fun st6 G6 => ?_
    walk_at "ev"
    refine w_is (k := false) rfl ⟨_, rfl, nofun, fun _ => ?_⟩
    walk_at "ev"
    obtain ⟨zs, e⟩ := L5.box
    exact ⟨⟨_, _, _, _, _, rfl⟩, zs, G6.at e⟩
  · intro loc st3 ⟨⟨_, _, _, _, _, e1⟩, hb3⟩
    subst e1
    exact s_names
end K06
end Ev
set_option maxHeartbeats 4000000
namespace Ev
open PySem PySem.Spec PyProof.Rows L2
namespace K06
noncomputable def top (i : Nat) : Stmt := PySem.Challenge.pw_eachstepsame_k06_nodes_counted.main.body.getD i (.Pass ⟨0, 0, 0, 0⟩)
noncomputable def meth (i j : Nat) : Stmt := match top i with | .ClassDef _ _ _ body _ _ _ _ _ _ _ => body.getD j (.Pass ⟨0, 0, 0, 0⟩) | s => s
noncomputable def names : List Str := ["is_name", "parts_in", "parts_in_tuples", "parts_in_try", "counted", "_law_mixed", "_law_numbers", "_law_take", "_law_name", "_law_parts_of", "_law_expression", "_law_some", "_law_guarded", "_law_row", "_law_rows_in", "_law_parts", "_law_right", "_law_thing", "_law_due", "law"]
noncomputable def csts : List (Str × D) := [("LETTERS", .str "abcdefghijklmnopqrstuvwxyz")]
noncomputable def T : Tab := ⟨names, csts, [], [], [], [], true, false⟩
noncomputable def r_is_name : Rec := ⟨"is_name", "is_name", "is_name", ["thing"], ["thing"], top 2, f_is_name, false⟩
noncomputable def r_parts_in : Rec := ⟨"parts_in", "parts_in", "parts_in", ["node"], ["node", "word"], top 3, f_parts_in, false⟩
noncomputable def r_parts_in_tuples : Rec := ⟨"parts_in_tuples", "parts_in_tuples", "parts_in_tuples", ["node"], ["node", "word"], top 4, f_parts_in_tuples, false⟩
noncomputable def r_parts_in_try : Rec := ⟨"parts_in_try", "parts_in_try", "parts_in_try", ["node"], ["node", "parts", "catch"], top 5, f_parts_in_try, false⟩
noncomputable def r_counted : Rec := ⟨"counted", "counted", "counted", ["node"], ["node", "waiting", "count", "parts"], top 6, f_counted, false⟩
noncomputable def r__law_mixed : Rec := ⟨"_law_mixed", "_law_mixed", "_law_mixed", ["_law_cell", "_law_k"], ["_law_cell", "_law_k", "_law_number"], top 9, f__law_mixed, false⟩
noncomputable def r__law_numbers : Rec := ⟨"_law_numbers", "_law_numbers", "_law_numbers", ["_law_cells", "_law_many"], ["_law_cells", "_law_many", "_law_found", "_law_cell", "_law_left", "_law_k"], top 10, f__law_numbers, false⟩
noncomputable def r__law_take : Rec := ⟨"_law_take", "_law_take", "_law_take", ["_law_left"], ["_law_left"], top 11, f__law_take, false⟩
noncomputable def r__law_name : Rec := ⟨"_law_name", "_law_name", "_law_name", ["_law_left"], ["_law_left"], top 12, f__law_name, false⟩
noncomputable def r__law_parts_of : Rec := ⟨"_law_parts_of", "_law_parts_of", "_law_parts_of", ["_law_left", "_law_depth", "_law_many"], ["_law_left", "_law_depth", "_law_many"], top 13, f__law_parts_of, false⟩
noncomputable def r__law_expression : Rec := ⟨"_law_expression", "_law_expression", "_law_expression", ["_law_left", "_law_depth"], ["_law_left", "_law_depth", "_law_way", "_law_kind", "_law_many", "_law_op"], top 14, f__law_expression, false⟩
noncomputable def r__law_some : Rec := ⟨"_law_some", "_law_some", "_law_some", ["_law_left", "_law_depth", "_law_most"], ["_law_left", "_law_depth", "_law_most"], top 15, f__law_some, false⟩
noncomputable def r__law_guarded : Rec := ⟨"_law_guarded", "_law_guarded", "_law_guarded", ["_law_left", "_law_depth", "_law_many"], ["_law_left", "_law_depth", "_law_many", "_law_names", "_law_body"], top 16, f__law_guarded, false⟩
noncomputable def r__law_row : Rec := ⟨"_law_row", "_law_row", "_law_row", ["_law_left", "_law_depth"], ["_law_left", "_law_depth", "_law_way", "_law_kind", "_law_test"], top 17, f__law_row, false⟩
noncomputable def r__law_rows_in : Rec := ⟨"_law_rows_in", "_law_rows_in", "_law_rows_in", ["_law_catches"], ["_law_catches", "_law_found", "_law_name_here", "_law_rows"], top 18, f__law_rows_in, false⟩
noncomputable def r__law_parts : Rec := ⟨"_law_parts", "_law_parts", "_law_parts", ["_law_node"], ["_law_node", "_law_word"], top 19, f__law_parts, false⟩
noncomputable def r__law_right : Rec := ⟨"_law_right", "_law_right", "_law_right", ["_law_node"], ["_law_node", "_law_due_here", "_law_found", "_law_many", "_law_part", "_law_inner", "_law_told"], top 20, f__law_right, false⟩
noncomputable def r__law_thing : Rec := ⟨"_law_thing", "_law_thing", "_law_thing", ["_law_cell"], ["_law_cell", "_law_signs", "_law_number", "_law_word", "_law_at", "_law_odd"], top 21, f__law_thing, false⟩
noncomputable def r__law_due : Rec := ⟨"_law_due", "_law_due", "_law_due", ["_law_thing_here"], ["_law_thing_here"], top 22, f__law_due, false⟩
noncomputable def r_law : Rec := ⟨"law", "law", "law", ["_law_script"], ["_law_script", "_law_left", "_law_k", "_law_rows", "_law_takes", "_law_cell", "_law_found"], top 23, f_law, false⟩
noncomputable def recs : List Rec := [r_is_name, r_parts_in, r_parts_in_tuples, r_parts_in_try, r_counted, r__law_mixed, r__law_numbers, r__law_take, r__law_name, r__law_parts_of, r__law_expression, r__law_some, r__law_guarded, r__law_row, r__law_rows_in, r__law_parts, r__law_right, r__law_thing, r__law_due, r_law]
theorem c_is_name : Chk T r_is_name := ⟨⟨rfl, rfl, rfl, by decide +kernel, rfl, by decide +kernel, by decide +kernel⟩, by decide +kernel, by kernel_rfl, rfl, by decide +kernel⟩
theorem c_parts_in : Chk T r_parts_in := ⟨⟨rfl, rfl, rfl, by decide +kernel, rfl, by decide +kernel, by decide +kernel⟩, by decide +kernel, by kernel_rfl, rfl, by decide +kernel⟩
theorem c_parts_in_tuples : Chk T r_parts_in_tuples := ⟨⟨rfl, rfl, rfl, by decide +kernel, rfl, by decide +kernel, by decide +kernel⟩, by decide +kernel, by kernel_rfl, rfl, by decide +kernel⟩
theorem c_parts_in_try : Chk T r_parts_in_try := ⟨⟨rfl, rfl, rfl, by decide +kernel, rfl, by decide +kernel, by decide +kernel⟩, by decide +kernel, by kernel_rfl, rfl, by decide +kernel⟩
theorem c_counted : Chk T r_counted := ⟨⟨rfl, rfl, rfl, by decide +kernel, rfl, by decide +kernel, by decide +kernel⟩, by decide +kernel, by kernel_rfl, rfl, by decide +kernel⟩
theorem c__law_mixed : Chk T r__law_mixed := ⟨⟨rfl, rfl, rfl, by decide +kernel, rfl, by decide +kernel, by decide +kernel⟩, by decide +kernel, by kernel_rfl, rfl, by decide +kernel⟩
theorem c__law_numbers : Chk T r__law_numbers := ⟨⟨rfl, rfl, rfl, by decide +kernel, rfl, by decide +kernel, by decide +kernel⟩, by decide +kernel, by kernel_rfl, rfl, by decide +kernel⟩
theorem c__law_take : Chk T r__law_take := ⟨⟨rfl, rfl, rfl, by decide +kernel, rfl, by decide +kernel, by decide +kernel⟩, by decide +kernel, by kernel_rfl, rfl, by decide +kernel⟩
theorem c__law_name : Chk T r__law_name := ⟨⟨rfl, rfl, rfl, by decide +kernel, rfl, by decide +kernel, by decide +kernel⟩, by decide +kernel, by kernel_rfl, rfl, by decide +kernel⟩
theorem c__law_parts_of : Chk T r__law_parts_of := ⟨⟨rfl, rfl, rfl, by decide +kernel, rfl, by decide +kernel, by decide +kernel⟩, by decide +kernel, by kernel_rfl, rfl, by decide +kernel⟩
theorem c__law_expression : Chk T r__law_expression := ⟨⟨rfl, rfl, rfl, by decide +kernel, rfl, by decide +kernel, by decide +kernel⟩, by decide +kernel, by kernel_rfl, rfl, by decide +kernel⟩
theorem c__law_some : Chk T r__law_some := ⟨⟨rfl, rfl, rfl, by decide +kernel, rfl, by decide +kernel, by decide +kernel⟩, by decide +kernel, by kernel_rfl, rfl, by decide +kernel⟩
theorem c__law_guarded : Chk T r__law_guarded := ⟨⟨rfl, rfl, rfl, by decide +kernel, rfl, by decide +kernel, by decide +kernel⟩, by decide +kernel, by kernel_rfl, rfl, by decide +kernel⟩
theorem c__law_row : Chk T r__law_row := ⟨⟨rfl, rfl, rfl, by decide +kernel, rfl, by decide +kernel, by decide +kernel⟩, by decide +kernel, by kernel_rfl, rfl, by decide +kernel⟩
theorem c__law_rows_in : Chk T r__law_rows_in := ⟨⟨rfl, rfl, rfl, by decide +kernel, rfl, by decide +kernel, by decide +kernel⟩, by decide +kernel, by kernel_rfl, rfl, by decide +kernel⟩
theorem c__law_parts : Chk T r__law_parts := ⟨⟨rfl, rfl, rfl, by decide +kernel, rfl, by decide +kernel, by decide +kernel⟩, by decide +kernel, by kernel_rfl, rfl, by decide +kernel⟩
theorem c__law_right : Chk T r__law_right := ⟨⟨rfl, rfl, rfl, by decide +kernel, rfl, by decide +kernel, by decide +kernel⟩, by decide +kernel, by kernel_rfl, rfl, by decide +kernel⟩
theorem c__law_thing : Chk T r__law_thing := ⟨⟨rfl, rfl, rfl, by decide +kernel, rfl, by decide +kernel, by decide +kernel⟩, by decide +kernel, by kernel_rfl, rfl, by decide +kernel⟩
theorem c__law_due : Chk T r__law_due := ⟨⟨rfl, rfl, rfl, by decide +kernel, rfl, by decide +kernel, by decide +kernel⟩, by decide +kernel, by kernel_rfl, rfl, by decide +kernel⟩
theorem c_law : Chk T r_law := ⟨⟨rfl, rfl, rfl, by decide +kernel, rfl, by decide +kernel, by decide +kernel⟩, by decide +kernel, by kernel_rfl, rfl, by decide +kernel⟩
theorem all_mk {l : PySem.W.OpenLaw} {w : World} {K : PySem.W.Frag} {h : Heap} {mg : Str → Option Value} {fa f1 f2 f3 f4 f5 f6 f7 f8 f9 f10 f11 f12 f13 f14 f15 f16 f17 f18 f19 f20  : Addr} (X : K.In h) (G : h.Ns mainGlobals mg) (hfa : mg "law" = some (.ref fa))
    {od1 an1 od2 an2 od3 an3 od4 an4 od5 an5 od6 an6 od7 an7 od8 an8 od9 an9 od10 an10 od11 an11 od12 an12 od13 an13 od14 an14 od15 an15 od16 an16 od17 an17 od18 an18 od19 an19 od20 an20 : Option Addr} {sl1 sl2 sl3 sl4 sl5 sl6 sl7 sl8 sl9 sl10 sl11 sl12 sl13 sl14 sl15 sl16 sl17 sl18 sl19 sl20 : Array (Option Value)} {oc1 kV1 dc1 pm1 cd1 ct1 oc2 kV2 dc2 pm2 cd2 ct2 oc3 kV3 dc3 pm3 cd3 ct3 oc4 kV4 dc4 pm4 cd4 ct4 oc5 kV5 dc5 pm5 cd5 ct5 oc6 kV6 dc6 pm6 cd6 ct6 oc7 kV7 dc7 pm7 cd7 ct7 oc8 kV8 dc8 pm8 cd8 ct8 oc9 kV9 dc9 pm9 cd9 ct9 oc10 kV10 dc10 pm10 cd10 ct10 oc11 kV11 dc11 pm11 cd11 ct11 oc12 kV12 dc12 pm12 cd12 ct12 oc13 kV13 dc13 pm13 cd13 ct13 oc14 kV14 dc14 pm14 cd14 ct14 oc15 kV15 dc15 pm15 cd15 ct15 oc16 kV16 dc16 pm16 cd16 ct16 oc17 kV17 dc17 pm17 cd17 ct17 oc18 kV18 dc18 pm18 cd18 ct18 oc19 kV19 dc19 pm19 cd19 ct19 oc20 kV20 dc20 pm20 cd20 ct20 : Value}
    {qt1_0 : Tok}
    (a1 : PySem.W.nsIn K mainGlobals "is_name" = some (some (.ref f1))) (l1 : K.lookup f1 = some ⟨oc1, od1, .func (PySem.W.fnOf "is_name" "is_name" (defArgs (top 2)) (defBody (top 2)) (defScope (top 2)) .none kV1 dc1 pm1 an1 cd1 ct1), sl1⟩) (c1 : PySem.W.codeIn K cd1 "is_name" = true) (k1 : PySem.W.keepIn K (.ref f1) = true)
    (a2 : PySem.W.nsIn K mainGlobals "parts_in" = some (some (.ref f2))) (l2 : K.lookup f2 = some ⟨oc2, od2, .func (PySem.W.fnOf "parts_in" "parts_in" (defArgs (top 3)) (defBody (top 3)) (defScope (top 3)) .none kV2 dc2 pm2 an2 cd2 ct2), sl2⟩) (c2 : PySem.W.codeIn K cd2 "parts_in" = true) (k2 : PySem.W.keepIn K (.ref f2) = true)
    (a3 : PySem.W.nsIn K mainGlobals "parts_in_tuples" = some (some (.ref f3))) (l3 : K.lookup f3 = some ⟨oc3, od3, .func (PySem.W.fnOf "parts_in_tuples" "parts_in_tuples" (defArgs (top 4)) (defBody (top 4)) (defScope (top 4)) .none kV3 dc3 pm3 an3 cd3 ct3), sl3⟩) (c3 : PySem.W.codeIn K cd3 "parts_in_tuples" = true) (k3 : PySem.W.keepIn K (.ref f3) = true)
    (a4 : PySem.W.nsIn K mainGlobals "parts_in_try" = some (some (.ref f4))) (l4 : K.lookup f4 = some ⟨oc4, od4, .func (PySem.W.fnOf "parts_in_try" "parts_in_try" (defArgs (top 5)) (defBody (top 5)) (defScope (top 5)) .none kV4 dc4 pm4 an4 cd4 ct4), sl4⟩) (c4 : PySem.W.codeIn K cd4 "parts_in_try" = true) (k4 : PySem.W.keepIn K (.ref f4) = true)
    (a5 : PySem.W.nsIn K mainGlobals "counted" = some (some (.ref f5))) (l5 : K.lookup f5 = some ⟨oc5, od5, .func (PySem.W.fnOf "counted" "counted" (defArgs (top 6)) (defBody (top 6)) (defScope (top 6)) .none kV5 dc5 pm5 an5 cd5 ct5), sl5⟩) (c5 : PySem.W.codeIn K cd5 "counted" = true) (k5 : PySem.W.keepIn K (.ref f5) = true)
    (a6 : PySem.W.nsIn K mainGlobals "_law_mixed" = some (some (.ref f6))) (l6 : K.lookup f6 = some ⟨oc6, od6, .func (PySem.W.fnOf "_law_mixed" "_law_mixed" (defArgs (top 9)) (defBody (top 9)) (defScope (top 9)) .none kV6 dc6 pm6 an6 cd6 ct6), sl6⟩) (c6 : PySem.W.codeIn K cd6 "_law_mixed" = true) (k6 : PySem.W.keepIn K (.ref f6) = true)
    (a7 : PySem.W.nsIn K mainGlobals "_law_numbers" = some (some (.ref f7))) (l7 : K.lookup f7 = some ⟨oc7, od7, .func (PySem.W.fnOf "_law_numbers" "_law_numbers" (defArgs (top 10)) (defBody (top 10)) (defScope (top 10)) .none kV7 dc7 pm7 an7 cd7 ct7), sl7⟩) (c7 : PySem.W.codeIn K cd7 "_law_numbers" = true) (k7 : PySem.W.keepIn K (.ref f7) = true)
    (a8 : PySem.W.nsIn K mainGlobals "_law_take" = some (some (.ref f8))) (l8 : K.lookup f8 = some ⟨oc8, od8, .func (PySem.W.fnOf "_law_take" "_law_take" (defArgs (top 11)) (defBody (top 11)) (defScope (top 11)) .none kV8 dc8 pm8 an8 cd8 ct8), sl8⟩) (c8 : PySem.W.codeIn K cd8 "_law_take" = true) (k8 : PySem.W.keepIn K (.ref f8) = true)
    (a9 : PySem.W.nsIn K mainGlobals "_law_name" = some (some (.ref f9))) (l9 : K.lookup f9 = some ⟨oc9, od9, .func (PySem.W.fnOf "_law_name" "_law_name" (defArgs (top 12)) (defBody (top 12)) (defScope (top 12)) .none kV9 dc9 pm9 an9 cd9 ct9), sl9⟩) (c9 : PySem.W.codeIn K cd9 "_law_name" = true) (k9 : PySem.W.keepIn K (.ref f9) = true)
    (a10 : PySem.W.nsIn K mainGlobals "_law_parts_of" = some (some (.ref f10))) (l10 : K.lookup f10 = some ⟨oc10, od10, .func (PySem.W.fnOf "_law_parts_of" "_law_parts_of" (defArgs (top 13)) (defBody (top 13)) (defScope (top 13)) .none kV10 dc10 pm10 an10 cd10 ct10), sl10⟩) (c10 : PySem.W.codeIn K cd10 "_law_parts_of" = true) (k10 : PySem.W.keepIn K (.ref f10) = true)
    (a11 : PySem.W.nsIn K mainGlobals "_law_expression" = some (some (.ref f11))) (l11 : K.lookup f11 = some ⟨oc11, od11, .func (PySem.W.fnOf "_law_expression" "_law_expression" (defArgs (top 14)) (defBody (top 14)) (defScope (top 14)) .none kV11 dc11 pm11 an11 cd11 ct11), sl11⟩) (c11 : PySem.W.codeIn K cd11 "_law_expression" = true) (k11 : PySem.W.keepIn K (.ref f11) = true)
    (a12 : PySem.W.nsIn K mainGlobals "_law_some" = some (some (.ref f12))) (l12 : K.lookup f12 = some ⟨oc12, od12, .func (PySem.W.fnOf "_law_some" "_law_some" (defArgs (top 15)) (defBody (top 15)) (defScope (top 15)) .none kV12 dc12 pm12 an12 cd12 ct12), sl12⟩) (c12 : PySem.W.codeIn K cd12 "_law_some" = true) (k12 : PySem.W.keepIn K (.ref f12) = true)
    (a13 : PySem.W.nsIn K mainGlobals "_law_guarded" = some (some (.ref f13))) (l13 : K.lookup f13 = some ⟨oc13, od13, .func (PySem.W.fnOf "_law_guarded" "_law_guarded" (defArgs (top 16)) (defBody (top 16)) (defScope (top 16)) .none kV13 dc13 pm13 an13 cd13 ct13), sl13⟩) (c13 : PySem.W.codeIn K cd13 "_law_guarded" = true) (k13 : PySem.W.keepIn K (.ref f13) = true)
    (a14 : PySem.W.nsIn K mainGlobals "_law_row" = some (some (.ref f14))) (l14 : K.lookup f14 = some ⟨oc14, od14, .func (PySem.W.fnOf "_law_row" "_law_row" (defArgs (top 17)) (defBody (top 17)) (defScope (top 17)) .none kV14 dc14 pm14 an14 cd14 ct14), sl14⟩) (c14 : PySem.W.codeIn K cd14 "_law_row" = true) (k14 : PySem.W.keepIn K (.ref f14) = true)
    (a15 : PySem.W.nsIn K mainGlobals "_law_rows_in" = some (some (.ref f15))) (l15 : K.lookup f15 = some ⟨oc15, od15, .func (PySem.W.fnOf "_law_rows_in" "_law_rows_in" (defArgs (top 18)) (defBody (top 18)) (defScope (top 18)) .none kV15 dc15 pm15 an15 cd15 ct15), sl15⟩) (c15 : PySem.W.codeIn K cd15 "_law_rows_in" = true) (k15 : PySem.W.keepIn K (.ref f15) = true)
    (a16 : PySem.W.nsIn K mainGlobals "_law_parts" = some (some (.ref f16))) (l16 : K.lookup f16 = some ⟨oc16, od16, .func (PySem.W.fnOf "_law_parts" "_law_parts" (defArgs (top 19)) (defBody (top 19)) (defScope (top 19)) .none kV16 dc16 pm16 an16 cd16 ct16), sl16⟩) (c16 : PySem.W.codeIn K cd16 "_law_parts" = true) (k16 : PySem.W.keepIn K (.ref f16) = true)
    (a17 : PySem.W.nsIn K mainGlobals "_law_right" = some (some (.ref f17))) (l17 : K.lookup f17 = some ⟨oc17, od17, .func (PySem.W.fnOf "_law_right" "_law_right" (defArgs (top 20)) (defBody (top 20)) (defScope (top 20)) .none kV17 dc17 pm17 an17 cd17 ct17), sl17⟩) (c17 : PySem.W.codeIn K cd17 "_law_right" = true) (k17 : PySem.W.keepIn K (.ref f17) = true)
    (a18 : PySem.W.nsIn K mainGlobals "_law_thing" = some (some (.ref f18))) (l18 : K.lookup f18 = some ⟨oc18, od18, .func (PySem.W.fnOf "_law_thing" "_law_thing" (defArgs (top 21)) (defBody (top 21)) (defScope (top 21)) .none kV18 dc18 pm18 an18 cd18 ct18), sl18⟩) (c18 : PySem.W.codeIn K cd18 "_law_thing" = true) (k18 : PySem.W.keepIn K (.ref f18) = true)
    (a19 : PySem.W.nsIn K mainGlobals "_law_due" = some (some (.ref f19))) (l19 : K.lookup f19 = some ⟨oc19, od19, .func (PySem.W.fnOf "_law_due" "_law_due" (defArgs (top 22)) (defBody (top 22)) (defScope (top 22)) .none kV19 dc19 pm19 an19 cd19 ct19), sl19⟩) (c19 : PySem.W.codeIn K cd19 "_law_due" = true) (k19 : PySem.W.keepIn K (.ref f19) = true)
    (a20 : PySem.W.nsIn K mainGlobals "law" = some (some (.ref f20))) (l20 : K.lookup f20 = some ⟨oc20, od20, .func (PySem.W.fnOf "law" "law" (defArgs (top 23)) (defBody (top 23)) (defScope (top 23)) .none kV20 dc20 pm20 an20 cd20 ct20), sl20⟩) (c20 : PySem.W.codeIn K cd20 "law" = true) (k20 : PySem.W.keepIn K (.ref f20) = true)
    (hB : clsB K T = true)
    (n1 : PySem.W.nsIn K mainGlobals "LETTERS" = some (some (.str "abcdefghijklmnopqrstuvwxyz" qt1_0)))
    (z1 : PySem.W.nsIn K mainGlobals "reversed" = some none)
    (z2 : PySem.W.nsIn K mainGlobals "enumerate" = some none)
    (z3 : PySem.W.nsIn K mainGlobals "len" = some none)
    (z4 : PySem.W.nsIn K mainGlobals "list" = some none)
    (z5 : PySem.W.nsIn K mainGlobals "tuple" = some none)
    (z6 : PySem.W.nsIn K mainGlobals "int" = some none)
    (z7 : PySem.W.nsIn K mainGlobals "abs" = some none)
    (z8 : PySem.W.nsIn K mainGlobals "all" = some none)
    (z9 : PySem.W.nsIn K mainGlobals "max" = some none)
    (z10 : PySem.W.nsIn K mainGlobals "min" = some none)
    (z11 : PySem.W.nsIn K mainGlobals "bool" = some none)
    (z12 : PySem.W.nsIn K mainGlobals "str" = some none)
    (z13 : PySem.W.nsIn K mainGlobals "dict" = some none)
    (z14 : PySem.W.nsIn K mainGlobals "isinstance" = some none)
    (z15 : PySem.W.nsIn K mainGlobals "range" = some none)
    (z16 : PySem.W.nsIn K mainGlobals "ValueError" = some none)
    : ∃ fd : FuncData, (∀ (s : Shared) (v : Value), BindsTo s fd ⟨[v], []⟩ [("_law_script", v)]) ∧ ∀ base : Heap, K.In base → base.Ns mainGlobals mg → FnOk l.prog w K mg base (CXe l.prog w) (2 * 21) fa fd ["_law_script"] (spLaw K) := by
  have e := hfa.symm.trans (PySem.W.mg_of X G a20)
  cases e
  have F1 := fun_mk (st := top 2) l1 c1 k1
  have L1 : Lnk K r_is_name _ _ := ⟨F1, F1.binds (ps := ["thing"]) fun _ _ _ _ _ _ us hl => match us, hl with | [_], _ => rfl⟩
  have F2 := fun_mk (st := top 3) l2 c2 k2
  have L2 : Lnk K r_parts_in _ _ := ⟨F2, F2.binds (ps := ["node"]) fun _ _ _ _ _ _ us hl => match us, hl with | [_], _ => rfl⟩
  have F3 := fun_mk (st := top 4) l3 c3 k3
  have L3 : Lnk K r_parts_in_tuples _ _ := ⟨F3, F3.binds (ps := ["node"]) fun _ _ _ _ _ _ us hl => match us, hl with | [_], _ => rfl⟩
  have F4 := fun_mk (st := top 5) l4 c4 k4
  have L4 : Lnk K r_parts_in_try _ _ := ⟨F4, F4.binds (ps := ["node"]) fun _ _ _ _ _ _ us hl => match us, hl with | [_], _ => rfl⟩
  have F5 := fun_mk (st := top 6) l5 c5 k5
  have L5 : Lnk K r_counted _ _ := ⟨F5, F5.binds (ps := ["node"]) fun _ _ _ _ _ _ us hl => match us, hl with | [_], _ => rfl⟩
  have F6 := fun_mk (st := top 9) l6 c6 k6
  have L6 : Lnk K r__law_mixed _ _ := ⟨F6, F6.binds (ps := ["_law_cell", "_law_k"]) fun _ _ _ _ _ _ us hl => match us, hl with | [_, _], _ => rfl⟩
  have F7 := fun_mk (st := top 10) l7 c7 k7
  have L7 : Lnk K r__law_numbers _ _ := ⟨F7, F7.binds (ps := ["_law_cells", "_law_many"]) fun _ _ _ _ _ _ us hl => match us, hl with | [_, _], _ => rfl⟩
  have F8 := fun_mk (st := top 11) l8 c8 k8
  have L8 : Lnk K r__law_take _ _ := ⟨F8, F8.binds (ps := ["_law_left"]) fun _ _ _ _ _ _ us hl => match us, hl with | [_], _ => rfl⟩
  have F9 := fun_mk (st := top 12) l9 c9 k9
  have L9 : Lnk K r__law_name _ _ := ⟨F9, F9.binds (ps := ["_law_left"]) fun _ _ _ _ _ _ us hl => match us, hl with | [_], _ => rfl⟩
  have F10 := fun_mk (st := top 13) l10 c10 k10
  have L10 : Lnk K r__law_parts_of _ _ := ⟨F10, F10.binds (ps := ["_law_left", "_law_depth", "_law_many"]) fun _ _ _ _ _ _ us hl => match us, hl with | [_, _, _], _ => rfl⟩
  have F11 := fun_mk (st := top 14) l11 c11 k11
  have L11 : Lnk K r__law_expression _ _ := ⟨F11, F11.binds (ps := ["_law_left", "_law_depth"]) fun _ _ _ _ _ _ us hl => match us, hl with | [_, _], _ => rfl⟩
  have F12 := fun_mk (st := top 15) l12 c12 k12
  have L12 : Lnk K r__law_some _ _ := ⟨F12, F12.binds (ps := ["_law_left", "_law_depth", "_law_most"]) fun _ _ _ _ _ _ us hl => match us, hl with | [_, _, _], _ => rfl⟩
  have F13 := fun_mk (st := top 16) l13 c13 k13
  have L13 : Lnk K r__law_guarded _ _ := ⟨F13, F13.binds (ps := ["_law_left", "_law_depth", "_law_many"]) fun _ _ _ _ _ _ us hl => match us, hl with | [_, _, _], _ => rfl⟩
  have F14 := fun_mk (st := top 17) l14 c14 k14
  have L14 : Lnk K r__law_row _ _ := ⟨F14, F14.binds (ps := ["_law_left", "_law_depth"]) fun _ _ _ _ _ _ us hl => match us, hl with | [_, _], _ => rfl⟩
  have F15 := fun_mk (st := top 18) l15 c15 k15
  have L15 : Lnk K r__law_rows_in _ _ := ⟨F15, F15.binds (ps := ["_law_catches"]) fun _ _ _ _ _ _ us hl => match us, hl with | [_], _ => rfl⟩
  have F16 := fun_mk (st := top 19) l16 c16 k16
  have L16 : Lnk K r__law_parts _ _ := ⟨F16, F16.binds (ps := ["_law_node"]) fun _ _ _ _ _ _ us hl => match us, hl with | [_], _ => rfl⟩
  have F17 := fun_mk (st := top 20) l17 c17 k17
  have L17 : Lnk K r__law_right _ _ := ⟨F17, F17.binds (ps := ["_law_node"]) fun _ _ _ _ _ _ us hl => match us, hl with | [_], _ => rfl⟩
  have F18 := fun_mk (st := top 21) l18 c18 k18
  have L18 : Lnk K r__law_thing _ _ := ⟨F18, F18.binds (ps := ["_law_cell"]) fun _ _ _ _ _ _ us hl => match us, hl with | [_], _ => rfl⟩
  have F19 := fun_mk (st := top 22) l19 c19 k19
  have L19 : Lnk K r__law_due _ _ := ⟨F19, F19.binds (ps := ["_law_thing_here"]) fun _ _ _ _ _ _ us hl => match us, hl with | [_], _ => rfl⟩
  have F20 := fun_mk (st := top 23) l20 c20 k20
  have L20 : Lnk K r_law _ _ := ⟨F20, F20.binds (ps := ["_law_script"]) fun _ _ _ _ _ _ us hl => match us, hl with | [_], _ => rfl⟩
  have hc : ∀ r ∈ recs, Chk T r := (List.forall_mem_cons.mpr ⟨c_is_name, (List.forall_mem_cons.mpr ⟨c_parts_in, (List.forall_mem_cons.mpr ⟨c_parts_in_tuples, (List.forall_mem_cons.mpr ⟨c_parts_in_try, (List.forall_mem_cons.mpr ⟨c_counted, (List.forall_mem_cons.mpr ⟨c__law_mixed, (List.forall_mem_cons.mpr ⟨c__law_numbers, (List.forall_mem_cons.mpr ⟨c__law_take, (List.forall_mem_cons.mpr ⟨c__law_name, (List.forall_mem_cons.mpr ⟨c__law_parts_of, (List.forall_mem_cons.mpr ⟨c__law_expression, (List.forall_mem_cons.mpr ⟨c__law_some, (List.forall_mem_cons.mpr ⟨c__law_guarded, (List.forall_mem_cons.mpr ⟨c__law_row, (List.forall_mem_cons.mpr ⟨c__law_rows_in, (List.forall_mem_cons.mpr ⟨c__law_parts, (List.forall_mem_cons.mpr ⟨c__law_right, (List.forall_mem_cons.mpr ⟨c__law_thing, (List.forall_mem_cons.mpr ⟨c__law_due, (List.forall_mem_cons.mpr ⟨c_law, (fun _ h => nomatch h)⟩)⟩)⟩)⟩)⟩)⟩)⟩)⟩)⟩)⟩)⟩)⟩)⟩)⟩)⟩)⟩)⟩)⟩)⟩)⟩)
  have hf : ∀ p ∈ List.zip names recs, (p.1 == ("__debug__" : Str)) = false ∧ ∃ a fd, Lnk K p.2 a fd ∧ mg p.1 = some (.ref a) := (List.forall_mem_cons.mpr ⟨⟨by decide +kernel, _, _, L1, PySem.W.mg_of X G a1⟩, (List.forall_mem_cons.mpr ⟨⟨by decide +kernel, _, _, L2, PySem.W.mg_of X G a2⟩, (List.forall_mem_cons.mpr ⟨⟨by decide +kernel, _, _, L3, PySem.W.mg_of X G a3⟩, (List.forall_mem_cons.mpr ⟨⟨by decide +kernel, _, _, L4, PySem.W.mg_of X G a4⟩, (List.forall_mem_cons.mpr ⟨⟨by decide +kernel, _, _, L5, PySem.W.mg_of X G a5⟩, (List.forall_mem_cons.mpr ⟨⟨by decide +kernel, _, _, L6, PySem.W.mg_of X G a6⟩, (List.forall_mem_cons.mpr ⟨⟨by decide +kernel, _, _, L7, PySem.W.mg_of X G a7⟩, (List.forall_mem_cons.mpr ⟨⟨by decide +kernel, _, _, L8, PySem.W.mg_of X G a8⟩, (List.forall_mem_cons.mpr ⟨⟨by decide +kernel, _, _, L9, PySem.W.mg_of X G a9⟩, (List.forall_mem_cons.mpr ⟨⟨by decide +kernel, _, _, L10, PySem.W.mg_of X G a10⟩, (List.forall_mem_cons.mpr ⟨⟨by decide +kernel, _, _, L11, PySem.W.mg_of X G a11⟩, (List.forall_mem_cons.mpr ⟨⟨by decide +kernel, _, _, L12, PySem.W.mg_of X G a12⟩, (List.forall_mem_cons.mpr ⟨⟨by decide +kernel, _, _, L13, PySem.W.mg_of X G a13⟩, (List.forall_mem_cons.mpr ⟨⟨by decide +kernel, _, _, L14, PySem.W.mg_of X G a14⟩, (List.forall_mem_cons.mpr ⟨⟨by decide +kernel, _, _, L15, PySem.W.mg_of X G a15⟩, (List.forall_mem_cons.mpr ⟨⟨by decide +kernel, _, _, L16, PySem.W.mg_of X G a16⟩, (List.forall_mem_cons.mpr ⟨⟨by decide +kernel, _, _, L17, PySem.W.mg_of X G a17⟩, (List.forall_mem_cons.mpr ⟨⟨by decide +kernel, _, _, L18, PySem.W.mg_of X G a18⟩, (List.forall_mem_cons.mpr ⟨⟨by decide +kernel, _, _, L19, PySem.W.mg_of X G a19⟩, (List.forall_mem_cons.mpr ⟨⟨by decide +kernel, _, _, L20, PySem.W.mg_of X G a20⟩, (fun _ h => nomatch h)⟩)⟩)⟩)⟩)⟩)⟩)⟩)⟩)⟩)⟩)⟩)⟩)⟩)⟩)⟩)⟩)⟩)⟩)⟩)⟩)
  have hb : ∀ x ∈ blts, mg x = none := (List.forall_mem_cons.mpr ⟨PySem.W.mg_none_of X G z1, (List.forall_mem_cons.mpr ⟨PySem.W.mg_none_of X G z2, (List.forall_mem_cons.mpr ⟨PySem.W.mg_none_of X G z3, (List.forall_mem_cons.mpr ⟨PySem.W.mg_none_of X G z4, (List.forall_mem_cons.mpr ⟨PySem.W.mg_none_of X G z5, (List.forall_mem_cons.mpr ⟨PySem.W.mg_none_of X G z6, (List.forall_mem_cons.mpr ⟨PySem.W.mg_none_of X G z7, (List.forall_mem_cons.mpr ⟨PySem.W.mg_none_of X G z8, (List.forall_mem_cons.mpr ⟨PySem.W.mg_none_of X G z9, (List.forall_mem_cons.mpr ⟨PySem.W.mg_none_of X G z10, (List.forall_mem_cons.mpr ⟨PySem.W.mg_none_of X G z11, (List.forall_mem_cons.mpr ⟨PySem.W.mg_none_of X G z12, (List.forall_mem_cons.mpr ⟨PySem.W.mg_none_of X G z13, (List.forall_mem_cons.mpr ⟨PySem.W.mg_none_of X G z14, (List.forall_mem_cons.mpr ⟨PySem.W.mg_none_of X G z15, (List.forall_mem_cons.mpr ⟨PySem.W.mg_none_of X G z16, (fun _ h => nomatch h)⟩)⟩)⟩)⟩)⟩)⟩)⟩)⟩)⟩)⟩)⟩)⟩)⟩)⟩)⟩)⟩)
  have hcs : ∀ x d, T.csts.lookup x = some d → (x == ("__debug__" : Str)) = false ∧ ∃ u v, mg x = some u ∧ RelV v u ∧ ∀ H ι m, VRel K H ι m d v := by
    intro x d hx
    replace hx : (x, d) ∈ csts := PySem.mem_of_lookup hx
    simp only [csts, List.mem_cons, List.not_mem_nil, or_false, Prod.mk.injEq] at hx
    rcases hx with ⟨rfl, rfl⟩
    · exact ⟨by decide +kernel, _, .str _, PySem.W.mg_of X G n1, ⟨_, rfl⟩, fun H ι m => .str _⟩
  have hi : ∀ p ∈ T.ini, IniOk K mg recs p.1 p.2 := (fun _ h => nomatch h)
  have Z : Facts K mg T recs := facts_mk X G hc rfl (by decide +kernel) hf hcs hb hB hi
  refine ⟨PySem.W.fnOf "law" "law" (defArgs (top 23)) (defBody (top 23)) (defScope (top 23)) .none kV20 dc20 pm20 an20 cd20 ct20, fun s v => .of_eq rfl, fun base _ _ => law_fn (n := 2 * 21) (all_fns Z 21 19 r_law _ _ rfl L20) fun ns hn => ?_⟩
  obtain ⟨a, st', e, h⟩ := W.get (s_law (k := 0) (st := []) hn)
  cases a with
  | v d =>
    have h : d = .bl true := h
    subst h
    exact ⟨st', e⟩
  | x n => exact h.elim
end K06
end Ev
open PySem PySem.W PyProof.Rows
set_option maxRecDepth 100000 in
set_option maxHeartbeats 0 in
theorem PySem.Challenge.cw_eachstepsame_k06_nodes_counted_holds : PySem.Challenge.rw_eachstepsame_k06_nodes_counted.Holds := by
  w_on; o_law; k_head; (case hw => w_witness2)
  k_fill
  refine Ev.walk (l := PySem.Challenge.rw_eachstepsame_k06_nodes_counted) (n := 2 * 21) (x := "_law_script") rfl rfl ⟨rfl, by decide, by decide⟩ (fun w h Y => PySem.W.kIn_of Y) ?F
  case F =>
    intro w mg fa h KX G hmg
    refine' Ev.K06.all_mk KX G hmg ?a1 ?l1 ?c1 ?k1 ?a2 ?l2 ?c2 ?k2 ?a3 ?l3 ?c3 ?k3 ?a4 ?l4 ?c4 ?k4 ?a5 ?l5 ?c5 ?k5 ?a6 ?l6 ?c6 ?k6 ?a7 ?l7 ?c7 ?k7 ?a8 ?l8 ?c8 ?k8 ?a9 ?l9 ?c9 ?k9 ?a10 ?l10 ?c10 ?k10 ?a11 ?l11 ?c11 ?k11 ?a12 ?l12 ?c12 ?k12 ?a13 ?l13 ?c13 ?k13 ?a14 ?l14 ?c14 ?k14 ?a15 ?l15 ?c15 ?k15 ?a16 ?l16 ?c16 ?k16 ?a17 ?l17 ?c17 ?k17 ?a18 ?l18 ?c18 ?k18 ?a19 ?l19 ?c19 ?k19 ?a20 ?l20 ?c20 ?k20 ?hB ?n1 ?z1 ?z2 ?z3 ?z4 ?z5 ?z6 ?z7 ?z8 ?z9 ?z10 ?z11 ?z12 ?z13 ?z14 ?z15 ?z16
    (case a1 => k_is)
    (case l1 => k_is)
    (case c1 => k_is)
    (case k1 => k_is)
    (case a2 => k_is)
    (case l2 => k_is)
    (case c2 => k_is)
    (case k2 => k_is)
    (case a3 => k_is)
    (case l3 => k_is)
    (case c3 => k_is)
    (case k3 => k_is)
    (case a4 => k_is)
    (case l4 => k_is)
    (case c4 => k_is)
    (case k4 => k_is)
    (case a5 => k_is)
    (case l5 => k_is)
    (case c5 => k_is)
    (case k5 => k_is)
    (case a6 => k_is)
    (case l6 => k_is)
    (case c6 => k_is)
    (case k6 => k_is)
    (case a7 => k_is)
    (case l7 => k_is)
    (case c7 => k_is)
    (case k7 => k_is)
    (case a8 => k_is)
    (case l8 => k_is)
    (case c8 => k_is)
    (case k8 => k_is)
    (case a9 => k_is)
    (case l9 => k_is)
    (case c9 => k_is)
    (case k9 => k_is)
    (case a10 => k_is)
    (case l10 => k_is)
    (case c10 => k_is)
    (case k10 => k_is)
    (case a11 => k_is)
    (case l11 => k_is)
    (case c11 => k_is)
    (case k11 => k_is)
    (case a12 => k_is)
    (case l12 => k_is)
    (case c12 => k_is)
    (case k12 => k_is)
    (case a13 => k_is)
    (case l13 => k_is)
    (case c13 => k_is)
    (case k13 => k_is)
    (case a14 => k_is)
    (case l14 => k_is)
    (case c14 => k_is)
    (case k14 => k_is)
    (case a15 => k_is)
    (case l15 => k_is)
    (case c15 => k_is)
    (case k15 => k_is)
    (case a16 => k_is)
    (case l16 => k_is)
    (case c16 => k_is)
    (case k16 => k_is)
    (case a17 => k_is)
    (case l17 => k_is)
    (case c17 => k_is)
    (case k17 => k_is)
    (case a18 => k_is)
    (case l18 => k_is)
    (case c18 => k_is)
    (case k18 => k_is)
    (case a19 => k_is)
    (case l19 => k_is)
    (case c19 => k_is)
    (case k19 => k_is)
    (case a20 => k_is)
    (case l20 => k_is)
    (case c20 => k_is)
    (case k20 => k_is)
    (case hB => kernel_rfl)
    (case n1 => k_is)
    (case z1 => k_is)
    (case z2 => k_is)
    (case z3 => k_is)
    (case z4 => k_is)
    (case z5 => k_is)
    (case z6 => k_is)
    (case z7 => k_is)
    (case z8 => k_is)
    (case z9 => k_is)
    (case z10 => k_is)
    (case z11 => k_is)
    (case z12 => k_is)
    (case z13 => k_is)
    (case z14 => k_is)
    (case z15 => k_is)
    (case z16 => k_is)

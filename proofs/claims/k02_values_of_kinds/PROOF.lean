import PyProof.Rows.All
import Wide.All
import OpenK.AllK
import Wide.FinOn
import PyProof.EqAt
import PyProof.EqKinds
import PyProof.TupleCall
import Lean
import PyProof.NeKinds
import PyProof.NeData
import PyProof.FactsAll.dict
import PyProof.EnumFor
import PyProof.EnumMake
import PyProof.EnumStmt
import PyProof.IsiPairs
import PyProof.IsiHeapPairs
import PyProof.IsiNone
import PySem.Challenge.RW_eachstepsame_k02_values_of_kinds
set_option Elab.async false
set_option linter.all false
set_option maxRecDepth 100000
/-! THE HAND LAYER, for ints, bools, texts, own classes, LISTS and tuples (index, slices, in, append, pop ..), calls, loops. Paste it whole ahead of your own text; what your proof does not reach may be deleted. -/
namespace L2
open PySem PySem.Spec PyProof.Rows

/-- a key: an int or a str -/
abbrev Key := Sum Int Str
def keyIs : Key → Value → Bool
  | .inl k, v => Value.isInt k v
  | .inr x, v => Value.isStrOf x v
def keyH (w : World) : Key → Int
  | .inl k => hashInt k
  | .inr x => hashStr w x
theorem keyIs_shape : ∀ {k : Key} {v : Value}, keyIs k v = true → (∃ i t, k = Sum.inl i ∧ v = Value.int i t) ∨ (∃ x t, k = Sum.inr x ∧ v = Value.str x t)
  | .inl i, v, h => by
    obtain ⟨t, e⟩ := Value.isInt_shape (k := i) (v := v) h
    exact .inl ⟨i, t, rfl, e⟩
  | .inr x, v, h => by
    obtain ⟨t, e⟩ := Value.isStrOf_shape (x := x) (v := v) h
    exact .inr ⟨x, t, rfl, e⟩
theorem keyIs_int (i : Int) (t : Tok) : keyIs (.inl i) (.int i t) = true := by simp [keyIs, Value.isInt]
theorem keyIs_str (x : Str) (t : Tok) : keyIs (.inr x) (.str x t) = true := by simp [keyIs, Value.isStrOf]
theorem key_ll (a b : Int) : decide ((Sum.inl a : Key) = Sum.inl b) = (a == b) := by
  by_cases e : a = b
  · subst e; simp
  · have h : ¬ (Sum.inl a : Key) = Sum.inl b := fun q => e (Sum.inl.inj q)
    rw [decide_eq_false h]
    exact (beq_eq_false_iff_ne.mpr e).symm
theorem key_rr (a b : Str) : decide ((Sum.inr a : Key) = Sum.inr b) = decide (a = b) := by
  by_cases e : a = b
  · subst e; simp
  · have h : ¬ (Sum.inr a : Key) = Sum.inr b := fun q => e (Sum.inr.inj q)
    rw [decide_eq_false h, decide_eq_false e]
theorem key_lr (a : Int) (b : Str) : decide ((Sum.inl a : Key) = Sum.inr b) = false := decide_eq_false (fun q => nomatch q)
theorem key_rl (a : Str) (b : Int) : decide ((Sum.inr a : Key) = Sum.inl b) = false := decide_eq_false (fun q => nomatch q)

def mixKind (prog : Program) (w : World) : PySem.KeyKind prog w Key where
  is := keyIs
  hash := keyH w
  inj := fun v a b ha hb => by
    rcases keyIs_shape ha with ⟨i, t, rfl, rfl⟩ | ⟨x, t, rfl, rfl⟩
    · rcases keyIs_shape hb with ⟨j, u, rfl, e⟩ | ⟨y, u, rfl, e⟩
      · injection e with e1 _; rw [e1]
      · exact nomatch e
    · rcases keyIs_shape hb with ⟨j, u, rfl, e⟩ | ⟨y, u, rfl, e⟩
      · exact nomatch e
      · injection e with e1 _; rw [e1]
  byValue := fun k v h => by
    rcases keyIs_shape h with ⟨i, t, rfl, rfl⟩ | ⟨x, t, rfl, rfl⟩ <;> rfl
  pyHash := fun hv h => by
    rcases keyIs_shape hv with ⟨i, t, rfl, rfl⟩ | ⟨x, t, rfl, rfl⟩
    · exact wpAny_pyHash_int h
    · exact wpAny_pyHash_str h
  eqBool := fun hu hv h => by
    rcases keyIs_shape hu with ⟨i, t, rfl, rfl⟩ | ⟨x, t, rfl, rfl⟩
    · rcases keyIs_shape hv with ⟨j, u, rfl, rfl⟩ | ⟨y, u, rfl, rfl⟩
      · rw [key_ll] at h; exact wpAny_eqBool_int h
      · rw [key_lr] at h; exact SeqAt.EqAt.int_str i t y u _ _ _ _ h
    · rcases keyIs_shape hv with ⟨j, u, rfl, rfl⟩ | ⟨y, u, rfl, rfl⟩
      · rw [key_rl] at h; exact SeqAt.EqAt.str_int x t j u _ _ _ _ h
      · rw [key_rr] at h; exact wpAny_eqBool_str h
  «strs» := fun k x t v h => by
    rcases keyIs_shape h with ⟨i, u, rfl, e⟩ | ⟨y, u, rfl, e⟩
    · exact nomatch e
    · injection e with e1 _
      subst e1
      cases v <;> rfl

theorem mixKind_is (prog : Program) (w : World) (k : Key) (v : Value) : (mixKind prog w).is k v = keyIs k v := rfl
theorem mixKind_int (prog : Program) (w : World) (i : Int) (t : Tok) : (mixKind prog w).is (.inl i) (.int i t) = true := keyIs_int i t
theorem mixKind_str (prog : Program) (w : World) (x : Str) (t : Tok) : (mixKind prog w).is (.inr x) (.str x t) = true := keyIs_str x t
end L2

namespace L2
open PySem PySem.Spec PyProof.Rows

/-- a value, without the heap -/
inductive V where
  | non | bl (b : Bool) | int (i : Int) | str (x : Str) | byt (b : Array UInt8) | flt (b : UInt64) | ref (a : Addr) | ty (n : String)
  deriving DecidableEq

def RelV : V → Value → Prop
  | .non, u => u = Value.none
  | .bl b, u => u = Value.bool b
  | .int i, u => ∃ t, u = Value.int i t
  | .str x, u => ∃ t, u = Value.str x t
  | .byt b, u => ∃ t, u = Value.bytes b t
  | .flt b, u => ∃ t, u = Value.float b t
  | .ref a, u => u = Value.ref a
  | .ty n, u => u = Value.type n

abbrev Vals : List V → List Value → Prop := Paired RelV
theorem Vals.length {xs : List V} {us : List Value} (r : Vals xs us) : xs.length = us.length := Paired.length r
theorem Vals.get : ∀ {xs : List V} {us : List Value} {i : Nat} {x : V}, Vals xs us → xs[i]? = some x → ∃ u, us[i]? = some u ∧ RelV x u
  | _, _, _, _, .nil, e => by simp at e
  | _, _, 0, _, .cons r _, e => by simp at e; subst e; exact ⟨_, rfl, r⟩
  | _, _, i + 1, x, .cons _ t, e => by
    obtain ⟨u, h1, h2⟩ := Vals.get (i := i) (x := x) t (by simpa using e)
    exact ⟨u, by simpa using h1, h2⟩
theorem Vals.set {x : V} {u : Value} (r : RelV x u) : ∀ {xs : List V} {us : List Value} (i : Nat), Vals xs us → Vals (xs.set i x) (us.set i u)
  | _, _, _, .nil => .nil
  | _, _, 0, .cons _ t => .cons r t
  | _, _, i + 1, .cons q t => .cons q (Vals.set r i t)
theorem Vals.append : ∀ {xs ys : List V} {us ws : List Value}, Vals xs us → Vals ys ws → Vals (xs ++ ys) (us ++ ws)
  | _, _, _, _, .nil, s => s
  | _, _, _, _, .cons r t, s => .cons r (Vals.append t s)
theorem Vals.take : ∀ {xs : List V} {us : List Value} (n : Nat), Vals xs us → Vals (xs.take n) (us.take n)
  | _, _, 0, _ => .nil
  | _, _, _ + 1, .nil => .nil
  | _, _, n + 1, .cons r t => .cons r (Vals.take n t)
theorem Vals.drop : ∀ {xs : List V} {us : List Value} (n : Nat), Vals xs us → Vals (xs.drop n) (us.drop n)
  | _, _, 0, r => r
  | _, _, _ + 1, .nil => .nil
  | _, _, n + 1, .cons _ t => Vals.drop n t
theorem Vals.none_of : ∀ {xs : List V} {us : List Value} {i : Nat}, Vals xs us → xs[i]? = none → us[i]? = none := fun {xs us i} r e => by
  have h1 := r.length
  have h2 : xs.length ≤ i := List.getElem?_eq_none_iff.mp e
  exact List.getElem?_eq_none_iff.mpr (by omega)

def RelO : Option V → Option Value → Prop
  | some v, some u => RelV v u
  | none, none => True
  | _, _ => False
def KV {κ : Type} : List (κ × V) → List (κ × Value) → Prop := Paired fun (p : κ × V) (q : κ × Value) => p.1 = q.1 ∧ RelV p.2 q.2

/-- a key of a dict (00_mix): an int or a text -/
def kV : Key → V
  | .inl i => .int i
  | .inr x => .str x

/-- what stands at a tracked address -/
inductive HO where
  /-- a list -/
  | lst (xs : List V)
  /-- a tuple (never changes) -/
  | tup (xs : List V)
  /-- a dict whose keys are ints and texts; one whose keys are tuples of ints and texts (the empty one is both) -/
  | dK (kvs : List (Key × V)) | dT (kvs : List (List Key × V))
  /-- a set of ints: its members, its size -/
  | set (S : Int → Bool) (n : Nat)
  /-- an instance of the class at C, its dict at dx, its attributes -/
  | ins (C dx : Addr) (fs : List (Str × V))
  /-- the dict of the instance at x -/
  | own (x : Addr)
  /-- the dict of an exception -/
  | xd (fs : List (Str × V))
  /-- a bound method, f of x -/
  | met (f x : Addr)
  /-- a range object lo, lo + 1, .. below hi -/
  | rng (lo hi : Int)
  /-- a thing that is known to the object (the script; a dict while a loop walks it): read, never written while it is so -/
  | frz (o : Obj) (u : HO)
  /-- a code object's table -/
  | tbl (ps : Array Value)
  /-- any other thing, by what is true of its one object (a def of one's own: SetO a S n := HO.ext fun h => ..) -/
  | ext (φ : Heap → Prop)

abbrev Hp := Addr → Option HO
def upd (H : Hp) (a : Addr) (o : HO) : Hp := fun b => if b = a then some o else H b
theorem upd_same {H : Hp} {a : Addr} {o : HO} : upd H a o a = some o := by unfold upd; rw [if_pos rfl]
theorem upd_ne {H : Hp} {a b : Addr} {o : HO} (h : b ≠ a) : upd H a o b = H b := by unfold upd; rw [if_neg h]
theorem upd_upd {H : Hp} {a : Addr} {o u : HO} : upd (upd H a o) a u = upd H a u := by
  funext b; unfold upd; split <;> rfl
/-- two objects of different content stand apart -/
theorem ne_of {H : Hp} {a b : Addr} {o u : HO} (h : H a = some o) (h' : H b = some u) (d : o ≠ u) : a ≠ b := by
  intro e; subst e; rw [h] at h'; exact d (Option.some.inj h')
theorem ne_of_none {H : Hp} {a b : Addr} {o : HO} (h : H a = some o) (h' : H b = none) : a ≠ b := by
  intro e; subst e; rw [h] at h'; cases h'

section
variable (P : Program) (w : World)
def ObjOk (H : Hp) (h : Heap) (a : Addr) : HO → Prop
  | .lst xs => xs.length ≤ sizeLine ∧ ∃ (its : List Value) (n : Nat), Vals xs its ∧ h.get? a = some { cls := .type "list", data := .seq its.toArray n }
  | .tup xs => xs.length ≤ sizeLine ∧ ∃ its : List Value, Vals xs its ∧ IsTup h a its.toArray
  | .dK kvs => kvs.length ≤ sizeLine ∧ (a == sysModules) = false ∧ ∃ vs, KV kvs vs ∧ h.DictOf (mixKind P w) a vs
  | .dT kvs => kvs.length ≤ sizeLine ∧ (a == sysModules) = false ∧ ∃ xs : List (List Key × Addr × Value),
      Paired (fun (p : List Key × V) (q : List Key × Addr × Value) => p.1 = q.1 ∧ H q.2.1 = some (.tup (p.1.map kV)) ∧ RelV p.2 q.2.2) kvs xs ∧
      ∃ o es ep, h.get? a = some o ∧ o.ExactDict ∧ o.data = .dict es ep ∧ es.toList = xs.map (entryOfKey (tupleKind (mixKind P w))) ∧ (xs.map (·.1)).Nodup
  | .set S n => h.SetOf (intKind P w) a S n
  | .ins C dx fs => H dx = some (.own a) ∧ fs.length ≤ 1000 ∧ dx ≠ a ∧ h.get? a = some (PySem.W.instObj C dx) ∧
      ∃ mA, h.Ns1 dx mA ∧ (∀ f, RelO (fs.lookup f) (mA f)) ∧ PySem.Within mA (fs.map (·.1))
  | .own _ => ∃ o, h.get? a = some o
  | .xd fs => ∃ mA, h.Ns1 a mA ∧ ∀ f, RelO (fs.lookup f) (mA f)
  | .rng lo hi => ∃ t u v, h.get? a = some { cls := .type "range", data := .fields #[.int lo t, .int hi u, .int 1 v] }
  | .frz o u => h.get? a = some o ∧ ObjOk H h a u
  | .tbl ps => h.get? a = some { cls := .none, data := .fields ps }
  | .met f x => h.get? a = some (PySem.W.methodObj (.ref f) (.ref x))
  | .ext φ => φ h ∧ (∃ o, h.get? a = some o) ∧ ∀ h1 h2 : Heap, φ h1 → (∀ o, h1.get? a = some o → h2.get? a = some o) → φ h2
/-- the abstract heap is held -/
def HOk (H : Hp) (h : Heap) : Prop := ∀ a o, H a = some o → ObjOk P w H h a o
end

section
variable {P : Program} {w : World} {H H' : Hp} {h h' : Heap} {a : Addr} {o : HO}
theorem ObjOk.lt (x : ObjOk P w H h a o) : a < h.objs.size := by
  cases o with
  | lst xs => obtain ⟨_, _, _, _, e⟩ := x; exact Heap.lt_size e
  | tup xs => obtain ⟨_, _, _, p⟩ := x; exact p.lt
  | dK kvs => obtain ⟨_, _, _, _, o, _, _, e, _⟩ := x; exact Heap.lt_size e
  | dT kvs => obtain ⟨_, _, _, _, o, _, _, e, _⟩ := x; exact Heap.lt_size e
  | set S n => obtain ⟨o, _, _, _, e, _⟩ := x; exact Heap.lt_size e
  | ins C dx fs => obtain ⟨_, _, _, e, _⟩ := x; exact Heap.lt_size e
  | own y => obtain ⟨_, e⟩ := x; exact Heap.lt_size e
  | xd fs => obtain ⟨_, ⟨_, _, _, e, _⟩, _⟩ := x; exact Heap.lt_size e
  | rng lo hi => obtain ⟨_, _, _, e⟩ := x; exact Heap.lt_size e
  | frz ob u => obtain ⟨e, _⟩ := x; exact Heap.lt_size e
  | tbl ps => exact Heap.lt_size (show h.get? a = some _ from x)
  | met f y => exact Heap.lt_size (show h.get? a = some _ from x)
  | ext φ => obtain ⟨_, ⟨_, e⟩, _⟩ := x; exact Heap.lt_size e
theorem Paired.mapP {α β : Type} {F G : α → β → Prop} : ∀ {l₁ : List α} {l₂ : List β}, Paired F l₁ l₂ → (∀ a b, F a b → G a b) → Paired G l₁ l₂
  | _, _, .nil, _ => .nil
  | _, _, .cons r t, f => .cons (f _ _ r) (Paired.mapP t f)
theorem Paired.imp' {α β : Type} {F G : α → β → Prop} (f : ∀ a b, F a b → G a b) {l₁ : List α} {l₂ : List β} (r : Paired F l₁ l₂) : Paired G l₁ l₂ := Paired.mapP r f
/-- what an object's description leans on: its own object, its own dict, the tuples -/
theorem ObjOk.stay (x : ObjOk P w H h a o) (k : ∀ b u, (b = a ∨ H b = some (.own a)) → h.get? b = some u → h'.get? b = some u)
    (ho : ∀ b, H b = some (.own a) → H' b = some (.own a)) (ht : ∀ b xs, H b = some (.tup xs) → H' b = some (.tup xs)) : ObjOk P w H' h' a o := by
  induction o with
  | lst xs => obtain ⟨z, its, n, r, e⟩ := x; exact ⟨z, its, n, r, k _ _ (.inl rfl) e⟩
  | tup xs => obtain ⟨z, its, r, ob, e, c⟩ := x; exact ⟨z, its, r, ob, k _ _ (.inl rfl) e, c⟩
  | dK kvs => obtain ⟨z, y, vs, r, ob, es, ep, e, c⟩ := x; exact ⟨z, y, vs, r, ob, es, ep, k _ _ (.inl rfl) e, c⟩
  | dT kvs =>
    obtain ⟨z, y, xs, r, ob, es, ep, e, c⟩ := x
    exact ⟨z, y, xs, Paired.mapP r fun p q z => ⟨z.1, ht _ _ z.2.1, z.2.2⟩, ob, es, ep, k _ _ (.inl rfl) e, c⟩
  | set S n => obtain ⟨ob, es, ep, t, e, c⟩ := x; exact ⟨ob, es, ep, t, k _ _ (.inl rfl) e, c⟩
  | ins C dx fs =>
    obtain ⟨d, z, ne, e, mA, ⟨od, es, ep, e2, c⟩, r⟩ := x
    exact ⟨ho _ d, z, ne, k _ _ (.inl rfl) e, mA, ⟨od, es, ep, k _ _ (.inr d) e2, c⟩, r⟩
  | own y => obtain ⟨ob, e⟩ := x; exact ⟨ob, k _ _ (.inl rfl) e⟩
  | xd fs => obtain ⟨mA, ⟨od, es, ep, e, c⟩, r⟩ := x; exact ⟨mA, ⟨od, es, ep, k _ _ (.inl rfl) e, c⟩, r⟩
  | rng lo hi => obtain ⟨t, u, v, e⟩ := x; exact ⟨t, u, v, k _ _ (.inl rfl) e⟩
  | frz ob u ih => obtain ⟨e, q⟩ := x; exact ⟨k _ _ (.inl rfl) e, ih q⟩
  | tbl ps =>
    have e : h.get? a = some { cls := .none, data := .fields ps } := x
    show h'.get? a = some { cls := .none, data := .fields ps }
    exact k a _ (.inl rfl) e
  | met f y =>
    have e : h.get? a = some (PySem.W.methodObj (.ref f) (.ref y)) := x
    show h'.get? a = some (PySem.W.methodObj (.ref f) (.ref y))
    exact k a _ (.inl rfl) e
  | ext φ => obtain ⟨p, ⟨o, e⟩, st⟩ := x; exact ⟨st _ _ p fun o q => k _ _ (.inl rfl) q, ⟨o, k _ _ (.inl rfl) e⟩, st⟩
theorem HOk.lt (x : HOk P w H h) (e : H a = some o) : a < h.objs.size := (x a o e).lt
theorem HOk.fresh (x : HOk P w H h) (e : h.objs.size ≤ a) : H a = none := by
  cases q : H a with
  | none => rfl
  | some u => exact absurd (Nat.lt_of_lt_of_le (x.lt q) e) (Nat.lt_irrefl _)
/-- every object of the heap is kept -/
theorem HOk.kept (x : HOk P w H h) (k : ∀ b u, h.get? b = some u → h'.get? b = some u) : HOk P w H h' := fun a o e =>
  (x a o e).stay (fun b u _ q => k b u q) (fun _ q => q) fun _ _ q => q
/-- a new object is laid and tracked -/
theorem HOk.laid (x : HOk P w H h) (k : ∀ b u, h.get? b = some u → h'.get? b = some u) (hp : h.objs.size ≤ a) (new : ObjOk P w (upd H a o) h' a o) : HOk P w (upd H a o) h' := fun b u e => by
  have hn := x.fresh hp
  by_cases hb : b = a
  · subst hb; rw [upd_same] at e; cases e; exact new
  · rw [upd_ne hb] at e
    exact (x b u e).stay (fun c v _ q => k c v q) (fun c q => by rw [upd_ne (ne_of_none q hn)]; exact q) fun c xs q => by rw [upd_ne (ne_of_none q hn)]; exact q
end

/-- what may be read as u: it is u, or a known u -/
def Rd (H : Hp) (a : Addr) (u : HO) : Prop := H a = some u ∨ ∃ o, H a = some (.frz o u)
theorem Rd.of {H : Hp} {a : Addr} {u : HO} (h : H a = some u) : Rd H a u := .inl h
theorem Rd.ok {P : Program} {w : World} {H : Hp} {h : Heap} {a : Addr} {u : HO} (r : Rd H a u) (x : HOk P w H h) : ObjOk P w H h a u := by
  rcases r with r | ⟨o, r⟩
  · exact x a u r
  · obtain ⟨_, q⟩ := x a _ r
    exact q
/-- what may be written -/
def Mut : Option HO → Prop
  | some (.lst _) => True
  | some (.dK _) => True
  | some (.dT _) => True
  | some (.set _ _) => True
  | some (.ins _ _ _) => True
  | some (.ext _) => True
  | _ => False
section
variable {P : Program} {w : World} {H : Hp} {h h' : Heap} {x e : Addr} {o' : HO}
/-- the object at e is changed: x itself, or the dict of the instance x -/
theorem HOk.write (ok : HOk P w H h) (mu : Mut (H x)) (he : e = x ∨ H e = some (.own x)) (k : ∀ b u, b ≠ e → h.get? b = some u → h'.get? b = some u) (heo : ∃ u, h'.get? e = some u)
    (new : ObjOk P w (upd H x o') h' x o') : HOk P w (upd H x o') h' := fun b u q => by
  have nown : ∀ c y, H c = some (.own y) → c ≠ x := fun c y r z => by subst z; rw [r] at mu; exact mu
  have ntup : ∀ c xs, H c = some (.tup xs) → c ≠ x := fun c xs r z => by subst z; rw [r] at mu; exact mu
  by_cases hb : b = x
  · subst hb; rw [upd_same] at q; cases q; exact new
  · rw [upd_ne hb] at q
    by_cases hbe : b = e
    · have q' : H b = some (.own x) := by
        rcases he with z | z
        · exact absurd (hbe.trans z) hb
        · rw [hbe]; exact z
      rw [q] at q'; cases q'
      obtain ⟨v, hv⟩ := heo
      exact ⟨v, by rw [hbe]; exact hv⟩
    · refine (ok b u q).stay (fun c v hc r => k c v ?_ r) (fun c r => by rw [upd_ne (nown c b r)]; exact r) fun c xs r => by rw [upd_ne (ntup c xs r)]; exact r
      rcases hc with rfl | hc
      · exact hbe
      · rintro rfl
        rcases he with z | z
        · exact nown c b hc z
        · rw [hc] at z; cases z; exact hb rfl
end

/-! ### kept unless tracked; of the frames at fs (the callers') the slots may change (an exception that passes writes there); of the records at ex (iterators) nothing is said -/
structure Un (fs ex : List Addr) (H H' : Hp) (h h' : Heap) : Prop where
  keep : ∀ b o, h.get? b = some o → H b = none → b ∉ fs → b ∉ ex → h'.get? b = some o
  slot : ∀ b o, h.get? b = some o → H b = none → b ∈ fs → b ∉ ex → ∃ sl, h'.get? b = some { o with slots := sl }
  free : ∀ b o, h.get? b = some o → H b = none → b ∉ ex → H' b = none
  there : ∀ b o, h.get? b = some o → b ∉ ex → ∃ o', h'.get? b = some o'
  tups : ∀ b xs, H b = some (.tup xs) → H' b = some (.tup xs)
  frzs : ∀ b o u, H b = some (.frz o u) → H' b = some (.frz o u)
  tbls : ∀ b ps, H b = some (.tbl ps) → ∃ more, H' b = some (.tbl (ps ++ more))
section
variable {fs fs' ex ex' : List Addr} {H H1 H2 : Hp} {h h1 h2 h' : Heap} {a x e : Addr} {o : HO}
theorem Un.any (u : Un fs ex H H1 h h1) {b : Addr} {ob : Obj} (q : h.get? b = some ob) (n : H b = none) (hx : b ∉ ex) : ∃ sl, h1.get? b = some { ob with slots := sl } := by
  by_cases hb : b ∈ fs
  · exact u.slot b ob q n hb hx
  · exact ⟨ob.slots, u.keep b ob q n hb hx⟩
theorem Un.trans (a : Un fs ex H H1 h h1) (b : Un fs ex H1 H2 h1 h2) : Un fs ex H H2 h h2 where
  keep := fun c ob q n hc hx => b.keep c ob (a.keep c ob q n hc hx) (a.free c ob q n hx) hc hx
  slot := fun c ob q n hc hx => by
    obtain ⟨sl, e1⟩ := a.slot c ob q n hc hx
    obtain ⟨sl', e2⟩ := b.slot c _ e1 (a.free c ob q n hx) hc hx
    exact ⟨sl', e2⟩
  free := fun c ob q n hx => by
    obtain ⟨o', e1⟩ := a.there c ob q hx
    exact b.free c o' e1 (a.free c ob q n hx) hx
  there := fun c ob q hx => by
    obtain ⟨o', e1⟩ := a.there c ob q hx
    exact b.there c o' e1 hx
  tups := fun c xs q => b.tups c xs (a.tups c xs q)
  frzs := fun c ob xs q => b.frzs c ob xs (a.frzs c ob xs q)
  tbls := fun c ps q => by
    obtain ⟨m1, e1⟩ := a.tbls c ps q
    obtain ⟨m2, e2⟩ := b.tbls c _ e1
    exact ⟨m1 ++ m2, by rw [e2, Array.append_assoc]⟩
theorem Un.kept (k : ∀ b u, h.get? b = some u → h'.get? b = some u) : Un fs ex H H h h' :=
  ⟨fun b ob q _ _ _ => k b ob q, fun b ob q _ _ _ => ⟨ob.slots, k b ob q⟩, fun _ _ _ n _ => n, fun b ob q _ => ⟨ob, k b ob q⟩, fun _ _ q => q, fun _ _ _ q => q, fun _ ps q => ⟨#[], by rw [q]; simp⟩⟩
theorem Un.refl : Un fs ex H H h h := Un.kept fun _ _ q => q
theorem Un.laid (k : ∀ b u, h.get? b = some u → h'.get? b = some u) (hp : h.objs.size ≤ a) (hn : H a = none) : Un fs ex H (upd H a o) h h' where
  keep := fun b u q _ _ _ => k b u q
  slot := fun b u q _ _ _ => ⟨u.slots, k b u q⟩
  free := fun b u q n _ => by rw [upd_ne (Nat.ne_of_lt (Nat.lt_of_lt_of_le (Heap.lt_size q) hp))]; exact n
  there := fun b u q _ => ⟨u, k b u q⟩
  tups := fun b xs q => by rw [upd_ne (ne_of_none q hn)]; exact q
  frzs := fun b u xs q => by rw [upd_ne (ne_of_none q hn)]; exact q
  tbls := fun b ps q => ⟨#[], by rw [upd_ne (ne_of_none q hn), q]; simp⟩
theorem Un.write (mu : Mut (H x)) (he : e = x ∨ H e = some (.own x)) (k : ∀ b u, b ≠ e → h.get? b = some u → h'.get? b = some u) (heo : ∃ u, h'.get? e = some u) : Un fs ex H (upd H x o) h h' := by
  have hx : ∀ b, H b = none → b ≠ x := fun b n z => by subst z; rw [n] at mu; exact mu
  have hb : ∀ b, H b = none → b ≠ e := fun b n z => by
    subst z
    rcases he with r | r
    · exact hx b n r
    · rw [n] at r; cases r
  have hm : ∀ b u, H b = some u → ¬ Mut (some u) → b ≠ x := fun b u q nm z => by subst z; rw [q] at mu; exact nm mu
  refine ⟨fun b u q n _ _ => k b u (hb b n) q, fun b u q n _ _ => ⟨u.slots, k b u (hb b n) q⟩, fun b u q n _ => by rw [upd_ne (hx b n)]; exact n, fun b u q _ => ?_,
    fun b xs q => by rw [upd_ne (hm b _ q fun z => z)]; exact q, fun b u xs q => by rw [upd_ne (hm b _ q fun z => z)]; exact q, fun b ps q => ⟨#[], by rw [upd_ne (hm b _ q fun z => z), q]; simp⟩⟩
  by_cases hbe : b = e
  · subst hbe; exact heo
  · exact ⟨u, k b u hbe q⟩
theorem Un.mono (u : Un fs ex H H1 h h1) (hs : ∀ b ∈ fs, b ∈ fs') (hx : ∀ b ∈ ex, b ∈ ex') : Un fs' ex' H H1 h h1 :=
  ⟨fun b ob q n hb he => u.keep b ob q n (fun z => hb (hs b z)) fun z => he (hx b z), fun _ _ q n _ he => u.any q n fun z => he (hx _ z), fun b ob q n he => u.free b ob q n fun z => he (hx b z), fun b ob q he => u.there b ob q fun z => he (hx b z), u.tups, u.frzs, u.tbls⟩
end

/-! ### the heap without what is tracked -/
def trk (h : Heap) (H : Hp) : List Addr := (List.range h.objs.size).filter fun a => (H a).isSome
def hidT (h : Heap) (H : Hp) : Heap := PySem.W.hideAll h (trk h H)
theorem hidT_size (h : Heap) (H : Hp) : (hidT h H).objs.size = h.objs.size := PySem.W.hideAll_size _ _
theorem hidT_get {h : Heap} {H : Hp} {b : Addr} {o : Obj} (e : h.get? b = some o) (n : H b = none) : (hidT h H).get? b = some o :=
  PySem.W.hideAll_get _ e fun hm => by
    have q : (H b).isSome = true := (List.mem_filter.mp hm).2
    rw [n] at q; simp at q
theorem of_hidT {h : Heap} {H : Hp} {b : Addr} {o : Obj} (e : (hidT h H).get? b = some o) : h.get? b = some o ∧ H b = none := by
  have e' : h.get? b = some o := PySem.W.of_hideAll (trk h H) e
  refine ⟨e', ?_⟩
  cases q : H b with
  | none => rfl
  | some x =>
    have hm : b ∈ trk h H := List.mem_filter.mpr ⟨List.mem_range.mpr (Heap.lt_size e'), by simp [q]⟩
    have z : (hidT h H).get? b = none := PySem.W.hideAll_none (trk h H) hm
    rw [z] at e; cases e

/-! ### OpenK's ledger, filled with every new object but one -/
def allNews (g h : Heap) (L : Addr) : List (Addr × Obj) := (List.range h.objs.size).filterMap fun a => if a = L ∨ (g.get? a).isSome = true then none else (h.get? a).map fun o => (a, o)
theorem mem_allNews {g h : Heap} {L a : Addr} {o : Obj} (h1 : a ≠ L) (h2 : g.get? a = none) (h3 : h.get? a = some o) : (a, o) ∈ allNews g h L :=
  List.mem_filterMap.mpr ⟨a, List.mem_range.mpr (Heap.lt_size h3), by simp [h1, h2, h3]⟩
theorem of_mem_allNews {g h : Heap} {L : Addr} {p : Addr × Obj} (hp : p ∈ allNews g h L) : p.1 ≠ L ∧ g.get? p.1 = none ∧ h.get? p.1 = some p.2 := by
  obtain ⟨b, _, e⟩ := List.mem_filterMap.mp hp
  split at e
  · cases e
  · rename_i hn
    cases q : h.get? b with
    | none => rw [q] at e; simp at e
    | some u =>
      rw [q] at e
      simp only [Option.map_some, Option.some.injEq] at e
      subst e
      refine ⟨fun z => hn (.inl z), ?_, q⟩
      show g.get? b = none
      cases r : g.get? b with
      | none => rfl
      | some v => exact (hn (.inr (by simp [r]))).elim
def rest (g h : Heap) (L d : Addr) : List (Addr × Obj) := (allNews g h L).filter fun p => decide (p.1 ≠ d)
theorem rest_ne {g h : Heap} {L d : Addr} : ∀ p ∈ rest g h L d, p.1 ≠ d := fun p hp => of_decide_eq_true (List.mem_filter.mp hp).2
theorem mem_rest {g h : Heap} {L d a : Addr} {o : Obj} (h1 : a ≠ L) (h2 : g.get? a = none) (h3 : h.get? a = some o) (h4 : a ≠ d) : (a, o) ∈ rest g h L d :=
  List.mem_filter.mpr ⟨mem_allNews h1 h2 h3, decide_eq_true h4⟩
theorem news_all {g h : Heap} {L : Addr} : News g L h (allNews g h L) := fun p hp => let ⟨a, b, c⟩ := of_mem_allNews hp; ⟨c, a, b⟩
theorem news_at {g h : Heap} {L d : Addr} {o : Obj} (h1 : d ≠ L) (h2 : g.get? d = none) (h3 : h.get? d = some o) : News g L h ((d, o) :: rest g h L d) := fun p hp => by
  rcases List.mem_cons.mp hp with rfl | hp
  · exact ⟨h3, h1, h2⟩
  · exact news_all p (List.mem_filter.mp hp).1
/-- behind a rule that changed d alone: all else but the frame is kept -/
theorem kept_of_news {g h h' : Heap} {L d : Addr} {m : Str → Option Value} (k : ∀ b o, g.get? b = some o → h.get? b = some o) (F : Fr g L h' m) (N : News g L h' (rest g h L d)) :
    ∀ b o, b ≠ L → b ≠ d → h.get? b = some o → h'.get? b = some o := fun b o h1 h2 e => by
  cases q : g.get? b with
  | some u =>
    have := k b u q
    rw [e] at this; cases this
    exact F.keep b _ q
  | none => exact (N (b, o) (mem_rest h1 q e h2)).1
end L2

namespace L2
open PySem PySem.Spec PyProof.Rows

/-- the module's facts, over the base: the heap at the law's entry without what is tracked there -/
structure Mod (K : PySem.W.Frag) (mg : Str → Option Value) (base : Heap) : Prop where
  kin : K.In base
  glob : base.Ns mainGlobals mg
  blt : ∃ mb, base.Ns builtinsNs mb ∧ ∀ x : Str, x ≠ "__name__" → mb x = bootBuiltins x
  nolimit : base.NoLimit

/-- the context: a def's body (or a comprehension's block) running. base: fixed through the whole law; s₀, H₀: the entry; outer: the frames whose slots others may change (a def's callers); stack: all frames that run;
   ex: iterators that were made ahead of the entry and are walked here (a comprehension's); fn: the names whose cells were made at the entry (a def: all; a comprehension's block: its own); calm: not within an except suite; pn: pins that every state bears; xe: what is wanted of an exception that leaves the code -/
structure Cx where
  prog : Program
  w : World
  K : PySem.W.Frag
  mg : Str → Option Value
  base : Heap
  A : Around
  N : List Str
  s₀ : Shared
  H₀ : Hp
  env : Env
  outer : List Env
  stack : List Env
  ex : List Addr
  fn : Str → Bool
  calm : Bool
  pn : List (Addr × Obj)
  xe : Value → Shared → Prop
/-- the callers' frames -/
def frs (l : List Env) : List Addr := l.filterMap (·.frame)
abbrev Cx.fs (X : Cx) : List Addr := frs X.outer

def Vis (sc : Scope) (x : Str) : Prop := sc.names.lookup x = some .local ∨ sc.names.lookup x = some .cell ∨ sc.names.lookup x = some .free
def Loc (sc : Scope) (x : Str) : Prop := sc.names.lookup x = some .local ∨ sc.names.lookup x = some .cell
def Look (env : Env) (h : Heap) (m : Str → Option Value) (x : Str) (u : Value) : Prop :=
  (env.kindOf x = some .local ∧ m x = some u) ∨ ((env.kindOf x = some .cell ∨ env.kindOf x = some .free) ∧ ∃ c, env.cells.lookup x = some c ∧ h.IsCell c (some u))

structure Cx.Ok (X : Cx) : Prop where
  mod : Mod X.K X.mg X.base
  kind : X.env.scope.kind = .function
  glob : X.env.globals = mainGlobals
  blt : X.env.builtins = builtinsNs
  above : X.s₀.heap.objs.size ≤ X.env.locals
  inj : ∀ x y c, X.env.cells.lookup x = some c → X.env.cells.lookup y = some c → x = y
  has : ∀ x, (X.env.kindOf x = some .cell ∨ X.env.kindOf x = some .free) → ∃ c, X.env.cells.lookup x = some c
  cab : ∀ x c, X.fn x = true → X.env.cells.lookup x = some c → X.s₀.heap.objs.size ≤ c
  hd : X.calm = true → X.A.handled = none
  frames : X.A.frames = some X.stack
  stk : X.stack = X.outer ∨ (X.stack = X.env :: X.outer ∧ X.env.frame = some X.env.locals)
  exf : ∀ b ∈ X.ex, b ≠ X.env.locals ∧ ∀ x c, X.env.cells.lookup x = some c → c ≠ b
  bs : ∀ b o, X.base.get? b = some o → X.s₀.heap.get? b = some o ∧ X.H₀ b = none
  bsz : X.base.objs.size ≤ X.s₀.heap.objs.size
  noex : ∀ b o, X.base.get? b = some o → b ∉ X.ex
  exfs : ∀ b ∈ X.ex, b ∉ X.fs
  funs : X.s₀.heap.FunFrames X.base X.outer
  frf : ∀ b ∈ X.fs, X.H₀ b = none

structure Inv (X : Cx) (pins : List (Addr × Obj)) (σ : List (Option V)) (H : Hp) (s : Shared) : Prop where
  ok : X.Ok
  os : s.os = X.s₀.os
  bare : AllBare s.gens
  base : Un X.fs X.ex X.H₀ H X.s₀.heap s.heap
  loc : ∃ m, s.heap.Ns X.env.locals m ∧ ∀ (i : Nat) (x : Str) (v : V), X.N[i]? = some x → σ[i]? = some (some v) → Vis X.env.scope x → ∃ u, RelV v u ∧ Look X.env s.heap m x u
  cell : ∀ x c, X.env.cells.lookup x = some c → ∃ v, s.heap.IsCell c v
  free : H X.env.locals = none
  freeC : ∀ x c, X.env.cells.lookup x = some c → H c = none
  pin : ∀ p ∈ X.pn ++ pins, s.heap.get? p.1 = some p.2 ∧ H p.1 = none ∧ p.1 ≠ X.env.locals ∧ p.1 ∉ X.fs ∧ ∀ v, p.2.data ≠ .cell v
  hok : HOk X.prog X.w H s.heap
  len : σ.length = X.N.length

section
variable {X : Cx} {pins : List (Addr × Obj)} {σ : List (Option V)} {H H' : Hp} {s : Shared} {h' : Heap}

theorem Cx.Ok.nofr (ok : X.Ok) {b : Addr} {o : Obj} (e : X.base.get? b = some o) : b ∉ X.fs := fun hb => by
  have := (ok.funs.mem hb).1
  rw [e] at this; cases this
theorem Inv.bs (I : Inv X pins σ H s) : ∀ b o, X.base.get? b = some o → s.heap.get? b = some o ∧ H b = none := fun b o e =>
  ⟨I.base.keep b o (I.ok.bs b o e).1 (I.ok.bs b o e).2 (I.ok.nofr e) (I.ok.noex b o e), I.base.free b o (I.ok.bs b o e).1 (I.ok.bs b o e).2 (I.ok.noex b o e)⟩
theorem Inv.bk (I : Inv X pins σ H s) : ∀ b o, X.base.get? b = some o → s.heap.get? b = some o := fun b o e => (I.bs b o e).1
theorem Inv.mod (I : Inv X pins σ H s) : Mod X.K X.mg X.base := I.ok.mod
theorem Inv.kIn (I : Inv X pins σ H s) : X.K.In s.heap := I.ok.mod.kin.keeps I.bk
theorem Inv.nolimit (I : Inv X pins σ H s) : s.heap.NoLimit := I.ok.mod.nolimit.keeps I.bk
/-- the frame over the base: for OpenK's rules (K.In X.base is I.mod.kin) -/
theorem Inv.fr (I : Inv X pins σ H s) : ∃ m, Fr X.base X.env.locals s.heap m :=
  let ⟨m, hn, _⟩ := I.loc
  ⟨m, hn, I.bk, Nat.le_trans I.ok.bsz I.ok.above⟩
theorem Inv.lt (I : Inv X pins σ H s) : X.env.locals < s.heap.objs.size := let ⟨_, hn, _⟩ := I.loc; hn.lt
theorem Inv.sz (I : Inv X pins σ H s) : X.s₀.heap.objs.size ≤ s.heap.objs.size := Nat.le_trans I.ok.above (Nat.le_of_lt I.lt)
theorem Inv.nofs (I : Inv X pins σ H s) {a : Addr} (h : s.heap.objs.size ≤ a) : a ∉ X.fs := fun hb => by
  obtain ⟨_, o, ho, _⟩ := I.ok.funs.mem hb
  exact absurd (Nat.lt_of_lt_of_le (Heap.lt_size ho) (Nat.le_trans I.sz h)) (Nat.lt_irrefl _)
theorem Inv.cne (I : Inv X pins σ H s) : ∀ x c, X.env.cells.lookup x = some c → c ≠ X.env.locals := fun x c e z => by
  obtain ⟨v, o, ho, hd⟩ := I.cell x c e
  obtain ⟨m, ⟨o', es, ep, ho', hd', _⟩, _⟩ := I.loc
  rw [z, ho'] at ho; cases ho; rw [hd'] at hd; cases hd
theorem Inv.funs (I : Inv X pins σ H s) : s.heap.FunFrames X.base X.outer := by
  have all : ∀ (l : List Env), (∀ b ∈ frs l, b ∈ X.fs) → X.s₀.heap.FunFrames X.base l → s.heap.FunFrames X.base l := by
    intro l
    induction l with
    | nil => intro _ _; trivial
    | cons env r ih =>
      intro hs hl
      obtain ⟨hk, ⟨L, o, hf, hn, ho, hd⟩, hr⟩ := hl
      have hL : L ∈ X.fs := hs L (by unfold frs; rw [List.filterMap_cons, hf]; exact List.mem_cons_self)
      obtain ⟨sl, e⟩ := I.base.slot L o ho (I.ok.frf L hL) hL fun z => I.ok.exfs L z hL
      exact ⟨hk, ⟨L, _, hf, hn, e, hd⟩, ih (fun b hb => hs b (by unfold frs; rw [List.filterMap_cons, hf]; exact List.mem_cons_of_mem _ hb)) hr⟩
  exact all X.outer (fun _ hb => hb) I.ok.funs

/-- the frames that run, for a call -/
theorem Inv.stack (I : Inv X pins σ H s) : s.heap.FunFrames X.base X.stack := by
  rcases I.ok.stk with e | ⟨e, hf⟩
  · rw [e]; exact I.funs
  · rw [e]
    obtain ⟨m, hn, _⟩ := I.loc
    refine .cons (by rw [I.ok.kind]; decide) hf hn ?_ I.funs
    exact Heap.get?_none_of_le (Nat.le_trans I.ok.bsz I.ok.above)
theorem Inv.stkSub (I : Inv X pins σ H s) : ∀ b ∈ frs X.stack, b ∈ X.env.locals :: X.fs := fun b hb => by
  rcases I.ok.stk with e | ⟨e, hf⟩
  · rw [e] at hb; exact List.mem_cons_of_mem _ hb
  · rw [e] at hb
    unfold frs at hb
    rw [List.filterMap_cons, hf] at hb
    exact hb
theorem Inv.stkFree (I : Inv X pins σ H s) : ∀ b ∈ frs X.stack, H b = none := fun b hb => by
  rcases List.mem_cons.mp (I.stkSub b hb) with e | hb
  · rw [e]; exact I.free
  · obtain ⟨_, o, ho, _⟩ := I.ok.funs.mem hb
    exact I.base.free b o ho (I.ok.frf b hb) fun z => I.ok.exfs b z hb

/-- THE STEP: the untracked objects but the frame and the records at ch are kept (the callers' frames up to slots), the frame's map is kept, the new abstract heap is held -/
theorem Inv.step {g' : Array GenState} {t' : Nat} {d' : Drawn} {ch : List Addr} (I : Inv X pins σ H s)
    (hch : ∀ b ∈ ch, (b ∈ X.ex ∨ X.s₀.heap.objs.size ≤ b) ∧ b ≠ X.env.locals ∧ (∀ x c, X.env.cells.lookup x = some c → c ≠ b) ∧ ∀ p ∈ X.pn ++ pins, p.1 ≠ b)
    (keep : ∀ b o, b ≠ X.env.locals → b ∉ X.fs → b ∉ ch → s.heap.get? b = some o → H b = none → h'.get? b = some o)
    (slot : ∀ b o, b ≠ X.env.locals → b ∈ X.fs → b ∉ ch → s.heap.get? b = some o → H b = none → ∃ sl, h'.get? b = some { o with slots := sl }) (free : ∀ b o, b ∉ ch → s.heap.get? b = some o → H b = none → H' b = none)
    (there : ∀ b o, b ∉ ch → s.heap.get? b = some o → ∃ o', h'.get? b = some o')
    (tups : ∀ b xs, H b = some (.tup xs) → H' b = some (.tup xs)) (frzs : ∀ b o u, H b = some (.frz o u) → H' b = some (.frz o u)) (tbls : ∀ b ps, H b = some (.tbl ps) → ∃ more, H' b = some (.tbl (ps ++ more)))
    (ns : ∀ m, s.heap.Ns X.env.locals m → h'.Ns X.env.locals m) (hok : HOk X.prog X.w H' h') (hg : AllBare g') :
    Inv X pins σ H' { s with heap := h', gens := g', drawn := d', toks := t' } := by
  have neL : ∀ b o, X.s₀.heap.get? b = some o → b ≠ X.env.locals := fun b o e => Nat.ne_of_lt (Nat.lt_of_lt_of_le (Heap.lt_size e) I.ok.above)
  have neC : ∀ b o, X.s₀.heap.get? b = some o → b ∉ X.ex → b ∉ ch := fun b o e hx hb => by
    rcases (hch b hb).1 with z | z
    · exact hx z
    · exact absurd (Nat.lt_of_lt_of_le (Heap.lt_size e) z) (Nat.lt_irrefl _)
  have cellK : ∀ x c, X.env.cells.lookup x = some c → ∀ v, s.heap.IsCell c v → h'.IsCell c v := fun x c e v ⟨o, ho, hd⟩ => by
    have nch : c ∉ ch := fun z => (hch c z).2.2.1 x c e rfl
    by_cases hc : c ∈ X.fs
    · obtain ⟨sl, q⟩ := slot c o (I.cne x c e) hc nch ho (I.freeC x c e)
      exact ⟨_, q, hd⟩
    · exact ⟨o, keep c o (I.cne x c e) hc nch ho (I.freeC x c e), hd⟩
  refine ⟨I.ok, I.os, hg, ⟨fun b o e n hb hx => ?_, fun b o e n hb hx => ?_, fun b o e n hx => ?_, fun b o e hx => ?_, fun b xs e => tups b xs (I.base.tups b xs e), fun b o xs e => frzs b o xs (I.base.frzs b o xs e), fun b ps e => ?_⟩, ?_, fun x c e => ?_, ?_, fun x c e => ?_, fun p hp => ?_, hok, I.len⟩
  · exact keep b o (neL b o e) hb (neC b o e hx) (I.base.keep b o e n hb hx) (I.base.free b o e n hx)
  · obtain ⟨sl, e1⟩ := I.base.slot b o e n hb hx
    obtain ⟨sl', e2⟩ := slot b _ (neL b o e) hb (neC b o e hx) e1 (I.base.free b o e n hx)
    exact ⟨sl', e2⟩
  · obtain ⟨o', e1⟩ := I.base.there b o e hx
    exact free b o' (neC b o e hx) e1 (I.base.free b o e n hx)
  · obtain ⟨o', e1⟩ := I.base.there b o e hx
    exact there b o' (neC b o e hx) e1
  · obtain ⟨m1, e1⟩ := I.base.tbls b ps e
    obtain ⟨m2, e2⟩ := tbls b _ e1
    exact ⟨m1 ++ m2, by rw [e2, Array.append_assoc]⟩
  · obtain ⟨m, hn, hl⟩ := I.loc
    refine ⟨m, ns m hn, fun i x v e1 e2 e3 => ?_⟩
    obtain ⟨u, r, l⟩ := hl i x v e1 e2 e3
    refine ⟨u, r, ?_⟩
    rcases l with l | ⟨k, c, e, z⟩
    · exact .inl l
    · exact .inr ⟨k, c, e, cellK x c e _ z⟩
  · obtain ⟨v, z⟩ := I.cell x c e
    exact ⟨v, cellK x c e v z⟩
  · obtain ⟨m, ⟨o, _, _, ho, _⟩, _⟩ := I.loc
    exact free _ o (fun z => (hch _ z).2.1 rfl) ho I.free
  · obtain ⟨v, o, ho, hd⟩ := I.cell x c e
    exact free c o (fun z => (hch c z).2.2.1 x c e rfl) ho (I.freeC x c e)
  · obtain ⟨e, n, ne, nf, d⟩ := I.pin p hp
    have nch : p.1 ∉ ch := fun z => (hch p.1 z).2.2.2 p hp rfl
    exact ⟨keep p.1 p.2 ne nf nch e n, free p.1 p.2 nch e n, ne, nf, d⟩
/-- .. where the frame's own object is kept too -/
theorem Inv.un {t' : Nat} (I : Inv X pins σ H s) (u : Un X.fs [] H H' s.heap h') (hok : HOk X.prog X.w H' h') : Inv X pins σ H' { s with heap := h', toks := t' } := by
  obtain ⟨m, ⟨o, es, ep, ho, r⟩, _⟩ := id I.loc
  obtain ⟨sl, hL⟩ := u.any ho I.free (by simp)
  exact I.step (g' := s.gens) (d' := s.drawn) (ch := []) (fun _ z => nomatch z) (fun b o _ hb _ e n => u.keep b o e n hb (by simp)) (fun b o _ hb _ e n => u.slot b o e n hb (by simp)) (fun b o _ e n => u.free b o e n (by simp)) (fun b o _ e => u.there b o e (by simp)) u.tups u.frzs u.tbls (fun m' hm => by
    obtain ⟨o', es', ep', ho', r'⟩ := hm
    rw [ho] at ho'; cases ho'
    exact ⟨_, es', ep', hL, r'⟩) hok I.bare
/-- behind a call (or a comprehension's block): the slots of this frame may have changed too, the records at ch may have turned -/
theorem Inv.call {g' : Array GenState} {t' : Nat} {d' : Drawn} {ch : List Addr} (I : Inv X pins σ H s) (u : Un (frs X.stack) ch H H' s.heap h') (hok : HOk X.prog X.w H' h') (hg : AllBare g')
    (hch : ∀ b ∈ ch, (b ∈ X.ex ∨ X.s₀.heap.objs.size ≤ b) ∧ b ≠ X.env.locals ∧ (∀ x c, X.env.cells.lookup x = some c → c ≠ b) ∧ ∀ p ∈ X.pn ++ pins, p.1 ≠ b) :
    Inv X pins σ H' { s with heap := h', gens := g', drawn := d', toks := t' } := by
  obtain ⟨m, ⟨o, es, ep, ho, r⟩, _⟩ := id I.loc
  obtain ⟨sl, hL⟩ := u.any ho I.free fun z => (hch _ z).2.1 rfl
  exact I.step (ch := ch) hch (fun b o hL hb hc e n => u.keep b o e n (fun z => (List.mem_cons.mp (I.stkSub b z)).elim hL hb) hc) (fun b o _ _ hc e n => u.any e n hc) (fun b o hc e n => u.free b o e n hc) (fun b o hc e => u.there b o e hc) u.tups u.frzs u.tbls (fun m' hm => by
    obtain ⟨o', es', ep', ho', r'⟩ := hm
    rw [ho] at ho'; cases ho'
    exact ⟨_, es', ep', hL, r'⟩) hok hg
/-- an untracked record of ours (an iterator) has turned -/
theorem Inv.turned {t' : Nat} {it : Addr} (I : Inv X pins σ H s) (k : ∀ b o, b ≠ it → s.heap.get? b = some o → h'.get? b = some o) (hn : H it = none) (hL : it ≠ X.env.locals)
    (h1 : it ∈ X.ex ∨ X.s₀.heap.objs.size ≤ it) (h2 : ∀ x c, X.env.cells.lookup x = some c → c ≠ it) (h3 : ∀ p ∈ X.pn ++ pins, p.1 ≠ it) : Inv X pins σ H { s with heap := h', toks := t' } := by
  have nit : ∀ b u, H b = some u → b ≠ it := fun b u e z => by rw [z, hn] at e; cases e
  refine I.step (g' := s.gens) (d' := s.drawn) (ch := [it]) (fun b hb => ?_) (fun b o _ _ hc e _ => k b o (fun z => hc (by simp [z])) e) (fun b o _ _ hc e _ => ⟨o.slots, k b o (fun z => hc (by simp [z])) e⟩) (fun _ _ _ _ n => n)
    (fun b o hc e => ⟨o, k b o (fun z => hc (by simp [z])) e⟩) (fun _ _ e => e) (fun _ _ _ e => e) (fun b ps e => ⟨#[], by rw [e]; simp⟩) (fun m hm => ?_) (fun b u e => ?_) I.bare
  · have e : b = it := by simpa using hb
    subst e
    exact ⟨h1, hL, h2, h3⟩
  · obtain ⟨o, es, ep, ho, r⟩ := hm
    exact ⟨o, es, ep, k _ o (Ne.symm hL) ho, r⟩
  · refine (I.hok b u e).stay (fun c v hc q => k c v ?_ q) (fun _ q => q) fun _ _ q => q
    rcases hc with z | z
    · rw [z]; exact nit b u e
    · exact nit c _ z
theorem Inv.tok (I : Inv X pins σ H s) (t : Nat) : Inv X pins σ H { s with toks := t } := I.un (h' := s.heap) (t' := t) Un.refl I.hok
/-- all objects kept -/
theorem Inv.kept {t' : Nat} (I : Inv X pins σ H s) (k : ∀ b u, s.heap.get? b = some u → h'.get? b = some u) : Inv X pins σ H { s with heap := h', toks := t' } := I.un (Un.kept k) (I.hok.kept k)
/-- a new object laid and tracked -/
theorem Inv.laid {a : Addr} {o : HO} {t' : Nat} (I : Inv X pins σ H s) (k : ∀ b u, s.heap.get? b = some u → h'.get? b = some u) (hp : s.heap.objs.size ≤ a) (new : ObjOk X.prog X.w (upd H a o) h' a o) :
    Inv X pins σ (upd H a o) { s with heap := h', toks := t' } := I.un (Un.laid k hp (I.hok.fresh hp)) (I.hok.laid k hp new)
/-- an object written -/
theorem Inv.write {x e : Addr} {o : HO} {t' : Nat} (I : Inv X pins σ H s) (mu : Mut (H x)) (he : e = x ∨ H e = some (.own x)) (k : ∀ b u, b ≠ e → s.heap.get? b = some u → h'.get? b = some u) (heo : ∃ u, h'.get? e = some u)
    (new : ObjOk X.prog X.w (upd H x o) h' x o) : Inv X pins σ (upd H x o) { s with heap := h', toks := t' } := I.un (Un.write mu he k heo) (I.hok.write mu he k heo new)
/-- forgetting slots, pins -/
theorem Inv.weak {σ' : List (Option V)} (I : Inv X pins σ H s) (hl : σ'.length = σ.length) (w : ∀ (i : Nat) v, σ'[i]? = some (some v) → σ[i]? = some (some v)) : Inv X pins σ' H s :=
  ⟨I.ok, I.os, I.bare, I.base, let ⟨m, hn, hl'⟩ := I.loc; ⟨m, hn, fun i x v e1 e2 e3 => hl' i x v e1 (w i v e2) e3⟩, I.cell, I.free, I.freeC, I.pin, I.hok, hl.trans I.len⟩
theorem Inv.pins_of {pins' : List (Addr × Obj)} (I : Inv X pins σ H s) (h : ∀ p ∈ pins', s.heap.get? p.1 = some p.2 ∧ H p.1 = none ∧ p.1 ≠ X.env.locals ∧ p.1 ∉ X.fs ∧ ∀ v, p.2.data ≠ .cell v) : Inv X pins' σ H s :=
  ⟨I.ok, I.os, I.bare, I.base, I.loc, I.cell, I.free, I.freeC, fun p hp => (List.mem_append.mp hp).elim (fun z => I.pin p (List.mem_append_left _ z)) (h p), I.hok, I.len⟩

theorem nodup_ix {N : List Str} (hN : N.Nodup) {i j : Nat} {x : Str} (a : N[i]? = some x) (b : N[j]? = some x) : i = j := by
  obtain ⟨h1, e1⟩ := List.getElem?_eq_some_iff.mp a
  obtain ⟨h2, e2⟩ := List.getElem?_eq_some_iff.mp b
  exact (List.getElem_inj hN).mp (e1.trans e2.symm)

/-- a name is stored; what changed -/
theorem store_ok2 {M : Model} {A : Around} {E : Value → Shared → Prop} {i : Nat} {x : Str} {v : V} {u : Value} {Q : Unit → Shared → Prop} (I : Inv X pins σ H s) (hN : X.N.Nodup) (hi : X.N[i]? = some x) (hx : Loc X.env.scope x) (r : RelV v u)
    (h : ∀ s', Inv X pins (σ.set i (some v)) H s' → (∃ a, Heap.SameBut a s.heap s'.heap ∧ (a = X.env.locals ∨ X.env.cells.lookup x = some a)) → Q () s') (hf : X.fn x = true ∨ X.env.scope.names.lookup x = some .local := by first | exact .inl rfl | exact .inr rfl | assumption) : wpAny M A (storeName X.env x u) Q E s := by
  obtain ⟨m, hn, hl⟩ := id I.loc
  have hcls : (X.env.scope.kind == .class || (X.env.scope.kind == .module && X.env.locals != X.env.globals)) = false := by rw [I.ok.kind]; rfl
  have hiσ : i < σ.length := by rw [I.len]; exact (List.getElem?_eq_some_iff.mp hi).1
  have cne := I.cne
  have tracked : ∀ {a : Addr} {h' : Heap}, (∃ o, s.heap.get? a = some o ∧ H a = none) → Heap.SameBut a s.heap h' → HOk X.prog X.w H h' := fun {a h'} ha hs b ob e => by
    obtain ⟨_, _, hfree⟩ := ha
    refine (I.hok b ob e).stay (fun c w' hc q => (hs.2 c ?_).trans q) (fun _ q => q) fun _ _ q => q
    rintro rfl
    rcases hc with rfl | hc
    · rw [hfree] at e; cases e
    · rw [hfree] at hc; cases hc
  rcases hx with hk | hk
  · refine wpAny_storeName_local hk hn (fun h' hn' hs => ?_) hcls
    obtain ⟨oL, _, _, hoL, _⟩ := id hn
    refine h _ ⟨I.ok, I.os, I.bare, ⟨fun b o e n hb hx => ?_, fun b o e n hb hx => ?_, I.base.free, fun b o e hx => ?_, I.base.tups, I.base.frzs, I.base.tbls⟩, ⟨_, hn', fun j y v' e1 e2 e3 => ?_⟩, fun y c e => ?_, I.free, I.freeC, fun p hp => ?_, tracked ⟨oL, hoL, I.free⟩ hs, by simpa using I.len⟩ ⟨_, hs, .inl rfl⟩
    · exact (hs.2 b (Nat.ne_of_lt (Nat.lt_of_lt_of_le (Heap.lt_size e) I.ok.above))).trans (I.base.keep b o e n hb hx)
    · obtain ⟨sl, e1⟩ := I.base.slot b o e n hb hx
      exact ⟨sl, (hs.2 b (Nat.ne_of_lt (Nat.lt_of_lt_of_le (Heap.lt_size e) I.ok.above))).trans e1⟩
    · obtain ⟨o', e1⟩ := I.base.there b o e hx
      exact ⟨o', (hs.2 b (Nat.ne_of_lt (Nat.lt_of_lt_of_le (Heap.lt_size e) I.ok.above))).trans e1⟩
    · by_cases hj : j = i
      · subst hj
        rw [hi] at e1; cases e1
        rw [List.getElem?_set_self hiσ] at e2
        cases e2
        exact ⟨u, r, .inl ⟨hk, by simp⟩⟩
      · rw [List.getElem?_set_ne (Ne.symm hj)] at e2
        obtain ⟨u', r', q⟩ := hl j y v' e1 e2 e3
        refine ⟨u', r', ?_⟩
        rcases q with ⟨k, e⟩ | ⟨k, c, e, z⟩
        · refine .inl ⟨k, ?_⟩
          have : y ≠ x := fun e => hj (nodup_ix hN e1 (e ▸ hi))
          simp [this, e]
        · exact .inr ⟨k, c, e, z.sameBut hs (cne y c e)⟩
    · obtain ⟨w', z⟩ := I.cell y c e
      exact ⟨w', z.sameBut hs (cne y c e)⟩
    · obtain ⟨e, n, ne, nf, d⟩ := I.pin p hp
      exact ⟨(hs.2 p.1 ne).trans e, n, ne, nf, d⟩
  · have hfn : X.fn x = true := by
      rcases hf with z | z
      · exact z
      · rw [z] at hk; cases hk
    obtain ⟨c, hc⟩ := I.ok.has x (.inl hk)
    obtain ⟨w', z⟩ := I.cell x c hc
    refine wpAny_storeName_cell I.ok.kind hk hc z (fun h' hc' hs => ?_)
    obtain ⟨oc, hoc, hocd⟩ := id z
    refine h { s with heap := h' } ⟨I.ok, I.os, I.bare, ⟨fun b o e n hb hx => ?_, fun b o e n hb hx => ?_, I.base.free, fun b o e hx => ?_, I.base.tups, I.base.frzs, I.base.tbls⟩, ⟨m, hn.sameBut hs (Ne.symm (cne x c hc)), fun j y v' e1 e2 e3 => ?_⟩, fun y c' e => ?_, I.free, I.freeC, fun p hp => ?_, tracked ⟨oc, hoc, I.freeC x c hc⟩ hs, by simpa using I.len⟩ ⟨c, hs, .inr hc⟩
    · exact (hs.2 b (Nat.ne_of_lt (Nat.lt_of_lt_of_le (Heap.lt_size e) (I.ok.cab x c hfn hc)))).trans (I.base.keep b o e n hb hx)
    · obtain ⟨sl, e1⟩ := I.base.slot b o e n hb hx
      exact ⟨sl, (hs.2 b (Nat.ne_of_lt (Nat.lt_of_lt_of_le (Heap.lt_size e) (I.ok.cab x c hfn hc)))).trans e1⟩
    · obtain ⟨o', e1⟩ := I.base.there b o e hx
      exact ⟨o', (hs.2 b (Nat.ne_of_lt (Nat.lt_of_lt_of_le (Heap.lt_size e) (I.ok.cab x c hfn hc)))).trans e1⟩
    · by_cases hj : j = i
      · subst hj
        rw [hi] at e1; cases e1
        rw [List.getElem?_set_self hiσ] at e2
        cases e2
        exact ⟨u, r, .inr ⟨.inl hk, c, hc, hc'⟩⟩
      · rw [List.getElem?_set_ne (Ne.symm hj)] at e2
        obtain ⟨u', r', q⟩ := hl j y v' e1 e2 e3
        refine ⟨u', r', ?_⟩
        rcases q with q | ⟨k, c', e, z'⟩
        · exact .inl q
        · refine .inr ⟨k, c', e, z'.sameBut hs ?_⟩
          rintro rfl
          exact hj (nodup_ix hN e1 (I.ok.inj _ _ _ e hc ▸ hi))
    · by_cases hcc : c' = c
      · subst hcc; exact ⟨_, hc'⟩
      · obtain ⟨w2, z2⟩ := I.cell y c' e
        exact ⟨w2, z2.sameBut hs hcc⟩
    · obtain ⟨e, n, ne, nf, d⟩ := I.pin p hp
      refine ⟨(hs.2 p.1 ?_).trans e, n, ne, nf, d⟩
      intro q
      rw [q, hoc] at e
      have q' : oc = p.2 := Option.some.inj e
      exact d w' (by rw [← q']; exact hocd)
theorem store_ok {M : Model} {A : Around} {E : Value → Shared → Prop} {i : Nat} {x : Str} {v : V} {u : Value} {Q : Unit → Shared → Prop} (I : Inv X pins σ H s) (hN : X.N.Nodup) (hi : X.N[i]? = some x) (hx : Loc X.env.scope x) (r : RelV v u)
    (h : ∀ s', Inv X pins (σ.set i (some v)) H s' → Q () s') (hf : X.fn x = true ∨ X.env.scope.names.lookup x = some .local := by first | exact .inl rfl | exact .inr rfl | assumption) : wpAny M A (storeName X.env x u) Q E s :=
  store_ok2 I hN hi hx r (fun s' I' _ => h s' I') hf
/-- behind a call or a block, the state as it is -/
theorem Inv.call' {s' : Shared} {ch : List Addr} (I : Inv X pins σ H s) (ho : s'.os = s.os) (u : Un (frs X.stack) ch H H' s.heap s'.heap) (hok : HOk X.prog X.w H' s'.heap) (hg : AllBare s'.gens)
    (hch : ∀ b ∈ ch, (b ∈ X.ex ∨ X.s₀.heap.objs.size ≤ b) ∧ b ≠ X.env.locals ∧ (∀ x c, X.env.cells.lookup x = some c → c ≠ b) ∧ ∀ p ∈ X.pn ++ pins, p.1 ≠ b) : Inv X pins σ H' s' := by
  obtain ⟨h', g', d', t', o'⟩ := s'
  have e : o' = s.os := ho
  subst e
  exact I.call (g' := g') (t' := t') (d' := d') u hok hg hch
end

/-! ### the judgements -/
/-- an exception: its class, its own dict's address (where it has one), the abstract heap behind it -/
abbrev XK := Value → Option Addr → Hp → Prop
abbrev St := List (Option V)
abbrev VK := V → Hp → Prop
/-- an expression's reading; a test's; an argument list's -/
abbrev TE := St → Hp → VK → Prop
abbrev TT := St → Hp → (Bool → Hp → Prop) → Prop
abbrev TA := St → Hp → (List V → Hp → Prop) → Prop
/-- what is wanted behind a statement -/
structure Ends where
  nx : St → Hp → Prop
  rt : VK
  bk : St → Hp → Prop := fun _ _ => False
  ct : St → Hp → Prop := fun _ _ => False
abbrev TS := Ends → St → Hp → Prop

def EP (X : Cx) (pins : List (Addr × Obj)) (σ : St) (Q : VK) (u : Value) (s' : Shared) : Prop := ∃ v H', Inv X pins σ H' s' ∧ RelV v u ∧ Q v H'
def TP (X : Cx) (pins : List (Addr × Obj)) (σ : St) (Q : Bool → Hp → Prop) (b : Bool) (s' : Shared) : Prop := ∃ H', Inv X pins σ H' s' ∧ Q b H'
def AP (X : Cx) (pins : List (Addr × Obj)) (σ : St) (Q : List V → Hp → Prop) (us : List Value) (s' : Shared) : Prop := ∃ vs H', Inv X pins σ H' s' ∧ Vals vs us ∧ Q vs H'
def SP (X : Cx) (pins : List (Addr × Obj)) (D : Ends) (f : Flow) (s' : Shared) : Prop :=
  match f with
  | .next => ∃ σ' H', Inv X pins σ' H' s' ∧ D.nx σ' H'
  | .brk => ∃ σ' H', Inv X pins σ' H' s' ∧ D.bk σ' H'
  | .cont => ∃ σ' H', Inv X pins σ' H' s' ∧ D.ct σ' H'
  | .ret u => ∃ v σ' H', Inv X pins σ' H' s' ∧ RelV v u ∧ D.rt v H'

def PE (X : Cx) (e : Expr) (t : TE) : Prop :=
  ∀ (pins : List (Addr × Obj)) (s : Shared) (σ : St) (H : Hp) (Q : VK), Inv X pins σ H s → t σ H Q → wpAny (model X.prog X.w) X.A (eval e X.env) (EP X pins σ Q) X.xe s
def PT (X : Cx) (e : Expr) (t : TT) : Prop :=
  ∀ (pins : List (Addr × Obj)) (s : Shared) (σ : St) (H : Hp) (Q : Bool → Hp → Prop), Inv X pins σ H s → t σ H Q → wpAny (model X.prog X.w) X.A (isTrue e X.env (eval e X.env)) (TP X pins σ Q) X.xe s
/-- a test whatever its 'whole' is (and, or) -/
def PW (X : Cx) (e : Expr) (t : TT) : Prop :=
  ∀ (whole : Sem Value) (pins : List (Addr × Obj)) (s : Shared) (σ : St) (H : Hp) (Q : Bool → Hp → Prop), Inv X pins σ H s → t σ H Q → wpAny (model X.prog X.w) X.A (isTrue e X.env whole) (TP X pins σ Q) X.xe s
theorem PW.pt {X : Cx} {e : Expr} {t : TT} (h : PW X e t) : PT X e t := h _
/-- an argument list (no star), from the left -/
def PA (X : Cx) (es : List Expr) (t : TA) : Prop :=
  ∀ (pos : Pos) (pins : List (Addr × Obj)) (s : Shared) (σ : St) (H : Hp) (Q : List V → Hp → Prop), Inv X pins σ H s → t σ H Q → wpAny (model X.prog X.w) X.A (spliced (backTo pos (starEach es X.env))) (AP X pins σ Q) X.xe s
def PS (X : Cx) (st : Stmt) (t : TS) : Prop :=
  ∀ (pins : List (Addr × Obj)) (s : Shared) (σ : St) (H : Hp) (D : Ends), Inv X pins σ H s → t D σ H → wpAny (model X.prog X.w) X.A (exec st X.env) (SP X pins D) X.xe s
def PSs (X : Cx) (st : List Stmt) (t : TS) : Prop :=
  ∀ (pins : List (Addr × Obj)) (s : Shared) (σ : St) (H : Hp) (D : Ends), Inv X pins σ H s → t D σ H → wpAny (model X.prog X.w) X.A (execs st X.env) (SP X pins D) X.xe s
/-- weaken the end -/
theorem thn {α : Type} {t : Sem α} {Q Q' : α → Shared → Prop} {M : Model} {A : Around} {E : Value → Shared → Prop} {s : Shared} (h : wpAny M A t Q E s) (hQ : ∀ a s, Q a s → Q' a s) : wpAny M A t Q' E s := wpAny_mono h hQ fun _ _ x => x
end L2

namespace L2
open PySem PySem.Spec PyProof.Rows
section
variable {X : Cx}

/-- two expressions in a row -/
theorem bin {a b : Expr} {ta tb : TE} (ha : PE X a ta) (hb : PE X b tb) {pins : List (Addr × Obj)} {s : Shared} {σ : St} {H : Hp} {R : V → V → Hp → Prop} (I : Inv X pins σ H s) (h : ta σ H fun x H1 => tb σ H1 fun y H2 => R x y H2)
    {α : Type} {Q : α → Shared → Prop} {f : Value → Value → Sem α}
    (hf : ∀ v u s2 x y H2, Inv X pins σ H2 s2 → RelV x v → RelV y u → R x y H2 → wpAny (model X.prog X.w) X.A (f v u) Q X.xe s2) :
    wpAny (model X.prog X.w) X.A (eval a X.env) (fun v s₁ => wpAny (model X.prog X.w) X.A (eval b X.env) (fun u s₂ => wpAny (model X.prog X.w) X.A (f v u) Q X.xe s₂) X.xe s₁) X.xe s := by
  refine thn (ha pins s σ H _ I h) fun v s1 ⟨x, H1, I1, r1, q1⟩ => ?_
  refine thn (hb pins s1 σ H1 _ I1 q1) fun u s2 ⟨y, H2, I2, r2, q2⟩ => ?_
  exact hf v u s2 x y H2 I2 r1 r2 q2

/-! ### names and constants -/
def tVar (i : Nat) : TE := fun σ H Q => ∃ v, σ[i]? = some (some v) ∧ Q v H
def tC (v : V) : TE := fun _ H Q => Q v H
theorem pe_var {i : Nat} {x : Str} {pos : Pos} (hN : X.N[i]? = some x) (hv : Vis X.env.scope x) (hd : (x == ("__debug__" : Str)) = false := by decide) (hcd : (x == ("__classdict__" : Str)) = false := by decide) : PE X (.Name x pos) (tVar i) := by
  intro pins s σ H Q I h
  obtain ⟨v, e, h⟩ := h
  obtain ⟨m, hn, hl⟩ := I.loc
  obtain ⟨u, r, l⟩ := hl i x v hN e hv
  have fin : EP X pins σ Q u s := ⟨v, H, I, r, h⟩
  rcases l with ⟨hk, hm⟩ | ⟨hk, c, hc, hcell⟩
  · exact wpAny_Name (wpAny_loadName_local I.ok.kind hk hn hm fin) hd
  · rcases hk with hk | hk
    · exact wpAny_Name (wpAny_loadName_cell I.ok.kind hk hc hcell fin) hd
    · exact wpAny_Name (wpAny_loadName_free I.ok.kind hk hc hcell fin hcd) hd
theorem pe_int {i j pos} : PE X (.Constant (.int i) j pos) (tC (.int i)) := fun _ _ _ H _ I h => wpAny_Constant_int ⟨.int i, H, I.tok _, ⟨_, rfl⟩, h⟩
theorem pe_bl {b j pos} : PE X (.Constant (.bool b) j pos) (tC (.bl b)) := fun _ _ _ H _ I h => Constant_bool ⟨.bl b, H, I, rfl, h⟩
theorem pe_non {j pos} : PE X (.Constant .none j pos) (tC .non) := fun _ _ _ H _ I h => Constant_none ⟨.non, H, I, rfl, h⟩
theorem pe_str {x j pos} : PE X (.Constant (.str x) j pos) (tC (.str x)) := fun _ _ _ H _ I h => Calls.Constant_str ⟨.str x, H, I.tok _, ⟨_, rfl⟩, h⟩

/-- a global name of the def -/
def Gl (X : Cx) (x : Str) : Prop := X.env.kindOf x = some .globalImplicit
theorem ld_glob {E : Value → Shared → Prop} {pins : List (Addr × Obj)} {s : Shared} {σ : St} {H : Hp} {x : Str} {u : Value} {pos : Pos} {Q : Value → Shared → Prop} (I : Inv X pins σ H s) (hg : Gl X x) (hm : X.mg x = some u) (h : Q u s)
    (hd : (x == ("__debug__" : Str)) = false := by decide) : wpAny (model X.prog X.w) X.A (eval (.Name x pos) X.env) Q E s :=
  Calls.Name_function_global I.ok.kind hg (Calls.loadGlobal_global (by rw [I.ok.glob]; exact I.mod.glob.keeps I.bk) hm h) hd
theorem ld_blt {E : Value → Shared → Prop} {pins : List (Addr × Obj)} {s : Shared} {σ : St} {H : Hp} {x : Str} {u : Value} {pos : Pos} {Q : Value → Shared → Prop} (I : Inv X pins σ H s) (hg : Gl X x) (hm : X.mg x = none) (hv : bootBuiltins x = some u) (h : Q u s)
    (hn : x ≠ "__name__" := by decide) (hd : (x == ("__debug__" : Str)) = false := by decide) : wpAny (model X.prog X.w) X.A (eval (.Name x pos) X.env) Q E s := by
  obtain ⟨mb, h1, h2⟩ := I.mod.blt
  exact Calls.Name_function_global I.ok.kind hg (Calls.loadGlobal_builtin (by rw [I.ok.glob]; exact I.mod.glob.keeps I.bk) hm (by rw [I.ok.blt]; exact h1.keeps I.bk) ((h2 x hn).trans hv) h) hd
/-- a module's constant, a class, a function, as a value -/
theorem pe_glob {x : Str} {v : V} {u : Value} {pos : Pos} (hg : Gl X x) (hm : X.mg x = some u) (r : RelV v u) (hd : (x == ("__debug__" : Str)) = false := by decide) : PE X (.Name x pos) (tC v) :=
  fun _ _ _ H _ I h => ld_glob I hg hm ⟨v, H, I, r, h⟩ hd
theorem pe_bltn {x : Str} {v : V} {u : Value} {pos : Pos} (hg : Gl X x) (hm : X.mg x = none) (hv : bootBuiltins x = some u) (r : RelV v u) (hn : x ≠ "__name__" := by decide) (hd : (x == ("__debug__" : Str)) = false := by decide) : PE X (.Name x pos) (tC v) :=
  fun _ _ _ H _ I h => ld_blt I hg hm hv ⟨v, H, I, r, h⟩ hn hd

/-! ### arithmetic -/
/-- two ints -/
def t2I (ta tb : TE) (k : Int → Int → Hp → Prop) : St → Hp → Prop := fun σ H => ta σ H fun x H1 => tb σ H1 fun y H2 => ∃ i j, x = .int i ∧ y = .int j ∧ k i j H2
def tAdd (ta tb : TE) : TE := fun σ H Q => t2I ta tb (fun i j H2 => Q (.int (i + j)) H2) σ H
def tSub (ta tb : TE) : TE := fun σ H Q => t2I ta tb (fun i j H2 => Q (.int (i - j)) H2) σ H
/-- the left factor below 2^64 -/
def tMul (ta tb : TE) : TE := fun σ H Q => t2I ta tb (fun i j H2 => (-(2 ^ 64) < i ∧ i < 2 ^ 64) ∧ Q (.int (i * j)) H2) σ H
variable {a b : Expr} {ta tb : TE} {pos : Pos}
theorem pe_add (ha : PE X a ta) (hb : PE X b tb) : PE X (.BinOp a .Add b pos) (tAdd ta tb) := by
  intro pins s σ H Q I h
  refine wpAny_BinOp (bin ha hb I h fun v u s2 x y H2 I2 rx ry q => ?_)
  obtain ⟨i, j, rfl, rfl, q⟩ := q
  obtain ⟨t, rfl⟩ := rx
  obtain ⟨t', rfl⟩ := ry
  exact add_int ⟨.int _, H2, I2.tok _, ⟨_, rfl⟩, q⟩
theorem pe_sub (ha : PE X a ta) (hb : PE X b tb) : PE X (.BinOp a .Sub b pos) (tSub ta tb) := by
  intro pins s σ H Q I h
  refine wpAny_BinOp (bin ha hb I h fun v u s2 x y H2 I2 rx ry q => ?_)
  obtain ⟨i, j, rfl, rfl, q⟩ := q
  obtain ⟨t, rfl⟩ := rx
  obtain ⟨t', rfl⟩ := ry
  exact sub_int ⟨.int _, H2, I2.tok _, ⟨_, rfl⟩, q⟩
theorem pe_mul (ha : PE X a ta) (hb : PE X b tb) : PE X (.BinOp a .Mult b pos) (tMul ta tb) := by
  intro pins s σ H Q I h
  refine wpAny_BinOp (bin ha hb I h fun v u s2 x y H2 I2 rx ry q => ?_)
  obtain ⟨i, j, rfl, rfl, ⟨q1, q2⟩, q⟩ := q
  obtain ⟨t, rfl⟩ := rx
  obtain ⟨t', rfl⟩ := ry
  exact mul_int ⟨.int _, H2, I2.tok _, ⟨_, rfl⟩, q⟩ (.of_left (intBits_le_64 q1 q2))

/-! ### comparisons -/
def PC (X : Cx) (op : CmpOp) (a b : Expr) (t : TE) : Prop :=
  ∀ (pins : List (Addr × Obj)) (s : Shared) (σ : St) (H : Hp) (Q : VK), Inv X pins σ H s → t σ H Q →
    wpAny (model X.prog X.w) X.A (eval a X.env) (fun v s₁ => wpAny (model X.prog X.w) X.A (eval b X.env) (fun u s₂ => wpAny (model X.prog X.w) X.A (compareOp op v u) (EP X pins σ Q) X.xe s₂) X.xe s₁) X.xe s
theorem nobehind (b : Expr) {op : CmpOp} (h : op ≠ .In) (h2 : op ≠ .NotIn) : behindInMarks op b = false := by
  have e1 : (op == CmpOp.In) = false := by cases op <;> first | rfl | exact absurd rfl h
  have e2 : (op == CmpOp.NotIn) = false := by cases op <;> first | rfl | exact absurd rfl h2
  cases b <;> simp [behindInMarks, e1, e2]
def tCmp (p : Int → Int → Bool) (ta tb : TE) : TE := fun σ H Q => t2I ta tb (fun i j H2 => Q (.bl (p i j)) H2) σ H
abbrev tLt : TE → TE → TE := tCmp fun i j => decide (i < j)
abbrev tLe : TE → TE → TE := tCmp fun i j => decide (i ≤ j)
abbrev tGt : TE → TE → TE := tCmp fun i j => decide (j < i)
abbrev tGe : TE → TE → TE := tCmp fun i j => decide (j ≤ i)
abbrev tEqI : TE → TE → TE := tCmp fun i j => decide (i = j)
abbrev tNeI : TE → TE → TE := tCmp fun i j => !decide (i = j)
/-- a comparison of two ints, by its rule -/
theorem pc_int {op : CmpOp} {p : Int → Int → Bool} (ha : PE X a ta) (hb : PE X b tb)
    (rule : ∀ (i j : Int) (t u : Tok) (Q : Value → Shared → Prop) (s : Shared), Q (.bool (p i j)) s → wpAny (model X.prog X.w) X.A (compareOp op (.int i t) (.int j u)) Q X.xe s) : PC X op a b (tCmp p ta tb) := by
  intro pins s σ H Q I h
  refine bin ha hb I h fun v u s2 x y H2 I2 rx ry q => ?_
  obtain ⟨i, j, rfl, rfl, q⟩ := q
  obtain ⟨t, rfl⟩ := rx
  obtain ⟨t', rfl⟩ := ry
  exact rule i j t t' _ s2 ⟨.bl _, H2, I2, rfl, q⟩
theorem pc_lt (ha : PE X a ta) (hb : PE X b tb) : PC X .Lt a b (tLt ta tb) := pc_int ha hb fun _ _ _ _ _ _ h => lt_int h
theorem pc_le (ha : PE X a ta) (hb : PE X b tb) : PC X .LtE a b (tLe ta tb) := pc_int ha hb fun _ _ _ _ _ _ h => le_int h
theorem pc_gt (ha : PE X a ta) (hb : PE X b tb) : PC X .Gt a b (tGt ta tb) := pc_int ha hb fun _ _ _ _ _ _ h => gt_int h
theorem pc_ge (ha : PE X a ta) (hb : PE X b tb) : PC X .GtE a b (tGe ta tb) := pc_int ha hb fun _ _ _ _ _ _ h => ge_int h
theorem pc_eqI (ha : PE X a ta) (hb : PE X b tb) : PC X .Eq a b (tEqI ta tb) := pc_int ha hb fun _ _ _ _ _ _ h => eq_int (by rw [Bool.beq_eq_decide_eq]; exact h)
theorem pc_neI (ha : PE X a ta) (hb : PE X b tb) : PC X .NotEq a b (tNeI ta tb) := pc_int ha hb fun _ _ _ _ _ _ h => ne_int (by rw [bne, Bool.beq_eq_decide_eq]; exact h)
/-- is None -/
def tIsN (ta : TE) : TE := fun σ H Q => ta σ H fun x H1 => Q (.bl (decide (x = .non))) H1
def tNotN (ta : TE) : TE := fun σ H Q => ta σ H fun x H1 => Q (.bl (!decide (x = .non))) H1
theorem RelV.none_iff {x : V} {v : Value} (r : RelV x v) : (v == Value.none) = decide (x = .non) := by
  cases x with
  | non => cases r; rfl
  | bl _ => cases r; rfl
  | int _ => obtain ⟨t, rfl⟩ := r; rfl
  | str _ => obtain ⟨t, rfl⟩ := r; rfl
  | byt _ => obtain ⟨t, rfl⟩ := r; rfl
  | flt _ => obtain ⟨t, rfl⟩ := r; rfl
  | ref _ => cases r; rfl
  | ty _ => cases r; rfl
theorem pc_isN {j pos'} (ha : PE X a ta) : PC X .Is a (.Constant .none j pos') (tIsN ta) := by
  intro pins s σ H Q I h
  refine thn (ha pins s σ H _ I h) fun v s1 ⟨x, H1, I1, r1, q1⟩ => ?_
  exact Constant_none (is_none_gen ⟨.bl _, H1, I1, by rw [r1.none_iff]; rfl, q1⟩)
theorem pc_notN {j pos'} (ha : PE X a ta) : PC X .IsNot a (.Constant .none j pos') (tNotN ta) := by
  intro pins s σ H Q I h
  refine thn (ha pins s σ H _ I h) fun v s1 ⟨x, H1, I1, r1, q1⟩ => ?_
  exact Constant_none (isnot_none_gen ⟨.bl _, H1, I1, by rw [r1.none_iff]; rfl, q1⟩)
/-- a comparison as a value, as a test -/
def tB (t : TE) : TT := fun σ H Q => t σ H fun x H1 => ∃ c, x = .bl c ∧ Q c H1
theorem pe_cmp {op : CmpOp} {t : TE} (h : PC X op a b t) (h1 : behindInMarks op b = false := by first | exact nobehind _ (by decide) (by decide) | rfl) : PE X (.Compare a [op] [b] pos) t := fun pins s σ H Q I hw => wpAny_Compare1 (h pins s σ H Q I hw) h1
theorem pt_cmp {op : CmpOp} {t : TE} (h : PC X op a b t) (h1 : behindInMarks op b = false := by first | exact nobehind _ (by decide) (by decide) | rfl) : PT X (.Compare a [op] [b] pos) (tB t) := by
  intro pins s σ H Q I hw
  refine wpAny_isTrue_Compare1 (thn (h pins s σ H _ I hw) fun v s1 h1 => thn h1 fun u s2 h2 => thn h2 fun c s3 ⟨x, H1, I1, r1, q1⟩ => ?_) h1
  obtain ⟨d, rfl, q⟩ := q1
  cases r1
  exact wpAny_truthy_bool ⟨H1, I1, q⟩
/-- an expression whose value is a bool, as a test -/
theorem pt_val {e : Expr} {t : TE} (h : PE X e t) (he : ∀ whole, isTrue e X.env whole = (do let v ← whole; standAt e.pos; holding [v] (truthy v)) := by intro _; rfl) : PT X e (tB t) := by
  intro pins s σ H Q I hw
  refine isTrue_plain (thn (h pins s σ H _ I hw) fun v s1 ⟨x, H1, I1, r1, q1⟩ => ?_) (he _)
  obtain ⟨d, rfl, q⟩ := q1
  cases r1
  exact wpAny_truthy_bool ⟨H1, I1, q⟩

/-! ### and, or, not -/
variable {tA tB' : TT} {rest : List Expr}
def tAnd (t u : TT) : TT := fun σ H Q => t σ H fun c H1 => if c = true then u σ H1 Q else Q false H1
def tOr (t u : TT) : TT := fun σ H Q => t σ H fun c H1 => if c = true then Q true H1 else u σ H1 Q
def tNot (t : TT) : TT := fun σ H Q => t σ H fun c H1 => Q (!c) H1
theorem pw_and1 (ha : PT X a tA) : PW X (.BoolOp .And [a] pos) tA := by
  intro wh pins s σ H Q I h
  refine isTrue_and (thn (ha pins s σ H Q I h) fun c s1 e => ?_)
  cases c with
  | true => exact isTrue_and_nil e
  | false => exact e
theorem pw_or1 (ha : PT X a tA) : PW X (.BoolOp .Or [a] pos) tA := by
  intro wh pins s σ H Q I h
  refine isTrue_or (thn (ha pins s σ H Q I h) fun c s1 e => ?_)
  cases c with
  | false => exact isTrue_or_nil e
  | true => exact e
theorem pw_and (ha : PT X a tA) (hb : PW X (.BoolOp .And (b :: rest) pos) tB') : PW X (.BoolOp .And (a :: b :: rest) pos) (tAnd tA tB') := by
  intro wh pins s σ H Q I h
  refine isTrue_and (thn (ha pins s σ H _ I h) fun c s1 ⟨H1, I1, q1⟩ => ?_)
  cases c with
  | true => exact hb wh pins s1 σ H1 Q I1 q1
  | false => exact ⟨H1, I1, q1⟩
theorem pw_or (ha : PT X a tA) (hb : PW X (.BoolOp .Or (b :: rest) pos) tB') : PW X (.BoolOp .Or (a :: b :: rest) pos) (tOr tA tB') := by
  intro wh pins s σ H Q I h
  refine isTrue_or (thn (ha pins s σ H _ I h) fun c s1 ⟨H1, I1, q1⟩ => ?_)
  cases c with
  | true => exact ⟨H1, I1, q1⟩
  | false => exact hb wh pins s1 σ H1 Q I1 q1
theorem pt_not (ha : PT X a tA) : PT X (.UnaryOp .Not a pos) (tNot tA) := by
  intro pins s σ H Q I h
  exact isTrue_not (ha pins s σ H (fun c H1 => Q (!c) H1) I h)
/-- .. as values (bools) -/
def tAndV (ta tb : TE) : TE := fun σ H Q => ta σ H fun x H1 => ∃ c, x = .bl c ∧ if c = true then tb σ H1 Q else Q (.bl false) H1
def tOrV (ta tb : TE) : TE := fun σ H Q => ta σ H fun x H1 => ∃ c, x = .bl c ∧ if c = true then Q (.bl true) H1 else tb σ H1 Q
def tNotV (ta : TE) : TE := fun σ H Q => ta σ H fun x H1 => ∃ c, x = .bl c ∧ Q (.bl (!c)) H1
theorem pe_one {op} {t : TE} (h : PE X a t) : PE X (.BoolOp op [a] pos) t := fun pins s σ H Q I hw => BoolOp_one (h pins s σ H Q I hw)
theorem pe_and (ha : PE X a ta) (hb : PE X (.BoolOp .And (b :: rest) pos) tb) : PE X (.BoolOp .And (a :: b :: rest) pos) (tAndV ta tb) := by
  intro pins s σ H Q I h
  refine BoolOp_and (thn (ha pins s σ H _ I h) fun v s1 ⟨x, H1, I1, r1, q1⟩ => ?_)
  obtain ⟨c, rfl, q1⟩ := q1
  cases r1
  refine wpAny_truthy_bool ?_
  cases c with
  | true => exact hb pins s1 σ H1 Q I1 q1
  | false => exact ⟨.bl false, H1, I1, rfl, q1⟩
theorem pe_or (ha : PE X a ta) (hb : PE X (.BoolOp .Or (b :: rest) pos) tb) : PE X (.BoolOp .Or (a :: b :: rest) pos) (tOrV ta tb) := by
  intro pins s σ H Q I h
  refine BoolOp_or (thn (ha pins s σ H _ I h) fun v s1 ⟨x, H1, I1, r1, q1⟩ => ?_)
  obtain ⟨c, rfl, q1⟩ := q1
  cases r1
  refine wpAny_truthy_bool ?_
  cases c with
  | false => exact hb pins s1 σ H1 Q I1 q1
  | true => exact ⟨.bl true, H1, I1, rfl, q1⟩
theorem pe_not (ha : PE X a ta) : PE X (.UnaryOp .Not a pos) (tNotV ta) := by
  intro pins s σ H Q I h
  refine UnaryOp_ (thn (ha pins s σ H _ I h) fun v s1 ⟨x, H1, I1, r1, q1⟩ => ?_)
  obtain ⟨c, rfl, q1⟩ := q1
  cases r1
  exact not_of (wpAny_truthy_bool ⟨.bl (!c), H1, I1, rfl, q1⟩)
/-- a if t else b -/
def tIf (t : TT) (ta tb : TE) : TE := fun σ H Q => t σ H fun c H1 => if c = true then ta σ H1 Q else tb σ H1 Q
theorem pe_ifExp {c : Expr} (hc : PT X c tA) (ha : PE X a ta) (hb : PE X b tb) : PE X (.IfExp c a b pos) (tIf tA ta tb) := by
  intro pins s σ H Q I h
  refine wpAny_IfExp (thn (hc pins s σ H _ I h) fun d s1 ⟨H1, I1, q1⟩ => ?_)
  cases d with
  | true => exact ha pins s1 σ H1 Q I1 q1
  | false => exact hb pins s1 σ H1 Q I1 q1
end
end L2

namespace L2
open PySem PySem.Spec PyProof.Rows

/-! ### a list, a tuple that is read: tracked, frozen, or an object of the module -/
def SqL (K : PySem.W.Frag) (H : Hp) (a : Addr) (xs : List V) : Prop :=
  Rd H a (.lst xs) ∨
    ∃ (o : Obj) (its : Array Value) (n : Nat), K.lookup a = some o ∧ o.cls = .type "list" ∧ o.dict = none ∧ o.data = .seq its n ∧ its.size ≤ sizeLine ∧ Vals xs its.toList
def SqT (K : PySem.W.Frag) (H : Hp) (a : Addr) (xs : List V) : Prop :=
  Rd H a (.tup xs) ∨
    ∃ (o : Obj) (its : Array Value) (n : Nat), K.lookup a = some o ∧ o.cls = .type "tuple" ∧ o.data = .seq its n ∧ its.size ≤ sizeLine ∧ Vals xs its.toList
def absV : Value → Option V
  | .none => some .non
  | .bool b => some (.bl b)
  | .int i _ => some (.int i)
  | .str x _ => some (.str x)
  | .bytes b _ => some (.byt b)
  | .float b _ => some (.flt b)
  | .ref a => some (.ref a)
  | .type n => some (.ty n)
  | _ => none
theorem RelV.abs {x : V} {u : Value} (r : RelV x u) : absV u = some x := by
  cases x with
  | non => cases r; rfl
  | bl _ => cases r; rfl
  | int _ => obtain ⟨t, rfl⟩ := r; rfl
  | str _ => obtain ⟨t, rfl⟩ := r; rfl
  | byt _ => obtain ⟨t, rfl⟩ := r; rfl
  | flt _ => obtain ⟨t, rfl⟩ := r; rfl
  | ref _ => cases r; rfl
  | ty _ => cases r; rfl
theorem RelV.inj {x y : V} {u : Value} (r : RelV x u) (q : RelV y u) : x = y := Option.some.inj (r.abs.symm.trans q.abs)
theorem Vals.inj : ∀ {xs ys : List V} {us : List Value}, Vals xs us → Vals ys us → xs = ys
  | _, _, _, .nil, .nil => rfl
  | _, _, _, .cons r t, .cons r' t' => by rw [r.inj r', Vals.inj t t']
section
variable {X : Cx} {pins : List (Addr × Obj)} {σ : St} {H : Hp} {s : Shared} {a : Addr} {xs ys : List V}
theorem SqL.of {K : PySem.W.Frag} (h : H a = some (.lst xs)) : SqL K H a xs := .inl (.inl h)
theorem SqT.of {K : PySem.W.Frag} (h : H a = some (.tup xs)) : SqT K H a xs := .inl (.inl h)
theorem Inv.list (I : Inv X pins σ H s) (h : SqL X.K H a xs) : ∃ its : List Value, Vals xs its ∧ PlainL s.heap a its.toArray ∧ xs.length ≤ sizeLine := by
  rcases h with h | ⟨o, its, n, hk, hc, hd, hs, hz, r⟩
  · obtain ⟨z, its, n, r, e⟩ := h.ok I.hok
    exact ⟨its, r, ⟨_, n, e, rfl, rfl, rfl⟩, z⟩
  · refine ⟨its.toList, r, ⟨o, n, I.kIn a o hk, hc, hd, by simpa using hs⟩, ?_⟩
    have e := r.length
    simp only [Array.length_toList] at e
    omega
theorem Inv.tuple (I : Inv X pins σ H s) (h : SqT X.K H a xs) : ∃ its : List Value, Vals xs its ∧ IsTup s.heap a its.toArray ∧ xs.length ≤ sizeLine := by
  rcases h with h | ⟨o, its, n, hk, hc, hs, hz, r⟩
  · obtain ⟨z, its, r, p⟩ := h.ok I.hok
    exact ⟨its, r, p, z⟩
  · refine ⟨its.toList, r, ⟨o, I.kIn a o hk, hc, n, by simpa using hs⟩, ?_⟩
    have e := r.length
    simp only [Array.length_toList] at e
    omega
theorem Inv.list_inj (I : Inv X pins σ H s) (h : SqL X.K H a xs) (h' : SqL X.K H a ys) : xs = ys := by
  obtain ⟨its, r, ⟨o, n, e, _, _, d⟩, _⟩ := I.list h
  obtain ⟨its', r', ⟨o', n', e', _, _, d'⟩, _⟩ := I.list h'
  rw [e] at e'; cases e'
  rw [d] at d'
  injection d' with d1 _
  have : its = its' := by simpa using congrArg Array.toList d1
  subst this
  exact r.inj r'
theorem Inv.tuple_inj (I : Inv X pins σ H s) (h : SqT X.K H a xs) (h' : SqT X.K H a ys) : xs = ys := by
  obtain ⟨its, r, ⟨o, e, _, n, d⟩, _⟩ := I.tuple h
  obtain ⟨its', r', ⟨o', e', _, n', d'⟩, _⟩ := I.tuple h'
  rw [e] at e'; cases e'
  rw [d] at d'
  injection d' with d1 _
  have : its = its' := by simpa using congrArg Array.toList d1
  subst this
  exact r.inj r'
end

/-! ### another wish about exceptions -/
abbrev Cx.wish (X : Cx) (E : Value → Shared → Prop) : Cx := { X with xe := E }
/-- no exception leaves -/
abbrev Cx.nox (X : Cx) : Cx := X.wish fun _ _ => False
theorem Cx.Ok.wish {X : Cx} (ok : X.Ok) (E : Value → Shared → Prop) : (X.wish E).Ok :=
  ⟨ok.mod, ok.kind, ok.glob, ok.blt, ok.above, ok.inj, ok.has, ok.cab, ok.hd, ok.frames, ok.stk, ok.exf, ok.bs, ok.bsz, ok.noex, ok.exfs, ok.funs, ok.frf⟩
theorem Cx.Ok.unwish {X : Cx} {E : Value → Shared → Prop} (ok : (X.wish E).Ok) : X.Ok :=
  ⟨ok.mod, ok.kind, ok.glob, ok.blt, ok.above, ok.inj, ok.has, ok.cab, ok.hd, ok.frames, ok.stk, ok.exf, ok.bs, ok.bsz, ok.noex, ok.exfs, ok.funs, ok.frf⟩
section
variable {X : Cx} {pins : List (Addr × Obj)} {σ : St} {H : Hp} {s : Shared} {E : Value → Shared → Prop}
theorem Inv.wish (I : Inv X pins σ H s) (E : Value → Shared → Prop) : Inv (X.wish E) pins σ H s := ⟨I.ok.wish E, I.os, I.bare, I.base, I.loc, I.cell, I.free, I.freeC, I.pin, I.hok, I.len⟩
theorem Inv.unwish (I : Inv (X.wish E) pins σ H s) : Inv X pins σ H s := ⟨I.ok.unwish, I.os, I.bare, I.base, I.loc, I.cell, I.free, I.freeC, I.pin, I.hok, I.len⟩
theorem SP.unwish {D : Ends} {f : Flow} {s' : Shared} (h : SP (X.wish E) pins D f s') : SP X pins D f s' := by
  cases f with
  | next => obtain ⟨σ', H', I, q⟩ := h; exact ⟨σ', H', I.unwish, q⟩
  | brk => obtain ⟨σ', H', I, q⟩ := h; exact ⟨σ', H', I.unwish, q⟩
  | cont => obtain ⟨σ', H', I, q⟩ := h; exact ⟨σ', H', I.unwish, q⟩
  | ret u => obtain ⟨v, σ', H', I, r, q⟩ := h; exact ⟨v, σ', H', I.unwish, r, q⟩
theorem PE.nox {e : Expr} {t : TE} (h : PE X.nox e t) : PE X e t := fun pins s σ H Q I hw =>
  wpAny_mono (h pins s σ H Q (I.wish _) hw) (fun _ _ ⟨v, H', I', r, q⟩ => ⟨v, H', I'.unwish, r, q⟩) fun _ _ z => False.elim z
theorem PT.nox {e : Expr} {t : TT} (h : PT X.nox e t) : PT X e t := fun pins s σ H Q I hw =>
  wpAny_mono (h pins s σ H Q (I.wish _) hw) (fun _ _ ⟨H', I', q⟩ => ⟨H', I'.unwish, q⟩) fun _ _ z => False.elim z
theorem PSs.nox {st : List Stmt} {t : TS} (h : PSs X.nox st t) : PSs X st t := fun pins s σ H D I hw =>
  wpAny_mono (h pins s σ H D (I.wish _) hw) (fun _ _ q => q.unwish) fun _ _ z => False.elim z
end

/-! ### blocks and small statements -/
section
variable {X : Cx} {st : Stmt} {rest : List Stmt} {t u : TS} {e : Expr} {te : TE} {pos : Pos}
def tNext : TS := fun D σ H => D.nx σ H
def tSeq (t u : TS) : TS := fun D σ H => t { D with nx := u D } σ H
theorem pss_nil : PSs X [] tNext := fun _ _ σ H _ I h => wpAny_execs_nil ⟨σ, H, I, h⟩
theorem pss_cons (h1 : PS X st t) (h2 : PSs X rest u) : PSs X (st :: rest) (tSeq t u) := by
  intro pins s σ H D I h
  refine wpAny_execs_cons (thn (h1 pins s σ H { D with nx := u D } I h) fun f s1 q => ?_)
  cases f with
  | next =>
    obtain ⟨σ', H', I', q⟩ := q
    exact h2 pins s1 σ' H' D I' q
  | ret v => exact q
  | brk => exact q
  | cont => exact q
theorem pss_one (h1 : PS X st t) : PSs X [st] t := by
  intro pins s σ H D I h
  refine wpAny_execs_cons (thn (h1 pins s σ H D I h) fun f s1 q => ?_)
  cases f with
  | next => exact wpAny_execs_nil q
  | ret v => exact q
  | brk => exact q
  | cont => exact q
def tBreak : TS := fun D σ H => D.bk σ H
def tCont : TS := fun D σ H => D.ct σ H
theorem ps_pass : PS X (.Pass pos) tNext := fun _ _ σ H _ I h => wpAny_Pass ⟨σ, H, I, h⟩
theorem ps_break : PS X (.Break pos) tBreak := fun _ _ σ H _ I h => wpAny_Break ⟨σ, H, I, h⟩
theorem ps_continue : PS X (.Continue pos) tCont := fun _ _ σ H _ I h => wpAny_Continue ⟨σ, H, I, h⟩
/-- in a def's body nothing is shown -/
theorem Inv.quiet {pins : List (Addr × Obj)} {σ : St} {H : Hp} {s : Shared} (I : Inv X pins σ H s) : interactive X.env = false := by simp [interactive, I.ok.kind]
/-- a docstring -/
theorem ps_doc {x j pos pos'} : PS X (.Expr (.Constant (.str x) j pos) pos') tNext := fun _ s σ H _ I h => wpAny_Expr (Calls.Constant_str (show SP X _ _ .next { s with toks := s.toks + 1 } from ⟨σ, H, I.tok _, h⟩)) I.quiet
/-- an expression whose value is dropped -/
def tDrop (te : TE) : TS := fun D σ H => te σ H fun _ H1 => D.nx σ H1
theorem ps_expr (he : PE X e te) (hs : swapsWith e none pos.line X.env = pure false := by rfl) : PS X (.Expr e pos) (tDrop te) := by
  intro pins s σ H D I h
  exact wpAny_Expr_any (thn (he pins s σ H _ I h) fun v s1 ⟨x, H1, I1, r1, q1⟩ => ⟨σ, H1, I1, q1⟩) I.quiet hs
def tRet (te : TE) : TS := fun D σ H => te σ H D.rt
theorem ps_ret (he : PE X e te) : PS X (.Return (some e) pos) (tRet te) := by
  intro pins s σ H D I h
  exact wpAny_Return_some (thn (he pins s σ H _ I h) fun v s1 ⟨x, H1, I1, r1, q1⟩ => ⟨x, σ, H1, I1, r1, q1⟩)
def tRetN : TS := fun D _ H => D.rt .non H
theorem ps_retN : PS X (.Return none pos) tRetN := fun _ _ σ H _ I h => wpAny_Return_none ⟨.non, σ, H, I, rfl, h⟩
def tIfS (c : TT) (t u : TS) : TS := fun D σ H => c σ H fun b H1 => if b = true then t D σ H1 else u D σ H1
theorem ps_if {c : Expr} {a b : List Stmt} {tc : TT} (hc : PT X c tc) (ha : PSs X a t) (hb : PSs X b u) : PS X (.If c a b pos) (tIfS tc t u) := by
  intro pins s σ H D I h
  refine wpAny_If (thn (hc pins s σ H _ I h) fun d s1 ⟨H1, I1, q1⟩ => ?_)
  cases d with
  | true => exact ha pins s1 σ H1 D I1 q1
  | false => exact hb pins s1 σ H1 D I1 q1
/-- code that the proof never comes to -/
def tNever : TS := fun _ _ _ => False
theorem ps_never : PS X st tNever := fun _ _ _ _ _ _ h => h.elim
theorem pss_never {sts : List Stmt} : PSs X sts tNever := fun _ _ _ _ _ _ h => h.elim
end

/-! ### targets -/
abbrev TG := V → St → Hp → (St → Hp → Prop) → Prop
abbrev TGs := List V → St → Hp → (St → Hp → Prop) → Prop
def PG (X : Cx) (target : Expr) (t : TG) : Prop :=
  ∀ (pins : List (Addr × Obj)) (s : Shared) (σ : St) (H : Hp) (v : V) (u : Value) (Q : St → Hp → Prop), Inv X pins σ H s → RelV v u → t v σ H Q →
    wpAny (model X.prog X.w) X.A (assign target X.env u) (fun _ s' => ∃ σ' H', Inv X pins σ' H' s' ∧ Q σ' H') X.xe s
/-- several targets, one after another -/
def PGs (X : Cx) (ts : List Expr) (t : TGs) : Prop :=
  ∀ (pins : List (Addr × Obj)) (s : Shared) (σ : St) (H : Hp) (vs : List V) (us : List Value) (Q : St → Hp → Prop), Inv X pins σ H s → Vals vs us → t vs σ H Q →
    wpAny (model X.prog X.w) X.A (assignInOrder ((assignEach ts X.env).map (·.2)) us) (fun _ s' => ∃ σ' H', Inv X pins σ' H' s' ∧ Q σ' H') X.xe s
/-- o[i] = v, by values -/
abbrev TSet := V → V → V → Hp → (Hp → Prop) → Prop
def PSet (X : Cx) (t : TSet) : Prop :=
  ∀ (pins : List (Addr × Obj)) (s : Shared) (σ : St) (H : Hp) (o i v : V) (ov iv u : Value) (Q : Hp → Prop), Inv X pins σ H s → RelV o ov → RelV i iv → RelV v u → t o i v H Q →
    wpAny (model X.prog X.w) X.A (setItem ov iv u) (fun _ s' => ∃ H', Inv X pins σ H' s' ∧ Q H') X.xe s
/-- a op= b, by values -/
abbrev TIp := V → V → Hp → VK → Prop
def PIp (X : Cx) (op : Operator) (t : TIp) : Prop :=
  ∀ (pins : List (Addr × Obj)) (s : Shared) (σ : St) (H : Hp) (x y : V) (v u : Value) (Q : VK), Inv X pins σ H s → RelV x v → RelV y u → t x y H Q →
    wpAny (model X.prog X.w) X.A (inplaceOp op v u) (EP X pins σ Q) X.xe s
section
variable {X : Cx} {pos : Pos}
def gName (i : Nat) : TG := fun v σ H Q => Q (σ.set i (some v)) H
theorem pg_name {i : Nat} {x : Str} (hN : X.N.Nodup) (hi : X.N[i]? = some x) (hx : Loc X.env.scope x) (hf : X.fn x = true ∨ X.env.scope.names.lookup x = some .local := by first | exact .inl rfl | exact .inr rfl | assumption) : PG X (.Name x pos) (gName i) := by
  intro pins s σ H v u Q I r h
  exact wpAny_assign_Name (store_ok I hN hi hx r (fun s' I' => ⟨_, H, I', h⟩) hf)
def gNil : TGs := fun vs σ H Q => vs = [] ∧ Q σ H
def gCons (t : TG) (u : TGs) : TGs := fun vs σ H Q => ∃ v r, vs = v :: r ∧ t v σ H fun σ' H' => u r σ' H' Q
theorem pgs_nil : PGs X [] gNil := by
  intro pins s σ H vs us Q I r h
  obtain ⟨e, h⟩ := h
  subst e
  cases r
  exact assignInOrder_nil ⟨σ, H, I, h⟩
theorem pgs_cons {e : Expr} {es : List Expr} {t : TG} {u : TGs} (h1 : PG X e t) (h2 : PGs X es u)
    (hs : (assignEach (e :: es) X.env).map (·.2) = assign e X.env :: (assignEach es X.env).map (·.2) := by rfl) : PGs X (e :: es) (gCons t u) := by
  intro pins s σ H vs us Q I r h
  obtain ⟨v, vr, e1, h⟩ := h
  subst e1
  cases r with
  | cons r rr =>
    rw [hs]
    refine assignInOrder_cons (thn (h1 pins s σ H _ _ _ I r h) fun _ s1 ⟨σ1, H1, I1, q1⟩ => ?_)
    exact h2 pins s1 σ1 H1 _ _ Q I1 rr q1
/-- (a, b, ..) = a tuple of that length -/
def gTup (K : PySem.W.Frag) (n : Nat) (t : TGs) : TG := fun v σ H Q => ∃ a xs, v = .ref a ∧ SqT K H a xs ∧ xs.length = n ∧ t xs σ H Q
theorem pg_tup {es : List Expr} {k : Nat} {t : TGs} {n : Nat} (hc : X.calm = true) (h : PGs X es t)
    (hn : (assignEach es X.env).length = n := by rfl) (hst : (assignEach es X.env).findIdx? (·.1) = none := by rfl) : PG X (.Tuple es k pos) (gTup X.K n t) := by
  intro pins s σ H v u Q I r hw
  obtain ⟨a, xs, e1, hq, hl, hw⟩ := hw
  subst e1
  cases r
  obtain ⟨its, rv, ht, hz⟩ := I.tuple hq
  refine assign_Tuple_tuple (I.ok.hd hc) ht (by simp [hn, ← hl, rv.length]) hst fun h' hx => ?_
  have I1 : Inv X pins σ H { s with heap := h' } := I.kept (t' := s.toks) fun b o e => hx b o (Nat.ne_of_lt (Heap.lt_size e)) e
  exact h pins _ σ H xs _ Q I1 (by simpa using rv) hw
/-- o[i] = .. -/
def gSub (to ti : TE) (t : TSet) : TG := fun v σ H Q => to σ H fun o H1 => ti σ H1 fun i H2 => t o i v H2 fun H3 => Q σ H3
theorem pg_sub {o i : Expr} {to ti : TE} {t : TSet} (ho : PE X o to) (hi : PE X i ti) (hs : PSet X t)
    (ha : ∀ v, assign (.Subscript o i pos) X.env v = (do
      let ov ← holding [v] (eval o X.env)
      let iv ← holding [v, ov] (eval i X.env)
      standAt pos
      holding [v, ov, iv] (setItem ov iv v)
      release [v, ov, iv] []) := by intro _; rfl) : PG X (.Subscript o i pos) (gSub to ti t) := by
  intro pins s σ H v u Q I r h
  rw [ha]
  refine wpAny_bind (wpAny_holding (thn (ho pins s σ H _ I h) fun ov s1 ⟨x, H1, I1, r1, q1⟩ => ?_))
  refine wpAny_bind (wpAny_holding (thn (hi pins s1 σ H1 _ I1 q1) fun iv s2 ⟨y, H2, I2, r2, q2⟩ => ?_))
  refine wpAny_bind (wpAny_standAt (wpAny_bind (wpAny_holding (thn (hs pins s2 σ H2 x y v ov iv u _ I2 r1 r2 r q2) fun _ s3 ⟨H3, I3, q3⟩ => ?_))))
  exact wpAny_release ⟨σ, H3, I3, q3⟩
/-- target = value -/
def tAsg (te : TE) (g : TG) : TS := fun D σ H => te σ H fun x H1 => g x σ H1 D.nx
theorem ps_asg {tg e : Expr} {te : TE} {g : TG} (he : PE X e te) (hg : PG X tg g) (hs : swapsWithSole [tg] e pos.line X.env = pure false := by rfl) (hw : swappedStores [tg] e X.env = pure none := by rfl)
    (h1 : (assignEach [tg] X.env).map (·.2) = [assign tg X.env] := by rfl) : PS X (.Assign [tg] e pos) (tAsg te g) := by
  intro pins s σ H D I h
  refine wpAny_Assign_stores (thn (he pins s σ H _ I h) fun v s1 ⟨x, H1, I1, r1, q1⟩ => ?_) hs hw
  rw [h1]
  exact thn (hg pins s1 σ H1 x v _ I1 r1 q1) fun _ s2 q => q
/-- name = value -/
theorem ps_set {i : Nat} {x : Str} {e : Expr} {te : TE} {pos' : Pos} (hN : X.N.Nodup) (hi : X.N[i]? = some x) (hx : Loc X.env.scope x) (he : PE X e te) (hs : swapsWith e (some (.Name x pos')) pos.line X.env = pure false := by rfl) (hf : X.fn x = true ∨ X.env.scope.names.lookup x = some .local := by first | exact .inl rfl | exact .inr rfl | assumption) :
    PS X (.Assign [.Name x pos'] e pos) (tAsg te (gName i)) := by
  intro pins s σ H D I h
  refine wpAny_Assign_Name (thn (he pins s σ H _ I h) fun v s1 ⟨y, H1, I1, r1, q1⟩ => ?_) hs
  exact store_ok I1 hN hi hx r1 (fun s2 I2 => ⟨_, H1, I2, q1⟩) hf
/-- a, b = x, y with plain local names: stored from the right; the pair itself is not tracked (the opening rows as in PyProof/Rows/TupAssign.lean:23) -/
def tPar (i j : Nat) (ta : TA) : TS := fun D σ H => ta σ H fun vs H1 => ∃ v w, vs = [v, w] ∧ D.nx ((σ.set i (some v)).set j (some w)) H1
theorem ps_par {i j : Nat} {x y : Str} {a b : Expr} {ta : TA} {px py pt : Pos} {kt k2 pt2} (hc : X.calm = true) (hN : X.N.Nodup) (hi : X.N[i]? = some x) (hj : X.N[j]? = some y) (hij : i ≠ j)
    (hx : X.env.scope.names.lookup x = some .local) (hy : X.env.scope.names.lookup y = some .local) (ha : PA X [a, b] ta)
    (hw : swappedStores [.Tuple [.Name x px, .Name y py] kt pt] (.Tuple [a, b] k2 pt2) X.env = pure (some [x, y]))
    (hs : swapsWithSole [.Tuple [.Name x px, .Name y py] kt pt] (.Tuple [a, b] k2 pt2) pos.line X.env = pure false := by rfl) :
    PS X (.Assign [.Tuple [.Name x px, .Name y py] kt pt] (.Tuple [a, b] k2 pt2) pos) (tPar i j ta) := by
  intro pins s σ H D I h
  rw [exec_Assign_arm]
  refine wpAny_bind (wpAny_standAt ?_)
  rw [hs]
  refine wpAny_bind (wpAny_pure ?_)
  rw [if_neg (by decide)]
  refine wpAny_bind (Tuple_ (thn (ha _ pins s σ H _ I h) fun us s1 ⟨vs, H1, I1, r1, q1⟩ => ?_))
  obtain ⟨v, w, e1, q1⟩ := q1
  subst e1
  obtain ⟨u1, u2, rfl, rv, rw'⟩ : ∃ u1 u2, us = [u1, u2] ∧ RelV v u1 ∧ RelV w u2 := by
    cases r1 with
    | cons p q =>
      cases q with
      | cons p' q' =>
        cases q'
        exact ⟨_, _, rfl, p, p'⟩
  refine wpAny_newObj_type ?_ (by show 2 ≤ sizeLine; decide)
  have I2 : Inv X pins σ H1 { s1 with heap := s1.heap.push { cls := .type "tuple", data := .seq [u1, u2].toArray } } := I1.kept (t' := s1.toks) fun b o e => Heap.get?_push_of_some _ e
  rw [hw]
  refine wpAny_bind (wpAny_pure ?_)
  show wpAny (model X.prog X.w) X.A (do rule "assign.swapped-stores"; let items ← unpackItems (.ref s1.heap.objs.size) 2 none; assignInOrder [fun v => bindName X.env y v, fun v => bindName X.env x v] items.reverse; pure Flow.next) _ _ _
  refine wpAny_bind (wpAny_rule (wpAny_bind (unpackItems_tuple (items := #[u1, u2]) (I.ok.hd hc) (IsTup.new s1.heap _) fun h' hx' => ?_)))
  have I3 := I2.kept (h' := h') (t' := s1.toks) fun b o e => hx' b o (Nat.ne_of_lt (Heap.lt_size e)) e
  show wpAny _ _ (assignInOrder [fun v => bindName X.env y v, fun v => bindName X.env x v] [u2, u1] >>= fun _ => pure Flow.next) _ _ _
  refine wpAny_bind (assignInOrder_cons (wpAny_bindName (store_ok I3 hN hj (.inl hy) rw' (fun s2 I4 => ?_) (.inr hy))))
  refine assignInOrder_cons (wpAny_bindName (store_ok I4 hN hi (.inl hx) rv (fun s3 I5 => assignInOrder_nil (wpAny_pure ?_)) (.inr hx)))
  rw [List.set_comm _ _ (Ne.symm hij)] at I5
  exact ⟨_, H1, I5, q1⟩
/-- name op= e -/
def tAug (i : Nat) (te : TE) (ti : TIp) : TS := fun D σ H => ∃ x, σ[i]? = some (some x) ∧ te σ H fun y H1 => ti x y H1 fun z H2 => D.nx (σ.set i (some z)) H2
theorem ps_aug {i : Nat} {x : Str} {e : Expr} {te : TE} {op : Operator} {ti : TIp} {pos' : Pos} (hN : X.N.Nodup) (hi : X.N[i]? = some x) (hx : Loc X.env.scope x) (he : PE X e te) (ho : PIp X op ti) (hf : X.fn x = true ∨ X.env.scope.names.lookup x = some .local := by first | exact .inl rfl | exact .inr rfl | assumption) :
    PS X (.AugAssign (.Name x pos') op e pos) (tAug i te ti) := by
  intro pins s σ H D I h
  obtain ⟨v, e1, h⟩ := h
  obtain ⟨m, hn, hl⟩ := I.loc
  have vis : Vis X.env.scope x := by rcases hx with k | k; exact .inl k; exact .inr (.inl k)
  obtain ⟨u, r, l⟩ := hl i x v hi e1 vis
  refine wpAny_AugAssign_Name ?_
  have go : wpAny (model X.prog X.w) X.A (eval e X.env) (fun w s₂ => wpAny (model X.prog X.w) X.A (inplaceOp op u w) (fun r s₃ => wpAny (model X.prog X.w) X.A (storeName X.env x r) (fun _ => SP X pins D .next) X.xe s₃) X.xe s₂) X.xe s := by
    refine thn (he pins s σ H _ I h) fun w s1 ⟨y, H1, I1, r1, q1⟩ => ?_
    refine thn (ho pins s1 σ H1 v y u w _ I1 r r1 q1) fun z s2 ⟨zv, H2, I2, r2, q2⟩ => ?_
    exact store_ok I2 hN hi hx r2 (fun s3 I3 => ⟨_, H2, I3, q2⟩) hf
  rcases l with ⟨hk, hm⟩ | ⟨hk, c, hc, hcell⟩
  · exact wpAny_loadName_local I.ok.kind hk hn hm go
  · rcases hk with hk | hk
    · exact wpAny_loadName_cell I.ok.kind hk hc hcell go
    · rcases hx with k | k
      · have : X.env.scope.names.lookup x = some .free := hk
        rw [k] at this; cases this
      · have : X.env.scope.names.lookup x = some .free := hk
        rw [k] at this; cases this
/-- o[i] op= e -/
def tAugS (to ti te : TE) (tget : V → V → Hp → VK → Prop) (tip : TIp) (tset : TSet) : TS := fun D σ H => to σ H fun o H1 => ti σ H1 fun i H2 => tget o i H2 fun x H3 => te σ H3 fun y H4 => tip x y H4 fun z H5 => tset o i z H5 fun H6 => D.nx σ H6
/-- o[i], by values -/
def PGet (X : Cx) (t : V → V → Hp → VK → Prop) : Prop :=
  ∀ (pins : List (Addr × Obj)) (s : Shared) (σ : St) (H : Hp) (o i : V) (ov iv : Value) (Q : VK), Inv X pins σ H s → RelV o ov → RelV i iv → t o i H Q →
    wpAny (model X.prog X.w) X.A (getItem ov iv) (EP X pins σ Q) X.xe s
theorem ps_augS {o i e : Expr} {to ti te : TE} {tget : V → V → Hp → VK → Prop} {tip : TIp} {tset : TSet} {op : Operator} {tpos : Pos} (ho : PE X o to) (hi : PE X i ti) (hg : PGet X tget) (he : PE X e te) (hp : PIp X op tip) (hs : PSet X tset)
    (ha : ∀ ov iv new, augStore i ov iv new = (do holding [new, ov, iv] (setItem ov iv new); release [new, ov, iv] []; pure .next) := by intros; rfl) : PS X (.AugAssign (.Subscript o i tpos) op e pos) (tAugS to ti te tget tip tset) := by
  intro pins s σ H D I h
  refine wpAny_AugAssign_SubscriptAny (thn (ho pins s σ H _ I h) fun ov s1 ⟨x1, H1, I1, r1, q1⟩ => ?_) ha
  refine thn (hi pins s1 σ H1 _ I1 q1) fun iv s2 ⟨x2, H2, I2, r2, q2⟩ => ?_
  refine thn (hg pins s2 σ H2 x1 x2 ov iv _ I2 r1 r2 q2) fun old s3 ⟨x3, H3, I3, r3, q3⟩ => ?_
  refine thn (he pins s3 σ H3 _ I3 q3) fun v s4 ⟨x4, H4, I4, r4, q4⟩ => ?_
  refine thn (hp pins s4 σ H4 x3 x4 old v _ I4 r3 r4 q4) fun new s5 ⟨x5, H5, I5, r5, q5⟩ => ?_
  exact thn (hs pins s5 σ H5 x1 x2 x5 ov iv new _ I5 r1 r2 r5 q5) fun _ s6 ⟨H6, I6, q6⟩ => ⟨σ, H6, I6, q6⟩
/-- ints -/
def ipI (f : Int → Int → Int) : TIp := fun x y H Q => ∃ i j, x = .int i ∧ y = .int j ∧ Q (.int (f i j)) H
theorem ip_add : PIp X .Add (ipI fun i j => i + j) := by
  intro pins s σ H x y v u Q I r1 r2 h
  obtain ⟨i, j, e1, e2, q⟩ := h
  subst e1; subst e2
  obtain ⟨t, rfl⟩ := r1
  obtain ⟨t', rfl⟩ := r2
  exact iadd_int ⟨.int _, H, I.tok _, ⟨_, rfl⟩, q⟩
theorem ip_sub : PIp X .Sub (ipI fun i j => i - j) := by
  intro pins s σ H x y v u Q I r1 r2 h
  obtain ⟨i, j, e1, e2, q⟩ := h
  subst e1; subst e2
  obtain ⟨t, rfl⟩ := r1
  obtain ⟨t', rfl⟩ := r2
  exact isub_int ⟨.int _, H, I.tok _, ⟨_, rfl⟩, q⟩
end

/-! ### while -/
section
variable {X : Cx} {pos : Pos}
/-- the invariant W with its measure -/
def tWhile (c : TT) (tb : TS) : TS := fun D σ H => ∃ W : Nat → St → Hp → Prop, (∃ m, W m σ H) ∧ ∀ m σ H, W m σ H →
  c σ H fun b H1 => if b = true then ∃ N : St → Hp → Prop, (∀ σ' H', N σ' H' → ∃ m', m' < m ∧ W m' σ' H') ∧ tb { D with nx := N, ct := N, bk := D.nx } σ H1 else D.nx σ H1
theorem ps_while {c : Expr} {body : List Stmt} {tc : TT} {tb : TS} (hp : PassesOwn (model X.prog X.w) X.A X.env X.xe) (hc : PT X c tc) (hb : PSs X body tb) : PS X (.While c body [] pos) (tWhile tc tb) := by
  intro pins s σ H D I h
  obtain ⟨W, ⟨m0, w0⟩, turn⟩ := h
  refine wpAny_While (codeAny_whileLoop (fun n s' => ∃ σ' H', Inv X pins σ' H' s' ∧ W n σ' H') ?_ m0 ⟨σ, H, I, w0⟩)
  rintro n s1 ⟨σ1, H1, I1, w1⟩
  refine wpAny_passesOwn hp (thn (hc pins s1 σ1 H1 _ I1 (turn n σ1 H1 w1)) fun b s2 ⟨H2, I2, q2⟩ => ?_)
  cases b with
  | true =>
    obtain ⟨N, hN, q2⟩ := q2
    rw [if_pos rfl]
    refine wpAny_passesOwn hp (thn (hb pins s2 σ1 H2 _ I2 q2) fun f s3 q3 => ?_)
    cases f with
    | next =>
      obtain ⟨σ3, H3, I3, n3⟩ := q3
      obtain ⟨m', hm, w3⟩ := hN σ3 H3 n3
      exact ⟨m', hm, σ3, H3, I3, w3⟩
    | cont =>
      obtain ⟨σ3, H3, I3, n3⟩ := q3
      obtain ⟨m', hm, w3⟩ := hN σ3 H3 n3
      exact ⟨m', hm, σ3, H3, I3, w3⟩
    | brk => exact q3
    | ret v => exact q3
  | false =>
    rw [if_neg Bool.false_ne_true]
    exact wpAny_execs_nil ⟨σ1, H2, I2, q2⟩
end

/-! ### what a loop or a comprehension walks -/
/-- at turn i: it yields x (the heap may grow), or it stops -/
structure It where
  go : Nat → Hp → Prop
  yld : Nat → Hp → V → Hp → Prop
  stop : Nat → Hp → Prop
/-- the iterator's own objects may turn: they are not the frame's, not pinned, younger than the entry (or a comprehension's own) -/
def FpOk (X : Cx) (pins : List (Addr × Obj)) (H : Hp) (b : Addr) : Prop :=
  H b = none ∧ b ≠ X.env.locals ∧ b ∉ X.fs ∧ (b ∈ X.ex ∨ X.s₀.heap.objs.size ≤ b) ∧ (∀ x c, X.env.cells.lookup x = some c → c ≠ b) ∧ ∀ p ∈ X.pn ++ pins, p.1 ≠ b
theorem Inv.fpOk {X : Cx} {pins : List (Addr × Obj)} {σ : St} {H H' : Hp} {s : Shared} {b : Addr} (I : Inv X pins σ H s) (hb : s.heap.objs.size ≤ b) (hn : H' b = none) : FpOk X pins H' b := by
  refine ⟨hn, Nat.ne_of_gt (Nat.lt_of_lt_of_le I.lt hb), I.nofs hb, .inr (Nat.le_trans I.sz hb), fun x c e z => ?_, fun p hp z => ?_⟩
  · obtain ⟨v, q⟩ := I.cell x c e
    exact absurd (Nat.lt_of_lt_of_le q.lt (by rw [z]; exact hb)) (Nat.lt_irrefl _)
  · exact absurd (Nat.lt_of_lt_of_le (Heap.lt_size (I.pin p hp).1) (by rw [z]; exact hb)) (Nat.lt_irrefl _)
structure Turn (P : Program) (w : World) (K : PySem.W.Frag) (tg : Expr) (J : It) (fp : List Addr) (it : Addr) (tn : Nat → Heap → Prop) : Prop where
  mem : it ∈ fp
  obj : ∀ i h, tn i h → ∀ b ∈ fp, ∃ o, h.get? b = some o ∧ ∀ v, o.data ≠ .cell v
  keep : ∀ i h h', tn i h → (∀ b ∈ fp, ∀ o, h.get? b = some o → h'.get? b = some o) → tn i h'
  item : ∀ (X : Cx), X.prog = P → X.w = w → X.K = K → X.calm = true → ∀ (i : Nat) (pins : List (Addr × Obj)) (s : Shared) (σ : St) (H : Hp) (E : Value → Shared → Prop), Inv X pins σ H s → (∀ b ∈ fp, FpOk X pins H b) → tn i s.heap → J.go i H →
    wpAny (model P w) X.A (pyNext (.ref it)) (fun r s1 => ∃ u, r = some u ∧
      wpAny (model P w) X.A (letOwnedTupleGo tg (.ref it) u) (fun _ s2 => ∃ x H', Inv X pins σ H' s2 ∧ RelV x u ∧ J.yld i H x H' ∧ tn (i + 1) s2.heap ∧ ∀ b ∈ fp, H' b = none) E s1) E s
  done : ∀ (X : Cx), X.prog = P → X.w = w → X.K = K → X.calm = true → ∀ (i : Nat) (pins : List (Addr × Obj)) (s : Shared) (σ : St) (H : Hp) (E : Value → Shared → Prop), Inv X pins σ H s → (∀ b ∈ fp, FpOk X pins H b) → tn i s.heap → J.stop i H →
    wpAny (model P w) X.A (pyNext (.ref it)) (fun r s1 => r = none ∧ Inv X pins σ H s1) E s
  self : ∀ (A : Around) (i : Nat) (s : Shared) (Q : Value → Shared → Prop) (E : Value → Shared → Prop), tn i s.heap → Q (.ref it) s → wpAny (model P w) A (pyIter (.ref it)) Q E s
abbrev TI := St → Hp → (It → Hp → Prop) → Prop
/-- an iterator has come -/
def PIE (X : Cx) (pins : List (Addr × Obj)) (σ : St) (tg : Expr) (R : It → Hp → Prop) (itv : Value) (s2 : Shared) : Prop :=
  ∃ (it : Addr) (fp : List Addr) (tn : Nat → Heap → Prop) (J : It) (H' : Hp), itv = .ref it ∧ Inv X pins σ H' s2 ∧ Turn X.prog X.w X.K tg J fp it tn ∧ tn 0 s2.heap ∧ (∀ b ∈ fp, FpOk X pins H' b) ∧ R J H'
def PI (X : Cx) (tg iter : Expr) (wi : TI) : Prop :=
  ∀ (pins : List (Addr × Obj)) (s : Shared) (σ : St) (H : Hp) (R : It → Hp → Prop), Inv X pins σ H s → wi σ H R →
    wpAny (model X.prog X.w) X.A (eval iter X.env) (fun v s1 => wpAny (model X.prog X.w) X.A (pyIter v) (PIE X pins σ tg R) X.xe s1) X.xe s

/-- the step ahead of the store is nothing for an iterator that keeps no tuple -/
theorem go_of {M : Model} {A : Around} {E : Value → Shared → Prop} {s : Shared} {tg : Expr} {it : Addr} {u : Value} {o : Obj} {n : String} {vs : Array Value} {Q : Unit → Shared → Prop} (ho : s.heap.get? it = some o) (hc : o.cls = .type n) (hd : o.data = .fields vs)
    (hn : ["enumerate", "zip", "dict_itemiterator", "dict_reverseitemiterator", "odict_iterator", "itertools.zip_longest", "itertools.pairwise"].contains n = false) (hQ : Q () s) : wpAny M A (letOwnedTupleGo tg (.ref it) u) Q E s := by
  unfold letOwnedTupleGo
  cases tg <;> first
    | exact wpAny_pure hQ
    | (cases u <;> first
        | exact wpAny_pure hQ
        | (refine wpAny_bind (wpAny_load ho ?_)
           rw [hc, hd]
           show wpAny M A (if (["enumerate", "zip", "dict_itemiterator", "dict_reverseitemiterator", "odict_iterator", "itertools.zip_longest", "itertools.pairwise"].contains n && vs[0]? == some (rawInt _)) = true then _ else _) Q E s
           rw [if_neg (by intro h; rw [hn, Bool.false_and] at h; cases h)]
           exact wpAny_pure hQ))

/-- the list at a, as it stands at each turn (a loop may append to it) -/
def Itl (K : PySem.W.Frag) (a : Addr) : It :=
  ⟨fun i H => ∃ xs x, SqL K H a xs ∧ xs[i]? = some x, fun i H x H' => H' = H ∧ ∀ xs, SqL K H a xs → xs[i]? = some x, fun i H => ∃ xs, SqL K H a xs ∧ xs.length ≤ i⟩
def Itt (K : PySem.W.Frag) (a : Addr) : It :=
  ⟨fun i H => ∃ xs x, SqT K H a xs ∧ xs[i]? = some x, fun i H x H' => H' = H ∧ ∀ xs, SqT K H a xs → xs[i]? = some x, fun i H => ∃ xs, SqT K H a xs ∧ xs.length ≤ i⟩
/-- lo, lo + 1, .. (n of them) -/
def Itr (lo : Int) (n : Nat) : It := ⟨fun i _ => i < n, fun i H x H' => H' = H ∧ x = .int (lo + i), fun i _ => n ≤ i⟩
theorem turn_list {P : Program} {w : World} {K : PySem.W.Frag} {tg : Expr} (a it : Addr) : Turn P w K tg (Itl K a) [it] it (fun i h => h.IsListIter it a i) where
  mem := by simp
  obj := fun i h st b hb => by
    have e : b = it := by simpa using hb
    subst e
    obtain ⟨o, e, c, d⟩ := st
    exact ⟨o, e, fun v z => by rw [d] at z; cases z⟩
  keep := fun i h h' st k => st.at fun o e => k it (by simp) o e
  item := by
    intro X hP hw hK hc i pins s σ H E I hf st hg
    subst hP hw hK
    obtain ⟨xs, x, hq, hx⟩ := hg
    obtain ⟨its, rv, p, hz⟩ := I.list hq
    obtain ⟨u, hu, ru⟩ := rv.get hx
    obtain ⟨f0, f1, f2, f3, f4, f5⟩ := hf it (by simp)
    refine wpAny_pyNext_list_item st p.isList (x := u) (by simpa using hu) fun h' st' sb => ?_
    have I1 : Inv X pins σ H { s with heap := h' } := I.turned (t' := s.toks) (fun b o hb e => (sb.2 b hb).trans e) f0 f1 f3 f4 f5
    obtain ⟨o, e, c, d⟩ := id st'
    exact ⟨u, rfl, go_of (s := { s with heap := h' }) e c d (by decide) ⟨x, H, I1, ru, ⟨rfl, fun ys hy => by rw [I.list_inj hy hq]; exact hx⟩, st', fun b hb => (hf b hb).1⟩⟩
  done := by
    intro X hP hw hK hc i pins s σ H E I hf st hg
    subst hP hw hK
    obtain ⟨xs, hq, hx⟩ := hg
    obtain ⟨its, rv, p, hz⟩ := I.list hq
    obtain ⟨f0, f1, f2, f3, f4, f5⟩ := hf it (by simp)
    have hl := rv.length
    exact wpAny_pyNext_list_end (I.ok.hd hc) st p.isList (by simp; omega) fun h' eb => ⟨rfl, I.turned (t' := s.toks) (fun b o hb e => eb b o hb e) f0 f1 f3 f4 f5⟩
  self := fun _ _ _ _ _ st h => wpAny_pyIter_listiter st h
theorem turn_tuple {P : Program} {w : World} {K : PySem.W.Frag} {tg : Expr} (a it : Addr) : Turn P w K tg (Itt K a) [it] it (fun i h => h.IsTupleIter it a i) where
  mem := by simp
  obj := fun i h st b hb => by
    have e : b = it := by simpa using hb
    subst e
    obtain ⟨o, e, c, d⟩ := st
    exact ⟨o, e, fun v z => by rw [d] at z; cases z⟩
  keep := fun i h h' st k => st.at fun o e => k it (by simp) o e
  item := by
    intro X hP hw hK hc i pins s σ H E I hf st hg
    subst hP hw hK
    obtain ⟨xs, x, hq, hx⟩ := hg
    obtain ⟨its, rv, p, hz⟩ := I.tuple hq
    obtain ⟨u, hu, ru⟩ := rv.get hx
    obtain ⟨f0, f1, f2, f3, f4, f5⟩ := hf it (by simp)
    refine wpAny_pyNext_tuple_item st (show s.heap.IsTuple a its.toArray from p) (x := u) (by simpa using hu) fun h' st' sb => ?_
    have I1 : Inv X pins σ H { s with heap := h' } := I.turned (t' := s.toks) (fun b o hb e => (sb.2 b hb).trans e) f0 f1 f3 f4 f5
    obtain ⟨o, e, c, d⟩ := id st'
    exact ⟨u, rfl, go_of (s := { s with heap := h' }) e c d (by decide) ⟨x, H, I1, ru, ⟨rfl, fun ys hy => by rw [I.tuple_inj hy hq]; exact hx⟩, st', fun b hb => (hf b hb).1⟩⟩
  done := by
    intro X hP hw hK hc i pins s σ H E I hf st hg
    subst hP hw hK
    obtain ⟨xs, hq, hx⟩ := hg
    obtain ⟨its, rv, p, hz⟩ := I.tuple hq
    obtain ⟨f0, f1, f2, f3, f4, f5⟩ := hf it (by simp)
    have hl := rv.length
    exact wpAny_pyNext_tuple_end (I.ok.hd hc) st (show s.heap.IsTuple a its.toArray from p) (by simp; omega) fun h' eb => ⟨rfl, I.turned (t' := s.toks) (fun b o hb e => eb b o hb e) f0 f1 f3 f4 f5⟩
  self := fun _ _ _ _ _ st h => wpAny_pyIter_tupleiter st h
theorem turn_range {P : Program} {w : World} {K : PySem.W.Frag} {tg : Expr} (it : Addr) (lo : Int) (n : Nat) : Turn P w K tg (Itr lo n) [it] it (fun i h => IsRangeIter h it (lo + (i : Nat) * 1) ((n : Int) - (i : Nat)) 1) where
  mem := by simp
  obj := fun i h st b hb => by
    have e : b = it := by simpa using hb
    subst e
    exact ⟨_, st, fun v z => by
      have z' : Data.fields _ = Data.cell v := z
      cases z'⟩
  keep := fun i h h' st k => k it (by simp) _ st
  item := by
    intro X hP hw hK hc i pins s σ H E I hf st hg
    subst hP hw hK
    obtain ⟨f0, f1, f2, f3, f4, f5⟩ := hf it (by simp)
    have W := Walks.range (prog := X.prog) (w := X.w) (I.ok.hd hc) it lo 1 n
    refine W.item i s _ _ hg st fun v h' tk hv st' kk => ?_
    obtain ⟨t, rfl⟩ := hv
    have I1 : Inv X pins σ H { s with heap := h', toks := tk } := I.turned (fun b o hb e => kk b o (by simpa using hb) e) f0 f1 f3 f4 f5
    refine ⟨_, rfl, go_of (s := { s with heap := h', toks := tk }) (n := "range_iterator") st' rfl rfl (by decide) ⟨.int (lo + i), H, I1, ⟨t, ?_⟩, ⟨rfl, rfl⟩, st', fun b hb => (hf b hb).1⟩⟩
    rw [Int.mul_one]
  done := by
    intro X hP hw hK hc i pins s σ H E I hf st hg
    subst hP hw hK
    obtain ⟨f0, f1, f2, f3, f4, f5⟩ := hf it (by simp)
    exact wpAny_pyNext_range_end (I.ok.hd hc) st (by have : n ≤ i := hg; omega) fun h' eb => ⟨rfl, I.turned (t' := s.toks) (fun b o hb e => eb b o hb e) f0 f1 f3 f4 f5⟩
  self := fun _ _ _ _ _ st h => wpAny_pyIter_rangeiter st h
end L2

namespace L2
open PySem PySem.Spec PyProof.Rows
section
variable {X : Cx} {tg : Expr}
def iList (K : PySem.W.Frag) (tl : TE) : TI := fun σ H R => tl σ H fun x H1 => ∃ a, x = .ref a ∧ (∃ xs, SqL K H1 a xs) ∧ R (Itl K a) H1
def iTup (K : PySem.W.Frag) (tl : TE) : TI := fun σ H R => tl σ H fun x H1 => ∃ a, x = .ref a ∧ (∃ xs, SqT K H1 a xs) ∧ R (Itt K a) H1
theorem pi_list {l : Expr} {tl : TE} (hl : PE X l tl) : PI X tg l (iList X.K tl) := by
  intro pins s σ H R I h
  refine thn (hl pins s σ H _ I h) fun v s1 ⟨x, H1, I1, r1, q1⟩ => ?_
  obtain ⟨a, e, ⟨xs, hq⟩, q⟩ := q1
  subst e
  cases r1
  obtain ⟨its, rv, p, hz⟩ := I1.list hq
  refine wpAny_pyIter_list p.isList ?_
  refine ⟨s1.heap.objs.size, [s1.heap.objs.size], _, _, H1, rfl, I1.kept (t' := s1.toks) fun b o e => Heap.get?_push_of_some _ e, turn_list a _, ⟨_, Heap.get?_push_size _ rfl, rfl, rfl⟩, fun b hb => ?_, q⟩
  have e : b = s1.heap.objs.size := by simpa using hb
  subst e
  exact I1.fpOk (Nat.le_refl _) (I1.hok.fresh (Nat.le_refl _))
theorem pi_tup {l : Expr} {tl : TE} (hl : PE X l tl) : PI X tg l (iTup X.K tl) := by
  intro pins s σ H R I h
  refine thn (hl pins s σ H _ I h) fun v s1 ⟨x, H1, I1, r1, q1⟩ => ?_
  obtain ⟨a, e, ⟨xs, hq⟩, q⟩ := q1
  subst e
  cases r1
  obtain ⟨its, rv, p, hz⟩ := I1.tuple hq
  refine wpAny_pyIter_tuple (show s1.heap.IsTuple a its.toArray from p) ?_
  refine ⟨s1.heap.objs.size, [s1.heap.objs.size], _, _, H1, rfl, I1.kept (t' := s1.toks) fun b o e => Heap.get?_push_of_some _ e, turn_tuple a _, ⟨_, Heap.get?_push_size _ rfl, rfl, rfl⟩, fun b hb => ?_, q⟩
  have e : b = s1.heap.objs.size := by simpa using hb
  subst e
  exact I1.fpOk (Nat.le_refl _) (I1.hok.fresh (Nat.le_refl _))
/-- a range object just made, walked -/
theorem range_it {pins : List (Addr × Obj)} {σ : St} {H : Hp} {s : Shared} {R : It → Hp → Prop} {E : Value → Shared → Prop} {lo hi : Int} {t u v : Tok} {tk : Nat} (I : Inv X pins σ H s) (h1 : -(2 ^ 62) ≤ lo) (h2 : lo < 2 ^ 62) (h3 : -(2 ^ 62) ≤ hi) (h4 : hi < 2 ^ 62)
    (q : R (Itr lo (hi - lo).toNat) H) : wpAny (model X.prog X.w) X.A (pyIter (.ref s.heap.objs.size)) (PIE X pins σ tg R) E { s with heap := s.heap.push { cls := .type "range", data := .fields #[.int lo t, .int hi u, .int 1 v] }, toks := tk } := by
  refine wpAny_pyIter_range (IsRange.new ..) (small_one h1 h2 h3 h4) ?_
  have I1 : Inv X pins σ H { s with heap := s.heap.push { cls := .type "range", data := .fields #[.int lo t, .int hi u, .int 1 v] }, toks := tk } := I.kept fun b o e => Heap.get?_push_of_some _ e
  refine ⟨(s.heap.push { cls := .type "range", data := .fields #[.int lo t, .int hi u, .int 1 v] }).objs.size, [(s.heap.push { cls := .type "range", data := .fields #[.int lo t, .int hi u, .int 1 v] }).objs.size], _, _, H, rfl,
    I1.kept (t' := tk) fun b o e => Heap.get?_push_of_some _ e, turn_range _ lo (hi - lo).toNat, ?_, fun b hb => ?_, q⟩
  · have e1 : lo + ((0 : Nat) : Int) * 1 = lo := by simp
    have e2 : (((hi - lo).toNat : Nat) : Int) - ((0 : Nat) : Int) = Builtin.Range.rangeSize lo hi 1 := by rw [rangeSize_one]; split <;> omega
    show IsRangeIter _ _ (lo + ((0 : Nat) : Int) * 1) ((((hi - lo).toNat : Nat) : Int) - ((0 : Nat) : Int)) 1
    rw [e1, e2]
    exact Heap.get?_push_size _ rfl
  · have e : b = (s.heap.push { cls := .type "range", data := .fields #[.int lo t, .int hi u, .int 1 v] }).objs.size := by simpa using hb
    subst e
    exact I1.fpOk (Nat.le_refl _) (I1.hok.fresh (Nat.le_refl _))
def iRng1 (ta : TA) : TI := fun σ H R => ta σ H fun vs H1 => ∃ j : Int, vs = [.int j] ∧ -(2 ^ 62) ≤ j ∧ j < 2 ^ 62 ∧ R (Itr 0 j.toNat) H1
def iRng2 (ta : TA) : TI := fun σ H R => ta σ H fun vs H1 => ∃ i j : Int, vs = [.int i, .int j] ∧ (-(2 ^ 62) ≤ i ∧ i < 2 ^ 62 ∧ -(2 ^ 62) ≤ j ∧ j < 2 ^ 62) ∧ R (Itr i (j - i).toNat) H1
theorem pi_range1 {a : Expr} {ta : TA} {p pos : Pos} (hg : Gl X "range") (hm : X.mg "range" = none) (ha : PA X [a] ta) (hs : starEach [a] X.env = [(false, eval a X.env)] := by rfl) : PI X tg (.Call (.Name "range" p) [a] [] pos) (iRng1 ta) := by
  intro pins s σ H R I h
  refine Call_ (ld_blt I hg hm boot_range (PyProof.Rows.callWith_type1 (thn (ha pos pins s σ H _ I h) fun us s1 ⟨vs, H1, I1, r1, q1⟩ => ?_) hs rfl))
  obtain ⟨j, e, q1, q2, q⟩ := q1
  subst e
  cases r1 with
  | cons r rr =>
    cases rr
    obtain ⟨t, rfl⟩ := r
    exact call_range_1 (range_it I1 (by omega) (by omega) q1 q2 (by simpa using q))
theorem pi_range2 {a b : Expr} {ta : TA} {p pos : Pos} (hg : Gl X "range") (hm : X.mg "range" = none) (ha : PA X [a, b] ta) (hs : starEach [a, b] X.env = [(false, eval a X.env), (false, eval b X.env)] := by rfl) (hs2 : starEach [b] X.env = [(false, eval b X.env)] := by rfl) :
    PI X tg (.Call (.Name "range" p) [a, b] [] pos) (iRng2 ta) := by
  intro pins s σ H R I h
  refine Call_ (ld_blt I hg hm boot_range (PyProof.Rows.callWith_type1 (thn (ha pos pins s σ H _ I h) fun us s1 ⟨vs, H1, I1, r1, q1⟩ => ?_) (by rw [hs, hs2]) (by rw [hs2]; rfl)))
  obtain ⟨i, j, e, ⟨q1, q2, q3, q4⟩, q⟩ := q1
  subst e
  cases r1 with
  | cons r rr =>
    cases rr with
    | cons r' rr =>
      cases rr
      obtain ⟨t, rfl⟩ := r
      obtain ⟨t', rfl⟩ := r'
      exact call_range_2 (range_it I1 q1 q2 q3 q4 q)

/-! ### for -/
/-- W: the invariant by the turn and a measure; N: what the body is to reach -/
def tFor (wi : TI) (g : TG) (tb : TS) : TS := fun D σ H => wi σ H fun J H1 => ∃ W : Nat → Nat → St → Hp → Prop, (∃ m, W 0 m σ H1) ∧ ∀ i m σ H, W i m σ H →
  (J.stop i H ∧ D.nx σ H) ∨ (J.go i H ∧ ∃ N : St → Hp → Prop, (∀ σ' H', N σ' H' → ∃ m', m' < m ∧ W (i + 1) m' σ' H') ∧ ∀ x H', J.yld i H x H' → g x σ H' fun σ2 H2 => tb { D with nx := N, ct := N, bk := D.nx } σ2 H2)
/-- the records at fp as they stand -/
def pinsAt (fp : List Addr) (h : Heap) : List (Addr × Obj) := fp.filterMap fun b => (h.get? b).map fun o => (b, o)
theorem mem_pinsAt {fp : List Addr} {h : Heap} {b : Addr} {o : Obj} (hb : b ∈ fp) (e : h.get? b = some o) : (b, o) ∈ pinsAt fp h := List.mem_filterMap.mpr ⟨b, hb, by rw [e]; rfl⟩
theorem of_pinsAt {fp : List Addr} {h : Heap} {p : Addr × Obj} (hp : p ∈ pinsAt fp h) : p.1 ∈ fp ∧ h.get? p.1 = some p.2 := by
  obtain ⟨b, hb, e⟩ := List.mem_filterMap.mp hp
  cases q : h.get? b with
  | none => rw [q] at e; cases e
  | some o =>
    rw [q] at e
    have e' : (b, o) = p := Option.some.inj e
    subst e'
    exact ⟨hb, q⟩
theorem Inv.pinned {pins : List (Addr × Obj)} {σ : St} {H : Hp} {s : Shared} {fp : List Addr} (I : Inv X pins σ H s) (hf : ∀ b ∈ fp, FpOk X pins H b) (ho : ∀ b ∈ fp, ∃ o, s.heap.get? b = some o ∧ ∀ v, o.data ≠ .cell v) : Inv X (pins ++ pinsAt fp s.heap) σ H s :=
  I.pins_of fun p hp => (List.mem_append.mp hp).elim (fun z => I.pin p (List.mem_append_right _ z)) fun z => by
    obtain ⟨hb, e⟩ := of_pinsAt z
    obtain ⟨f0, f1, f2, _⟩ := hf p.1 hb
    obtain ⟨o, e', d⟩ := ho p.1 hb
    rw [e] at e'; cases e'
    exact ⟨e, f0, f1, f2, d⟩
theorem Inv.unpinned {pins pl : List (Addr × Obj)} {σ : St} {H : Hp} {s : Shared} (I : Inv X (pins ++ pl) σ H s) : Inv X pins σ H s := I.pins_of fun p hp => I.pin p (List.mem_append_right _ (List.mem_append_left _ hp))
theorem ps_for {iter : Expr} {body : List Stmt} {wi : TI} {g : TG} {tb : TS} {pos : Pos} (hp : PassesOwn (model X.prog X.w) X.A X.env X.xe) (hc : X.calm = true) (hi : PI X tg iter wi) (hg : PG X tg g) (hb : PSs X body tb)
    (hs : ∀ x, foldedSetIterable iter X.env x = pure x := by intro _; rfl) : PS X (.For tg iter body [] pos) (tFor wi g tb) := by
  intro pins s σ H D I h
  refine wpAny_For (thn (hi pins s σ H _ I h) fun v s1 h1 => thn h1 fun itv s2 h2 => ?_) hs
  obtain ⟨it, fp, tn, J, H2, e, I2, T, st2, f2, W, ⟨m0, w0⟩, turn⟩ := h2
  subst e
  -- what stays true of the iterator's objects through the loop
  have stat : ∀ {H' : Hp}, (∀ b ∈ fp, H' b = none) → ∀ b ∈ fp, FpOk X pins H' b := fun hn b hb => ⟨hn b hb, (f2 b hb).2⟩
  refine codeAny_forLoop_any (fun n s' => ∃ i σ' H', Inv X pins σ' H' s' ∧ tn i s'.heap ∧ (∀ b ∈ fp, H' b = none) ∧ W i n σ' H') ?_ m0 ⟨0, σ, H2, I2, st2, fun b hb => (f2 b hb).1, w0⟩
  rintro n s3 ⟨i, σ3, H3, I3, st3, fr3, w3⟩
  rcases turn i n σ3 H3 w3 with ⟨stop, qn⟩ | ⟨go, N, hN, step⟩
  · refine wpAny_passesOwn hp (thn (T.done X rfl rfl rfl hc i pins s3 σ3 H3 X.xe I3 (stat fr3) st3 stop) fun r s4 ⟨hr, I4⟩ => ?_)
    subst hr
    exact wpAny_execs_nil ⟨σ3, H3, I4, qn⟩
  · refine wpAny_passesOwn hp (thn (T.item X rfl rfl rfl hc i pins s3 σ3 H3 X.xe I3 (stat fr3) st3 go) fun r s4 ⟨u, hr, h4⟩ => ?_)
    subst hr
    refine wpAny_passesOwn hp (thn h4 fun _ s5 ⟨x, H5, I5, r5, y5, st5, fr5⟩ => ?_)
    have I5' := I5.pinned (stat fr5) (T.obj _ _ st5)
    refine wpAny_passesOwn hp (thn (hg _ s5 σ3 H5 x u _ I5' r5 (step x H5 y5)) fun _ s6 ⟨σ6, H6, I6, q6⟩ => ?_)
    refine wpAny_passesOwn hp (thn (hb _ s6 σ6 H6 _ I6 q6) fun f s7 q7 => ?_)
    have again : ∀ {σ7 : St} {H7 : Hp}, Inv X (pins ++ pinsAt fp s5.heap) σ7 H7 s7 → N σ7 H7 → ∃ m, m < n ∧ ∃ i σ' H', Inv X pins σ' H' s7 ∧ tn i s7.heap ∧ (∀ b ∈ fp, H' b = none) ∧ W i m σ' H' := fun {σ7 H7} I7 n7 => by
      obtain ⟨m', hm, w7⟩ := hN σ7 H7 n7
      refine ⟨m', hm, i + 1, σ7, H7, I7.unpinned, T.keep _ _ _ st5 fun b hb o e => (I7.pin (b, o) (List.mem_append_right _ (List.mem_append_right _ (mem_pinsAt hb e)))).1, fun b hb => ?_, w7⟩
      obtain ⟨o, e, d⟩ := T.obj _ _ st5 b hb
      exact (I7.pin (b, o) (List.mem_append_right _ (List.mem_append_right _ (mem_pinsAt hb e)))).2.1
    cases f with
    | next => obtain ⟨σ7, H7, I7, n7⟩ := q7; exact again I7 n7
    | cont => obtain ⟨σ7, H7, I7, n7⟩ := q7; exact again I7 n7
    | brk => obtain ⟨σ7, H7, I7, q7⟩ := q7; exact ⟨σ7, H7, I7.unpinned, q7⟩
    | ret v => obtain ⟨x7, σ7, H7, I7, r7, q7⟩ := q7; exact ⟨x7, σ7, H7, I7.unpinned, r7, q7⟩
end

/-! ### the forms one uses -/
/-- over a list that the body leaves as it is -/
theorem for_list {K : PySem.W.Frag} {a : Addr} {xs : List V} {g : TG} {tb : TS} {D : Ends} {σ : St} {H : Hp} (Pv : Nat → St → Hp → Prop) (h0 : Pv 0 σ H) (hl : ∀ i σ H, i ≤ xs.length → Pv i σ H → SqL K H a xs)
    (hs : ∀ i x σ H, xs[i]? = some x → Pv i σ H → g x σ H fun σ2 H2 => tb { D with nx := Pv (i + 1), ct := Pv (i + 1), bk := D.nx } σ2 H2) (hd : ∀ σ H, Pv xs.length σ H → D.nx σ H) :
    ∃ W : Nat → Nat → St → Hp → Prop, (∃ m, W 0 m σ H) ∧ ∀ i m σ H, W i m σ H →
      ((Itl K a).stop i H ∧ D.nx σ H) ∨ ((Itl K a).go i H ∧ ∃ N : St → Hp → Prop, (∀ σ' H', N σ' H' → ∃ m', m' < m ∧ W (i + 1) m' σ' H') ∧ ∀ x H', (Itl K a).yld i H x H' → g x σ H' fun σ2 H2 => tb { D with nx := N, ct := N, bk := D.nx } σ2 H2) := by
  refine ⟨fun i m σ H => m = xs.length - i ∧ i ≤ xs.length ∧ Pv i σ H, ⟨xs.length, by simp, Nat.zero_le _, h0⟩, ?_⟩
  rintro i m σ H ⟨rfl, hi, p⟩
  have q := hl i σ H hi p
  by_cases hlt : i < xs.length
  · refine .inr ⟨⟨xs, xs[i], q, by simp [hlt]⟩, Pv (i + 1), fun σ' H' p' => ⟨xs.length - (i + 1), by omega, rfl, hlt, p'⟩, fun x H' y => ?_⟩
    obtain ⟨e, y⟩ := y
    subst e
    exact hs i x σ _ (y xs q) p
  · have e : i = xs.length := by omega
    subst e
    exact .inl ⟨⟨xs, q, Nat.le_refl _⟩, hd σ H p⟩
theorem for_tup {K : PySem.W.Frag} {a : Addr} {xs : List V} {g : TG} {tb : TS} {D : Ends} {σ : St} {H : Hp} (Pv : Nat → St → Hp → Prop) (h0 : Pv 0 σ H) (hl : ∀ i σ H, i ≤ xs.length → Pv i σ H → SqT K H a xs)
    (hs : ∀ i x σ H, xs[i]? = some x → Pv i σ H → g x σ H fun σ2 H2 => tb { D with nx := Pv (i + 1), ct := Pv (i + 1), bk := D.nx } σ2 H2) (hd : ∀ σ H, Pv xs.length σ H → D.nx σ H) :
    ∃ W : Nat → Nat → St → Hp → Prop, (∃ m, W 0 m σ H) ∧ ∀ i m σ H, W i m σ H →
      ((Itt K a).stop i H ∧ D.nx σ H) ∨ ((Itt K a).go i H ∧ ∃ N : St → Hp → Prop, (∀ σ' H', N σ' H' → ∃ m', m' < m ∧ W (i + 1) m' σ' H') ∧ ∀ x H', (Itt K a).yld i H x H' → g x σ H' fun σ2 H2 => tb { D with nx := N, ct := N, bk := D.nx } σ2 H2) := by
  refine ⟨fun i m σ H => m = xs.length - i ∧ i ≤ xs.length ∧ Pv i σ H, ⟨xs.length, by simp, Nat.zero_le _, h0⟩, ?_⟩
  rintro i m σ H ⟨rfl, hi, p⟩
  have q := hl i σ H hi p
  by_cases hlt : i < xs.length
  · refine .inr ⟨⟨xs, xs[i], q, by simp [hlt]⟩, Pv (i + 1), fun σ' H' p' => ⟨xs.length - (i + 1), by omega, rfl, hlt, p'⟩, fun x H' y => ?_⟩
    obtain ⟨e, y⟩ := y
    subst e
    exact hs i x σ _ (y xs q) p
  · have e : i = xs.length := by omega
    subst e
    exact .inl ⟨⟨xs, q, Nat.le_refl _⟩, hd σ H p⟩
theorem for_range {lo : Int} {n : Nat} {g : TG} {tb : TS} {D : Ends} {σ : St} {H : Hp} (Pv : Nat → St → Hp → Prop) (h0 : Pv 0 σ H)
    (hs : ∀ i σ H, i < n → Pv i σ H → g (.int (lo + i)) σ H fun σ2 H2 => tb { D with nx := Pv (i + 1), ct := Pv (i + 1), bk := D.nx } σ2 H2) (hd : ∀ σ H, Pv n σ H → D.nx σ H) :
    ∃ W : Nat → Nat → St → Hp → Prop, (∃ m, W 0 m σ H) ∧ ∀ i m σ H, W i m σ H →
      ((Itr lo n).stop i H ∧ D.nx σ H) ∨ ((Itr lo n).go i H ∧ ∃ N : St → Hp → Prop, (∀ σ' H', N σ' H' → ∃ m', m' < m ∧ W (i + 1) m' σ' H') ∧ ∀ x H', (Itr lo n).yld i H x H' → g x σ H' fun σ2 H2 => tb { D with nx := N, ct := N, bk := D.nx } σ2 H2) := by
  refine ⟨fun i m σ H => m = n - i ∧ i ≤ n ∧ Pv i σ H, ⟨n, by simp, Nat.zero_le _, h0⟩, ?_⟩
  rintro i m σ H ⟨rfl, hi, p⟩
  by_cases hlt : i < n
  · refine .inr ⟨hlt, Pv (i + 1), fun σ' H' p' => ⟨n - (i + 1), by omega, rfl, hlt, p'⟩, fun x H' y => ?_⟩
    obtain ⟨e, y⟩ := y
    subst e y
    exact hs i σ _ hlt p
  · have e : i = n := by omega
    subst e
    exact .inl ⟨Nat.le_refl _, hd σ H p⟩
/-- while, by a word and a measure of the state -/
theorem while_by {c : TT} {tb : TS} {D : Ends} {σ : St} {H : Hp} (Pv : St → Hp → Prop) (μ : St → Hp → Nat) (h0 : Pv σ H)
    (hs : ∀ σ H, Pv σ H → c σ H fun b H1 => if b = true then tb { D with nx := fun σ' H' => Pv σ' H' ∧ μ σ' H' < μ σ H, ct := fun σ' H' => Pv σ' H' ∧ μ σ' H' < μ σ H, bk := D.nx } σ H1 else D.nx σ H1)
    (mono : ∀ σ H Q Q', (∀ b H1, Q b H1 → Q' b H1) → c σ H Q → c σ H Q') : tWhile c tb D σ H := by
  refine ⟨fun m σ H => m = μ σ H ∧ Pv σ H, ⟨_, rfl, h0⟩, ?_⟩
  rintro m σ H ⟨rfl, p⟩
  refine mono σ H _ _ (fun b H1 q => ?_) (hs σ H p)
  cases b with
  | true => exact ⟨_, fun σ' H' ⟨p', l⟩ => ⟨_, l, rfl, p'⟩, q⟩
  | false => exact q
end L2

namespace L2
open PySem PySem.Spec PyProof.Rows

abbrev R2 := V → V → Hp → VK → Prop
/-- a two-place operation on values: f is binaryOp op, inplaceOp op or compareOp op -/
def OpR (X : Cx) (f : Value → Value → Sem Value) (r : R2) : Prop :=
  ∀ (pins : List (Addr × Obj)) (s : Shared) (σ : St) (H : Hp) (x y : V) (v u : Value) (Q : VK), Inv X pins σ H s → RelV x v → RelV y u → r x y H Q →
    wpAny (model X.prog X.w) X.A (f v u) (EP X pins σ Q) X.xe s
/-- a one-place operation -/
def UnR (X : Cx) (f : Value → Sem Value) (r : V → Hp → VK → Prop) : Prop :=
  ∀ (pins : List (Addr × Obj)) (s : Shared) (σ : St) (H : Hp) (x : V) (v : Value) (Q : VK), Inv X pins σ H s → RelV x v → r x H Q →
    wpAny (model X.prog X.w) X.A (f v) (EP X pins σ Q) X.xe s
/-- a call of a value that is known (a builtin, a type) with values -/
def CallR (X : Cx) (f : Value) (r : List V → Hp → VK → Prop) : Prop :=
  ∀ (pins : List (Addr × Obj)) (s : Shared) (σ : St) (H : Hp) (xs : List V) (us : List Value) (Q : VK), Inv X pins σ H s → Vals xs us → r xs H Q →
    wpAny (model X.prog X.w) X.A (call f us) (EP X pins σ Q) X.xe s
/-- a value's truth -/
def TruR (X : Cx) (r : V → Hp → (Bool → Hp → Prop) → Prop) : Prop :=
  ∀ (pins : List (Addr × Obj)) (s : Shared) (σ : St) (H : Hp) (x : V) (v : Value) (Q : Bool → Hp → Prop), Inv X pins σ H s → RelV x v → r x H Q →
    wpAny (model X.prog X.w) X.A (truthy v) (TP X pins σ Q) X.xe s

def tOp (r : R2) (ta tb : TE) : TE := fun σ H Q => ta σ H fun x H1 => tb σ H1 fun y H2 => r x y H2 Q
def tUn (r : V → Hp → VK → Prop) (ta : TE) : TE := fun σ H Q => ta σ H fun x H1 => r x H1 Q
/-- ints in, under C, and a value out -/
def rI (C : Int → Int → Prop) (g : Int → Int → V) : R2 := fun x y H Q => ∃ i j, x = .int i ∧ y = .int j ∧ C i j ∧ Q (g i j) H
def rI0 (g : Int → Int → V) : R2 := fun x y H Q => ∃ i j, x = .int i ∧ y = .int j ∧ Q (g i j) H
def rU (g : Int → V) : V → Hp → VK → Prop := fun x H Q => ∃ i, x = .int i ∧ Q (g i) H

section
variable {X : Cx} {a b c : Expr} {ta tb tc : TE} {pos : Pos}

theorem binT (ha : PE X a ta) (hb : PE X b tb) {pins : List (Addr × Obj)} {s : Shared} {σ : St} {H : Hp} {R : V → V → Hp → Prop} (I : Inv X pins σ H s)
    (h : ta σ H fun x H1 => tb σ H1 fun y H2 => R x y H2) {Q : Value → Shared → Prop} {f : Value → Value → Sem Value}
    (hf : ∀ v u s2 x y H2, Inv X pins σ H2 s2 → RelV x v → RelV y u → R x y H2 → wpAny (model X.prog X.w) X.A (f v u) Q X.xe s2) :
    wpAny (model X.prog X.w) X.A (eval a X.env) (fun v s₁ => wpAny (model X.prog X.w) X.A (eval b X.env) (fun u s₂ => wpAny (model X.prog X.w) X.A (f v u) Q X.xe s₂) X.xe s₁) X.xe s := by
  refine thn (ha pins s σ H _ I h) fun v s1 ⟨x, H1, I1, r1, q1⟩ => ?_
  refine thn (hb pins s1 σ H1 _ I1 q1) fun u s2 ⟨y, H2, I2, r2, q2⟩ => ?_
  exact hf v u s2 x y H2 I2 r1 r2 q2

theorem pe_op {op : Operator} {r : R2} (ho : OpR X (binaryOp op) r) (ha : PE X a ta) (hb : PE X b tb) : PE X (.BinOp a op b pos) (tOp r ta tb) := by
  intro pins s σ H Q I h
  exact wpAny_BinOp (binT ha hb I h fun v u s2 x y H2 I2 rx ry q => ho pins s2 σ H2 x y v u Q I2 rx ry q)
theorem pe_un {op : UnaryOp} {r : V → Hp → VK → Prop} (ho : UnR X (unaryOp op) r) (ha : PE X a ta) : PE X (.UnaryOp op a pos) (tUn r ta) := by
  intro pins s σ H Q I h
  exact UnaryOp_ (thn (ha pins s σ H _ I h) fun v s1 ⟨x, H1, I1, r1, q1⟩ => ho pins s1 σ H1 x v Q I1 r1 q1)
/-- a op= e at a name: the name's slot i -/
theorem augR {op : Operator} {r : R2} (ho : OpR X (inplaceOp op) r) {pins : List (Addr × Obj)} {s : Shared} {σ : St} {H : Hp} {x y : V} {v u : Value} {Q : VK} (I : Inv X pins σ H s)
    (rx : RelV x v) (ry : RelV y u) (q : r x y H Q) : wpAny (model X.prog X.w) X.A (inplaceOp op v u) (EP X pins σ Q) X.xe s := ho pins s σ H x y v u Q I rx ry q

/-! ### ints -/
theorem opI {f : Value → Value → Sem Value} {C : Int → Int → Prop} {g : Int → Int → Int}
    (rule : ∀ (i j : Int) (t u : Tok) (s : Shared) (Q : Value → Shared → Prop) (E : Value → Shared → Prop), C i j → Q (.int (g i j) s.toks) { s with toks := s.toks + 1 } → wpAny (model X.prog X.w) X.A (f (.int i t) (.int j u)) Q E s) :
    OpR X f (rI C fun i j => .int (g i j)) := by
  intro pins s σ H x y v u Q I rx ry h
  obtain ⟨i, j, rfl, rfl, hc, q⟩ := h
  obtain ⟨t, rfl⟩ := rx
  obtain ⟨t', rfl⟩ := ry
  exact rule i j t t' s _ _ hc ⟨.int (g i j), H, I.tok _, ⟨_, rfl⟩, q⟩
theorem opI0 {f : Value → Value → Sem Value} {g : Int → Int → Int}
    (rule : ∀ (i j : Int) (t u : Tok) (s : Shared) (Q : Value → Shared → Prop) (E : Value → Shared → Prop), Q (.int (g i j) s.toks) { s with toks := s.toks + 1 } → wpAny (model X.prog X.w) X.A (f (.int i t) (.int j u)) Q E s) :
    OpR X f (rI0 fun i j => .int (g i j)) := by
  intro pins s σ H x y v u Q I rx ry h
  obtain ⟨i, j, rfl, rfl, q⟩ := h
  obtain ⟨t, rfl⟩ := rx
  obtain ⟨t', rfl⟩ := ry
  exact rule i j t t' s _ _ ⟨.int (g i j), H, I.tok _, ⟨_, rfl⟩, q⟩
theorem opB0 {f : Value → Value → Sem Value} {g : Int → Int → Bool}
    (rule : ∀ (i j : Int) (t u : Tok) (s : Shared) (Q : Value → Shared → Prop) (E : Value → Shared → Prop), Q (.bool (g i j)) s → wpAny (model X.prog X.w) X.A (f (.int i t) (.int j u)) Q E s) :
    OpR X f (rI0 fun i j => .bl (g i j)) := by
  intro pins s σ H x y v u Q I rx ry h
  obtain ⟨i, j, rfl, rfl, q⟩ := h
  obtain ⟨t, rfl⟩ := rx
  obtain ⟨t', rfl⟩ := ry
  exact rule i j t t' s _ _ ⟨.bl (g i j), H, I, rfl, q⟩

def CDiv (i j : Int) : Prop := 0 < j ∧ j < 1073741824
def CDivN (i j : Int) : Prop := j ≠ 0 ∧ j.natAbs < 1073741824
def CPow (i j : Int) : Prop := 0 ≤ j ∧ j ≤ 1000000 ∧ i.natAbs < 2 ^ 64
def CMul (i j : Int) : Prop := (-(2 ^ 64) < i ∧ i < 2 ^ 64) ∨ (-(2 ^ 64) < j ∧ j < 2 ^ 64)
theorem CMul.ok {i j : Int} (h : CMul i j) : IntMulOk i j := by
  rcases h with ⟨h1, h2⟩ | ⟨h1, h2⟩
  · exact .of_left (intBits_le_64 h1 h2)
  · exact .of_right (intBits_le_64 h1 h2)
theorem two_pow_nn (k : Nat) : (0 : Int) ≤ 2 ^ k := by
  rw [two_pow_cast]
  exact Int.natCast_nonneg _

theorem op_add : OpR X (binaryOp .Add) (rI0 fun i j => .int (i + j)) := opI0 fun _ _ _ _ _ _ _ q => add_int q
theorem op_sub : OpR X (binaryOp .Sub) (rI0 fun i j => .int (i - j)) := opI0 fun _ _ _ _ _ _ _ q => sub_int q
theorem op_mul : OpR X (binaryOp .Mult) (rI CMul fun i j => .int (i * j)) := opI fun _ _ _ _ _ _ _ hc q => mul_int q hc.ok
/-- // by a positive divisor -/
theorem op_fdiv : OpR X (binaryOp .FloorDiv) (rI CDiv fun i j => .int (i / j)) := opI fun i j _ _ _ _ _ hc q => by
  have h1 : (0 : Int) < j := hc.1
  have h2 : j < 1073741824 := hc.2
  exact floordiv_int (by omega) (by rw [Int.fdiv_eq_ediv_of_nonneg i (by omega)]; exact q) (.inl (PyProof.noPylong_small (by omega)))
theorem op_fdivN : OpR X (binaryOp .FloorDiv) (rI CDivN fun i j => .int (i.fdiv j)) := opI fun _ _ _ _ _ _ _ hc q => floordiv_int hc.1 q (.inl (PyProof.noPylong_small hc.2))
/-- % by a positive divisor of any size -/
theorem op_mod : OpR X (binaryOp .Mod) (rI (fun _ j => 0 < j) fun i j => .int (i % j)) := opI fun i j _ _ _ _ _ hc q => by
  have h1 : (0 : Int) < j := hc
  exact mod_int' (by omega) (by rw [Int.fmod_eq_emod_of_nonneg i (by omega)]; exact q)
theorem op_modN : OpR X (binaryOp .Mod) (rI (fun _ j => j ≠ 0) fun i j => .int (i.fmod j)) := opI fun _ _ _ _ _ _ _ hc q => mod_int' hc q
theorem op_pow : OpR X (binaryOp .Pow) (rI CPow fun i j => .int (i ^ j.toNat)) := opI fun _ _ _ _ _ _ _ hc q => pow_int_small hc.1 hc.2.1 hc.2.2 q
theorem op_shl : OpR X (binaryOp .LShift) (rI CPow fun i j => .int (i * 2 ^ j.toNat)) := opI fun _ _ _ _ _ _ _ hc q => lshift_int_small hc.1 hc.2.1 hc.2.2 q
theorem op_shr : OpR X (binaryOp .RShift) (rI (fun _ j => 0 ≤ j) fun i j => .int (i / 2 ^ j.toNat)) := opI fun i j _ _ _ _ _ hc q =>
  rshift_int hc (by rw [Int.fdiv_eq_ediv_of_nonneg i (two_pow_nn _)]; exact q)
theorem op_and : OpR X (binaryOp .BitAnd) (rI0 fun i j => .int (Builtin.bitAnd i j)) := opI0 fun _ _ _ _ _ _ _ q => and_int q
theorem op_or : OpR X (binaryOp .BitOr) (rI0 fun i j => .int (Builtin.bitOr i j)) := opI0 fun _ _ _ _ _ _ _ q => or_int q
theorem op_xor : OpR X (binaryOp .BitXor) (rI0 fun i j => .int (Builtin.bitXor i j)) := opI0 fun _ _ _ _ _ _ _ q => xor_int q

theorem iop_add : OpR X (inplaceOp .Add) (rI0 fun i j => .int (i + j)) := opI0 fun _ _ _ _ _ _ _ q => iadd_int q
theorem iop_sub : OpR X (inplaceOp .Sub) (rI0 fun i j => .int (i - j)) := opI0 fun _ _ _ _ _ _ _ q => isub_int q
theorem iop_mul : OpR X (inplaceOp .Mult) (rI CMul fun i j => .int (i * j)) := opI fun _ _ _ _ _ _ _ hc q => imul_int q hc.ok
theorem iop_fdiv : OpR X (inplaceOp .FloorDiv) (rI CDiv fun i j => .int (i / j)) := opI fun i j _ _ _ _ _ hc q => by
  have h1 : (0 : Int) < j := hc.1
  have h2 : j < 1073741824 := hc.2
  exact ifloordiv_int (by omega) (by rw [Int.fdiv_eq_ediv_of_nonneg i (by omega)]; exact q) (.inl (PyProof.noPylong_small (by omega)))
theorem iop_mod : OpR X (inplaceOp .Mod) (rI (fun _ j => 0 < j) fun i j => .int (i % j)) := opI fun i j _ _ _ _ _ hc q => by
  have h1 : (0 : Int) < j := hc
  exact imod_int (by omega) (by rw [Int.fmod_eq_emod_of_nonneg i (by omega)]; exact q)
theorem iop_shl : OpR X (inplaceOp .LShift) (rI CPow fun i j => .int (i * 2 ^ j.toNat)) := opI fun _ _ _ _ _ _ _ hc q => ilshift_int_small hc.1 hc.2.1 hc.2.2 q
theorem iop_shr : OpR X (inplaceOp .RShift) (rI (fun _ j => 0 ≤ j) fun i j => .int (i / 2 ^ j.toNat)) := opI fun i j _ _ _ _ _ hc q =>
  irshift_int hc (by rw [Int.fdiv_eq_ediv_of_nonneg i (two_pow_nn _)]; exact q)
theorem iop_and : OpR X (inplaceOp .BitAnd) (rI0 fun i j => .int (Builtin.bitAnd i j)) := opI0 fun _ _ _ _ _ _ _ q => iand_int q
theorem iop_or : OpR X (inplaceOp .BitOr) (rI0 fun i j => .int (Builtin.bitOr i j)) := opI0 fun _ _ _ _ _ _ _ q => ior_int q
theorem iop_xor : OpR X (inplaceOp .BitXor) (rI0 fun i j => .int (Builtin.bitXor i j)) := opI0 fun _ _ _ _ _ _ _ q => ixor_int q

theorem unI {f : Value → Sem Value} {g : Int → Int}
    (rule : ∀ (i : Int) (t : Tok) (s : Shared) (Q : Value → Shared → Prop) (E : Value → Shared → Prop), Q (.int (g i) s.toks) { s with toks := s.toks + 1 } → wpAny (model X.prog X.w) X.A (f (.int i t)) Q E s) :
    UnR X f (rU fun i => .int (g i)) := by
  intro pins s σ H x v Q I rx h
  obtain ⟨i, rfl, q⟩ := h
  obtain ⟨t, rfl⟩ := rx
  exact rule i t s _ _ ⟨.int (g i), H, I.tok _, ⟨_, rfl⟩, q⟩
theorem un_neg : UnR X (unaryOp .USub) (rU fun i => .int (-i)) := unI fun _ _ _ _ _ q => neg_int q
theorem un_inv : UnR X (unaryOp .Invert) (rU fun i => .int (Builtin.bitNot i)) := unI fun _ _ _ _ _ q => invert_int q

/-! ### bools among ints: n += (a < b) -/
theorem op_add_ib : OpR X (binaryOp .Add) (fun x y H Q => ∃ i k, x = .int i ∧ y = .bl k ∧ Q (.int (i + b2i k)) H) := by
  intro pins s σ H x y v u Q I rx ry h
  obtain ⟨i, k, rfl, rfl, q⟩ := h
  obtain ⟨t, rfl⟩ := rx
  cases ry
  exact add_int_bool ⟨.int (i + b2i k), H, I.tok _, ⟨_, rfl⟩, q⟩
end

/-! ### comparisons -/
/-- the scalars that == tells apart as data does -/
def scal : V → V → Bool
  | .non, .non => true | .non, .int _ => true | .int _, .non => true | .non, .bl _ => true | .bl _, .non => true | .non, .str _ => true | .str _, .non => true
  | .int _, .int _ => true | .bl _, .bl _ => true | .str _, .str _ => true | .byt _, .byt _ => true
  | .int _, .str _ => true | .str _, .int _ => true | .bl _, .str _ => true | .str _, .bl _ => true
  | _, _ => false
def rEq : R2 := fun x y H Q => scal x y = true ∧ Q (.bl (decide (x = y))) H
def rNe : R2 := fun x y H Q => scal x y = true ∧ Q (.bl (!decide (x = y))) H

theorem dec_int {i j : Int} : decide (V.int i = V.int j) = (i == j) := by
  rw [Bool.eq_iff_iff]
  simp
theorem dec_bl {i j : Bool} : decide (V.bl i = V.bl j) = (i == j) := by
  rw [Bool.eq_iff_iff]
  simp
theorem dec_str {i j : Str} : decide (V.str i = V.str j) = (i == j) := by
  rw [Bool.eq_iff_iff]
  simp
theorem dec_byt {i j : Array UInt8} : decide (V.byt i = V.byt j) = (i.toList == j.toList) := by
  rw [Bool.eq_iff_iff]
  cases i
  cases j
  simp

section
variable {X : Cx} {a b c : Expr} {ta tb tc : TE} {pos : Pos}
theorem fin_bl {pins : List (Addr × Obj)} {σ : St} {H : Hp} {s : Shared} {Q : VK} {k k' : Bool} (I : Inv X pins σ H s) (q : Q (.bl k) H) (e : k = k') : EP X pins σ Q (.bool k') s := by
  subst e
  exact ⟨.bl k, H, I, rfl, q⟩
theorem op_eq : OpR X (compareOp .Eq) rEq := by
  intro pins s σ H x y v u Q I rx ry h
  obtain ⟨hs, q⟩ := h
  cases x with
  | non =>
    cases rx
    cases y with
    | non => cases ry; exact PySem.EqNone.eq_none_none (fin_bl I q (by simp))
    | bl j => cases ry; exact PySem.EqNone.eq_none_bool (fin_bl I q (by simp))
    | int j => obtain ⟨t', rfl⟩ := ry; exact PySem.EqNone.eq_none_int (fin_bl I q (by simp))
    | str j => obtain ⟨t', rfl⟩ := ry; exact PySem.EqNone.eq_none_str (fin_bl I q (by simp))
    | _ => exact absurd (show false = true from hs) Bool.false_ne_true
  | bl i =>
    cases rx
    cases y with
    | non => cases ry; exact PySem.EqNone.eq_bool_none (fin_bl I q (by simp))
    | bl j => cases ry; exact eq_bool (fin_bl I q dec_bl)
    | str j => obtain ⟨t', rfl⟩ := ry; exact PySem.EqMixed.eq_bool_str (fin_bl I q (by simp))
    | _ => exact absurd (show false = true from hs) Bool.false_ne_true
  | int i =>
    obtain ⟨t, rfl⟩ := rx
    cases y with
    | non => cases ry; exact PySem.EqNone.eq_int_none (fin_bl I q (by simp))
    | int j => obtain ⟨t', rfl⟩ := ry; exact eq_int (fin_bl I q dec_int)
    | str j => obtain ⟨t', rfl⟩ := ry; exact PySem.EqMixed.eq_int_str (fin_bl I q (by simp))
    | _ => exact absurd (show false = true from hs) Bool.false_ne_true
  | str i =>
    obtain ⟨t, rfl⟩ := rx
    cases y with
    | non => cases ry; exact PySem.EqNone.eq_str_none (fin_bl I q (by simp))
    | bl j => cases ry; exact PySem.EqMixed.eq_str_bool (fin_bl I q (by simp))
    | int j => obtain ⟨t', rfl⟩ := ry; exact PySem.EqMixed.eq_str_int (fin_bl I q (by simp))
    | str j => obtain ⟨t', rfl⟩ := ry; exact eq_str (fin_bl I q dec_str)
    | _ => exact absurd (show false = true from hs) Bool.false_ne_true
  | byt i =>
    obtain ⟨t, rfl⟩ := rx
    cases y with
    | byt j => obtain ⟨t', rfl⟩ := ry; exact PySem.W.eq_bytes (fin_bl I q dec_byt)
    | _ => exact absurd (show false = true from hs) Bool.false_ne_true
  | _ => cases y <;> exact absurd (show false = true from hs) Bool.false_ne_true
theorem op_ne : OpR X (compareOp .NotEq) rNe := by
  intro pins s σ H x y v u Q I rx ry h
  obtain ⟨hs, q⟩ := h
  cases x with
  | non =>
    cases rx
    cases y with
    | non => cases ry; exact PySem.EqNone.ne_none_none (fin_bl I q (by simp))
    | bl j => cases ry; exact PySem.EqNone.ne_none_bool (fin_bl I q (by simp))
    | int j => obtain ⟨t', rfl⟩ := ry; exact PySem.EqNone.ne_none_int (fin_bl I q (by simp))
    | str j => obtain ⟨t', rfl⟩ := ry; exact PySem.EqNone.ne_none_str (fin_bl I q (by simp))
    | _ => exact absurd (show false = true from hs) Bool.false_ne_true
  | bl i =>
    cases rx
    cases y with
    | non => cases ry; exact PySem.EqNone.ne_bool_none (fin_bl I q (by simp))
    | bl j => cases ry; exact ne_bool (fin_bl I q (congrArg not dec_bl))
    | str j => obtain ⟨t', rfl⟩ := ry; exact PySem.EqMixed.ne_bool_str (fin_bl I q (by simp))
    | _ => exact absurd (show false = true from hs) Bool.false_ne_true
  | int i =>
    obtain ⟨t, rfl⟩ := rx
    cases y with
    | non => cases ry; exact PySem.EqNone.ne_int_none (fin_bl I q (by simp))
    | int j => obtain ⟨t', rfl⟩ := ry; exact ne_int (fin_bl I q (congrArg not dec_int))
    | str j => obtain ⟨t', rfl⟩ := ry; exact PySem.EqMixed.ne_int_str (fin_bl I q (by simp))
    | _ => exact absurd (show false = true from hs) Bool.false_ne_true
  | str i =>
    obtain ⟨t, rfl⟩ := rx
    cases y with
    | non => cases ry; exact PySem.EqNone.ne_str_none (fin_bl I q (by simp))
    | bl j => cases ry; exact PySem.EqMixed.ne_str_bool (fin_bl I q (by simp))
    | int j => obtain ⟨t', rfl⟩ := ry; exact PySem.EqMixed.ne_str_int (fin_bl I q (by simp))
    | str j => obtain ⟨t', rfl⟩ := ry; exact ne_str (fin_bl I q (congrArg not dec_str))
    | _ => exact absurd (show false = true from hs) Bool.false_ne_true
  | byt i =>
    obtain ⟨t, rfl⟩ := rx
    cases y with
    | byt j => obtain ⟨t', rfl⟩ := ry; exact PySem.W.ne_bytes (fin_bl I q (congrArg not dec_byt))
    | _ => exact absurd (show false = true from hs) Bool.false_ne_true
  | _ => cases y <;> exact absurd (show false = true from hs) Bool.false_ne_true

theorem op_lt : OpR X (compareOp .Lt) (rI0 fun i j => .bl (decide (i < j))) := opB0 fun _ _ _ _ _ _ _ q => lt_int q
theorem op_le : OpR X (compareOp .LtE) (rI0 fun i j => .bl (decide (i ≤ j))) := opB0 fun _ _ _ _ _ _ _ q => le_int q
theorem op_gt : OpR X (compareOp .Gt) (rI0 fun i j => .bl (decide (j < i))) := opB0 fun _ _ _ _ _ _ _ q => gt_int q
theorem op_ge : OpR X (compareOp .GtE) (rI0 fun i j => .bl (decide (j ≤ i))) := opB0 fun _ _ _ _ _ _ _ q => ge_int q
theorem op_lt_str : OpR X (compareOp .Lt) (fun x y H Q => ∃ i j, x = .str i ∧ y = .str j ∧ Q (.bl (decide (i.cps.toList < j.cps.toList))) H) := by
  intro pins s σ H x y v u Q I rx ry h
  obtain ⟨i, j, rfl, rfl, q⟩ := h
  obtain ⟨t, rfl⟩ := rx
  obtain ⟨t', rfl⟩ := ry
  exact lt_str (fin_bl I q rfl)
/-- the one string within the other -/
theorem op_in_str : OpR X (compareOp .In) (fun x y H Q => ∃ i j, x = .str i ∧ y = .str j ∧ Q (.bl (!(Builtin.Str.occurrences j i 0 j.length 1).isEmpty)) H) := by
  intro pins s σ H x y v u Q I rx ry h
  obtain ⟨i, j, rfl, rfl, q⟩ := h
  obtain ⟨t, rfl⟩ := rx
  obtain ⟨t', rfl⟩ := ry
  exact in_str (fin_bl I q rfl)

/-- is None, is not None: the right side a value none -/
theorem op_isN : OpR X (compareOp .Is) (fun x y H Q => y = .non ∧ Q (.bl (decide (x = .non))) H) := by
  intro pins s σ H x y v u Q I rx ry h
  obtain ⟨rfl, q⟩ := h
  cases ry
  refine is_none_gen (fin_bl I q ?_)
  cases x <;> first
    | (cases rx; rfl)
    | (obtain ⟨t, rfl⟩ := rx; rfl)
theorem op_notN : OpR X (compareOp .IsNot) (fun x y H Q => y = .non ∧ Q (.bl (!decide (x = .non))) H) := by
  intro pins s σ H x y v u Q I rx ry h
  obtain ⟨rfl, q⟩ := h
  cases ry
  refine isnot_none_gen (fin_bl I q ?_)
  cases x <;> first
    | (cases rx; rfl)
    | (obtain ⟨t, rfl⟩ := rx; rfl)

theorem op_notin_str : OpR X (compareOp .NotIn) (fun x y H Q => ∃ i j, x = .str i ∧ y = .str j ∧ Q (.bl (!(!(Builtin.Str.occurrences j i 0 j.length 1).isEmpty))) H) := by
  intro pins s σ H x y v u Q I rx ry h
  obtain ⟨i, j, rfl, rfl, q⟩ := h
  obtain ⟨t, rfl⟩ := rx
  obtain ⟨t', rfl⟩ := ry
  exact notIn_str (fin_bl I q rfl)
/-- is, is not of two objects that are tracked lists or instances -/
def isObj : HO → Bool
  | .lst _ => true
  | .ins _ _ _ => true
  | _ => false
theorem obj_there {pins : List (Addr × Obj)} {s : Shared} {σ : St} {H : Hp} {a : Addr} {o : HO} (I : Inv X pins σ H s) (h : H a = some o) (p : isObj o = true) : ∃ ob, s.heap.get? a = some ob ∧ ob.cls ≠ .type "tuple" := by
  cases o with
  | lst xs =>
    obtain ⟨_, its, n, _, e⟩ : xs.length ≤ sizeLine ∧ ∃ (its : List Value) (n : Nat), Vals xs its ∧ s.heap.get? a = some { cls := .type "list", data := .seq its.toArray n } := I.hok a _ h
    exact ⟨_, e, (by show Value.type "list" ≠ .type "tuple"; decide +kernel)⟩
  | ins C dx fs =>
    have x := I.hok a _ h
    obtain ⟨_, _, _, e, _⟩ := x
    exact ⟨_, e, (by show Value.ref C ≠ .type "tuple"; exact fun z => by cases z)⟩
  | _ => exact absurd (show false = true from p) Bool.false_ne_true
theorem op_is_ref : OpR X (compareOp .Is) (fun x y H Q => ∃ a b oa ob, x = .ref a ∧ y = .ref b ∧ H a = some oa ∧ isObj oa = true ∧ H b = some ob ∧ isObj ob = true ∧ Q (.bl (decide (a = b))) H) := by
  intro pins s σ H x y v u Q I rx ry h
  obtain ⟨a, b, oa, ob, rfl, rfl, ha, pa, hb, pb, q⟩ := h
  cases rx
  cases ry
  obtain ⟨o1, e1, n1⟩ := obj_there I ha pa
  obtain ⟨o2, e2, _⟩ := obj_there I hb pb
  by_cases z : a = b
  · subst z
    exact wpAny_is_ref_self (fin_bl I q (by simp))
  · exact wpAny_is_ref_other z e1 e2 n1 (fin_bl I q (by simp [z]))
theorem op_isnot_ref : OpR X (compareOp .IsNot) (fun x y H Q => ∃ a b oa ob, x = .ref a ∧ y = .ref b ∧ H a = some oa ∧ isObj oa = true ∧ H b = some ob ∧ isObj ob = true ∧ Q (.bl (!decide (a = b))) H) := by
  intro pins s σ H x y v u Q I rx ry h
  obtain ⟨a, b, oa, ob, rfl, rfl, ha, pa, hb, pb, q⟩ := h
  cases rx
  cases ry
  obtain ⟨o1, e1, n1⟩ := obj_there I ha pa
  obtain ⟨o2, e2, _⟩ := obj_there I hb pb
  by_cases z : a = b
  · subst z
    exact wpAny_isNot_ref_self (fin_bl I q (by simp))
  · exact wpAny_isNot_ref_other z e1 e2 n1 (fin_bl I q (by simp [z]))

/-- two rules for one operation: by cases -/
theorem OpR.or {f : Value → Value → Sem Value} {r r' : R2} (h : OpR X f r) (h' : OpR X f r') : OpR X f (fun x y H Q => r x y H Q ∨ r' x y H Q) := by
  intro pins s σ H x y v u Q I rx ry q
  rcases q with q | q
  · exact h pins s σ H x y v u Q I rx ry q
  · exact h' pins s σ H x y v u Q I rx ry q

theorem nomark (b : Expr) {op : CmpOp} (h : op ≠ .In := by decide) (h2 : op ≠ .NotIn := by decide) : behindInMarks op b = false := by
  have e1 : (op == CmpOp.In) = false := by cases op <;> first | rfl | exact absurd rfl h
  have e2 : (op == CmpOp.NotIn) = false := by cases op <;> first | rfl | exact absurd rfl h2
  cases b <;> simp [behindInMarks, e1, e2]
/-- a comparison as a value; hm: nomark b, or (for in, not in) by with_unfolding_all rfl -/
theorem pe_cmpR {op : CmpOp} {r : R2} (ho : OpR X (compareOp op) r) (ha : PE X a ta) (hb : PE X b tb) (hm : behindInMarks op b = false) : PE X (.Compare a [op] [b] pos) (tOp r ta tb) := by
  intro pins s σ H Q I h
  exact wpAny_Compare1 (binT ha hb I h fun v u s2 x y H2 I2 rx ry q => ho pins s2 σ H2 x y v u Q I2 rx ry q) hm
/-- a reading of a value as a test -/
def tTest (t : TE) : TT := fun σ H Q => t σ H fun x H' => ∃ k, x = .bl k ∧ Q k H'
theorem pt_cmpR {op : CmpOp} {r : R2} (ho : OpR X (compareOp op) r) (ha : PE X a ta) (hb : PE X b tb) (hm : behindInMarks op b = false) : PT X (.Compare a [op] [b] pos) (tTest (tOp r ta tb)) := by
  intro pins s σ H Q I h
  refine wpAny_isTrue_Compare1 (thn (ha pins s σ H _ I h) fun v s1 ⟨x, H1, I1, r1, q1⟩ => thn (hb pins s1 σ H1 _ I1 q1) fun u s2 ⟨y, H2, I2, r2, q2⟩ =>
    thn (ho pins s2 σ H2 x y v u _ I2 r1 r2 q2) fun c s3 ⟨z, H3, I3, r3, k, e, q3⟩ => ?_) hm
  subst e
  cases r3
  exact wpAny_truthy_bool ⟨H3, I3, q3⟩
/-- a op1 b op2 c -/
def tChain (r r' : R2) (ta tb tc : TE) : TE := fun σ H Q => ta σ H fun x H1 => tb σ H1 fun y H2 => r x y H2 fun z H3 => ∃ k, z = .bl k ∧
  (if k = true then tc σ H3 fun w' H4 => r' y w' H4 Q else Q (.bl false) H3)
theorem pe_chain {op op' : CmpOp} {r r' : R2} (ho : OpR X (compareOp op) r) (ho' : OpR X (compareOp op') r') (ha : PE X a ta) (hb : PE X b tb) (hc : PE X c tc)
    (hm : lastMarks [op, op'] [b, c] = false := by with_unfolding_all rfl) : PE X (.Compare a [op, op'] [b, c] pos) (tChain r r' ta tb tc) := by
  intro pins s σ H Q I h
  refine Compare_chain (thn (ha pins s σ H _ I h) fun v s1 ⟨x, H1, I1, r1, q1⟩ => chain_link (thn (hb pins s1 σ H1 _ I1 q1) fun u s2 ⟨y, H2, I2, r2, q2⟩ =>
    thn (ho pins s2 σ H2 x y v u _ I2 r1 r2 q2) fun d s3 ⟨z, H3, I3, r3, k, e, q3⟩ => ?_)) hm
  subst e
  cases r3
  refine wpAny_truthy_bool ?_
  cases k with
  | false => exact ite_ff ⟨.bl false, H3, I3, rfl, q3⟩
  | true => exact ite_tt (chain_last (thn (hc pins s3 σ H3 _ I3 q3) fun w' s4 ⟨z', H4, I4, r4, q4⟩ => ho' pins s4 σ H4 y z' u w' Q I4 r2 r4 q4))
theorem pt_chain {op op' : CmpOp} {r r' : R2} (ho : OpR X (compareOp op) r) (ho' : OpR X (compareOp op') r') (ha : PE X a ta) (hb : PE X b tb) (hc : PE X c tc)
    (hm : lastMarks [op, op'] [b, c] = false := by with_unfolding_all rfl) : PT X (.Compare a [op, op'] [b, c] pos) (tTest (tChain r r' ta tb tc)) := by
  intro pins s σ H Q I h
  refine isTrue_chain (thn (ha pins s σ H _ I h) fun v s1 ⟨x, H1, I1, r1, q1⟩ => test_link (thn (hb pins s1 σ H1 _ I1 q1) fun u s2 ⟨y, H2, I2, r2, q2⟩ =>
    thn (ho pins s2 σ H2 x y v u _ I2 r1 r2 q2) fun d s3 ⟨z, H3, I3, r3, k, e, q3⟩ => ?_)) hm
  subst e
  cases r3
  refine wpAny_truthy_bool ?_
  cases k with
  | false =>
    obtain ⟨k', e', q'⟩ := q3
    cases e'
    exact ite_ff ⟨H3, I3, q'⟩
  | true =>
    refine ite_tt (test_last (thn (hc pins s3 σ H3 _ I3 q3) fun w' s4 ⟨z', H4, I4, r4, q4⟩ => thn (ho' pins s4 σ H4 y z' u w' _ I4 r2 r4 q4) fun d' s5 ⟨z2, H5, I5, r5, k2, e2, q5⟩ => ?_))
    subst e2
    cases r5
    exact wpAny_truthy_bool ⟨H5, I5, q5⟩

/-! ### truth -/
/-- a value's truth by the abstract heap -/
def TruV (K : PySem.W.Frag) (x : V) (H : Hp) (k : Bool) : Prop :=
  match x with
  | .non => k = false
  | .bl b => k = b
  | .int i => k = (i != 0)
  | .str y => y.length ≤ sizeLine ∧ k = ((y.length : Int) != 0)
  | .byt y => y.size ≤ sizeLine ∧ k = ((y.size : Int) != 0)
  | .ref p => (∃ xs, SqL K H p xs ∧ k = !xs.isEmpty) ∨ (∃ xs, SqT K H p xs ∧ k = !xs.isEmpty) ∨ ∃ kvs, H p = some (.dK kvs) ∧ k = !kvs.isEmpty
  | _ => False
theorem isEmpty_kv {κ : Type} {kvs : List (κ × V)} {vs : List (κ × Value)} (r : KV kvs vs) : (!vs.isEmpty) = !kvs.isEmpty := by
  cases r <;> rfl
theorem isEmpty_of {xs : List V} {its : List Value} (r : Vals xs its) : (!its.toArray.isEmpty) = !xs.isEmpty := by
  cases r <;> simp
theorem line63 : (sizeLine : Nat) < 2 ^ 63 := by rw [sizeLine_eq]; decide
theorem tru_ok : TruR X (fun x H Q => ∃ k, TruV X.K x H k ∧ Q k H) := by
  intro pins s σ H x v Q I rx h
  obtain ⟨k, e, q⟩ := h
  have hl := line63
  have hs : sizeLine = 16777216 := sizeLine_eq
  cases x with
  | non =>
    cases rx
    have e' : k = false := e
    subst e'
    exact truthy_none ⟨H, I, q⟩
  | bl b =>
    cases rx
    have e' : k = b := e
    subst e'
    exact wpAny_truthy_bool ⟨H, I, q⟩
  | int i =>
    obtain ⟨t, rfl⟩ := rx
    have e' : k = (i != 0) := e
    subst e'
    exact PySem.P.truthy_int ⟨H, I, q⟩
  | str y =>
    obtain ⟨t, rfl⟩ := rx
    obtain ⟨hy, e'⟩ : y.length ≤ sizeLine ∧ k = ((y.length : Int) != 0) := e
    subst e'
    exact PySem.P.truthy_str (by omega) ⟨H, I.tok _, q⟩
  | byt y =>
    obtain ⟨t, rfl⟩ := rx
    obtain ⟨hy, e'⟩ : y.size ≤ sizeLine ∧ k = ((y.size : Int) != 0) := e
    subst e'
    exact PySem.W.truthy_bytes (by omega) ⟨H, I.tok _, q⟩
  | ref p =>
    cases rx
    have e' : (∃ xs, SqL X.K H p xs ∧ k = !xs.isEmpty) ∨ (∃ xs, SqT X.K H p xs ∧ k = !xs.isEmpty) ∨ ∃ kvs, H p = some (.dK kvs) ∧ k = !kvs.isEmpty := e
    rcases e' with ⟨xs, hx, e'⟩ | ⟨xs, hx, e'⟩ | ⟨kvs, hx, e'⟩
    · subst e'
      obtain ⟨its, r, pl, hz⟩ := I.list hx
      have hlen := r.length
      exact wpAny_truthy_list pl.isList (by simp only [List.size_toArray]; omega) ⟨H, I.tok _, by rw [isEmpty_of r]; exact q⟩
    · subst e'
      obtain ⟨its, r, pl, hz⟩ := I.tuple hx
      have hlen := r.length
      exact truthy_tuple pl (by simp only [List.size_toArray]; omega) ⟨H, I.tok _, by rw [isEmpty_of r]; exact q⟩
    · subst e'
      obtain ⟨hz, hS, vs, r, m⟩ : kvs.length ≤ sizeLine ∧ (p == sysModules) = false ∧ ∃ vs, KV kvs vs ∧ s.heap.DictOf (mixKind X.prog X.w) p vs := I.hok p _ hx
      have hlen : kvs.length = vs.length := Paired.length r
      exact wpAny_truthy_dict hS m (by omega) ⟨H, I.tok _, by rw [isEmpty_kv r]; exact q⟩
  | _ => exact (show False from e).elim
/-- any expression whose test is its value's truth (a name, a call, a subscript, a field ..: he by fun _ => rfl) -/
theorem pt_truth (ha : PE X a ta) (he : ∀ whole, isTrue a X.env whole = (do let v ← whole; standAt a.pos; holding [v] (truthy v))) :
    PT X a (fun σ H Q => ta σ H fun x H' => ∃ k, TruV X.K x H' k ∧ Q k H') := by
  intro pins s σ H Q I h
  exact isTrue_plain (thn (ha pins s σ H _ I h) fun v s1 ⟨x, H1, I1, r1, q1⟩ => tru_ok pins s1 σ H1 x v Q I1 r1 q1) (he _)

/-! ### strs and bytes -/
theorem pe_byt {x : List UInt8} {k : Nat} : PE X (.Constant (.bytes x) k pos) (fun _ H Q => Q (.byt x.toArray) H) := fun _ _ _ H _ I h => PySem.W.Constant_bytes ⟨.byt x.toArray, H, I.tok _, ⟨_, rfl⟩, h⟩
theorem op_add_str : OpR X (binaryOp .Add) (fun x y H Q => ∃ i j, x = .str i ∧ y = .str j ∧ i.length + j.length ≤ sizeLine ∧ Q (.str (i ++ j)) H) := by
  intro pins s σ H x y v u Q I rx ry h
  obtain ⟨i, j, rfl, rfl, hz, q⟩ := h
  obtain ⟨t, rfl⟩ := rx
  obtain ⟨t', rfl⟩ := ry
  exact add_str (fun t' tk => ⟨.str (i ++ j), H, I.tok _, ⟨_, rfl⟩, q⟩) hz
theorem iop_add_str : OpR X (inplaceOp .Add) (fun x y H Q => ∃ i j, x = .str i ∧ y = .str j ∧ i.length + j.length ≤ sizeLine ∧ Q (.str (i ++ j)) H) := by
  intro pins s σ H x y v u Q I rx ry h
  obtain ⟨i, j, rfl, rfl, hz, q⟩ := h
  obtain ⟨t, rfl⟩ := rx
  obtain ⟨t', rfl⟩ := ry
  exact iadd_str (fun t' tk => ⟨.str (i ++ j), H, I.tok _, ⟨_, rfl⟩, q⟩) hz
theorem op_add_byt : OpR X (binaryOp .Add) (fun x y H Q => ∃ i j, x = .byt i ∧ y = .byt j ∧ i.size + j.size ≤ 16777216 ∧ Q (.byt (i ++ j)) H) := by
  intro pins s σ H x y v u Q I rx ry h
  obtain ⟨i, j, rfl, rfl, hz, q⟩ := h
  obtain ⟨t, rfl⟩ := rx
  obtain ⟨t', rfl⟩ := ry
  exact PySem.W.KBy.add_bytes hz (fun t' tk => ⟨.byt (i ++ j), H, I.tok _, ⟨_, rfl⟩, q⟩)

def PlainIxT (b : Expr) : Prop := ∀ o i, subscripted b false o i = operate [o, i] (getItem o i)
/-- s[i], 0 ≤ i < len -/
theorem pe_item_str (ha : PE X a ta) (hb : PE X b tb) (hs : PlainIxT b) :
    PE X (.Subscript a b pos) (tOp (fun x y H Q => ∃ z i c, x = .str z ∧ y = .int i ∧ 0 ≤ i ∧ i < 2 ^ 63 ∧ i < z.length ∧ z.cps[i.toNat]? = some c ∧ Q (.str ⟨#[c]⟩) H) ta tb) := by
  intro pins s σ H Q I h
  refine Subscript_ (binT ha hb I h fun v u s2 x y H2 I2 rx ry q => ?_)
  obtain ⟨z, i, c, rfl, rfl, h0, h63, h1, hc, q⟩ := q
  obtain ⟨t, rfl⟩ := rx
  obtain ⟨t', rfl⟩ := ry
  have e : seqIndex? i z.length = some i.toNat := PySem.StrLaws.seqIndex_nonneg h0 h1
  exact tail_any (typeIs_str s2 z t) slot_str_getitem.lookup (getItem_str (c := c) (by
    have e1 : decide (i < -(2 ^ 63 : Int)) = false := decide_eq_false (by omega)
    have e2 : decide (i ≥ 2 ^ 63) = false := decide_eq_false (by omega)
    rw [e1, e2] <;> rfl) (by rw [e]; exact hc) ⟨.str ⟨#[c]⟩, H2, I2.tok _, ⟨_, rfl⟩, q⟩) (hs _ _)
/-- b[i], 0 ≤ i < len -/
theorem pe_item_byt (ha : PE X a ta) (hb : PE X b tb) (hs : PlainIxT b) :
    PE X (.Subscript a b pos) (tOp (fun x y H Q => ∃ (z : List UInt8) (i : Int), x = .byt z.toArray ∧ y = .int i ∧ z.length ≤ sizeLine ∧ 0 ≤ i ∧ i < z.length ∧ Q (.int ((z.getD i.toNat 0).toNat : Nat)) H) ta tb) := by
  intro pins s σ H Q I h
  refine Subscript_ (binT ha hb I h fun v u s2 x y H2 I2 rx ry q => ?_)
  obtain ⟨z, i, rfl, rfl, hz, h0, h1, q⟩ := q
  obtain ⟨t, rfl⟩ := rx
  obtain ⟨t', rfl⟩ := ry
  have hl : sizeLine = 16777216 := sizeLine_eq
  exact tail_any (PySem.W.typeIs_bytes s2 z.toArray t) PySem.W.FB.slot_bytes_getitem.lookup (PySem.W.getItem_bytes (by omega) h0 h1 ⟨.int ((z.getD i.toNat 0).toNat : Nat), H2, I2.tok _, ⟨_, rfl⟩, q⟩) (hs _ _)

/-! ### scalar builtins, by CallR -/
theorem vals1 {x : V} {us : List Value} (r : Vals [x] us) : ∃ u, us = [u] ∧ RelV x u := by
  cases r with
  | cons r1 r2 => cases r2; exact ⟨_, rfl, r1⟩
theorem vals2 {x y : V} {us : List Value} (r : Vals [x, y] us) : ∃ u w', us = [u, w'] ∧ RelV x u ∧ RelV y w' := by
  cases r with
  | cons r1 r2 =>
    cases r2 with
    | cons r3 r4 => cases r4; exact ⟨_, _, rfl, r1, r3⟩
theorem call_abs : CallR X (.builtin "abs") (fun xs H Q => ∃ i, xs = [.int i] ∧ Q (.int (if i < 0 then -i else i)) H) := by
  intro pins s σ H xs us Q I r h
  obtain ⟨i, rfl, q⟩ := h
  obtain ⟨u, rfl, t, rfl⟩ := vals1 r
  exact call_abs_int fun u tk => ⟨.int (if i < 0 then -i else i), H, I.tok _, ⟨_, rfl⟩, q⟩
theorem call_max2 (hc : X.calm = true) : CallR X (.builtin "max") (fun xs H Q => ∃ i j, xs = [.int i, .int j] ∧ Q (.int (if j > i then j else i)) H) := by
  intro pins s σ H xs us Q I r h
  obtain ⟨i, j, rfl, q⟩ := h
  obtain ⟨u, w', rfl, ⟨t, rfl⟩, ⟨t', rfl⟩⟩ := vals2 r
  refine max_two_ints (I.ok.hd hc) fun h' tk k => ⟨_, H, I.kept k, ?_, q⟩
  by_cases hj : j > i
  · rw [if_pos hj, if_pos hj]; exact ⟨_, rfl⟩
  · rw [if_neg hj, if_neg hj]; exact ⟨_, rfl⟩
theorem call_min2 (hc : X.calm = true) : CallR X (.builtin "min") (fun xs H Q => ∃ i j, xs = [.int i, .int j] ∧ Q (.int (if j < i then j else i)) H) := by
  intro pins s σ H xs us Q I r h
  obtain ⟨i, j, rfl, q⟩ := h
  obtain ⟨u, w', rfl, ⟨t, rfl⟩, ⟨t', rfl⟩⟩ := vals2 r
  refine min_two_ints (I.ok.hd hc) fun h' tk k => ⟨_, H, I.kept k, ?_, q⟩
  by_cases hj : j < i
  · rw [if_pos hj, if_pos hj]; exact ⟨_, rfl⟩
  · rw [if_neg hj, if_neg hj]; exact ⟨_, rfl⟩
theorem call_int1 : CallR X (.type "int") (fun xs H Q => (∃ i, xs = [.int i] ∧ Q (.int i) H) ∨ ∃ k, xs = [.bl k] ∧ Q (.int (if k then 1 else 0)) H) := by
  intro pins s σ H xs us Q I r h
  rcases h with ⟨i, rfl, q⟩ | ⟨k, rfl, q⟩
  · obtain ⟨u, rfl, t, rfl⟩ := vals1 r
    exact call_int_int ⟨.int i, H, I, ⟨_, rfl⟩, q⟩
  · obtain ⟨u, rfl, r1⟩ := vals1 r
    cases r1
    exact call_int_bool ⟨.int (if k then 1 else 0), H, I.tok _, ⟨_, rfl⟩, q⟩
theorem call_bool1 : CallR X (.type "bool") (fun xs H Q => (∃ i, xs = [.int i] ∧ Q (.bl (i != 0)) H) ∨ ∃ k, xs = [.bl k] ∧ Q (.bl k) H) := by
  intro pins s σ H xs us Q I r h
  rcases h with ⟨i, rfl, q⟩ | ⟨k, rfl, q⟩
  · obtain ⟨u, rfl, t, rfl⟩ := vals1 r
    exact call_bool_int ⟨.bl (i != 0), H, I, rfl, q⟩
  · obtain ⟨u, rfl, r1⟩ := vals1 r
    cases r1
    exact call_bool_bool ⟨.bl k, H, I, rfl, q⟩
theorem call_str_int : CallR X (.type "str") (fun xs H Q => ∃ i, xs = [.int i] ∧ i.natAbs.log2 < 1920 ∧ Q (.str (toString i)) H) := by
  intro pins s σ H xs us Q I r h
  obtain ⟨i, rfl, hz, q⟩ := h
  obtain ⟨u, rfl, t, rfl⟩ := vals1 r
  exact PySem.P.str_of_int hz ⟨.str _, H, I.tok _, ⟨_, rfl⟩, q⟩
theorem call_ord : CallR X (.builtin "ord") (fun xs H Q => ∃ x, xs = [.str x] ∧ x.length = 1 ∧ Q (.int (x.cps.getD 0 0 : Nat)) H) := by
  intro pins s σ H xs us Q I r h
  obtain ⟨x, rfl, hz, q⟩ := h
  obtain ⟨u, rfl, t, rfl⟩ := vals1 r
  exact ord_of_one hz ⟨.int _, H, I.tok _, ⟨_, rfl⟩, q⟩
theorem call_chr : CallR X (.builtin "chr") (fun xs H Q => ∃ i, xs = [.int i] ∧ 0 ≤ i ∧ i ≤ 1114111 ∧ Q (.str ⟨#[i.toNat]⟩) H) := by
  intro pins s σ H xs us Q I r h
  obtain ⟨i, rfl, h0, h1, q⟩ := h
  obtain ⟨u, rfl, t, rfl⟩ := vals1 r
  exact chr_of_range h0 h1 ⟨.str _, H, I.tok _, ⟨_, rfl⟩, q⟩
/-- len of a str, a bytes, a list, a tuple -/
def LenV (K : PySem.W.Frag) (x : V) (H : Hp) (n : Nat) : Prop :=
  match x with
  | .str y => y.length ≤ sizeLine ∧ n = y.length
  | .byt y => y.size ≤ sizeLine ∧ n = y.size
  | .ref p => (∃ xs, SqL K H p xs ∧ n = xs.length) ∨ ∃ xs, SqT K H p xs ∧ n = xs.length
  | _ => False
theorem call_len : CallR X (.builtin "len") (fun xs H Q => ∃ x n, xs = [x] ∧ LenV X.K x H n ∧ Q (.int n) H) := by
  intro pins s σ H xs us Q I r h
  obtain ⟨x, n, rfl, e, q⟩ := h
  obtain ⟨u, rfl, rx⟩ := vals1 r
  have hl := line63
  have hs : sizeLine = 16777216 := sizeLine_eq
  cases x with
  | str y =>
    obtain ⟨t, rfl⟩ := rx
    obtain ⟨hy, e'⟩ : y.length ≤ sizeLine ∧ n = y.length := e
    subst e'
    exact len_str (by omega) ⟨.int _, H, I.tok _, ⟨_, rfl⟩, q⟩
  | byt y =>
    obtain ⟨t, rfl⟩ := rx
    obtain ⟨hy, e'⟩ : y.size ≤ sizeLine ∧ n = y.size := e
    subst e'
    exact PySem.W.len_bytes (by omega) ⟨.int _, H, I.tok _, ⟨_, rfl⟩, q⟩
  | ref p =>
    cases rx
    have e' : (∃ xs, SqL X.K H p xs ∧ n = xs.length) ∨ ∃ xs, SqT X.K H p xs ∧ n = xs.length := e
    rcases e' with ⟨xs, hx, e'⟩ | ⟨xs, hx, e'⟩
    · subst e'
      obtain ⟨its, r', pl, hz⟩ := I.list hx
      have hlen := r'.length
      exact Calls.call_len_list pl.isList (by simp only [List.size_toArray]; omega) ⟨.int xs.length, H, I.tok _, ⟨_, by simp only [List.size_toArray]; rw [hlen]⟩, q⟩
    · subst e'
      obtain ⟨its, r', pl, hz⟩ := I.tuple hx
      have hlen := r'.length
      exact len_tuple pl (by simp only [List.size_toArray]; omega) ⟨.int xs.length, H, I.tok _, ⟨_, by simp only [List.size_toArray]; rw [hlen]⟩, q⟩
  | _ => exact (show False from e).elim
/-- divmod: a new tuple -/
theorem call_divmod : CallR X (.builtin "divmod") (fun xs H Q => ∃ i j, xs = [.int i, .int j] ∧ CDiv i j ∧ ∀ p, H p = none → Q (.ref p) (upd H p (.tup [.int (i / j), .int (i % j)]))) := by
  intro pins s σ H xs us Q I r h
  obtain ⟨i, j, rfl, ⟨h1, h2⟩, q⟩ := h
  obtain ⟨u, w', rfl, ⟨t, rfl⟩, ⟨t', rfl⟩⟩ := vals2 r
  refine divmod_int (by omega) ?_ (.inl (PyProof.noPylong_small (by omega)))
  rw [Int.fdiv_eq_ediv_of_nonneg i (by omega), Int.fmod_eq_emod_of_nonneg i (by omega)]
  have hn : H s.heap.objs.size = none := I.hok.fresh (Nat.le_refl _)
  refine ⟨.ref s.heap.objs.size, _, ?_, rfl, q _ hn⟩
  refine I.laid (fun b o e => Heap.get?_push_of_some _ e) (Nat.le_refl _) ⟨by simp only [List.length_cons, List.length_nil]; rw [sizeLine_eq]; decide, [.int (i / j) s.toks, .int (i % j) (s.toks + 1)], .cons ⟨_, rfl⟩ (.cons ⟨_, rfl⟩ .nil), ?_⟩
  exact ⟨_, Heap.get?_push_size s.heap rfl, rfl, 0, rfl⟩
end
end L2

namespace L2
open PySem PySem.Spec PyProof.Rows

/-! ### an instance, its attributes a map -/
structure ObjM (h : Heap) (x dx C : Addr) (mA : Str → Option Value) : Prop where
  obj : h.get? x = some (PySem.W.instObj C dx)
  ns : h.Ns1 dx mA
  ne : dx ≠ x

theorem lookIn_ns {h : Heap} {dx : Addr} {mA : Str → Option Value} (n : h.Ns1 dx mA) : ∃ od, h.get? dx = some od ∧ ∀ name, PySem.W.lookIn name od = some (mA name) := by
  obtain ⟨o, es, ep, ho, hd, hk, _, hm⟩ := n
  refine ⟨o, ho, fun name => ?_⟩
  have e := hm name
  unfold nsFind findBy at e
  rw [← Array.find?_toList] at e
  unfold PySem.W.lookIn
  rw [hd]
  dsimp only
  split
  · rename_i y q
    rw [q] at e
    exact congrArg some e
  · rename_i q
    rw [q] at e
    have a : es.toList.any (·.refKey) = false := by
      rw [List.any_eq_false]
      intro y hy
      obtain ⟨z, t, hkey⟩ := hk y (Array.mem_toList_iff.mp hy)
      simp [DictEntry.refKey, hkey]
    have a' : ¬ es.toList.any (·.refKey) = true := by rw [a]; exact Bool.false_ne_true
    rw [if_neg a']
    exact congrArg some e

theorem ObjM.look {h : Heap} {x dx C : Addr} {mA : Str → Option Value} (I : ObjM h x dx C mA) : ∃ od, PySem.W.InstAt h x (PySem.W.instObj C dx) C (some od) ∧ ∀ name, PySem.W.lookIn name od = some (mA name) :=
  let ⟨od, ho, hl⟩ := lookIn_ns I.ns
  ⟨od, ⟨I.obj, rfl, rfl, ho⟩, hl⟩

section
variable {prog : Program} {w : World} {A : Around} {E : Value → Shared → Prop} {s : Shared} {K : PySem.W.Frag} {x dx C f : Addr} {mA : Str → Option Value} {name : Str} {v : Value}

theorem get_map {expr : Bool} {Q : Value → Shared → Prop} (X : K.In s.heap) (I : ObjM s.heap x dx C mA) (hg : PySem.W.plainGet K C name = true) (hh : PySem.W.hasDictIn K C = true)
    (ha : PySem.W.findIn K (.ref C) name = some none) (hv : mA name = some v) (hv' : PySem.W.handedIn v = true) (h : Q v { s with toks := s.toks + 1 }) :
    wpAny (model prog w) A (getAttr (.ref x) name expr) Q E s := by
  obtain ⟨od, J, hl⟩ := I.look
  exact PySem.W.get_value X J (PySem.W.plainGet_of hg).1 (PySem.W.findObj_own hh ha rfl (by rw [hl, hv])) hv' h

theorem get_const {expr : Bool} {a : Value} {Q : Value → Shared → Prop} (X : K.In s.heap) (I : ObjM s.heap x dx C mA) (hg : PySem.W.plainGet K C name = true) (hh : PySem.W.hasDictIn K C = true)
    (ha : PySem.W.findIn K (.ref C) name = some (some a)) (hn : PySem.W.specialIn K a "__get__" = some none) (hc : PySem.W.copiedNames.contains name = false) (hv : mA name = none) (hv' : PySem.W.handedIn a = true)
    (h : Q a { s with toks := s.toks + 1 }) : wpAny (model prog w) A (getAttr (.ref x) name expr) Q E s := by
  obtain ⟨od, J, hl⟩ := I.look
  exact PySem.W.get_value X J (PySem.W.plainGet_of hg).1 (PySem.W.findObj_cls hh ha hn hv' hc (by rw [hl, hv])) hv' h

theorem get_meth {pl : Sem Bool} {Q : Value × List Value → Shared → Prop} (X : K.In s.heap) (I : ObjM s.heap x dx C mA) (hg : PySem.W.plainGet K C name = true)
    (hf : PySem.W.findIn K (.ref C) name = some (some (.ref f))) (ht : PySem.W.isFn K (.ref f) = true) (hv : mA name = none) (h : Q (.ref f, [.ref x]) s) :
    wpAny (model prog w) A (getMethod (.ref x) name pl) Q E s := by
  obtain ⟨od, J, hl⟩ := I.look
  exact PySem.W.method_fn X J (PySem.W.plainGet_of hg).1 (PySem.W.plainGet_of hg).2 hf (beq_iff_eq.mp ht) (by show (PySem.W.lookIn name od).map (·.isSome) = some false; rw [hl, hv]; rfl) h

theorem set_map {ns : List Str} {Q : Unit → Shared → Prop} (X : K.In s.heap) (I : ObjM s.heap x dx C mA)
    (hs : PySem.W.findIn K (.ref C) "__setattr__" = some (some (.builtin "object.__setattr__"))) (hp : PySem.W.plainOver K C = true) (ht : PySem.W.takerIn K C name = some none) (hh : PySem.W.hasDictIn K C = true)
    (hw : PySem.Within mA ns) (hsz : ns.length ≤ sizeLine)
    (h : ∀ h', ObjM h' x dx C (fun y => if y = name then some v else mA y) → Heap.SameBut dx s.heap h' → Q () { s with heap := h', toks := s.toks + 2 }) :
    wpAny (model prog w) A (setAttr (.ref x) name v) Q E s := by
  obtain ⟨od, J, hl⟩ := I.look
  refine PySem.W.set_plain X J hs (PySem.W.osa_open (s := { s with toks := s.toks + 1 }) (r := none) X J hp ht fun b => ?_)
  obtain ⟨cd, hc, hd'⟩ := PySem.W.any_some hh
  have hx : s.heap.get? x = some ⟨.ref C, some dx, .plain, #[]⟩ := I.obj
  refine wpAny_bind (wpAny_pure (wpAny_bind (wpAny_bind (wpAny_loadPart hx (wpAny_bind (PySem.W.Looks.here (s := { s with toks := s.toks + 1 }) (PySem.W.looks_clsIn X hc) ?_))))))
  rw [hd']
  refine wpAny_pure (a := some dx) (wpAny_bind (wpAny_pure (wpAny_bind ?_)))
  refine wpAny_nsSet1 (s := { s with toks := s.toks + 1 }) I.ns fun h' hn2 hs2 => ?_
  obtain ⟨oD, esD, epD, hoD, hdD, hcD⟩ := hn2.count (PySem.Within.cons name v hw)
  refine wpAny_bind (wpAny_lookBehind hoD (by rw [hdD]; exact pastItsLine_dict (Nat.le_trans hcD (by rw [List.length_cons]; omega))) ?_)
  exact wpAny_pure (h _ ⟨(hs2.2 _ (Ne.symm I.ne)).trans I.obj, hn2, I.ne⟩ hs2)

/-- C(..): the dict at the heap's end, the instance behind it; then its __init__ -/
theorem make_map {R : Result → Shared → Prop} {vs : List Value} {kw : List (Str × Value)} (X : K.In s.heap) (hm : PySem.W.makesIn K C = true)
    (hi : PySem.W.findIn K (.ref C) "__init__" = some (some (.ref f))) (hf : PySem.W.typeIn K (.ref f) = some (.type "function"))
    (h : codeAny (model prog w) (A.under (.builtin "type.__call__" ⟨.ref C :: vs, kw⟩)) (.call (.ref f) ⟨.ref (s.heap.objs.size + 1) :: vs, kw⟩) (PySem.W.InitBack (s.heap.objs.size + 1) R)
      { s with heap := (s.heap.push PySem.W.emptyDict).push (PySem.W.instObj C s.heap.objs.size) }) :
    codeAny (model prog w) A (.call (.ref C) ⟨vs, kw⟩) R s := by
  obtain ⟨hh, g, d, t, os⟩ := s
  exact PySem.W.make_core (PySem.W.makes_of X hm) (PySem.W.looks_findIn X hi) (fun self => PySem.W.bind_fn X self hf) (.inl rfl) h
/-- C() where there is no __init__ but object's -/
theorem make_map0 {R : Result → Shared → Prop} (X : K.In s.heap) (hm : PySem.W.makesIn K C = true)
    (hi : PySem.W.findIn K (.ref C) "__init__" = some (some (.builtin "object.__init__")))
    (hb : ∀ self, PySem.W.Looks (model prog w) s.heap (bindSpecial (.builtin "object.__init__") self) (.builtin "object.__init__", [self]))
    (h : codeAny (model prog w) (A.under (.builtin "type.__call__" ⟨[.ref C], []⟩)) (.call (.builtin "object.__init__") ⟨[.ref (s.heap.objs.size + 1)], []⟩) (PySem.W.InitBack (s.heap.objs.size + 1) R)
      { s with heap := (s.heap.push PySem.W.emptyDict).push (PySem.W.instObj C s.heap.objs.size) }) :
    codeAny (model prog w) A (.call (.ref C) ⟨[], []⟩) R s := by
  obtain ⟨hh, g, d, t, os⟩ := s
  exact PySem.W.make_core (PySem.W.makes_of X hm) (PySem.W.looks_findIn X hi) hb (.inr ⟨rfl, rfl⟩) h
end

/-! ### the attributes as a list of pairs -/
def putF (f : Str) (v : V) : List (Str × V) → List (Str × V)
  | [] => [(f, v)]
  | (g, x) :: r => if g = f then (g, v) :: r else (g, x) :: putF f v r
theorem lookup_putF (f g : Str) (v : V) : ∀ fs : List (Str × V), (putF f v fs).lookup g = if g = f then some v else fs.lookup g
  | [] => by
    show List.lookup g [(f, v)] = _
    by_cases h : g = f
    · have hb : (g == f) = true := beq_iff_eq.mpr h
      simp only [List.lookup, hb, if_pos h]
    · have hb : (g == f) = false := beq_eq_false_iff_ne.mpr h
      simp only [List.lookup, hb, if_neg h]
  | (k, x) :: r => by
    have ih := lookup_putF f g v r
    rw [show putF f v ((k, x) :: r) = (if k = f then (k, v) :: r else (k, x) :: putF f v r) from rfl]
    by_cases hk : k = f
    · rw [if_pos hk]
      by_cases h : g = k
      · have hb : (g == k) = true := beq_iff_eq.mpr h
        simp only [List.lookup, hb, if_pos (h.trans hk)]
      · have hb : (g == k) = false := beq_eq_false_iff_ne.mpr h
        simp only [List.lookup, hb, if_neg (fun e : g = f => h (e.trans hk.symm))]
    · rw [if_neg hk]
      by_cases h : g = k
      · have hb : (g == k) = true := beq_iff_eq.mpr h
        simp only [List.lookup, hb, if_neg (fun e : g = f => hk (h.symm.trans e))]
      · have hb : (g == k) = false := beq_eq_false_iff_ne.mpr h
        simp only [List.lookup, hb]
        exact ih
theorem keys_putF (f : Str) (v : V) : ∀ fs : List (Str × V), f ∈ (putF f v fs).map (·.1) ∧ ∀ g, g ∈ fs.map (·.1) → g ∈ (putF f v fs).map (·.1)
  | [] => ⟨by simp [putF], fun g h => by simp at h⟩
  | (k, x) :: r => by
    obtain ⟨i1, i2⟩ := keys_putF f v r
    rw [show putF f v ((k, x) :: r) = (if k = f then (k, v) :: r else (k, x) :: putF f v r) from rfl]
    by_cases hk : k = f
    · rw [if_pos hk]
      subst hk
      exact ⟨by simp, fun g h => by simpa using h⟩
    · rw [if_neg hk]
      refine ⟨?_, fun g h => ?_⟩
      · rw [List.map_cons]
        exact List.mem_cons_of_mem _ i1
      · rw [List.map_cons] at h ⊢
        rcases List.mem_cons.mp h with e | e
        · exact List.mem_cons.mpr (.inl e)
        · exact List.mem_cons_of_mem _ (i2 g e)
theorem length_putF (f : Str) (v : V) : ∀ fs : List (Str × V), (putF f v fs).length ≤ fs.length + 1
  | [] => by simp [putF]
  | (k, x) :: r => by
    have ih := length_putF f v r
    rw [show putF f v ((k, x) :: r) = (if k = f then (k, v) :: r else (k, x) :: putF f v r) from rfl]
    by_cases hk : k = f
    · rw [if_pos hk, List.length_cons, List.length_cons]; omega
    · rw [if_neg hk, List.length_cons, List.length_cons]; omega

theorem RelO.some_of {v : V} {o : Option Value} (r : RelO (some v) o) : ∃ u, o = some u ∧ RelV v u := by
  cases o with
  | none => exact (show False from r).elim
  | some u => exact ⟨u, rfl, r⟩
theorem RelO.none_of {o : Option Value} (r : RelO none o) : o = none := by
  cases o with
  | none => rfl
  | some u => exact (show False from r).elim
theorem handed_of {v : V} {u : Value} (r : RelV v u) : PySem.W.handedIn u = true := by
  cases v with
  | non => cases (show u = Value.none from r); rfl
  | bl b => cases (show u = Value.bool b from r); rfl
  | int i => obtain ⟨t, e⟩ := (show ∃ t, u = Value.int i t from r); cases e; rfl
  | str x => obtain ⟨t, e⟩ := (show ∃ t, u = Value.str x t from r); cases e; rfl
  | byt b => obtain ⟨t, e⟩ := (show ∃ t, u = Value.bytes b t from r); cases e; rfl
  | flt b => obtain ⟨t, e⟩ := (show ∃ t, u = Value.float b t from r); cases e; rfl
  | ref a => cases (show u = Value.ref a from r); rfl
  | ty n => cases (show u = Value.type n from r); rfl

section
variable {P : Program} {w : World} {H H' : Hp} {h h' : Heap} {a C dx : Addr} {fs fs' : List (Str × V)}
theorem ins_get (hok : HOk P w H h) (e : H a = some (.ins C dx fs)) : ∃ mA, ObjM h a dx C mA ∧ (∀ f, RelO (fs.lookup f) (mA f)) ∧ PySem.Within mA (fs.map (·.1)) ∧ fs.length ≤ 1000 ∧ H dx = some (.own a) := by
  obtain ⟨d, z, ne, ob, mA, n, r, q⟩ := (show ObjOk P w H h a (.ins C dx fs) from hok a _ e)
  exact ⟨mA, ⟨ob, n, ne⟩, r, q, z, d⟩
end

/-! ### what of the text a class must have -/
structure Cls (K : PySem.W.Frag) (C : Addr) : Prop where
  pg : PySem.W.plainGet K C Str.empty = true
  hd : PySem.W.hasDictIn K C = true
  po : PySem.W.plainOver K C = true
  sa : PySem.W.findIn K (.ref C) "__setattr__" = some (some (.builtin "object.__setattr__"))
theorem Cls.get {K : PySem.W.Frag} {C : Addr} (c : Cls K C) (f : Str) : PySem.W.plainGet K C f = true := c.pg
/-- no class of it has the name -/
def NoAttr (K : PySem.W.Frag) (C : Addr) (f : Str) : Prop := PySem.W.findIn K (.ref C) f = some none
theorem NoAttr.taker {K : PySem.W.Frag} {C : Addr} {f : Str} (n : NoAttr K C f) : PySem.W.takerIn K C f = some none := by
  unfold PySem.W.takerIn
  rw [show PySem.W.findIn K (.ref C) f = some none from n]
  rfl
/-- a constant of the class -/
structure Con (K : PySem.W.Frag) (C : Addr) (f : Str) (v : V) (u : Value) : Prop where
  at_ : PySem.W.findIn K (.ref C) f = some (some u)
  rel : RelV v u
  get : PySem.W.specialIn K u "__get__" = some none
  cp : PySem.W.copiedNames.contains f = false
/-- a method: a plain def of the class or of one above it -/
structure Meth (K : PySem.W.Frag) (C : Addr) (m : Str) (f : Addr) : Prop where
  at_ : PySem.W.findIn K (.ref C) m = some (some (.ref f))
  fn : PySem.W.isFn K (.ref f) = true
  kp : PySem.W.keepIn K (.ref f) = true

section
variable {X : Cx} {pins : List (Addr × Obj)} {σ : St} {H : Hp} {s : Shared} {a C dx : Addr} {fs : List (Str × V)} {f : Str} {v : V} {A : Around} {E : Value → Shared → Prop}

theorem getattr_ok {b : Bool} {Q : Value → Shared → Prop} (I : Inv X pins σ H s) (e : H a = some (.ins C dx fs)) (c : Cls X.K C) (n : NoAttr X.K C f) (l : fs.lookup f = some v)
    (h : ∀ u s', Inv X pins σ H s' → RelV v u → Q u s') : wpAny (model X.prog X.w) A (getAttr (.ref a) f b) Q E s := by
  obtain ⟨mA, O, r, _, _, _⟩ := ins_get I.hok e
  obtain ⟨u, hu, ru⟩ := RelO.some_of (v := v) (o := mA f) (by rw [← l]; exact r f)
  exact get_map I.kIn O (c.get f) c.hd n hu (handed_of ru) (h u _ (I.tok _) ru)

theorem getcon_ok {b : Bool} {u : Value} {Q : Value → Shared → Prop} (I : Inv X pins σ H s) (e : H a = some (.ins C dx fs)) (c : Cls X.K C) (k : Con X.K C f v u) (l : fs.lookup f = none)
    (h : ∀ s', Inv X pins σ H s' → Q u s') : wpAny (model X.prog X.w) A (getAttr (.ref a) f b) Q E s := by
  obtain ⟨mA, O, r, _, _, _⟩ := ins_get I.hok e
  have hn : mA f = none := RelO.none_of (by rw [← l]; exact r f)
  exact get_const I.kIn O (c.get f) c.hd k.at_ k.get k.cp hn (handed_of k.rel) (h _ (I.tok _))

theorem getmeth_ok {m : Str} {g : Addr} {pl : Sem Bool} {Q : Value × List Value → Shared → Prop} (I : Inv X pins σ H s) (e : H a = some (.ins C dx fs)) (c : Cls X.K C) (k : Meth X.K C m g) (l : fs.lookup m = none)
    (h : Q (.ref g, [.ref a]) s) : wpAny (model X.prog X.w) A (getMethod (.ref a) m pl) Q E s := by
  obtain ⟨mA, O, r, _, _, _⟩ := ins_get I.hok e
  have hn : mA m = none := RelO.none_of (by rw [← l]; exact r m)
  exact get_meth I.kIn O (c.get m) k.at_ k.fn hn h

theorem setattr_ok {y : V} {u : Value} {Q : Unit → Shared → Prop} (I : Inv X pins σ H s) (e : H a = some (.ins C dx fs)) (c : Cls X.K C) (n : NoAttr X.K C f) (hl : fs.length < 1000) (ry : RelV y u)
    (h : ∀ s', Inv X pins σ (upd H a (.ins C dx (putF f y fs))) s' → Q () s') : wpAny (model X.prog X.w) A (setAttr (.ref a) f u) Q E s := by
  obtain ⟨mA, O, r, wi, _, ho⟩ := ins_get I.hok e
  have hz : (fs.map (·.1)).length ≤ sizeLine := by rw [List.length_map, sizeLine_eq]; omega
  refine set_map I.kIn O c.sa c.po n.taker c.hd wi hz fun h' O' sb => h _ ?_
  have hd : ∃ o, h'.get? dx = some o := let ⟨o, _, _, e', _⟩ := O'.ns; ⟨o, e'⟩
  refine I.write (x := a) (e := dx) (by rw [e]; exact True.intro) (.inr ho) (fun b q hb z => (sb.2 b hb).trans z) hd ?_
  refine ⟨by rw [upd_ne O.ne]; exact ho, ?_, O.ne, O'.obj, _, O'.ns, fun g => ?_, fun g hg => ?_⟩
  · have := length_putF f y fs; omega
  · show RelO ((putF f y fs).lookup g) (if g = f then some u else mA g)
    rw [lookup_putF]
    by_cases q : g = f
    · rw [if_pos q, if_pos q]; exact ry
    · rw [if_neg q, if_neg q]; exact r g
  · by_cases q : g = f
    · rw [q]; exact (keys_putF f y fs).1
    · refine (keys_putF f y fs).2 g (wi g fun z => hg ?_)
      show (if g = f then some u else mA g) = none
      rw [if_neg q]; exact z

/-- a new instance, tracked, without attributes -/
theorem Inv.made (I : Inv X pins σ H s) : Inv X pins σ (upd (upd H s.heap.objs.size (.own (s.heap.objs.size + 1))) (s.heap.objs.size + 1) (.ins C s.heap.objs.size []))
    { s with heap := (s.heap.push PySem.W.emptyDict).push (PySem.W.instObj C s.heap.objs.size) } := by
  have e1 : (s.heap.push PySem.W.emptyDict).get? s.heap.objs.size = some PySem.W.emptyDict := Heap.get?_push_size s.heap rfl
  have e2 : ((s.heap.push PySem.W.emptyDict).push (PySem.W.instObj C s.heap.objs.size)).get? (s.heap.objs.size + 1) = some (PySem.W.instObj C s.heap.objs.size) := by
    have := Heap.get?_push_size (s.heap.push PySem.W.emptyDict) (o := PySem.W.instObj C s.heap.objs.size) rfl
    rwa [Heap.size_push] at this
  have e3 : (s.heap.push PySem.W.emptyDict).Ns s.heap.objs.size (fun _ => none) := ⟨PySem.W.emptyDict, #[], _, e1, rfl, (fun e he => absurd he (by simp)), fun _ => rfl⟩
  have I1 := I.laid (a := s.heap.objs.size) (o := .own (s.heap.objs.size + 1)) (h' := s.heap.push PySem.W.emptyDict) (t' := s.toks) (fun b u q => Heap.get?_push_of_some _ q) (Nat.le_refl _) ⟨_, e1⟩
  refine I1.laid (a := s.heap.objs.size + 1) (o := .ins C s.heap.objs.size []) (t' := s.toks) (fun b u q => Heap.get?_push_of_some _ q) (Nat.le_of_eq (Heap.size_push _ _)) ?_
  have ne : s.heap.objs.size ≠ s.heap.objs.size + 1 := Nat.ne_of_lt (Nat.lt_succ_self _)
  refine ⟨by rw [upd_ne ne, upd_same], Nat.zero_le _, ne, e2, fun _ => none, (Heap.Ns1.of_empty e3).at fun o q => Heap.get?_push_of_some _ q, fun _ => True.intro, fun y hy => absurd rfl hy⟩

/-- e.f where nothing but the object is asked: through attributeBase (super) and the last hold -/
theorem attr_of {prog : Program} {w : World} {env : Env} {e : Expr} {f : Str} {pos : Pos} {s : Shared} {Q : Value → Shared → Prop} (hb : attributeBase e f env (eval e env) = eval e env)
    (h : wpAny (model prog w) A (eval e env) (fun o s₁ => wpAny (model prog w) A (getAttr o f true) Q E s₁) E s) : wpAny (model prog w) A (eval (.Attribute e f pos) env) Q E s :=
  Attribute_any_ h (by rw [arm_eval_Attribute, hb])
end

/-! ### readings and rules -/
/-- e.f, an attribute of the instance -/
def tFld (K : PySem.W.Frag) (ta : TE) (f : Str) : TE := fun σ H Q => ta σ H fun x H1 => ∃ a C dx fs v, x = .ref a ∧ H1 a = some (.ins C dx fs) ∧ Cls K C ∧ NoAttr K C f ∧ fs.lookup f = some v ∧ Q v H1
/-- e.f, a constant of the class -/
def tCon (K : PySem.W.Frag) (ta : TE) (f : Str) : TE := fun σ H Q => ta σ H fun x H1 => ∃ a C dx fs v u, x = .ref a ∧ H1 a = some (.ins C dx fs) ∧ Cls K C ∧ Con K C f v u ∧ fs.lookup f = none ∧ Q v H1
/-- e.f = value -/
def sFld (K : PySem.W.Frag) (ta tv : TE) (f : Str) : TS := fun D σ H => tv σ H fun y H1 => ta σ H1 fun x H2 => ∃ a C dx fs, x = .ref a ∧ H2 a = some (.ins C dx fs) ∧ Cls K C ∧ NoAttr K C f ∧ fs.length < 1000 ∧
  D.nx σ (upd H2 a (.ins C dx (putF f y fs)))
/-- an augmented operator on two values -/
def InOp (X : Cx) (op : Operator) (rd : V → V → Hp → VK → Prop) : Prop :=
  ∀ (pins : List (Addr × Obj)) (s : Shared) (σ : St) (H : Hp) (x y : V) (u v : Value) (Q : VK), Inv X pins σ H s → RelV x u → RelV y v → rd x y H Q → wpAny (model X.prog X.w) X.A (inplaceOp op u v) (EP X pins σ Q) X.xe s
/-- e.f op= value -/
def sFldAug (K : PySem.W.Frag) (ta tv : TE) (rd : V → V → Hp → VK → Prop) (f : Str) : TS := fun D σ H => ta σ H fun x H1 => ∃ a C dx fs v, x = .ref a ∧ H1 a = some (.ins C dx fs) ∧ Cls K C ∧ NoAttr K C f ∧ fs.lookup f = some v ∧
  tv σ H1 fun y H2 => rd v y H2 fun z H3 => ∃ dx' fs', H3 a = some (.ins C dx' fs') ∧ fs'.length < 1000 ∧ D.nx σ (upd H3 a (.ins C dx' (putF f z fs')))

section
variable {X : Cx} {o e value : Expr} {f : Str} {pos pos' tpos : Pos} {ta tv : TE}
theorem pe_fld (he : PE X e ta) (hb : attributeBase e f X.env (eval e X.env) = eval e X.env) : PE X (.Attribute e f pos) (tFld X.K ta f) := by
  intro pins s σ H Q I h
  refine attr_of hb (thn (he pins s σ H _ I h) fun u s1 ⟨x, H1, I1, rx, a, C, dx, fs, v, ex, ea, c, n, l, q⟩ => ?_)
  subst ex
  obtain rfl : u = Value.ref a := rx
  exact getattr_ok I1 ea c n l fun u' s2 I2 ru => ⟨v, H1, I2, ru, q⟩
theorem pe_con (he : PE X e ta) (hb : attributeBase e f X.env (eval e X.env) = eval e X.env) : PE X (.Attribute e f pos) (tCon X.K ta f) := by
  intro pins s σ H Q I h
  refine attr_of hb (thn (he pins s σ H _ I h) fun u s1 ⟨x, H1, I1, rx, a, C, dx, fs, v, u0, ex, ea, c, k, l, q⟩ => ?_)
  subst ex
  obtain rfl : u = Value.ref a := rx
  exact getcon_ok I1 ea c k l fun s2 I2 => ⟨v, H1, I2, k.rel, q⟩
theorem ps_fld (ha : PE X o ta) (hv : PE X value tv) (hs : swapsWith value (some (.Attribute o f pos')) pos.line X.env = pure false) : PS X (.Assign [.Attribute o f pos'] value pos) (sFld X.K ta tv f) := by
  intro pins s σ H D I h
  refine plainObj_wpAny_Assign_Attribute (thn (hv pins s σ H _ I h) fun u s1 ⟨y, H1, I1, ry, q⟩ => thn (ha pins s1 σ H1 _ I1 q) fun ov s2 ⟨x, H2, I2, rx, a, C, dx, fs, ex, ea, c, n, l, q2⟩ => ?_) hs
  subst ex
  obtain rfl : ov = Value.ref a := rx
  exact setattr_ok I2 ea c n l ry fun s3 I3 => ⟨σ, _, I3, q2⟩
theorem ps_fldaug {op : Operator} {rd : V → V → Hp → VK → Prop} (ha : PE X o ta) (hv : PE X value tv) (hop : InOp X op rd) : PS X (.AugAssign (.Attribute o f tpos) op value pos) (sFldAug X.K ta tv rd f) := by
  intro pins s σ H D I h
  refine wpAny_AugAssign_AttributeAny (thn (ha pins s σ H _ I h) fun ov s1 ⟨x, H1, I1, rx, a, C, dx, fs, v, ex, ea, c, n, l, q⟩ => ?_)
  subst ex
  obtain rfl : ov = Value.ref a := rx
  refine getattr_ok I1 ea c n l fun u s2 I2 ru => thn (hv pins s2 σ H1 _ I2 q) fun w3 s3 ⟨y, H2, I3, ry, q3⟩ => thn (hop pins s3 σ H2 v y u w3 _ I3 ru ry q3) fun w4 s4 ⟨z, H3, I4, rz, dx', fs', ea', l', q4⟩ => ?_
  exact setattr_ok I4 ea' c n l' rz fun s5 I5 => ⟨σ, _, I5, q4⟩
def rAdd : V → V → Hp → VK → Prop := fun x y H Q => ∃ i j, x = .int i ∧ y = .int j ∧ Q (.int (i + j)) H
def rSub : V → V → Hp → VK → Prop := fun x y H Q => ∃ i j, x = .int i ∧ y = .int j ∧ Q (.int (i - j)) H
theorem in_add : InOp X .Add rAdd := by
  rintro pins s σ H x y u v Q I rx ry ⟨i, j, rfl, rfl, q⟩
  obtain ⟨t, rfl⟩ := (show ∃ t, u = Value.int i t from rx)
  obtain ⟨t', rfl⟩ := (show ∃ t', v = Value.int j t' from ry)
  exact PyProof.Rows.iadd_int ⟨.int (i + j), H, I.tok _, ⟨_, rfl⟩, q⟩
theorem in_sub : InOp X .Sub rSub := by
  rintro pins s σ H x y u v Q I rx ry ⟨i, j, rfl, rfl, q⟩
  obtain ⟨t, rfl⟩ := (show ∃ t, u = Value.int i t from rx)
  obtain ⟨t', rfl⟩ := (show ∃ t', v = Value.int j t' from ry)
  exact PyProof.Rows.isub_int ⟨.int (i - j), H, I.tok _, ⟨_, rfl⟩, q⟩

/-- what is between an instance and its method: the tree of a method call -/
theorem methcall_of {pl : Sem Bool} {m : Str} {apos : Pos} {args : List Expr} {pins : List (Addr × Obj)} {s : Shared} {σ : St} {H : Hp} {Q : Value → Shared → Prop} {te : TE} (he : PE X e te) (I : Inv X pins σ H s)
    (h : te σ H fun x H1 => ∃ a C dx fs g, x = .ref a ∧ H1 a = some (.ins C dx fs) ∧ Cls X.K C ∧ Meth X.K C m g ∧ fs.lookup m = none ∧
      ∀ s1, Inv X pins σ H1 s1 → wpAny (model X.prog X.w) X.A (callWith pos (.ref g) [.ref a] (backTo pos (starEach args X.env)) (backToKw pos (keywordEach [] X.env))) Q X.xe s1)
    (ht : eval (.Call (.Attribute e m apos) args [] pos) X.env = (do
      let ov ← eval e X.env
      standAt apos.atName
      let (f, first) ← holding [ov] (getMethod ov m pl)
      callWith pos f first (backTo pos (starEach args X.env)) (backToKw pos (keywordEach [] X.env)))) :
    wpAny (model X.prog X.w) X.A (eval (.Call (.Attribute e m apos) args [] pos) X.env) Q X.xe s := by
  refine PySem.W.methodCall_KW (pl := pl) (thn (he pins s σ H _ I h) fun u s1 ⟨x, H1, I1, rx, a, C, dx, fs, g, ex, ea, c, k, l, q⟩ => ?_) ht
  subst ex
  obtain rfl : u = Value.ref a := rx
  exact getmeth_ok I1 ea c k l (q s1 I1)
end

/-! ### isinstance -/
section
variable {X : Cx} {pins : List (Addr × Obj)} {σ : St} {H : Hp} {s : Shared} {A : Around} {E : Value → Shared → Prop} {Q : Value → Shared → Prop} {c : Value} {b : Bool}
/-- the type of a value, as the fragment's deciders take it; for an instance its class -/
inductive TyOf (K : PySem.W.Frag) (H : Hp) : V → Value → Prop where
  | non : TyOf K H .non (.type "NoneType")
  | bl (x : Bool) : TyOf K H (.bl x) (.type "bool")
  | int (i : Int) : TyOf K H (.int i) (.type "int")
  | str (x : Str) : TyOf K H (.str x) (.type "str")
  | flt (x : UInt64) : TyOf K H (.flt x) (.type "float")
  | lst {a : Addr} {xs : List V} (e : H a = some (.lst xs)) : TyOf K H (.ref a) (.type "list")
  | frz {a : Addr} {o : Obj} {xs : List V} (e : H a = some (.frz o (.lst xs))) : TyOf K H (.ref a) (.type "list")
  | tup {a : Addr} {xs : List V} (e : H a = some (.tup xs)) : TyOf K H (.ref a) (.type "tuple")
  | dK {a : Addr} {kvs : List (Key × V)} (e : H a = some (.dK kvs)) : TyOf K H (.ref a) (.type "dict")
  | dT {a : Addr} {kvs : List (List Key × V)} (e : H a = some (.dT kvs)) : TyOf K H (.ref a) (.type "dict")
  | ins {a C dx : Addr} {fs : List (Str × V)} (e : H a = some (.ins C dx fs)) (cl : Cls K C) (ha : PySem.W.findIn K (.ref C) "__class__" = some (some (.builtin "object.__class__")))
      (hn : PySem.W.specialIn K (.builtin "object.__class__") "__get__" = some (some (.builtin "getset_descriptor.__get__"))) (htk : PySem.W.takesIn K (.builtin "object.__class__") = some true)
      (hm : PySem.W.mroIn K C (.type "object") = some true) : TyOf K H (.ref a) (.ref C)
/-- isinstance(x, c) for one class c, a built-in or an own one: kitOne's answer -/
theorem isinst_ok {x : V} {u t : Value} (I : Inv X pins σ H s) (rx : RelV x u) (ty : TyOf X.K H x t) (e : PySem.W.kitOne X.K t c = some b) (h : ∀ tk, Q (.bool b) { s with toks := tk }) :
    wpAny (model X.prog X.w) A (call (.builtin "isinstance") [u, c]) Q E s := by
  cases ty with
  | non => cases (show u = Value.none from rx); exact PySem.W.kia_one PySem.W.kitx_none I.kIn True.intro e (fun z => nomatch z) h
  | bl y => cases (show u = Value.bool y from rx); exact PySem.W.kia_one PySem.W.kitx_bool I.kIn True.intro e (fun z => nomatch z) h
  | int i => obtain ⟨t, q⟩ := (show ∃ t, u = Value.int i t from rx); cases q; exact PySem.W.kia_one PySem.W.kitx_int I.kIn True.intro e (fun z => nomatch z) h
  | str y => obtain ⟨t, q⟩ := (show ∃ t, u = Value.str y t from rx); cases q; exact PySem.W.kia_one PySem.W.kitx_str I.kIn True.intro e (fun z => nomatch z) h
  | flt y => obtain ⟨t, q⟩ := (show ∃ t, u = Value.float y t from rx); cases q; exact PySem.W.kia_one PySem.W.kitx_float I.kIn True.intro e (fun z => nomatch z) h
  | @lst a xs ea =>
    cases (show u = Value.ref a from rx)
    obtain ⟨_, _, n, _, h1⟩ := (show ObjOk X.prog X.w H s.heap a (.lst xs) from I.hok a _ ea)
    exact PySem.W.kia_one PySem.W.kitx_list I.kIn ⟨_, h1, rfl⟩ e (fun z => nomatch z) h
  | @frz a ob xs ea =>
    cases (show u = Value.ref a from rx)
    obtain ⟨_, _, _, n, _, h1⟩ := (show ObjOk X.prog X.w H s.heap a (.frz ob (.lst xs)) from I.hok a _ ea)
    exact PySem.W.kia_one PySem.W.kitx_list I.kIn ⟨_, h1, rfl⟩ e (fun z => nomatch z) h
  | @tup a xs ea =>
    cases (show u = Value.ref a from rx)
    obtain ⟨_, _, _, p⟩ := (show ObjOk X.prog X.w H s.heap a (.tup xs) from I.hok a _ ea)
    obtain ⟨o, h1, h2, _⟩ := p
    exact PySem.W.kia_one PySem.W.kitx_tuple I.kIn ⟨o, h1, h2⟩ e (fun z => nomatch z) h
  | @dK a kvs ea =>
    cases (show u = Value.ref a from rx)
    obtain ⟨_, _, vs, _, p⟩ := (show ObjOk X.prog X.w H s.heap a (.dK kvs) from I.hok a _ ea)
    obtain ⟨o, es, ep, h1, h2, _⟩ := p
    exact PySem.W.kia_one PySem.W.kitx_dict I.kIn ⟨o, h1, h2.1⟩ e (fun z => nomatch z) h
  | @dT a kvs ea =>
    cases (show u = Value.ref a from rx)
    obtain ⟨_, _, xs, _, o, es, ep, h1, h2, _⟩ := (show ObjOk X.prog X.w H s.heap a (.dT kvs) from I.hok a _ ea)
    exact PySem.W.kia_one PySem.W.kitx_dict I.kIn ⟨o, h1, h2.1⟩ e (fun z => nomatch z) h
  | @ins a C dx fs ea cl ha hn htk hm =>
    cases (show u = Value.ref a from rx)
    obtain ⟨mA, O, _⟩ := ins_get I.hok ea
    obtain ⟨od, J, _⟩ := O.look
    exact PySem.W.kia_one (PySem.W.kitx_own (cl.get _) cl.hd ha hn htk hm) I.kIn J e (fun z => nomatch z) h
end
end L2

namespace L2
open PySem PySem.Spec PyProof.Rows

/-! ### room -/
structure Room (k : Nat) (A : Around) : Prop where
  hd : A.handled = none
  dp : A.depth + 3 * k + 5 < recursionLimit
  un : A.units + 16 * k + 200 < cLine
theorem Room.mono {j k : Nat} {A : Around} (r : Room k A) (h : j ≤ k) : Room j A := ⟨r.hd, by have := r.dp; omega, by have := r.un; omega⟩
theorem Room.deeper {k : Nat} {A : Around} (r : Room (k + 1) A) (env : Env) : Room k (A.deeper env) :=
  ⟨r.hd, by have := r.dp; show A.depth + 1 + 3 * k + 5 < _; omega, by have := r.un; show A.units + 3 + 16 * k + 200 < _; omega⟩
theorem Room.in1 {k : Nat} {A : Around} (r : Room (k + 1) A) : Room k A.in1 :=
  ⟨r.hd, by have := r.dp; show A.depth + 3 * k + 5 < _; omega, by have := r.un; show A.units + 1 + 16 * k + 200 < _; omega⟩
theorem make_depth {A : Around} {C : Addr} {us : List Value} {kw : List (Str × Value)} : (A.under (.builtin "type.__call__" ⟨.ref C :: us, kw⟩)).depth = A.depth + 1 := by
  first | rfl | simp [Around.under, Code.weight, Code.isCreation, Code.isGuard, Code.isCaller, Code.frames, Code.isFrame, guardIds]
theorem make_units {A : Around} {C : Addr} {us : List Value} {kw : List (Str × Value)} : (A.under (.builtin "type.__call__" ⟨.ref C :: us, kw⟩)).units = A.units + 1 := by
  first | rfl | simp [Around.under, Code.cUnits, Code.frames, Code.isFrame]
theorem Room.make {k : Nat} {A : Around} (r : Room (k + 1) A) (C : Addr) (us : List Value) (kw : List (Str × Value)) : Room k (A.under (.builtin "type.__call__" ⟨.ref C :: us, kw⟩)) :=
  ⟨r.hd, by have := r.dp; rw [make_depth]; omega, by have := r.un; rw [make_units]; omega⟩
theorem Room.depth {k : Nat} {A : Around} (r : Room k A) : A.depth < recursionLimit := by have := r.dp; omega
theorem Room.units {k : Nat} {A : Around} (r : Room k A) : A.units + 64 < cLine := by have := r.un; omega
theorem Room.units0 {k : Nat} {A : Around} (r : Room k A) : A.units < cLine := by have := r.un; omega

/-! ### argument lists and displays -/
def tNil : TA := fun _ H Q => Q [] H
def tCons (ta : TE) (tr : TA) : TA := fun σ H Q => ta σ H fun x H1 => tr σ H1 fun xs H2 => Q (x :: xs) H2
section
variable {X : Cx} {e : Expr} {es : List Expr} {te : TE} {t : TA} {pos : Pos}
theorem pa_nil : PA X [] tNil := fun _ _ _ _ H Q I h => Calls.spliced_nil ⟨[], H, I, .nil, h⟩
theorem pa_cons (ha : PE X e te) (hr : PA X es t) (hs : starEach (e :: es) X.env = (false, eval e X.env) :: starEach es X.env := by rfl) : PA X (e :: es) (tCons te t) := by
  intro pos pins s σ H Q I h
  rw [hs]
  show wpAny _ _ (spliced ((false, eval e X.env) :: backTo pos (starEach es X.env))) _ _ s
  refine Calls.spliced_cons (thn (ha pins s σ H _ I h) fun u s1 ⟨x, H1, I1, r1, q1⟩ => ?_)
  exact thn (hr pos pins s1 σ H1 _ I1 q1) fun us s2 ⟨xs, H2, I2, r2, q2⟩ => ⟨x :: xs, H2, I2, .cons r1 r2, q2⟩

/-- a tuple, a list of written items -/
def tTup (t : TA) : TE := fun σ H Q => t σ H fun xs H1 => xs.length ≤ sizeLine ∧ ∀ p, H1 p = none → Q (.ref p) (upd H1 p (.tup xs))
def tLst (t : TA) : TE := fun σ H Q => t σ H fun xs H1 => xs.length ≤ sizeLine ∧ ∀ p, H1 p = none → Q (.ref p) (upd H1 p (.lst xs))
theorem pe_tup {x1} (h : PA X es t) : PE X (.Tuple es x1 pos) (tTup t) := by
  intro pins s σ H Q I hq
  refine wpAny_Tuple_spliced (thn (h pos pins s σ H _ I hq) fun us s1 ⟨xs, H1, I1, r, z, q⟩ => ⟨by rw [← r.length]; exact z, ?_⟩)
  have hf : H1 s1.heap.objs.size = none := I1.hok.fresh (Nat.le_refl _)
  refine ⟨.ref s1.heap.objs.size, upd H1 s1.heap.objs.size (.tup xs), I1.laid (t' := s1.toks) (fun b u e => Heap.get?_push_of_some _ e) (Nat.le_refl _) ?_, rfl, q _ hf⟩
  exact ⟨z, us, r, ⟨_, Heap.get?_push_size _ rfl, rfl, _, rfl⟩⟩
theorem pe_lst (h : PA X es t) : PE X (.List es pos) (tLst t) := by
  intro pins s σ H Q I hq
  refine wpAny_List_spliced (thn (h pos pins s σ H _ I hq) fun us s1 ⟨xs, H1, I1, r, z, q⟩ => ⟨by rw [← r.length]; exact z, ?_⟩)
  have hf : H1 s1.heap.objs.size = none := I1.hok.fresh (Nat.le_refl _)
  refine ⟨.ref s1.heap.objs.size, upd H1 s1.heap.objs.size (.lst xs), I1.laid (t' := s1.toks) (fun b u e => Heap.get?_push_of_some _ e) (Nat.le_refl _) ?_, rfl, q _ hf⟩
  exact ⟨z, us, 0, r, Heap.get?_push_size _ rfl⟩
end

/-! ### what a def promises -/
/-- a def's promise: the bound arguments in the parameters' order, the heap, the wanted end, the wanted exception -/
abbrev Sp := List V → Hp → VK → XK → Prop
/-- how an exception lies behind a call (file 08 gives it): the callers' frames, abstract heap and state ahead of the call, the wish, the exception, the state -/
abbrev CXT := List Env → Hp → Shared → XK → Value → Shared → Prop

/-- the state at a call -/
structure Env0 (P : Program) (w : World) (K : PySem.W.Frag) (mg : Str → Option Value) (base : Heap) (A : Around) (outer : List Env) (s : Shared) (H : Hp) : Prop where
  frames : A.frames = some outer
  mod : Mod K mg base
  bs : ∀ b o, base.get? b = some o → s.heap.get? b = some o ∧ H b = none
  bsz : base.objs.size ≤ s.heap.objs.size
  funs : s.heap.FunFrames base outer
  frf : ∀ b ∈ frs outer, H b = none
  hok : HOk P w H s.heap
  bare : AllBare s.gens
/-- a call's end -/
def CE (outer : List Env) (P : Program) (w : World) (H : Hp) (s : Shared) (Q : VK) (u : Value) (s' : Shared) : Prop :=
  ∃ v H', s'.os = s.os ∧ AllBare s'.gens ∧ Un (frs outer) [] H H' s.heap s'.heap ∧ HOk P w H' s'.heap ∧ RelV v u ∧ Q v H'
def CR (CX : CXT) (outer : List Env) (P : Program) (w : World) (H : Hp) (s : Shared) (Q : VK) (E : XK) (r : Result) (s' : Shared) : Prop :=
  match r with
  | .ok (.ret u) => CE outer P w H s Q u s'
  | .ok _ => False
  | .error e => CX outer H s E e s'
structure FnOk (P : Program) (w : World) (K : PySem.W.Frag) (mg : Str → Option Value) (base : Heap) (CX : CXT) (k : Nat) (f : Addr) (fd : FuncData) (ps : List Str) (sp : Sp) : Prop where
  len : ∀ vs H Q E, sp vs H Q E → vs.length = ps.length
  run : ∀ (A : Around) (outer : List Env) (s : Shared) (H : Hp) (args : Args) (us : List Value) (vs : List V) (Q : VK) (E : XK), Room k A → Env0 P w K mg base A outer s H → BindsTo s fd args (ps.zip us) → Vals vs us → sp vs H Q E →
    codeAny (model P w) A (.call (.ref f) args) (CR CX outer P w H s Q E) s
theorem FnOk.mono {P : Program} {w : World} {K : PySem.W.Frag} {mg : Str → Option Value} {base : Heap} {CX : CXT} {j k : Nat} {f : Addr} {fd : FuncData} {ps : List Str} {sp : Sp} (F : FnOk P w K mg base CX j f fd ps sp) (h : j ≤ k) :
    FnOk P w K mg base CX k f fd ps sp := ⟨F.len, fun A outer s H args us vs Q E hr => F.run A outer s H args us vs Q E (hr.mono h)⟩
/-- a weaker promise -/
theorem FnOk.imp {P : Program} {w : World} {K : PySem.W.Frag} {mg : Str → Option Value} {base : Heap} {CX : CXT} {k : Nat} {f : Addr} {fd : FuncData} {ps : List Str} {sp sp' : Sp} (F : FnOk P w K mg base CX k f fd ps sp)
    (h : ∀ vs H Q E, sp' vs H Q E → sp vs H Q E) : FnOk P w K mg base CX k f fd ps sp' :=
  ⟨fun vs H Q E q => F.len vs H Q E (h _ _ _ _ q), fun A outer s H args us vs Q E hr he hb hv hs => F.run A outer s H args us vs Q E hr he hb hv (h _ _ _ _ hs)⟩

theorem Env0.make {P : Program} {w : World} {K : PySem.W.Frag} {mg : Str → Option Value} {base : Heap} {A : Around} {outer : List Env} {s : Shared} {H : Hp} (e : Env0 P w K mg base A outer s H) (C : Addr) (us : List Value) (kw : List (Str × Value)) :
    Env0 P w K mg base (A.under (.builtin "type.__call__" ⟨.ref C :: us, kw⟩)) outer s H := ⟨by first | exact e.frames | (simpa [Around.under, Code.envs, Code.isFrame, pushEnvs] using e.frames), e.mod, e.bs, e.bsz, e.funs, e.frf, e.hok, e.bare⟩
theorem Env0.in1 {P : Program} {w : World} {K : PySem.W.Frag} {mg : Str → Option Value} {base : Heap} {A : Around} {outer : List Env} {s : Shared} {H : Hp} (e : Env0 P w K mg base A outer s H) :
    Env0 P w K mg base A.in1 outer s H := ⟨e.frames, e.mod, e.bs, e.bsz, e.funs, e.frf, e.hok, e.bare⟩

section
variable {X : Cx} {pins : List (Addr × Obj)} {σ : St} {H : Hp} {s s' : Shared}
/-- from a body: what a callee wants -/
theorem Inv.env0 (I : Inv X pins σ H s) : Env0 X.prog X.w X.K X.mg X.base X.A X.stack s H :=
  ⟨I.ok.frames, I.ok.mod, I.bs, Nat.le_trans I.ok.bsz I.sz, I.stack, I.stkFree, I.hok, I.bare⟩
/-- behind a call -/
theorem Inv.after {Q : VK} {u : Value} (I : Inv X pins σ H s) (h : CE X.stack X.prog X.w H s Q u s') : EP X pins σ Q u s' := by
  obtain ⟨v, H', os, bare, un, hok, r, q⟩ := h
  obtain ⟨hh, g, d, t, os'⟩ := s'
  obtain rfl : os' = s.os := os
  exact ⟨v, H', I.call (h' := hh) (g' := g) (d' := d) (t' := t) (ch := []) un hok bare (fun b z => absurd z (by simp)), r, q⟩
end

/-! ### calls -/
/-- f(..): the written arguments, then the defaults dvs; E: what is wanted of an exception -/
def tCall (sp : Sp) (dvs : List V) (E : XK) (t : TA) : TE := fun σ H Q => t σ H fun vs H1 => sp (vs ++ dvs) H1 Q E
/-- o.m(..) of an instance of the class at C -/
def tMeth (C : Addr) (m : Str) (sp : Sp) (dvs : List V) (E : XK) (ta : TE) (t : TA) : TE := fun σ H Q => ta σ H fun x H1 => ∃ a dx fs, x = .ref a ∧ H1 a = some (.ins C dx fs) ∧ fs.lookup m = none ∧
  t σ H1 fun vs H2 => sp (x :: (vs ++ dvs)) H2 Q E
/-- C(..): a new instance and its dict, then __init__ -/
def tMake (C : Addr) (sp : Sp) (dvs : List V) (E : XK) (t : TA) : TE := fun σ H Q => t σ H fun vs H1 => ∀ x dx, H1 x = none → H1 dx = none → dx ≠ x →
  sp (.ref x :: (vs ++ dvs)) (upd (upd H1 dx (.own x)) x (.ins C dx [])) (fun v H2 => v = .non ∧ Q (.ref x) H2) E

/-- how the parameters are bound: us the positional arguments, kw the keywords' values by name, ds the defaults that fill up -/
def Binds (K : PySem.W.Frag) (fd : FuncData) (ps : List Str) (ds : List Value) : Prop :=
  ∀ (s : Shared) (us : List Value), K.In s.heap → (us ++ ds).length = ps.length → BindsTo s fd ⟨us, []⟩ (ps.zip (us ++ ds))
/-- every parameter is given -/
theorem Binds.all {K : PySem.W.Frag} {fd : FuncData} {ps : List Str} (h : ∀ us : List Value, us.length = ps.length → bindArgs fd ⟨us, []⟩ = pure (ps.zip us)) : Binds K fd ps [] := fun s us _ hl => by
  rw [List.append_nil] at hl ⊢
  exact .of_eq (h us hl)

/-- an exception of a callee reaches what this body wants of exceptions -/
def Passes (CX : CXT) (X : Cx) (E : XK) : Prop := ∀ (pins : List (Addr × Obj)) (σ : St) (H : Hp) (s : Shared) (e : Value) (s' : Shared), Inv X pins σ H s → CX X.stack H s E e s' → X.xe e s'

section
variable {X : Cx} {CX : CXT} {k : Nat} {f C : Addr} {fd : FuncData} {ps : List Str} {sp : Sp} {dvs : List V} {ds : List Value} {E : XK} {x m : Str} {p pos apos : Pos} {e o : Expr} {es : List Expr} {ta : TE} {t : TA}

/-- the callee runs -/
theorem run_fn {pins : List (Addr × Obj)} {σ : St} {H : Hp} {s : Shared} {Q : VK} {us : List Value} {vs : List V} (F : FnOk X.prog X.w X.K X.mg X.base CX k f fd ps sp) (hr : Room k X.A) (hb : Binds X.K fd ps ds) (hd : Vals dvs ds) (hx : Passes CX X E)
    (I : Inv X pins σ H s) (r : Vals vs us) (h : sp (vs ++ dvs) H Q E) : wpAny (model X.prog X.w) X.A (call (.ref f) us) (EP X pins σ Q) X.xe s := by
  have r2 : Vals (vs ++ dvs) (us ++ ds) := r.append hd
  have hl : (us ++ ds).length = ps.length := by rw [← r2.length]; exact F.len _ _ _ _ h
  refine wpAny_call (codeAny_mono (F.run X.A X.stack s H ⟨us, []⟩ (us ++ ds) (vs ++ dvs) Q E hr I.env0 (hb s us I.kIn hl) r2 h) fun r s' hq => ?_)
  cases r with
  | error e => exact hx pins σ H s e s' I hq
  | ok fl =>
    cases fl with
    | ret u => exact I.after hq
    | next => exact False.elim hq
    | brk => exact False.elim hq
    | cont => exact False.elim hq

theorem pe_call (F : FnOk X.prog X.w X.K X.mg X.base CX k f fd ps sp) (hr : Room k X.A) (hg : Gl X x) (hm : X.mg x = some (.ref f)) (hk : PySem.W.keepIn X.K (.ref f) = true) (hb : Binds X.K fd ps ds) (hd : Vals dvs ds) (hx : Passes CX X E)
    (ha : PA X (e :: es) t) (hdb : (x == ("__debug__" : Str)) = false := by decide) (he : starEach (e :: es) X.env = (false, eval e X.env) :: starEach es X.env := by rfl) (hpl : (backTo pos (starEach es X.env)).any (·.1) = false := by rfl) :
    PE X (.Call (.Name x p) (e :: es) [] pos) (tCall sp dvs E t) := by
  intro pins s σ H Q I h
  refine wpAny_Call_Name_kw (ld_glob I hg hm ?_ hdb)
  refine PySem.W.callWith_K (h₀ := X.base) I.ok.mod.kin hk (thn (ha pos pins s σ H _ I h) fun us s1 ⟨vs, H1, I1, r, q⟩ => ⟨I1.kIn, ?_⟩) he hpl
  exact run_fn F hr hb hd hx I1 r q
theorem pe_call0 (F : FnOk X.prog X.w X.K X.mg X.base CX k f fd ps sp) (hr : Room k X.A) (hg : Gl X x) (hm : X.mg x = some (.ref f)) (hk : PySem.W.keepIn X.K (.ref f) = true) (hb : Binds X.K fd ps ds) (hd : Vals dvs ds) (hx : Passes CX X E)
    (hdb : (x == ("__debug__" : Str)) = false := by decide) : PE X (.Call (.Name x p) [] [] pos) (tCall sp dvs E tNil) := by
  intro pins s σ H Q I h
  refine wpAny_Call_Name_kw (ld_glob I hg hm ?_ hdb)
  exact PySem.W.callWith_K0 I.kIn hk (run_fn (us := []) F hr hb hd hx I .nil h)

/-- o.m(e, ..) -/
theorem pe_meth {pl : Sem Bool} (he : PE X o ta) (c : Cls X.K C) (hm : Meth X.K C m f) (F : FnOk X.prog X.w X.K X.mg X.base CX k f fd ps sp) (hr : Room k X.A) (hb : Binds X.K fd ps ds) (hd : Vals dvs ds) (hx : Passes CX X E) (ha : PA X (e :: es) t)
    (hst : starEach (e :: es) X.env = (false, eval e X.env) :: starEach es X.env := by rfl) (hpl : (backTo pos (starEach es X.env)).any (·.1) = false := by rfl)
    (ht : eval (.Call (.Attribute o m apos) (e :: es) [] pos) X.env = (do
      let ov ← eval o X.env
      standAt apos.atName
      let (f, first) ← holding [ov] (getMethod ov m pl)
      callWith pos f first (backTo pos (starEach (e :: es) X.env)) (backToKw pos (keywordEach [] X.env))) := by rfl) :
    PE X (.Call (.Attribute o m apos) (e :: es) [] pos) (tMeth C m sp dvs E ta t) := by
  intro pins s σ H Q I h
  refine PySem.W.methodCall_KW (pl := pl) (thn (he pins s σ H _ I h) fun u s1 ⟨x, H1, I1, rx, a, dx, fs, ex, ea, l, q⟩ => ?_) ht
  subst ex
  obtain rfl : u = Value.ref a := rx
  refine getmeth_ok I1 ea c hm l ?_
  refine PySem.W.callWith_K (first := [.ref a]) (h₀ := X.base) I.ok.mod.kin hm.kp (thn (ha pos pins s1 σ H1 _ I1 q) fun us s2 ⟨vs, H2, I2, r, q2⟩ => ⟨I2.kIn, ?_⟩) hst hpl
  exact run_fn (us := .ref a :: us) (vs := .ref a :: vs) F hr hb hd hx I2 (.cons rfl r) q2
/-- o.m() -/
theorem pe_meth0 {pl : Sem Bool} (he : PE X o ta) (c : Cls X.K C) (hm : Meth X.K C m f) (F : FnOk X.prog X.w X.K X.mg X.base CX k f fd ps sp) (hr : Room k X.A) (hb : Binds X.K fd ps ds) (hd : Vals dvs ds) (hx : Passes CX X E)
    (ht : eval (.Call (.Attribute o m apos) [] [] pos) X.env = (do
      let ov ← eval o X.env
      standAt apos.atName
      let (f, first) ← holding [ov] (getMethod ov m pl)
      callWith pos f first (backTo pos (starEach [] X.env)) (backToKw pos (keywordEach [] X.env))) := by rfl) :
    PE X (.Call (.Attribute o m apos) [] [] pos) (tMeth C m sp dvs E ta tNil) := by
  intro pins s σ H Q I h
  refine PySem.W.methodCall_KW (pl := pl) (thn (he pins s σ H _ I h) fun u s1 ⟨x, H1, I1, rx, a, dx, fs, ex, ea, l, q⟩ => ?_) ht
  subst ex
  obtain rfl : u = Value.ref a := rx
  refine getmeth_ok I1 ea c hm l ?_
  exact PySem.W.callWith_K0 (first := [.ref a]) I1.kIn hm.kp (run_fn (us := [.ref a]) (vs := [.ref a]) F hr hb hd hx I1 (.cons rfl .nil) q)

/-- what a class must have to be made -/
structure Mk (K : PySem.W.Frag) (C f : Addr) : Prop where
  makes : PySem.W.makesIn K C = true
  init : PySem.W.findIn K (.ref C) "__init__" = some (some (.ref f))
  fn : PySem.W.isFn K (.ref f) = true
  kp : PySem.W.keepIn K (.ref C) = true

theorem run_make {pins : List (Addr × Obj)} {σ : St} {H : Hp} {s : Shared} {Q : VK} {us : List Value} {vs : List V} (M : Mk X.K C f) (F : FnOk X.prog X.w X.K X.mg X.base CX k f fd ps sp) (hr : Room (k + 1) X.A) (hb : Binds X.K fd ps ds) (hd : Vals dvs ds)
    (hx : Passes CX X E) (I : Inv X pins σ H s) (r : Vals vs us)
    (h : ∀ x dx, H x = none → H dx = none → dx ≠ x → sp (.ref x :: (vs ++ dvs)) (upd (upd H dx (.own x)) x (.ins C dx [])) (fun v H2 => v = .non ∧ Q (.ref x) H2) E) :
    wpAny (model X.prog X.w) X.A (call (.ref C) us) (EP X pins σ Q) X.xe s := by
  have hq := h (s.heap.objs.size + 1) s.heap.objs.size (I.hok.fresh (Nat.le_succ _)) (I.hok.fresh (Nat.le_refl _)) (Nat.ne_of_lt (Nat.lt_succ_self _))
  have I2 := Inv.made (C := C) I
  have r2 : Vals (V.ref (s.heap.objs.size + 1) :: (vs ++ dvs)) (Value.ref (s.heap.objs.size + 1) :: (us ++ ds)) := .cons rfl (r.append hd)
  have hl : (Value.ref (s.heap.objs.size + 1) :: us ++ ds).length = ps.length := by
    have e := r2.length
    rw [F.len _ _ _ _ hq] at e
    exact e.symm
  refine wpAny_call (make_map (f := f) I.kIn M.makes M.init (beq_iff_eq.mp M.fn) (codeAny_mono (F.run _ X.stack _ _ ⟨Value.ref (s.heap.objs.size + 1) :: us, []⟩ (Value.ref (s.heap.objs.size + 1) :: (us ++ ds)) _ _ E (hr.make C us [])
    (I2.env0.make C us []) (hb _ (Value.ref (s.heap.objs.size + 1) :: us) I2.kIn hl) r2 hq) fun r s' hq' => ?_))
  cases r with
  | error e => exact hx pins σ _ _ e s' I2 hq'
  | ok fl =>
    cases fl with
    | ret u =>
      obtain ⟨v, H', I3, rv, ev, q3⟩ := I2.after hq'
      subst ev
      exact ⟨rv, ⟨V.ref (s.heap.objs.size + 1), H', I3, rfl, q3⟩⟩
    | next => exact False.elim hq'
    | brk => exact False.elim hq'
    | cont => exact False.elim hq'
theorem pe_make (M : Mk X.K C f) (F : FnOk X.prog X.w X.K X.mg X.base CX k f fd ps sp) (hr : Room (k + 1) X.A) (hg : Gl X x) (hm : X.mg x = some (.ref C)) (hb : Binds X.K fd ps ds) (hd : Vals dvs ds) (hx : Passes CX X E)
    (ha : PA X (e :: es) t) (hdb : (x == ("__debug__" : Str)) = false := by decide) (he : starEach (e :: es) X.env = (false, eval e X.env) :: starEach es X.env := by rfl) (hpl : (backTo pos (starEach es X.env)).any (·.1) = false := by rfl) :
    PE X (.Call (.Name x p) (e :: es) [] pos) (tMake C sp dvs E t) := by
  intro pins s σ H Q I h
  refine wpAny_Call_Name_kw (ld_glob I hg hm ?_ hdb)
  refine PySem.W.callWith_K (h₀ := X.base) I.ok.mod.kin M.kp (thn (ha pos pins s σ H _ I h) fun us s1 ⟨vs, H1, I1, r, q⟩ => ⟨I1.kIn, ?_⟩) he hpl
  exact run_make M F hr hb hd hx I1 r q
theorem pe_make0 (M : Mk X.K C f) (F : FnOk X.prog X.w X.K X.mg X.base CX k f fd ps sp) (hr : Room (k + 1) X.A) (hg : Gl X x) (hm : X.mg x = some (.ref C)) (hb : Binds X.K fd ps ds) (hd : Vals dvs ds) (hx : Passes CX X E)
    (hdb : (x == ("__debug__" : Str)) = false := by decide) : PE X (.Call (.Name x p) [] [] pos) (tMake C sp dvs E tNil) := by
  intro pins s σ H Q I h
  refine wpAny_Call_Name_kw (ld_glob I hg hm ?_ hdb)
  exact PySem.W.callWith_K0 I.kIn M.kp (run_make (us := []) M F hr hb hd hx I .nil h)
end

/-! ### keywords -/
/-- the values of the keywords, from the left -/
def PK (X : Cx) (kws : List Keyword) (t : TA) : Prop :=
  ∀ (pos : Pos) (pins : List (Addr × Obj)) (s : Shared) (σ : St) (H : Hp) (Q : List V → Hp → Prop), Inv X pins σ H s → t σ H Q → wpAny (model X.prog X.w) X.A (evalAll ((backToKw pos (keywordEach kws X.env)).map (·.2))) (AP X pins σ Q) X.xe s
section
variable {X : Cx} {CX : CXT} {k : Nat} {f C : Addr} {fd : FuncData} {ps ks : List Str} {sp : Sp} {E : XK} {x m : Str} {p pos apos kpos : Pos} {e o : Expr} {es : List Expr} {kws : List Keyword} {te ta : TE} {t tk : TA} {nm : Option Str}
theorem pk_nil : PK X [] tNil := fun _ _ _ _ H Q I h => wpAny_evalAll_nil ⟨[], H, I, .nil, h⟩
theorem pk_cons (ha : PE X e te) (hr : PK X kws t) : PK X (⟨nm, e, kpos⟩ :: kws) (tCons te t) := by
  intro pos pins s σ H Q I h
  show wpAny _ _ (evalAll ((do let v ← eval e X.env; standAt pos; pure v) :: (backToKw pos (keywordEach kws X.env)).map (·.2))) _ _ s
  refine wpAny_evalAll_cons (wpAny_bind (thn (ha pins s σ H _ I h) fun u s1 ⟨x, H1, I1, r1, q1⟩ => wpAny_bind (wpAny_standAt (wpAny_pure ?_))))
  exact thn (hr pos pins s1 σ H1 _ I1 q1) fun us s2 ⟨xs, H2, I2, r2, q2⟩ => ⟨x :: xs, H2, I2, .cons r1 r2, q2⟩

/-- how a call with keywords binds: g puts the positional values us and the keywords' values ws (names ks) in the parameters' order, defaults among them -/
structure KBinds (K : PySem.W.Frag) (fd : FuncData) (ps ks : List Str) (g : List Value → List Value → List Value) (gV : List V → List V → List V) : Prop where
  to : ∀ (s : Shared) (us ws : List Value), K.In s.heap → (g us ws).length = ps.length → BindsTo s fd ⟨us, ks.zip ws⟩ (ps.zip (g us ws))
  rel : ∀ {vs : List V} {us : List Value} {zs : List V} {ws : List Value}, Vals vs us → Vals zs ws → Vals (gV vs zs) (g us ws)
def tCallK (sp : Sp) (gV : List V → List V → List V) (E : XK) (t tk : TA) : TE := fun σ H Q => t σ H fun vs H1 => tk σ H1 fun zs H2 => sp (gV vs zs) H2 Q E
variable {g : List Value → List Value → List Value} {gV : List V → List V → List V}
theorem run_fnk {pins : List (Addr × Obj)} {σ : St} {H : Hp} {s : Shared} {Q : VK} {us ws : List Value} {vs zs : List V} (F : FnOk X.prog X.w X.K X.mg X.base CX k f fd ps sp) (hr : Room k X.A) (hb : KBinds X.K fd ps ks g gV) (hx : Passes CX X E)
    (I : Inv X pins σ H s) (r : Vals vs us) (rz : Vals zs ws) (h : sp (gV vs zs) H Q E) : wpAny (model X.prog X.w) X.A (call (.ref f) us (ks.zip ws)) (EP X pins σ Q) X.xe s := by
  have r2 := hb.rel r rz
  have hl : (g us ws).length = ps.length := by rw [← r2.length]; exact F.len _ _ _ _ h
  refine wpAny_call (codeAny_mono (F.run X.A X.stack s H ⟨us, ks.zip ws⟩ (g us ws) (gV vs zs) Q E hr I.env0 (hb.to s us ws I.kIn hl) r2 h) fun r s' hq => ?_)
  cases r with
  | error e => exact hx pins σ H s e s' I hq
  | ok fl =>
    cases fl with
    | ret u => exact I.after hq
    | next => exact False.elim hq
    | brk => exact False.elim hq
    | cont => exact False.elim hq
/-- f(e, .., k = v, ..) -/
theorem pe_callK (F : FnOk X.prog X.w X.K X.mg X.base CX k f fd ps sp) (hr : Room k X.A) (hg : Gl X x) (hm : X.mg x = some (.ref f)) (hk : PySem.W.keepIn X.K (.ref f) = true) (hb : KBinds X.K fd ps ks g gV) (hx : Passes CX X E)
    (ha : PA X (e :: es) t) (hkw : PK X kws tk) (hall : (backToKw pos (keywordEach kws X.env)).all (·.1.isSome) = true := by rfl) (hks : (backToKw pos (keywordEach kws X.env)).filterMap (·.1) = ks := by rfl)
    (hdb : (x == ("__debug__" : Str)) = false := by decide) (he : starEach (e :: es) X.env = (false, eval e X.env) :: starEach es X.env := by rfl)
    (hpl : ((backTo pos (starEach (e :: es) X.env)).any (·.1) || (backToKw pos (keywordEach kws X.env)).any (·.1.isNone)) = false := by rfl) :
    PE X (.Call (.Name x p) (e :: es) kws pos) (tCallK sp gV E t tk) := by
  intro pins s σ H Q I h
  refine wpAny_Call_Name_kw (ld_glob I hg hm ?_ hdb)
  refine PySem.W.callWith_KW (h₀ := X.base) I.ok.mod.kin hk hall (thn (ha pos pins s σ H _ I h) fun us s1 ⟨vs, H1, I1, r, q⟩ => ?_) hpl he
  refine thn (hkw pos pins s1 σ H1 _ I1 q) fun ws s2 ⟨zs, H2, I2, rz, q2⟩ => ⟨I2.kIn, ?_⟩
  rw [hks]
  exact run_fnk F hr hb hx I2 r rz q2
end

/-! ### a def's body keeps its promise -/
/-- names: the parameters first -/
structure FnScope (N P : List Str) (sc : Scope) : Prop where
  kind : sc.kind = .function
  co : sc.isCoroutine = false
  gen : sc.isGenerator = false
  nd : N.Nodup
  pre : N.take P.length = P
  par : ∀ x ∈ P, sc.names.lookup x = some .local ∨ sc.names.lookup x = some .cell
  nofree : ∀ y ∈ sc.names, y.2 ≠ .free

theorem bindL_out {kindOf : Str → Option NameKind} {x : Str} : ∀ {binds : List (Str × Value)} {m : Str → Option Value}, (∀ v, (x, v) ∉ binds) → bindL kindOf binds m x = m x
  | [], _, _ => rfl
  | (n, v) :: r, m, h => by
    unfold bindL
    rw [bindL_out fun w hw => h w (List.mem_cons_of_mem _ hw)]
    split
    · have : x ≠ n := by rintro rfl; exact h v List.mem_cons_self
      simp [this]
    · rfl
theorem bindC_out {kindOf : Str → Option NameKind} {x : Str} : ∀ {binds : List (Str × Value)} {m : Str → Option Value}, (∀ v, (x, v) ∉ binds) → bindC kindOf binds m x = m x
  | [], _, _ => rfl
  | (n, v) :: r, m, h => by
    unfold bindC
    rw [bindC_out fun w hw => h w (List.mem_cons_of_mem _ hw)]
    split
    · rfl
    · have : x ≠ n := by rintro rfl; exact h v List.mem_cons_self
      simp [this]
theorem bindL_get {kindOf : Str → Option NameKind} {x : Str} {v : Value} : ∀ {P : List Str} {vs : List Value} {i : Nat} {m : Str → Option Value}, P.Nodup → P[i]? = some x → vs[i]? = some v → kindOf x = some .local →
    bindL kindOf (P.zip vs) m x = some v
  | [], _, _, _, _, h, _, _ => by simp at h
  | _ :: _, [], _, _, _, _, h, _ => by simp at h
  | p :: P, w :: vs, 0, m, nd, h1, h2, hk => by
    simp at h1 h2; subst h1; subst h2
    show bindL kindOf ((p, w) :: P.zip vs) m p = _
    unfold bindL
    rw [bindL_out fun v hv => (List.nodup_cons.mp nd).1 (List.of_mem_zip hv).1, if_pos hk]
    simp
  | p :: P, w :: vs, i + 1, m, nd, h1, h2, hk => by
    show bindL kindOf ((p, w) :: P.zip vs) m x = _
    unfold bindL
    exact bindL_get (i := i) (List.nodup_cons.mp nd).2 (by simpa using h1) (by simpa using h2) hk
theorem bindC_get {kindOf : Str → Option NameKind} {x : Str} {v : Value} : ∀ {P : List Str} {vs : List Value} {i : Nat} {m : Str → Option Value}, P.Nodup → P[i]? = some x → vs[i]? = some v → kindOf x ≠ some .local →
    bindC kindOf (P.zip vs) m x = some v
  | [], _, _, _, _, h, _, _ => by simp at h
  | _ :: _, [], _, _, _, _, h, _ => by simp at h
  | p :: P, w :: vs, 0, m, nd, h1, h2, hk => by
    simp at h1 h2; subst h1; subst h2
    show bindC kindOf ((p, w) :: P.zip vs) m p = _
    unfold bindC
    rw [bindC_out fun v hv => (List.nodup_cons.mp nd).1 (List.of_mem_zip hv).1, if_neg hk]
    simp
  | p :: P, w :: vs, i + 1, m, nd, h1, h2, hk => by
    show bindC kindOf ((p, w) :: P.zip vs) m x = _
    unfold bindC
    exact bindC_get (i := i) (List.nodup_cons.mp nd).2 (by simpa using h1) (by simpa using h2) hk

/-- the names' values at the entry -/
def start (N : List Str) (vs : List V) : St := vs.map some ++ List.replicate (N.length - vs.length) none

/-- the context of a def's body, at its entry; an exception leaves the frame, then lies as CX says -/
def cxOf (CX : CXT) (P : Program) (w : World) (K : PySem.W.Frag) (mg : Str → Option Value) (base : Heap) (N : List Str) (qual : Str) (scope : Scope) (f : Addr) (cd : Value) (A : Around) (outer : List Env) (s : Shared) (H : Hp) (E : XK) : Cx where
  prog := P
  w := w
  K := K
  mg := mg
  base := base
  A := A.deeper (envOfC qual scope s.heap.objs.size f cd)
  N := N
  s₀ := s
  H₀ := H
  env := envOfC qual scope s.heap.objs.size f cd
  outer := outer
  stack := envOfC qual scope s.heap.objs.size f cd :: outer
  ex := []
  calm := true
  fn := fun _ => true
  pn := []
  xe := fun e s' => wpAny (model P w) (A.deeper (envOfC qual scope s.heap.objs.size f cd)) (leaving (envOfC qual scope s.heap.objs.size f cd) e) (fun _ s'' => CX outer H s E e s'') (fun e' s'' => CX outer H s E e' s'') s'

theorem cell_has {sc : Scope} {n : Nat} {x : Str} (h : sc.names.lookup x = some .cell) : ∃ c, (cellsFrom n sc.names []).lookup x = some c := by
  have q := PySem.W.cellsFrom_some sc.names n [] (.inl h)
  exact Option.isSome_iff_exists.mp q

theorem inv_start {CX : CXT} {P : Program} {w : World} {K : PySem.W.Frag} {mg : Str → Option Value} {base : Heap} {N ps : List Str} {qual : Str} {scope : Scope} {f : Addr} {cd : Value} {A : Around} {outer : List Env} {s s1 : Shared} {H : Hp} {E : XK} {us : List Value} {vs : List V}
    (S : FnScope N ps scope) (hd : A.handled = none) (e0 : Env0 P w K mg base A outer s H) (hl : vs.length = ps.length) (r : Vals vs us)
    (x : InCallC s s.heap.objs.size (bindL (envOfC qual scope s.heap.objs.size f cd).kindOf (ps.zip us) fun _ => none) (cellsFrom (s.heap.objs.size + 1) scope.names []) (bindC (envOfC qual scope s.heap.objs.size f cd).kindOf (ps.zip us) fun _ => none) s1) :
    Inv (cxOf CX P w K mg base N qual scope f cd A outer s H E) [] (start N vs) H s1 := by
  have hpl : ps.length ≤ N.length := by have := congrArg List.length S.pre; rw [List.length_take] at this; omega
  obtain ⟨h1, tk, rfl, hk⟩ := x.done
  have noA : ∀ b : Addr, b ∉ (cxOf CX P w K mg base N qual scope f cd A outer s H E).ex := fun b z => absurd (show b ∈ ([] : List Addr) from z) (by simp)
  refine ⟨⟨e0.mod, S.kind, rfl, rfl, Nat.le_refl _, fun y z c h1 h2 => ?_, fun y hy => ?_, fun y c _ h => ?_, fun _ => hd, Around.frames_deeper e0.frames, .inr ⟨rfl, rfl⟩, fun b z => absurd z (noA b), e0.bs, e0.bsz, fun b _ _ => noA b, fun b z => absurd z (noA b), e0.funs, e0.frf⟩,
    rfl, e0.bare, Un.kept hk, ⟨_, x.toInCall.ns, fun i y v h1 h2 h3 => ?_⟩, fun y c h => ⟨_, x.cell y c h⟩, e0.hok.fresh (Nat.le_refl _), fun y c h => ?_, fun p hp => absurd (show p ∈ ([] : List (Addr × Obj)) from hp) (by simp), e0.hok.kept hk, ?_⟩
  · exact name_of_addr x.apart (PySem.mem_of_lookup h1) (PySem.mem_of_lookup h2)
  · have hy : scope.names.lookup y = some .cell ∨ scope.names.lookup y = some .free := hy
    rcases hy with hy | hy
    · exact cell_has hy
    · exact absurd rfl (S.nofree _ (PySem.mem_of_lookup hy))
  · exact Nat.le_of_lt (x.above y c (PySem.mem_of_lookup h))
  · have hi : i < vs.length := by
      unfold start at h2
      by_cases hi : i < vs.length
      · exact hi
      · rw [List.getElem?_append_right (by simpa using hi)] at h2
        rw [List.getElem?_replicate] at h2
        split at h2 <;> cases h2
    have ha : vs[i]? = some v := by
      unfold start at h2
      rw [List.getElem?_append_left (by simpa using hi), List.getElem?_map] at h2
      cases e : vs[i]? with
      | none => rw [e] at h2; cases h2
      | some a => rw [e] at h2; cases h2; rfl
    obtain ⟨u, hu, rv⟩ := r.get ha
    have hp : ps[i]? = some y := by
      rw [← S.pre, List.getElem?_take_of_lt (by omega)]; exact h1
    have ndP : ps.Nodup := by rw [← S.pre]; exact S.nd.sublist (List.take_sublist _ _)
    refine ⟨u, rv, ?_⟩
    rcases S.par y (List.mem_of_getElem? hp) with k | k
    · exact .inl ⟨k, bindL_get ndP hp hu k⟩
    · obtain ⟨c, e⟩ := cell_has (n := s.heap.objs.size + 1) k
      refine .inr ⟨.inl k, c, e, ?_⟩
      have q := x.cell y c e
      rw [bindC_get ndP hp hu (by show scope.names.lookup y ≠ _; rw [k]; decide)] at q
      exact q
  · exact e0.hok.fresh (Nat.le_of_lt (x.above y c (PySem.mem_of_lookup h)))
  · unfold start
    show _ = N.length
    rw [List.length_append, List.length_map, List.length_replicate]
    omega

/-- THE RULE: a def (or a method) of the text, by its body. The body's reading t is chosen for each entry; it is run at the parameters' values -/
theorem fn_of {CX : CXT} {P : Program} {w : World} {K : PySem.W.Frag} {mg : Str → Option Value} {base : Heap} {k : Nat} {f : Addr} {name qual : Str} {params : Arguments} {body : List Stmt} {scope : Scope} {dV kV doc pm cdv ct oc : Value} {an od : Option Addr}
    {osl : Array (Option Value)} {N ps : List Str} {sp : Sp} (lk : K.lookup f = some ⟨oc, od, .func (PySem.W.fnOf name qual params body scope dV kV doc pm an cdv ct), osl⟩) (hcd : PySem.W.codeIn K cdv qual = true) (S : FnScope N ps scope)
    (len : ∀ vs H Q E, sp vs H Q E → vs.length = ps.length)
    (hbody : ∀ (A : Around) (outer : List Env) (s : Shared) (H : Hp) (vs : List V) (Q : VK) (E : XK), Room k (A.deeper (envOfC qual scope s.heap.objs.size f cdv)) → sp vs H Q E →
      ∃ t, PSs (cxOf CX P w K mg base N qual scope f cdv A outer s H E) body t ∧ t { nx := fun _ H' => Q .non H', rt := Q } (start N vs) H) :
    FnOk P w K mg base CX (k + 1) f (PySem.W.fnOf name qual params body scope dV kV doc pm an cdv ct) ps sp := by
  refine ⟨len, fun A outer s H args us vs Q E hr e0 hb r hsp => ?_⟩
  have hl := len _ _ _ _ hsp
  have KX : K.In s.heap := e0.mod.kin.keeps fun b o e => (e0.bs b o e).1
  have lim : s.heap.NoLimit := e0.mod.nolimit.keeps fun b o e => (e0.bs b o e).1
  have hkind : ∀ y ∈ ps.zip us, scope.names.lookup y.1 = some .local ∨ (scope.names.lookup y.1 = some .cell ∧ ((cellsFrom (s.heap.objs.size + 1) scope.names []).lookup y.1).isSome = true) := fun ⟨n, v⟩ hy => by
    rcases S.par n (List.of_mem_zip hy).1 with q | q
    · exact .inl q
    · exact .inr ⟨q, PySem.W.cellsFrom_some _ _ _ (.inl q)⟩
  refine codeAny_call_function hr.depth (KX _ _ lk) rfl S.co S.gen rfl (PySem.W.codeRec_of KX hcd) (hb _ _ _ _ ?_)
  refine wpAny_newFunctionEnv_cells S.kind hkind fun env he s1 x => ?_
  subst he
  refine ⟨lim.keeps x.toInCall.keep, codeAny_func ?_⟩
  obtain ⟨t, ht, hq⟩ := hbody A outer s H vs Q E (hr.deeper _) hsp
  have I : Inv (cxOf CX P w K mg base N qual scope f cdv A outer s H E) [] (start N vs) H s1 := inv_start S hr.hd e0 hl r x
  refine wpAny_mono (ht [] s1 (start N vs) H _ I hq) (fun fl s' hs => ?_) fun e s' hs => hs
  have fin : ∀ {σ' : St} {H' : Hp} {v : V} {u : Value}, Inv (cxOf CX P w K mg base N qual scope f cdv A outer s H E) [] σ' H' s' → RelV v u → Q v H' → CE outer P w H s Q u s' :=
    fun {σ' H' v u} J rv q => ⟨v, H', J.os, J.bare, J.base, J.hok, rv, q⟩
  cases fl with
  | ret u =>
    obtain ⟨v, σ', H', J, rv, q⟩ := hs
    exact fin J rv q
  | next =>
    obtain ⟨σ', H', J, q⟩ := hs
    exact fin (v := V.non) (u := Value.none) J rfl q
  | brk =>
    obtain ⟨_, _, _, q⟩ := hs
    exact False.elim q
  | cont =>
    obtain ⟨_, _, _, q⟩ := hs
    exact False.elim q
end L2

namespace L2
open PySem PySem.Spec PyProof.Rows
section
variable {X : Cx} {x : Str} {p pos : Pos} {e : Expr} {es : List Expr} {t : TA} {id T : String} {r : List V → Hp → VK → Prop}

def tCB (r : List V → Hp → VK → Prop) (t : TA) : TE := fun σ H Q => t σ H fun vs H1 => r vs H1 Q
/-- f(e, ..), f a built-in function -/
theorem pe_callB (hc : CallR X (.builtin id) r) (hg : Gl X x) (hm : X.mg x = none) (hv : bootBuiltins x = some (.builtin id)) (ha : PA X (e :: es) t) (hn : x ≠ "__name__" := by decide) (hdb : (x == ("__debug__" : Str)) = false := by decide)
    (he : starEach (e :: es) X.env = (false, eval e X.env) :: starEach es X.env := by rfl) (hpl : (backTo pos (starEach es X.env)).any (·.1) = false := by rfl) : PE X (.Call (.Name x p) (e :: es) [] pos) (tCB r t) := by
  intro pins s σ H Q I h
  refine wpAny_Call_Name_kw (ld_blt I hg hm hv ?_ hn hdb)
  exact PyProof.Rows.callWith_builtin1 (thn (ha pos pins s σ H _ I h) fun us s1 ⟨vs, H1, I1, r1, q1⟩ => hc pins s1 σ H1 vs us Q I1 r1 q1) he hpl
/-- T(e, ..), T a built-in type -/
theorem pe_callTy (hc : CallR X (.type T) r) (hg : Gl X x) (hm : X.mg x = none) (hv : bootBuiltins x = some (.type T)) (ha : PA X (e :: es) t) (hn : x ≠ "__name__" := by decide) (hdb : (x == ("__debug__" : Str)) = false := by decide)
    (he : starEach (e :: es) X.env = (false, eval e X.env) :: starEach es X.env := by rfl) (hpl : (backTo pos (starEach es X.env)).any (·.1) = false := by rfl) : PE X (.Call (.Name x p) (e :: es) [] pos) (tCB r t) := by
  intro pins s σ H Q I h
  refine wpAny_Call_Name_kw (ld_blt I hg hm hv ?_ hn hdb)
  exact PyProof.Rows.callWith_type1 (thn (ha pos pins s σ H _ I h) fun us s1 ⟨vs, H1, I1, r1, q1⟩ => hc pins s1 σ H1 vs us Q I1 r1 q1) he hpl
/-- T() -/
theorem pe_callTy0 (hc : CallR X (.type T) r) (hg : Gl X x) (hm : X.mg x = none) (hv : bootBuiltins x = some (.type T)) (hn : x ≠ "__name__" := by decide) (hdb : (x == ("__debug__" : Str)) = false := by decide) :
    PE X (.Call (.Name x p) [] [] pos) (tCB r tNil) := by
  intro pins s σ H Q I h
  refine wpAny_Call_Name_kw (ld_blt I hg hm hv ?_ hn hdb)
  exact PyProof.Rows.callWith_type0 (hc pins s σ H [] [] Q I .nil h)
end
end L2

namespace HT
open PySem PyProof.Rows

/-- t < u of tuples of ints -/
def lexLt : List Int → List Int → Bool
  | [], [] => false
  | [], _ :: _ => true
  | _ :: _, [] => false
  | x :: xs, y :: ys => if x = y then lexLt xs ys else decide (x < y)
theorem lexLt_cons (x y : Int) (xs ys : List Int) : lexLt (x :: xs) (y :: ys) = if x = y then lexLt xs ys else decide (x < y) := rfl
theorem lexLt_nil_nil : lexLt [] [] = false := rfl
theorem lexLt_nil_cons (y : Int) (ys : List Int) : lexLt [] (y :: ys) = true := rfl
theorem lexLt_cons_nil (x : Int) (xs : List Int) : lexLt (x :: xs) [] = false := rfl

theorem eqAt_int (A : Around) (s : Shared) (a : Int) (t : Tok) (c : Int) (u : Tok) : ∃ e, SeqAt.EqAt A s (.int a t) (.int c u) e ∧ (e = true ↔ a = c) :=
  ⟨(a == c), SeqAt.EqAt.int_int a t c u, by simp⟩
theorem rcLt_int (A : Around) (s : Shared) (a : Int) (t : Tok) (c : Int) (u : Tok) (prog : Program) (w : World) (E : Value → Shared → Prop) (Q : Value → Shared → Prop) (h : Q (.bool (decide (a < c))) s) :
    wpAny (model prog w) A (richCompare .Lt (.int a t) (.int c u)) Q E s :=
  (PyProof.Rows.lt_int h : wpAny (model prog w) A (compareOp .Lt (.int a t) (.int c u)) Q E s)

section
open PySem.SeqAt
open PySem.AutoSeq1 (wpAny_loadPart')
open PySem.MeetsSeq PySem.MeetsSeq2 PySem.MeetsSeq3

theorem tuple_lt_ints (l b : Addr) (items items2 : Array Value) (n n2 : Nat) (dd dd2 : Option Addr) (sl sl2 : Array (Option Value)) (ns ms : List Int) (hi : IntsAre items.toList ns) (hj : IntsAre items2.toList ms) :
    Meets (Builtin.«tuple.__lt__» ⟨[.ref l, .ref b], []⟩)
      (fun _ R s => s.heap.get? l = some { cls := .type "tuple", dict := dd, data := .seq items n, slots := sl } ∧ s.heap.get? b = some { cls := .type "tuple", dict := dd2, data := .seq items2 n2, slots := sl2 } ∧
        R (.ok (.ret (.bool (lexLt ns ms)))) s) :=
  .of_wp fun prog w A R s h => by
    obtain ⟨hp, g, d, tk, os⟩ := s; obtain ⟨hl, hb, h⟩ := h
    have f2 := AutoSeq1.sub_tuple_tuple
    have z1 : items.size = ns.length := by rw [← hi.length]; simp
    have z2 : items2.size = ms.length := by rw [← hj.length]; simp
    wp_walk using wpAny_loadPart' hl, wpAny_loadPart' hb, wpAny_forIn_list _ (fun rest b s' => b.1 = none ∧ s' = ⟨hp, g, d, tk, os⟩ ∧ ∃ (vs ws : List Value) (ns' ms' : List Int), rest = vs.zip ws ∧
      IntsAre vs ns' ∧ IntsAre ws ms' ∧ ns'.length + items2.size = ms'.length + items.size ∧ R (.ok (.ret (.bool (lexLt ns' ms')))) ⟨hp, g, d, tk, os⟩) _
    case turn =>
      rintro ⟨y, x⟩ rest b s' ⟨hb', rfl, vs, ws, ns', ms', hz, hvi, hwi, hlen, hR⟩
      cases hvi with
      | nil => rw [List.zip_nil_left] at hz; cases hz
      | cons a t hvi' =>
        cases hwi with
        | nil => rw [List.zip_nil_right] at hz; cases hz
        | cons c u hwi' =>
          rw [List.zip_cons_cons] at hz
          injection hz with hyx hrest
          injection hyx with hy hx
          subst hy hx
          rw [lexLt_cons] at hR
          simp only [List.length_cons] at hlen
          obtain ⟨e, he, hiff⟩ := eqAt_int A.in1 ⟨hp, g, d, tk, os⟩ a t c u
          refine wpAny_bind (he prog w _ _ ?_)
          cases e with
          | true =>
            rw [if_pos (hiff.mp rfl)] at hR
            wp_walk
            exact ⟨rfl, rfl, _, _, _, _, hrest, hvi', hwi', by omega, hR⟩
          | false =>
            rw [if_neg (fun q => absurd (hiff.mpr q) Bool.false_ne_true)] at hR
            have hri := rcLt_int A.in1 ⟨hp, g, d, tk, os⟩ a t c u prog w
            wp_walk using hri
            exact ⟨_, rfl, by simpa using hR⟩
    case fin =>
      rintro ⟨b1, b2⟩ s' ⟨hb', rfl, vs, ws, ns', ms', hz, hvi, hwi, hlen, hR⟩
      simp only at hb'
      subst hb'
      have hv : lexLt ns' ms' = decide (items.size < items2.size) := by
        cases hvi with
        | nil =>
          cases hwi with
          | nil =>
            simp only [List.length_nil] at hlen
            rw [lexLt_nil_nil]
            exact (decide_eq_false (by omega)).symm
          | cons c u hw =>
            simp only [List.length_nil, List.length_cons] at hlen
            rw [lexLt_nil_cons]
            exact (decide_eq_true (by omega)).symm
        | cons a t hv =>
          cases hwi with
          | nil =>
            simp only [List.length_nil, List.length_cons] at hlen
            rw [lexLt_cons_nil]
            exact (decide_eq_false (by omega)).symm
          | cons c u hw =>
            rw [List.zip_cons_cons] at hz
            cases hz
      rw [hv] at hR
      wp_walk
      exact ⟨_, rfl, by simpa [Builtin.Tuple.tupleCompareSizes] using hR⟩
    case h =>
      exact ⟨rfl, rfl, items.toList, items2.toList, ns, ms, rfl, hi, hj, by omega, h⟩
end

section
variable {prog : Program} {w : World} {A : Around} {E : Value → Shared → Prop} {s : Shared}

theorem lt_tupInts {l b : Addr} {items items2 : Array Value} {ns ms : List Int} {Q : Value → Shared → Prop} (hl : IsTup s.heap l items) (hb : IsTup s.heap b items2) (hi : IntsAre items.toList ns) (hj : IntsAre items2.toList ms)
    (hu : A.units < cLine) (h : Q (.bool (lexLt ns ms)) s) : wpAny (model prog w) A (compareOp .Lt (.ref l) (.ref b)) Q E s := by
  obtain ⟨⟨cls, dd, data, sl⟩, ho, hc, n, hd⟩ := id hl
  obtain ⟨⟨cls2, dd2, data2, sl2⟩, ho2, hc2, n2, hd2⟩ := id hb
  simp only at hc hd hc2 hd2
  subst hc hd hc2 hd2
  exact richCompare_meets_room (op := .Lt) ⟨_, ho, rfl⟩ ⟨_, ho2, rfl⟩ PySem.F.slot_tuple_lt PySem.F.entry_tuple_lt (PySem.F.args_tuple_lt_2 _ _) (tuple_lt_ints l b items items2 n n2 dd dd2 sl sl2 ns ms hi hj)
    ⟨ho, ho2, show Value.bool (lexLt ns ms) ≠ Value.notImplemented ∧ Q (.bool (lexLt ns ms)) s from ⟨(fun x => nomatch x), h⟩⟩ hu

/-- t + u, t not empty -/
theorem cat_tup {t b : Addr} {vs ws : List Value} {Q : Value → Shared → Prop} (ht : IsTup s.heap t vs.toArray) (hb : IsTup s.heap b ws.toArray) (hv : vs ≠ [])
    (h1 : ws = [] → Q (.ref t) s) (h2 : ws ≠ [] → Q (.ref s.heap.objs.size) { s with heap := s.heap.push { cls := .type "tuple", data := .seq (vs ++ ws).toArray } })
    (hsz : vs.length + ws.length ≤ sizeLine) : wpAny (model prog w) A (binaryOp .Add (.ref t) (.ref b)) Q E s := by
  obtain ⟨⟨cls, dd, data, sl⟩, ho, hc, n, hd⟩ := id ht
  obtain ⟨⟨cls2, dd2, data2, sl2⟩, ho2, hc2, n2, hd2⟩ := id hb
  simp only at hc hd hc2 hd2
  subst hc hd hc2 hd2
  have e : vs.toArray ++ ws.toArray = (vs ++ ws).toArray := by simp
  by_cases hw : ws = []
  · exact concat_meets ⟨_, ho, rfl⟩ ⟨_, ho2, rfl⟩ noFill_tuple_add seq_tuple_add PySem.F.slot_tuple_add PySem.F.entry_tuple_add (PySem.F.args_tuple_add_2 _ _)
      (tuple_addW1 t b vs.toArray ws.toArray n n2 dd dd2 sl sl2 (by simpa using hv) (by simp [hw])) ⟨ho, ho2, h1 hw⟩
  · refine concat_meets ⟨_, ho, rfl⟩ ⟨_, ho2, rfl⟩ noFill_tuple_add seq_tuple_add PySem.F.slot_tuple_add PySem.F.entry_tuple_add (PySem.F.args_tuple_add_2 _ _)
      (tuple_addW2 t b vs.toArray ws.toArray n n2 dd dd2 sl sl2 (by simpa using hv) (by simpa using hw) (by rw [List.size_toArray, List.size_toArray]; exact hsz)) ⟨ho, ho2, ?_⟩
    rw [e]
    exact h2 hw

/-! ### t[a:b], not the whole -/
/-- a slice's bound as a place among n (d where it is left out) -/
def sIx (n d : Nat) : Option Int → Nat
  | none => d
  | some v => if v < 0 then (v + (n : Int)).toNat else min v.toNat n
theorem sIx_none (n d : Nat) : sIx n d none = d := rfl
theorem sIx_nat (n d k : Nat) : sIx n d (some (k : Int)) = min k n := by
  show (if (k : Int) < 0 then ((k : Int) + (n : Int)).toNat else min (k : Int).toNat n) = min k n
  rw [if_neg (by omega), Int.toNat_natCast]
theorem sIx_le (n d : Nat) (hd : d ≤ n) (o : Option Int) : sIx n d o ≤ n := by
  cases o with
  | none => exact hd
  | some v =>
    show (if v < 0 then (v + (n : Int)).toNat else min v.toNat n) ≤ n
    by_cases hv : v < 0
    · rw [if_pos hv]; omega
    · rw [if_neg hv]; exact Nat.min_le_right _ _
theorem clip_eq (v : Int) (n d : Nat) : (if v < 0 then max (v + (n : Int)) 0 else min v (n : Int)) = ((sIx n d (some v) : Nat) : Int) := by
  show (if v < 0 then max (v + (n : Int)) 0 else min v (n : Int)) = (((if v < 0 then (v + (n : Int)).toNat else min v.toNat n) : Nat) : Int)
  by_cases hv : v < 0
  · simp only [if_pos hv]; omega
  · simp only [if_neg hv]; omega
theorem adjust_gen (lo hi : Option Int) (n : Nat) : Builtin.Slice.sliceAdjust lo hi 1 (n : Int) = (((sIx n 0 lo : Nat) : Int), ((sIx n n hi : Nat) : Int)) := by
  have h1 : ¬ ((1 : Int) < 0) := by omega
  unfold Builtin.Slice.sliceAdjust
  simp only [h1, if_false]
  refine Prod.ext ?_ ?_
  · cases lo with
    | none => rfl
    | some v => exact clip_eq v n 0
  · cases hi with
    | none => rfl
    | some v => exact clip_eq v n n
theorem places_gen (i j : Nat) : Builtin.Slice.slicePlaces (i : Int) (j : Int) 1 = j - i := by
  unfold Builtin.Slice.slicePlaces
  have h1 : (1 : Int) > 0 := by omega
  simp only [h1, if_true, Int.ediv_one]
  split <;> omega
theorem slicePart_ {v : Value} {o : Option Int} {Q : Option Int → Shared → Prop} (p : IsPart v o) (h : Q o s) : wpAny (model prog w) A (Builtin.Slice.slicePartIndex v) Q E s := by
  cases p with
  | none => exact slicePart_none h
  | int i t => exact slicePart_int h
theorem sliceApplied_gen {sl : Addr} {vl vu : Value} {lo hi : Option Int} {n : Nat} {Q : Int × Int × Nat → Shared → Prop} (hs : s.heap.IsSliceOf sl vl vu .none) (pl : IsPart vl lo) (pu : IsPart vu hi)
    (h : Q (((sIx n 0 lo : Nat) : Int), 1, sIx n n hi - sIx n 0 lo) s) : wpAny (model prog w) A (Builtin.Slice.sliceApplied (.ref sl) (pure (n : Int))) Q E s := by
  obtain ⟨os, hos, hcs, hds⟩ := id hs
  unfold Builtin.Slice.sliceApplied Builtin.Slice.sliceFields
  refine wpAny_bind (wpAny_bind (wpAny_field hos hds (x := vl) rfl (wpAny_bind (wpAny_field hos hds (x := vu) rfl (wpAny_bind (wpAny_field hos hds (x := .none) rfl (wpAny_pure ?_)))))))
  refine wpAny_bind (slicePart_none ?_)
  show wpAny _ _ (if ((1 : Int) == 0) = true then _ else _) _ _ s
  rw [if_neg (by decide)]
  refine wpAny_bind (slicePart_ pl (wpAny_bind (slicePart_ pu (wpAny_bind (wpAny_pure ?_)))))
  show wpAny _ _ (match Builtin.Slice.sliceAdjust lo hi 1 (n : Int) with | (lo, hi) => pure (lo, (1 : Int), Builtin.Slice.slicePlaces lo hi 1)) _ _ s
  rw [adjust_gen lo hi n]
  show wpAny _ _ (pure (((sIx n 0 lo : Nat) : Int), (1 : Int), Builtin.Slice.slicePlaces ((sIx n 0 lo : Nat) : Int) ((sIx n n hi : Nat) : Int) 1)) _ _ s
  rw [places_gen]
  exact wpAny_pure h
theorem pick_gen (xs : Array Value) (i k : Nat) : ((List.range k).filterMap fun (m : Nat) => xs[((i : Int) + (m : Int) * 1).toNat]?).toArray = ((xs.toList.drop i).take k).toArray := by
  have e : (fun (m : Nat) => xs[((i : Int) + (m : Int) * 1).toNat]?) = fun m => xs[i + m]? := by
    funext m
    have : ((i : Int) + (m : Int) * 1).toNat = i + m := by omega
    rw [this]
  rw [e]
  have := pick_run xs i k
  rw [List.filterMap_map] at this
  have e2 : ((fun x => xs[x]?) ∘ fun x => i + x) = fun m => xs[i + m]? := rfl
  rw [e2] at this
  rw [this]

theorem getItem_tuple_cut {t sl : Addr} {items : Array Value} {vl vu : Value} {lo hi : Option Int} {Q : Value → Shared → Prop} (ht : IsTup s.heap t items) (hs : s.heap.IsSliceOf sl vl vu .none) (pl : IsPart vl lo) (pu : IsPart vu hi)
    (hw : ¬ (sIx items.size 0 lo = 0 ∧ sIx items.size items.size hi = items.size))
    (h : Q (.ref s.heap.objs.size) { s with heap := s.heap.push { cls := .type "tuple", data := .seq ((items.toList.drop (sIx items.size 0 lo)).take (sIx items.size items.size hi - sIx items.size 0 lo)).toArray } })
    (hsz : items.size ≤ sizeLine) : wpAny (model prog w) A (getItem (.ref t) (.ref sl)) Q E s := by
  have htake : sizeOk (.seq ((items.toList.drop (sIx items.size 0 lo)).take (sIx items.size items.size hi - sIx items.size 0 lo)).toArray) := by
    show ((items.toList.drop (sIx items.size 0 lo)).take (sIx items.size items.size hi - sIx items.size 0 lo)).toArray.size ≤ sizeLine
    rw [List.size_toArray, List.length_take, List.length_drop, Array.length_toList]
    omega
  have hj : sIx items.size items.size hi ≤ items.size := sIx_le _ _ (Nat.le_refl _) hi
  obtain ⟨os, hos, hcs, hds⟩ := id hs
  have hTs : s.TypeIs (.ref sl) "slice" := ⟨os, hos, hcs⟩
  unfold getItem
  try with_reducible refine wpAny_holding ?_
  first | refine wpAny_bind (wpAny_pure ?_) | skip
  refine wpAny_bind (wpAny_sequenceKey ht.typeIs (by decide) ?_)
  refine wpAny_bind (wpAny_callSpecial?_slot (name := Str.ofString "__getitem__") ht.typeIs PyProof.Rows.slot_tuple_getitem
    (wpAny_call_entry PyProof.Rows.slot_tuple_getitem ht.typeIs entry_tuple_getitem ?_ (args_tuple_getitem _ _)))
  show wpAny _ _ (Builtin.Tuple.tupleItemsOf (.ref t) >>= _) _ _ s
  refine wpAny_bind (tupleItemsOf_ ht ?_)
  refine wpAny_bind (wpAny_typeOf hTs ?_)
  rw [if_pos (by decide)]
  refine wpAny_bind (sliceApplied_gen hs pl pu ?_)
  have hno : ¬ ((((sIx items.size 0 lo : Nat) : Int) == 0 && (1 : Int) == 1 && (sIx items.size items.size hi - sIx items.size 0 lo) == items.size) = true) := by
    intro q
    rw [Bool.and_eq_true, Bool.and_eq_true] at q
    have q1 : ((sIx items.size 0 lo : Nat) : Int) = 0 := eq_of_beq q.1.1
    have q2 : sIx items.size items.size hi - sIx items.size 0 lo = items.size := eq_of_beq q.2
    exact hw ⟨by omega, by omega⟩
  show wpAny _ _ (if (((sIx items.size 0 lo : Nat) : Int) == 0 && (1 : Int) == 1 && (sIx items.size items.size hi - sIx items.size 0 lo) == items.size) = true then _ else _) _ _ s
  rw [if_neg hno, pick_gen]
  first
    | exact wpAny_bind (m := Builtin.Tuple.tupleExact _) (wpAny_newObj_type (wpAny_pure ⟨_, rfl, wpAny_pure h⟩) htake)
    | exact wpAny_bind (m := Builtin.Tuple.tupleExact _) (wpAny_newObj_type (wpAny_bind (wpAny_pure (wpAny_pure ⟨_, rfl, wpAny_pure h⟩))) htake)
    | exact wpAny_bind (wpAny_bind (m := Builtin.Tuple.tupleExact _) (wpAny_newObj_type (wpAny_pure (wpAny_pure ⟨_, rfl, wpAny_pure h⟩)) htake))
    | exact wpAny_bind (wpAny_bind (m := Builtin.Tuple.tupleExact _) (wpAny_newObj_type (wpAny_pure ⟨_, rfl, wpAny_pure h⟩) htake))
end
end HT

namespace L2
open PySem PySem.Spec PyProof.Rows

/-! ### the parts of a slice -/
abbrev TO := St → Hp → (Option Int → Hp → Prop) → Prop
/-- a slice's part (left out, or an int) -/
def PO (X : Cx) (e : Option Expr) (t : TO) : Prop :=
  ∀ (pins : List (Addr × Obj)) (s : Shared) (σ : St) (H : Hp) (Q : Option Int → Hp → Prop), Inv X pins σ H s → t σ H Q →
    wpAny (model X.prog X.w) X.A (evalPart e X.env) (fun u s' => ∃ o H', Inv X pins σ H' s' ∧ IsPart u o ∧ Q o H') X.xe s
def tNoPart : TO := fun _ H Q => Q none H
def tPart (t : TE) : TO := fun σ H Q => t σ H fun x H1 => ∃ i, x = .int i ∧ Q (some i) H1

theorem intsAre_of {ns : List Int} : ∀ {us : List Value}, Vals (ns.map V.int) us → IntsAre us ns := by
  induction ns with
  | nil => intro us r; rw [List.map_nil] at r; cases r; exact .nil
  | cons n ns ih =>
    intro us r
    rw [List.map_cons] at r
    cases r with
    | cons r1 r2 =>
      obtain ⟨t, e⟩ := r1
      subst e
      exact .cons n t (ih r2)

section
variable {X : Cx} {e : Expr} {te : TE} {lo hi : Option Expr} {tl th : TO} {pos p2 : Pos}

theorem po_none : PO X none tNoPart := by
  intro pins s σ H Q I h
  rw [evalPart_none]
  exact wpAny_pure ⟨none, H, I, .none, h⟩
theorem po_some (h : PE X e te) : PO X (some e) (tPart te) := by
  intro pins s σ H Q I hw
  rw [evalPart_some]
  refine thn (h pins s σ H _ I hw) fun u s1 ⟨x, H1, I1, r1, q1⟩ => ?_
  obtain ⟨i, rfl, q⟩ := q1
  obtain ⟨t, rfl⟩ := r1
  exact ⟨some i, H1, I1, .int i t, q⟩

/-- what a slice of a value is, by values: the slice object stands at sl -/
def SlR (X : Cx) (r : V → Option Int → Option Int → Hp → VK → Prop) : Prop :=
  ∀ (pins : List (Addr × Obj)) (s : Shared) (σ : St) (H : Hp) (x : V) (v vl vu : Value) (lo hi : Option Int) (sl : Addr) (Q : VK), Inv X pins σ H s → RelV x v → s.heap.IsSliceOf sl vl vu .none → IsPart vl lo → IsPart vu hi → r x lo hi H Q →
    ∃ T id, typeLookup (.type T) "__getitem__" = pure (some (.builtin id)) ∧ s.TypeIs v T ∧ wpAny (model X.prog X.w) X.A (getItem v (.ref sl)) (EP X pins σ Q) X.xe s
theorem SlR.or {r r' : V → Option Int → Option Int → Hp → VK → Prop} (h : SlR X r) (h' : SlR X r') : SlR X (fun x lo hi H Q => r x lo hi H Q ∨ r' x lo hi H Q) := by
  intro pins s σ H x v vl vu lo hi sl Q I rx hs pl pu q
  rcases q with q | q
  · exact h pins s σ H x v vl vu lo hi sl Q I rx hs pl pu q
  · exact h' pins s σ H x v vl vu lo hi sl Q I rx hs pl pu q
def tSl (r : V → Option Int → Option Int → Hp → VK → Prop) (te : TE) (tl th : TO) : TE := fun σ H Q => te σ H fun x H1 => tl σ H1 fun l H2 => th σ H2 fun u H3 => r x l u H3 Q
/-- a[lo:hi], any a -/
theorem pe_slice {r : V → Option Int → Option Int → Hp → VK → Prop} (hr : SlR X r) (he : PE X e te) (hl : PO X lo tl) (hu : PO X hi th) : PE X (.Subscript e (.Slice lo hi none p2) pos) (tSl r te tl th) := by
  intro pins s σ H Q I h
  refine Subscript_ (thn (he pins s σ H _ I h) fun v s1 ⟨x, H1, I1, r1, q1⟩ => ?_)
  refine wpAny_Slice (thn (hl pins s1 σ H1 _ I1 q1) fun vl s2 ⟨l, H2, I2, pl, q2⟩ => thn (hu pins s2 σ H2 _ I2 q2) fun vu s3 ⟨u, H3, I3, pu, q3⟩ => ?_)
  rw [evalPart_none]
  refine wpAny_pure ?_
  have I4 : Inv X pins σ H3 { s3 with heap := s3.heap.push { cls := .type "slice", data := .fields #[vl, vu, .none] } } := I3.kept (t' := s3.toks) fun b ob q => Heap.get?_push_of_some _ q
  obtain ⟨T, id, hT, ht, hg⟩ := hr pins { s3 with heap := s3.heap.push { cls := .type "slice", data := .fields #[vl, vu, .none] } } σ H3 x v vl vu l u s3.heap.objs.size Q I4 r1 (Heap.IsSliceOf.new ..) pl pu q3
  show wpAny (model X.prog X.w) X.A (subscriptTail e (.Slice lo hi none p2) v (.ref s3.heap.objs.size)) (EP X pins σ Q) X.xe { s3 with heap := s3.heap.push { cls := .type "slice", data := .fields #[vl, vu, .none] } }
  exact tail_any (ops := [.ref s3.heap.objs.size, v]) ht hT hg (by with_unfolding_all rfl)

/-- the items of xs[lo:hi] -/
def cutV (xs : List V) (lo hi : Option Int) : List V := (xs.drop (HT.sIx xs.length 0 lo)).take (HT.sIx xs.length xs.length hi - HT.sIx xs.length 0 lo)
theorem cutV_length (xs : List V) (lo hi : Option Int) : (cutV xs lo hi).length ≤ xs.length := by
  unfold cutV
  rw [List.length_take, List.length_drop]
  omega
/-- t[lo:hi], not the whole of it (the whole would be t itself) -/
def rSlT (K : PySem.W.Frag) : V → Option Int → Option Int → Hp → VK → Prop := fun x lo hi H Q => ∃ a xs, x = .ref a ∧ SqT K H a xs ∧
  ¬ (HT.sIx xs.length 0 lo = 0 ∧ HT.sIx xs.length xs.length hi = xs.length) ∧ ∀ p, H p = none → Q (.ref p) (upd H p (.tup (cutV xs lo hi)))
theorem sl_tup : SlR X (rSlT X.K) := by
  intro pins s σ H x v vl vu lo hi sl Q I rx hs pl pu h
  obtain ⟨a, xs, rfl, hx, hw, q⟩ := h
  cases rx
  obtain ⟨its, r, ht, hz⟩ := I.tuple hx
  have hlen : its.toArray.size = xs.length := by rw [List.size_toArray]; exact r.length.symm
  refine ⟨"tuple", _, PyProof.Rows.slot_tuple_getitem.lookup, ht.typeIs, ?_⟩
  refine HT.getItem_tuple_cut ht hs pl pu (by rw [hlen]; exact hw) ?_ (by rw [hlen]; exact hz)
  rw [hlen]
  refine ⟨.ref s.heap.objs.size, _, I.laid (t' := s.toks) (o := .tup (cutV xs lo hi)) (fun b ob q => Heap.get?_push_of_some _ q) (Nat.le_refl _) ?_, rfl, q _ (I.hok.fresh (Nat.le_refl _))⟩
  exact ⟨Nat.le_trans (cutV_length xs lo hi) hz, _, (r.drop (HT.sIx xs.length 0 lo)).take (HT.sIx xs.length xs.length hi - HT.sIx xs.length 0 lo), IsTup.new _ _⟩

/-! ### t < u, t + u -/
def rLtT (K : PySem.W.Frag) : R2 := fun x y H Q => ∃ a b ns ms, x = .ref a ∧ y = .ref b ∧ SqT K H a (ns.map V.int) ∧ SqT K H b (ms.map V.int) ∧ Q (.bl (HT.lexLt ns ms)) H
theorem op_ltT (hu : X.A.units < cLine) : OpR X (compareOp .Lt) (rLtT X.K) := by
  intro pins s σ H x y v u Q I rx ry h
  obtain ⟨a, b, ns, ms, rfl, rfl, ha, hb, q⟩ := h
  cases rx
  cases ry
  obtain ⟨its, r1, p1, _⟩ := I.tuple ha
  obtain ⟨its2, r2, p2, _⟩ := I.tuple hb
  have i1 : IntsAre its.toArray.toList ns := intsAre_of r1
  have i2 : IntsAre its2.toArray.toList ms := intsAre_of r2
  exact HT.lt_tupInts p1 p2 i1 i2 hu ⟨.bl (HT.lexLt ns ms), H, I, rfl, q⟩
/-- t + u, t not empty: u empty gives t itself -/
def rCatT (K : PySem.W.Frag) : R2 := fun x y H Q => ∃ a b xs ys, x = .ref a ∧ y = .ref b ∧ SqT K H a xs ∧ SqT K H b ys ∧ xs ≠ [] ∧ xs.length + ys.length ≤ sizeLine ∧
  (ys = [] → Q (.ref a) H) ∧ (ys ≠ [] → ∀ p, H p = none → Q (.ref p) (upd H p (.tup (xs ++ ys))))
theorem Vals.nil_iff {xs : List V} {us : List Value} (r : Vals xs us) : us = [] ↔ xs = [] := by
  cases r with
  | nil => simp
  | cons _ _ => simp
theorem op_catT : OpR X (binaryOp .Add) (rCatT X.K) := by
  intro pins s σ H x y v u Q I rx ry h
  obtain ⟨a, b, xs, ys, rfl, rfl, ha, hb, hx, hz, q1, q2⟩ := h
  cases rx
  cases ry
  obtain ⟨its, r1, p1, _⟩ := I.tuple ha
  obtain ⟨its2, r2, p2, _⟩ := I.tuple hb
  refine HT.cat_tup p1 p2 (fun z => hx (r1.nil_iff.mp z)) (fun z => ⟨.ref a, H, I, rfl, q1 (r2.nil_iff.mp z)⟩) (fun z => ?_) (by rw [← r1.length, ← r2.length]; exact hz)
  refine ⟨.ref s.heap.objs.size, _, I.laid (t' := s.toks) (o := .tup (xs ++ ys)) (fun b ob q => Heap.get?_push_of_some _ q) (Nat.le_refl _) ?_, rfl, q2 (fun w => z (r2.nil_iff.mpr w)) _ (I.hok.fresh (Nat.le_refl _))⟩
  exact ⟨by rw [List.length_append]; exact hz, _, r1.append r2, IsTup.new _ _⟩
/-- tuple(t) -/
theorem call_tupleT : CallR X (.type "tuple") (fun xs H Q => ∃ a ys, xs = [.ref a] ∧ SqT X.K H a ys ∧ Q (.ref a) H) := by
  intro pins s σ H xs us Q I r h
  obtain ⟨a, ys, rfl, ha, q⟩ := h
  obtain ⟨u, rfl, ru⟩ := vals1 r
  cases ru
  obtain ⟨its, _, p1, _⟩ := I.tuple ha
  exact call_tuple_same (items := its.toArray) p1 ⟨.ref a, H, I, rfl, q⟩
end
end L2

namespace L2
open PySem PySem.Spec PyProof.Rows

/-! ### places -/
/-- the place that an index of any sign means -/
def ixN (n : Nat) (i : Int) : Option Nat := if 0 ≤ i then (if i < n then some i.toNat else none) else if -(n : Int) ≤ i then some (i + n).toNat else none
def atI {α : Type} (xs : List α) (i : Int) : Option α := (ixN xs.length i).bind fun j => xs[j]?
theorem ixN_seq {n : Nat} {i : Int} {j : Nat} (h : ixN n i = some j) : seqIndex? i n = some j ∧ j < n ∧ -(n : Int) ≤ i ∧ i < n := by
  unfold ixN at h
  by_cases h0 : 0 ≤ i
  · rw [if_pos h0] at h
    by_cases h1 : i < n
    · rw [if_pos h1] at h
      have e : i.toNat = j := Option.some.inj h
      exact ⟨by rw [seqIndex_of h0 h1, e], by omega, by omega, h1⟩
    · rw [if_neg h1] at h; cases h
  · rw [if_neg h0] at h
    by_cases h1 : -(n : Int) ≤ i
    · rw [if_pos h1] at h
      have e : (i + n).toNat = j := Option.some.inj h
      exact ⟨by rw [seqIndex_neg (by omega) h1, e], by omega, h1, by omega⟩
    · rw [if_neg h1] at h; cases h
theorem atI_get {α : Type} {xs : List α} {i : Int} {v : α} (h : atI xs i = some v) : ∃ j, seqIndex? i xs.length = some j ∧ xs[j]? = some v ∧ j < xs.length ∧ -(xs.length : Int) ≤ i ∧ i < xs.length := by
  unfold atI at h
  cases e : ixN xs.length i with
  | none => rw [e] at h; cases h
  | some j =>
    rw [e] at h
    obtain ⟨h1, h2, h3, h4⟩ := ixN_seq e
    exact ⟨j, h1, h, h2, h3, h4⟩
theorem atI_nat {α : Type} {xs : List α} {j : Nat} {v : α} (h : xs[j]? = some v) : atI xs (j : Int) = some v := by
  have hj : j < xs.length := (List.getElem?_eq_some_iff.mp h).1
  have e : ixN xs.length (j : Int) = some j := by
    unfold ixN
    rw [if_pos (by omega), if_pos (by omega)]; simp
  unfold atI; rw [e]; exact h
theorem atI_last {α : Type} (xs : List α) (v : α) : atI (xs ++ [v]) (-1) = some v := by
  have hl : (xs ++ [v]).length = xs.length + 1 := by simp
  have e : ixN (xs ++ [v]).length (-1) = some xs.length := by
    unfold ixN
    rw [hl, if_neg (by decide), if_pos (by omega)]
    congr 1
    omega
  unfold atI
  rw [e]
  show (xs ++ [v])[xs.length]? = some v
  simp

/-! ### what may be subscripted -/
/-- what stands as an index of a plain subscript -/
def PlainIx (b : Expr) : Prop := ∀ o i, subscripted b false o i = operate [o, i] (getItem o i)
/-- a subscript by values -/
def IxR (X : Cx) (r : R2) : Prop :=
  ∀ (value slice : Expr) (pins : List (Addr × Obj)) (s : Shared) (σ : St) (H : Hp) (x y : V) (v u : Value) (Q : VK), Inv X pins σ H s → RelV x v → RelV y u → r x y H Q →
    subscripted slice false v u = operate [v, u] (getItem v u) → wpAny (model X.prog X.w) X.A (subscriptTail value slice v u) (EP X pins σ Q) X.xe s
/-- a call of a builtin's method by values: the receiver, the arguments -/
def MtR (X : Cx) (id : String) (r : V → List V → Hp → VK → Prop) : Prop :=
  ∀ (pins : List (Addr × Obj)) (s : Shared) (σ : St) (H : Hp) (x : V) (xs : List V) (v : Value) (us : List Value) (Q : VK), Inv X pins σ H s → RelV x v → Vals xs us → r x xs H Q →
    wpAny (model X.prog X.w) X.A (call (.builtin id) (v :: us)) (EP X pins σ Q) X.xe s
section
variable {X : Cx} {a b : Expr} {ta tb : TE} {pos : Pos}
theorem IxR.or {r r' : R2} (h : IxR X r) (h' : IxR X r') : IxR X (fun x y H Q => r x y H Q ∨ r' x y H Q) := by
  intro value slice pins s σ H x y v u Q I rx ry q hs
  rcases q with q | q
  · exact h value slice pins s σ H x y v u Q I rx ry q hs
  · exact h' value slice pins s σ H x y v u Q I rx ry q hs
theorem MtR.or {id : String} {r r' : V → List V → Hp → VK → Prop} (h : MtR X id r) (h' : MtR X id r') : MtR X id (fun x xs H Q => r x xs H Q ∨ r' x xs H Q) := by
  intro pins s σ H x xs v us Q I rx rs q
  rcases q with q | q
  · exact h pins s σ H x xs v us Q I rx rs q
  · exact h' pins s σ H x xs v us Q I rx rs q
/-- a[b] -/
theorem pe_ix {r : R2} (hr : IxR X r) (ha : PE X a ta) (hb : PE X b tb) (hs : PlainIx b) : PE X (.Subscript a b pos) (tOp r ta tb) := by
  intro pins s σ H Q I h
  exact Subscript_ (binT ha hb I h fun v u s2 x y H2 I2 rx ry q => hr a b pins s2 σ H2 x y v u Q I2 rx ry q (hs _ _))

def rIxL (K : PySem.W.Frag) : R2 := fun x y H Q => ∃ p xs i v, x = .ref p ∧ y = .int i ∧ SqL K H p xs ∧ atI xs i = some v ∧ Q v H
def rIxT (K : PySem.W.Frag) : R2 := fun x y H Q => ∃ p xs i v, x = .ref p ∧ y = .int i ∧ SqT K H p xs ∧ atI xs i = some v ∧ Q v H
def rIxS : R2 := fun x y H Q => ∃ z i c, x = .str z ∧ y = .int i ∧ z.length ≤ sizeLine ∧ atI z.cps.toList i = some c ∧ Q (.str ⟨#[c]⟩) H
theorem ix_list : IxR X (rIxL X.K) := by
  intro value slice pins s σ H x y v u Q I rx ry h hs
  obtain ⟨p, xs, i, z, rfl, rfl, hq, he, q⟩ := h
  cases rx
  obtain ⟨t, rfl⟩ := ry
  obtain ⟨its, r, pl, hz⟩ := I.list hq
  obtain ⟨j, h1, h2, h3, h4, h5⟩ := atI_get he
  obtain ⟨w, ew, rw'⟩ := r.get h2
  have hl := r.length
  have hn := line63
  have fin : EP X pins σ Q w s := ⟨z, H, I, rw', q⟩
  by_cases h0 : 0 ≤ i
  · have hj : i.toNat = j := by
      rw [seqIndex_of h0 h5] at h1
      exact Option.some.inj h1
    exact item_listR pl.isList h0 (by omega) (by rw [hj]; simpa using ew) fin hs
  · have hj : (i + (its.toArray.size : Int)).toNat = j := by
      rw [seqIndex_neg (by omega) h4] at h1
      rw [List.size_toArray, ← hl]
      exact Option.some.inj h1
    exact subscriptTail_builtinR (x := w) pl.isList.typeIs slot_list_getitem.lookup
      (wpAny_getItem_list_neg (Q := fun r s' => r = w ∧ EP X pins σ Q r s') pl.isList (by omega) (by rw [List.size_toArray] <;> omega) (by omega) (by rw [hj]; simpa using ew) ⟨rfl, fin⟩) hs
theorem ix_tup : IxR X (rIxT X.K) := by
  intro value slice pins s σ H x y v u Q I rx ry h hs
  obtain ⟨p, xs, i, z, rfl, rfl, hq, he, q⟩ := h
  cases rx
  obtain ⟨t, rfl⟩ := ry
  obtain ⟨its, r, pl, hz⟩ := I.tuple hq
  obtain ⟨j, h1, h2, h3, h4, h5⟩ := atI_get he
  obtain ⟨w, ew, rw'⟩ := r.get h2
  have hl := r.length
  have hn := line63
  have fin : EP X pins σ Q w s := ⟨z, H, I, rw', q⟩
  exact subscriptTail_builtinR (x := w) pl.typeIs slot_tuple_getitem.lookup
    (getItem_tuple (j := j) (Q := fun r s' => r = w ∧ EP X pins σ Q r s') pl (by omega) (by omega) (by rw [List.size_toArray, ← hl]; exact h1) (by simpa using ew) ⟨rfl, fin⟩) hs
theorem ix_str : IxR X rIxS := by
  intro value slice pins s σ H x y v u Q I rx ry h hs
  obtain ⟨z, i, c, rfl, rfl, hz, he, q⟩ := h
  obtain ⟨t, rfl⟩ := rx
  obtain ⟨t', rfl⟩ := ry
  obtain ⟨j, h1, h2, h3, h4, h5⟩ := atI_get he
  have hl : z.cps.toList.length = z.length := by simp [Str.length]
  rw [hl] at h1 h4 h5
  have hn := line63
  exact tail_any (typeIs_str s z t) slot_str_getitem.lookup (getItem_str (c := c) (by
    have e1 : decide (i < -(2 ^ 63 : Int)) = false := decide_eq_false (by omega)
    have e2 : decide (i ≥ 2 ^ 63) = false := decide_eq_false (by omega)
    rw [e1, e2, Bool.or_false]) (by rw [h1]; simpa using h2) ⟨.str ⟨#[c]⟩, H, I.tok _, ⟨_, rfl⟩, q⟩) hs
/-- list, tuple or str -/
def rIx (K : PySem.W.Frag) : R2 := fun x y H Q => rIxL K x y H Q ∨ rIxT K x y H Q ∨ rIxS x y H Q
theorem ix_seq : IxR X (rIx X.K) := ix_list.or (ix_tup.or ix_str)

/-! ### xs[i] = v, any sign -/
/-- the list's object behind a store -/
theorem mapSeq_set (its : List Value) (n j : Nat) (u : Value) : Obj.mapSeq (·.setIfInBounds j u) { cls := .type "list", data := .seq its.toArray n } = { cls := .type "list", data := .seq (its.set j u).toArray n } := by
  simp [Obj.mapSeq]
theorem Inv.lst {pins : List (Addr × Obj)} {σ : St} {H : Hp} {s : Shared} {p : Addr} {xs : List V} (I : Inv X pins σ H s) (h : H p = some (.lst xs)) :
    ∃ (its : List Value) (n : Nat), Vals xs its ∧ s.heap.get? p = some { cls := .type "list", data := .seq its.toArray n } ∧ xs.length ≤ sizeLine := by
  obtain ⟨z, its, n, r, e⟩ := I.hok p _ h
  exact ⟨its, n, r, e, z⟩
/-- the list at p is written by an update of its object -/
theorem Inv.lstUpd {pins : List (Addr × Obj)} {σ : St} {H : Hp} {s : Shared} {p : Addr} {xs ys : List V} {its its' : List Value} {n n' : Nat} {f : Obj → Obj} (I : Inv X pins σ H s) (h : H p = some (.lst xs))
    (ho : s.heap.get? p = some { cls := .type "list", data := .seq its.toArray n }) (hf : f { cls := .type "list", data := .seq its.toArray n } = { cls := .type "list", data := .seq its'.toArray n' }) (r : Vals ys its') (hz : ys.length ≤ sizeLine) (t : Nat) :
    Inv X pins σ (upd H p (.lst ys)) { s with heap := s.heap.update p f, toks := t } := by
  have e : (s.heap.update p f).get? p = some { cls := .type "list", data := .seq its'.toArray n' } := by
    rw [Heap.get?_update_self f ho (by rw [hf] <;> rfl), hf]
  refine I.write (x := p) (e := p) (by rw [h]; trivial) (.inl rfl) (fun b u hb q => (Heap.get?_update_other _ _ (Ne.symm hb)).trans q) ⟨_, e⟩ ?_
  exact ⟨hz, its', n', r, e⟩
def rSetL : V → V → V → Hp → (Hp → Prop) → Prop := fun o i v H Q => ∃ p xs k j, o = .ref p ∧ i = .int k ∧ H p = some (.lst xs) ∧ ixN xs.length k = some j ∧ Q (upd H p (.lst (xs.set j v)))
theorem set_list : PSet X rSetL := by
  intro pins s σ H o i v ov iv u Q I ro ri rv h
  obtain ⟨p, xs, k, j, rfl, rfl, hp, hj, q⟩ := h
  cases ro
  obtain ⟨t, rfl⟩ := ri
  obtain ⟨its, n, r, ho, hz⟩ := I.lst hp
  obtain ⟨h1, h2, h3, h4⟩ := ixN_seq hj
  have hl := r.length
  have hn := line63
  have I' : Inv X pins σ (upd H p (.lst (xs.set j v))) { s with heap := s.heap.update p (Obj.mapSeq (·.setIfInBounds j u)) } :=
    I.lstUpd hp ho (mapSeq_set its n j u) (r.set rv j) (by rw [List.length_set]; exact hz) s.toks
  by_cases h0 : 0 ≤ k
  · have hk : k.toNat = j := by
      rw [seqIndex_of h0 h4] at h1
      exact Option.some.inj h1
    exact PySem.W.ki_setAt ho h0 (by omega) (by rw [List.size_toArray, ← hl]; exact h4) (by rw [hk]; exact ⟨_, I', q⟩)
  · have hk : (k + (its.toArray.size : Int)).toNat = j := by
      rw [seqIndex_neg (by omega) h3] at h1
      rw [List.size_toArray, ← hl]
      exact Option.some.inj h1
    exact PySem.W.ki_setBack ho (by omega) (by rw [List.size_toArray, ← hl]; exact h3) (by omega) (by rw [hk]; exact ⟨_, I', q⟩)

/-! ### slices -/
theorem slice_bounds (lo hi : Option Int) (n : Nat) : (sliceBounds lo hi none n).1 = ((HT.sIx n 0 lo : Nat) : Int) ∧ (sliceBounds lo hi none n).2.1 = ((HT.sIx n n hi : Nat) : Int) ∧ (sliceBounds lo hi none n).2.2 = 1 := by
  refine ⟨?_, ?_, rfl⟩
  · cases lo with
    | none => simp [sliceBounds, HT.sIx]
    | some i =>
      simp only [sliceBounds, HT.sIx, Option.getD_none, show (1 : Int) > 0 by decide, if_true]
      by_cases h : i < 0
      · simp only [h, if_true] <;> omega
      · simp only [h, if_false] <;> omega
  · cases hi with
    | none => simp [sliceBounds, HT.sIx]
    | some i =>
      simp only [sliceBounds, HT.sIx, Option.getD_none, show (1 : Int) > 0 by decide, if_true]
      by_cases h : i < 0
      · simp only [h, if_true] <;> omega
      · simp only [h, if_false] <;> omega
theorem slicePick_cut (its : List Value) (lo hi : Option Int) : slicePick its.toArray lo hi none = ((its.drop (HT.sIx its.length 0 lo)).take (HT.sIx its.length its.length hi - HT.sIx its.length 0 lo)).toArray := by
  obtain ⟨h1, h2, h3⟩ := slice_bounds lo hi its.toArray.size
  unfold slicePick
  rw [h1, h2, h3]
  simp only [sliceRange_one, pick_run, List.size_toArray] <;> rfl
/-- xs[lo:hi] of a list: a new list -/
def rSlL (K : PySem.W.Frag) : V → Option Int → Option Int → Hp → VK → Prop := fun x lo hi H Q => ∃ a xs, x = .ref a ∧ SqL K H a xs ∧ ∀ p, H p = none → Q (.ref p) (upd H p (.lst (cutV xs lo hi)))
theorem sl_list : SlR X (rSlL X.K) := by
  intro pins s σ H x v vl vu lo hi sl Q I rx hs pl pu h
  obtain ⟨a, xs, rfl, hx, q⟩ := h
  cases rx
  obtain ⟨its, r, ht, hz⟩ := I.list hx
  have hlen := r.length
  refine ⟨"list", _, slot_list_getitem.lookup, ht.isList.typeIs, ?_⟩
  refine wpAny_getItem_list_slice ht.isList hs pl pu .none (by simp) ?_ (by rw [List.size_toArray] <;> omega)
  rw [slicePick_cut, ← hlen]
  refine ⟨.ref s.heap.objs.size, _, I.laid (t' := s.toks) (o := .lst (cutV xs lo hi)) (fun b ob q => Heap.get?_push_of_some _ q) (Nat.le_refl _) ?_, rfl, q _ (I.hok.fresh (Nat.le_refl _))⟩
  exact ⟨Nat.le_trans (cutV_length xs lo hi) hz, _, 0, (r.drop (HT.sIx xs.length 0 lo)).take (HT.sIx xs.length xs.length hi - HT.sIx xs.length 0 lo), Heap.get?_push_size _ rfl⟩

/-! ### in, not in: flat items -/
def flatV : V → Bool
  | .non => true
  | .bl _ => true
  | .int _ => true
  | .str _ => true
  | _ => false
/-- == of flat values -/
def eqV : V → V → Bool
  | .non, .non => true
  | .bl a, .bl b => a == b
  | .bl a, .int b => (if a then 1 else 0) == b
  | .int a, .bl b => a == (if b then 1 else 0)
  | .int a, .int b => a == b
  | .str a, .str b => a == b
  | _, _ => false
theorem eqAt_V {A : Around} {s : Shared} {y x : V} {u v : Value} (ry : RelV y u) (rx : RelV x v) (fy : flatV y = true) (fx : flatV x = true) : SeqAt.EqAt A s u v (eqV y x) := by
  cases y with
  | non =>
    cases ry
    cases x with
    | non => cases rx; exact SeqAt.EqAt.same _
    | bl b => cases rx; exact SeqAt.EqAt.none_bool b
    | int b => obtain ⟨t, rfl⟩ := rx; exact SeqAt.EqAt.none_int b t
    | str b => obtain ⟨t, rfl⟩ := rx; exact SeqAt.EqAt.none_str b t
    | _ => exact absurd (show false = true from fx) Bool.false_ne_true
  | bl a =>
    cases ry
    cases x with
    | non => cases rx; exact SeqAt.EqAt.bool_none a
    | bl b => cases rx; exact SeqAt.EqAt.bool_bool a b
    | int b => obtain ⟨t, rfl⟩ := rx; exact SeqAt.EqAt.bool_int a b t
    | str b => obtain ⟨t, rfl⟩ := rx; exact SeqAt.EqAt.bool_str a b t
    | _ => exact absurd (show false = true from fx) Bool.false_ne_true
  | int a =>
    obtain ⟨t', rfl⟩ := ry
    cases x with
    | non => cases rx; exact SeqAt.EqAt.int_none a t'
    | bl b => cases rx; exact SeqAt.EqAt.int_bool a t' b
    | int b => obtain ⟨t, rfl⟩ := rx; exact SeqAt.EqAt.int_int a t' b t
    | str b => obtain ⟨t, rfl⟩ := rx; exact SeqAt.EqAt.int_str a t' b t
    | _ => exact absurd (show false = true from fx) Bool.false_ne_true
  | str a =>
    obtain ⟨t', rfl⟩ := ry
    cases x with
    | non => cases rx; exact SeqAt.EqAt.str_none a t'
    | bl b => cases rx; exact SeqAt.EqAt.str_bool a t' b
    | int b => obtain ⟨t, rfl⟩ := rx; exact SeqAt.EqAt.str_int a t' b t
    | str b => obtain ⟨t, rfl⟩ := rx; exact SeqAt.EqAt.str_str a t' b t
    | _ => exact absurd (show false = true from fx) Bool.false_ne_true
  | _ => exact absurd (show false = true from fy) Bool.false_ne_true
/-- the items' answers, read off the values (a value's own answer does not lean on its token) -/
def eqU (x : V) (u : Value) : Bool := match u with
  | .none => eqV .non x
  | .bool b => eqV (.bl b) x
  | .int i _ => eqV (.int i) x
  | .str z _ => eqV (.str z) x
  | _ => false
theorem eqU_of {x y : V} {u : Value} (r : RelV y u) (f : flatV y = true) : eqU x u = eqV y x := by
  cases y with
  | non => cases r; rfl
  | bl b => cases r; rfl
  | int i => obtain ⟨t, rfl⟩ := r; rfl
  | str z => obtain ⟨t, rfl⟩ := r; rfl
  | _ => exact absurd (show false = true from f) Bool.false_ne_true
theorem any_eqU {x : V} : ∀ {xs : List V} {us : List Value}, Vals xs us → xs.all flatV = true → us.any (eqU x) = xs.any fun y => eqV y x
  | _, _, .nil, _ => rfl
  | y :: xs, u :: us, .cons r t, f => by
    rw [List.all_cons, Bool.and_eq_true] at f
    rw [List.any_cons, List.any_cons, eqU_of r f.1, any_eqU t f.2]
theorem mem_eqAt {A : Around} {s : Shared} {x : V} {v : Value} (rx : RelV x v) (fx : flatV x = true) : ∀ {xs : List V} {us : List Value}, Vals xs us → xs.all flatV = true → ∀ u ∈ us, SeqAt.EqAt A s u v (eqU x u)
  | _, _, .nil, _ => fun u hu => by cases hu
  | y :: xs, u :: us, .cons r t, f => fun u' hu => by
    rw [List.all_cons, Bool.and_eq_true] at f
    rcases List.mem_cons.mp hu with rfl | hu
    · rw [eqU_of r f.1]; exact eqAt_V r rx f.1 fx
    · exact mem_eqAt rx fx t f.2 u' hu
def inV (x : V) (xs : List V) : Bool := xs.any fun y => eqV y x
/-- x in a list or tuple of flat items -/
def rIn (K : PySem.W.Frag) (neg : Bool) : R2 := fun x y H Q => ∃ p xs, y = .ref p ∧ (SqL K H p xs ∨ SqT K H p xs) ∧ flatV x = true ∧ xs.all flatV = true ∧ Q (.bl (if neg then !inV x xs else inV x xs)) H
theorem op_in_seq : OpR X (compareOp .In) (rIn X.K false) := by
  intro pins s σ H x y v u Q I rx ry h
  obtain ⟨p, xs, rfl, hq, fx, fs, q⟩ := h
  cases ry
  rcases hq with hq | hq
  · obtain ⟨its, r, pl, hz⟩ := I.list hq
    refine SeqAt.in_listAt (eqU x) pl.isList (fun w hw => mem_eqAt rx fx r fs w (by simpa using hw)) ⟨.bl _, H, I, rfl, ?_⟩
    rw [show its.toArray.any (eqU x) = its.any (eqU x) by simp, any_eqU r fs]
    exact q
  · obtain ⟨its, r, pl, hz⟩ := I.tuple hq
    refine SeqAt.in_tupleAt (eqU x) pl (fun w hw => mem_eqAt rx fx r fs w (by simpa using hw)) ⟨.bl _, H, I, rfl, ?_⟩
    rw [show its.toArray.any (eqU x) = its.any (eqU x) by simp, any_eqU r fs]
    exact q
theorem op_notIn_seq : OpR X (compareOp .NotIn) (rIn X.K true) := by
  intro pins s σ H x y v u Q I rx ry h
  obtain ⟨p, xs, rfl, hq, fx, fs, q⟩ := h
  cases ry
  rcases hq with hq | hq
  · obtain ⟨its, r, pl, hz⟩ := I.list hq
    refine SeqAt.notIn_listAt (eqU x) pl.isList (fun w hw => mem_eqAt rx fx r fs w (by simpa using hw)) ⟨.bl _, H, I, rfl, ?_⟩
    rw [show its.toArray.any (eqU x) = its.any (eqU x) by simp, any_eqU r fs]
    exact q
  · obtain ⟨its, r, pl, hz⟩ := I.tuple hq
    refine SeqAt.notIn_tupleAt (eqU x) pl (fun w hw => mem_eqAt rx fx r fs w (by simpa using hw)) ⟨.bl _, H, I, rfl, ?_⟩
    rw [show its.toArray.any (eqU x) = its.any (eqU x) by simp, any_eqU r fs]
    exact q
theorem op_notIn_str : OpR X (compareOp .NotIn) (fun x y H Q => ∃ i j, x = .str i ∧ y = .str j ∧ Q (.bl (!(!(Builtin.Str.occurrences j i 0 j.length 1).isEmpty))) H) := by
  intro pins s σ H x y v u Q I rx ry h
  obtain ⟨i, j, rfl, rfl, q⟩ := h
  obtain ⟨t, rfl⟩ := rx
  obtain ⟨t', rfl⟩ := ry
  exact notIn_str ⟨.bl _, H, I, rfl, q⟩

/-! ### len, list(x), tuple(x) of any list or tuple that is read -/
theorem call_len_seq : CallR X (.builtin "len") (fun xs H Q => ∃ p ys, xs = [.ref p] ∧ (SqL X.K H p ys ∨ SqT X.K H p ys) ∧ Q (.int ys.length) H) := by
  intro pins s σ H xs us Q I r h
  obtain ⟨p, ys, rfl, hq, q⟩ := h
  obtain ⟨u, rfl, rx⟩ := vals1 r
  cases rx
  have hn := line63
  rcases hq with hq | hq
  · obtain ⟨its, r', pl, hz⟩ := I.list hq
    have hlen := r'.length
    exact Calls.call_len_list pl.isList (by simp only [List.size_toArray] <;> omega) ⟨.int ys.length, H, I.tok _, ⟨s.toks + 1, by rw [List.size_toArray, hlen]⟩, q⟩
  · obtain ⟨its, r', pl, hz⟩ := I.tuple hq
    have hlen := r'.length
    exact len_tuple pl (by simp only [List.size_toArray] <;> omega) ⟨.int ys.length, H, I.tok _, ⟨s.toks + 1, by rw [List.size_toArray, hlen]⟩, q⟩
theorem call_len_str : CallR X (.builtin "len") (fun xs H Q => ∃ z, xs = [.str z] ∧ z.length ≤ sizeLine ∧ Q (.int z.length) H) := by
  intro pins s σ H xs us Q I r h
  obtain ⟨z, rfl, hz, q⟩ := h
  obtain ⟨u, rfl, t, rfl⟩ := vals1 r
  have hn := line63
  exact len_str (by omega) ⟨.int z.length, H, I.tok _, ⟨_, rfl⟩, q⟩
theorem CallR.or {f : Value} {r r' : List V → Hp → VK → Prop} (h : CallR X f r) (h' : CallR X f r') : CallR X f (fun xs H Q => r xs H Q ∨ r' xs H Q) := by
  intro pins s σ H xs us Q I rs q
  rcases q with q | q
  · exact h pins s σ H xs us Q I rs q
  · exact h' pins s σ H xs us Q I rs q
theorem call_list_of : CallR X (.type "list") (fun xs H Q => ∃ p ys, xs = [.ref p] ∧ (SqL X.K H p ys ∨ SqT X.K H p ys) ∧ ∀ l, H l = none → Q (.ref l) (upd H l (.lst ys))) := by
  intro pins s σ H xs us Q I r h
  obtain ⟨p, ys, rfl, hq, q⟩ := h
  obtain ⟨u, rfl, rx⟩ := vals1 r
  cases rx
  have fin : ∀ (its : List Value), Vals ys its → ys.length ≤ sizeLine → ∀ (h' : Heap) (c' : Nat), (∀ b o', s.heap.get? b = some o' → h'.get? b = some o') →
      h'.get? s.heap.objs.size = some { cls := .type "list", dict := none, data := .seq its.toArray c', slots := #[] } → EP X pins σ Q (.ref s.heap.objs.size) { s with heap := h' } := fun its r' hz h' c' kp e =>
    ⟨.ref s.heap.objs.size, _, I.laid (t' := s.toks) kp (Nat.le_refl _) (show ObjOk X.prog X.w _ h' _ (.lst ys) from ⟨hz, its, c', r', e⟩), rfl, q _ (I.hok.fresh (Nat.le_refl _))⟩
  rcases hq with hq | hq
  · obtain ⟨its, r', pl, hz⟩ := I.list hq
    have hlen := r'.length
    obtain ⟨o, ho, hc, n, hd⟩ := pl.isList
    exact call_list_seq p (.inl rfl) ho hc hd (fun h' c' kp e => fin its r' hz h' c' kp e) (by simp only [List.size_toArray] <;> omega)
  · obtain ⟨its, r', pl, hz⟩ := I.tuple hq
    have hlen := r'.length
    obtain ⟨o, ho, hc, n, hd⟩ := pl
    exact call_list_seq p (.inr rfl) ho hc hd (fun h' c' kp e => fin its r' hz h' c' kp e) (by simp only [List.size_toArray] <;> omega)
theorem call_tuple_of : CallR X (.type "tuple") (fun xs H Q => ∃ p ys, xs = [.ref p] ∧ ((SqL X.K H p ys ∧ ∀ l, H l = none → Q (.ref l) (upd H l (.tup ys))) ∨ (SqT X.K H p ys ∧ Q (.ref p) H))) := by
  intro pins s σ H xs us Q I r h
  obtain ⟨p, ys, rfl, h⟩ := h
  obtain ⟨u, rfl, rx⟩ := vals1 r
  cases rx
  rcases h with ⟨hq, q⟩ | ⟨hq, q⟩
  · obtain ⟨its, r', pl, hz⟩ := I.list hq
    have hlen := r'.length
    refine call_tuple_list pl.isList (fun h' kp => ?_) (by simp only [List.size_toArray] <;> omega)
    have I1 : Inv X pins σ H { s with heap := h' } := I.kept (t' := s.toks) kp
    have I2 : Inv X pins σ (upd H h'.objs.size (.tup ys)) { s with heap := h'.push { cls := .type "tuple", data := .seq its.toArray } } :=
      I1.laid (t' := s.toks) (fun b o e => Heap.get?_push_of_some _ e) (Nat.le_refl _) (show ObjOk X.prog X.w _ _ _ (.tup ys) from ⟨hz, its, r', IsTup.new _ _⟩)
    exact ⟨.ref h'.objs.size, _, I2, rfl, q _ (I1.hok.fresh (Nat.le_refl _))⟩
  · obtain ⟨its, r', pl, hz⟩ := I.tuple hq
    exact call_tuple_same pl ⟨.ref p, H, I, rfl, q⟩

/-! ### the call of a builtin's method: o.m(..) -/
/-- the value is of that builtin type -/
def tyV (K : PySem.W.Frag) (T : String) (x : V) (H : Hp) : Prop := match x with
  | .str _ => T = "str"
  | .int _ => T = "int"
  | .ref p => (T = "list" ∧ ∃ xs, SqL K H p xs) ∨ (T = "tuple" ∧ ∃ o, K.lookup p = some o ∧ o.cls = .type "tuple" ∧ o.dict = none) ∨
      (T = "dict" ∧ ((∃ kvs, H p = some (.dK kvs)) ∨ ∃ kvs, H p = some (.dT kvs))) ∨ (T = "set" ∧ ∃ S n, H p = some (.set S n))
  | _ => False
theorem tyV_is {pins : List (Addr × Obj)} {σ : St} {H : Hp} {s : Shared} {T : String} {x : V} {v : Value} (I : Inv X pins σ H s) (r : RelV x v) (ty : tyV X.K T x H) :
    s.TypeIs v T ∧ ∀ a, v = .ref a → ∃ ob, s.heap.get? a = some ob ∧ ob.dict = none := by
  cases x with
  | str z =>
    obtain ⟨t, rfl⟩ := r
    cases (show T = "str" from ty)
    exact ⟨typeIs_str s z t, fun _ e => nomatch e⟩
  | int i =>
    obtain ⟨t, rfl⟩ := r
    cases (show T = "int" from ty)
    exact ⟨typeIs_int s i t, fun _ e => nomatch e⟩
  | ref p =>
    cases r
    rcases ty with ⟨rfl, xs, hq⟩ | ⟨rfl, o, hk, hc, hd⟩ | ⟨rfl, hk⟩ | ⟨rfl, S, n, hk⟩
    · obtain ⟨its, _, pl, _⟩ := I.list hq
      refine ⟨pl.isList.typeIs, fun a e => ?_⟩
      cases e
      obtain ⟨o, n, e, c, hd, _⟩ := pl
      exact ⟨o, e, hd⟩
    · refine ⟨⟨o, I.kIn p o hk, hc⟩, fun a e => ?_⟩
      cases e
      exact ⟨o, I.kIn _ o hk, hd⟩
    · have z : ∃ o, s.heap.get? p = some o ∧ o.ExactDict := by
        rcases hk with ⟨kvs, hk⟩ | ⟨kvs, hk⟩
        · obtain ⟨_, _, _, _, o, _, _, e, ex, _⟩ := I.hok p _ hk
          exact ⟨o, e, ex⟩
        · obtain ⟨_, _, _, _, o, _, _, e, ex, _⟩ := I.hok p _ hk
          exact ⟨o, e, ex⟩
      obtain ⟨o, e, ex⟩ := z
      refine ⟨⟨o, e, ex.1⟩, fun a e2 => ?_⟩
      cases e2
      exact ⟨o, e, ex.2.1⟩
    · obtain ⟨o, _, _, _, e, ex, _⟩ := I.hok p _ hk
      refine ⟨⟨o, e, ex.1⟩, fun a e2 => ?_⟩
      cases e2
      exact ⟨o, e, ex.2.1⟩
  | _ => exact False.elim ty
def tBM0 (K : PySem.W.Frag) (T : String) (r : V → List V → Hp → VK → Prop) (to : TE) : TE := fun σ H Q => to σ H fun x H1 => tyV K T x H1 ∧ r x [] H1 Q
def tBM (K : PySem.W.Frag) (T : String) (r : V → List V → Hp → VK → Prop) (to : TE) (t : TA) : TE := fun σ H Q => to σ H fun x H1 => tyV K T x H1 ∧ t σ H1 fun xs H2 => r x xs H2 Q
variable {o e : Expr} {es : List Expr} {to : TE} {t : TA} {name : Str} {apos cpos : Pos} {T id : String} {r : V → List V → Hp → VK → Prop}
theorem pe_bm0 (pa : PlainAttrs T) (slot : Slot T name id) (hty : typeOf (.builtin id) = pure (.type "method_descriptor")) (hm : MtR X id r) (ho : PE X o to)
    (hbase : attributeBase o name X.env (eval o X.env) = eval o X.env := by rfl) (hline : (apos.endLine == cpos.line) = true := by rfl) : PE X (.Call (.Attribute o name apos) [] [] cpos) (tBM0 X.K T r to) := by
  intro pins s σ H Q I h
  refine wpAny_Call_method0_late hbase hline (thn (ho pins s σ H _ I h) fun v s1 ⟨x, H1, I1, r1, ty, q1⟩ => ?_)
  obtain ⟨h1, h2⟩ := tyV_is I1 r1 ty
  exact ⟨T, id, pa, slot, hty, h1, h2, Calls.callWith_builtin rfl (PySem.evalArgs_none (hm pins s1 σ H1 x [] v [] Q I1 r1 .nil q1))⟩
theorem pe_bm (pa : PlainAttrs T) (slot : Slot T name id) (hty : typeOf (.builtin id) = pure (.type "method_descriptor")) (hm : MtR X id r) (ho : PE X o to) (ha : PA X (e :: es) t)
    (hbase : attributeBase o name X.env (eval o X.env) = eval o X.env := by rfl)
    (hfew : ((backTo cpos (starEach (e :: es) X.env)).all (fun x => !x.1) && (backToKw cpos (keywordEach [] X.env)).all (fun x => x.1.isSome)
      && decide ((e :: es).length + ([] : List Keyword).length + (if ([] : List Keyword).isEmpty then 0 else 1) < 30)) = true := by rfl)
    (hline : (apos.endLine == cpos.line) = true := by rfl) (hs : starEach (e :: es) X.env = (false, eval e X.env) :: starEach es X.env := by rfl) (hplain : (backTo cpos (starEach es X.env)).any (·.1) = false := by rfl) :
    PE X (.Call (.Attribute o name apos) (e :: es) [] cpos) (tBM X.K T r to t) := by
  intro pins s σ H Q I h
  refine wpAny_Call_method_late hbase hfew hline rfl (thn (ho pins s σ H _ I h) fun v s1 ⟨x, H1, I1, r1, ty, q1⟩ => ?_)
  obtain ⟨h1, h2⟩ := tyV_is I1 r1 ty
  refine ⟨T, id, pa, slot, hty, h1, h2, ?_⟩
  have hA := ha cpos pins s1 σ H1 _ I1 q1
  rw [hs] at hA ⊢
  refine Calls.callWith_builtin (by show (false || (backTo cpos (starEach es X.env)).any (·.1)) = false; rw [hplain] <;> rfl) (Calls.evalArgs_plain ?_)
  exact thn hA fun us s2 ⟨vs, H2, I2, r2, q2⟩ => hm pins s2 σ H2 x vs v us Q I2 r1 r2 q2
/- xs.append(e), list.index on a module's tuple .. are MtR facts of 06m -/
end
end L2

namespace L2
open PySem PySem.Spec PyProof.Rows

def MtM (X : Cx) (id : String) (r : V → List V → Hp → VK → Prop) : Prop :=
  ∀ (pins : List (Addr × Obj)) (s : Shared) (σ : St) (H : Hp) (x : V) (xs : List V) (v : Value) (us : List Value) (Q : VK), Inv X pins σ H s → RelV x v → Vals xs us → r x xs H Q →
    wpAny (model X.prog X.w) X.A (call (.builtin id) (v :: us)) (EP X pins σ Q) X.xe s

/-! ### lists of values -/
theorem Vals.one : ∀ {x : V} {us : List Value}, Vals [x] us → ∃ u, us = [u] ∧ RelV x u
  | _, _, .cons r .nil => ⟨_, rfl, r⟩
theorem Vals.two : ∀ {x y : V} {us : List Value}, Vals [x, y] us → ∃ u v, us = [u, v] ∧ RelV x u ∧ RelV y v
  | _, _, _, .cons r (.cons q .nil) => ⟨_, _, rfl, r, q⟩
theorem Vals.zero : ∀ {us : List Value}, Vals [] us → us = []
  | _, .nil => rfl
theorem Vals.dropLast {xs : List V} {us : List Value} (h : Vals xs us) : Vals xs.dropLast us.dropLast := by
  induction h with
  | nil => exact .nil
  | cons r t ih =>
    cases t with
    | nil => exact .nil
    | cons q t' => exact .cons r ih
theorem Vals.eraseIdx : ∀ {xs : List V} {us : List Value} (i : Nat), Vals xs us → Vals (xs.eraseIdx i) (us.eraseIdx i)
  | _, _, _, .nil => .nil
  | _, _, 0, .cons _ t => t
  | _, _, i + 1, .cons r t => .cons r (Vals.eraseIdx i t)
theorem Vals.reverse {xs : List V} {us : List Value} (h : Vals xs us) : Vals xs.reverse us.reverse := by
  induction h with
  | nil => exact .nil
  | cons r t ih => rw [List.reverse_cons, List.reverse_cons]; exact Vals.append ih (.cons r .nil)
theorem Vals.rep {xs : List V} {us : List Value} (h : Vals xs us) : ∀ k : Nat, Vals (List.replicate k xs).flatten (List.replicate k us).flatten
  | 0 => .nil
  | k + 1 => by
    rw [List.replicate_succ, List.replicate_succ, List.flatten_cons, List.flatten_cons]
    exact Vals.append h (Vals.rep h k)
theorem erase_last {α : Type} (l : List α) : l.eraseIdx (l.length - 1) = l.dropLast := by
  induction l with
  | nil => rfl
  | cons a r ih =>
    cases r with
    | nil => rfl
    | cons b r =>
      have e : (a :: b :: r).length - 1 = ((b :: r).length - 1) + 1 := by
        have h1 : (a :: b :: r).length = r.length + 2 := rfl
        have h2 : (b :: r).length = r.length + 1 := rfl
        omega
      rw [e, List.eraseIdx_cons_succ, ih]
      all_goals rfl
theorem len_erase {α : Type} : ∀ (l : List α) (i : Nat), (l.eraseIdx i).length ≤ l.length
  | [], _ => Nat.le_refl _
  | _ :: _, 0 => Nat.le_succ _
  | _ :: r, i + 1 => Nat.succ_le_succ (len_erase r i)
theorem foldl_rep (its : List Value) : ∀ (k : Nat) (acc : List Value),
    List.foldl (fun x1 x2 => x1 ++ x2) acc.toArray (List.replicate k its.toArray) = (acc ++ (List.replicate k its).flatten).toArray
  | 0, acc => by simp
  | k + 1, acc => by
    have e : acc.toArray ++ its.toArray = (acc ++ its).toArray := by simp
    have e2 : (acc ++ its) ++ (List.replicate k its).flatten = acc ++ (List.replicate (k + 1) its).flatten := by
      rw [List.replicate_succ, List.flatten_cons, List.append_assoc]
    rw [← e2, ← foldl_rep its k (acc ++ its), ← e, List.replicate_succ, List.foldl_cons]

section
variable {X : Cx} {pins : List (Addr × Obj)} {σ : St} {H : Hp} {s : Shared} {l b : Addr} {xs ys zs : List V}

/-! ### the two steps: a tracked list is rewritten, a new list is laid -/
theorem Inv.lset {its its' : List Value} {n : Nat} {f : Array Value → Array Value} {t' : Nat} (I : Inv X pins σ H s) (hH : H l = some (.lst xs))
    (e : s.heap.get? l = some { cls := .type "list", data := .seq its.toArray n }) (hf : f its.toArray = its'.toArray) (hv : Vals ys its') (hz : ys.length ≤ sizeLine) :
    Inv X pins σ (upd H l (.lst ys)) { s with heap := s.heap.update l (Obj.mapSeq f), toks := t' } := by
  have q := PySem.IsL.update e f
  rw [hf] at q
  refine I.write (x := l) (e := l) (by rw [hH]; exact trivial) (.inl rfl) (fun b' u hb hu => (Heap.get?_update_other s.heap (Obj.mapSeq f) (Ne.symm hb)).trans hu) ⟨_, q⟩ ?_
  exact ⟨hz, its', _, hv, q⟩
theorem Inv.lnew {its : List Value} {t' : Nat} (I : Inv X pins σ H s) (hv : Vals ys its) (hz : ys.length ≤ sizeLine) :
    Inv X pins σ (upd H s.heap.objs.size (.lst ys)) { s with heap := s.heap.push { cls := .type "list", data := .seq its.toArray }, toks := t' } :=
  I.laid (fun _ _ q => Heap.get?_push_of_some _ q) (Nat.le_refl _) ⟨hz, its, 0, hv, Heap.get?_push_size _ rfl⟩
theorem Inv.fresh (I : Inv X pins σ H s) : H s.heap.objs.size = none := I.hok.fresh (Nat.le_refl _)
theorem Inv.lstM (I : Inv X pins σ H s) (hH : H l = some (.lst xs)) : xs.length ≤ sizeLine ∧ ∃ (its : List Value) (n : Nat), Vals xs its ∧ xs.length = its.length ∧ s.heap.get? l = some { cls := .type "list", data := .seq its.toArray n } := by
  obtain ⟨z, its, n, r, e⟩ := I.hok l _ hH
  exact ⟨z, its, n, r, r.length, e⟩

theorem notLongL {n : Nat} (h : n ≤ sizeLine) : Builtin.List.listTooLong n = false := by
  unfold Builtin.List.listTooLong
  exact decide_eq_false (by omega)
end

section
variable {X : Cx}

/-! ### methods -/
def rAppend : V → List V → Hp → VK → Prop := fun x vs H Q => ∃ l xs y, x = .ref l ∧ vs = [y] ∧ H l = some (.lst xs) ∧ xs.length < sizeLine ∧ Q .non (upd H l (.lst (xs ++ [y])))
theorem mt_append : MtM X "list.append" rAppend := by
  intro pins s σ H x vs v us Q I rx rv h
  obtain ⟨l, xs, y, rfl, rfl, hH, hz, q⟩ := h
  cases rx
  obtain ⟨u, rfl, ru⟩ := rv.one
  obtain ⟨z, its, n, r, hl, e⟩ := I.lstM hH
  refine call_meets F.slot_list_append ⟨_, e, rfl⟩ F.entry_list_append (F.args_list_append_2 _ _) (PySem.list_append l its.toArray n u (by rw [List.size_toArray]; omega)) ⟨e, ?_⟩
  refine ⟨.non, _, I.lset (its' := its ++ [u]) hH e (by simp) (r.append (.cons ru .nil)) ?_, rfl, q⟩
  rw [List.length_append, List.length_singleton]
  omega

def rExtend : V → List V → Hp → VK → Prop := fun x vs H Q => ∃ l b xs zs, x = .ref l ∧ vs = [.ref b] ∧ H l = some (.lst xs) ∧ H b = some (.lst zs) ∧ xs.length + zs.length ≤ sizeLine ∧ Q .non (upd H l (.lst (xs ++ zs)))
theorem mt_extend : MtM X "list.extend" rExtend := by
  intro pins s σ H x vs v us Q I rx rv h
  obtain ⟨l, b, xs, zs, rfl, rfl, hH, hB, hz, q⟩ := h
  cases rx
  obtain ⟨u, rfl, ru⟩ := rv.one
  cases ru
  obtain ⟨z, its, n, r, hl, e⟩ := I.lstM hH
  obtain ⟨z2, its2, n2, r2, hl2, e2⟩ := I.lstM hB
  have hsz : its.toArray.size + its2.toArray.size ≤ sizeLine := by rw [List.size_toArray, List.size_toArray]; omega
  have hlong : ¬ (!its.toArray.isEmpty && Builtin.List.listTooLong (its.toArray.size + its2.toArray.size)) = true := by
    rw [notLongL hsz, Bool.and_false]
    exact Bool.false_ne_true
  refine call_meets F.slot_list_extend ⟨_, e, rfl⟩ F.entry_list_extend (F.args_list_extend_2 _ _)
    (AutoSeq1.list_extend_list_list_0 l its.toArray n b its2.toArray n2 hlong (by rw [List.size_toArray]; omega) (by omega)) ⟨e, e2, ?_⟩
  refine ⟨.non, _, I.lset (its' := its ++ its2) hH e (by simp) (r.append r2) ?_, rfl, q⟩
  rw [List.length_append]
  omega

def rPop : V → List V → Hp → VK → Prop := fun x vs H Q => ∃ l xs y, x = .ref l ∧ vs = [] ∧ H l = some (.lst xs) ∧ xs[xs.length - 1]? = some y ∧ Q y (upd H l (.lst xs.dropLast))
theorem mt_pop : MtM X "list.pop" rPop := by
  intro pins s σ H x vs v us Q I rx rv h
  obtain ⟨l, xs, y, rfl, rfl, hH, hy, q⟩ := h
  cases rx
  have hus := rv.zero
  subst hus
  obtain ⟨z, its, n, r, hl, e⟩ := I.lstM hH
  obtain ⟨u, hu, ru⟩ := r.get hy
  have hy' : its.toArray[its.toArray.size - 1]? = some u := by
    show its.toArray[its.length - 1]? = some u
    rw [← Array.getElem?_toList, ← hl]
    exact hu
  refine call_meets F.slot_list_pop ⟨_, e, rfl⟩ F.entry_list_pop (F.args_list_pop_1 _) (MeetsSeq.list_pop_last l its.toArray n u hy' (by rw [List.size_toArray]; omega)) ⟨e, ?_⟩
  refine ⟨y, _, I.lset (its' := its.dropLast) hH e ?_ r.dropLast ?_, ru, q⟩
  · show its.toArray.eraseIdxIfInBounds (its.toArray.size - 1) = its.dropLast.toArray
    rw [List.size_toArray, List.eraseIdxIfInBounds_toArray, erase_last]
  · rw [List.length_dropLast]
    omega

def rPopAt : V → List V → Hp → VK → Prop := fun x vs H Q => ∃ l xs i k y, x = .ref l ∧ vs = [.int i] ∧ H l = some (.lst xs) ∧ -(2 ^ 63) ≤ i ∧ i < 2 ^ 63 ∧ seqIndex? i xs.length = some k ∧ xs[k]? = some y ∧ Q y (upd H l (.lst (xs.eraseIdx k)))
theorem mt_popAt : MtM X "list.pop" rPopAt := by
  intro pins s σ H x vs v us Q I rx rv h
  obtain ⟨l, xs, i, k, y, rfl, rfl, hH, h1, h2, hk, hy, q⟩ := h
  cases rx
  obtain ⟨u, rfl, ru⟩ := rv.one
  obtain ⟨t, rfl⟩ := ru
  obtain ⟨z, its, n, r, hl, e⟩ := I.lstM hH
  obtain ⟨w, hw, rw'⟩ := r.get hy
  refine call_meets F.slot_list_pop ⟨_, e, rfl⟩ F.entry_list_pop (F.args_list_pop_2 _ _)
    (MeetsSeq.list_pop_at l its.toArray n i t k w (fitsIndex_both h1 h2) (by rw [List.size_toArray, ← hl]; exact hk) (by rw [← Array.getElem?_toList]; exact hw) (by rw [List.size_toArray]; omega)) ⟨e, ?_⟩
  refine ⟨y, _, I.lset (its' := its.eraseIdx k) hH e ?_ (r.eraseIdx k) ?_, rw', q⟩
  · show its.toArray.eraseIdxIfInBounds k = (its.eraseIdx k).toArray
    rw [List.eraseIdxIfInBounds_toArray]
  · have := len_erase xs k
    omega

def rReverse : V → List V → Hp → VK → Prop := fun x vs H Q => ∃ l xs, x = .ref l ∧ vs = [] ∧ H l = some (.lst xs) ∧ Q .non (upd H l (.lst xs.reverse))
theorem mt_reverse : MtM X "list.reverse" rReverse := by
  intro pins s σ H x vs v us Q I rx rv h
  obtain ⟨l, xs, rfl, rfl, hH, q⟩ := h
  cases rx
  have hus := rv.zero
  subst hus
  obtain ⟨z, its, n, r, hl, e⟩ := I.lstM hH
  refine call_meets F.slot_list_reverse ⟨_, e, rfl⟩ F.entry_list_reverse (F.args_list_reverse_1 _) (AutoSeq1.list_reverse_list_0 l its.toArray n (by rw [List.size_toArray]; omega)) ⟨e, ?_⟩
  refine ⟨.non, _, I.lset (its' := its.reverse) hH e (by simp) r.reverse ?_, rfl, q⟩
  rw [List.length_reverse]
  omega

def rClear : V → List V → Hp → VK → Prop := fun x vs H Q => ∃ l xs, x = .ref l ∧ vs = [] ∧ H l = some (.lst xs) ∧ Q .non (upd H l (.lst []))
theorem mt_clear : MtM X "list.clear" rClear := by
  intro pins s σ H x vs v us Q I rx rv h
  obtain ⟨l, xs, rfl, rfl, hH, q⟩ := h
  cases rx
  have hus := rv.zero
  subst hus
  obtain ⟨z, its, n, r, hl, e⟩ := I.lstM hH
  refine call_meets F.slot_list_clear ⟨_, e, rfl⟩ F.entry_list_clear (F.args_list_clear_1 _) (AutoSeq1.list_clear_list_0 l its.toArray n (by rw [List.size_toArray]; omega)) ⟨e, ?_⟩
  exact ⟨.non, _, I.lset (its' := []) (ys := []) hH e rfl .nil (Nat.zero_le _), rfl, q⟩

/-! ### list + list, list += list, list * int -/
def rCat : R2 := fun x y H Q => ∃ l b xs zs, x = .ref l ∧ y = .ref b ∧ H l = some (.lst xs) ∧ H b = some (.lst zs) ∧ xs.length + zs.length ≤ sizeLine ∧ ∀ p, H p = none → Q (.ref p) (upd H p (.lst (xs ++ zs)))
theorem op_cat : OpR X (binaryOp .Add) rCat := by
  intro pins s σ H x y v u Q I rx ry h
  obtain ⟨l, b, xs, zs, rfl, rfl, hH, hB, hz, q⟩ := h
  cases rx
  cases ry
  obtain ⟨z, its, n, r, hl, e⟩ := I.lstM hH
  obtain ⟨z2, its2, n2, r2, hl2, e2⟩ := I.lstM hB
  refine PySem.P.add_list e e2 ?_ (by rw [List.size_toArray, List.size_toArray]; omega)
  have ea : its.toArray ++ its2.toArray = (its ++ its2).toArray := by simp
  rw [ea]
  exact ⟨.ref _, _, I.lnew (t' := s.toks) (r.append r2) (by rw [List.length_append]; omega), rfl, q _ I.fresh⟩
/-- a list times an int (a negative one is nothing) -/
def rRep : R2 := fun x y H Q => ∃ l k xs, x = .ref l ∧ y = .int k ∧ H l = some (.lst xs) ∧ -(2 ^ 63) ≤ k ∧ k < 2 ^ 63 ∧ xs.length * k.toNat ≤ sizeLine ∧
  ∀ p, H p = none → Q (.ref p) (upd H p (.lst (List.replicate k.toNat xs).flatten))
theorem len_rep {α : Type} (xs : List α) (k : Nat) : (List.replicate k xs).flatten.length = k * xs.length := by
  induction k with
  | zero => simp
  | succ k ih => rw [List.replicate_succ, List.flatten_cons, List.length_append, ih, Nat.succ_mul, Nat.add_comm]
theorem op_rep : OpR X (binaryOp .Mult) rRep := by
  intro pins s σ H x y v u Q I rx ry h
  obtain ⟨l, k, xs, rfl, rfl, hH, h1, h2, hz, q⟩ := h
  cases rx
  obtain ⟨t, rfl⟩ := ry
  obtain ⟨z, its, n, r, hl, e⟩ := I.lstM hH
  have hlen : its.toArray.size * k.toNat ≤ sizeLine := by rw [List.size_toArray, ← hl]; exact hz
  have hcap : ¬ its.toArray.size * k.toNat > (2 ^ 63 - 1) / 8 := by
    have : (sizeLine : Nat) ≤ (2 ^ 63 - 1) / 8 := by decide
    omega
  have hfit : ¬ (!Builtin.List.listFitsIndex k) = true := by
    rw [fitsIndex_both h1 h2]
    exact Bool.false_ne_true
  have hlong : ¬ Builtin.List.listTooLong (its.toArray.size * k.toNat) = true := by
    rw [notLongL hlen]
    exact Bool.false_ne_true
  have hnew : List.foldl (fun x1 x2 => x1 ++ x2) #[] (List.replicate (if its.toArray.isEmpty = true then 0 else k.toNat) its.toArray) = (List.replicate k.toNat its).flatten.toArray := by
    have f0 : ∀ m : Nat, List.foldl (fun x1 x2 => x1 ++ x2) #[] (List.replicate m its.toArray) = (List.replicate m its).flatten.toArray := fun m => by
      have := foldl_rep its m []
      rw [List.nil_append] at this
      exact this
    rw [f0]
    cases its with
    | nil => simp
    | cons a r' => rw [if_neg (by simp)]
  refine wpAny_binaryOp_repeat_ref (T := "list") (U := "int") (by decide) ⟨_, e, rfl⟩ (fun s' => typeIs_int s' k t) noFill_list_mul F.fills_int_mul F.slot_int_rmul repeat_list F.slot_int_index.lookup
    (call_meets F.slot_int_rmul (typeIs_int s k t) F.entry_int_rmul (F.args_int_rmul_2 _ _) (int___rmul___int_list k t l its.toArray n)
      ⟨e, rfl, ⟨_, e, rfl⟩, call_meets F.slot_list_mul ⟨_, e, rfl⟩ F.entry_list_mul (F.args_list_mul_2 _ _) (AutoListH.list___mul___list_int_3 l its.toArray n k t hfit hcap hlong) ⟨e, ?_⟩⟩)
  rw [hnew]
  exact ⟨.ref _, _, I.lnew (t' := s.toks) (r.rep k.toNat) (by rw [len_rep, Nat.mul_comm]; exact hz), rfl, q _ I.fresh⟩

/-! ### del xs[i] -/
theorem del_list {pins : List (Addr × Obj)} {s : Shared} {σ : St} {H : Hp} {l : Addr} {xs : List V} {i : Int} {t : Tok} {k : Nat} {Q : Unit → Shared → Prop} (I : Inv X pins σ H s) (hH : H l = some (.lst xs))
    (h1 : -(2 ^ 63) ≤ i) (h2 : i < 2 ^ 63) (hk : seqIndex? i xs.length = some k) (h : ∀ s', Inv X pins σ (upd H l (.lst (xs.eraseIdx k))) s' → Q () s') :
    wpAny (model X.prog X.w) X.A (delItem (.ref l) (.int i t)) Q X.xe s := by
  obtain ⟨z, its, n, r, hl, e⟩ := I.lstM hH
  refine PySem.P.delItem_list (k := k) e (fitsIndex_both h1 h2) (by rw [List.size_toArray, ← hl]; exact hk) (h _ ?_) (by rw [List.size_toArray]; omega)
  refine I.lset (its' := its.eraseIdx k) (t' := s.toks) hH e ?_ (r.eraseIdx k) ?_
  · show its.toArray.eraseIdxIfInBounds k = (its.eraseIdx k).toArray
    rw [List.eraseIdxIfInBounds_toArray]
  · have := len_erase xs k
    omega
end

/-! ### xs[a:b] = ys -/
section
variable {prog : Program} {w : World} {A : Around} {E : Value → Shared → Prop} {s : Shared}
theorem splice_eq (its its2 : List Value) (a c : Nat) : its.toArray.extract 0 a ++ its2.toArray ++ its.toArray.extract c its.toArray.size = (its.take a ++ its2 ++ its.drop c).toArray := by
  apply Array.toList_inj.mp
  first
    | (simp
       exact List.take_of_length_le (by simp))
    | simp [List.take_of_length_le]
    | simp
theorem bounds_run {a c n : Nat} (hac : a ≤ c) (hc : c ≤ n) : sliceBounds (some (a : Int)) (some (c : Int)) none n = ((a : Int), (c : Int), 1) := by
  simp only [sliceBounds, Option.getD_none]
  have h1 : ¬ ((a : Int) < 0) := by omega
  have h2 : ¬ ((c : Int) < 0) := by omega
  simp only [h1, h2, if_false, show (1 : Int) > 0 by decide, if_true]
  congr 1
  · omega
  · congr 1; omega
set_option maxRecDepth 100000 in
/-- list.__setitem__ with a slice of step one and another list -/
theorem setItem_slice {l b sl : Addr} {items new : Array Value} {n n2 : Nat} {vl vu : Value} {a c : Nat} {Q : Unit → Shared → Prop}
    (e : s.heap.get? l = some { cls := .type "list", data := .seq items n }) (e2 : s.heap.get? b = some { cls := .type "list", data := .seq new n2 }) (hne : l ≠ b)
    (hs : s.heap.IsSliceOf sl vl vu .none) (pl : IsPart vl (some (a : Int))) (pu : IsPart vu (some (c : Int))) (hac : a ≤ c) (hc : c ≤ items.size)
    (hsz : items.size + new.size ≤ sizeLine) (h : Q () { s with heap := s.heap.update l (Obj.mapSeq fun xs => xs.extract 0 a ++ new ++ xs.extract c xs.size) }) :
    wpAny (model prog w) A (setItem (.ref l) (.ref sl) (.ref b)) Q E s := by
  have hl : s.heap.IsList l items := PySem.IsL.isList e
  have hb : s.heap.IsList b new := PySem.IsL.isList e2
  obtain ⟨os, hos, hcs, hds⟩ := id hs
  have hTs : s.TypeIs (.ref sl) "slice" := ⟨os, hos, hcs⟩
  have hstep : ¬ ((rawPart none == rawInt 0) = true) := Bool.false_ne_true
  have hsame : Builtin.List.listSameRef (.ref l) (.ref b) = false := by
    unfold Builtin.List.listSameRef
    exact beq_eq_false_iff_ne.mpr hne
  have hmax : (max (a : Int) (c : Int)).toNat = c := by omega
  have hz' : ((fun xs : Array Value => xs.extract 0 a ++ new ++ xs.extract c xs.size) items).size ≤ sizeLine + 1 := by
    simp only [Array.size_append, Array.size_extract]
    omega
  unfold setItem
  try with_reducible refine wpAny_holding ?_
  first | refine wpAny_bind (wpAny_pure ?_) | skip
  refine wpAny_bind (wpAny_sequenceKey hl.typeIs (by decide) ?_)
  refine wpAny_bind (wpAny_callSpecial?_slot (name := Str.ofString "__setitem__") hl.typeIs slot_list_setitem
    (wpAny_call_entry slot_list_setitem hl.typeIs entry_list_setitem ?_ (args_list_setitem _ _ _)))
  show wpAny _ _ (Builtin.List.listSubscript? (.ref sl) >>= _) _ _ s
  refine wpAny_bind ?_
  unfold Builtin.List.listSubscript?
  refine wpAny_bind (wpAny_specialOf hTs slice_no_index ?_)
  simp only [Option.isNone_none, if_true]
  refine wpAny_pure ?_
  show wpAny _ _ (typeOf (.ref sl) >>= _) _ _ s
  refine wpAny_bind (wpAny_typeOf hTs ?_)
  first
    | rw [if_neg (by decide)]
    | refine PySem.W.KFB.if_not (by decide) ?_
  rw [listSliceParts_eq]
  refine wpAny_bind (wpAny_bind (wpAny_field hos hds (x := .none) rfl (wpAny_bind (wpAny_listPart .none ?_))))
  rw [if_neg hstep]
  refine wpAny_bind (wpAny_field hos hds (x := vl) rfl (wpAny_bind (wpAny_listPart pl ?_)))
  refine wpAny_bind (wpAny_field hos hds (x := vu) rfl (wpAny_bind (wpAny_listPart pu (wpAny_pure ?_))))
  first
    | simp only [hsame, Bool.false_eq_true, if_false]
    | refine PySem.W.KFB.if_not hsame ?_
    | (dsimp only
       rw [if_neg (by rw [hsame]; exact Bool.false_ne_true)])
  refine wpAny_bind (m := Builtin.List.listAllItems (.ref b) "must assign iterable to extended slice") ?_
  unfold Builtin.List.listAllItems
  refine wpAny_bind (wpAny_typeOf hb.typeIs ?_)
  first
    | refine PySem.W.KFB.if_so (by decide) ?_
    | rw [if_pos (by decide)]
    | simp only [beq_self_eq_true, Bool.true_or, if_true]
  unfold Builtin.List.listItems
  refine wpAny_bind (wpAny_seqItems e2 rfl (wpAny_pure ?_))
  refine wpAny_bind (wpAny_bind (wpAny_seqItems e rfl (wpAny_pure ?_)))
  refine wpAny_bind (wpAny_of_eq ((sliceIndices_raw (some (a : Int)) (some (c : Int)) none items.size (by simp)).trans (congrArg (pure : Int × Int × Int → Sem (Int × Int × Int)) (bounds_run hac hc))) ?_)
  show wpAny _ _ (if ((1 : Int) == 1) = true then _ else _) _ _ s
  rw [if_pos (by decide)]
  refine wpAny_bind (wpAny_rule ?_)
  first
    | simp only [notLongL hsz, Bool.false_eq_true, if_false]
    | refine PySem.W.KFB.if_not (notLongL hsz) ?_
  first | refine wpAny_bind (wpAny_pure ?_) | skip
  show wpAny _ _ (updateSeq l (fun xs => xs.extract 0 ((a : Int)).toNat ++ new ++ xs.extract (max (a : Int) (c : Int)).toNat xs.size) >>= _) _ _ s
  rw [hmax, Int.toNat_natCast]
  refine wpAny_bind (wpAny_updateSeq (hz := Nat.le_trans (Nat.le_add_right _ _) hsz) (_hz' := hz') e rfl ?_)
  refine wpAny_bind (wpAny_letGo ?_)
  first
    | exact wpAny_bind (wpAny_pure (wpAny_pure ⟨.none, rfl, wpAny_pure h⟩))
    | exact wpAny_pure ⟨.none, rfl, wpAny_pure h⟩
end

section
variable {X : Cx}
/-- xs[a:c] = ys of another list, at the value level: sl is the slice object that was just made -/
theorem set_slice {pins : List (Addr × Obj)} {s : Shared} {σ : St} {H : Hp} {l b sl : Addr} {xs ys : List V} {a c : Int} {vl vu : Value} {Q : Unit → Shared → Prop} (I : Inv X pins σ H s)
    (hH : H l = some (.lst xs)) (hB : H b = some (.lst ys)) (hne : l ≠ b) (hs : s.heap.IsSliceOf sl vl vu .none) (ra : RelV (.int a) vl) (rc : RelV (.int c) vu) (h0 : 0 ≤ a) (hac : a ≤ c) (hc : c ≤ xs.length)
    (hz : xs.length + ys.length ≤ sizeLine) (h : ∀ s', Inv X pins σ (upd H l (.lst (xs.take a.toNat ++ ys ++ xs.drop c.toNat))) s' → Q () s') :
    wpAny (model X.prog X.w) X.A (setItem (.ref l) (.ref sl) (.ref b)) Q X.xe s := by
  obtain ⟨ta, rfl⟩ := ra
  obtain ⟨tc, rfl⟩ := rc
  obtain ⟨z, its, n, r, hl, e⟩ := I.lstM hH
  obtain ⟨z2, its2, n2, r2, hl2, e2⟩ := I.lstM hB
  obtain ⟨a', rfl⟩ := Int.eq_ofNat_of_zero_le h0
  obtain ⟨c', rfl⟩ := Int.eq_ofNat_of_zero_le (Int.le_trans h0 hac)
  simp only [Int.toNat_natCast] at h
  refine setItem_slice (a := a') (c := c') e e2 hne hs (.int _ _) (.int _ _) (by omega) (by rw [List.size_toArray]; omega) (by rw [List.size_toArray, List.size_toArray]; omega) (h _ ?_)
  refine I.lset (its' := its.take a' ++ its2 ++ its.drop c') (t' := s.toks) hH e ?_ (Vals.append (Vals.append (r.take _) r2) (r.drop _)) ?_
  · exact splice_eq its its2 a' c'
  · rw [List.length_append, List.length_append, List.length_take, List.length_drop]
    omega
end
end L2

namespace Att
open PySem PySem.W PySem.Calls PyProof.Rows

/-! ### the script -/
theorem ints_of_wellAll {P : Params} {h : Heap} : ∀ (ns : List Int) (vs : List Value), WellAll P h vs (ns.map WData.int) → IntsAre vs ns := by
  intro ns
  induction ns with
  | nil =>
    intro vs w
    rw [List.map_nil] at w
    cases w
    exact .nil
  | cons n ns ih =>
    intro vs w
    rw [List.map_cons] at w
    cases w with
    | cons a b =>
      cases a
      exact .cons _ _ (ih _ b)

theorem script_of {l : OpenLaw} {n : Nat} (hn : l.most = some n) {P : Params} {h : Heap} {args : List WData} {vals : List Value}
    (hpre : l.row.toRowW.claim.pre args = true) (hwl : WellAll P h vals args) :
    ∃ a vs ns, vals = [Value.ref a] ∧ args = [WData.list (ns.map WData.int)] ∧ h.get? a = some { cls := .type "list", data := .seq vs.toArray } ∧ IntsAre vs ns ∧ ns.length ≤ n := by
  have hsh : WShape.hasAll [] args [.list .int] = true := (pre_splitW hpre).1
  have hc : l.pre.holds [] { args := args } = true := (pre_splitW hpre).2
  obtain ⟨d, r, rfl, h1, h2⟩ := hasAllW_cons hsh
  obtain rfl := hasAllW_nil h2
  obtain ⟨xs, rfl, h3⟩ := hasW_list h1
  obtain ⟨ns, rfl⟩ := items_int h3
  have hlen : ns.length ≤ n := by
    unfold OpenLaw.pre at hc
    have h4 : (WTm.not (.lt (.lit (.int (n : Int))) (.len (.arg 0)))).holds [] { args := [.list (ns.map .int)] } = true := by
      have h4 := (holds_andW hc).1
      rw [hn] at h4
      exact h4
    have h5 := condW_of h4 (w_not (w_lt w_lit (w_len_list (w_arg rfl))))
    rw [List.length_map] at h5
    refine Nat.le_of_not_lt fun q => ?_
    have q' : (n : Int) < ((ns.length : Nat) : Int) := by omega
    first
      | (rw [decide_eq_true q'] at h5; exact absurd h5 (by decide))
      | (simp at h5; omega)
  cases hwl with
  | cons w1 w2 =>
    cases w2
    cases w1 with
    | list ho hall => exact ⟨_, _, ns, rfl, rfl, ho, ints_of_wellAll ns _ hall, hlen⟩

theorem post_true (l : OpenLaw) (args : List WData) : l.row.toRowW.claim.post args (.bool true) args = true :=
  postW_of (r := l.row.toRowW) (X := (true == true))
    (show WShape.has [] (.bool true) .bool = true by first | rfl | decide | simp [WShape.has, WShape.arms, WShape.armsAll])
    (show (WTm.eq .res (.lit (.bool true))).value [] { args := args, res := some (.bool true), after := args } = some (.bool (true == true)) from w_eq_bool (w_res rfl) w_lit) rfl

/-! ### the attachment: holds_open's last premise (the goal 'hc' behind k_head) from a wpAny of the law's body -/
theorem attach {l : OpenLaw} {n : Nat} {q : Program} {loose : List Str} {XP : (Str → Option Value) → Heap → Prop} {YP : World → Heap → Prop} {d : DefRec} {x : Str}
    (hn : l.most = some n) (hdf : d.params.defaults = [])
    (hbind : ∀ pm cd doc v : Value, bindArgs (docDef d.name d.params d.body d.scope pm cd doc) ⟨[v], []⟩ = pure [(x, v)])
    (hx : d.scope.names.lookup x = some .local ∨ d.scope.names.lookup x = some .cell)
    (hk : d.scope.kind = .function) (hco : d.scope.isCoroutine = false) (hgen : d.scope.isGenerator = false)
    (body : ∀ (w : World) (s₀ s₁ s : Shared) (mg mb : Str → Option Value) (fa : Addr) (o : Obj) (pm cd doc : Value) (a : Addr) (vs : List Value) (ns : List Int),
      Ground q loose [] XP w s₀ mg mb s₁.heap → YP w s₁.heap →
      s₁.heap.get? fa = some o → o.data = .func (docDef d.name d.params d.body d.scope pm cd doc) → s₁.heap.CodeRec cd d.name → mg d.name = some (.ref fa) →
      s₁.heap.get? a = some { cls := .type "list", data := .seq vs.toArray } → IntsAre vs ns → ns.length ≤ n →
      s.gens = #[] → s.os = s₁.os →
      Fr s₁.heap s₁.heap.objs.size s.heap (bindL (envOfC d.name d.scope s₁.heap.objs.size fa cd).kindOf [(x, .ref a)] fun _ => none) →
      Cl s₁.heap.objs.size (cellsFrom (s₁.heap.objs.size + 1) d.scope.names []) s.heap (bindC (envOfC d.name d.scope s₁.heap.objs.size fa cd).kindOf [(x, .ref a)] fun _ => none) →
      wpAny (model l.prog w) (callerA.deeper (envOfC d.name d.scope s₁.heap.objs.size fa cd)) (execs d.body (envOfC d.name d.scope s₁.heap.objs.size fa cd))
        (fun f s' => f = .ret (.bool true) ∧ OldK s₁.heap s'.heap ∧ s'.os = s₁.os ∧ AllBare s'.gens) (fun _ _ => False) s) :
    WalkO q loose XP YP l.row.toRowW d [] (fun f vs => PySem.call f vs) := by
  intro w s₀ s₁ mg mb G Y fa o pm cd doc dV kV ho hd hcd hD hmg hg args vals as hpre hlay hrd hwl hlo
  obtain rfl : dV = .none := Dflts.none hD hdf
  obtain rfl : kV = .none := Dflts.noKw hD
  obtain ⟨a, vs, ns, rfl, rfl, hobj, hints, hlen⟩ := script_of hn hpre hwl
  refine enter_call ?_
  refine call_cells_ret (o := o) (by rw [depth_caller]; decide) ho (fd_plain hd) G.T.nolimit hcd (hbind pm cd doc (.ref a)) (fun y hy => ?_) (fun h₁ tk F X => ?_) hco hgen hk
  · obtain rfl : y = (x, Value.ref a) := List.mem_singleton.mp hy
    rcases hx with e | e
    · exact .inl e
    · exact .inr ⟨e, cellsFrom_some _ _ _ (.inl e)⟩
  · refine wpAny_mono (body w s₀ s₁ { s₁ with heap := h₁, toks := tk } mg mb fa o pm cd doc a vs ns G Y ho (fd_plain hd) hcd hmg hobj hints hlen hg rfl F X) (fun f s' hq => ?_) (fun _ _ hq => hq)
    obtain ⟨rfl, h2, h3, h4⟩ := hq
    exact ⟨.inl ⟨.bool true, .bool true, [], rfl, fun _ => rfl, .bool true, post_true l _, fun _ => ⟨List.Pairwise.nil, fun _ hm => (nomatch hm)⟩⟩, h2, h3, h4⟩

/-- the same from a codeAny of the CALL (for a layer whose function contracts speak of calls) -/
theorem attach_call {l : OpenLaw} {n : Nat} {q : Program} {loose : List Str} {XP : (Str → Option Value) → Heap → Prop} {YP : World → Heap → Prop} {d : DefRec}
    (hn : l.most = some n) (hdf : d.params.defaults = [])
    (call : ∀ (w : World) (s₀ s₁ : Shared) (mg mb : Str → Option Value) (fa : Addr) (o : Obj) (pm cd doc : Value) (a : Addr) (vs : List Value) (ns : List Int),
      Ground q loose [] XP w s₀ mg mb s₁.heap → YP w s₁.heap →
      s₁.heap.get? fa = some o → o.data = .func (docDef d.name d.params d.body d.scope pm cd doc) → s₁.heap.CodeRec cd d.name → mg d.name = some (.ref fa) →
      s₁.heap.get? a = some { cls := .type "list", data := .seq vs.toArray } → IntsAre vs ns → ns.length ≤ n → s₁.gens = #[] →
      codeAny (model l.prog w) callerA (.call (.ref fa) ⟨[.ref a], []⟩) (fun r s' => r = .ok (.ret (.bool true)) ∧ OldK s₁.heap s'.heap ∧ s'.os = s₁.os ∧ AllBare s'.gens) s₁) :
    WalkO q loose XP YP l.row.toRowW d [] (fun f vs => PySem.call f vs) := by
  intro w s₀ s₁ mg mb G Y fa o pm cd doc dV kV ho hd hcd hD hmg hg args vals as hpre hlay hrd hwl hlo
  obtain rfl : dV = .none := Dflts.none hD hdf
  obtain rfl : kV = .none := Dflts.noKw hD
  obtain ⟨a, vs, ns, rfl, rfl, hobj, hints, hlen⟩ := script_of hn hpre hwl
  refine enter_call (codeAny_mono (call w s₀ s₁ mg mb fa o pm cd doc a vs ns G Y ho (fd_plain hd) hcd hmg hobj hints hlen hg) fun r s' hq => ?_)
  obtain ⟨rfl, h2, h3, h4⟩ := hq
  exact ⟨.inl ⟨.bool true, .bool true, [], rfl, fun _ => rfl, .bool true, post_true l _, fun _ => ⟨List.Pairwise.nil, fun _ hm => (nomatch hm)⟩⟩, h2, h3, h4⟩

/-- the same where the top left finished generators (o_head chose holds_openN): nothing may have changed at all and no generator may be left -/
theorem attachN {l : OpenLaw} {n : Nat} {q : Program} {loose : List Str} {XP : (Str → Option Value) → Heap → Prop} {YP : World → Heap → Prop} {d : DefRec} {x : Str}
    (hn : l.most = some n) (hdf : d.params.defaults = [])
    (hbind : ∀ pm cd doc v : Value, bindArgs (docDef d.name d.params d.body d.scope pm cd doc) ⟨[v], []⟩ = pure [(x, v)])
    (hx : d.scope.names.lookup x = some .local ∨ d.scope.names.lookup x = some .cell)
    (hk : d.scope.kind = .function) (hco : d.scope.isCoroutine = false) (hgen : d.scope.isGenerator = false)
    (body : ∀ (w : World) (s₀ s₁ s : Shared) (mg mb : Str → Option Value) (fa : Addr) (o : Obj) (pm cd doc : Value) (a : Addr) (vs : List Value) (ns : List Int),
      Ground q loose [] XP w s₀ mg mb s₁.heap → YP w s₁.heap →
      s₁.heap.get? fa = some o → o.data = .func (docDef d.name d.params d.body d.scope pm cd doc) → s₁.heap.CodeRec cd d.name → mg d.name = some (.ref fa) →
      s₁.heap.get? a = some { cls := .type "list", data := .seq vs.toArray } → IntsAre vs ns → ns.length ≤ n →
      s.gens = #[] → s.os = s₁.os →
      Fr s₁.heap s₁.heap.objs.size s.heap (bindL (envOfC d.name d.scope s₁.heap.objs.size fa cd).kindOf [(x, .ref a)] fun _ => none) →
      Cl s₁.heap.objs.size (cellsFrom (s₁.heap.objs.size + 1) d.scope.names []) s.heap (bindC (envOfC d.name d.scope s₁.heap.objs.size fa cd).kindOf [(x, .ref a)] fun _ => none) →
      wpAny (model l.prog w) (callerA.deeper (envOfC d.name d.scope s₁.heap.objs.size fa cd)) (execs d.body (envOfC d.name d.scope s₁.heap.objs.size fa cd))
        (fun f s' => f = .ret (.bool true) ∧ (∀ b o, s₁.heap.get? b = some o → s'.heap.get? b = some o) ∧ s'.os = s₁.os ∧ s'.gens = #[]) (fun _ _ => False) s) :
    WalkN q loose XP YP l.row.toRowW d [] (fun f vs => PySem.call f vs) := by
  intro w s₀ s₁ mg mb G Y fa o pm cd doc dV kV ho hd hcd hD hmg hg args vals as hpre hlay hrd hwl hlo
  obtain rfl : dV = .none := Dflts.none hD hdf
  obtain rfl : kV = .none := Dflts.noKw hD
  obtain ⟨a, vs, ns, rfl, rfl, hobj, hints, hlen⟩ := script_of hn hpre hwl
  refine enter_callW ?_
  refine call_cells_ret (o := o) (by rw [depth_caller]; decide) ho (fd_plain hd) G.T.nolimit hcd (hbind pm cd doc (.ref a)) (fun y hy => ?_) (fun h₁ tk F X => ?_) hco hgen hk
  · obtain rfl : y = (x, Value.ref a) := List.mem_singleton.mp hy
    rcases hx with e | e
    · exact .inl e
    · exact .inr ⟨e, cellsFrom_some _ _ _ (.inl e)⟩
  · refine wpAny_mono (body w s₀ s₁ { s₁ with heap := h₁, toks := tk } mg mb fa o pm cd doc a vs ns G Y ho (fd_plain hd) hcd hmg hobj hints hlen hg rfl F X) (fun f s' hq => ?_) (fun _ _ hq => hq)
    obtain ⟨rfl, h2, h3, h4⟩ := hq
    exact ⟨.inl ⟨.bool true, .bool true, [], rfl, fun _ => rfl, .bool true, post_true l _, fun _ => ⟨List.Pairwise.nil, fun _ hm => (nomatch hm)⟩⟩, h2, h3, h4⟩

/-! ### rules over ANY heap (no ledger) from facts about the written part K: the library's own take a ledger (News) for what they write -/
section
variable {prog : Program} {w : World} {A : Around} {E : Value → Shared → Prop} {s : Shared} {K : Frag}

/-- a def of the module, or a method (qual 'C.m'), entered: the frame is the next address; cells behind it -/
theorem call_fn {R : Result → Shared → Prop} {name qual : Str} {params : Arguments} {body : List Stmt} {scope : Scope} {dV kV doc pm cdv ct oc : Value} {an od : Option Addr} {osl : Array (Option Value)} {f : Addr} {args : Args} {binds : List (Str × Value)}
    (X : K.In s.heap) (hlim : s.heap.NoLimit) (ho : K.lookup f = some ⟨oc, od, .func (fnOf name qual params body scope dV kV doc pm an cdv ct), osl⟩) (hcd : codeIn K cdv qual = true) (hroom : A.depth < recursionLimit)
    (hbind : BindsTo s (fnOf name qual params body scope dV kV doc pm an cdv ct) args binds)
    (hkind : (binds.all fun y => scope.names.lookup y.1 == some .local || scope.names.lookup y.1 == some .cell) = true)
    (h : ∀ s₁, InCallC s s.heap.objs.size (bindL (envOfC qual scope s.heap.objs.size f cdv).kindOf binds fun _ => none) (cellsFrom (s.heap.objs.size + 1) scope.names [])
        (bindC (envOfC qual scope s.heap.objs.size f cdv).kindOf binds fun _ => none) s₁ →
      wpAny (model prog w) (A.deeper (envOfC qual scope s.heap.objs.size f cdv)) (execs body (envOfC qual scope s.heap.objs.size f cdv))
        (fun fl s' => R (.ok (.ret (match fl with | .ret v => v | _ => .none))) s')
        (fun e s' => wpAny (model prog w) (A.deeper (envOfC qual scope s.heap.objs.size f cdv)) (leaving (envOfC qual scope s.heap.objs.size f cdv) e) (fun _ s'' => R (.error e) s'') (fun e' s'' => R (.error e') s'') s') s₁)
    (hco : scope.isCoroutine = false) (hgen : scope.isGenerator = false) (hk : scope.kind = .function) : codeAny (model prog w) A (.call (.ref f) args) R s := by
  refine codeAny_call_function hroom (X _ _ ho) rfl hco hgen rfl (codeRec_of X hcd) (hbind _ _ _ _ ?_)
  refine wpAny_newFunctionEnv_cells hk (kindsX hkind _) fun env he s₁ x => ?_
  subst he
  exact ⟨hlim.keeps x.toInCall.keep, codeAny_func (h s₁ x)⟩

/-- C(..): dict at size, instance at size + 1, then __init__ -/
theorem make_obj {R : Result → Shared → Prop} {C fI : Addr} {rest : List Value} {kw : List (Str × Value)}
    (X : K.In s.heap) (hm : makesIn K C = true) (hi : findIn K (.ref C) "__init__" = some (some (.ref fI))) (hf : isFn K (.ref fI) = true)
    (h : codeAny (model prog w) (A.under (.builtin "type.__call__" ⟨.ref C :: rest, kw⟩)) (.call (.ref fI) ⟨.ref (s.heap.objs.size + 1) :: rest, kw⟩) (InitBack (s.heap.objs.size + 1) R)
      { s with heap := (s.heap.push emptyDict).push (instObj C s.heap.objs.size) }) : codeAny (model prog w) A (.call (.ref C) ⟨rest, kw⟩) R s := by
  obtain ⟨hh, g, d, t, os⟩ := s
  exact make_core (makes_of X hm) (looks_findIn X hi) (fun self => bind_fn X self (beq_iff_eq.mp hf)) (.inl rfl) h

/-- x.name where the instance's dict holds the name and the class does not -/
theorem get_field {x C : Addr} {ox : Obj} {es : List DictEntry} {n : Nat} {name : Str} {expr : Bool} {v : Value} {Q : Value → Shared → Prop}
    (X : K.In s.heap) (I : PySem.W.InstAt s.heap x ox C (some (dictOf es n))) (hg : plainGet K C name = true) (hh : hasDictIn K C = true) (ha : findIn K (.ref C) name = some none)
    (hl : getL name es = some (some v)) (hv : handedIn v = true) (h : Q v { s with toks := s.toks + 1 }) : wpAny (model prog w) A (getAttr (.ref x) name expr) Q E s :=
  get_value X I (plainGet_of hg).1 (findObj_own hh ha rfl hl) hv h

/-- x.m(..): the method found in the class -/
theorem get_method {x C f : Addr} {ox : Obj} {es : List DictEntry} {n : Nat} {name : Str} {pl : Sem Bool} {Q : Value × List Value → Shared → Prop}
    (X : K.In s.heap) (I : PySem.W.InstAt s.heap x ox C (some (dictOf es n))) (hg : plainGet K C name = true) (hf : findIn K (.ref C) name = some (some (.ref f))) (ht : isFn K (.ref f) = true)
    (hl : getL name es = some none) (h : Q (.ref f, [.ref x]) s) : wpAny (model prog w) A (getMethod (.ref x) name pl) Q E s :=
  method_fn X I (plainGet_of hg).1 (plainGet_of hg).2 hf (beq_iff_eq.mp ht) (by show (lookIn name (dictOf es n)).map _ = _; rw [lookIn_dict, hl]; rfl) h

/-! the whole heap as the ledger: makes every rule that writes through a ledger a rule over any heap -/
def noObjs (h : Heap) : Heap := { h with objs := #[] }
theorem noObjs_get (h : Heap) (b : Addr) : (noObjs h).get? b = none := by
  cases e : (noObjs h).get? b with
  | none => rfl
  | some o => exact absurd (Heap.lt_size e) (Nat.not_lt_zero _)
def ledger (h : Heap) (L d : Addr) : List (Addr × Obj) := (List.range h.objs.size).filterMap fun a => if a = L ∨ a = d then none else (h.get? a).map fun o => (a, o)
theorem mem_ledger {h : Heap} {L d a : Addr} {o : Obj} : (a, o) ∈ ledger h L d ↔ a ≠ L ∧ a ≠ d ∧ h.get? a = some o := by
  unfold ledger
  rw [List.mem_filterMap]
  constructor
  · rintro ⟨b, _, e⟩
    split at e
    · cases e
    · rename_i hb
      obtain ⟨o', ho, e'⟩ := Option.map_eq_some_iff.mp e
      cases e'
      exact ⟨fun q => hb (.inl q), fun q => hb (.inr q), ho⟩
  · rintro ⟨n1, n2, ho⟩
    refine ⟨a, List.mem_range.mpr (Heap.lt_size ho), ?_⟩
    rw [if_neg (show ¬ (a = L ∨ a = d) from fun q => q.elim n1 n2), ho] <;> rfl
theorem news_ledger {h : Heap} {L d : Addr} {od : Obj} (hne : d ≠ L) (ho : h.get? d = some od) : News (noObjs h) L h ([] ++ (d, od) :: ledger h L d) := by
  rintro ⟨a, o⟩ hp
  rcases List.mem_cons.mp hp with e | hp
  · cases e
    exact ⟨ho, hne, noObjs_get _ _⟩
  · obtain ⟨n1, n2, e⟩ := mem_ledger.mp hp
    exact ⟨e, n1, noObjs_get _ _⟩
theorem fr_all {h : Heap} {L : Addr} {m : Str → Option Value} (n : h.Ns L m) : Fr (noObjs h) L h m :=
  ⟨n, fun b o e => (by rw [noObjs_get] at e; cases e), Nat.zero_le _⟩
/-- Upd of the head entry (for append_K, setItem_K ..) -/
theorem upd_ledger {h : Heap} {L d : Addr} {o o' : Obj} : Upd d o o' ((d, o) :: ledger h L d) ((d, o') :: ledger h L d) :=
  .head fun ⟨_, _⟩ hp => (mem_ledger.mp hp).2.1

/-- x.name = v over any heap: L is any namespace of the heap (the frame's, say): its map stays, its object is not told; all else but the dict stays -/
theorem set_field {x C dx L : Addr} {ox : Obj} {m : Str → Option Value} {es es' : List DictEntry} {n n' : Nat} {name : Str} {v : Value} {Q : Unit → Shared → Prop}
    (X : K.In s.heap) (I : PySem.W.InstAt s.heap x ox C (some (dictOf es n))) (hd : ox.dict = some dx) (hL : s.heap.Ns L m) (hne : dx ≠ L)
    (hs : findIn K (.ref C) "__setattr__" = some (some (.builtin "object.__setattr__"))) (hp : plainOver K C = true) (ht : takerIn K C name = some none) (hh : hasDictIn K C = true) (hl : (getL name es).isSome = true)
    (e : (putL name (PyData.keyHash w.params name) (.str name (s.toks + 1)) v es, putN name es n) = (es', n')) (hz : es'.length ≤ 1000)
    (h : ∀ h' : Heap, h'.Ns L m → h'.get? dx = some (dictOf es' n') → (∀ b o, b ≠ dx → b ≠ L → s.heap.get? b = some o → h'.get? b = some o) → Q () { s with heap := h', toks := s.toks + 2 }) :
    wpAny (model prog w) A (setAttr (.ref x) name v) Q E s := by
  obtain ⟨e1, e2⟩ := Prod.mk.inj e
  have hdx : s.heap.get? dx = some (dictOf es n) := by
    have := I.dict
    rw [hd] at this
    exact this
  refine set_plain X I hs (osa_dict (s := { s with toks := s.toks + 1 }) (h₀ := noObjs s.heap) (L := L) (m := m) (od := dictOf es n) (od' := dictOf es' n') (es := es') (n := n') (pre := []) (post := ledger s.heap L dx)
    (fr_all hL) (news_ledger hne hdx) X I hd hp ht hh hl (fun _ q => nomatch q) (fun ⟨_, _⟩ q => (mem_ledger.mp q).2.1) (by rw [putName_dict, e1, e2]) rfl hz fun h' F' N' => ?_)
  exact h h' F'.ns (N'.get (List.Mem.head _)) fun b o n1 n2 ho => N'.get (List.Mem.tail _ (mem_ledger.mpr ⟨n2, n1, ho⟩))
end
end Att

namespace L2
open PySem PySem.Spec PyProof.Rows

theorem vals_ints : ∀ {vs : List Value} {ns : List Int}, IntsAre vs ns → Vals (ns.map V.int) vs
  | _, _, .nil => .nil
  | _, _, .cons n t h => .cons ⟨t, rfl⟩ (vals_ints h)

/-- nothing is tracked but the script, known to the object (or it is an object of the module) -/
def Only (H : Hp) : Prop := ∀ b, H b = none ∨ ∃ o xs, H b = some (.frz o (.lst xs))

/-- THE HEAD: the law's promise, at the heap behind the top. F, the promise of the law's def, may use that base is part of the heap (so K.In base, base.Ns mainGlobals mg stand in Mod) -/
theorem law_call {P : Program} {w : World} {K : PySem.W.Frag} {mg mb : Str → Option Value} {CX : CXT} {k : Nat} {fa a : Addr} {fd : FuncData} {x : Str} {sp : Sp} {s₁ : Shared} {vs : List Value} {ns : List Int}
    (KX : K.In s₁.heap) (hns : s₁.heap.Ns mainGlobals mg) (hb : s₁.heap.Ns builtinsNs mb) (hbb : ∀ x : Str, x ≠ "__name__" → mb x = bootBuiltins x) (hlim : s₁.heap.NoLimit) (hg : s₁.gens = #[])
    (ha : s₁.heap.get? a = some { cls := .type "list", data := .seq vs.toArray }) (hi : IntsAre vs ns) (hl : ns.length ≤ sizeLine) (hr : Room k callerA)
    (F : ∀ base : Heap, K.In base → base.Ns mainGlobals mg → FnOk P w K mg base CX k fa fd [x] sp) (hbind : ∀ (s : Shared) (u : Value), BindsTo s fd ⟨[u], []⟩ [(x, u)])
    (hsp : ∀ H : Hp, Only H → SqL K H a (ns.map V.int) → sp [.ref a] H (fun v _ => v = .bl true) fun _ _ _ => False)
    (hCX : ∀ H e s', CX [] H s₁ (fun _ _ _ => False) e s' → False) :
    codeAny (model P w) callerA (.call (.ref fa) ⟨[.ref a], []⟩) (fun r s' => r = .ok (.ret (.bool true)) ∧ OldK s₁.heap s'.heap ∧ s'.os = s₁.os ∧ AllBare s'.gens) s₁ := by
  have rv := vals_ints hi
  have lenV := hi.length
  -- from an abstract heap in which nothing but the script may be tracked
  have core : ∀ H : Hp, Only H → SqL K H a (ns.map V.int) → HOk P w H s₁.heap → (∀ b, H b ≠ none → b = a) → (H a ≠ none → K.lookup a = none) →
      codeAny (model P w) callerA (.call (.ref fa) ⟨[.ref a], []⟩) (fun r s' => r = .ok (.ret (.bool true)) ∧ OldK s₁.heap s'.heap ∧ s'.os = s₁.os ∧ AllBare s'.gens) s₁ := by
    intro H hO hS hok hA hK
    have base_of : ∀ {b : Addr} {o : Obj}, s₁.heap.get? b = some o → H b = none → (hidT s₁.heap H).get? b = some o := fun e n => hidT_get e n
    have noA : ∀ {b : Addr} {o : Obj} {es : Array DictEntry} {ep : Nat}, s₁.heap.get? b = some o → o.data = .dict es ep → H b = none := fun {b o es ep} e d => by
      cases q : H b with
      | none => rfl
      | some u =>
        have e' : b = a := hA b (by rw [q]; simp)
        subst e'
        rw [ha] at e; cases e
        have d' : Data.seq vs.toArray _ = Data.dict es ep := d
        cases d'
    have nsK : ∀ {b : Addr} {m : Str → Option Value}, s₁.heap.Ns b m → (hidT s₁.heap H).Ns b m := fun {b m} ⟨o, es, ep, e, d, r⟩ => ⟨o, es, ep, base_of e (noA e d), d, r⟩
    have hKb : K.In (hidT s₁.heap H) := fun b o e => base_of (KX b o e) (by
      cases q : H b with
      | none => rfl
      | some u =>
        have e' : b = a := hA b (by rw [q]; simp)
        subst e'
        rw [hK (by rw [q]; simp)] at e; cases e)
    have hM : Mod K mg (hidT s₁.heap H) := ⟨hKb, nsK hns, ⟨mb, nsK hb, hbb⟩, let ⟨mc, h1, h2⟩ := hlim; ⟨mc, nsK h1, h2⟩⟩
    have e0 : Env0 P w K mg (hidT s₁.heap H) callerA [] s₁ H := ⟨rfl, hM, fun b o e => of_hidT e, Nat.le_of_eq (hidT_size _ _), trivial, fun b hb => absurd (show b ∈ ([] : List Addr) from hb) (by simp), hok, .of_eq hg⟩
    refine codeAny_mono ((F _ hKb (nsK hns)).run callerA [] s₁ H ⟨[.ref a], []⟩ [.ref a] [.ref a] _ _ hr e0 (hbind s₁ (.ref a)) (.cons rfl .nil) (hsp H hO hS)) fun r s' h => ?_
    cases r with
    | error e => exact (hCX H e s' h).elim
    | ok fl =>
      cases fl with
      | next => exact False.elim h
      | brk => exact False.elim h
      | cont => exact False.elim h
      | ret u =>
        obtain ⟨v, H', os, bare, un, hok', r', q⟩ := h
        have q' : v = .bl true := q
        subst q'
        obtain rfl : u = Value.bool true := r'
        refine ⟨rfl, OldK.of_keep fun b o e => ?_, os, bare⟩
        cases q : H b with
        | none => exact un.keep b o e q (by intro z; exact absurd (show b ∈ ([] : List Addr) from z) (by simp)) (by simp)
        | some u =>
          rcases hO b with z | ⟨ob, xs, z⟩
          · rw [q] at z; cases z
          · have z2 := un.frzs b ob _ z
            obtain ⟨e1, _⟩ := hok b _ z
            obtain ⟨e2, _⟩ := hok' b _ z2
            rw [e] at e1; cases e1
            exact e2
  cases hk : K.lookup a with
  | some o =>
    -- the script is one of the module's own objects
    have e := KX a o hk
    rw [ha] at e
    cases e
    refine core (fun _ => none) (fun _ => .inl rfl) (.inr ⟨_, vs.toArray, _, hk, rfl, rfl, rfl, by rw [List.size_toArray, lenV]; exact hl, by simpa using rv⟩) (fun b u z => by have z' : (none : Option HO) = some u := z; cases z') (fun b z => absurd rfl z) fun z => absurd rfl z
  | none =>
    refine core (fun b => if b = a then some (.frz { cls := .type "list", data := .seq vs.toArray } (.lst (ns.map V.int))) else none) (fun b => ?_) (.inl (.inr ⟨{ cls := .type "list", data := .seq vs.toArray }, if_pos rfl⟩)) (fun b u z => ?_) (fun b z => ?_) fun _ => hk
    · by_cases hb : b = a
      · exact .inr ⟨_, _, if_pos hb⟩
      · exact .inl (if_neg hb)
    · by_cases hb : b = a
      · have z' := (if_pos hb).symm.trans z
        cases z'
        subst hb
        exact ⟨ha, by rw [List.length_map]; exact hl, vs, _, rv, ha⟩
      · have z' := (if_neg hb).symm.trans z
        cases z'
    · by_cases hb : b = a
      · exact hb
      · exact absurd (if_neg hb) z
end L2

namespace L2
open PySem PySem.Spec PyProof.Rows

abbrev KOf {K : PySem.W.Frag} {h : Heap} (_ : K.In h) : PySem.W.Frag := K

/-- the goal that k_head leaves (case hc), from the law's promise. F gives the function object fd (K's own) once, then the promise over every base -/
theorem walk_of {l : PySem.W.OpenLaw} {n k : Nat} {q : Program} {loose : List Str} {XP : (Str → Option Value) → Heap → Prop} {YP : World → Heap → Prop} {d : DefRec} {K : Params → PySem.W.Frag} {CX : World → CXT} {sp : World → Sp} {x : Str}
    (hn : l.most = some n) (hn2 : n ≤ sizeLine) (hdf : d.params.defaults = []) (hr : Room k callerA)
    (hY : ∀ (w : World) (h : Heap), YP w h → (K w.params).In h)
    (F : ∀ (w : World) (mg : Str → Option Value) (fa : Addr) (h : Heap), (K w.params).In h → h.Ns mainGlobals mg → mg d.name = some (.ref fa) →
      ∃ fd : FuncData, (∀ (s : Shared) (u : Value), BindsTo s fd ⟨[u], []⟩ [(x, u)]) ∧
        ∀ base : Heap, (K w.params).In base → base.Ns mainGlobals mg → FnOk l.prog w (K w.params) mg base (CX w) k fa fd [x] (sp w))
    (hsp : ∀ (w : World) (H : Hp) (a : Addr) (ns : List Int), ns.length ≤ n → Only H → SqL (K w.params) H a (ns.map V.int) → sp w [.ref a] H (fun v _ => v = .bl true) fun _ _ _ => False)
    (hCX : ∀ (w : World) (H : Hp) (s : Shared) (e : Value) (s' : Shared), CX w [] H s (fun _ _ _ => False) e s' → False) :
    PySem.W.WalkO q loose XP YP l.row.toRowW d [] (fun f vs => PySem.call f vs) := by
  refine Att.attach_call hn hdf fun w s₀ s₁ mg mb fa o pm cd doc a vs ns G Y ho hd hcd hmg hobj hints hlen hg => ?_
  have KX := hY w _ Y
  obtain ⟨fd, hb, hF⟩ := F w mg fa _ KX G.T.g hmg
  exact law_call KX G.T.g G.T.b G.T.builtins G.T.nolimit hg hobj hints (Nat.le_trans hlen hn2) hr hF hb (fun H hO hS => hsp w H a ns hlen hO hS) fun H e s' => hCX w H s₁ e s'
/-- the same where the promise hangs on the written part alone: (sp := My.sp_law), no hole under a binder -/
theorem walk_ofK {l : PySem.W.OpenLaw} {n k : Nat} {q : Program} {loose : List Str} {XP : (Str → Option Value) → Heap → Prop} {YP : World → Heap → Prop} {d : DefRec} {K : Params → PySem.W.Frag} {CX : CXT} {sp : PySem.W.Frag → Sp} {x : Str}
    (hn : l.most = some n) (hn2 : n ≤ sizeLine) (hdf : d.params.defaults = []) (hr : Room k callerA)
    (hY : ∀ (w : World) (h : Heap), YP w h → (K w.params).In h)
    (F : ∀ (w : World) (mg : Str → Option Value) (fa : Addr) (h : Heap), (K w.params).In h → h.Ns mainGlobals mg → mg d.name = some (.ref fa) →
      ∃ fd : FuncData, (∀ (s : Shared) (u : Value), BindsTo s fd ⟨[u], []⟩ [(x, u)]) ∧
        ∀ base : Heap, (K w.params).In base → base.Ns mainGlobals mg → FnOk l.prog w (K w.params) mg base CX k fa fd [x] (sp (K w.params)))
    (hsp : ∀ (K : PySem.W.Frag) (H : Hp) (a : Addr) (ns : List Int), ns.length ≤ n → Only H → SqL K H a (ns.map V.int) → sp K [.ref a] H (fun v _ => v = .bl true) fun _ _ _ => False)
    (hCX : ∀ (H : Hp) (s : Shared) (e : Value) (s' : Shared), CX [] H s (fun _ _ _ => False) e s' → False) :
    PySem.W.WalkO q loose XP YP l.row.toRowW d [] (fun f vs => PySem.call f vs) :=
  walk_of (K := K) (CX := fun _ => CX) (sp := fun w => sp (K w.params)) hn hn2 hdf hr hY F (fun w H a ns h1 h2 h3 => hsp (K w.params) H a ns h1 h2 h3) fun _ H s e s' => hCX H s e s'
end L2



/-! SHORT WORDS over the layer: a def of the text, its body, what a loop and a test want. -/
namespace L2
open PySem PySem.Spec PyProof.Rows

/-! ### the text by places -/
/-- the j-th statement of a class's body -/
def inClass (s : Stmt) (j : Nat) : Stmt := match s with
  | .ClassDef _ _ _ body _ _ _ _ _ _ _ => body.getD j (.Pass ⟨0, 0, 0, 0⟩)
  | _ => .Pass ⟨0, 0, 0, 0⟩
def defArgs (s : Stmt) : Arguments := match s with
  | .FunctionDef _ a _ _ _ _ _ _ _ _ => a
  | _ => { posonlyargs := [], args := [], vararg := none, kwonlyargs := [], kw_defaults := [], kwarg := none, defaults := [] }
def defBody (s : Stmt) : List Stmt := match s with
  | .FunctionDef _ _ b _ _ _ _ _ _ _ => b
  | _ => []
def defScope (s : Stmt) : Scope := match s with
  | .FunctionDef _ _ _ _ _ _ sc _ _ _ => sc
  | _ => { kind := .function, names := [], isGenerator := false, isCoroutine := false }

/-! ### no exception leaves a def -/
abbrev CX0 : CXT := fun _ _ _ _ _ _ => False
abbrev E0 : XK := fun _ _ _ => False
theorem pass0 {X : Cx} : Passes CX0 X E0 := fun _ _ _ _ _ _ _ h => h.elim

/-! ### a def (or method) of the text as it stands behind the top -/
structure Fun (K : PySem.W.Frag) (x qual : Str) (st : Stmt) (f : Addr) (fd : FuncData) : Prop where
  ex : ∃ (oc : Value) (od : Option Addr) (kV doc pm : Value) (an : Option Addr) (cdv ct : Value) (osl : Array (Option Value)),
    fd = PySem.W.fnOf x qual (defArgs st) (defBody st) (defScope st) .none kV doc pm an cdv ct ∧ K.lookup f = some ⟨oc, od, .func fd, osl⟩ ∧ PySem.W.codeIn K cdv qual = true
  kp : PySem.W.keepIn K (.ref f) = true
section
variable {P : Program} {w : World} {K : PySem.W.Frag} {mg : Str → Option Value} {base : Heap}
/-- THE RULE for a def: its body as a term of rules, and the reading of that term -/
theorem Fun.ok {x qual : Str} {st : Stmt} {f : Addr} {fd : FuncData} {N ps : List Str} {k : Nat} {sp : Sp} (F : Fun K x qual st f fd) (S : FnScope N ps (defScope st)) (len : ∀ vs H Q E, sp vs H Q E → vs.length = ps.length)
    (hbody : ∀ (cdv : Value) (A : Around) (outer : List Env) (s : Shared) (H : Hp) (vs : List V) (Q : VK) (E : XK), Room k (A.deeper (envOfC qual (defScope st) s.heap.objs.size f cdv)) → sp vs H Q E →
      ∃ t, PSs (cxOf CX0 P w K mg base N qual (defScope st) f cdv A outer s H E).nox (defBody st) t ∧ t { nx := fun _ H' => Q .non H', rt := Q } (start N vs) H) : FnOk P w K mg base CX0 (k + 1) f fd ps sp := by
  obtain ⟨oc, od, kV, doc, pm, an, cdv, ct, osl, rfl, lk, hcd⟩ := F.ex
  refine fn_of lk hcd S len fun A outer s H vs Q E hr hsp => ?_
  obtain ⟨t, h, q⟩ := hbody cdv A outer s H vs Q E hr hsp
  exact ⟨t, h.nox, q⟩
/-- how its arguments bind (no defaults): h is «fun _ _ _ _ _ _ us hl => match us, hl with | [_, _], _ => rfl», one _ a parameter -/
theorem Fun.binds {x qual : Str} {st : Stmt} {f : Addr} {fd : FuncData} {ps : List Str} (F : Fun K x qual st f fd)
    (h : ∀ (kV doc pm : Value) (an : Option Addr) (cdv ct : Value) (us : List Value), us.length = ps.length → bindArgs (PySem.W.fnOf x qual (defArgs st) (defBody st) (defScope st) .none kV doc pm an cdv ct) ⟨us, []⟩ = pure (ps.zip us)) : Binds K fd ps [] := by
  obtain ⟨oc, od, kV, doc, pm, an, cdv, ct, osl, rfl, lk, hcd⟩ := F.ex
  exact .all (h kV doc pm an cdv ct)
theorem fun_mk {x qual : Str} {st : Stmt} {f : Addr} {oc : Value} {od an : Option Addr} {osl : Array (Option Value)} {kV doc pm cdv ct : Value} (l : K.lookup f = some ⟨oc, od, .func (PySem.W.fnOf x qual (defArgs st) (defBody st) (defScope st) .none kV doc pm an cdv ct), osl⟩)
    (c : PySem.W.codeIn K cdv qual = true) (k : PySem.W.keepIn K (.ref f) = true) : Fun K x qual st f (PySem.W.fnOf x qual (defArgs st) (defBody st) (defScope st) .none kV doc pm an cdv ct) := ⟨⟨oc, od, kV, doc, pm, an, cdv, ct, osl, rfl, l, c⟩, k⟩
end
theorem hu_of {A : Around} {k : Nat} (hr : Room k A) : A.units + 1 < cLine := Nat.lt_of_le_of_lt (Nat.add_le_add_left (by decide : 1 ≤ 64) _) hr.units
theorem small1000 {n : Nat} (h : n ≤ 1000) : n < sizeLine := Nat.lt_of_le_of_lt h (by decide)

/-! ### expressions in short: the name that stands in the i-th slot -/
section
variable {X : Cx}
theorem pv (i : Nat) {x : Str} {pos : Pos} (hN : X.N[i]? = some x := by rfl) (hv : Vis X.env.scope x := by first | exact Or.inl rfl | exact Or.inr (Or.inl rfl) | exact Or.inr (Or.inr rfl)) (hd : (x == ("__debug__" : Str)) = false := by decide)
    (hcd : (x == ("__classdict__" : Str)) = false := by decide) : PE X (.Name x pos) (tVar i) := pe_var hN hv hd hcd
end

/-! ### tests -/
theorem iteF {A B : Prop} (h : B) : if false = true then A else B := by
  rw [if_neg Bool.false_ne_true]
  exact h
theorem iteT {A B : Prop} (h : A) : if true = true then A else B := by
  rw [if_pos rfl]
  exact h
theorem ite2 {c A B : Prop} [Decidable c] (h1 : c → A) (h2 : ¬ c → B) : if c then A else B := by
  by_cases h : c
  · rw [if_pos h]
    exact h1 h
  · rw [if_neg h]
    exact h2 h
theorem iteNS {c A B : Prop} [Decidable c] (hc : c) (h : B) : if (!decide c) = true then A else B := by
  rw [decide_eq_true hc]
  exact iteF h

/-! ### heaps -/
/-- all that was tracked is as it was -/
def Same (H H' : Hp) : Prop := ∀ b o, H b = some o → H' b = some o
theorem Same.refl (H : Hp) : Same H H := fun _ _ h => h
theorem Same.trans {H H1 H2 : Hp} (a : Same H H1) (b : Same H1 H2) : Same H H2 := fun c o h => b c o (a c o h)
theorem Same.free {H H' : Hp} (e : Same H H') {l : Addr} (h : H' l = Option.none) : H l = Option.none := by
  cases q : H l with
  | none => rfl
  | some o =>
    rw [e l o q] at h
    cases h
theorem Same.seq {K : PySem.W.Frag} {H H' : Hp} {a : Addr} {xs : List V} (e : Same H H') (h : SqL K H a xs) : SqL K H' a xs := by
  rcases h with (h | ⟨o, h⟩) | h
  · exact .inl (.inl (e _ _ h))
  · exact .inl (.inr ⟨o, e _ _ h⟩)
  · exact .inr h

end L2

set_option Elab.async false
set_option linter.all false
set_option maxRecDepth 100000
set_option maxHeartbeats 4000000
namespace PySem.SeqAt
open AutoSeq1 (wpAny_loadPart')
open MeetsSeq

/-- a dict's object -/
def IsDct (h : Heap) (d : Addr) : Prop := ∃ es ep, h.get? d = some { cls := .type "dict", dict := none, data := .dict es ep, slots := #[] }

theorem dict_eq_declines_none (l : Addr) (es : Array DictEntry) (ep : Nat)  :
    Meets (Builtin.«dict.__eq__» ⟨[.ref l, .none], []⟩) (fun _ R s => s.heap.get? l = some { cls := .type "dict", dict := none, data := .dict es ep, slots := #[] } ∧ R (.ok (.ret .notImplemented)) s) :=
  .of_wp fun prog w A R s h => by obtain ⟨hp, g, d, tk, os⟩ := s; obtain ⟨hl, h⟩ := h; have f1 := F.sub_NoneType_dict; wp_walk using wpAny_loadPart' hl; exact ⟨_, rfl, h⟩
theorem dict_eq_declines_bool (l : Addr) (es : Array DictEntry) (ep : Nat) (b : Bool) :
    Meets (Builtin.«dict.__eq__» ⟨[.ref l, .bool b], []⟩) (fun _ R s => s.heap.get? l = some { cls := .type "dict", dict := none, data := .dict es ep, slots := #[] } ∧ R (.ok (.ret .notImplemented)) s) :=
  .of_wp fun prog w A R s h => by obtain ⟨hp, g, d, tk, os⟩ := s; obtain ⟨hl, h⟩ := h; have f1 := F.sub_bool_dict; wp_walk using wpAny_loadPart' hl; exact ⟨_, rfl, h⟩
theorem dict_eq_declines_int (l : Addr) (es : Array DictEntry) (ep : Nat) (b : Int) (u : Tok) :
    Meets (Builtin.«dict.__eq__» ⟨[.ref l, .int b u], []⟩) (fun _ R s => s.heap.get? l = some { cls := .type "dict", dict := none, data := .dict es ep, slots := #[] } ∧ R (.ok (.ret .notImplemented)) s) :=
  .of_wp fun prog w A R s h => by obtain ⟨hp, g, d, tk, os⟩ := s; obtain ⟨hl, h⟩ := h; have f1 := F.sub_int_dict; wp_walk using wpAny_loadPart' hl; exact ⟨_, rfl, h⟩
theorem dict_eq_declines_str (l : Addr) (es : Array DictEntry) (ep : Nat) (b : Str) (u : Tok) :
    Meets (Builtin.«dict.__eq__» ⟨[.ref l, .str b u], []⟩) (fun _ R s => s.heap.get? l = some { cls := .type "dict", dict := none, data := .dict es ep, slots := #[] } ∧ R (.ok (.ret .notImplemented)) s) :=
  .of_wp fun prog w A R s h => by obtain ⟨hp, g, d, tk, os⟩ := s; obtain ⟨hl, h⟩ := h; have f1 := F.sub_str_dict; wp_walk using wpAny_loadPart' hl; exact ⟨_, rfl, h⟩
theorem int_eq_declines_dict_bool (b : Bool) (l : Addr) (es : Array DictEntry) (ep : Nat) :
    Meets (Builtin.«int.__eq__» ⟨[.bool b, .ref l], []⟩) (fun _ R s => s.heap.get? l = some { cls := .type "dict", dict := none, data := .dict es ep, slots := #[] } ∧ R (.ok (.ret .notImplemented)) s) :=
  .of_wp fun prog w A R s h => by obtain ⟨hp, g, d, tk, os⟩ := s; obtain ⟨hl, h⟩ := h; wp_walk using wpAny_loadPart' hl, wpAny_load hl; exact ⟨_, rfl, h⟩
theorem int_eq_declines_dict_int (b : Int) (u : Tok) (l : Addr) (es : Array DictEntry) (ep : Nat) :
    Meets (Builtin.«int.__eq__» ⟨[.int b u, .ref l], []⟩) (fun _ R s => s.heap.get? l = some { cls := .type "dict", dict := none, data := .dict es ep, slots := #[] } ∧ R (.ok (.ret .notImplemented)) s) :=
  .of_wp fun prog w A R s h => by obtain ⟨hp, g, d, tk, os⟩ := s; obtain ⟨hl, h⟩ := h; wp_walk using wpAny_loadPart' hl, wpAny_load hl; exact ⟨_, rfl, h⟩
theorem str_eq_declines_dict (b : Str) (u : Tok) (l : Addr) (es : Array DictEntry) (ep : Nat) :
    Meets (Builtin.«str.__eq__» ⟨[.str b u, .ref l], []⟩) (fun _ R s => s.heap.get? l = some { cls := .type "dict", dict := none, data := .dict es ep, slots := #[] } ∧ R (.ok (.ret .notImplemented)) s) :=
  .of_wp fun prog w A R s h => by obtain ⟨hp, g, d, tk, os⟩ := s; obtain ⟨hl, h⟩ := h; wp_walk using wpAny_loadPart' hl, wpAny_load hl; exact ⟨_, rfl, h⟩
theorem dict_eq_declines_list (l b : Addr) (es : Array DictEntry) (ep : Nat) (items : Array Value) (n : Nat) (dd : Option Addr) (sl : Array (Option Value)) :
    Meets (Builtin.«dict.__eq__» ⟨[.ref l, .ref b], []⟩) (fun _ R s => s.heap.get? l = some { cls := .type "dict", dict := none, data := .dict es ep, slots := #[] } ∧ s.heap.get? b = some { cls := .type "list", dict := dd, data := .seq items n, slots := sl } ∧ R (.ok (.ret .notImplemented)) s) :=
  .of_wp fun prog w A R s h => by obtain ⟨hp, g, d, tk, os⟩ := s; obtain ⟨hl, hb, h⟩ := h; have f1 := F.sub_list_dict; wp_walk using wpAny_loadPart' hl, wpAny_loadPart' hb; exact ⟨_, rfl, h⟩
theorem list_eq_declines_dict (b l : Addr) (es : Array DictEntry) (ep : Nat) (items : Array Value) (n : Nat) (dd : Option Addr) (sl : Array (Option Value)) :
    Meets (Builtin.«list.__eq__» ⟨[.ref b, .ref l], []⟩) (fun _ R s => s.heap.get? b = some { cls := .type "list", dict := dd, data := .seq items n, slots := sl } ∧ s.heap.get? l = some { cls := .type "dict", dict := none, data := .dict es ep, slots := #[] } ∧ R (.ok (.ret .notImplemented)) s) :=
  .of_wp fun prog w A R s h => by obtain ⟨hp, g, d, tk, os⟩ := s; obtain ⟨hb, hl, h⟩ := h; have f1 := F.sub_dict_list; wp_walk using wpAny_loadPart' hl, wpAny_loadPart' hb; exact ⟨_, rfl, h⟩
theorem dict_eq_declines_tuple (l b : Addr) (es : Array DictEntry) (ep : Nat) (items : Array Value) (n : Nat) (dd : Option Addr) (sl : Array (Option Value)) :
    Meets (Builtin.«dict.__eq__» ⟨[.ref l, .ref b], []⟩) (fun _ R s => s.heap.get? l = some { cls := .type "dict", dict := none, data := .dict es ep, slots := #[] } ∧ s.heap.get? b = some { cls := .type "tuple", dict := dd, data := .seq items n, slots := sl } ∧ R (.ok (.ret .notImplemented)) s) :=
  .of_wp fun prog w A R s h => by obtain ⟨hp, g, d, tk, os⟩ := s; obtain ⟨hl, hb, h⟩ := h; have f1 := F.sub_tuple_dict; wp_walk using wpAny_loadPart' hl, wpAny_loadPart' hb; exact ⟨_, rfl, h⟩
theorem tuple_eq_declines_dict (b l : Addr) (es : Array DictEntry) (ep : Nat) (items : Array Value) (n : Nat) (dd : Option Addr) (sl : Array (Option Value)) :
    Meets (Builtin.«tuple.__eq__» ⟨[.ref b, .ref l], []⟩) (fun _ R s => s.heap.get? b = some { cls := .type "tuple", dict := dd, data := .seq items n, slots := sl } ∧ s.heap.get? l = some { cls := .type "dict", dict := none, data := .dict es ep, slots := #[] } ∧ R (.ok (.ret .notImplemented)) s) :=
  .of_wp fun prog w A R s h => by obtain ⟨hp, g, d, tk, os⟩ := s; obtain ⟨hb, hl, h⟩ := h; have f1 := F.sub_dict_tuple; wp_walk using wpAny_loadPart' hl, wpAny_loadPart' hb; exact ⟨_, rfl, h⟩
theorem dict_ne_declines_none (l : Addr) (es : Array DictEntry) (ep : Nat)  :
    Meets (Builtin.«dict.__ne__» ⟨[.ref l, .none], []⟩) (fun _ R s => s.heap.get? l = some { cls := .type "dict", dict := none, data := .dict es ep, slots := #[] } ∧ R (.ok (.ret .notImplemented)) s) :=
  .of_wp fun prog w A R s h => by obtain ⟨hp, g, d, tk, os⟩ := s; obtain ⟨hl, h⟩ := h; have f1 := F.sub_NoneType_dict; wp_walk using wpAny_loadPart' hl; exact ⟨_, rfl, h⟩
theorem dict_ne_declines_bool (l : Addr) (es : Array DictEntry) (ep : Nat) (b : Bool) :
    Meets (Builtin.«dict.__ne__» ⟨[.ref l, .bool b], []⟩) (fun _ R s => s.heap.get? l = some { cls := .type "dict", dict := none, data := .dict es ep, slots := #[] } ∧ R (.ok (.ret .notImplemented)) s) :=
  .of_wp fun prog w A R s h => by obtain ⟨hp, g, d, tk, os⟩ := s; obtain ⟨hl, h⟩ := h; have f1 := F.sub_bool_dict; wp_walk using wpAny_loadPart' hl; exact ⟨_, rfl, h⟩
theorem dict_ne_declines_int (l : Addr) (es : Array DictEntry) (ep : Nat) (b : Int) (u : Tok) :
    Meets (Builtin.«dict.__ne__» ⟨[.ref l, .int b u], []⟩) (fun _ R s => s.heap.get? l = some { cls := .type "dict", dict := none, data := .dict es ep, slots := #[] } ∧ R (.ok (.ret .notImplemented)) s) :=
  .of_wp fun prog w A R s h => by obtain ⟨hp, g, d, tk, os⟩ := s; obtain ⟨hl, h⟩ := h; have f1 := F.sub_int_dict; wp_walk using wpAny_loadPart' hl; exact ⟨_, rfl, h⟩
theorem dict_ne_declines_str (l : Addr) (es : Array DictEntry) (ep : Nat) (b : Str) (u : Tok) :
    Meets (Builtin.«dict.__ne__» ⟨[.ref l, .str b u], []⟩) (fun _ R s => s.heap.get? l = some { cls := .type "dict", dict := none, data := .dict es ep, slots := #[] } ∧ R (.ok (.ret .notImplemented)) s) :=
  .of_wp fun prog w A R s h => by obtain ⟨hp, g, d, tk, os⟩ := s; obtain ⟨hl, h⟩ := h; have f1 := F.sub_str_dict; wp_walk using wpAny_loadPart' hl; exact ⟨_, rfl, h⟩
theorem int_ne_declines_dict_bool (b : Bool) (l : Addr) (es : Array DictEntry) (ep : Nat) :
    Meets (Builtin.«int.__ne__» ⟨[.bool b, .ref l], []⟩) (fun _ R s => s.heap.get? l = some { cls := .type "dict", dict := none, data := .dict es ep, slots := #[] } ∧ R (.ok (.ret .notImplemented)) s) :=
  .of_wp fun prog w A R s h => by obtain ⟨hp, g, d, tk, os⟩ := s; obtain ⟨hl, h⟩ := h; wp_walk using wpAny_loadPart' hl, wpAny_load hl; exact ⟨_, rfl, h⟩
theorem int_ne_declines_dict_int (b : Int) (u : Tok) (l : Addr) (es : Array DictEntry) (ep : Nat) :
    Meets (Builtin.«int.__ne__» ⟨[.int b u, .ref l], []⟩) (fun _ R s => s.heap.get? l = some { cls := .type "dict", dict := none, data := .dict es ep, slots := #[] } ∧ R (.ok (.ret .notImplemented)) s) :=
  .of_wp fun prog w A R s h => by obtain ⟨hp, g, d, tk, os⟩ := s; obtain ⟨hl, h⟩ := h; wp_walk using wpAny_loadPart' hl, wpAny_load hl; exact ⟨_, rfl, h⟩
theorem str_ne_declines_dict (b : Str) (u : Tok) (l : Addr) (es : Array DictEntry) (ep : Nat) :
    Meets (Builtin.«str.__ne__» ⟨[.str b u, .ref l], []⟩) (fun _ R s => s.heap.get? l = some { cls := .type "dict", dict := none, data := .dict es ep, slots := #[] } ∧ R (.ok (.ret .notImplemented)) s) :=
  .of_wp fun prog w A R s h => by obtain ⟨hp, g, d, tk, os⟩ := s; obtain ⟨hl, h⟩ := h; wp_walk using wpAny_loadPart' hl, wpAny_load hl; exact ⟨_, rfl, h⟩
theorem dict_ne_declines_list (l b : Addr) (es : Array DictEntry) (ep : Nat) (items : Array Value) (n : Nat) (dd : Option Addr) (sl : Array (Option Value)) :
    Meets (Builtin.«dict.__ne__» ⟨[.ref l, .ref b], []⟩) (fun _ R s => s.heap.get? l = some { cls := .type "dict", dict := none, data := .dict es ep, slots := #[] } ∧ s.heap.get? b = some { cls := .type "list", dict := dd, data := .seq items n, slots := sl } ∧ R (.ok (.ret .notImplemented)) s) :=
  .of_wp fun prog w A R s h => by obtain ⟨hp, g, d, tk, os⟩ := s; obtain ⟨hl, hb, h⟩ := h; have f1 := F.sub_list_dict; wp_walk using wpAny_loadPart' hl, wpAny_loadPart' hb; exact ⟨_, rfl, h⟩
theorem list_ne_declines_dict (b l : Addr) (es : Array DictEntry) (ep : Nat) (items : Array Value) (n : Nat) (dd : Option Addr) (sl : Array (Option Value)) :
    Meets (Builtin.«list.__ne__» ⟨[.ref b, .ref l], []⟩) (fun _ R s => s.heap.get? b = some { cls := .type "list", dict := dd, data := .seq items n, slots := sl } ∧ s.heap.get? l = some { cls := .type "dict", dict := none, data := .dict es ep, slots := #[] } ∧ R (.ok (.ret .notImplemented)) s) :=
  .of_wp fun prog w A R s h => by obtain ⟨hp, g, d, tk, os⟩ := s; obtain ⟨hb, hl, h⟩ := h; have f1 := F.sub_dict_list; wp_walk using wpAny_loadPart' hl, wpAny_loadPart' hb; exact ⟨_, rfl, h⟩
theorem dict_ne_declines_tuple (l b : Addr) (es : Array DictEntry) (ep : Nat) (items : Array Value) (n : Nat) (dd : Option Addr) (sl : Array (Option Value)) :
    Meets (Builtin.«dict.__ne__» ⟨[.ref l, .ref b], []⟩) (fun _ R s => s.heap.get? l = some { cls := .type "dict", dict := none, data := .dict es ep, slots := #[] } ∧ s.heap.get? b = some { cls := .type "tuple", dict := dd, data := .seq items n, slots := sl } ∧ R (.ok (.ret .notImplemented)) s) :=
  .of_wp fun prog w A R s h => by obtain ⟨hp, g, d, tk, os⟩ := s; obtain ⟨hl, hb, h⟩ := h; have f1 := F.sub_tuple_dict; wp_walk using wpAny_loadPart' hl, wpAny_loadPart' hb; exact ⟨_, rfl, h⟩
theorem tuple_ne_declines_dict (b l : Addr) (es : Array DictEntry) (ep : Nat) (items : Array Value) (n : Nat) (dd : Option Addr) (sl : Array (Option Value)) :
    Meets (Builtin.«tuple.__ne__» ⟨[.ref b, .ref l], []⟩) (fun _ R s => s.heap.get? b = some { cls := .type "tuple", dict := dd, data := .seq items n, slots := sl } ∧ s.heap.get? l = some { cls := .type "dict", dict := none, data := .dict es ep, slots := #[] } ∧ R (.ok (.ret .notImplemented)) s) :=
  .of_wp fun prog w A R s h => by obtain ⟨hp, g, d, tk, os⟩ := s; obtain ⟨hb, hl, h⟩ := h; have f1 := F.sub_dict_tuple; wp_walk using wpAny_loadPart' hl, wpAny_loadPart' hb; exact ⟨_, rfl, h⟩

section
variable {A : Around} {s : Shared}

theorem RcAt.dict_none {l : Addr}  (hl : IsDct s.heap l) (hu : A.units < cLine) : RcAt A s (.ref l) (.none) false := fun prog w E Q h => by
  obtain ⟨es, ep, ho⟩ := hl
  exact rc_eq_decline_or (k := false) ⟨_, ho, rfl⟩ rfl (by decide) F.sub_NoneType_dict F.slot_dict_eq F.slot_NoneType_eq_refl
    (fun _ hq => call_meets F.slot_dict_eq ⟨_, ho, rfl⟩ F.entry_dict_eq (F.args_dict_eq_2 _ _) (dict_eq_declines_none l es ep ) ⟨ho, hq⟩)
    (fun _ hq => call_gives F.slot_NoneType_eq_refl rfl F.entry_NoneType_eq (F.args_NoneType_eq_2 _ _) (NoneType___eq___none_ref_0 l) hq)
    (fun _ hq => wpAny_of_eq (rfl : isSame (.ref l) (.none) = pure false) hq) (.inr hu) h
theorem RcAt.none_dict {l : Addr}  (hl : IsDct s.heap l) (hu : A.units < cLine) : RcAt A s (.none) (.ref l) false := fun prog w E Q h => by
  obtain ⟨es, ep, ho⟩ := hl
  exact rc_eq_decline_or (k := false) rfl ⟨_, ho, rfl⟩ (by decide) F.sub_dict_NoneType F.slot_NoneType_eq F.slot_dict_eq_refl
    (fun _ hq => call_gives F.slot_NoneType_eq rfl F.entry_NoneType_eq (F.args_NoneType_eq_2 _ _) (NoneType___eq___none_ref_0 l) hq)
    (fun _ hq => call_meets F.slot_dict_eq_refl ⟨_, ho, rfl⟩ F.entry_dict_eq (F.args_dict_eq_2 _ _) (dict_eq_declines_none l es ep ) ⟨ho, hq⟩)
    (fun _ hq => wpAny_of_eq (rfl : isSame (.none) (.ref l) = pure false) hq) (.inr hu) h
theorem RcAt.dict_bool {l : Addr} (b : Bool) (hl : IsDct s.heap l) (hu : A.units < cLine) : RcAt A s (.ref l) (.bool b) false := fun prog w E Q h => by
  obtain ⟨es, ep, ho⟩ := hl
  exact rc_eq_decline_or (k := false) ⟨_, ho, rfl⟩ rfl (by decide) F.sub_bool_dict F.slot_dict_eq F.slot_bool_eq_refl
    (fun _ hq => call_meets F.slot_dict_eq ⟨_, ho, rfl⟩ F.entry_dict_eq (F.args_dict_eq_2 _ _) (dict_eq_declines_bool l es ep b) ⟨ho, hq⟩)
    (fun _ hq => call_meets F.slot_bool_eq_refl rfl F.entry_int_eq (F.args_int_eq_2 _ _) (int_eq_declines_dict_bool b l es ep) ⟨ho, hq⟩)
    (fun _ hq => wpAny_of_eq (rfl : isSame (.ref l) (.bool b) = pure false) hq) (.inr hu) h
theorem RcAt.bool_dict {l : Addr} (b : Bool) (hl : IsDct s.heap l) (hu : A.units < cLine) : RcAt A s (.bool b) (.ref l) false := fun prog w E Q h => by
  obtain ⟨es, ep, ho⟩ := hl
  exact rc_eq_decline_or (k := false) rfl ⟨_, ho, rfl⟩ (by decide) F.sub_dict_bool F.slot_bool_eq F.slot_dict_eq_refl
    (fun _ hq => call_meets F.slot_bool_eq rfl F.entry_int_eq (F.args_int_eq_2 _ _) (int_eq_declines_dict_bool b l es ep) ⟨ho, hq⟩)
    (fun _ hq => call_meets F.slot_dict_eq_refl ⟨_, ho, rfl⟩ F.entry_dict_eq (F.args_dict_eq_2 _ _) (dict_eq_declines_bool l es ep b) ⟨ho, hq⟩)
    (fun _ hq => wpAny_of_eq (rfl : isSame (.bool b) (.ref l) = pure false) hq) (.inr hu) h
theorem RcAt.dict_int {l : Addr} (b : Int) (u : Tok) (hl : IsDct s.heap l) (hu : A.units < cLine) : RcAt A s (.ref l) (.int b u) false := fun prog w E Q h => by
  obtain ⟨es, ep, ho⟩ := hl
  exact rc_eq_decline_or (k := false) ⟨_, ho, rfl⟩ rfl (by decide) F.sub_int_dict F.slot_dict_eq F.slot_int_eq_refl
    (fun _ hq => call_meets F.slot_dict_eq ⟨_, ho, rfl⟩ F.entry_dict_eq (F.args_dict_eq_2 _ _) (dict_eq_declines_int l es ep b u) ⟨ho, hq⟩)
    (fun _ hq => call_meets F.slot_int_eq_refl rfl F.entry_int_eq (F.args_int_eq_2 _ _) (int_eq_declines_dict_int b u l es ep) ⟨ho, hq⟩)
    (fun _ hq => wpAny_of_eq (rfl : isSame (.ref l) (.int b u) = pure false) hq) (.inr hu) h
theorem RcAt.int_dict {l : Addr} (b : Int) (u : Tok) (hl : IsDct s.heap l) (hu : A.units < cLine) : RcAt A s (.int b u) (.ref l) false := fun prog w E Q h => by
  obtain ⟨es, ep, ho⟩ := hl
  exact rc_eq_decline_or (k := false) rfl ⟨_, ho, rfl⟩ (by decide) F.sub_dict_int F.slot_int_eq F.slot_dict_eq_refl
    (fun _ hq => call_meets F.slot_int_eq rfl F.entry_int_eq (F.args_int_eq_2 _ _) (int_eq_declines_dict_int b u l es ep) ⟨ho, hq⟩)
    (fun _ hq => call_meets F.slot_dict_eq_refl ⟨_, ho, rfl⟩ F.entry_dict_eq (F.args_dict_eq_2 _ _) (dict_eq_declines_int l es ep b u) ⟨ho, hq⟩)
    (fun _ hq => wpAny_of_eq (rfl : isSame (.int b u) (.ref l) = pure false) hq) (.inr hu) h
theorem RcAt.dict_str {l : Addr} (b : Str) (u : Tok) (hl : IsDct s.heap l) (hu : A.units < cLine) : RcAt A s (.ref l) (.str b u) false := fun prog w E Q h => by
  obtain ⟨es, ep, ho⟩ := hl
  exact rc_eq_decline_or (k := false) ⟨_, ho, rfl⟩ rfl (by decide) F.sub_str_dict F.slot_dict_eq F.slot_str_eq_refl
    (fun _ hq => call_meets F.slot_dict_eq ⟨_, ho, rfl⟩ F.entry_dict_eq (F.args_dict_eq_2 _ _) (dict_eq_declines_str l es ep b u) ⟨ho, hq⟩)
    (fun _ hq => call_meets F.slot_str_eq_refl rfl F.entry_str_eq (F.args_str_eq_2 _ _) (str_eq_declines_dict b u l es ep) ⟨ho, hq⟩)
    (fun _ hq => wpAny_of_eq (rfl : isSame (.ref l) (.str b u) = pure false) hq) (.inr hu) h
theorem RcAt.str_dict {l : Addr} (b : Str) (u : Tok) (hl : IsDct s.heap l) (hu : A.units < cLine) : RcAt A s (.str b u) (.ref l) false := fun prog w E Q h => by
  obtain ⟨es, ep, ho⟩ := hl
  exact rc_eq_decline_or (k := false) rfl ⟨_, ho, rfl⟩ (by decide) F.sub_dict_str F.slot_str_eq F.slot_dict_eq_refl
    (fun _ hq => call_meets F.slot_str_eq rfl F.entry_str_eq (F.args_str_eq_2 _ _) (str_eq_declines_dict b u l es ep) ⟨ho, hq⟩)
    (fun _ hq => call_meets F.slot_dict_eq_refl ⟨_, ho, rfl⟩ F.entry_dict_eq (F.args_dict_eq_2 _ _) (dict_eq_declines_str l es ep b u) ⟨ho, hq⟩)
    (fun _ hq => wpAny_of_eq (rfl : isSame (.str b u) (.ref l) = pure false) hq) (.inr hu) h
theorem RcAt.dict_list {l b : Addr} {items : Array Value} (hl : IsDct s.heap l) (hb : s.heap.IsList b items) (hu : A.units < cLine) : RcAt A s (.ref l) (.ref b) false := fun prog w E Q h => by
  obtain ⟨es, ep, ho⟩ := hl
  obtain ⟨⟨cls, dd, data, sl⟩, ho2, hc, n, hd⟩ := id hb
  simp only at hc hd
  subst hc hd
  have hne : l ≠ b := fun e => by subst e; rw [ho] at ho2; exact absurd ho2 (by simp)
  exact rc_eq_decline_or (k := false) ⟨_, ho, rfl⟩ ⟨_, ho2, rfl⟩ (by decide) F.sub_list_dict F.slot_dict_eq F.slot_list_eq_refl
    (fun _ hq => call_meets F.slot_dict_eq ⟨_, ho, rfl⟩ F.entry_dict_eq (F.args_dict_eq_2 _ _) (dict_eq_declines_list l b es ep items n dd sl) ⟨ho, ho2, hq⟩)
    (fun _ hq => call_meets F.slot_list_eq_refl ⟨_, ho2, rfl⟩ F.entry_list_eq (F.args_list_eq_2 _ _) (list_eq_declines_dict b l es ep items n dd sl) ⟨ho2, ho, hq⟩)
    (fun _ hq => wpAny_isSame_ref_other hne ho ho2 (by simp) hq) (.inr hu) h
theorem RcAt.list_dict {l b : Addr} {items : Array Value} (hb : s.heap.IsList b items) (hl : IsDct s.heap l) (hu : A.units < cLine) : RcAt A s (.ref b) (.ref l) false := fun prog w E Q h => by
  obtain ⟨es, ep, ho⟩ := hl
  obtain ⟨⟨cls, dd, data, sl⟩, ho2, hc, n, hd⟩ := id hb
  simp only at hc hd
  subst hc hd
  have hne : b ≠ l := fun e => by subst e; rw [ho] at ho2; exact absurd ho2 (by simp)
  exact rc_eq_decline_or (k := false) ⟨_, ho2, rfl⟩ ⟨_, ho, rfl⟩ (by decide) F.sub_dict_list F.slot_list_eq F.slot_dict_eq_refl
    (fun _ hq => call_meets F.slot_list_eq ⟨_, ho2, rfl⟩ F.entry_list_eq (F.args_list_eq_2 _ _) (list_eq_declines_dict b l es ep items n dd sl) ⟨ho2, ho, hq⟩)
    (fun _ hq => call_meets F.slot_dict_eq_refl ⟨_, ho, rfl⟩ F.entry_dict_eq (F.args_dict_eq_2 _ _) (dict_eq_declines_list l b es ep items n dd sl) ⟨ho, ho2, hq⟩)
    (fun _ hq => wpAny_isSame_ref_other' hne ho2 ho (by simp) hq) (.inr hu) h
theorem RcAt.dict_tuple {l b : Addr} {items : Array Value} (hl : IsDct s.heap l) (hb : s.heap.IsTuple b items) (hu : A.units < cLine) : RcAt A s (.ref l) (.ref b) false := fun prog w E Q h => by
  obtain ⟨es, ep, ho⟩ := hl
  obtain ⟨⟨cls, dd, data, sl⟩, ho2, hc, n, hd⟩ := id hb
  simp only at hc hd
  subst hc hd
  have hne : l ≠ b := fun e => by subst e; rw [ho] at ho2; exact absurd ho2 (by simp)
  exact rc_eq_decline_or (k := false) ⟨_, ho, rfl⟩ ⟨_, ho2, rfl⟩ (by decide) F.sub_tuple_dict F.slot_dict_eq F.slot_tuple_eq_refl
    (fun _ hq => call_meets F.slot_dict_eq ⟨_, ho, rfl⟩ F.entry_dict_eq (F.args_dict_eq_2 _ _) (dict_eq_declines_tuple l b es ep items n dd sl) ⟨ho, ho2, hq⟩)
    (fun _ hq => call_meets F.slot_tuple_eq_refl ⟨_, ho2, rfl⟩ F.entry_tuple_eq (F.args_tuple_eq_2 _ _) (tuple_eq_declines_dict b l es ep items n dd sl) ⟨ho2, ho, hq⟩)
    (fun _ hq => wpAny_isSame_ref_other hne ho ho2 (by simp) hq) (.inr hu) h
theorem RcAt.tuple_dict {l b : Addr} {items : Array Value} (hb : s.heap.IsTuple b items) (hl : IsDct s.heap l) (hu : A.units < cLine) : RcAt A s (.ref b) (.ref l) false := fun prog w E Q h => by
  obtain ⟨es, ep, ho⟩ := hl
  obtain ⟨⟨cls, dd, data, sl⟩, ho2, hc, n, hd⟩ := id hb
  simp only at hc hd
  subst hc hd
  have hne : b ≠ l := fun e => by subst e; rw [ho] at ho2; exact absurd ho2 (by simp)
  exact rc_eq_decline_or (k := false) ⟨_, ho2, rfl⟩ ⟨_, ho, rfl⟩ (by decide) F.sub_dict_tuple F.slot_tuple_eq F.slot_dict_eq_refl
    (fun _ hq => call_meets F.slot_tuple_eq ⟨_, ho2, rfl⟩ F.entry_tuple_eq (F.args_tuple_eq_2 _ _) (tuple_eq_declines_dict b l es ep items n dd sl) ⟨ho2, ho, hq⟩)
    (fun _ hq => call_meets F.slot_dict_eq_refl ⟨_, ho, rfl⟩ F.entry_dict_eq (F.args_dict_eq_2 _ _) (dict_eq_declines_tuple l b es ep items n dd sl) ⟨ho, ho2, hq⟩)
    (fun _ hq => wpAny_isSame_ref_other' hne ho2 ho (by simp) hq) (.inr hu) h
theorem RcNeAt.dict_none {l : Addr}  (hl : IsDct s.heap l) (hu : A.units < cLine) : RcNeAt A s (.ref l) (.none) true := fun prog w E Q h => by
  obtain ⟨es, ep, ho⟩ := hl
  exact rc_ne_decline_or (k := false) ⟨_, ho, rfl⟩ rfl (by decide) F.sub_NoneType_dict F.slot_dict_ne F.slot_NoneType_ne_refl
    (fun _ hq => call_meets F.slot_dict_ne ⟨_, ho, rfl⟩ F.entry_dict_ne (F.args_dict_ne_2 _ _) (dict_ne_declines_none l es ep ) ⟨ho, hq⟩)
    (fun _ hq => call_gives F.slot_NoneType_ne_refl rfl F.entry_NoneType_ne (F.args_NoneType_ne_2 _ _) (NoneType___ne___none_ref_0 l) hq)
    (fun _ hq => wpAny_of_eq (rfl : isSame (.ref l) (.none) = pure false) hq) (.inr hu) h
theorem RcNeAt.none_dict {l : Addr}  (hl : IsDct s.heap l) (hu : A.units < cLine) : RcNeAt A s (.none) (.ref l) true := fun prog w E Q h => by
  obtain ⟨es, ep, ho⟩ := hl
  exact rc_ne_decline_or (k := false) rfl ⟨_, ho, rfl⟩ (by decide) F.sub_dict_NoneType F.slot_NoneType_ne F.slot_dict_ne_refl
    (fun _ hq => call_gives F.slot_NoneType_ne rfl F.entry_NoneType_ne (F.args_NoneType_ne_2 _ _) (NoneType___ne___none_ref_0 l) hq)
    (fun _ hq => call_meets F.slot_dict_ne_refl ⟨_, ho, rfl⟩ F.entry_dict_ne (F.args_dict_ne_2 _ _) (dict_ne_declines_none l es ep ) ⟨ho, hq⟩)
    (fun _ hq => wpAny_of_eq (rfl : isSame (.none) (.ref l) = pure false) hq) (.inr hu) h
theorem RcNeAt.dict_bool {l : Addr} (b : Bool) (hl : IsDct s.heap l) (hu : A.units < cLine) : RcNeAt A s (.ref l) (.bool b) true := fun prog w E Q h => by
  obtain ⟨es, ep, ho⟩ := hl
  exact rc_ne_decline_or (k := false) ⟨_, ho, rfl⟩ rfl (by decide) F.sub_bool_dict F.slot_dict_ne F.slot_bool_ne_refl
    (fun _ hq => call_meets F.slot_dict_ne ⟨_, ho, rfl⟩ F.entry_dict_ne (F.args_dict_ne_2 _ _) (dict_ne_declines_bool l es ep b) ⟨ho, hq⟩)
    (fun _ hq => call_meets F.slot_bool_ne_refl rfl F.entry_int_ne (F.args_int_ne_2 _ _) (int_ne_declines_dict_bool b l es ep) ⟨ho, hq⟩)
    (fun _ hq => wpAny_of_eq (rfl : isSame (.ref l) (.bool b) = pure false) hq) (.inr hu) h
theorem RcNeAt.bool_dict {l : Addr} (b : Bool) (hl : IsDct s.heap l) (hu : A.units < cLine) : RcNeAt A s (.bool b) (.ref l) true := fun prog w E Q h => by
  obtain ⟨es, ep, ho⟩ := hl
  exact rc_ne_decline_or (k := false) rfl ⟨_, ho, rfl⟩ (by decide) F.sub_dict_bool F.slot_bool_ne F.slot_dict_ne_refl
    (fun _ hq => call_meets F.slot_bool_ne rfl F.entry_int_ne (F.args_int_ne_2 _ _) (int_ne_declines_dict_bool b l es ep) ⟨ho, hq⟩)
    (fun _ hq => call_meets F.slot_dict_ne_refl ⟨_, ho, rfl⟩ F.entry_dict_ne (F.args_dict_ne_2 _ _) (dict_ne_declines_bool l es ep b) ⟨ho, hq⟩)
    (fun _ hq => wpAny_of_eq (rfl : isSame (.bool b) (.ref l) = pure false) hq) (.inr hu) h
theorem RcNeAt.dict_int {l : Addr} (b : Int) (u : Tok) (hl : IsDct s.heap l) (hu : A.units < cLine) : RcNeAt A s (.ref l) (.int b u) true := fun prog w E Q h => by
  obtain ⟨es, ep, ho⟩ := hl
  exact rc_ne_decline_or (k := false) ⟨_, ho, rfl⟩ rfl (by decide) F.sub_int_dict F.slot_dict_ne F.slot_int_ne_refl
    (fun _ hq => call_meets F.slot_dict_ne ⟨_, ho, rfl⟩ F.entry_dict_ne (F.args_dict_ne_2 _ _) (dict_ne_declines_int l es ep b u) ⟨ho, hq⟩)
    (fun _ hq => call_meets F.slot_int_ne_refl rfl F.entry_int_ne (F.args_int_ne_2 _ _) (int_ne_declines_dict_int b u l es ep) ⟨ho, hq⟩)
    (fun _ hq => wpAny_of_eq (rfl : isSame (.ref l) (.int b u) = pure false) hq) (.inr hu) h
theorem RcNeAt.int_dict {l : Addr} (b : Int) (u : Tok) (hl : IsDct s.heap l) (hu : A.units < cLine) : RcNeAt A s (.int b u) (.ref l) true := fun prog w E Q h => by
  obtain ⟨es, ep, ho⟩ := hl
  exact rc_ne_decline_or (k := false) rfl ⟨_, ho, rfl⟩ (by decide) F.sub_dict_int F.slot_int_ne F.slot_dict_ne_refl
    (fun _ hq => call_meets F.slot_int_ne rfl F.entry_int_ne (F.args_int_ne_2 _ _) (int_ne_declines_dict_int b u l es ep) ⟨ho, hq⟩)
    (fun _ hq => call_meets F.slot_dict_ne_refl ⟨_, ho, rfl⟩ F.entry_dict_ne (F.args_dict_ne_2 _ _) (dict_ne_declines_int l es ep b u) ⟨ho, hq⟩)
    (fun _ hq => wpAny_of_eq (rfl : isSame (.int b u) (.ref l) = pure false) hq) (.inr hu) h
theorem RcNeAt.dict_str {l : Addr} (b : Str) (u : Tok) (hl : IsDct s.heap l) (hu : A.units < cLine) : RcNeAt A s (.ref l) (.str b u) true := fun prog w E Q h => by
  obtain ⟨es, ep, ho⟩ := hl
  exact rc_ne_decline_or (k := false) ⟨_, ho, rfl⟩ rfl (by decide) F.sub_str_dict F.slot_dict_ne F.slot_str_ne_refl
    (fun _ hq => call_meets F.slot_dict_ne ⟨_, ho, rfl⟩ F.entry_dict_ne (F.args_dict_ne_2 _ _) (dict_ne_declines_str l es ep b u) ⟨ho, hq⟩)
    (fun _ hq => call_meets F.slot_str_ne_refl rfl F.entry_str_ne (F.args_str_ne_2 _ _) (str_ne_declines_dict b u l es ep) ⟨ho, hq⟩)
    (fun _ hq => wpAny_of_eq (rfl : isSame (.ref l) (.str b u) = pure false) hq) (.inr hu) h
theorem RcNeAt.str_dict {l : Addr} (b : Str) (u : Tok) (hl : IsDct s.heap l) (hu : A.units < cLine) : RcNeAt A s (.str b u) (.ref l) true := fun prog w E Q h => by
  obtain ⟨es, ep, ho⟩ := hl
  exact rc_ne_decline_or (k := false) rfl ⟨_, ho, rfl⟩ (by decide) F.sub_dict_str F.slot_str_ne F.slot_dict_ne_refl
    (fun _ hq => call_meets F.slot_str_ne rfl F.entry_str_ne (F.args_str_ne_2 _ _) (str_ne_declines_dict b u l es ep) ⟨ho, hq⟩)
    (fun _ hq => call_meets F.slot_dict_ne_refl ⟨_, ho, rfl⟩ F.entry_dict_ne (F.args_dict_ne_2 _ _) (dict_ne_declines_str l es ep b u) ⟨ho, hq⟩)
    (fun _ hq => wpAny_of_eq (rfl : isSame (.str b u) (.ref l) = pure false) hq) (.inr hu) h
theorem RcNeAt.dict_list {l b : Addr} {items : Array Value} (hl : IsDct s.heap l) (hb : s.heap.IsList b items) (hu : A.units < cLine) : RcNeAt A s (.ref l) (.ref b) true := fun prog w E Q h => by
  obtain ⟨es, ep, ho⟩ := hl
  obtain ⟨⟨cls, dd, data, sl⟩, ho2, hc, n, hd⟩ := id hb
  simp only at hc hd
  subst hc hd
  have hne : l ≠ b := fun e => by subst e; rw [ho] at ho2; exact absurd ho2 (by simp)
  exact rc_ne_decline_or (k := false) ⟨_, ho, rfl⟩ ⟨_, ho2, rfl⟩ (by decide) F.sub_list_dict F.slot_dict_ne F.slot_list_ne_refl
    (fun _ hq => call_meets F.slot_dict_ne ⟨_, ho, rfl⟩ F.entry_dict_ne (F.args_dict_ne_2 _ _) (dict_ne_declines_list l b es ep items n dd sl) ⟨ho, ho2, hq⟩)
    (fun _ hq => call_meets F.slot_list_ne_refl ⟨_, ho2, rfl⟩ F.entry_list_ne (F.args_list_ne_2 _ _) (list_ne_declines_dict b l es ep items n dd sl) ⟨ho2, ho, hq⟩)
    (fun _ hq => wpAny_isSame_ref_other hne ho ho2 (by simp) hq) (.inr hu) h
theorem RcNeAt.list_dict {l b : Addr} {items : Array Value} (hb : s.heap.IsList b items) (hl : IsDct s.heap l) (hu : A.units < cLine) : RcNeAt A s (.ref b) (.ref l) true := fun prog w E Q h => by
  obtain ⟨es, ep, ho⟩ := hl
  obtain ⟨⟨cls, dd, data, sl⟩, ho2, hc, n, hd⟩ := id hb
  simp only at hc hd
  subst hc hd
  have hne : b ≠ l := fun e => by subst e; rw [ho] at ho2; exact absurd ho2 (by simp)
  exact rc_ne_decline_or (k := false) ⟨_, ho2, rfl⟩ ⟨_, ho, rfl⟩ (by decide) F.sub_dict_list F.slot_list_ne F.slot_dict_ne_refl
    (fun _ hq => call_meets F.slot_list_ne ⟨_, ho2, rfl⟩ F.entry_list_ne (F.args_list_ne_2 _ _) (list_ne_declines_dict b l es ep items n dd sl) ⟨ho2, ho, hq⟩)
    (fun _ hq => call_meets F.slot_dict_ne_refl ⟨_, ho, rfl⟩ F.entry_dict_ne (F.args_dict_ne_2 _ _) (dict_ne_declines_list l b es ep items n dd sl) ⟨ho, ho2, hq⟩)
    (fun _ hq => wpAny_isSame_ref_other' hne ho2 ho (by simp) hq) (.inr hu) h
theorem RcNeAt.dict_tuple {l b : Addr} {items : Array Value} (hl : IsDct s.heap l) (hb : s.heap.IsTuple b items) (hu : A.units < cLine) : RcNeAt A s (.ref l) (.ref b) true := fun prog w E Q h => by
  obtain ⟨es, ep, ho⟩ := hl
  obtain ⟨⟨cls, dd, data, sl⟩, ho2, hc, n, hd⟩ := id hb
  simp only at hc hd
  subst hc hd
  have hne : l ≠ b := fun e => by subst e; rw [ho] at ho2; exact absurd ho2 (by simp)
  exact rc_ne_decline_or (k := false) ⟨_, ho, rfl⟩ ⟨_, ho2, rfl⟩ (by decide) F.sub_tuple_dict F.slot_dict_ne F.slot_tuple_ne_refl
    (fun _ hq => call_meets F.slot_dict_ne ⟨_, ho, rfl⟩ F.entry_dict_ne (F.args_dict_ne_2 _ _) (dict_ne_declines_tuple l b es ep items n dd sl) ⟨ho, ho2, hq⟩)
    (fun _ hq => call_meets F.slot_tuple_ne_refl ⟨_, ho2, rfl⟩ F.entry_tuple_ne (F.args_tuple_ne_2 _ _) (tuple_ne_declines_dict b l es ep items n dd sl) ⟨ho2, ho, hq⟩)
    (fun _ hq => wpAny_isSame_ref_other hne ho ho2 (by simp) hq) (.inr hu) h
theorem RcNeAt.tuple_dict {l b : Addr} {items : Array Value} (hb : s.heap.IsTuple b items) (hl : IsDct s.heap l) (hu : A.units < cLine) : RcNeAt A s (.ref b) (.ref l) true := fun prog w E Q h => by
  obtain ⟨es, ep, ho⟩ := hl
  obtain ⟨⟨cls, dd, data, sl⟩, ho2, hc, n, hd⟩ := id hb
  simp only at hc hd
  subst hc hd
  have hne : b ≠ l := fun e => by subst e; rw [ho] at ho2; exact absurd ho2 (by simp)
  exact rc_ne_decline_or (k := false) ⟨_, ho2, rfl⟩ ⟨_, ho, rfl⟩ (by decide) F.sub_dict_tuple F.slot_tuple_ne F.slot_dict_ne_refl
    (fun _ hq => call_meets F.slot_tuple_ne ⟨_, ho2, rfl⟩ F.entry_tuple_ne (F.args_tuple_ne_2 _ _) (tuple_ne_declines_dict b l es ep items n dd sl) ⟨ho2, ho, hq⟩)
    (fun _ hq => call_meets F.slot_dict_ne_refl ⟨_, ho, rfl⟩ F.entry_dict_ne (F.args_dict_ne_2 _ _) (dict_ne_declines_tuple l b es ep items n dd sl) ⟨ho, ho2, hq⟩)
    (fun _ hq => wpAny_isSame_ref_other' hne ho2 ho (by simp) hq) (.inr hu) h
end
end PySem.SeqAt

set_option Elab.async false
set_option linter.all false
set_option maxRecDepth 100000
set_option maxHeartbeats 4000000
namespace L2
open PySem PySem.Spec PyProof.Rows

/-! ### the closure of a comprehension's block -/
def clOf (cells : List (Str × Addr)) : List (Str × NameKind) → List (Str × Addr) → List (Str × Addr)
  | [], cs => cs
  | (n, k) :: r, cs => if k == .free then clOf cells r ((n, (cells.lookup n).getD 0) :: cs) else clOf cells r cs

theorem closure_loop {env : Env} : ∀ (names : List (Str × NameKind)) (cs : List (Str × Addr)), (∀ x ∈ names, x.2 = .free → ∃ c, env.cells.lookup x.1 = some c) →
    (forIn names cs fun (x : Str × NameKind) (r : List (Str × Addr)) => (do
      if x.2 == NameKind.free then
        let a ← cellOf env x.1
        pure (ForInStep.yield ((x.1, a) :: r))
      else pure (ForInStep.yield r) : Sem (ForInStep (List (Str × Addr))))) = (pure (clOf env.cells names cs) : Sem (List (Str × Addr)))
  | [], cs, _ => rfl
  | (n, k) :: r, cs, h => by
    have ih := fun cs => closure_loop (env := env) r cs fun x hx => h x (List.mem_cons_of_mem _ hx)
    rw [List.forIn_cons]
    cases hk : (k == NameKind.free) with
    | true =>
      obtain ⟨c, hc⟩ := h (n, k) List.mem_cons_self (by simpa using hk)
      have hc' : env.cells.lookup n = some c := hc
      simp only [clOf, hk, if_true, cellOf, hc', Option.getD_some, pure_bind]
      exact ih _
    | false =>
      simp only [clOf, hk, Bool.false_eq_true, if_false, pure_bind]
      exact ih _

theorem closureFor_some {scope : Scope} {env : Env} (h : ∀ x ∈ scope.names, x.2 = .free → ∃ c, env.cells.lookup x.1 = some c) : closureFor scope env = pure (clOf env.cells scope.names []) := by
  rw [← closure_loop scope.names [] h]
  unfold closureFor
  simp only [bind_pure]

theorem clOf_in {cells : List (Str × Addr)} {y : Str} {c : Addr} : ∀ {names : List (Str × NameKind)} {cs : List (Str × Addr)}, (clOf cells names cs).lookup y = some c → ((y, NameKind.free) ∈ names ∧ c = (cells.lookup y).getD 0) ∨ cs.lookup y = some c
  | [], cs, h => .inr h
  | (n, k) :: r, cs, h => by
    unfold clOf at h
    cases hk : (k == NameKind.free) with
    | true =>
      have hk' : k = .free := by simpa using hk
      subst hk'
      rw [if_pos (by rfl)] at h
      rcases clOf_in h with ⟨a, b⟩ | q
      · exact .inl ⟨List.mem_cons_of_mem _ a, b⟩
      · cases hy : y == n with
        | true =>
          rw [List.lookup_cons, hy] at q
          have : y = n := by simpa using hy
          subst this
          exact .inl ⟨List.mem_cons_self, (Option.some.inj q).symm⟩
        | false => rw [List.lookup_cons, hy] at q; exact .inr q
    | false =>
      rw [hk] at h
      rcases clOf_in (by simpa using h) with ⟨a, b⟩ | q
      · exact .inl ⟨List.mem_cons_of_mem _ a, b⟩
      · exact .inr q
theorem clOf_has {cells : List (Str × Addr)} {y : Str} : ∀ {names : List (Str × NameKind)} {cs : List (Str × Addr)}, (∀ c, cs.lookup y = some c → c = (cells.lookup y).getD 0) → ((y, NameKind.free) ∈ names ∨ cs.lookup y = some ((cells.lookup y).getD 0)) →
    (clOf cells names cs).lookup y = some ((cells.lookup y).getD 0)
  | [], cs, _, h => by
    rcases h with h | h
    · simp at h
    · exact h
  | (n, k) :: r, cs, hc, h => by
    unfold clOf
    cases hk : (k == NameKind.free) with
    | true =>
      have hk' : k = .free := by simpa using hk
      subst hk'
      rw [if_pos (by rfl)]
      cases hy : y == n with
      | true =>
        have : y = n := by simpa using hy
        subst this
        refine clOf_has (fun c e => ?_) (.inr ?_)
        · rw [List.lookup_cons, hy] at e; exact (Option.some.inj e).symm
        · rw [List.lookup_cons, hy]
      | false =>
        refine clOf_has (fun c e => ?_) ?_
        · rw [List.lookup_cons, hy] at e; exact hc c e
        · rcases h with h | h
          · rcases List.mem_cons.mp h with e | e
            · injection e with e1 _
              rw [e1] at hy; simp at hy
            · exact .inl e
          · right; rw [List.lookup_cons, hy]; exact h
    | false =>
      have h' : (y, NameKind.free) ∈ r ∨ List.lookup y cs = some ((List.lookup y cells).getD 0) := by
        rcases h with h | h
        · rcases List.mem_cons.mp h with e | e
          · injection e with _ e2
            rw [← e2] at hk; simp at hk
          · exact .inl e
        · exact .inr h
      have q := clOf_has (names := r) (cs := cs) hc h'
      simpa using q

theorem lookup_relabel {env : Env} {names : List (Str × NameKind)} {x : Str} {k : NameKind} : (names.map fun (n, k) => if (k == NameKind.free && env.scope.kind == .function && env.kindOf n == some .cell) then (n, NameKind.cell) else (n, k)).lookup x = some k →
    names.lookup x = some k ∨ (k = .cell ∧ names.lookup x = some .free) := by
  induction names with
  | nil => intro h; simp at h
  | cons p r ih =>
    obtain ⟨n, k'⟩ := p
    intro h
    have h : List.lookup x ((if (k' == NameKind.free && env.scope.kind == .function && env.kindOf n == some .cell) = true then (n, NameKind.cell) else (n, k')) :: _) = some k := h
    cases hx : x == n with
    | true =>
      by_cases hc : (k' == NameKind.free && env.scope.kind == .function && env.kindOf n == some .cell) = true
      · rw [if_pos hc] at h
        simp only [List.lookup_cons, hx] at h
        cases h
        refine .inr ⟨rfl, ?_⟩
        simp only [List.lookup_cons, hx]
        simp only [Bool.and_eq_true] at hc
        have : k' = .free := by simpa using hc.1.1
        rw [this]
      · rw [if_neg hc] at h
        simp only [List.lookup_cons, hx] at h ⊢
        exact .inl h
    | false =>
      have h' : List.lookup x (r.map fun (n, k) => if (k == NameKind.free && env.scope.kind == .function && env.kindOf n == some .cell) then (n, NameKind.cell) else (n, k)) = some k := by
        by_cases hc : (k' == NameKind.free && env.scope.kind == .function && env.kindOf n == some .cell) = true
        · rw [if_pos hc] at h; simpa only [List.lookup_cons, hx] using h
        · rw [if_neg hc] at h; simpa only [List.lookup_cons, hx] using h
      simp only [List.lookup_cons, hx]
      exact ih h'

/-! ### the block's loop, with the step ahead of the store -/
theorem compLoop_go {prog : Program} {w : World} {A : Around} {R : Result → Shared → Prop} {s : Shared} {elt target iter : Expr} {ifs : List Expr} {scope : Scope} {pos : Pos} {it acc : Value} {env : Env} (I : Nat → Shared → Prop)
    (turn : ∀ n s, I n s → wpAny (model prog w) A (pyNext it) (fun r s₁ => match r with
      | none => R (.ok .next) s₁
      | some v => wpAny (model prog w) A (letOwnedTupleGo target it v) (fun _ s₁' => wpAny (model prog w) A (assign target env v) (fun _ s₂ =>
          wpAny (model prog w) A (forIn ifs true fun c r => if r = true then do let ok ← isTrue c env (eval c env); pure (ForInStep.yield ok) else pure (ForInStep.yield r)) (fun ok s₃ =>
            if ok = true then wpAny (model prog w) A (eval elt env) (fun x s₄ =>
              wpAny (model prog w) A (call (.builtin "list.append") [acc, x]) (fun _ s₅ => ∃ m, m < n ∧ I m s₅) (notedBy (model prog w) A env fun e s' => R (.error e) s') s₄) (notedBy (model prog w) A env fun e s' => R (.error e) s') s₃
            else ∃ m, m < n ∧ I m s₃) (notedBy (model prog w) A env fun e s' => R (.error e) s') s₂) (notedBy (model prog w) A env fun e s' => R (.error e) s') s₁') (notedBy (model prog w) A env fun e s' => R (.error e) s') s₁) (notedBy (model prog w) A env fun e s' => R (.error e) s') s)
    (n : Nat) (h : I n s) :
    codeAny (model prog w) A (.compLoop (.ListComp elt [⟨target, iter, ifs, 0⟩] scope pos) 0 it acc env) R s := by
  refine codeAny_loop rfl I (fun n s hI => ?_) n h
  show wpAny _ A ((compTurn (.ListComp elt [⟨target, iter, ifs, 0⟩] scope pos) 0 it acc env).onRaise (fun x => do noteFrame x env; theTreesLotGoes x)) _ _ s
  refine wpAny_noted ?_
  rw [compTurn_list]
  refine wpAny_bind (wpAny_standAt (wpAny_bind (wpAny_mono (turn n s hI) (fun r s₁ h₁ => ?_) fun _ _ h' => h')))
  cases r with
  | none => exact wpAny_pure h₁
  | some v =>
    refine wpAny_bind (wpAny_mono h₁ (fun _ s₁' h₁' => ?_) fun _ _ h' => h')
    refine wpAny_bind (wpAny_mono h₁' (fun _ s₂ h₂ => wpAny_bind (wpAny_mono h₂ (fun ok s₃ h₃ => ?_) fun _ _ h' => h')) fun _ _ h' => h')
    cases ok with
    | false => exact wpAny_pure ⟨rfl, h₃⟩
    | true =>
      exact wpAny_bind (wpAny_bind (wpAny_mono h₃ (fun x s₄ h₄ => wpAny_bind (wpAny_mono h₄ (fun _ s₅ h₅ => wpAny_pure (wpAny_pure ⟨rfl, h₅⟩)) fun _ _ h' => h')) fun _ _ h' => h'))

/-! ### the block's context -/
def cxComp (X : Cx) (x : Str) (scope : Scope) (fp : List Addr) (s : Shared) (H : Hp) : Cx where
  prog := X.prog
  w := X.w
  K := X.K
  mg := X.mg
  base := X.base
  A := X.A
  N := x :: X.N
  s₀ := s
  H₀ := H
  env := compEnvC scope (clOf X.env.cells scope.names []) s.heap.objs.size X.env
  outer := X.stack
  stack := X.stack
  ex := fp
  calm := X.calm
  fn := fun _ => false
  pn := X.pn
  xe := fun _ _ => False

/-- what is asked of a comprehension's scope: no cells of its own, its one name, free names are cells or free around it, its locals are not names of the def -/
structure CompScope (X : Cx) (x : Str) (scope : Scope) : Prop where
  kind : scope.kind = .function
  nocell : ∀ y ∈ scope.names, y.2 ≠ .cell
  locs : ∀ y ∈ scope.names, y.2 = .local → scope.names.lookup y.1 = some .local
  own : scope.names.lookup x = some .local
  frees : ∀ y ∈ scope.names, y.2 = .free → X.env.kindOf y.1 = some .cell ∨ X.env.kindOf y.1 = some .free
  apart : ∀ y ∈ scope.names, y.2 = .local → y.1 ∉ X.N

theorem CompScope.cells {X : Cx} {x : Str} {scope : Scope} (C : CompScope X x scope) (ok : X.Ok) : ∀ y ∈ scope.names, y.2 = .free → ∃ c, X.env.cells.lookup y.1 = some c := fun y hy hf => ok.has y.1 (C.frees y hy hf)
theorem CompScope.cell_of {X : Cx} {x y : Str} {c : Addr} {scope : Scope} (C : CompScope X x scope) (ok : X.Ok) (h : (clOf X.env.cells scope.names []).lookup y = some c) : (y, NameKind.free) ∈ scope.names ∧ X.env.cells.lookup y = some c := by
  rcases clOf_in h with ⟨a, b⟩ | q
  · obtain ⟨c', e⟩ := C.cells ok _ a rfl
    have e' : X.env.cells.lookup y = some c' := e
    rw [e', Option.getD_some] at b
    exact ⟨a, by rw [b]; exact e'⟩
  · simp at q

theorem comp_ok {X : Cx} {x : Str} {scope : Scope} {fp : List Addr} {pins : List (Addr × Obj)} {σ : St} {H : Hp} {s : Shared} (I : Inv X pins σ H s) (C : CompScope X x scope) (hf : ∀ b ∈ fp, FpOk X pins H b) (ho : ∀ b ∈ fp, ∃ o, s.heap.get? b = some o) :
    (cxComp X x scope fp s H).Ok where
  mod := I.ok.mod
  kind := C.kind
  glob := I.ok.glob
  blt := I.ok.blt
  above := Nat.le_refl _
  inj := fun y z c h1 h2 => I.ok.inj y z c (C.cell_of I.ok h1).2 (C.cell_of I.ok h2).2
  has := fun y hy => by
    have hy : (relabel scope X.env).names.lookup y = some .cell ∨ (relabel scope X.env).names.lookup y = some .free := hy
    have hfr : scope.names.lookup y = some .free := by
      rcases hy with hy | hy
      · rcases lookup_relabel hy with q | ⟨_, q⟩
        · exact absurd rfl (C.nocell _ (PySem.mem_of_lookup q))
        · exact q
      · rcases lookup_relabel hy with q | ⟨z, _⟩
        · exact q
        · cases z
    exact ⟨_, clOf_has (fun c e => by simp at e) (.inl (PySem.mem_of_lookup hfr))⟩
  cab := fun y c h _ => nomatch h
  hd := I.ok.hd
  frames := I.ok.frames
  stk := .inl rfl
  exf := fun b hb => by
    obtain ⟨o, e⟩ := ho b hb
    obtain ⟨f0, f1, f2, f3, f4, f5⟩ := hf b hb
    exact ⟨Nat.ne_of_lt (Heap.lt_size e), fun y c h => f4 y c (C.cell_of I.ok h).2⟩
  bs := I.bs
  bsz := Nat.le_trans I.ok.bsz I.sz
  noex := fun b o e hb => by
    obtain ⟨f0, f1, f2, f3, f4, f5⟩ := hf b hb
    rcases f3 with z | z
    · exact I.ok.noex b o e z
    · exact absurd (Nat.lt_of_lt_of_le (Heap.lt_size (I.ok.bs b o e).1) z) (Nat.lt_irrefl _)
  exfs := fun b hb hs => by
    obtain ⟨f0, f1, f2, f3, f4, f5⟩ := hf b hb
    rcases List.mem_cons.mp (I.stkSub b hs) with z | z
    · exact f1 z
    · exact f2 z
  funs := I.stack
  frf := I.stkFree

theorem comp_inv {X : Cx} {x : Str} {scope : Scope} {fp : List Addr} {pins : List (Addr × Obj)} {σ : St} {H : Hp} {s : Shared} {h' : Heap} {tk : Nat} {m : Str → Option Value} (I : Inv X pins σ H s) (C : CompScope X x scope) (hf : ∀ b ∈ fp, FpOk X pins H b) (ho : ∀ b ∈ fp, ∃ o, s.heap.get? b = some o)
    (hx : x ∉ X.N) (hn : h'.Ns s.heap.objs.size m) (k : ∀ b o, s.heap.get? b = some o → h'.get? b = some o) : Inv (cxComp X x scope fp s H) pins (none :: σ) H { s with heap := h', toks := tk } := by
  refine ⟨comp_ok I C hf ho, rfl, I.bare, Un.kept k, ⟨m, hn, fun i y v h1 h2 h3 => ?_⟩, fun y c h => ?_, I.hok.fresh (Nat.le_refl _), fun y c h => I.freeC y c (C.cell_of I.ok h).2, fun p hp => ?_, I.hok.kept k, ?_⟩
  · cases i with
    | zero => simp at h2
    | succ i =>
      have h1 : X.N[i]? = some y := by simpa [cxComp] using h1
      have h2 : σ[i]? = some (some v) := by simpa using h2
      have h3 : (relabel scope X.env).names.lookup y = some .local ∨ (relabel scope X.env).names.lookup y = some .cell ∨ (relabel scope X.env).names.lookup y = some .free := h3
      have hfr : scope.names.lookup y = some .free := by
        rcases h3 with q | q | q
        · rcases lookup_relabel q with q | ⟨z, _⟩
          · exact absurd (List.mem_of_getElem? h1) (C.apart _ (PySem.mem_of_lookup q) rfl)
          · cases z
        · rcases lookup_relabel q with q | ⟨_, q⟩
          · exact absurd rfl (C.nocell _ (PySem.mem_of_lookup q))
          · exact q
        · rcases lookup_relabel q with q | ⟨z, _⟩
          · exact q
          · cases z
      have hmem := PySem.mem_of_lookup hfr
      obtain ⟨m0, hn0, hl0⟩ := I.loc
      have hvis : Vis X.env.scope y := by
        rcases C.frees _ hmem rfl with q | q
        · exact .inr (.inl q)
        · exact .inr (.inr q)
      obtain ⟨u, r, l⟩ := hl0 i y v h1 h2 hvis
      refine ⟨u, r, .inr ⟨?_, ?_⟩⟩
      · rcases h3 with q | q | q
        · rcases lookup_relabel q with q | ⟨z, _⟩
          · rw [hfr] at q; cases q
          · cases z
        · exact .inl q
        · exact .inr q
      · rcases l with ⟨lk, _⟩ | ⟨_, c, hc, hcell⟩
        · rcases C.frees _ hmem rfl with q | q
          · rw [lk] at q; cases q
          · rw [lk] at q; cases q
        · refine ⟨c, ?_, ?_⟩
          · show (clOf X.env.cells scope.names []).lookup y = some c
            have q := clOf_has (cells := X.env.cells) (y := y) (names := scope.names) (cs := []) (fun c e => by simp at e) (.inl hmem)
            rw [hc, Option.getD_some] at q
            exact q
          · obtain ⟨o, e, d⟩ := hcell
            exact ⟨o, k _ _ e, d⟩
  · obtain ⟨v, o, e, d⟩ := I.cell y c (C.cell_of I.ok h).2
    exact ⟨v, o, k _ _ e, d⟩
  · obtain ⟨e, n, ne, nf, d⟩ := I.pin p hp
    refine ⟨k _ _ e, n, Nat.ne_of_lt (Heap.lt_size e), fun z => ?_, d⟩
    rcases List.mem_cons.mp (I.stkSub _ z) with q | q
    · exact ne q
    · exact nf q
  · show (none :: σ).length = (x :: X.N).length
    rw [List.length_cons, List.length_cons, I.len]
end L2

set_option Elab.async false
set_option linter.all false
set_option maxRecDepth 100000
set_option maxHeartbeats 4000000
namespace L2
open PySem PySem.Spec PyProof.Rows

/-! ### [elt for x in iter if c] -/
/-- the test: none, or one -/
def tYes : TT := fun _ H Q => Q true H
def PTs (X : Cx) (ifs : List Expr) (t : TT) : Prop :=
  ∀ (pins : List (Addr × Obj)) (s : Shared) (σ : St) (H : Hp) (Q : Bool → Hp → Prop), Inv X pins σ H s → t σ H Q →
    wpAny (model X.prog X.w) X.A (forIn ifs true fun c r => if r = true then do let ok ← isTrue c X.env (eval c X.env); pure (ForInStep.yield ok) else pure (ForInStep.yield r)) (TP X pins σ Q) X.xe s
theorem pts_nil {X : Cx} : PTs X [] tYes := fun _ _ _ H _ I h => wpAny_tests_nil ⟨H, I, h⟩
theorem pts_one {X : Cx} {c : Expr} {t : TT} (h : PT X c t) : PTs X [c] t := fun pins s σ H Q I q => wpAny_tests_one (h pins s σ H Q I q)

def tComp (wi : TI) (tc : TT) (te : TE) : TE := fun σ H Q => wi σ H fun J H1 => ∀ D, H1 D = none → ∃ W : Nat → Nat → List V → Hp → Prop, (∃ m, W 0 m [] (upd H1 D (.lst []))) ∧ ∀ i m ys H2, W i m ys H2 →
  (J.stop i H2 ∧ Q (.ref D) H2) ∨ (J.go i H2 ∧ ∃ N : List V → Hp → Prop, (∀ ys' H', N ys' H' → ∃ m', m' < m ∧ W (i + 1) m' ys' H') ∧
    ∀ x H', J.yld i H2 x H' → tc (some x :: σ) H' fun b H3 => if b = true then te (some x :: σ) H3 fun y H4 => H4 D = some (.lst ys) ∧ ys.length < sizeLine ∧ N (ys ++ [y]) (upd H4 D (.lst (ys ++ [y]))) else N ys H3)

/-- behind the block: the block's frame is let go -/
theorem comp_out {X : Cx} {x : Str} {scope : Scope} {fp : List Addr} {pins : List (Addr × Obj)} {σ σ' : St} {H H' : Hp} {s s' : Shared} {h' : Heap} (I : Inv X pins σ H s) (hf : ∀ b ∈ fp, FpOk X pins H b) (J : Inv (cxComp X x scope fp s H) pins σ' H' s')
    (sb : Heap.SameBut s.heap.objs.size s'.heap h') : Inv X pins σ H' { s' with heap := h' } := by
  have hC : H' s.heap.objs.size = none := J.free
  have ne : ∀ b o, s.heap.get? b = some o → b ≠ s.heap.objs.size := fun b o e => Nat.ne_of_lt (Heap.lt_size e)
  have u : Un (frs X.stack) fp H H' s.heap h' :=
    ⟨fun b o e n hb hx => (sb.2 b (ne b o e)).trans (J.base.keep b o e n hb hx), fun b o e n hb hx => by
        obtain ⟨sl, q⟩ := J.base.slot b o e n hb hx
        exact ⟨sl, (sb.2 b (ne b o e)).trans q⟩, J.base.free, fun b o e hx => by
        obtain ⟨o', q⟩ := J.base.there b o e hx
        exact ⟨o', (sb.2 b (ne b o e)).trans q⟩, J.base.tups, J.base.frzs, J.base.tbls⟩
  have hok : HOk X.prog X.w H' h' := fun b ob e => by
    refine (J.hok b ob e).stay (fun c w' hc q => (sb.2 c ?_).trans q) (fun _ q => q) fun _ _ q => q
    intro z
    rcases hc with y | y
    · rw [z] at y; rw [← y, hC] at e; cases e
    · rw [z, hC] at y; cases y
  exact I.call' (s' := { s' with heap := h' }) J.os u hok J.bare fun b hb => ⟨(hf b hb).2.2.2.1, (hf b hb).2.1, (hf b hb).2.2.2.2.1, (hf b hb).2.2.2.2.2⟩

theorem comp_core {X : Cx} {elt iter : Expr} {ifs : List Expr} {x : Str} {px : Pos} {scope : Scope} {pos : Pos} {wi : TI} {tc : TT} {te : TE} (hc : X.calm = true) (C : CompScope X x scope) (hx : x ∉ X.N) (hN : X.N.Nodup)
    (hi : PI X (.Name x px) iter wi) (ht : ∀ fp s H, PTs (cxComp X x scope fp s H) ifs tc) (he : ∀ fp s H, PE (cxComp X x scope fp s H) elt te)
    (hs : ∀ x, foldedSetIterable iter X.env x = pure x) {pins : List (Addr × Obj)} {s : Shared} {σ : St} {H : Hp} {Q : VK} (I : Inv X pins σ H s) (h : tComp wi tc te σ H Q)
    {use : Option (Value → Sem Unit)} {QQ : Value → Shared → Prop} {ppos : Pos}
    (fin : ∀ {fp : List Addr} {s3 s5 : Shared} {H3 H4 : Hp} {D : Addr} {o : Option V}, Inv X pins σ H3 s3 → (∀ b ∈ fp, FpOk X pins H3 b) → Inv (cxComp X x scope fp s3 H3) pins (o :: σ) H4 s5 → Q (.ref D) H4 → compPost (model X.prog X.w) X.A X.xe use QQ (.ref D) s3.heap.objs.size (.ok .next) s5) :
    wpAny (model X.prog X.w) X.A (comprehension (.ListComp elt [⟨.Name x px, iter, ifs, 0⟩] scope pos) scope X.env ppos (newList []) false (eval iter X.env) use) QQ X.xe s := by
  refine wpAny_comprehension_free rfl hs (closureFor_some (C.cells I.ok)) C.kind C.locs (thn (hi pins s σ H _ I h) fun v s1 h1 => thn h1 fun itv s2 h2 => ?_)
  obtain ⟨it, fp, tn, J, H2, e, I2, T, st2, f2, R⟩ := h2
  subst e
  have hD : H2 s2.heap.objs.size = none := I2.hok.fresh (Nat.le_refl _)
  obtain ⟨W, ⟨m0, w0⟩, turn⟩ := R _ hD
  refine wpAny_newObj_type (wpAny_newFunctionEnv C.nocell (by intro y hy; simp at hy) (fun h₁ hns₁ hsb₁ => ?_) C.kind)
  dsimp only at hns₁ hsb₁ ⊢
  have I3 : Inv X pins σ (upd H2 s2.heap.objs.size (.lst [])) { s2 with heap := s2.heap.push { cls := .type "list", dict := none, data := .seq ([] : List Value).toArray } } :=
    I2.laid (t' := s2.toks) (o := .lst []) (fun b ob q => Heap.get?_push_of_some _ q) (Nat.le_refl _) ⟨Nat.zero_le _, [], 0, .nil, Heap.get?_push_size _ rfl⟩
  have f3 : ∀ b ∈ fp, FpOk X pins (upd H2 s2.heap.objs.size (.lst [])) b := fun b hb => by
    obtain ⟨o, e, _⟩ := T.obj _ _ st2 b hb
    obtain ⟨g0, g⟩ := f2 b hb
    exact ⟨by rw [upd_ne (Nat.ne_of_lt (Heap.lt_size e))]; exact g0, g⟩
  have o3 : ∀ b ∈ fp, ∃ o, (s2.heap.push { cls := .type "list", dict := none, data := .seq ([] : List Value).toArray }).get? b = some o := fun b hb => by
    obtain ⟨o, e, _⟩ := T.obj _ _ st2 b hb
    exact ⟨o, Heap.get?_push_of_some _ e⟩
  have old : ∀ b o, (s2.heap.push { cls := .type "list", dict := none, data := .seq ([] : List Value).toArray }).get? b = some o → h₁.get? b = some o := fun b o e =>
    hsb₁.extBut b o (Nat.ne_of_lt (Heap.lt_size e)) (Heap.get?_push_of_some _ e)
  have K0 := comp_inv (x := x) (scope := scope) (fp := fp) (h' := h₁) (tk := s2.toks) I3 C f3 o3 hx hns₁ old
  have st3 : tn 0 h₁ := T.keep _ _ _ st2 fun b _ o e => old b o (Heap.get?_push_of_some _ e)
  generalize hs3 : ({ s2 with heap := s2.heap.push { cls := .type "list", dict := none, data := .seq ([] : List Value).toArray } } : Shared) = s3 at I3 K0
  have es3 : s2.heap.push { cls := .type "list", dict := none, data := .seq ([] : List Value).toArray } = s3.heap := by rw [← hs3]
  generalize hH3 : upd H2 s2.heap.objs.size (.lst []) = H3 at I3 K0 f3 w0
  -- what stays true of the iterator's objects
  have stat : ∀ {H' : Hp}, (∀ b ∈ fp, H' b = none) → ∀ b ∈ fp, FpOk (cxComp X x scope fp s3 H3) pins H' b := fun {H'} hn b hb => by
    obtain ⟨o, e⟩ := o3 b hb
    rw [es3] at e
    obtain ⟨g0, g1, g2, g3, g4, g5⟩ := f3 b hb
    refine ⟨hn b hb, Nat.ne_of_lt (Heap.lt_size e), fun z => ?_, .inl hb, fun y c h => g4 y c (C.cell_of I.ok h).2, g5⟩
    rcases List.mem_cons.mp (I3.stkSub _ z) with q | q
    · exact g1 q
    · exact g2 q
  have nd' : (x :: X.N).Nodup := List.nodup_cons.mpr ⟨hx, hN⟩
  have lx : (relabel scope X.env).names.lookup x = some .local := lookup_relabel_local C.own
  have loop : codeAny (model X.prog X.w) X.A (.compLoop (.ListComp elt [⟨.Name x px, iter, ifs, 0⟩] scope pos) 0 (.ref it) (.ref s2.heap.objs.size) (cxComp X x scope fp s3 H3).env)
      (compPost (model X.prog X.w) X.A X.xe use QQ (Value.ref s2.heap.objs.size) s3.heap.objs.size) { s3 with heap := h₁, toks := s2.toks } := by
    refine compLoop_go (fun n s' => ∃ i o ys H', Inv (cxComp X x scope fp s3 H3) pins (o :: σ) H' s' ∧ tn i s'.heap ∧ (∀ b ∈ fp, H' b = none) ∧ W i n ys H') ?_ m0 ⟨0, none, [], H3, K0, st3, fun b hb => (f3 b hb).1, w0⟩
    rintro n s4 ⟨i, o, ys, H4, I4, st4, fr4, w4⟩
    rcases turn i n ys H4 w4 with ⟨stop, qn⟩ | ⟨go, N, hNN, step⟩
    · refine thn (T.done (cxComp X x scope fp s3 H3) rfl rfl rfl hc i pins s4 (o :: σ) H4 _ I4 (stat fr4) st4 stop) fun r s5 ⟨hr, I5⟩ => ?_
      subst hr
      exact fin I3 f3 I5 qn
    · refine thn (T.item (cxComp X x scope fp s3 H3) rfl rfl rfl hc i pins s4 (o :: σ) H4 _ I4 (stat fr4) st4 go) fun r s5 ⟨u, hr, h5⟩ => ?_
      subst hr
      refine thn h5 fun _ s6 ⟨y, H6, I6, r6, y6, st6, fr6⟩ => ?_
      have I6' := I6.pinned (stat fr6) (T.obj _ _ st6)
      refine wpAny_assign_Name (store_ok (i := 0) I6' nd' rfl (.inl lx) r6 (fun s7 I7 => ?_) (.inr lx))
      have keepS : ∀ {o' : Option V} {H' : Hp} {s' : Shared}, Inv (cxComp X x scope fp s3 H3) (pins ++ pinsAt fp s6.heap) (o' :: σ) H' s' → tn (i + 1) s'.heap ∧ ∀ b ∈ fp, H' b = none := fun {o' H' s'} I' => by
        refine ⟨T.keep _ _ _ st6 fun b hb o e => (I'.pin (b, o) (List.mem_append_right _ (List.mem_append_right _ (mem_pinsAt hb e)))).1, fun b hb => ?_⟩
        obtain ⟨o, e, d⟩ := T.obj _ _ st6 b hb
        exact (I'.pin (b, o) (List.mem_append_right _ (List.mem_append_right _ (mem_pinsAt hb e)))).2.1
      refine wpAny_mono (ht fp s3 H3 _ s7 (some y :: σ) H6 _ I7 (step y H6 y6)) (fun b s8 ⟨H8, I8, q8⟩ => ?_) fun _ _ z => False.elim z
      cases b with
      | false =>
        rw [if_neg Bool.false_ne_true] at q8 ⊢
        obtain ⟨m', hm, w8⟩ := hNN ys H8 q8
        obtain ⟨a1, a2⟩ := keepS I8
        exact ⟨m', hm, i + 1, some y, ys, H8, I8.unpinned, a1, a2, w8⟩
      | true =>
        rw [if_pos rfl] at q8 ⊢
        refine wpAny_mono (he fp s3 H3 _ s8 (some y :: σ) H8 _ I8 q8) (fun v9 s9 ⟨y9, H9, I9, r9, hacc, hsz, q9⟩ => ?_) fun _ _ z => False.elim z
        refine wpAny_mono (mt_append (X := cxComp X x scope fp s3 H3) _ s9 (some y :: σ) H9 (.ref s2.heap.objs.size) [y9] _ [v9] (fun _ H' => N (ys ++ [y9]) H') I9 rfl (.cons r9 .nil) ⟨_, _, _, rfl, rfl, hacc, hsz, q9⟩) (fun _ s10 ⟨_, H10, I10, _, q10⟩ => ?_) fun _ _ z => False.elim z
        obtain ⟨m', hm, w10⟩ := hNN _ H10 q10
        obtain ⟨a1, a2⟩ := keepS I10
        exact ⟨m', hm, i + 1, some y, _, H10, I10.unpinned, a1, a2, w10⟩
  have eC : (s2.heap.push { cls := .type "list", dict := none, data := .seq ([] : List Value).toArray }).objs.size = s3.heap.objs.size := by rw [es3]
  rw [eC]
  have es4 : ({ heap := h₁, gens := s2.gens, drawn := s2.drawn, toks := s2.toks + ([] : List (Str × Value)).length, os := s2.os } : Shared) = { s3 with heap := h₁, toks := s2.toks } := by rw [← hs3]; rfl
  rw [es4]
  exact codeAny_compStart_list loop (T.self _ 0 _ _ _ st3 loop)
theorem pe_comp {X : Cx} {elt iter : Expr} {ifs : List Expr} {x : Str} {px : Pos} {scope : Scope} {pos : Pos} {wi : TI} {tc : TT} {te : TE} (hc : X.calm = true) (C : CompScope X x scope) (hx : x ∉ X.N) (hN : X.N.Nodup)
    (hi : PI X (.Name x px) iter wi) (ht : ∀ fp s H, PTs (cxComp X x scope fp s H) ifs tc) (he : ∀ fp s H, PE (cxComp X x scope fp s H) elt te)
    (hs : ∀ x, foldedSetIterable iter X.env x = pure x := by intro _; rfl) : PE X (.ListComp elt [⟨.Name x px, iter, ifs, 0⟩] scope pos) (tComp wi tc te) := by
  intro pins s σ H Q I h
  rw [eval_ListComp]
  refine comp_core (use := none) hc C hx hN hi ht he hs I h fun I3 f3 I5 qn => ?_
  obtain ⟨m5, hn5, _⟩ := id I5.loc
  exact ⟨m5, hn5, fun h' sb => ⟨.ref _, _, comp_out I3 f3 I5 sb, rfl, qn⟩⟩
/-- name = [..]: the name may be stored ahead of the block's variables' going -/
theorem ps_setComp {X : Cx} {elt iter : Expr} {ifs : List Expr} {x y : Str} {px py : Pos} {scope : Scope} {pos spos : Pos} {wi : TI} {tc : TT} {te : TE} {i : Nat} (hc : X.calm = true) (C : CompScope X x scope) (hx : x ∉ X.N) (hN : X.N.Nodup)
    (hi : PI X (.Name x px) iter wi) (ht : ∀ fp s H, PTs (cxComp X x scope fp s H) ifs tc) (he : ∀ fp s H, PE (cxComp X x scope fp s H) elt te)
    (hs : ∀ x, foldedSetIterable iter X.env x = pure x) (hy : X.N[i]? = some y) (hl : Loc X.env.scope y) (hf : X.fn y = true ∨ X.env.scope.names.lookup y = some .local) :
    PS X (.Assign [.Name y py] (.ListComp elt [⟨.Name x px, iter, ifs, 0⟩] scope pos) spos) (tAsg (tComp wi tc te) (gName i)) := by
  have hb : ∃ b, swapsWith (.ListComp elt [⟨.Name x px, iter, ifs, 0⟩] scope pos) (some (.Name y py)) spos.line X.env = pure b := ⟨_, rfl⟩
  obtain ⟨b, hb⟩ := hb
  cases b with
  | false => exact ps_set hN hy hl (pe_comp hc C hx hN hi ht he hs) hb hf
  | true =>
    intro pins s σ H D I h
    rw [exec_Assign_Name_used _ _ _ _ hb]
    refine wpAny_bind (wpAny_standAt (wpAny_bind ?_))
    show wpAny _ X.A (do let _ ← comprehension (.ListComp elt [⟨.Name x px, iter, ifs, 0⟩] scope pos) scope X.env _ (newList []) false (eval iter X.env) (some (assign (.Name y py) X.env))) _ _ s
    refine wpAny_bind (wpAny_mono (comp_core (use := some (assign (.Name y py) X.env)) (QQ := fun _ s' => SP X pins D .next s') hc C hx hN hi ht he hs I h fun {fp s3 s5 H3 H4 Dd o} I3 f3 I5 qn => ?_) (fun _ s' hq => wpAny_pure (wpAny_pure hq)) fun _ _ e => e)
    have I6 : Inv X pins σ H4 s5 := by
      have := comp_out I3 f3 I5 (Heap.SameBut.refl _ _)
      exact this
    obtain ⟨m5, hn5, _⟩ := id I5.loc
    have hC0 : H4 s3.heap.objs.size = none := I5.free
    have hCL : X.env.locals ≠ s3.heap.objs.size := Nat.ne_of_lt I3.lt
    show wpAny _ X.A (assign (.Name y py) X.env (.ref Dd)) _ _ _
    refine wpAny_assign_Name (store_ok2 (v := .ref Dd) I6 hN hy hl rfl (fun s7 I7 hch => ?_) hf)
    obtain ⟨a, sb, ha⟩ := hch
    have hCa : s3.heap.objs.size ≠ a := by
      rcases ha with rfl | ha
      · exact hCL.symm
      · obtain ⟨v, q⟩ := I3.cell y a ha
        exact (Nat.ne_of_lt q.lt).symm
    refine ⟨m5, hn5.sameBut sb hCa, fun h' sb' => ⟨_, H4, ?_, qn⟩⟩
    refine I7.turned (t' := s7.toks) (it := s3.heap.objs.size) (fun b o hb e => (sb'.2 b hb).trans e) hC0 hCL.symm (.inr I3.sz) (fun z c e => ?_) fun p hp => ?_
    · obtain ⟨v, q⟩ := I3.cell z c e
      exact Nat.ne_of_lt q.lt
    · exact Nat.ne_of_lt (Heap.lt_size (I3.pin p hp).1)
end L2

set_option Elab.async false
set_option linter.all false
set_option maxRecDepth 100000
set_option maxHeartbeats 4000000
namespace L2
open PySem PySem.Spec PyProof.Rows

/-! ### enumerate -/
theorem Inv.turnLaid {X : Cx} {pins : List (Addr × Obj)} {σ : St} {H : Hp} {s : Shared} {h' : Heap} {t' : Nat} {fp : List Addr} {p : Addr} {xs : List V} (I : Inv X pins σ H s) (hf : ∀ b ∈ fp, FpOk X pins H b)
    (k : ∀ b o, b ∉ fp → s.heap.get? b = some o → h'.get? b = some o) (hp : s.heap.objs.size ≤ p) (new : ObjOk X.prog X.w (upd H p (.tup xs)) h' p (.tup xs)) : Inv X pins σ (upd H p (.tup xs)) { s with heap := h', toks := t' } := by
  have hn : H p = none := I.hok.fresh hp
  have nit : ∀ b u, H b = some u → b ∉ fp := fun b u e z => by rw [(hf b z).1] at e; cases e
  have nep : ∀ {b : Addr} {o : Obj}, s.heap.get? b = some o → b ≠ p := fun e => Nat.ne_of_lt (Nat.lt_of_lt_of_le (Heap.lt_size e) hp)
  refine I.step (g' := s.gens) (d' := s.drawn) (ch := fp) (fun b hb => ?_) (fun b o _ _ hc e _ => k b o hc e) (fun b o _ _ hc e _ => ⟨o.slots, k b o hc e⟩) (fun b o _ e n => by rw [upd_ne (nep e)]; exact n)
    (fun b o hc e => ⟨o, k b o hc e⟩) (fun b ys e => by rw [upd_ne (ne_of_none e hn)]; exact e) (fun b o u e => by rw [upd_ne (ne_of_none e hn)]; exact e) (fun b ps e => ⟨#[], by rw [upd_ne (ne_of_none e hn), e]; simp⟩) (fun m hm => ?_) (fun b u e => ?_) I.bare
  · obtain ⟨f0, f1, f2, f3, f4, f5⟩ := hf b hb
    exact ⟨f3, f1, f4, f5⟩
  · obtain ⟨o, es, ep, ho, r⟩ := hm
    exact ⟨o, es, ep, k _ o (fun z => (hf _ z).2.1 rfl) ho, r⟩
  · by_cases hb : b = p
    · subst hb; rw [upd_same] at e; cases e; exact new
    · rw [upd_ne hb] at e
      refine (I.hok b u e).stay (fun c v hc q => k c v ?_ q) (fun c q => by rw [upd_ne (ne_of_none q hn)]; exact q) fun c ys q => by rw [upd_ne (ne_of_none q hn)]; exact q
      rcases hc with z | z
      · rw [z]; exact nit b u e
      · exact nit c _ z
def Ite (K : PySem.W.Frag) (a : Addr) : It :=
  ⟨fun i H => ∃ xs x, SqL K H a xs ∧ xs[i]? = some x,
   fun i H v H' => ∃ p x, v = .ref p ∧ H p = none ∧ H' = upd H p (.tup [.int (i : Int), x]) ∧ ∀ xs, SqL K H a xs → xs[i]? = some x,
   fun i H => ∃ xs, SqL K H a xs ∧ xs.length ≤ i⟩
def enTn (e it a : Addr) (i : Nat) (h : Heap) : Prop := (∃ old, IsEnum h e it (i : Int) old) ∧ h.IsListIter it a i
theorem turn_enum {P : Program} {w : World} {K : PySem.W.Frag} {elts : List Expr} {k : Nat} {pos : Pos} (a e it : Addr) (hne : e ≠ it) : Turn P w K (.Tuple elts k pos) (Ite K a) [e, it] e (enTn e it a) where
  mem := by simp
  obj := fun i h st b hb => by
    obtain ⟨⟨old, he⟩, o, ho, c, d⟩ := st
    rcases List.mem_cons.mp hb with rfl | hb
    · exact ⟨_, he, fun v z => by
        have z' : Data.fields _ = Data.cell v := z
        cases z'⟩
    · have : b = it := by simpa using hb
      subst this
      exact ⟨o, ho, fun v z => by rw [d] at z; cases z⟩
  keep := fun i h h' ⟨⟨old, he⟩, st⟩ kk => ⟨⟨old, kk e (by simp) _ he⟩, st.at fun o q => kk it (by simp) o q⟩
  item := by
    intro X hP hw hK hc i pins s σ H E I hf st hg
    subst hP hw hK
    obtain ⟨⟨old, he⟩, hit⟩ := st
    obtain ⟨xs, x, hq, hx⟩ := hg
    obtain ⟨its, rv, p, hz⟩ := I.list hq
    obtain ⟨u, hu, ru⟩ := rv.get hx
    refine wpAny_pyNext_enum_item he hit p.isList (x := u) (by simpa using hu) hne fun h1 heo hit1 ht1 hz1 hk1 => ?_
    refine ⟨_, rfl, wpAny_letOwnedTupleGo_enum heo fun h2 he2 hs2 => ?_⟩
    replace hs2 : Heap.SameBut e h1 h2 := hs2
    have lt := Heap.lt_size he
    have ht2 : h2.get? s.heap.objs.size = some { cls := .type "tuple", data := .seq #[.int i s.toks, u] } := (hs2.2 _ (Nat.ne_of_gt lt)).trans ht1
    have hn : H s.heap.objs.size = none := I.hok.fresh (Nat.le_refl _)
    have I2 : Inv X pins σ (upd H s.heap.objs.size (.tup [.int (i : Int), x])) { s with heap := h2, toks := s.toks + 1 } := by
      refine I.turnLaid (fp := [e, it]) hf (fun b o hb q => ?_) (Nat.le_refl _) ⟨(by show 2 ≤ sizeLine; decide), [.int i s.toks, u], .cons ⟨_, rfl⟩ (.cons ru .nil), ?_⟩
      · have hbe : b ≠ e := fun z => hb (by simp [z])
        have hbi : b ≠ it := fun z => hb (by simp [z])
        exact (hs2.2 b hbe).trans (hk1 b o hbe hbi q)
      · exact ⟨_, ht2, rfl, _, rfl⟩
    refine ⟨.ref s.heap.objs.size, _, I2, rfl, ⟨_, x, rfl, hn, rfl, fun ys hy => by rw [I.list_inj hy hq]; exact hx⟩, ⟨⟨u, ?_⟩, ?_⟩, fun b hb => ?_⟩
    · have : ((i + 1 : Nat) : Int) = (i : Int) + 1 := by omega
      rw [this]
      exact he2
    · exact hit1.at fun o q => (hs2.2 it (Ne.symm hne)).trans q
    · obtain ⟨f0, _⟩ := hf b hb
      have : b ≠ s.heap.objs.size := by
        rcases List.mem_cons.mp hb with rfl | hb
        · exact Nat.ne_of_lt lt
        · have : b = it := by simpa using hb
          subst this
          obtain ⟨o, ho, _⟩ := hit
          exact Nat.ne_of_lt (Heap.lt_size ho)
      rw [upd_ne this]; exact f0
  done := by
    intro X hP hw hK hc i pins s σ H E I hf st hg
    subst hP hw hK
    obtain ⟨⟨old, he⟩, hit⟩ := st
    obtain ⟨xs, hq, hx⟩ := hg
    obtain ⟨its, rv, p, hz⟩ := I.list hq
    obtain ⟨f0, f1, f2, f3, f4, f5⟩ := hf it (by simp)
    have hl := rv.length
    exact wpAny_pyNext_enum_end (I.ok.hd hc) he hit p.isList (by simp; omega) fun h' eb => ⟨rfl, I.turned (t' := s.toks) (fun b o hb e => eb b o hb e) f0 f1 f3 f4 f5⟩
  self := fun _ _ _ _ _ st h => wpAny_pyIter_enum st.1.choose_spec h
/-- enumerate(xs), xs a list -/
def iEnum (K : PySem.W.Frag) (tl : TA) : TI := fun σ H R => tl σ H fun vs H1 => ∃ a, vs = [.ref a] ∧ (∃ xs, SqL K H1 a xs) ∧ R (Ite K a) H1
theorem pi_enum {X : Cx} {elts : List Expr} {k : Nat} {tp : Pos} {a : Expr} {ta : TA} {p pos : Pos} (hg : Gl X "enumerate") (hm : X.mg "enumerate" = none) (ha : PA X [a] ta) (hs : starEach [a] X.env = [(false, eval a X.env)]) :
    PI X (.Tuple elts k tp) (.Call (.Name "enumerate" p) [a] [] pos) (iEnum X.K ta) := by
  intro pins s σ H R I h
  refine Call_ (ld_blt I hg hm boot_enumerate (PyProof.Rows.callWith_type1 (thn (ha pos pins s σ H _ I h) fun us s1 ⟨vs, H1, I1, r1, q1⟩ => ?_) hs rfl))
  obtain ⟨a, e, ⟨xs, hq⟩, q⟩ := q1
  subst e
  cases r1 with
  | cons r rr =>
    cases rr
    cases r
    obtain ⟨its, rv, pl, hz⟩ := I1.list hq
    refine call_enumerate_list pl.isList fun h' he hit hsz hk => ?_
    refine wpAny_pyIter_enum he ?_
    refine ⟨_, [s1.heap.objs.size + 1, s1.heap.objs.size], _, _, H1, rfl, I1.kept (t' := s1.toks) hk, turn_enum a _ _ (Nat.ne_of_gt (Nat.lt_succ_self _)), ⟨⟨_, he⟩, hit⟩, fun b hb => ?_, q⟩
    have hb' : s1.heap.objs.size ≤ b := by
      rcases List.mem_cons.mp hb with rfl | hb
      · exact Nat.le_succ _
      · have : b = s1.heap.objs.size := by simpa using hb
        rw [this]; exact Nat.le_refl _
    exact I1.fpOk hb' (I1.hok.fresh hb')

/-! ### [elt for x, y in iter] -/
def cxComp2 (X : Cx) (x y : Str) (scope : Scope) (fp : List Addr) (s : Shared) (H : Hp) : Cx := { cxComp X x scope fp s H with N := x :: y :: X.N }
theorem comp_ok2 {X : Cx} {x y : Str} {scope : Scope} {fp : List Addr} {pins : List (Addr × Obj)} {σ : St} {H : Hp} {s : Shared} (I : Inv X pins σ H s) (C : CompScope X x scope) (hf : ∀ b ∈ fp, FpOk X pins H b) (ho : ∀ b ∈ fp, ∃ o, s.heap.get? b = some o) :
    (cxComp2 X x y scope fp s H).Ok := by
  have h := comp_ok I C hf ho
  exact ⟨h.mod, h.kind, h.glob, h.blt, h.above, h.inj, h.has, h.cab, h.hd, h.frames, h.stk, h.exf, h.bs, h.bsz, h.noex, h.exfs, h.funs, h.frf⟩
theorem comp_inv2 {X : Cx} {x y : Str} {scope : Scope} {fp : List Addr} {pins : List (Addr × Obj)} {σ : St} {H : Hp} {s : Shared} {h' : Heap} {tk : Nat} {m : Str → Option Value} (I : Inv X pins σ H s) (C : CompScope X x scope) (hf : ∀ b ∈ fp, FpOk X pins H b) (ho : ∀ b ∈ fp, ∃ o, s.heap.get? b = some o)
    (hx : x ∉ X.N) (hn : h'.Ns s.heap.objs.size m) (k : ∀ b o, s.heap.get? b = some o → h'.get? b = some o) : Inv (cxComp2 X x y scope fp s H) pins (none :: none :: σ) H { s with heap := h', toks := tk } := by
  have J := comp_inv (x := x) (scope := scope) (fp := fp) (h' := h') (tk := tk) I C hf ho hx hn k
  refine ⟨comp_ok2 I C hf ho, J.os, J.bare, J.base, ?_, J.cell, J.free, J.freeC, J.pin, J.hok, ?_⟩
  · obtain ⟨m', hn', hl⟩ := J.loc
    refine ⟨m', hn', fun i z v h1 h2 h3 => ?_⟩
    cases i with
    | zero => simp at h2
    | succ i =>
      cases i with
      | zero => simp at h2
      | succ i => exact hl (i + 1) z v (by simpa [cxComp, cxComp2] using h1) (by simpa using h2) h3
  · show (none :: none :: σ).length = (x :: y :: X.N).length
    rw [List.length_cons, List.length_cons, List.length_cons, List.length_cons, I.len]
theorem comp_out2 {X : Cx} {x y : Str} {scope : Scope} {fp : List Addr} {pins : List (Addr × Obj)} {σ σ' : St} {H H' : Hp} {s s' : Shared} {h' : Heap} (I : Inv X pins σ H s) (hf : ∀ b ∈ fp, FpOk X pins H b) (J : Inv (cxComp2 X x y scope fp s H) pins σ' H' s')
    (sb : Heap.SameBut s.heap.objs.size s'.heap h') : Inv X pins σ H' { s' with heap := h' } := by
  have hC : H' s.heap.objs.size = none := J.free
  have ne : ∀ b o, s.heap.get? b = some o → b ≠ s.heap.objs.size := fun b o e => Nat.ne_of_lt (Heap.lt_size e)
  have u : Un (frs X.stack) fp H H' s.heap h' :=
    ⟨fun b o e n hb hx => (sb.2 b (ne b o e)).trans (J.base.keep b o e n hb hx), fun b o e n hb hx => by
        obtain ⟨sl, q⟩ := J.base.slot b o e n hb hx
        exact ⟨sl, (sb.2 b (ne b o e)).trans q⟩, J.base.free, fun b o e hx => by
        obtain ⟨o', q⟩ := J.base.there b o e hx
        exact ⟨o', (sb.2 b (ne b o e)).trans q⟩, J.base.tups, J.base.frzs, J.base.tbls⟩
  have hok : HOk X.prog X.w H' h' := fun b ob e => by
    refine (J.hok b ob e).stay (fun c w' hc q => (sb.2 c ?_).trans q) (fun _ q => q) fun _ _ q => q
    intro z
    rcases hc with y | y
    · rw [z] at y; rw [← y, hC] at e; cases e
    · rw [z, hC] at y; cases y
  exact I.call' (s' := { s' with heap := h' }) J.os u hok J.bare fun b hb => ⟨(hf b hb).2.2.2.1, (hf b hb).2.1, (hf b hb).2.2.2.2.1, (hf b hb).2.2.2.2.2⟩
def tComp2 (wi : TI) (g : TG) (te : TE) : TE := fun σ H Q => wi σ H fun J H1 => ∀ D, H1 D = none → ∃ W : Nat → Nat → List V → Hp → Prop, (∃ m, W 0 m [] (upd H1 D (.lst []))) ∧ ∀ i m ys H2, W i m ys H2 →
  (J.stop i H2 ∧ Q (.ref D) H2) ∨ (J.go i H2 ∧ ∃ N : List V → Hp → Prop, (∀ ys' H', N ys' H' → ∃ m', m' < m ∧ W (i + 1) m' ys' H') ∧
    ∀ x H', J.yld i H2 x H' → ∀ o1 o2, g x (o1 :: o2 :: σ) H' fun σ2 H3 => (∃ p1 p2, σ2 = p1 :: p2 :: σ) ∧ te σ2 H3 fun y H4 => H4 D = some (.lst ys) ∧ ys.length < sizeLine ∧ N (ys ++ [y]) (upd H4 D (.lst (ys ++ [y]))))
theorem pe_comp2 {X : Cx} {elt iter tg : Expr} {x y : Str} {scope : Scope} {pos : Pos} {wi : TI} {g : TG} {te : TE} (hc : X.calm = true) (C : CompScope X x scope) (hx : x ∉ X.N)
    (hi : PI X tg iter wi) (hg : ∀ fp s H, PG (cxComp2 X x y scope fp s H) tg g) (he : ∀ fp s H, PE (cxComp2 X x y scope fp s H) elt te)
    (hs : ∀ x, foldedSetIterable iter X.env x = pure x) : PE X (.ListComp elt [⟨tg, iter, [], 0⟩] scope pos) (tComp2 wi g te) := by
  intro pins s σ H Q I h
  rw [eval_ListComp]
  refine wpAny_comprehension_free rfl hs (closureFor_some (C.cells I.ok)) C.kind C.locs (thn (hi pins s σ H _ I h) fun v s1 h1 => thn h1 fun itv s2 h2 => ?_)
  obtain ⟨it, fp, tn, J, H2, e, I2, T, st2, f2, R⟩ := h2
  subst e
  have hD : H2 s2.heap.objs.size = none := I2.hok.fresh (Nat.le_refl _)
  obtain ⟨W, ⟨m0, w0⟩, turn⟩ := R _ hD
  refine wpAny_newObj_type (wpAny_newFunctionEnv C.nocell (by intro y hy; simp at hy) (fun h₁ hns₁ hsb₁ => ?_) C.kind)
  dsimp only at hns₁ hsb₁ ⊢
  have I3 : Inv X pins σ (upd H2 s2.heap.objs.size (.lst [])) { s2 with heap := s2.heap.push { cls := .type "list", dict := none, data := .seq ([] : List Value).toArray } } :=
    I2.laid (t' := s2.toks) (o := .lst []) (fun b ob q => Heap.get?_push_of_some _ q) (Nat.le_refl _) ⟨Nat.zero_le _, [], 0, .nil, Heap.get?_push_size _ rfl⟩
  have f3 : ∀ b ∈ fp, FpOk X pins (upd H2 s2.heap.objs.size (.lst [])) b := fun b hb => by
    obtain ⟨o, e, _⟩ := T.obj _ _ st2 b hb
    obtain ⟨g0, g⟩ := f2 b hb
    exact ⟨by rw [upd_ne (Nat.ne_of_lt (Heap.lt_size e))]; exact g0, g⟩
  have o3 : ∀ b ∈ fp, ∃ o, (s2.heap.push { cls := .type "list", dict := none, data := .seq ([] : List Value).toArray }).get? b = some o := fun b hb => by
    obtain ⟨o, e, _⟩ := T.obj _ _ st2 b hb
    exact ⟨o, Heap.get?_push_of_some _ e⟩
  have old : ∀ b o, (s2.heap.push { cls := .type "list", dict := none, data := .seq ([] : List Value).toArray }).get? b = some o → h₁.get? b = some o := fun b o e =>
    hsb₁.extBut b o (Nat.ne_of_lt (Heap.lt_size e)) (Heap.get?_push_of_some _ e)
  have K0 := comp_inv2 (x := x) (y := y) (scope := scope) (fp := fp) (h' := h₁) (tk := s2.toks) I3 C f3 o3 hx hns₁ old
  have st3 : tn 0 h₁ := T.keep _ _ _ st2 fun b _ o e => old b o (Heap.get?_push_of_some _ e)
  generalize hs3 : ({ s2 with heap := s2.heap.push { cls := .type "list", dict := none, data := .seq ([] : List Value).toArray } } : Shared) = s3 at I3 K0
  have es3 : s2.heap.push { cls := .type "list", dict := none, data := .seq ([] : List Value).toArray } = s3.heap := by rw [← hs3]
  generalize hH3 : upd H2 s2.heap.objs.size (.lst []) = H3 at I3 K0 f3 w0
  have stat : ∀ {H' : Hp}, (∀ b ∈ fp, H' b = none) → ∀ b ∈ fp, FpOk (cxComp2 X x y scope fp s3 H3) pins H' b := fun {H'} hn b hb => by
    obtain ⟨o, e⟩ := o3 b hb
    rw [es3] at e
    obtain ⟨g0, g1, g2, g3, g4, g5⟩ := f3 b hb
    refine ⟨hn b hb, Nat.ne_of_lt (Heap.lt_size e), fun z => ?_, .inl hb, fun y c h => g4 y c (C.cell_of I.ok h).2, g5⟩
    rcases List.mem_cons.mp (I3.stkSub _ z) with q | q
    · exact g1 q
    · exact g2 q
  have loop : codeAny (model X.prog X.w) X.A (.compLoop (.ListComp elt [⟨tg, iter, [], 0⟩] scope pos) 0 (.ref it) (.ref s2.heap.objs.size) (cxComp2 X x y scope fp s3 H3).env)
      (compPost (model X.prog X.w) X.A X.xe none (EP X pins σ Q) (Value.ref s2.heap.objs.size) s3.heap.objs.size) { s3 with heap := h₁, toks := s2.toks } := by
    refine compLoop_go (fun n s' => ∃ i o1 o2 ys H', Inv (cxComp2 X x y scope fp s3 H3) pins (o1 :: o2 :: σ) H' s' ∧ tn i s'.heap ∧ (∀ b ∈ fp, H' b = none) ∧ W i n ys H') ?_ m0 ⟨0, none, none, [], H3, K0, st3, fun b hb => (f3 b hb).1, w0⟩
    rintro n s4 ⟨i, o1, o2, ys, H4, I4, st4, fr4, w4⟩
    rcases turn i n ys H4 w4 with ⟨stop, qn⟩ | ⟨go, N, hNN, step⟩
    · refine thn (T.done (cxComp2 X x y scope fp s3 H3) rfl rfl rfl hc i pins s4 (o1 :: o2 :: σ) H4 _ I4 (stat fr4) st4 stop) fun r s5 ⟨hr, I5⟩ => ?_
      subst hr
      obtain ⟨m5, hn5, _⟩ := id I5.loc
      exact ⟨m5, hn5, fun h' sb => ⟨.ref _, _, comp_out2 I3 f3 I5 sb, rfl, qn⟩⟩
    · refine thn (T.item (cxComp2 X x y scope fp s3 H3) rfl rfl rfl hc i pins s4 (o1 :: o2 :: σ) H4 _ I4 (stat fr4) st4 go) fun r s5 ⟨u, hr, h5⟩ => ?_
      subst hr
      refine thn h5 fun _ s6 ⟨yv, H6, I6, r6, y6, st6, fr6⟩ => ?_
      have I6' := I6.pinned (stat fr6) (T.obj _ _ st6)
      have keepS : ∀ {q1 q2 : Option V} {H' : Hp} {s' : Shared}, Inv (cxComp2 X x y scope fp s3 H3) (pins ++ pinsAt fp s6.heap) (q1 :: q2 :: σ) H' s' → tn (i + 1) s'.heap ∧ ∀ b ∈ fp, H' b = none := fun {q1 q2 H' s'} I' => by
        refine ⟨T.keep _ _ _ st6 fun b hb o e => (I'.pin (b, o) (List.mem_append_right _ (List.mem_append_right _ (mem_pinsAt hb e)))).1, fun b hb => ?_⟩
        obtain ⟨o, e, d⟩ := T.obj _ _ st6 b hb
        exact (I'.pin (b, o) (List.mem_append_right _ (List.mem_append_right _ (mem_pinsAt hb e)))).2.1
      refine wpAny_mono (hg fp s3 H3 _ s6 (o1 :: o2 :: σ) H6 yv u _ I6' r6 (step yv H6 y6 o1 o2)) (fun _ s7 ⟨σ7, H7, I7, ⟨p1, p2, hσ⟩, q7⟩ => ?_) fun _ _ z => False.elim z
      subst hσ
      refine wpAny_tests_nil ?_
      rw [if_pos rfl]
      refine wpAny_mono (he fp s3 H3 _ s7 (p1 :: p2 :: σ) H7 _ I7 q7) (fun v9 s9 ⟨y9, H9, I9, r9, hacc, hsz, q9⟩ => ?_) fun _ _ z => False.elim z
      refine wpAny_mono (mt_append (X := cxComp2 X x y scope fp s3 H3) _ s9 (p1 :: p2 :: σ) H9 (.ref s2.heap.objs.size) [y9] _ [v9] (fun _ H' => N (ys ++ [y9]) H') I9 rfl (.cons r9 .nil) ⟨_, _, _, rfl, rfl, hacc, hsz, q9⟩) (fun _ s10 ⟨_, H10, I10, _, q10⟩ => ?_) fun _ _ z => False.elim z
      obtain ⟨m', hm, w10⟩ := hNN _ H10 q10
      obtain ⟨a1, a2⟩ := keepS I10
      exact ⟨m', hm, i + 1, p1, p2, _, H10, I10.unpinned, a1, a2, w10⟩
  have eC : (s2.heap.push { cls := .type "list", dict := none, data := .seq ([] : List Value).toArray }).objs.size = s3.heap.objs.size := by rw [es3]
  rw [eC]
  have es4 : ({ heap := h₁, gens := s2.gens, drawn := s2.drawn, toks := s2.toks + ([] : List (Str × Value)).length, os := s2.os } : Shared) = { s3 with heap := h₁, toks := s2.toks } := by rw [← hs3]; rfl
  rw [es4]
  exact codeAny_compStart_list loop (T.self _ 0 _ _ _ st3 loop)
end L2

set_option Elab.async false
set_option linter.all false
set_option maxRecDepth 100000
set_option maxHeartbeats 4000000
/-! THE DATA: trees of ints, bools, texts, None and tuples; lists and dicts by their number in a store -/
namespace Ev
open PySem PySem.Spec PyProof.Rows L2

inductive D where
  | non | bl (b : Bool) | int (i : Int) | str (x : Str) | tup (xs : List D) | fl (xs : List D) | ref (n : Nat)
  deriving Inhabited
inductive O where
  | lst (xs : List D) | dct
abbrev Sto := List O
inductive R (α : Type) where
  | ok (a : α) (st : Sto)
  | bad
abbrev M (α : Type) := Sto → R α
def ret {α : Type} (a : α) : M α := fun st => .ok a st
def bnd {α β : Type} (m : M α) (f : α → M β) : M β := fun st => match m st with
  | .ok a st' => f a st'
  | .bad => .bad
def stuck {α : Type} : M α := fun _ => .bad
def ofO {α : Type} (o : Option α) : M α := fun st => match o with
  | some a => .ok a st
  | none => .bad
def items : O → Option (List D)
  | .lst xs => some xs
  | .dct => none

/-! ### == -/
inductive Sh where
  | sc (v : V) | t (xs : List D) | l (xs : List D) | d
def shape (st : Sto) : D → Option Sh
  | .non => some (.sc .non)
  | .bl b => some (.sc (.bl b))
  | .int i => some (.sc (.int i))
  | .str x => some (.sc (.str x))
  | .tup xs => some (.t xs)
  | .fl xs => some (.l xs)
  | .ref n => match st[n]? with
    | some (.lst xs) => some (.l xs)
    | some .dct => some .d
    | none => none
mutual
def eqD (n : Nat) (st : Sto) (a b : D) : Option Bool := match n with
  | 0 => none
  | n + 1 => match shape st a, shape st b with
    | some (.sc x), some (.sc y) => some (eqV x y)
    | some (.t xs), some (.t ys) => eqs n st xs ys
    | some (.l xs), some (.l ys) => eqs n st xs ys
    | some .d, some .d => none
    | some _, some _ => some false
    | _, _ => none
def eqs (n : Nat) (st : Sto) (as bs : List D) : Option Bool := match n with
  | 0 => none
  | n + 1 => match as, bs with
    | [], [] => some true
    | [], _ :: _ => some false
    | _ :: _, [] => some false
    | a :: as, b :: bs => match eqD n st a b, eqs n st as bs with
      | some x, some y => some (x && y)
      | _, _ => none
end

/-! ### the data in the heap -/
/-- a list that is never written: the script -/
def SqF (K : PySem.W.Frag) (H : Hp) (a : Addr) (xs : List V) : Prop :=
  (∃ o, H a = some (.frz o (.lst xs))) ∨
    ∃ (o : Obj) (its : Array Value) (n : Nat), K.lookup a = some o ∧ o.cls = .type "list" ∧ o.dict = none ∧ o.data = .seq its n ∧ its.size ≤ sizeLine ∧ Vals xs its.toList
theorem SqF.sql {K : PySem.W.Frag} {H : Hp} {a : Addr} {xs : List V} (h : SqF K H a xs) : SqL K H a xs := by
  rcases h with h | h
  · exact .inl (.inr h)
  · exact .inr h
mutual
inductive VRel (K : PySem.W.Frag) (H : Hp) (ι : Nat → Addr) (m : Nat) : D → V → Prop where
  | non : VRel K H ι m .non .non
  | bl (b : Bool) : VRel K H ι m (.bl b) (.bl b)
  | int (i : Int) : VRel K H ι m (.int i) (.int i)
  | str (x : Str) : VRel K H ι m (.str x) (.str x)
  | tup {a : Addr} {ds : List D} {xs : List V} (h : SqT K H a xs) (r : VRels K H ι m ds xs) : VRel K H ι m (.tup ds) (.ref a)
  | fl {a : Addr} {ds : List D} {xs : List V} (h : SqF K H a xs) (r : VRels K H ι m ds xs) : VRel K H ι m (.fl ds) (.ref a)
  | ref {n : Nat} (h : n < m) : VRel K H ι m (.ref n) (.ref (ι n))
inductive VRels (K : PySem.W.Frag) (H : Hp) (ι : Nat → Addr) (m : Nat) : List D → List V → Prop where
  | nil : VRels K H ι m [] []
  | cons {d : D} {v : V} {ds : List D} {vs : List V} (h : VRel K H ι m d v) (t : VRels K H ι m ds vs) : VRels K H ι m (d :: ds) (v :: vs)
end
structure Ext0 (H H' : Hp) (ι ι' : Nat → Addr) (m m' : Nat) : Prop where
  le : m ≤ m'
  ad : ∀ n, n < m → ι' n = ι n
  tp : ∀ b xs, H b = some (.tup xs) → H' b = some (.tup xs)
  fz : ∀ b o u, H b = some (.frz o u) → H' b = some (.frz o u)
structure Ext (H H' : Hp) (ι ι' : Nat → Addr) (m m' : Nat) : Prop extends Ext0 H H' ι ι' m m' where
  fr : ∀ b o, H b = some o → (∀ n, n < m → ι n ≠ b) → H' b = some o ∧ ∀ n, n < m' → ι' n ≠ b
theorem Ext.refl (H : Hp) (ι : Nat → Addr) (m : Nat) : Ext H H ι ι m m := ⟨⟨Nat.le_refl _, fun _ _ => rfl, fun _ _ h => h, fun _ _ _ h => h⟩, fun _ _ h k => ⟨h, k⟩⟩
theorem Ext.trans {H H1 H2 : Hp} {ι ι1 ι2 : Nat → Addr} {m m1 m2 : Nat} (a : Ext H H1 ι ι1 m m1) (b : Ext H1 H2 ι1 ι2 m1 m2) : Ext H H2 ι ι2 m m2 :=
  ⟨⟨Nat.le_trans a.le b.le, fun n hn => (b.ad n (Nat.lt_of_lt_of_le hn a.le)).trans (a.ad n hn), fun c xs e => b.tp c xs (a.tp c xs e), fun c o u e => b.fz c o u (a.fz c o u e)⟩, fun c o e k => by
    obtain ⟨e1, k1⟩ := a.fr c o e k
    exact b.fr c o e1 k1⟩
theorem SqT.ext {K : PySem.W.Frag} {H H' : Hp} {ι ι' : Nat → Addr} {m m' : Nat} {a : Addr} {xs : List V} (e : Ext0 H H' ι ι' m m') (h : SqT K H a xs) : SqT K H' a xs := by
  rcases h with (h | ⟨o, h⟩) | h
  · exact .inl (.inl (e.tp _ _ h))
  · exact .inl (.inr ⟨o, e.fz _ _ _ h⟩)
  · exact .inr h
theorem SqF.ext {K : PySem.W.Frag} {H H' : Hp} {ι ι' : Nat → Addr} {m m' : Nat} {a : Addr} {xs : List V} (e : Ext0 H H' ι ι' m m') (h : SqF K H a xs) : SqF K H' a xs := by
  rcases h with ⟨o, h⟩ | h
  · exact .inl ⟨o, e.fz _ _ _ h⟩
  · exact .inr h
mutual
theorem VRel.ext0 {K : PySem.W.Frag} {H H' : Hp} {ι ι' : Nat → Addr} {m m' : Nat} (e : Ext0 H H' ι ι' m m') : ∀ {d : D} {v : V}, VRel K H ι m d v → VRel K H' ι' m' d v
  | _, _, .non => .non
  | _, _, .bl b => .bl b
  | _, _, .int i => .int i
  | _, _, .str x => .str x
  | _, _, .tup h r => .tup (SqT.ext e h) (VRels.ext0 e r)
  | _, _, .fl h r => .fl (SqF.ext e h) (VRels.ext0 e r)
  | _, _, .ref (n := n) h => by rw [← e.ad n h]; exact .ref (Nat.lt_of_lt_of_le h e.le)
theorem VRels.ext0 {K : PySem.W.Frag} {H H' : Hp} {ι ι' : Nat → Addr} {m m' : Nat} (e : Ext0 H H' ι ι' m m') : ∀ {ds : List D} {vs : List V}, VRels K H ι m ds vs → VRels K H' ι' m' ds vs
  | _, _, .nil => .nil
  | _, _, .cons h t => .cons (VRel.ext0 e h) (VRels.ext0 e t)
end
theorem VRel.ext {K : PySem.W.Frag} {H H' : Hp} {ι ι' : Nat → Addr} {m m' : Nat} {d : D} {v : V} (h : VRel K H ι m d v) (e : Ext H H' ι ι' m m') : VRel K H' ι' m' d v := VRel.ext0 e.toExt0 h
theorem VRels.ext {K : PySem.W.Frag} {H H' : Hp} {ι ι' : Nat → Addr} {m m' : Nat} {d : List D} {v : List V} (h : VRels K H ι m d v) (e : Ext H H' ι ι' m m') : VRels K H' ι' m' d v := VRels.ext0 e.toExt0 h
section
variable {K : PySem.W.Frag} {H : Hp} {ι : Nat → Addr} {m : Nat}
theorem VRels.length : ∀ {ds : List D} {vs : List V}, VRels K H ι m ds vs → ds.length = vs.length
  | _, _, .nil => rfl
  | _, _, .cons _ t => by rw [List.length_cons, List.length_cons, t.length]
theorem VRels.get : ∀ {ds : List D} {vs : List V} {i : Nat} {d : D}, VRels K H ι m ds vs → ds[i]? = some d → ∃ v, vs[i]? = some v ∧ VRel K H ι m d v
  | _, _, _, _, .nil, e => by simp at e
  | _, _, 0, _, .cons r _, e => by simp at e; subst e; exact ⟨_, rfl, r⟩
  | _, _, i + 1, d, .cons _ t, e => by
    obtain ⟨v, h1, h2⟩ := t.get (i := i) (d := d) (by simpa using e)
    exact ⟨v, by simpa using h1, h2⟩
theorem VRels.append : ∀ {ds es : List D} {vs ws : List V}, VRels K H ι m ds vs → VRels K H ι m es ws → VRels K H ι m (ds ++ es) (vs ++ ws)
  | _, _, _, _, .nil, s => s
  | _, _, _, _, .cons r t, s => .cons r (t.append s)
theorem VRels.set : ∀ {ds : List D} {vs : List V} {d : D} {v : V} (i : Nat), VRels K H ι m ds vs → VRel K H ι m d v → VRels K H ι m (ds.set i d) (vs.set i v)
  | _, _, _, _, _, .nil, _ => .nil
  | _, _, _, _, 0, .cons _ t, r => .cons r t
  | _, _, _, _, i + 1, .cons q t, r => .cons q (t.set i r)
theorem VRels.take : ∀ {ds : List D} {vs : List V} (n : Nat), VRels K H ι m ds vs → VRels K H ι m (ds.take n) (vs.take n)
  | _, _, 0, _ => .nil
  | _, _, _ + 1, .nil => .nil
  | _, _, n + 1, .cons r t => .cons r (t.take n)
theorem VRels.drop : ∀ {ds : List D} {vs : List V} (n : Nat), VRels K H ι m ds vs → VRels K H ι m (ds.drop n) (vs.drop n)
  | _, _, 0, h => h
  | _, _, _ + 1, .nil => .nil
  | _, _, n + 1, .cons _ t => t.drop n
theorem VRels.rep {d : D} {v : V} (r : VRel K H ι m d v) : ∀ n, VRels K H ι m (List.replicate n d) (List.replicate n v)
  | 0 => .nil
  | n + 1 => .cons r (VRels.rep r n)
end

def ORel (K : PySem.W.Frag) (H : Hp) (ι : Nat → Addr) (m : Nat) (a : Addr) : O → Prop
  | .lst ds => ∃ xs, H a = some (.lst xs) ∧ VRels K H ι m ds xs
  | .dct => H a = some (.dK [])
structure Sim (K : PySem.W.Frag) (H : Hp) (ι : Nat → Addr) (st : Sto) : Prop where
  inj : ∀ i j, i < st.length → j < st.length → ι i = ι j → i = j
  ob : ∀ n o, st[n]? = some o → ORel K H ι st.length (ι n) o

/-- a new object -/
theorem Sim.laid {K : PySem.W.Frag} {H : Hp} {ι : Nat → Addr} {st : Sto} (S : Sim K H ι st) {p : Addr} (hp : H p = none) {ho : HO} {o : O}
    (hr : ∀ ι', (∀ n, n < st.length → ι' n = ι n) → ι' st.length = p → ORel K (upd H p ho) ι' (st.length + 1) p o) :
    ∃ ι', Ext H (upd H p ho) ι ι' st.length (st.length + 1) ∧ ι' st.length = p ∧ Sim K (upd H p ho) ι' (st ++ [o]) := by
  have hK : ∀ n o, st[n]? = some o → ι n ≠ p := fun n o e => by
    have q := S.ob n o e
    cases o with
    | lst ds => obtain ⟨xs, h1, _⟩ := q; exact ne_of_none h1 hp
    | dct => exact ne_of_none (show H (ι n) = some (.dK []) from q) hp
  have E : Ext H (upd H p ho) ι (fun n => if n = st.length then p else ι n) st.length (st.length + 1) := ⟨⟨Nat.le_succ _, fun n hn => by simp [Nat.ne_of_lt hn], fun b xs e => by rw [upd_ne (ne_of_none e hp)]; exact e, fun b ob u e => by rw [upd_ne (ne_of_none e hp)]; exact e⟩, fun b ob e k => by
    refine ⟨by rw [upd_ne (ne_of_none e hp)]; exact e, fun n hn => ?_⟩
    by_cases hn' : n = st.length
    · rw [if_pos hn']; exact (ne_of_none e hp).symm
    · rw [if_neg hn']; exact k n (by omega)⟩
  refine ⟨fun n => if n = st.length then p else ι n, E, by simp, ?_⟩
  have lt : ∀ {n}, n < st.length → ∃ o, st[n]? = some o := fun {n} hn => ⟨st[n], by simp [hn]⟩
  refine ⟨fun i j hi hj e => ?_, fun n ob e => ?_⟩
  · rw [List.length_append, List.length_singleton] at hi hj
    by_cases hi' : i = st.length
    · by_cases hj' : j = st.length
      · omega
      · have q : p = ι j := by simpa [hi', hj'] using e
        obtain ⟨ob, eo⟩ := lt (show j < st.length by omega)
        exact absurd q.symm (hK j ob eo)
    · by_cases hj' : j = st.length
      · have q : ι i = p := by simpa [hi', hj'] using e
        obtain ⟨ob, eo⟩ := lt (show i < st.length by omega)
        exact absurd q (hK i ob eo)
      · exact S.inj i j (by omega) (by omega) (by simpa [hi', hj'] using e)
  · rw [List.length_append, List.length_singleton]
    by_cases hn : n = st.length
    · subst hn
      rw [List.getElem?_append_right (Nat.le_refl _), Nat.sub_self] at e
      have e' : o = ob := by simpa using e
      subst e'
      have := hr (fun n => if n = st.length then p else ι n) (fun n hn => by simp [Nat.ne_of_lt hn]) (by simp)
      simpa using this
    · have hlt : n < st.length := by
        have := (List.getElem?_eq_some_iff.mp e).1
        rw [List.length_append, List.length_singleton] at this
        omega
      rw [List.getElem?_append_left hlt] at e
      have old := S.ob n ob e
      have hne : ι n ≠ p := hK n ob e
      have hι : (if n = st.length then p else ι n) = ι n := by rw [if_neg hn]
      rw [hι]
      cases ob with
      | lst ds =>
        obtain ⟨xs, h1, h2⟩ := old
        exact ⟨xs, by rw [upd_ne hne]; exact h1, h2.ext E⟩
      | dct =>
        show upd H p ho (ι n) = _
        rw [upd_ne hne]; exact old
/-- a list written -/
theorem Sim.write {K : PySem.W.Frag} {H : Hp} {ι : Nat → Addr} {st : Sto} (S : Sim K H ι st) {n : Nat} {ds es : List D} {ys : List V} (e : st[n]? = some (.lst ds)) (r : VRels K H ι st.length es ys) :
    Ext H (upd H (ι n) (.lst ys)) ι ι st.length st.length ∧ Sim K (upd H (ι n) (.lst ys)) ι (st.set n (.lst es)) := by
  obtain ⟨xs, h1, h2⟩ := S.ob n _ e
  have hn : n < st.length := (List.getElem?_eq_some_iff.mp e).1
  have E : Ext H (upd H (ι n) (.lst ys)) ι ι st.length st.length := by
    refine ⟨⟨Nat.le_refl _, fun _ _ => rfl, fun b zs q => ?_, fun b o u q => ?_⟩, fun b o q k => ⟨by rw [upd_ne (k n hn).symm]; exact q, k⟩⟩
    · rw [upd_ne (ne_of q h1 (by intro z; cases z))]; exact q
    · rw [upd_ne (ne_of q h1 (by intro z; cases z))]; exact q
  refine ⟨E, fun i j hi hj => S.inj i j (by simpa using hi) (by simpa using hj), fun k o q => ?_⟩
  rw [List.length_set]
  by_cases hk : k = n
  · subst hk
    rw [List.getElem?_set_self hn] at q
    cases q
    exact ⟨ys, upd_same, r.ext E⟩
  · rw [List.getElem?_set_ne (Ne.symm hk)] at q
    have hk' : k < st.length := (List.getElem?_eq_some_iff.mp q).1
    have hne : ι k ≠ ι n := fun z => hk (S.inj k n hk' hn z)
    have old := S.ob k o q
    cases o with
    | lst ds' =>
      obtain ⟨zs, g1, g2⟩ := old
      exact ⟨zs, by rw [upd_ne hne]; exact g1, g2.ext E⟩
    | dct =>
      show upd H (ι n) _ (ι k) = _
      rw [upd_ne hne]; exact old
/-- a list that stands apart comes into the store -/
theorem Sim.add {K : PySem.W.Frag} {H : Hp} {ι : Nat → Addr} {st : Sto} (S : Sim K H ι st) {p : Addr} {ys : List V} {ds : List D} (hp : H p = some (.lst ys)) (ap : ∀ n, n < st.length → ι n ≠ p) (r : VRels K H ι st.length ds ys) :
    ∃ ι', (∀ n, n < st.length → ι' n = ι n) ∧ ι' st.length = p ∧ Sim K H ι' (st ++ [.lst ds]) := by
  have up : Ext0 H H ι (fun n => if n = st.length then p else ι n) st.length (st.length + 1) := ⟨Nat.le_succ _, fun n hn => by simp [Nat.ne_of_lt hn], fun _ _ e => e, fun _ _ _ e => e⟩
  refine ⟨fun n => if n = st.length then p else ι n, fun n hn => by simp [Nat.ne_of_lt hn], by simp, ⟨fun i j hi hj e => ?_, fun n ob e => ?_⟩⟩
  · rw [List.length_append, List.length_singleton] at hi hj
    by_cases hi' : i = st.length
    · by_cases hj' : j = st.length
      · omega
      · exact absurd (show ι j = p by simpa [hi', hj'] using e.symm) (ap j (by omega))
    · by_cases hj' : j = st.length
      · exact absurd (show ι i = p by simpa [hi', hj'] using e) (ap i (by omega))
      · exact S.inj i j (by omega) (by omega) (by simpa [hi', hj'] using e)
  · rw [List.length_append, List.length_singleton]
    by_cases hn : n = st.length
    · subst hn
      rw [List.getElem?_append_right (Nat.le_refl _), Nat.sub_self] at e
      have e' : O.lst ds = ob := by simpa using e
      subst e'
      refine ⟨ys, ?_, VRels.ext0 up r⟩
      simpa using hp
    · have hlt : n < st.length := by
        have := (List.getElem?_eq_some_iff.mp e).1
        rw [List.length_append, List.length_singleton] at this
        omega
      rw [List.getElem?_append_left hlt] at e
      have old := S.ob n ob e
      have hι : (if n = st.length then p else ι n) = ι n := by rw [if_neg hn]
      rw [hι]
      cases ob with
      | lst ds' => obtain ⟨xs, h1, h2⟩ := old; exact ⟨xs, h1, VRels.ext0 up h2⟩
      | dct => exact old
end Ev

set_option Elab.async false
set_option linter.all false
set_option maxRecDepth 100000
set_option maxHeartbeats 4000000
namespace Ev
open PySem PySem.Spec PyProof.Rows L2
open PySem.SeqAt

theorem RcAt_V {A : Around} {s : Shared} {y x : V} {u v : Value} (ry : RelV y u) (rx : RelV x v) (fy : flatV y = true) (fx : flatV x = true) : RcAt A s u v (eqV y x) := by
  cases y with
  | non =>
    cases ry
    cases x with
    | non => cases rx; exact RcAt.none_none  
    | bl b => cases rx; exact RcAt.none_bool  b
    | int b => obtain ⟨tb, rfl⟩ := rx; exact RcAt.none_int  b tb
    | str b => obtain ⟨tb, rfl⟩ := rx; exact RcAt.none_str  b tb
    | _ => exact absurd (show false = true from fx) Bool.false_ne_true
  | bl a =>
    cases ry
    cases x with
    | non => cases rx; exact RcAt.bool_none a 
    | bl b => cases rx; exact RcAt.bool_bool a b
    | int b => obtain ⟨tb, rfl⟩ := rx; exact RcAt.bool_int a b tb
    | str b => obtain ⟨tb, rfl⟩ := rx; exact RcAt.bool_str a b tb
    | _ => exact absurd (show false = true from fx) Bool.false_ne_true
  | int a =>
    obtain ⟨ta, rfl⟩ := ry
    cases x with
    | non => cases rx; exact RcAt.int_none a ta 
    | bl b => cases rx; exact RcAt.int_bool a ta b
    | int b => obtain ⟨tb, rfl⟩ := rx; exact RcAt.int_int a ta b tb
    | str b => obtain ⟨tb, rfl⟩ := rx; exact RcAt.int_str a ta b tb
    | _ => exact absurd (show false = true from fx) Bool.false_ne_true
  | str a =>
    obtain ⟨ta, rfl⟩ := ry
    cases x with
    | non => cases rx; exact RcAt.str_none a ta 
    | bl b => cases rx; exact RcAt.str_bool a ta b
    | int b => obtain ⟨tb, rfl⟩ := rx; exact RcAt.str_int a ta b tb
    | str b => obtain ⟨tb, rfl⟩ := rx; exact RcAt.str_str a ta b tb
    | _ => exact absurd (show false = true from fx) Bool.false_ne_true
  | _ => exact absurd (show false = true from fy) Bool.false_ne_true
theorem RcNeAt_V {A : Around} {s : Shared} {y x : V} {u v : Value} (ry : RelV y u) (rx : RelV x v) (fy : flatV y = true) (fx : flatV x = true) : RcNeAt A s u v (!eqV y x) := by
  cases y with
  | non =>
    cases ry
    cases x with
    | non => cases rx; exact RcNeAt.none_none  
    | bl b => cases rx; exact RcNeAt.none_bool  b
    | int b => obtain ⟨tb, rfl⟩ := rx; exact RcNeAt.none_int  b tb
    | str b => obtain ⟨tb, rfl⟩ := rx; exact RcNeAt.none_str  b tb
    | _ => exact absurd (show false = true from fx) Bool.false_ne_true
  | bl a =>
    cases ry
    cases x with
    | non => cases rx; exact RcNeAt.bool_none a 
    | bl b => cases rx; exact RcNeAt.bool_bool a b
    | int b => obtain ⟨tb, rfl⟩ := rx; exact RcNeAt.bool_int a b tb
    | str b => obtain ⟨tb, rfl⟩ := rx; exact RcNeAt.bool_str a b tb
    | _ => exact absurd (show false = true from fx) Bool.false_ne_true
  | int a =>
    obtain ⟨ta, rfl⟩ := ry
    cases x with
    | non => cases rx; exact RcNeAt.int_none a ta 
    | bl b => cases rx; exact RcNeAt.int_bool a ta b
    | int b => obtain ⟨tb, rfl⟩ := rx; exact RcNeAt.int_int a ta b tb
    | str b => obtain ⟨tb, rfl⟩ := rx; exact RcNeAt.int_str a ta b tb
    | _ => exact absurd (show false = true from fx) Bool.false_ne_true
  | str a =>
    obtain ⟨ta, rfl⟩ := ry
    cases x with
    | non => cases rx; exact RcNeAt.str_none a ta 
    | bl b => cases rx; exact RcNeAt.str_bool a ta b
    | int b => obtain ⟨tb, rfl⟩ := rx; exact RcNeAt.str_int a ta b tb
    | str b => obtain ⟨tb, rfl⟩ := rx; exact RcNeAt.str_str a ta b tb
    | _ => exact absurd (show false = true from fx) Bool.false_ne_true
  | _ => exact absurd (show false = true from fy) Bool.false_ne_true
theorem RcAt_listV {A : Around} {s : Shared} {l : Addr} {items : Array Value} (hl : s.heap.IsList l items) (hu : A.units < cLine) {x : V} {v : Value} (rx : RelV x v) (fx : flatV x = true) : RcAt A s (.ref l) v false := by
  cases x with
  | non => cases rx; exact RcAt.list_none  hl hu
  | bl b => cases rx; exact RcAt.list_bool b hl hu
  | int b => obtain ⟨tb, rfl⟩ := rx; exact RcAt.list_int b tb hl hu
  | str b => obtain ⟨tb, rfl⟩ := rx; exact RcAt.list_str b tb hl hu
  | _ => exact absurd (show false = true from fx) Bool.false_ne_true
theorem RcAt_Vlist {A : Around} {s : Shared} {l : Addr} {items : Array Value} (hl : s.heap.IsList l items) (hu : A.units < cLine) {x : V} {v : Value} (rx : RelV x v) (fx : flatV x = true) : RcAt A s v (.ref l) false := by
  cases x with
  | non => cases rx; exact RcAt.none_list  hl hu
  | bl b => cases rx; exact RcAt.bool_list b hl hu
  | int b => obtain ⟨tb, rfl⟩ := rx; exact RcAt.int_list b tb hl hu
  | str b => obtain ⟨tb, rfl⟩ := rx; exact RcAt.str_list b tb hl hu
  | _ => exact absurd (show false = true from fx) Bool.false_ne_true
theorem RcNeAt_listV {A : Around} {s : Shared} {l : Addr} {items : Array Value} (hl : s.heap.IsList l items) (hu : A.units < cLine) {x : V} {v : Value} (rx : RelV x v) (fx : flatV x = true) : RcNeAt A s (.ref l) v true := by
  cases x with
  | non => cases rx; exact RcNeAt.list_none  hl hu
  | bl b => cases rx; exact RcNeAt.list_bool b hl hu
  | int b => obtain ⟨tb, rfl⟩ := rx; exact RcNeAt.list_int b tb hl hu
  | str b => obtain ⟨tb, rfl⟩ := rx; exact RcNeAt.list_str b tb hl hu
  | _ => exact absurd (show false = true from fx) Bool.false_ne_true
theorem RcNeAt_Vlist {A : Around} {s : Shared} {l : Addr} {items : Array Value} (hl : s.heap.IsList l items) (hu : A.units < cLine) {x : V} {v : Value} (rx : RelV x v) (fx : flatV x = true) : RcNeAt A s v (.ref l) true := by
  cases x with
  | non => cases rx; exact RcNeAt.none_list  hl hu
  | bl b => cases rx; exact RcNeAt.bool_list b hl hu
  | int b => obtain ⟨tb, rfl⟩ := rx; exact RcNeAt.int_list b tb hl hu
  | str b => obtain ⟨tb, rfl⟩ := rx; exact RcNeAt.str_list b tb hl hu
  | _ => exact absurd (show false = true from fx) Bool.false_ne_true
theorem RcAt_tupleV {A : Around} {s : Shared} {l : Addr} {items : Array Value} (hl : s.heap.IsTuple l items) (hu : A.units < cLine) {x : V} {v : Value} (rx : RelV x v) (fx : flatV x = true) : RcAt A s (.ref l) v false := by
  cases x with
  | non => cases rx; exact RcAt.tuple_none  hl hu
  | bl b => cases rx; exact RcAt.tuple_bool b hl hu
  | int b => obtain ⟨tb, rfl⟩ := rx; exact RcAt.tuple_int b tb hl hu
  | str b => obtain ⟨tb, rfl⟩ := rx; exact RcAt.tuple_str b tb hl hu
  | _ => exact absurd (show false = true from fx) Bool.false_ne_true
theorem RcAt_Vtuple {A : Around} {s : Shared} {l : Addr} {items : Array Value} (hl : s.heap.IsTuple l items) (hu : A.units < cLine) {x : V} {v : Value} (rx : RelV x v) (fx : flatV x = true) : RcAt A s v (.ref l) false := by
  cases x with
  | non => cases rx; exact RcAt.none_tuple  hl hu
  | bl b => cases rx; exact RcAt.bool_tuple b hl hu
  | int b => obtain ⟨tb, rfl⟩ := rx; exact RcAt.int_tuple b tb hl hu
  | str b => obtain ⟨tb, rfl⟩ := rx; exact RcAt.str_tuple b tb hl hu
  | _ => exact absurd (show false = true from fx) Bool.false_ne_true
theorem RcNeAt_tupleV {A : Around} {s : Shared} {l : Addr} {items : Array Value} (hl : s.heap.IsTuple l items) (hu : A.units < cLine) {x : V} {v : Value} (rx : RelV x v) (fx : flatV x = true) : RcNeAt A s (.ref l) v true := by
  cases x with
  | non => cases rx; exact RcNeAt.tuple_none  hl hu
  | bl b => cases rx; exact RcNeAt.tuple_bool b hl hu
  | int b => obtain ⟨tb, rfl⟩ := rx; exact RcNeAt.tuple_int b tb hl hu
  | str b => obtain ⟨tb, rfl⟩ := rx; exact RcNeAt.tuple_str b tb hl hu
  | _ => exact absurd (show false = true from fx) Bool.false_ne_true
theorem RcNeAt_Vtuple {A : Around} {s : Shared} {l : Addr} {items : Array Value} (hl : s.heap.IsTuple l items) (hu : A.units < cLine) {x : V} {v : Value} (rx : RelV x v) (fx : flatV x = true) : RcNeAt A s v (.ref l) true := by
  cases x with
  | non => cases rx; exact RcNeAt.none_tuple  hl hu
  | bl b => cases rx; exact RcNeAt.bool_tuple b hl hu
  | int b => obtain ⟨tb, rfl⟩ := rx; exact RcNeAt.int_tuple b tb hl hu
  | str b => obtain ⟨tb, rfl⟩ := rx; exact RcNeAt.str_tuple b tb hl hu
  | _ => exact absurd (show false = true from fx) Bool.false_ne_true
theorem RcAt_dictV {A : Around} {s : Shared} {l : Addr} (hl : IsDct s.heap l) (hu : A.units < cLine) {x : V} {v : Value} (rx : RelV x v) (fx : flatV x = true) : RcAt A s (.ref l) v false := by
  cases x with
  | non => cases rx; exact RcAt.dict_none  hl hu
  | bl b => cases rx; exact RcAt.dict_bool b hl hu
  | int b => obtain ⟨tb, rfl⟩ := rx; exact RcAt.dict_int b tb hl hu
  | str b => obtain ⟨tb, rfl⟩ := rx; exact RcAt.dict_str b tb hl hu
  | _ => exact absurd (show false = true from fx) Bool.false_ne_true
theorem RcAt_Vdict {A : Around} {s : Shared} {l : Addr} (hl : IsDct s.heap l) (hu : A.units < cLine) {x : V} {v : Value} (rx : RelV x v) (fx : flatV x = true) : RcAt A s v (.ref l) false := by
  cases x with
  | non => cases rx; exact RcAt.none_dict  hl hu
  | bl b => cases rx; exact RcAt.bool_dict b hl hu
  | int b => obtain ⟨tb, rfl⟩ := rx; exact RcAt.int_dict b tb hl hu
  | str b => obtain ⟨tb, rfl⟩ := rx; exact RcAt.str_dict b tb hl hu
  | _ => exact absurd (show false = true from fx) Bool.false_ne_true
theorem RcNeAt_dictV {A : Around} {s : Shared} {l : Addr} (hl : IsDct s.heap l) (hu : A.units < cLine) {x : V} {v : Value} (rx : RelV x v) (fx : flatV x = true) : RcNeAt A s (.ref l) v true := by
  cases x with
  | non => cases rx; exact RcNeAt.dict_none  hl hu
  | bl b => cases rx; exact RcNeAt.dict_bool b hl hu
  | int b => obtain ⟨tb, rfl⟩ := rx; exact RcNeAt.dict_int b tb hl hu
  | str b => obtain ⟨tb, rfl⟩ := rx; exact RcNeAt.dict_str b tb hl hu
  | _ => exact absurd (show false = true from fx) Bool.false_ne_true
theorem RcNeAt_Vdict {A : Around} {s : Shared} {l : Addr} (hl : IsDct s.heap l) (hu : A.units < cLine) {x : V} {v : Value} (rx : RelV x v) (fx : flatV x = true) : RcNeAt A s v (.ref l) true := by
  cases x with
  | non => cases rx; exact RcNeAt.none_dict  hl hu
  | bl b => cases rx; exact RcNeAt.bool_dict b hl hu
  | int b => obtain ⟨tb, rfl⟩ := rx; exact RcNeAt.int_dict b tb hl hu
  | str b => obtain ⟨tb, rfl⟩ := rx; exact RcNeAt.str_dict b tb hl hu
  | _ => exact absurd (show false = true from fx) Bool.false_ne_true

theorem EqAt_refL {A : Around} {s : Shared} {l : Addr} {b : Value} {k : Bool} (hne : (Value.ref l == b) = false) (h : RcAt A s (.ref l) b k) : EqAt A s (.ref l) b k := fun prog w E Q hq => by
  unfold eqBool
  refine wpAny_holding ?_
  refine wpAny_ite_split (fun hab => absurd hab (by rw [hne]; exact Bool.false_ne_true)) (fun _ => ?_)
  exact wpAny_bind (h prog w E _ (wpAny_truthy_bool hq))
theorem EqAt_refR {A : Around} {s : Shared} {l : Addr} {a : Value} {k : Bool} (hne : (a == Value.ref l) = false) (h : RcAt A s a (.ref l) k) : EqAt A s a (.ref l) k := fun prog w E Q hq => by
  unfold eqBool
  refine wpAny_holding ?_
  refine wpAny_ite_split (fun hab => absurd hab (by rw [hne]; exact Bool.false_ne_true)) (fun _ => ?_)
  cases a <;> exact wpAny_bind (h prog w E _ (wpAny_truthy_bool hq))

/-- a datum at a value -/
def At (K : PySem.W.Frag) (H : Hp) (ι : Nat → Addr) (m : Nat) (d : D) (u : Value) : Prop := ∃ v, VRel K H ι m d v ∧ RelV v u
def Ats (K : PySem.W.Frag) (H : Hp) (ι : Nat → Addr) (m : Nat) (ds : List D) (us : List Value) : Prop := ∃ vs, VRels K H ι m ds vs ∧ Vals vs us
theorem Ats.length {K : PySem.W.Frag} {H : Hp} {ι : Nat → Addr} {m : Nat} {ds : List D} {us : List Value} (h : Ats K H ι m ds us) : ds.length = us.length := by
  obtain ⟨vs, a, b⟩ := h
  rw [a.length, b.length]
inductive ShAt (K : PySem.W.Frag) (H : Hp) (ι : Nat → Addr) (m : Nat) (s : Shared) : Sh → Value → Prop where
  | sc {v : V} {u : Value} (f : flatV v = true) (r : RelV v u) : ShAt K H ι m s (.sc v) u
  | t {a : Addr} {xs : List D} {its : Array Value} (h : s.heap.IsTuple a its) (r : Ats K H ι m xs its.toList) : ShAt K H ι m s (.t xs) (.ref a)
  | l {a : Addr} {xs : List D} {its : Array Value} (h : s.heap.IsList a its) (r : Ats K H ι m xs its.toList) : ShAt K H ι m s (.l xs) (.ref a)
  | d {a : Addr} (h : IsDct s.heap a) : ShAt K H ι m s .d (.ref a)
theorem shape_at {X : Cx} {pins : List (Addr × Obj)} {σ : L2.St} {H : Hp} {s : Shared} {ι : Nat → Addr} {st : Sto} {d : D} {u : Value} {sh : Sh} (I : Inv X pins σ H s) (S : Sim X.K H ι st) (h : At X.K H ι st.length d u) (e : shape st d = some sh) :
    ShAt X.K H ι st.length s sh u := by
  obtain ⟨v, hv, r⟩ := h
  cases hv with
  | non => cases e; exact .sc rfl r
  | bl b => cases e; exact .sc rfl r
  | int i => cases e; exact .sc rfl r
  | str x => cases e; exact .sc rfl r
  | tup h hr =>
    cases e; cases r
    obtain ⟨its, rv, p, _⟩ := I.tuple h
    exact .t p ⟨_, hr, by simpa using rv⟩
  | fl h hr =>
    cases e; cases r
    obtain ⟨its, rv, p, _⟩ := I.list h.sql
    exact .l p.isList ⟨_, hr, by simpa using rv⟩
  | @ref n hn =>
    cases r
    simp only [shape] at e
    cases q : st[n]? with
    | none => rw [q] at e; cases e
    | some o =>
      rw [q] at e
      have ho := S.ob n o q
      cases o with
      | lst xs =>
        cases e
        obtain ⟨vs, h1, h2⟩ := ho
        obtain ⟨its, rv, p, _⟩ := I.list (SqL.of h1)
        exact .l p.isList ⟨_, h2, by simpa using rv⟩
      | dct =>
        cases e
        obtain ⟨hz, hS, vs, rv, o, es, ep, h1, h2, h3, _⟩ := (show ObjOk X.prog X.w H s.heap (ι n) (.dK []) from I.hok _ _ ho)
        obtain ⟨c1, c2, c3⟩ := h2
        refine .d ⟨es, ep, ?_⟩
        rw [h1]
        obtain ⟨cls, dd, data, sl⟩ := o
        simp only at c1 c2 c3 h3
        subst c1 c2 c3 h3
        rfl

theorem all_cons {e : Nat → Bool} {x : Bool} {n : Nat} : (List.range (n + 1)).all (fun j => match j with | 0 => x | j + 1 => e j) = (x && (List.range n).all e) := by
  rw [List.range_succ_eq_map, List.all_cons, List.all_map]
  rfl

/-! ### what stands at an address is one datum -/
theorem known_free {X : Cx} {pins : List (Addr × Obj)} {σ : L2.St} {H : Hp} {s : Shared} {a : Addr} {o : Obj} (I : Inv X pins σ H s) (h : X.K.lookup a = some o) : H a = none := (I.bs a o (I.ok.mod.kin a o h)).2
theorem seq_ne {X : Cx} {pins : List (Addr × Obj)} {σ : L2.St} {H : Hp} {s : Shared} {a : Addr} {xs ys : List V} (I : Inv X pins σ H s) (h : SqT X.K H a xs) (h' : SqL X.K H a ys) : False := by
  obtain ⟨_, _, p, _⟩ := I.tuple h
  obtain ⟨_, _, q, _⟩ := I.list h'
  exact ne_of_list_tuple q.isList p rfl
theorem tup_obj {X : Cx} {pins : List (Addr × Obj)} {σ : L2.St} {H : Hp} {s : Shared} {a : Addr} {xs : List V} (I : Inv X pins σ H s) (h : SqT X.K H a xs) : (∃ zs, H a = some (.tup zs)) ∨ (∃ o u, H a = some (.frz o u)) ∨ H a = none := by
  rcases h with (h | ⟨o, h⟩) | ⟨o, _, _, h, _⟩
  · exact .inl ⟨_, h⟩
  · exact .inr (.inl ⟨_, _, h⟩)
  · exact .inr (.inr (known_free I h))
theorem fl_obj {X : Cx} {pins : List (Addr × Obj)} {σ : L2.St} {H : Hp} {s : Shared} {a : Addr} {xs : List V} (I : Inv X pins σ H s) (h : SqF X.K H a xs) : (∃ o u, H a = some (.frz o u)) ∨ H a = none := by
  rcases h with ⟨o, h⟩ | ⟨o, _, _, h, _⟩
  · exact .inl ⟨_, _, h⟩
  · exact .inr (known_free I h)
theorem Sim.obj {K : PySem.W.Frag} {H : Hp} {ι : Nat → Addr} {st : Sto} (S : Sim K H ι st) {n : Nat} (h : n < st.length) : (∃ xs, H (ι n) = some (.lst xs)) ∨ ∃ kvs, H (ι n) = some (.dK kvs) := by
  have e : st[n]? = some st[n] := by simp [h]
  have q := S.ob n _ e
  cases ho : st[n] with
  | lst ds => rw [ho] at q; obtain ⟨xs, h1, _⟩ := q; exact .inl ⟨xs, h1⟩
  | dct => rw [ho] at q; exact .inr ⟨[], q⟩
mutual
theorem VRel.uniq {X : Cx} {pins : List (Addr × Obj)} {σ : L2.St} {H : Hp} {s : Shared} {ι : Nat → Addr} {st : Sto} (I : Inv X pins σ H s) (S : Sim X.K H ι st) : ∀ {d d' : D} {v : V}, VRel X.K H ι st.length d v → VRel X.K H ι st.length d' v → d = d'
  | _, _, _, .non, h => by cases h; rfl
  | _, _, _, .bl b, h => by cases h; rfl
  | _, _, _, .int i, h => by cases h; rfl
  | _, _, _, .str x, h => by cases h; rfl
  | _, _, _, .tup h r, h' => by
    cases h' with
    | tup q r' => rw [I.tuple_inj h q] at r; rw [VRels.uniq I S r r']
    | fl q _ => exact (seq_ne I h q.sql).elim
    | ref q =>
      rcases tup_obj I h with ⟨_, e⟩ | ⟨_, _, e⟩ | e <;> rcases S.obj q with ⟨_, e'⟩ | ⟨_, e'⟩ <;> rw [e] at e' <;> cases e'
  | _, _, _, .fl h r, h' => by
    cases h' with
    | tup q _ => exact (seq_ne I q h.sql).elim
    | fl q r' => rw [I.list_inj h.sql q.sql] at r; rw [VRels.uniq I S r r']
    | ref q =>
      rcases fl_obj I h with ⟨_, _, e⟩ | e <;> rcases S.obj q with ⟨_, e'⟩ | ⟨_, e'⟩ <;> rw [e] at e' <;> cases e'
  | _, _, _, .ref (n := n) q, h' => by
    generalize hz : V.ref (ι n) = z at h'
    cases h' with
    | tup h _ =>
      injection hz with hz
      rw [← hz] at h
      rcases tup_obj I h with ⟨_, e⟩ | ⟨_, _, e⟩ | e <;> rcases S.obj q with ⟨_, e'⟩ | ⟨_, e'⟩ <;> rw [e] at e' <;> cases e'
    | fl h _ =>
      injection hz with hz
      rw [← hz] at h
      rcases fl_obj I h with ⟨_, _, e⟩ | e <;> rcases S.obj q with ⟨_, e'⟩ | ⟨_, e'⟩ <;> rw [e] at e' <;> cases e'
    | ref q' => injection hz with hz; rw [S.inj _ _ q q' hz]
    | _ => cases hz
theorem VRels.uniq {X : Cx} {pins : List (Addr × Obj)} {σ : L2.St} {H : Hp} {s : Shared} {ι : Nat → Addr} {st : Sto} (I : Inv X pins σ H s) (S : Sim X.K H ι st) : ∀ {ds ds' : List D} {vs : List V}, VRels X.K H ι st.length ds vs → VRels X.K H ι st.length ds' vs → ds = ds'
  | _, _, _, .nil, h => by cases h; rfl
  | _, _, _, .cons r t, h => by
    cases h with
    | cons r' t' => rw [VRel.uniq I S r r', VRels.uniq I S t t']
end
theorem At.uniq {X : Cx} {pins : List (Addr × Obj)} {σ : L2.St} {H : Hp} {s : Shared} {ι : Nat → Addr} {st : Sto} {a b : D} {u : Value} (I : Inv X pins σ H s) (S : Sim X.K H ι st) (ha : At X.K H ι st.length a u) (hb : At X.K H ι st.length b u) : a = b := by
  obtain ⟨v, h1, r1⟩ := ha
  obtain ⟨w, h2, r2⟩ := hb
  rw [r1.inj r2] at h1
  exact h1.uniq I S h2
theorem eqV_refl {v : V} (h : flatV v = true) : eqV v v = true := by cases v <;> simp_all [eqV, flatV]
theorem shape_flat {st : Sto} {d : D} {v : V} (h : shape st d = some (.sc v)) : flatV v = true := by
  cases d with
  | ref n => simp only [shape] at h; split at h <;> cases h
  | _ => cases h <;> rfl
mutual
theorem eqD_refl {st : Sto} : ∀ (n : Nat) {a : D} {k : Bool}, eqD n st a a = some k → k = true
  | 0, _, _, e => by unfold eqD at e; cases e
  | n + 1, a, k, e => by
    unfold eqD at e
    cases ea : shape st a with
    | none => rw [ea] at e; simp at e
    | some sa =>
      rw [ea] at e
      cases sa with
      | sc v => have e' : eqV v v = k := Option.some.inj e; rw [← e', eqV_refl (shape_flat ea)]
      | t xs => exact eqs_refl n e
      | l xs => exact eqs_refl n e
      | d => cases e
theorem eqs_refl {st : Sto} : ∀ (n : Nat) {xs : List D} {k : Bool}, eqs n st xs xs = some k → k = true
  | 0, _, _, e => by unfold eqs at e; cases e
  | n + 1, xs, k, e => by
    unfold eqs at e
    cases xs with
    | nil => exact (Option.some.inj e).symm
    | cons x xs =>
      simp only at e
      cases e1 : eqD n st x x with
      | none => rw [e1] at e; simp at e
      | some p =>
        cases e2 : eqs n st xs xs with
        | none => rw [e1, e2] at e; simp at e
        | some q =>
          rw [e1, e2] at e
          have e' : (p && q) = k := Option.some.inj e
          rw [← e', eqD_refl n e1, eqs_refl n e2]; rfl
end
theorem flat_ne {A : Around} {s : Shared} {y : V} {u : Value} {l : Addr} (ry : RelV y u) (fy : flatV y = true) : (u == Value.ref l) = false := by
  cases y with
  | non => cases ry; rfl
  | bl b => cases ry; rfl
  | int i => obtain ⟨t, rfl⟩ := ry; rfl
  | str i => obtain ⟨t, rfl⟩ := ry; rfl
  | _ => cases fy
theorem ne_flat {A : Around} {s : Shared} {y : V} {u : Value} {l : Addr} (ry : RelV y u) (fy : flatV y = true) : (Value.ref l == u) = false := by
  cases y with
  | non => cases ry; rfl
  | bl b => cases ry; rfl
  | int i => obtain ⟨t, rfl⟩ := ry; rfl
  | str i => obtain ⟨t, rfl⟩ := ry; rfl
  | _ => cases fy
mutual
theorem eqAt_D {X : Cx} {pins : List (Addr × Obj)} {σ : L2.St} {H : Hp} {s : Shared} {ι : Nat → Addr} {st : Sto} (I : Inv X pins σ H s) (S : Sim X.K H ι st) : ∀ (n : Nat) {a b : D} {u v : Value} {A : Around} {k : Bool}, eqD n st a b = some k → At X.K H ι st.length a u → At X.K H ι st.length b v → A.units + n < cLine →
    RcAt A s u v k ∧ RcNeAt A s u v (!k) ∧ EqAt A s u v k
  | 0, _, _, _, _, _, _, e, _, _, _ => by unfold eqD at e; cases e
  | n + 1, a, b, u, v, A, k, e, pa, pb, hu => by
    have hu0 : A.units < cLine := by omega
    have hu1 : A.in1.units + n < cLine := by show A.units + 1 + n < cLine; omega
    have e0 := e
    unfold eqD at e
    cases ea : shape st a with
    | none => rw [ea] at e; simp at e
    | some sa =>
      cases eb : shape st b with
      | none => rw [ea, eb] at e; simp at e
      | some sb =>
        rw [ea, eb] at e
        have ua := shape_at I S pa ea
        have ub := shape_at I S pb eb
        have refs : ∀ {l l' : Addr}, u = .ref l → v = .ref l' → RcAt A s u v k → RcNeAt A s u v (!k) → RcAt A s u v k ∧ RcNeAt A s u v (!k) ∧ EqAt A s u v k := fun {l l'} h1 h2 h3 h4 => by
          refine ⟨h3, h4, ?_⟩
          by_cases hl : l = l'
          · have huv : u = v := by rw [h1, h2, hl]
            subst huv
            have := pa.uniq I S pb
            subst this
            rw [eqD_refl _ e0]
            exact EqAt.same _
          · subst h1 h2
            exact EqAt.of_refs hl h3
        have seqs : ∀ {xs ys : List D} {us vs : List Value}, eqs n st xs ys = some k → Ats X.K H ι st.length xs us → Ats X.K H ι st.length ys vs →
            ∃ e : Nat → Bool, (∀ j (h1 : j < us.length) (h2 : j < vs.length), EqAt A.in1 s us[j] vs[j] (e j)) ∧ k = ((List.range (min us.length vs.length)).all e && us.length == vs.length) := fun q ra rb => eqAt_Ds I S n q ra rb hu1
        cases ua with
        | sc fa ra =>
          cases ub with
          | sc fb rb => cases e; exact ⟨RcAt_V ra rb fa fb, RcNeAt_V ra rb fa fb, eqAt_V ra rb fa fb⟩
          | t hb _ => cases e; exact ⟨RcAt_Vtuple hb hu0 ra fa, RcNeAt_Vtuple hb hu0 ra fa, EqAt_refR (flat_ne (A := A) (s := s) ra fa) (RcAt_Vtuple hb hu0 ra fa)⟩
          | l hb _ => cases e; exact ⟨RcAt_Vlist hb hu0 ra fa, RcNeAt_Vlist hb hu0 ra fa, EqAt_refR (flat_ne (A := A) (s := s) ra fa) (RcAt_Vlist hb hu0 ra fa)⟩
          | d hb => cases e; exact ⟨RcAt_Vdict hb hu0 ra fa, RcNeAt_Vdict hb hu0 ra fa, EqAt_refR (flat_ne (A := A) (s := s) ra fa) (RcAt_Vdict hb hu0 ra fa)⟩
        | @t a1 xs its ha ra =>
          cases ub with
          | sc fb rb => cases e; exact ⟨RcAt_tupleV ha hu0 rb fb, RcNeAt_tupleV ha hu0 rb fb, EqAt_refL (ne_flat (A := A) (s := s) rb fb) (RcAt_tupleV ha hu0 rb fb)⟩
          | @t b1 ys its2 hb rb =>
            obtain ⟨f, hf, hk⟩ := seqs e ra rb
            have hf' : ∀ j (h1 : j < its.size) (h2 : j < its2.size), EqAt A.in1 s its[j] its2[j] (f j) := fun j h1 h2 => by
              have q := hf j (by simpa using h1) (by simpa using h2)
              rw [Array.getElem_toList, Array.getElem_toList] at q
              exact q
            have q1 := RcAt.tuples ha hb hu0 hf'
            have q2 := RcNeAt.tuples ha hb hu0 hf'
            have ek : ((List.range (min its.size its2.size)).all f && its.size == its2.size) = k := by rw [hk]; simp
            rw [ek] at q1 q2
            exact refs rfl rfl q1 q2
          | l hb _ => cases e; exact refs rfl rfl (RcAt.tuple_list ha hb hu0) (RcNeAt.tuple_list ha hb hu0)
          | d hb => cases e; exact refs rfl rfl (RcAt.tuple_dict ha hb hu0) (RcNeAt.tuple_dict ha hb hu0)
        | @l a1 xs its ha ra =>
          cases ub with
          | sc fb rb => cases e; exact ⟨RcAt_listV ha hu0 rb fb, RcNeAt_listV ha hu0 rb fb, EqAt_refL (ne_flat (A := A) (s := s) rb fb) (RcAt_listV ha hu0 rb fb)⟩
          | t hb _ => cases e; exact refs rfl rfl (RcAt.list_tuple ha hb hu0) (RcNeAt.list_tuple ha hb hu0)
          | @l b1 ys its2 hb rb =>
            obtain ⟨f, hf, hk⟩ := seqs e ra rb
            have hf' : ∀ j (h1 : j < its.size) (h2 : j < its2.size), EqAt A.in1 s its[j] its2[j] (f j) := fun j h1 h2 => by
              have q := hf j (by simpa using h1) (by simpa using h2)
              rw [Array.getElem_toList, Array.getElem_toList] at q
              exact q
            by_cases hsz : its.size = its2.size
            · have q1 := RcAt.lists ha hb hsz hu0 hf'
              have q2 := RcNeAt.lists ha hb hsz hu0 hf'
              have ek : (List.range its.size).all f = k := by rw [hk]; simp [hsz]
              rw [ek] at q1 q2
              exact refs rfl rfl q1 q2
            · have ek : k = false := by rw [hk]; simp [hsz]
              subst ek
              exact refs rfl rfl (RcAt.lists_lengths ha hb (by simpa using hsz) hu0) (RcNeAt.lists_lengths ha hb (by simpa using hsz) hu0)
          | d hb => cases e; exact refs rfl rfl (RcAt.list_dict ha hb hu0) (RcNeAt.list_dict ha hb hu0)
        | d ha =>
          cases ub with
          | sc fb rb => cases e; exact ⟨RcAt_dictV ha hu0 rb fb, RcNeAt_dictV ha hu0 rb fb, EqAt_refL (ne_flat (A := A) (s := s) rb fb) (RcAt_dictV ha hu0 rb fb)⟩
          | t hb _ => cases e; exact refs rfl rfl (RcAt.dict_tuple ha hb hu0) (RcNeAt.dict_tuple ha hb hu0)
          | l hb _ => cases e; exact refs rfl rfl (RcAt.dict_list ha hb hu0) (RcNeAt.dict_list ha hb hu0)
          | d hb => cases e
theorem eqAt_Ds {X : Cx} {pins : List (Addr × Obj)} {σ : L2.St} {H : Hp} {s : Shared} {ι : Nat → Addr} {st : Sto} (I : Inv X pins σ H s) (S : Sim X.K H ι st) : ∀ (n : Nat) {xs ys : List D} {us vs : List Value} {A : Around} {k : Bool}, eqs n st xs ys = some k → Ats X.K H ι st.length xs us → Ats X.K H ι st.length ys vs → A.units + n < cLine →
    ∃ e : Nat → Bool, (∀ j (h1 : j < us.length) (h2 : j < vs.length), EqAt A s us[j] vs[j] (e j)) ∧ k = ((List.range (min us.length vs.length)).all e && us.length == vs.length)
  | 0, _, _, _, _, _, _, e, _, _, _ => by unfold eqs at e; cases e
  | n + 1, xs, ys, us, vs, A, k, e, ha, hb, hu => by
    have la := ha.length
    have lb := hb.length
    unfold eqs at e
    cases xs with
    | nil =>
      cases us with
      | cons _ _ => simp at la
      | nil =>
        refine ⟨fun _ => true, fun j h1 _ => absurd h1 (Nat.not_lt_zero _), ?_⟩
        cases ys with
        | nil =>
          cases vs with
          | cons _ _ => simp at lb
          | nil => rw [← Option.some.inj e]; rfl
        | cons y ys =>
          cases vs with
          | nil => simp at lb
          | cons _ _ => rw [← Option.some.inj e]; simp
    | cons x xs =>
      cases us with
      | nil => simp at la
      | cons u us =>
        cases ys with
        | nil =>
          cases vs with
          | cons _ _ => simp at lb
          | nil => exact ⟨fun _ => true, fun j _ h2 => absurd h2 (Nat.not_lt_zero _), by rw [← Option.some.inj e]; simp⟩
        | cons y ys =>
          cases vs with
          | nil => simp at lb
          | cons v vs =>
            obtain ⟨_, r1, q1⟩ := ha
            obtain ⟨_, r2, q2⟩ := hb
            cases q1 with
            | cons w1 w2 =>
              cases q2 with
              | cons z1 z2 =>
                cases r1 with
                | cons m1 m2 =>
                  cases r2 with
                  | cons n1 n2 =>
                    simp only at e
                    cases e1 : eqD n st x y with
                    | none => rw [e1] at e; simp at e
                    | some p =>
                      cases e2 : eqs n st xs ys with
                      | none => rw [e1, e2] at e; simp at e
                      | some q =>
                        rw [e1, e2] at e
                        obtain ⟨_, _, hE⟩ := eqAt_D I S n (A := A) e1 ⟨_, m1, w1⟩ ⟨_, n1, z1⟩ (by omega)
                        obtain ⟨f, hf, hk⟩ := eqAt_Ds I S n (A := A) e2 ⟨_, m2, w2⟩ ⟨_, n2, z2⟩ (by omega)
                        refine ⟨fun j => match j with | 0 => p | j + 1 => f j, fun j h1 h2 => ?_, ?_⟩
                        · cases j with
                          | zero => exact hE
                          | succ j => exact hf j (by simpa using h1) (by simpa using h2)
                        · have e3 : min (u :: us).length (v :: vs).length = min us.length vs.length + 1 := by simp only [List.length_cons]; omega
                          have e4 : ((u :: us).length == (v :: vs).length) = (us.length == vs.length) := by simp
                          rw [e3, e4, all_cons, ← Option.some.inj e, hk, Bool.and_assoc]
end
end Ev

set_option Elab.async false
set_option linter.all false
set_option maxRecDepth 100000
set_option maxHeartbeats 4000000
/-! THE SMALL LANGUAGE: what a def's body is turned into, and how it runs over the store -/
namespace Ev
open PySem PySem.Spec PyProof.Rows L2

abbrev Loc := List (Option D)
inductive Bo where
  | add | sub | mul | fdiv | mod | pow
inductive Bt where
  | len | list | tuple | int | abs | all | max | min
inductive Ty where
  | int | bool | str | list | tuple | dict
inductive Ex where
  | c (d : D) | v (i : Nat) | tup (es : List Ex) | lst (es : List Ex) | emp
  | bin (op : Bo) (a b : Ex) | neg (a : Ex) | not (a : Ex) | and (a b : Ex) | or (a b : Ex)
  | cmp (op : CmpOp) (a b : Ex) | chain (op op' : CmpOp) (a b c : Ex)
  | ix (a b : Ex) | sl (a lo hi : Ex) (hl hh : Bool)
  | fn (f : Nat) (args : List Ex) | bt (f : Bt) (args : List Ex) | isi (a : Ex) (t : Ty)
  | comp (rng : Bool) (src elt : Ex) | compIf (rng : Bool) (src test elt : Ex)
  | ite (c a b : Ex) | compE (src elt : Ex)

/-! ### the operations -/
def alloc (xs : List D) : M D := fun st => .ok (.ref st.length) (st ++ [.lst xs])
def allocD : M D := fun st => .ok (.ref st.length) (st ++ [.dct])
/-- the items of a list or tuple -/
def seqOf (st : Sto) : D → Option (List D)
  | .tup xs => some xs
  | .fl xs => some xs
  | .ref n => match st[n]? with
    | some (.lst xs) => some xs
    | _ => none
  | _ => none
def big : Int := 18446744073709551616
def binop (op : Bo) (x y : D) : M D := fun st => match op, x, y with
  | .add, .int i, .int j => .ok (.int (i + j)) st
  | .add, .str a, .str b => if a.length + b.length ≤ 1000000 then .ok (.str (a ++ b)) st else .bad
  | .add, .tup (a :: as), .tup bs => if (a :: as).length + bs.length ≤ 1000000 then .ok (.tup (a :: as ++ bs)) st else .bad
  | .add, .tup [], .tup bs => .ok (.tup bs) st
  | .add, .ref m, .ref n => match st[m]?, st[n]? with
    | some (.lst as), some (.lst bs) => if as.length + bs.length ≤ 1000000 then alloc (as ++ bs) st else .bad
    | _, _ => .bad
  | .sub, .int i, .int j => .ok (.int (i - j)) st
  | .mul, .int i, .int j => if (-big < i ∧ i < big) ∨ (-big < j ∧ j < big) then .ok (.int (i * j)) st else .bad
  | .mul, .ref m, .int j => match st[m]? with
    | some (.lst as) => if 0 ≤ j ∧ j ≤ 1000 ∧ as.length ≤ 1000 then alloc (List.flatten (List.replicate j.toNat as)) st else .bad
    | _ => .bad
  | .fdiv, .int i, .int j => if j ≠ 0 ∧ j.natAbs < 2 ^ 200 then .ok (.int (i.fdiv j)) st else .bad
  | .mod, .int i, .int j => if j ≠ 0 then .ok (.int (i.fmod j)) st else .bad
  | .pow, .int i, .int j => if 0 ≤ j ∧ j ≤ 1000 ∧ i.natAbs < 1000 then .ok (.int (i ^ j.toNat)) st else .bad
  | _, _, _ => .bad
/-- is x among the items -/
def anyEq (st : Sto) (x : D) : List D → Option Bool
  | [] => some false
  | y :: ys => match eqD 60 st y x, anyEq st x ys with
    | some a, some b => some (a || b)
    | _, _ => none
def allB : List D → Option Bool
  | [] => some true
  | .bl b :: ds => match allB ds with
    | some k => some (b && k)
    | none => none
  | _ :: _ => none
/-- x is y, y None or a truth -/
def isD (x y : D) : Option Bool := match y with
  | .non => some (match x with | .non => true | _ => false)
  | .bl b => some (match x with | .bl a => a == b | _ => false)
  | _ => none
def cmpop (op : CmpOp) (x y : D) : M D := fun st => match op with
  | .Eq => match eqD 60 st x y with
    | some k => .ok (.bl k) st
    | none => .bad
  | .NotEq => match eqD 60 st x y with
    | some k => .ok (.bl (!k)) st
    | none => .bad
  | .Lt => match x, y with
    | .int i, .int j => .ok (.bl (decide (i < j))) st
    | _, _ => .bad
  | .LtE => match x, y with
    | .int i, .int j => .ok (.bl (decide (i ≤ j))) st
    | _, _ => .bad
  | .Gt => match x, y with
    | .int i, .int j => .ok (.bl (decide (j < i))) st
    | _, _ => .bad
  | .GtE => match x, y with
    | .int i, .int j => .ok (.bl (decide (j ≤ i))) st
    | _, _ => .bad
  | .In => match seqOf st y with
    | some ys => match anyEq st x ys with
      | some k => .ok (.bl k) st
      | none => .bad
    | none => .bad
  | .NotIn => match seqOf st y with
    | some ys => match anyEq st x ys with
      | some k => .ok (.bl (!k)) st
      | none => .bad
    | none => .bad
  | .Is => match isD x y with
    | some k => .ok (.bl k) st
    | none => .bad
  | .IsNot => match isD x y with
    | some k => .ok (.bl (!k)) st
    | none => .bad
def index (x y : D) : M D := fun st => match x, y with
  | .str z, .int i => if z.length ≤ 1000000 then (match atI z.cps.toList i with
    | some c => .ok (.str ⟨#[c]⟩) st
    | none => .bad) else .bad
  | x, .int i => match seqOf st x with
    | some xs => match atI xs i with
      | some d => .ok d st
      | none => .bad
    | none => .bad
  | _, _ => .bad
def btin (f : Bt) (ds : List D) : M D := fun st => match f, ds with
  | .len, [.str z] => if z.length ≤ 1000000 then .ok (.int z.length) st else .bad
  | .len, [x] => match seqOf st x with
    | some xs => .ok (.int xs.length) st
    | none => .bad
  | .list, [x] => match seqOf st x with
    | some xs => alloc xs st
    | none => .bad
  | .tuple, [.tup xs] => .ok (.tup xs) st
  | .tuple, [x] => match seqOf st x with
    | some xs => .ok (.tup xs) st
    | none => .bad
  | .int, [.int i] => .ok (.int i) st
  | .int, [.bl b] => .ok (.int (if b then 1 else 0)) st
  | .all, [.ref n] => match st[n]? with
    | some (.lst xs) => match allB xs with
      | some k => .ok (.bl k) st
      | none => .bad
    | _ => .bad
  | .abs, [.int i] => .ok (.int (if i < 0 then -i else i)) st
  | .max, [.int i, .int j] => .ok (.int (if j > i then j else i)) st
  | .min, [.int i, .int j] => .ok (.int (if j < i then j else i)) st
  | _, _ => .bad
/-- isinstance -/
def isiD (st : Sto) (t : Ty) : D → Option Bool
  | .non => some false
  | .bl _ => some (match t with | .int => true | .bool => true | _ => false)
  | .int _ => some (match t with | .int => true | _ => false)
  | .str _ => some (match t with | .str => true | _ => false)
  | .tup _ => some (match t with | .tuple => true | _ => false)
  | .fl _ => some (match t with | .list => true | _ => false)
  | .ref n => match st[n]? with
    | some (.lst _) => some (match t with | .list => true | _ => false)
    | some .dct => some (match t with | .dict => true | _ => false)
    | none => none
/-- what a loop walks: items, or a list of the store -/
inductive Src where
  | its (xs : List D) | at (n : Nat) | en (n : Nat)
def rangeD (n : Nat) : List D := (List.range n).map fun (i : Nat) => D.int (i : Int)
def source (rng : Bool) (d : D) : Option Src := match rng, d with
  | true, .int j => if -1000000 ≤ j ∧ j ≤ 1000000 then some (.its (rangeD j.toNat)) else none
  | false, .tup xs => some (.its xs)
  | false, .fl xs => some (.its xs)
  | false, .ref n => some (.at n)
  | _, _ => none
/-- what enumerate walks: a list of the store -/
def enumS : D → Option Src
  | .ref n => some (.en n)
  | _ => none
/-- the item of turn i, as things stand then; none inside: it is at its end -/
def nxt (s : Src) (i : Nat) (st : Sto) : Option (Option D) := match s with
  | .its xs => some xs[i]?
  | .at n => match st[n]? with
    | some (.lst xs) => some xs[i]?
    | _ => none
  | .en n => match st[n]? with
    | some (.lst xs) => some (xs[i]?.map fun x => .tup [.int (i : Int), x])
    | _ => none
def lenS (s : Src) (st : Sto) : Nat := match s with
  | .its xs => xs.length
  | .at n => match st[n]? with
    | some (.lst xs) => xs.length
    | _ => 0
  | .en n => match st[n]? with
    | some (.lst xs) => xs.length
    | _ => 0
/-- a comprehension's turns: f gives the element, or none where the test fails -/
def compN (f : D → M (Option D)) (s : Src) : Nat → Nat → List D → M (List D)
  | 0, _, _ => stuck
  | k + 1, i, acc => fun st => match nxt s i st with
    | some (some x) => bnd (f x) (fun o => match o with
      | some y => compN f s k (i + 1) (acc ++ [y])
      | none => compN f s k (i + 1) acc) st
    | some none => .ok acc st
    | none => .bad
def compS (f : D → M (Option D)) (s : Src) : M D := fun st => if lenS s st ≤ 1000000 then bnd (compN f s (lenS s st + 1) 0 []) alloc st else .bad

def bool? : D → Option Bool
  | .bl b => some b
  | _ => none
def int? : D → Option Int
  | .int i => some i
  | _ => none
def cutD (xs : List D) (lo hi : Option Int) : List D := (xs.drop (HT.sIx xs.length 0 lo)).take (HT.sIx xs.length xs.length hi - HT.sIx xs.length 0 lo)
def slice (x : D) (lo hi : Option Int) : M D := fun st => match x with
  | .tup xs => if HT.sIx xs.length 0 lo = 0 ∧ HT.sIx xs.length xs.length hi = xs.length then .bad else .ok (.tup (cutD xs lo hi)) st
  | x => match seqOf st x with
    | some xs => alloc (cutD xs lo hi) st
    | none => .bad

abbrev Fns := Nat → List D → M D
mutual
def run (g : Fns) : Ex → Loc → M D
  | .c d, _ => ret d
  | .v i, loc => ofO (loc[i]?.join)
  | .tup es, loc => bnd (runs g es loc) fun ds => ret (.tup ds)
  | .lst es, loc => bnd (runs g es loc) alloc
  | .emp, _ => allocD
  | .bin op a b, loc => bnd (run g a loc) fun x => bnd (run g b loc) fun y => binop op x y
  | .neg a, loc => bnd (run g a loc) fun x => bnd (ofO (int? x)) fun i => ret (.int (-i))
  | .not a, loc => bnd (run g a loc) fun x => bnd (ofO (bool? x)) fun b => ret (.bl (!b))
  | .and a b, loc => bnd (run g a loc) fun x => bnd (ofO (bool? x)) fun k => if k then run g b loc else ret (.bl false)
  | .or a b, loc => bnd (run g a loc) fun x => bnd (ofO (bool? x)) fun k => if k then ret (.bl true) else run g b loc
  | .cmp op a b, loc => bnd (run g a loc) fun x => bnd (run g b loc) fun y => cmpop op x y
  | .chain op op' a b c, loc => bnd (run g a loc) fun x => bnd (run g b loc) fun y => bnd (cmpop op x y) fun z => bnd (ofO (bool? z)) fun k => if k then bnd (run g c loc) fun w => cmpop op' y w else ret (.bl false)
  | .ix a b, loc => bnd (run g a loc) fun x => bnd (run g b loc) fun y => index x y
  | .sl a lo hi hl hh, loc => bnd (run g a loc) fun x => bnd (if hl then bnd (run g lo loc) fun z => bnd (ofO (int? z)) fun i => ret (some i) else ret none) fun l =>
      bnd (if hh then bnd (run g hi loc) fun z => bnd (ofO (int? z)) fun i => ret (some i) else ret none) fun h => slice x l h
  | .fn f args, loc => bnd (runs g args loc) fun ds => g f ds
  | .bt f args, loc => bnd (runs g args loc) fun ds => btin f ds
  | .isi a t, loc => bnd (run g a loc) fun x => fun st => match isiD st t x with
    | some k => .ok (.bl k) st
    | none => .bad
  | .comp rng src elt, loc => bnd (run g src loc) fun d => bnd (ofO (source rng d)) fun s => compS (fun x => bnd (run g elt (some x :: loc)) fun y => ret (some y)) s
  | .compIf rng src test elt, loc => bnd (run g src loc) fun d => bnd (ofO (source rng d)) fun s =>
      compS (fun x => bnd (run g test (some x :: loc)) fun z => bnd (ofO (bool? z)) fun k => if k then bnd (run g elt (some x :: loc)) fun y => ret (some y) else ret none) s
  | .ite c a b, loc => bnd (run g c loc) fun x => bnd (ofO (bool? x)) fun k => if k then run g a loc else run g b loc
  | .compE src elt, loc => bnd (run g src loc) fun d => bnd (ofO (enumS d)) fun s =>
      compS (fun x => match x with
        | .tup [a, b] => bnd (run g elt (some a :: some b :: loc)) fun y => ret (some y)
        | _ => stuck) s
def runs (g : Fns) : List Ex → Loc → M (List D)
  | [], _ => ret []
  | e :: es, loc => bnd (run g e loc) fun d => bnd (runs g es loc) fun ds => ret (d :: ds)
end

/-! ### statements -/
inductive S where
  | set (i : Nat) (e : Ex) | setix (o i e : Ex) | ret (e : Ex) | ret0 | ex (e : Ex) | app (o e : Ex) | pass
  | ite (c : Ex) (a b : List S) | for_ (i : Nat) (rng : Bool) (src : Ex) (body : List S)
inductive Fl where
  | nx (loc : Loc) | rt (d : D)
def setitem (o i v : D) : M Unit := fun st => match o, i with
  | .ref n, .int k => match st[n]? with
    | some (.lst xs) => match ixN xs.length k with
      | some j => .ok () (st.set n (.lst (xs.set j v)))
      | none => .bad
    | _ => .bad
  | _, _ => .bad
def lstOk (o : D) : M Unit := fun st => match o with
  | .ref n => match st[n]? with
    | some (.lst _) => .ok () st
    | _ => .bad
  | _ => .bad
def append (o v : D) : M Unit := fun st => match o with
  | .ref n => match st[n]? with
    | some (.lst xs) => if xs.length < 1000000 then .ok () (st.set n (.lst (xs ++ [v]))) else .bad
    | _ => .bad
  | _ => .bad
def forN (f : D → Loc → M Fl) (s : Src) : Nat → Nat → Loc → M Fl
  | 0, _, _ => stuck
  | k + 1, i, loc => fun st => match nxt s i st with
    | some (some x) => bnd (f x loc) (fun r => match r with
      | .nx loc' => forN f s k (i + 1) loc'
      | .rt d => ret (.rt d)) st
    | some none => .ok (.nx loc) st
    | none => .bad
def forS (f : D → Loc → M Fl) (s : Src) (loc : Loc) : M Fl := fun st => forN f s (lenS s st + 1) 0 loc st
mutual
def exec (g : Fns) : S → Loc → M Fl
  | .set i e, loc => bnd (run g e loc) fun d => ret (.nx (loc.set i (some d)))
  | .setix o i e, loc => bnd (run g e loc) fun d => bnd (run g o loc) fun x => bnd (run g i loc) fun k => bnd (setitem x k d) fun _ => ret (.nx loc)
  | .ret e, loc => bnd (run g e loc) fun d => ret (.rt d)
  | .ret0, _ => ret (.rt .non)
  | .ex e, loc => bnd (run g e loc) fun _ => ret (.nx loc)
  | .app o e, loc => bnd (run g o loc) fun x => bnd (lstOk x) fun _ => bnd (run g e loc) fun d => bnd (append x d) fun _ => ret (.nx loc)
  | .pass, loc => ret (.nx loc)
  | .ite c a b, loc => bnd (run g c loc) fun x => bnd (ofO (bool? x)) fun k => if k then execs g a loc else execs g b loc
  | .for_ i rng src body, loc => bnd (run g src loc) fun d => bnd (ofO (source rng d)) fun s => forS (fun x loc' => execs g body (loc'.set i (some x))) s loc
def execs (g : Fns) : List S → Loc → M Fl
  | [], loc => ret (.nx loc)
  | s :: ss, loc => bnd (exec g s loc) fun r => match r with
    | .nx loc' => execs g ss loc'
    | .rt d => ret (.rt d)
end
structure Fn where
  ar : Nat
  nl : Nat
  body : List S
/-- a call of a def -/
def callB (g : Fns) (f : Fn) (ds : List D) : M D := if ds.length = f.ar then bnd (execs g f.body (ds.map some ++ List.replicate (f.nl - ds.length) none)) fun r => match r with
    | .nx _ => ret .non
    | .rt d => ret d
  else stuck
def calls (tab : List Fn) : Nat → Fns
  | 0, _, _ => stuck
  | k + 1, f, ds => match tab[f]? with
    | some fn => callB (calls tab k) fn ds
    | none => stuck
end Ev

set_option Elab.async false
set_option linter.all false
set_option maxRecDepth 100000
set_option maxHeartbeats 4000000
/-! THE OPERATIONS over the store are those of the heap -/
namespace Ev
open PySem PySem.Spec PyProof.Rows L2

/-- what is wanted behind a run over the store, read in the heap -/
def Post (K : PySem.W.Frag) (H : Hp) (ι : Nat → Addr) (st : Sto) (r : R D) (Q : VK) : Prop := match r with
  | .ok d st' => ∀ H' ι' v, Ext H H' ι ι' st.length st'.length → Sim K H' ι' st' → VRel K H' ι' st'.length d v → Q v H'
  | .bad => False
section
variable {K : PySem.W.Frag} {H : Hp} {ι : Nat → Addr} {st : Sto} {Q : VK}
theorem Post.same {d : D} {v : V} (S : Sim K H ι st) (P : Post K H ι st (.ok d st) Q) (r : VRel K H ι st.length d v) : Q v H := P H ι v (Ext.refl _ _ _) S r
theorem Post.mono {H1 : Hp} {ι1 : Nat → Addr} {st1 : Sto} {r : R D} (P : Post K H ι st r Q) (E : Ext H H1 ι ι1 st.length st1.length) : Post K H1 ι1 st1 r Q := by
  cases r with
  | ok d st' => exact fun H' ι' v E' S' r' => P H' ι' v (E.trans E') S' r'
  | bad => exact P
theorem Post.alloc {xs : List D} {vs : List V} (S : Sim K H ι st) (P : Post K H ι st (alloc xs st) Q) (r : VRels K H ι st.length xs vs) : ∀ p, H p = none → Q (.ref p) (upd H p (.lst vs)) := fun p hp => by
  obtain ⟨ι', E, e, S'⟩ := S.laid (o := .lst xs) (ho := .lst vs) hp (fun ι' h1 h2 => ⟨vs, upd_same, VRels.ext0 ⟨Nat.le_succ _, h1, fun b xs e => by rw [upd_ne (ne_of_none e hp)]; exact e, fun b ob u e => by rw [upd_ne (ne_of_none e hp)]; exact e⟩ r⟩)
  have l : (st ++ [O.lst xs]).length = st.length + 1 := by simp
  refine P _ ι' _ (by rw [l]; exact E) S' ?_
  rw [← e, l]
  exact .ref (Nat.lt_succ_self _)
theorem Post.allocD (S : Sim K H ι st) (P : Post K H ι st (allocD st) Q) : ∀ p, H p = none → Q (.ref p) (upd H p (.dK [])) := fun p hp => by
  obtain ⟨ι', E, e, S'⟩ := S.laid (o := .dct) (ho := .dK []) hp (fun ι' h1 h2 => upd_same)
  have l : (st ++ [O.dct]).length = st.length + 1 := by simp
  refine P _ ι' _ (by rw [l]; exact E) S' ?_
  rw [← e, l]
  exact .ref (Nat.lt_succ_self _)
/-- a new tuple: the store stays -/
theorem Post.tup {xs : List D} {vs : List V} (S : Sim K H ι st) (P : Post K H ι st (.ok (.tup xs) st) Q) (r : VRels K H ι st.length xs vs) : ∀ p, H p = none → Q (.ref p) (upd H p (.tup vs)) := fun p hp => by
  have hK : ∀ n, n < st.length → ι n ≠ p := fun n hn => by
    rcases S.obj hn with ⟨_, h⟩ | ⟨_, h⟩ <;> exact ne_of_none h hp
  have E : Ext H (upd H p (.tup vs)) ι ι st.length st.length := ⟨⟨Nat.le_refl _, fun _ _ => rfl, fun b xs e => by rw [upd_ne (ne_of_none e hp)]; exact e, fun b ob u e => by rw [upd_ne (ne_of_none e hp)]; exact e⟩, fun b ob e k => ⟨by rw [upd_ne (ne_of_none e hp)]; exact e, k⟩⟩
  refine P _ ι _ E ⟨S.inj, fun n o e => ?_⟩ (.tup (SqT.of upd_same) (r.ext E))
  have hn : n < st.length := (List.getElem?_eq_some_iff.mp e).1
  have old := S.ob n o e
  cases o with
  | lst ds => obtain ⟨zs, h1, h2⟩ := old; exact ⟨zs, by rw [upd_ne (hK n hn)]; exact h1, h2.ext E⟩
  | dct => show upd H p _ (ι n) = _; rw [upd_ne (hK n hn)]; exact old
theorem VRel.seq {d : D} {v : V} {xs : List D} (S : Sim K H ι st) (r : VRel K H ι st.length d v) (e : seqOf st d = some xs) : ∃ a vs, v = .ref a ∧ (SqL K H a vs ∨ SqT K H a vs) ∧ VRels K H ι st.length xs vs := by
  cases r with
  | non => cases e
  | bl b => cases e
  | int i => cases e
  | str x => cases e
  | tup h r => cases e; exact ⟨_, _, rfl, .inr h, r⟩
  | fl h r => cases e; exact ⟨_, _, rfl, .inl h.sql, r⟩
  | @ref n hn =>
    simp only [seqOf] at e
    cases q : st[n]? with
    | none => rw [q] at e; cases e
    | some o =>
      rw [q] at e
      cases o with
      | lst zs =>
        cases e
        obtain ⟨vs, h1, h2⟩ := S.ob n _ q
        exact ⟨_, vs, rfl, .inl (SqL.of h1), h2⟩
      | dct => cases e
theorem VRels.inv1 {d : D} {vs : List V} (r : VRels K H ι st.length [d] vs) : ∃ v, vs = [v] ∧ VRel K H ι st.length d v := by
  cases r with
  | cons h t => cases t; exact ⟨_, rfl, h⟩
end
/-- a two-place operation over the store, as the layer's relation -/
def rD (K : PySem.W.Frag) (op : D → D → M D) : R2 := fun vx vy H Q => ∃ ι st dx dy, Sim K H ι st ∧ VRel K H ι st.length dx vx ∧ VRel K H ι st.length dy vy ∧ Post K H ι st (op dx dy st) Q
def Bo.op : Bo → Operator
  | .add => .Add
  | .sub => .Sub
  | .mul => .Mult
  | .fdiv => .FloorDiv
  | .mod => .Mod
  | .pow => .Pow
theorem flat_rep {K : PySem.W.Frag} {H : Hp} {ι : Nat → Addr} {m : Nat} {as : List D} {vs : List V} (r : VRels K H ι m as vs) : ∀ n : Nat, VRels K H ι m (List.replicate n as).flatten (List.replicate n vs).flatten
  | 0 => .nil
  | n + 1 => by
    rw [List.replicate_succ, List.replicate_succ, List.flatten_cons, List.flatten_cons]
    exact r.append (flat_rep r n)
theorem op_fdivB {X : Cx} : OpR X (binaryOp .FloorDiv) (rI (fun _ j => j ≠ 0 ∧ j.natAbs < 2 ^ 200) fun i j => .int (i.fdiv j)) := opI fun i j _ _ _ _ _ hc q => floordiv_int hc.1 q (.inl (PyProof.noPylong_of_log2 (by
  have h0 : j.natAbs ≠ 0 := by have := hc.1; omega
  have : j.natAbs.log2 < 200 := (Nat.log2_lt h0).mpr hc.2
  omega)))
theorem cat_tup0 {prog : Program} {w : World} {A : Around} {E : Value → Shared → Prop} {s : Shared} {t b : Addr} {ws : List Value} {Q : Value → Shared → Prop} (ht : IsTup s.heap t ([] : List Value).toArray) (hb : IsTup s.heap b ws.toArray) (h : Q (.ref b) s) : wpAny (model prog w) A (binaryOp .Add (.ref t) (.ref b)) Q E s := by
  obtain ⟨⟨cls, dd, data, sl⟩, ho, hc, n, hd⟩ := id ht
  obtain ⟨⟨cls2, dd2, data2, sl2⟩, ho2, hc2, n2, hd2⟩ := id hb
  simp only at hc hd hc2 hd2
  subst hc hd hc2 hd2
  exact concat_meets ⟨_, ho, rfl⟩ ⟨_, ho2, rfl⟩ noFill_tuple_add seq_tuple_add PySem.F.slot_tuple_add PySem.F.entry_tuple_add (PySem.F.args_tuple_add_2 _ _)
      (tuple_addW0 t b _ ws.toArray n n2 dd dd2 sl sl2 (by simp)) ⟨ho, ho2, h⟩
theorem op_bin {X : Cx} (op : Bo) : OpR X (binaryOp op.op) (rD X.K (binop op)) := by
  intro pins s σ H vx vy ux uy Q I rx ry h
  obtain ⟨ι, st, dx, dy, S, hx, hy, P⟩ := h
  have sz : sizeLine = 16777216 := sizeLine_eq
  unfold binop at P
  split at P
  · cases hx; cases hy
    exact op_add pins s σ H _ _ _ _ Q I rx ry ⟨_, _, rfl, rfl, P.same S (.int _)⟩
  · split at P
    · cases hx; cases hy
      exact op_add_str pins s σ H _ _ _ _ Q I rx ry ⟨_, _, rfl, rfl, by omega, P.same S (.str _)⟩
    · exact False.elim P
  · split at P
    · rename_i hl
      cases hx with
      | tup ha ra =>
        cases hy with
        | tup hb rb =>
          have l1 := ra.length
          have l2 := rb.length
          refine op_catT pins s σ H _ _ _ _ Q I rx ry ⟨_, _, _, _, rfl, rfl, ha, hb, ?_, by omega, fun e => ?_, fun e => P.tup S (ra.append rb)⟩
          · intro z; rw [z] at l1; simp at l1
          · subst e
            cases rb
            rw [List.append_nil] at P
            exact P.same S (.tup ha ra)
    · exact False.elim P
  · cases hx with
    | tup ha ra =>
      cases hy with
      | tup hb rb =>
        cases ra
        cases rx
        cases ry
        obtain ⟨its, r1, p1, _⟩ := I.tuple ha
        obtain ⟨its2, r2, p2, _⟩ := I.tuple hb
        cases r1
        exact cat_tup0 p1 p2 ⟨.ref _, H, I, rfl, P.same S (.tup hb rb)⟩
  · split at P
    · rename_i m n _ _ as bs e1 e2
      split at P
      · rename_i hl
        cases hx with
        | ref h1 =>
          cases hy with
          | ref h2 =>
            obtain ⟨v1, g1, r1⟩ := S.ob _ _ e1
            obtain ⟨v2, g2, r2⟩ := S.ob _ _ e2
            have l1 := r1.length
            have l2 := r2.length
            exact op_cat pins s σ H _ _ _ _ Q I rx ry ⟨_, _, _, _, rfl, rfl, g1, g2, by omega, P.alloc S (r1.append r2)⟩
      · exact False.elim P
    · exact False.elim P
  · cases hx; cases hy
    exact op_sub pins s σ H _ _ _ _ Q I rx ry ⟨_, _, rfl, rfl, P.same S (.int _)⟩
  · split at P
    · rename_i hc
      cases hx; cases hy
      exact op_mul pins s σ H _ _ _ _ Q I rx ry ⟨_, _, rfl, rfl, hc, P.same S (.int _)⟩
    · exact False.elim P
  · split at P
    · rename_i m j _ as e1
      split at P
      · rename_i hl
        cases hx with
        | ref h1 =>
          cases hy
          obtain ⟨v1, g1, r1⟩ := S.ob _ _ e1
          have l1 := r1.length
          have hj : v1.length * j.toNat ≤ 1000 * 1000 := Nat.mul_le_mul (by omega) (by omega)
          exact op_rep pins s σ H _ _ _ _ Q I rx ry ⟨_, _, _, rfl, rfl, g1, by omega, by omega, by omega, P.alloc S (flat_rep r1 _)⟩
      · exact False.elim P
    · exact False.elim P
  · split at P
    · rename_i hc
      cases hx; cases hy
      exact op_fdivB pins s σ H _ _ _ _ Q I rx ry ⟨_, _, rfl, rfl, hc, P.same S (.int _)⟩
    · exact False.elim P
  · split at P
    · rename_i hc
      cases hx; cases hy
      exact op_modN pins s σ H _ _ _ _ Q I rx ry ⟨_, _, rfl, rfl, hc, P.same S (.int _)⟩
    · exact False.elim P
  · split at P
    · rename_i hc
      cases hx; cases hy
      exact op_pow pins s σ H _ _ _ _ Q I rx ry ⟨_, _, rfl, rfl, ⟨hc.1, by omega, by omega⟩, P.same S (.int _)⟩
    · exact False.elim P
  · exact False.elim P
open Classical in
/-- the answer for a value that stands for a datum -/
noncomputable def eAt (K : PySem.W.Frag) (H : Hp) (ι : Nat → Addr) (st : Sto) (x : D) (z : Value) : Bool := if h : ∃ d, At K H ι st.length d z then (eqD 60 st h.choose x).getD false else false
theorem eAt_of {X : Cx} {pins : List (Addr × Obj)} {σ : L2.St} {H : Hp} {s : Shared} {ι : Nat → Addr} {st : Sto} (I : Inv X pins σ H s) (S : Sim X.K H ι st) {x y : D} {u : Value} (h : At X.K H ι st.length y u) : eAt X.K H ι st x u = (eqD 60 st y x).getD false := by
  unfold eAt
  have h' : ∃ d, At X.K H ι st.length d u := ⟨y, h⟩
  rw [dif_pos h', h'.choose_spec.uniq I S h]
theorem any_at {X : Cx} {pins : List (Addr × Obj)} {σ : L2.St} {H : Hp} {s : Shared} {ι : Nat → Addr} {st : Sto} (I : Inv X pins σ H s) (S : Sim X.K H ι st) {x : D} {ux : Value} {A : Around} (hx : At X.K H ι st.length x ux) (hu : A.units + 60 < cLine) :
    ∀ {ys : List D} {us : List Value} {k : Bool}, anyEq st x ys = some k → Ats X.K H ι st.length ys us → (∀ u ∈ us, SeqAt.EqAt A s u ux (eAt X.K H ι st x u)) ∧ us.any (eAt X.K H ι st x) = k
  | [], us, k, h, r => by
    have l := r.length
    cases us with
    | cons _ _ => simp at l
    | nil => exact ⟨fun u hu => (by cases hu), Option.some.inj h⟩
  | y :: ys, us, k, h, r => by
    have l := r.length
    cases us with
    | nil => simp at l
    | cons u us =>
      obtain ⟨_, r1, q1⟩ := r
      cases q1 with
      | cons w1 w2 =>
        cases r1 with
        | cons m1 m2 =>
          unfold anyEq at h
          cases e1 : eqD 60 st y x with
          | none => rw [e1] at h; simp at h
          | some a =>
            cases e2 : anyEq st x ys with
            | none => rw [e1, e2] at h; simp at h
            | some b =>
              rw [e1, e2] at h
              obtain ⟨he, hk⟩ := any_at I S hx hu e2 ⟨_, m2, w2⟩
              obtain ⟨_, _, hE⟩ := eqAt_D I S 60 (A := A) e1 ⟨_, m1, w1⟩ hx hu
              have ea : eAt X.K H ι st x u = a := by rw [eAt_of I S ⟨_, m1, w1⟩, e1]; rfl
              refine ⟨fun z hz => ?_, ?_⟩
              · rcases List.mem_cons.mp hz with rfl | hz
                · rw [ea]; exact hE
                · exact he z hz
              · rw [List.any_cons, ea, hk]
                exact Option.some.inj h
theorem isD_at {K : PySem.W.Frag} {H : Hp} {ι : Nat → Addr} {m : Nat} {x y : D} {k : Bool} {vx vy : V} {ux uy : Value} (e : isD x y = some k) (hx : VRel K H ι m x vx) (hy : VRel K H ι m y vy) (rx : RelV vx ux) (ry : RelV vy uy) : plainIs ux uy = true ∧ (ux == uy) = k := by
  unfold isD at e
  split at e
  · cases hy
    cases ry
    have e := Option.some.inj e
    subst e
    cases hx with
    | non => cases rx; exact ⟨rfl, rfl⟩
    | bl b => cases rx; exact ⟨rfl, rfl⟩
    | int i => obtain ⟨t, rfl⟩ := rx; exact ⟨rfl, rfl⟩
    | str i => obtain ⟨t, rfl⟩ := rx; exact ⟨rfl, rfl⟩
    | tup _ _ => cases rx; exact ⟨rfl, rfl⟩
    | fl _ _ => cases rx; exact ⟨rfl, rfl⟩
    | ref _ => cases rx; exact ⟨rfl, rfl⟩
  · cases hy
    cases ry
    have e := Option.some.inj e
    subst e
    cases hx with
    | non => cases rx; exact ⟨rfl, rfl⟩
    | bl b =>
      cases rx
      refine ⟨rfl, ?_⟩
      rename_i c
      cases b <;> cases c <;> decide
    | int i => obtain ⟨t, rfl⟩ := rx; exact ⟨rfl, rfl⟩
    | str i => obtain ⟨t, rfl⟩ := rx; exact ⟨rfl, rfl⟩
    | tup _ _ => cases rx; exact ⟨rfl, rfl⟩
    | fl _ _ => cases rx; exact ⟨rfl, rfl⟩
    | ref _ => cases rx; exact ⟨rfl, rfl⟩
  · cases e
theorem op_cmp {X : Cx} (hu : X.A.units + 100 < cLine) (op : CmpOp) : OpR X (compareOp op) (rD X.K (cmpop op)) := by
  intro pins s σ H vx vy ux uy Q I rx ry h
  obtain ⟨ι, st, dx, dy, S, hx, hy, P⟩ := h
  have ax : At X.K H ι st.length dx ux := ⟨_, hx, rx⟩
  have ay : At X.K H ι st.length dy uy := ⟨_, hy, ry⟩
  unfold cmpop at P
  split at P
  · split at P
    · rename_i k e
      obtain ⟨h1, _, _⟩ := eqAt_D I S 60 (A := X.A) e ax ay (by omega)
      exact h1 _ _ _ _ ⟨.bl k, H, I, rfl, P.same S (.bl k)⟩
    · exact False.elim P
  · split at P
    · rename_i k e
      obtain ⟨_, h1, _⟩ := eqAt_D I S 60 (A := X.A) e ax ay (by omega)
      exact h1 _ _ _ _ ⟨.bl (!k), H, I, rfl, P.same S (.bl (!k))⟩
    · exact False.elim P
  · split at P
    · cases hx; cases hy
      exact op_lt pins s σ H _ _ _ _ Q I rx ry ⟨_, _, rfl, rfl, P.same S (.bl _)⟩
    · exact False.elim P
  · split at P
    · cases hx; cases hy
      exact op_le pins s σ H _ _ _ _ Q I rx ry ⟨_, _, rfl, rfl, P.same S (.bl _)⟩
    · exact False.elim P
  · split at P
    · cases hx; cases hy
      exact op_gt pins s σ H _ _ _ _ Q I rx ry ⟨_, _, rfl, rfl, P.same S (.bl _)⟩
    · exact False.elim P
  · split at P
    · cases hx; cases hy
      exact op_ge pins s σ H _ _ _ _ Q I rx ry ⟨_, _, rfl, rfl, P.same S (.bl _)⟩
    · exact False.elim P
  · split at P
    · rename_i ys es
      split at P
      · rename_i k ek
        obtain ⟨a, vs, rfl, hq, rv⟩ := hy.seq S es
        cases ry
        rcases hq with hq | hq
        · obtain ⟨its, r', pl, hz⟩ := I.list hq
          obtain ⟨hE, hk⟩ := any_at I S (A := X.A.in1) ax (by show X.A.units + 1 + 60 < cLine; omega) ek ⟨_, rv, r'⟩
          refine SeqAt.in_listAt _ pl.isList (fun w hw => hE w (by simpa using hw)) ⟨.bl _, H, I, rfl, ?_⟩
          rw [show its.toArray.any (eAt X.K H ι st dx) = its.any (eAt X.K H ι st dx) by simp, hk]
          exact P.same S (.bl k)
        · obtain ⟨its, r', pl, hz⟩ := I.tuple hq
          obtain ⟨hE, hk⟩ := any_at I S (A := X.A.in1) ax (by show X.A.units + 1 + 60 < cLine; omega) ek ⟨_, rv, r'⟩
          refine SeqAt.in_tupleAt _ pl (fun w hw => hE w (by simpa using hw)) ⟨.bl _, H, I, rfl, ?_⟩
          rw [show its.toArray.any (eAt X.K H ι st dx) = its.any (eAt X.K H ι st dx) by simp, hk]
          exact P.same S (.bl k)
      · exact False.elim P
    · exact False.elim P
  · split at P
    · rename_i ys es
      split at P
      · rename_i k ek
        obtain ⟨a, vs, rfl, hq, rv⟩ := hy.seq S es
        cases ry
        rcases hq with hq | hq
        · obtain ⟨its, r', pl, hz⟩ := I.list hq
          obtain ⟨hE, hk⟩ := any_at I S (A := X.A.in1) ax (by show X.A.units + 1 + 60 < cLine; omega) ek ⟨_, rv, r'⟩
          refine SeqAt.notIn_listAt _ pl.isList (fun w hw => hE w (by simpa using hw)) ⟨.bl _, H, I, rfl, ?_⟩
          rw [show its.toArray.any (eAt X.K H ι st dx) = its.any (eAt X.K H ι st dx) by simp, hk]
          exact P.same S (.bl (!k))
        · obtain ⟨its, r', pl, hz⟩ := I.tuple hq
          obtain ⟨hE, hk⟩ := any_at I S (A := X.A.in1) ax (by show X.A.units + 1 + 60 < cLine; omega) ek ⟨_, rv, r'⟩
          refine SeqAt.notIn_tupleAt _ pl (fun w hw => hE w (by simpa using hw)) ⟨.bl _, H, I, rfl, ?_⟩
          rw [show its.toArray.any (eAt X.K H ι st dx) = its.any (eAt X.K H ι st dx) by simp, hk]
          exact P.same S (.bl (!k))
      · exact False.elim P
    · exact False.elim P
  · split at P
    · rename_i k e
      obtain ⟨h1, h2⟩ := isD_at e hx hy rx ry
      exact wpAny_is_plain h1 ⟨.bl k, H, I, by rw [h2]; rfl, P.same S (.bl k)⟩
    · exact False.elim P
  · split at P
    · rename_i k e
      obtain ⟨h1, h2⟩ := isD_at e hx hy rx ry
      exact wpAny_isNot_plain h1 ⟨.bl (!k), H, I, by rw [h2]; rfl, P.same S (.bl (!k))⟩
    · exact False.elim P

/-! ### a[i] -/
theorem atI_rel {K : PySem.W.Frag} {H : Hp} {ι : Nat → Addr} {m : Nat} {ds : List D} {vs : List V} {i : Int} {d : D} (r : VRels K H ι m ds vs) (e : atI ds i = some d) : ∃ v, atI vs i = some v ∧ VRel K H ι m d v := by
  unfold atI at e ⊢
  rw [← r.length]
  cases q : ixN ds.length i with
  | none => rw [q] at e; cases e
  | some j =>
    rw [q] at e
    exact r.get e
theorem ix_D {X : Cx} : IxR X (rD X.K index) := by
  intro value slice pins s σ H vx vy ux uy Q I rx ry h hs
  obtain ⟨ι, st, dx, dy, S, hx, hy, P⟩ := h
  have sz : sizeLine = 16777216 := sizeLine_eq
  unfold index at P
  split at P
  · split at P
    · split at P
      · rename_i hl c e
        cases hx; cases hy
        exact ix_str value slice pins s σ H _ _ _ _ Q I rx ry ⟨_, _, _, rfl, rfl, by omega, e, P.same S (.str _)⟩ hs
      · exact False.elim P
    · exact False.elim P
  · split at P
    · rename_i xs es
      split at P
      · rename_i d ed
        cases hy
        obtain ⟨a, vs, rfl, hq, rv⟩ := hx.seq S es
        obtain ⟨w, ew, rw'⟩ := atI_rel rv ed
        rcases hq with hq | hq
        · exact ix_list value slice pins s σ H _ _ _ _ Q I rx ry ⟨_, _, _, _, rfl, rfl, hq, ew, P.same S rw'⟩ hs
        · exact ix_tup value slice pins s σ H _ _ _ _ Q I rx ry ⟨_, _, _, _, rfl, rfl, hq, ew, P.same S rw'⟩ hs
      · exact False.elim P
    · exact False.elim P
  · exact False.elim P
end Ev

set_option Elab.async false
set_option linter.all false
set_option maxRecDepth 100000
set_option maxHeartbeats 4000000
/-! THE BUILT-INS over the store -/
namespace Ev
open PySem PySem.Spec PyProof.Rows L2

def Ty.name : Ty → String
  | .int => "int"
  | .bool => "bool"
  | .str => "str"
  | .list => "list"
  | .tuple => "tuple"
  | .dict => "dict"
theorem isi_ok {X : Cx} {pins : List (Addr × Obj)} {σ : L2.St} {H : Hp} {s : Shared} {ι : Nat → Addr} {st : Sto} {d : D} {v : V} {u : Value} {t : Ty} {k : Bool} {Q : VK} (I : Inv X pins σ H s) (S : Sim X.K H ι st) (hv : VRel X.K H ι st.length d v) (r : RelV v u)
    (e : isiD st t d = some k) (q : Q (.bl k) H) : wpAny (model X.prog X.w) X.A (call (.builtin "isinstance") [u, .type t.name]) (EP X pins σ Q) X.xe s := by
  have fin : ∀ tk, EP X pins σ Q (.bool k) { s with toks := tk } := fun tk => ⟨.bl k, H, I.tok _, rfl, q⟩
  have fin0 : EP X pins σ Q (.bool k) s := ⟨.bl k, H, I, rfl, q⟩
  cases hv with
  | non =>
    cases r
    cases e
    cases t
    · exact call_isinstance (isinstance_false_none (by decide +kernel) F.isi_meta_int F.sub_NoneType_int) (fin _)
    · exact call_isinstance (isinstance_false_none (by decide +kernel) F.isi_meta_bool F.sub_NoneType_bool) (fin _)
    · exact call_isinstance (isinstance_false_none (by decide +kernel) F.isi_meta_str F.sub_NoneType_str) (fin _)
    · exact call_isinstance (isinstance_false_none (by decide +kernel) F.isi_meta_list F.sub_NoneType_list) (fin _)
    · exact call_isinstance (isinstance_false_none (by decide +kernel) F.isi_meta_tuple F.sub_NoneType_tuple) (fin _)
    · exact call_isinstance (isinstance_false_none (by decide +kernel) F.isi_meta_dict F.sub_NoneType_dict) (fin _)
  | bl b =>
    cases r
    cases t
    · cases e; exact IsiPair.bool_int fin0
    · cases e; exact IsiPair.bool_bool fin0
    · cases e; exact IsiPair.bool_str (fin _)
    · cases e; exact IsiPair.bool_list (fin _)
    · cases e; exact IsiPair.bool_tuple (fin _)
    · cases e; exact IsiPair.bool_dict (fin _)
  | int i =>
    obtain ⟨tk, rfl⟩ := r
    cases t
    · cases e; exact IsiPair.int_int fin0
    · cases e; exact IsiPair.int_bool (fin _)
    · cases e; exact IsiPair.int_str (fin _)
    · cases e; exact IsiPair.int_list (fin _)
    · cases e; exact IsiPair.int_tuple (fin _)
    · cases e; exact IsiPair.int_dict (fin _)
  | str x =>
    obtain ⟨tk, rfl⟩ := r
    cases t
    · cases e; exact IsiPair.str_int (fin _)
    · cases e; exact IsiPair.str_bool (fin _)
    · cases e; exact IsiPair.str_str fin0
    · cases e; exact IsiPair.str_list (fin _)
    · cases e; exact IsiPair.str_tuple (fin _)
    · cases e; exact IsiPair.str_dict (fin _)
  | tup h _ =>
    cases r
    obtain ⟨_, _, ⟨o, h1, h2, _⟩, _⟩ := I.tuple h
    cases t
    · cases e; exact IsiPair.tuple_int h1 h2 (fin _)
    · cases e; exact IsiPair.tuple_bool h1 h2 (fin _)
    · cases e; exact IsiPair.tuple_str h1 h2 (fin _)
    · cases e; exact IsiPair.tuple_list h1 h2 (fin _)
    · cases e; exact IsiPair.tuple_tuple h1 h2 fin0
    · cases e; exact IsiPair.tuple_dict h1 h2 (fin _)
  | fl h _ =>
    cases r
    obtain ⟨_, _, p, _⟩ := I.list h.sql
    obtain ⟨o, h1, h2, _⟩ := p.isList
    cases t
    · cases e; exact IsiPair.list_int h1 h2 (fin _)
    · cases e; exact IsiPair.list_bool h1 h2 (fin _)
    · cases e; exact IsiPair.list_str h1 h2 (fin _)
    · cases e; exact IsiPair.list_list h1 h2 fin0
    · cases e; exact IsiPair.list_tuple h1 h2 (fin _)
    · cases e; exact IsiPair.list_dict h1 h2 (fin _)
  | @ref n hn =>
    cases r
    simp only [isiD] at e
    cases q' : st[n]? with
    | none => rw [q'] at e; cases e
    | some ob =>
      rw [q'] at e
      have ho := S.ob n ob q'
      cases ob with
      | lst xs =>
        obtain ⟨vs, g1, g2⟩ := ho
        obtain ⟨_, _, p, _⟩ := I.list (SqL.of g1)
        obtain ⟨o, h1, h2, _⟩ := p.isList
        cases t
        · cases e; exact IsiPair.list_int h1 h2 (fin _)
        · cases e; exact IsiPair.list_bool h1 h2 (fin _)
        · cases e; exact IsiPair.list_str h1 h2 (fin _)
        · cases e; exact IsiPair.list_list h1 h2 fin0
        · cases e; exact IsiPair.list_tuple h1 h2 (fin _)
        · cases e; exact IsiPair.list_dict h1 h2 (fin _)
      | dct =>
        obtain ⟨_, _, _, _, o, es, ep, h1, h2, _⟩ := (show ObjOk X.prog X.w H s.heap (ι n) (.dK []) from I.hok _ _ ho)
        cases t
        · cases e; exact IsiPair.dict_int h1 h2.1 (fin _)
        · cases e; exact IsiPair.dict_bool h1 h2.1 (fin _)
        · cases e; exact IsiPair.dict_str h1 h2.1 (fin _)
        · cases e; exact IsiPair.dict_list h1 h2.1 (fin _)
        · cases e; exact IsiPair.dict_tuple h1 h2.1 (fin _)
        · cases e; exact IsiPair.dict_dict h1 h2.1 fin0

/-! ### slices -/
theorem cut_rel {K : PySem.W.Frag} {H : Hp} {ι : Nat → Addr} {m : Nat} {ds : List D} {vs : List V} (r : VRels K H ι m ds vs) (lo hi : Option Int) : VRels K H ι m (cutD ds lo hi) (cutV vs lo hi) := by
  unfold cutD cutV
  rw [← r.length]
  exact (r.drop _).take _
theorem sl_D {X : Cx} : SlR X (fun vx lo hi H Q => ∃ ι st dx, Sim X.K H ι st ∧ VRel X.K H ι st.length dx vx ∧ Post X.K H ι st (slice dx lo hi st) Q) := by
  intro pins s σ H x v vl vu lo hi sl Q I rx hs pl pu h
  obtain ⟨ι, st, dx, S, hx, P⟩ := h
  unfold slice at P
  split at P
  · split at P
    · exact False.elim P
    · rename_i hw
      cases hx with
      | tup ha ra =>
        exact sl_tup pins s σ H _ v vl vu lo hi sl Q I rx hs pl pu ⟨_, _, rfl, ha, by rw [← ra.length]; exact hw, P.tup S (cut_rel ra lo hi)⟩
  · split at P
    · rename_i xs es
      obtain ⟨a, vs, rfl, hq, rv⟩ := hx.seq S es
      rcases hq with hq | hq
      · exact sl_list pins s σ H _ v vl vu lo hi sl Q I rx hs pl pu ⟨_, _, rfl, hq, P.alloc S (cut_rel rv lo hi)⟩
      · exfalso
        cases hx with
        | tup _ _ => simp_all
        | fl h _ => exact seq_ne I hq h.sql
        | ref h =>
          rcases tup_obj I hq with ⟨_, e⟩ | ⟨_, _, e⟩ | e <;> rcases S.obj h with ⟨_, e'⟩ | ⟨_, e'⟩ <;> rw [e] at e' <;> cases e'
    · exact False.elim P

/-! ### calls -/
def rB (K : PySem.W.Frag) (f : Bt) : List V → Hp → VK → Prop := fun vs H Q => ∃ ι st ds, Sim K H ι st ∧ VRels K H ι st.length ds vs ∧ Post K H ι st (btin f ds st) Q
def Bt.val : Bt → Value
  | .len => .builtin "len"
  | .list => .type "list"
  | .tuple => .type "tuple"
  | .int => .type "int"
  | .abs => .builtin "abs"
  | .all => .builtin "all"
  | .max => .builtin "max"
  | .min => .builtin "min"
theorem allB_at {K : PySem.W.Frag} {H : Hp} {ι : Nat → Addr} {m : Nat} : ∀ {ds : List D} {vs : List V} {us : List Value} {k : Bool}, allB ds = some k → VRels K H ι m ds vs → Vals vs us → ∃ tr : Nat → Bool, (∀ (i : Nat) (u : Value), us[i]? = some u → u = Value.bool (tr i)) ∧ (List.range us.length).all tr = k
  | [], _, _, k, e, r, q => by
    cases r; cases q
    exact ⟨fun _ => true, fun i u h => by simp at h, Option.some.inj e⟩
  | d :: ds, _, _, k, e, r, q => by
    cases r with
    | cons r1 r2 =>
      cases q with
      | cons q1 q2 =>
        cases r1 with
        | bl b =>
          simp only [allB] at e
          cases e1 : allB ds with
          | none => rw [e1] at e; cases e
          | some k' =>
            rw [e1] at e
            obtain ⟨tr, h1, h2⟩ := allB_at e1 r2 q2
            cases q1
            refine ⟨fun j => match j with | 0 => b | j + 1 => tr j, fun i u h => ?_, ?_⟩
            · cases i with
              | zero => simp at h; exact h.symm
              | succ i => exact h1 i u (by simpa using h)
            · rw [List.length_cons]
              refine (show _ = _ from all_cons (e := tr) (x := b)).trans ?_
              rw [h2]
              exact Option.some.inj e
        | _ => cases e
theorem call_all_D {X : Cx} (hc : X.calm = true) : CallR X (.builtin "all") (fun xs H Q => ∃ a vs us k, xs = [.ref a] ∧ SqL X.K H a vs ∧ (∀ its, Vals vs its → ∃ tr : Nat → Bool, (∀ (i : Nat) (u : Value), its[i]? = some u → u = Value.bool (tr i)) ∧ (List.range its.length).all tr = k) ∧ us = k ∧ Q (.bl k) H) := by
  intro pins s σ H xs us Q I r h
  obtain ⟨a, vs, _, k, rfl, hq, htr, _, q⟩ := h
  obtain ⟨u, rfl, rx⟩ := vals1 r
  cases rx
  obtain ⟨its, r', pl, hz⟩ := I.list hq
  obtain ⟨tr, h1, h2⟩ := htr its r'
  have hlt : a < s.heap.objs.size := by obtain ⟨_, e, _⟩ := pl.isList; exact Heap.lt_size e
  refine call_all_walk (wpAny_pyIter_list pl.isList ?_)
  refine ⟨s.heap.objs.size, _, _, _, _, _, tr, rfl, Walks.list (A := X.A.in1) (I.ok.hd hc) s.heap.objs.size a (Nat.ne_of_lt hlt) its.toArray, ⟨⟨_, Heap.get?_push_size _ rfl, rfl, rfl⟩, pl.isList.push _⟩, fun i v s' Q' E' hP hQ => ?_, fun h' tk hk => ?_⟩
  · rw [h1 i v (by simpa using hP)]
    exact wpAny_truthy_bool hQ
  · rw [List.size_toArray, h2]
    refine ⟨.bl k, H, ?_, rfl, q⟩
    have I1 : Inv X pins σ H { s with heap := s.heap.push { cls := .type "list_iterator", data := .fields #[.ref a, .int 0 0] } } := I.kept (t' := s.toks) fun b o e => Heap.get?_push_of_some _ e
    refine I.kept (t' := tk) fun b o e => hk b o (fun z => ?_) (Heap.get?_push_of_some _ e)
    have zb : b = s.heap.objs.size := by simpa using z
    rw [zb] at e
    exact absurd (Heap.lt_size e) (Nat.lt_irrefl _)
theorem call_D {X : Cx} (hc : X.calm = true) (f : Bt) : CallR X f.val (rB X.K f) := by
  intro pins s σ H xs us Q I r h
  obtain ⟨ι, st, ds, S, rv, P⟩ := h
  have sz : sizeLine = 16777216 := sizeLine_eq
  unfold btin at P
  split at P
  · split at P
    · obtain ⟨v, rfl, hv⟩ := rv.inv1
      cases hv
      exact call_len_str pins s σ H _ us Q I r ⟨_, rfl, by omega, P.same S (.int _)⟩
    · exact False.elim P
  · split at P
    · rename_i hx ys es
      obtain ⟨v, rfl, hv⟩ := rv.inv1
      obtain ⟨a, vs, rfl, hq, rr⟩ := hv.seq S es
      exact call_len_seq pins s σ H _ us Q I r ⟨_, _, rfl, hq, by rw [← rr.length]; exact P.same S (.int _)⟩
    · exact False.elim P
  · split at P
    · rename_i ys es
      obtain ⟨v, rfl, hv⟩ := rv.inv1
      obtain ⟨a, vs, rfl, hq, rr⟩ := hv.seq S es
      exact call_list_of pins s σ H _ us Q I r ⟨_, _, rfl, hq, P.alloc S rr⟩
    · exact False.elim P
  · obtain ⟨v, rfl, hv⟩ := rv.inv1
    cases hv with
    | tup h rr => exact call_tuple_of pins s σ H _ us Q I r ⟨_, _, rfl, .inr ⟨h, P.same S (.tup h rr)⟩⟩
  · split at P
    · rename_i hnt ys es
      obtain ⟨v, rfl, hv⟩ := rv.inv1
      obtain ⟨a, vs, rfl, hq, rr⟩ := hv.seq S es
      rcases hq with hq | hq
      · exact call_tuple_of pins s σ H _ us Q I r ⟨_, _, rfl, .inl ⟨hq, P.tup S rr⟩⟩
      · exact call_tuple_of pins s σ H _ us Q I r ⟨_, _, rfl, .inr ⟨hq, P.same S (.tup hq rr)⟩⟩
    · exact False.elim P
  · obtain ⟨v, rfl, hv⟩ := rv.inv1
    cases hv
    exact call_int1 pins s σ H _ us Q I r (.inl ⟨_, rfl, P.same S (.int _)⟩)
  · obtain ⟨v, rfl, hv⟩ := rv.inv1
    cases hv
    exact call_int1 pins s σ H _ us Q I r (.inr ⟨_, rfl, P.same S (.int _)⟩)
  · split at P
    · rename_i n ys es
      split at P
      · rename_i k ek
        obtain ⟨v, rfl, hv⟩ := rv.inv1
        cases hv with
        | ref hn =>
          obtain ⟨vs, g1, g2⟩ := S.ob _ _ es
          exact call_all_D hc pins s σ H _ us Q I r ⟨_, _, _, k, rfl, SqL.of g1, fun its q => allB_at ek g2 q, rfl, P.same S (.bl k)⟩
      · exact False.elim P
    · exact False.elim P
  · obtain ⟨v, rfl, hv⟩ := rv.inv1
    cases hv
    exact call_abs pins s σ H _ us Q I r ⟨_, rfl, P.same S (.int _)⟩
  · cases rv with
    | cons h1 t => cases t with
      | cons h2 t => cases t; cases h1; cases h2; exact call_max2 hc pins s σ H _ us Q I r ⟨_, _, rfl, P.same S (.int _)⟩
  · cases rv with
    | cons h1 t => cases t with
      | cons h2 t => cases t; cases h1; cases h2; exact call_min2 hc pins s σ H _ us Q I r ⟨_, _, rfl, P.same S (.int _)⟩
  · exact False.elim P
end Ev

set_option Elab.async false
set_option linter.all false
set_option maxRecDepth 100000
set_option maxHeartbeats 4000000
/-! THE TURN of a text's expressions into the small language, and that they do the same -/
namespace Ev
open PySem PySem.Spec PyProof.Rows L2

structure Tab where
  fns : List Str
  csts : List (Str × D)
def ixOf : List Str → Str → Option Nat
  | [], _ => none
  | y :: r, x => if y = x then some 0 else (ixOf r x).map (· + 1)
theorem ixOf_get : ∀ {N : List Str} {x : Str} {i : Nat}, ixOf N x = some i → N[i]? = some x
  | [], _, _, h => by cases h
  | y :: r, x, i, h => by
    unfold ixOf at h
    split at h
    · rename_i e; cases h; rw [e]; rfl
    · cases q : ixOf r x with
      | none => rw [q] at h; cases h
      | some j =>
        rw [q] at h
        have : j + 1 = i := Option.some.inj h
        subst this
        simpa using ixOf_get q
def btOf : List (Str × Bt) := [("len", .len), ("list", .list), ("tuple", .tuple), ("int", .int), ("abs", .abs), ("all", .all), ("max", .max), ("min", .min)]
def tyOf : List (Str × Ty) := [("int", .int), ("bool", .bool), ("str", .str), ("list", .list), ("tuple", .tuple), ("dict", .dict)]
def blts : List Str := ["enumerate", "len", "list", "tuple", "int", "abs", "all", "max", "min", "bool", "str", "dict", "isinstance", "range"]
def boOf : Operator → Option Bo
  | .Add => some .add
  | .Sub => some .sub
  | .Mult => some .mul
  | .FloorDiv => some .fdiv
  | .Mod => some .mod
  | .Pow => some .pow
  | _ => none
def compOk (sc scope : Scope) (N : List Str) (x : Str) : Bool :=
  (scope.kind == .function) && (scope.names.lookup x == some .local) && !(N.contains x) && (x != "__debug__") && (x != "__classdict__") &&
  scope.names.all fun y => (y.2 != .cell) && (y.2 != .local || (scope.names.lookup y.1 == some .local && !(N.contains y.1))) && (y.2 != .free || sc.names.lookup y.1 == some .cell || sc.names.lookup y.1 == some .free)
def compOk2 (sc scope : Scope) (N : List Str) (x y : Str) : Bool :=
  compOk sc scope N x && (scope.names.lookup y == some .local) && !(N.contains y) && (x != y) && (y != "__debug__") && (y != "__classdict__")
def relabS (sc scope : Scope) : Scope :=
  { scope with names := scope.names.map fun (n, k) => if (k == .free && sc.kind == .function && sc.names.lookup n == some .cell) then (n, .cell) else (n, k) }
def isGlob (sc : Scope) (x : Str) : Bool := sc.names.lookup x == some .globalImplicit
def plainSub : Expr → Bool
  | .Slice .. => false
  | _ => true
mutual
def cE (T : Tab) (n : Nat) (sc : Scope) (N : List Str) (e : Expr) : Option Ex := match n with
  | 0 => none
  | n + 1 => match e with
    | .Constant (.int i) _ _ => some (.c (.int i))
    | .Constant (.str s) _ _ => some (.c (.str s))
    | .Constant (.bool b) _ _ => some (.c (.bl b))
    | .Constant .none _ _ => some (.c .non)
    | .Name x _ => match sc.names.lookup x with
      | some .local => (ixOf N x).map .v
      | some .cell => (ixOf N x).map .v
      | some .free => (ixOf N x).map .v
      | some .globalImplicit => (T.csts.lookup x).map .c
      | _ => none
    | .Tuple es _ _ => if es.length ≤ 1000 then (cEs T n sc N es).map .tup else none
    | .List es _ => if es.length ≤ 1000 then (cEs T n sc N es).map .lst else none
    | .Dict [] [] _ => some .emp
    | .BinOp a op b _ => match cE T n sc N a, boOf op, cE T n sc N b with
      | some a', some o, some b' => some (.bin o a' b')
      | _, _, _ => none
    | .UnaryOp .Not a _ => (cE T n sc N a).map .not
    | .UnaryOp .USub a _ => (cE T n sc N a).map .neg
    | .BoolOp _ [a] _ => cE T n sc N a
    | .BoolOp .And (a :: b :: r) p => match cE T n sc N a, cE T n sc N (.BoolOp .And (b :: r) p) with
      | some a', some b' => some (.and a' b')
      | _, _ => none
    | .BoolOp .Or (a :: b :: r) p => match cE T n sc N a, cE T n sc N (.BoolOp .Or (b :: r) p) with
      | some a', some b' => some (.or a' b')
      | _, _ => none
    | .Compare a [op] [b] _ => match cE T n sc N a, cE T n sc N b with
      | some a', some b' => some (.cmp op a' b')
      | _, _ => none
    | .Compare a [op, op'] [b, c] _ => match cE T n sc N a, cE T n sc N b, cE T n sc N c with
      | some a', some b', some c' => some (.chain op op' a' b' c')
      | _, _, _ => none
    | .Subscript a (.Slice none none none _) _ => (cE T n sc N a).map fun a' => .sl a' a' a' false false
    | .Subscript a (.Slice (some l) none none _) _ => match cE T n sc N a, cE T n sc N l with
      | some a', some l' => some (.sl a' l' l' true false)
      | _, _ => none
    | .Subscript a (.Slice none (some h) none _) _ => match cE T n sc N a, cE T n sc N h with
      | some a', some h' => some (.sl a' h' h' false true)
      | _, _ => none
    | .Subscript a (.Slice (some l) (some h) none _) _ => match cE T n sc N a, cE T n sc N l, cE T n sc N h with
      | some a', some l', some h' => some (.sl a' l' h' true true)
      | _, _, _ => none
    | .Subscript a b _ => if plainSub b then (match cE T n sc N a, cE T n sc N b with
      | some a', some b' => some (.ix a' b')
      | _, _ => none) else none
    | .Call (.Name f _) args [] _ => if isGlob sc f = false then none else match args with
      | [] => none
      | a :: as => match ixOf T.fns f with
        | some i => (cEs T n sc N (a :: as)).map (.fn i)
        | none => match btOf.lookup f with
          | some b => (cEs T n sc N (a :: as)).map (.bt b)
          | none => if f = "isinstance" then (match as with
            | [.Name t _] => if isGlob sc t then (match tyOf.lookup t, cE T n sc N a with
              | some ty, some a' => some (.isi a' ty)
              | _, _ => none) else none
            | _ => none) else none
    | .ListComp elt [⟨.Name x _, it, ifs, 0⟩] scope _ => if compOk sc scope N x then
        (match it with
          | .Call (.Name r _) [a] [] _ => if r = "range" ∧ isGlob sc r = true then cComp T n sc N true a x elt ifs scope else cComp T n sc N false it x elt ifs scope
          | _ => cComp T n sc N false it x elt ifs scope) else none
    | .ListComp elt [⟨.Tuple [.Name x _, .Name y _] _ _, .Call (.Name r _) [a] [] _, [], 0⟩] scope _ => if (r = "enumerate" ∧ isGlob sc r = true) ∧ compOk2 sc scope N x y = true then
        (match cE T n sc N a, cE T n (relabS sc scope) (x :: y :: N) elt with
          | some a', some e' => some (.compE a' e')
          | _, _ => none) else none
    | .IfExp c a b _ => match cE T n sc N c, cE T n sc N a, cE T n sc N b with
      | some c', some a', some b' => some (.ite c' a' b')
      | _, _, _ => none
    | _ => none
def cEs (T : Tab) (n : Nat) (sc : Scope) (N : List Str) (es : List Expr) : Option (List Ex) := match n with
  | 0 => none
  | n + 1 => match es with
    | [] => some []
    | e :: r => match cE T n sc N e, cEs T n sc N r with
      | some e', some r' => some (e' :: r')
      | _, _ => none
def cComp (T : Tab) (n : Nat) (sc : Scope) (N : List Str) (rng : Bool) (src : Expr) (x : Str) (elt : Expr) (ifs : List Expr) (scope : Scope) : Option Ex := match n with
  | 0 => none
  | n + 1 => match cE T n sc N src, cE T n (relabS sc scope) (x :: N) elt with
    | some s', some e' => match ifs with
      | [] => some (.comp rng s' e')
      | [c] => match cE T n (relabS sc scope) (x :: N) c with
        | some c' => some (.compIf rng s' c' e')
        | none => none
      | _ => none
    | _, _ => none
end

/-! ### the readings -/
structure LRel (K : PySem.W.Frag) (H : Hp) (ι : Nat → Addr) (m : Nat) (loc : Loc) (σ : L2.St) : Prop where
  len : loc.length = σ.length
  at_ : ∀ (i : Nat) (d : D), loc[i]? = some (some d) → ∃ v : V, σ[i]? = some (some v) ∧ VRel K H ι m d v
theorem LRel.ext {K : PySem.W.Frag} {H H' : Hp} {ι ι' : Nat → Addr} {m m' : Nat} {loc : Loc} {σ : L2.St} (L : LRel K H ι m loc σ) (E : Ext H H' ι ι' m m') : LRel K H' ι' m' loc σ :=
  ⟨L.len, fun i d e => let ⟨v, h1, h2⟩ := L.at_ i d e; ⟨v, h1, h2.ext E⟩⟩
theorem LRel.cons {K : PySem.W.Frag} {H : Hp} {ι : Nat → Addr} {m : Nat} {loc : Loc} {σ : L2.St} {d : D} {v : V} (L : LRel K H ι m loc σ) (r : VRel K H ι m d v) : LRel K H ι m (some d :: loc) (some v :: σ) :=
  ⟨by simp [L.len], fun i e h => by
    cases i with
    | zero =>
      have : d = e := by simpa using h
      subst this
      exact ⟨v, rfl, r⟩
    | succ i => simpa using L.at_ i e (by simpa using h)⟩
theorem LRel.set {K : PySem.W.Frag} {H : Hp} {ι : Nat → Addr} {m : Nat} {loc : Loc} {σ : L2.St} {d : D} {v : V} (L : LRel K H ι m loc σ) (j : Nat) (r : VRel K H ι m d v) : LRel K H ι m (loc.set j (some d)) (σ.set j (some v)) :=
  ⟨by simp [L.len], fun i e h => by
    by_cases hj : j = i
    · subst hj
      have hl : j < loc.length := by
        have := (List.getElem?_eq_some_iff.mp h).1
        simpa using this
      rw [List.getElem?_set_self hl] at h
      cases h
      exact ⟨v, by rw [List.getElem?_set_self (by rw [← L.len]; exact hl)], r⟩
    · rw [List.getElem?_set_ne hj] at h
      obtain ⟨w, h1, h2⟩ := L.at_ i e h
      exact ⟨w, by rw [List.getElem?_set_ne hj]; exact h1, h2⟩⟩
def tE (K : PySem.W.Frag) (m : Loc → M D) : TE := fun σ H Q => ∃ ι st loc, Sim K H ι st ∧ LRel K H ι st.length loc σ ∧ Post K H ι st (m loc st) Q
def PostT (K : PySem.W.Frag) (H : Hp) (ι : Nat → Addr) (st : Sto) (r : R D) (Q : Bool → Hp → Prop) : Prop := match r with
  | .ok (.bl k) st' => ∀ H' ι', Ext H H' ι ι' st.length st'.length → Sim K H' ι' st' → Q k H'
  | _ => False
def tT (K : PySem.W.Frag) (m : Loc → M D) : TT := fun σ H Q => ∃ ι st loc, Sim K H ι st ∧ LRel K H ι st.length loc σ ∧ PostT K H ι st (m loc st) Q
def PostA (K : PySem.W.Frag) (H : Hp) (ι : Nat → Addr) (st : Sto) (r : R (List D)) (Q : List V → Hp → Prop) : Prop := match r with
  | .ok ds st' => ∀ H' ι' vs, Ext H H' ι ι' st.length st'.length → Sim K H' ι' st' → VRels K H' ι' st'.length ds vs → Q vs H'
  | .bad => False
def tA (K : PySem.W.Frag) (m : Loc → M (List D)) : TA := fun σ H Q => ∃ ι st loc, Sim K H ι st ∧ LRel K H ι st.length loc σ ∧ PostA K H ι st (m loc st) Q
section
variable {K : PySem.W.Frag} {H : Hp} {ι : Nat → Addr} {st : Sto} {σ : L2.St} {loc : Loc}
theorem tE_of {m : Loc → M D} {Q : VK} {d : D} {st1 : Sto} (S : Sim K H ι st) (L : LRel K H ι st.length loc σ) (e : m loc st = .ok d st1) (k : ∀ H1 ι1 v, Ext H H1 ι ι1 st.length st1.length → Sim K H1 ι1 st1 → VRel K H1 ι1 st1.length d v → Q v H1) : tE K m σ H Q :=
  ⟨ι, st, loc, S, L, by rw [e]; exact k⟩
theorem tT_of {m : Loc → M D} {Q : Bool → Hp → Prop} {b : Bool} {st1 : Sto} (S : Sim K H ι st) (L : LRel K H ι st.length loc σ) (e : m loc st = .ok (.bl b) st1) (k : ∀ H1 ι1, Ext H H1 ι ι1 st.length st1.length → Sim K H1 ι1 st1 → Q b H1) : tT K m σ H Q :=
  ⟨ι, st, loc, S, L, by rw [e]; exact k⟩
theorem tA_of {m : Loc → M (List D)} {Q : List V → Hp → Prop} {ds : List D} {st1 : Sto} (S : Sim K H ι st) (L : LRel K H ι st.length loc σ) (e : m loc st = .ok ds st1) (k : ∀ H1 ι1 vs, Ext H H1 ι ι1 st.length st1.length → Sim K H1 ι1 st1 → VRels K H1 ι1 st1.length ds vs → Q vs H1) : tA K m σ H Q :=
  ⟨ι, st, loc, S, L, by rw [e]; exact k⟩
theorem bnd_inv {α : Type} {m : M α} {f : α → M D} {st0 : Sto} {Q : VK} (P : Post K H ι st (bnd m f st0) Q) : ∃ a st1, m st0 = .ok a st1 ∧ Post K H ι st (f a st1) Q := by
  unfold bnd at P
  cases e : m st0 with
  | ok a st1 => rw [e] at P; exact ⟨a, st1, rfl, P⟩
  | bad => rw [e] at P; exact P.elim
theorem bnd_invT {α : Type} {m : M α} {f : α → M D} {st0 : Sto} {Q : Bool → Hp → Prop} (P : PostT K H ι st (bnd m f st0) Q) : ∃ a st1, m st0 = .ok a st1 ∧ PostT K H ι st (f a st1) Q := by
  unfold bnd at P
  cases e : m st0 with
  | ok a st1 => rw [e] at P; exact ⟨a, st1, rfl, P⟩
  | bad => rw [e] at P; exact P.elim
theorem bnd_invA {α β : Type} {m : M α} {f : α → M (List D)} {st0 : Sto} {Q : List V → Hp → Prop} (P : PostA K H ι st (bnd m f st0) Q) : ∃ a st1, m st0 = .ok a st1 ∧ PostA K H ι st (f a st1) Q := by
  unfold bnd at P
  cases e : m st0 with
  | ok a st1 => rw [e] at P; exact ⟨a, st1, rfl, P⟩
  | bad => rw [e] at P; exact P.elim
theorem ofO_inv {α : Type} {o : Option α} {a : α} {st0 st1 : Sto} (e : ofO o st0 = .ok a st1) : o = some a ∧ st1 = st0 := by
  unfold ofO at e
  cases o with
  | none => cases e
  | some b => cases e; exact ⟨rfl, rfl⟩
theorem bool?_inv {x : D} {b : Bool} (e : bool? x = some b) : x = .bl b := by
  cases x <;> cases e
  rfl
theorem int?_inv {x : D} {b : Int} (e : int? x = some b) : x = .int b := by
  cases x <;> cases e
  rfl
theorem PostT.inv {r : R D} {Q : Bool → Hp → Prop} (P : PostT K H ι st r Q) : ∃ b st1, r = .ok (.bl b) st1 ∧ ∀ H' ι', Ext H H' ι ι' st.length st1.length → Sim K H' ι' st1 → Q b H' := by
  unfold PostT at P
  split at P
  · exact ⟨_, _, rfl, P⟩
  · exact P.elim
theorem PostT.mono {r : R D} {Q : Bool → Hp → Prop} {H1 : Hp} {ι1 : Nat → Addr} {st1 : Sto} (P : PostT K H ι st r Q) (E : Ext H H1 ι ι1 st.length st1.length) : PostT K H1 ι1 st1 r Q := by
  obtain ⟨b, st2, rfl, k⟩ := P.inv
  exact fun H' ι' E' S' => k H' ι' (E.trans E') S'
theorem PostA.mono {r : R (List D)} {Q : List V → Hp → Prop} {H1 : Hp} {ι1 : Nat → Addr} {st1 : Sto} (P : PostA K H ι st r Q) (E : Ext H H1 ι ι1 st.length st1.length) : PostA K H1 ι1 st1 r Q := by
  cases r with
  | ok ds st2 => exact fun H' ι' vs E' S' r' => P H' ι' vs (E.trans E') S' r'
  | bad => exact P
end
theorem _root_.L2.PE.imp {X : Cx} {e : Expr} {t t' : TE} (h : PE X e t) (k : ∀ σ H Q, t' σ H Q → t σ H Q) : PE X e t' := fun pins s σ H Q I q => h pins s σ H Q I (k σ H Q q)
theorem _root_.L2.PT.imp {X : Cx} {e : Expr} {t t' : TT} (h : PT X e t) (k : ∀ σ H Q, t' σ H Q → t σ H Q) : PT X e t' := fun pins s σ H Q I q => h pins s σ H Q I (k σ H Q q)
theorem _root_.L2.PW.imp {X : Cx} {e : Expr} {t t' : TT} (h : PW X e t) (k : ∀ σ H Q, t' σ H Q → t σ H Q) : PW X e t' := fun wh pins s σ H Q I q => h wh pins s σ H Q I (k σ H Q q)
theorem _root_.L2.PA.imp {X : Cx} {es : List Expr} {t t' : TA} (h : PA X es t) (k : ∀ σ H Q, t' σ H Q → t σ H Q) : PA X es t' := fun pos pins s σ H Q I q => h pos pins s σ H Q I (k σ H Q q)

/-! ### the context -/
/-- what a def promises -/
def spF (K : PySem.W.Frag) (n : Nat) (f : List D → M D) : Sp := fun vs H Q _ => vs.length = n ∧ ∃ ι st ds, Sim K H ι st ∧ VRels K H ι st.length ds vs ∧ Post K H ι st (f ds st) Q
structure Ctx (T : Tab) (g : Fns) (X : Cx) (sc : Scope) (N : List Str) : Prop where
  sc : X.env.scope = sc
  n : X.N = N
  nd : N.Nodup
  nm : ∀ x ∈ N, (x == ("__debug__" : Str)) = false ∧ (x == ("__classdict__" : Str)) = false
  calm : X.calm = true
  un : X.A.units + 100 < cLine
  fns : ∀ i f, T.fns[i]? = some f → (f == ("__debug__" : Str)) = false ∧ ∃ a fd ps k, X.mg f = some (.ref a) ∧ PySem.W.keepIn X.K (.ref a) = true ∧ Binds X.K fd ps [] ∧ Room k X.A ∧ (∀ ds st, ds.length ≠ ps.length → g i ds st = R.bad) ∧ FnOk X.prog X.w X.K X.mg X.base CX0 k a fd ps (spF X.K ps.length (g i))
  csts : ∀ x d, T.csts.lookup x = some d → (x == ("__debug__" : Str)) = false ∧ ∃ u v, X.mg x = some u ∧ RelV v u ∧ ∀ H ι m, VRel X.K H ι m d v
  blt : ∀ x ∈ blts, X.mg x = none
end Ev

set_option Elab.async false
set_option linter.all false
set_option maxRecDepth 100000
set_option maxHeartbeats 4000000
/-! LOOPS AND COMPREHENSIONS over the store -/
namespace Ev
open PySem PySem.Spec PyProof.Rows L2

/-- a list or a tuple, whichever comes -/
def iSeq (K : PySem.W.Frag) (tl : TE) : TI := fun σ H R => tl σ H fun x H1 => ∃ a, x = .ref a ∧ (((∃ xs, SqL K H1 a xs) ∧ R (Itl K a) H1) ∨ ((∃ xs, SqT K H1 a xs) ∧ R (Itt K a) H1))
theorem pi_seq {X : Cx} {tg l : Expr} {tl : TE} (hl : PE X l tl) : PI X tg l (iSeq X.K tl) := by
  intro pins s σ H R I h
  refine thn (hl pins s σ H _ I h) fun v s1 ⟨x, H1, I1, r1, q1⟩ => ?_
  obtain ⟨a, rfl, ⟨⟨xs, hq⟩, q⟩ | ⟨⟨xs, hq⟩, q⟩⟩ := q1
  · cases r1
    obtain ⟨its, rv, p, hz⟩ := I1.list hq
    refine wpAny_pyIter_list p.isList ?_
    refine ⟨s1.heap.objs.size, [s1.heap.objs.size], _, _, H1, rfl, I1.kept (t' := s1.toks) fun b o e => Heap.get?_push_of_some _ e, turn_list a _, ⟨_, Heap.get?_push_size _ rfl, rfl, rfl⟩, fun b hb => ?_, q⟩
    have e : b = s1.heap.objs.size := by simpa using hb
    subst e
    exact I1.fpOk (Nat.le_refl _) (I1.hok.fresh (Nat.le_refl _))
  · cases r1
    obtain ⟨its, rv, p, hz⟩ := I1.tuple hq
    refine wpAny_pyIter_tuple (show s1.heap.IsTuple a its.toArray from p) ?_
    refine ⟨s1.heap.objs.size, [s1.heap.objs.size], _, _, H1, rfl, I1.kept (t' := s1.toks) fun b o e => Heap.get?_push_of_some _ e, turn_tuple a _, ⟨_, Heap.get?_push_size _ rfl, rfl, rfl⟩, fun b hb => ?_, q⟩
    have e : b = s1.heap.objs.size := by simpa using hb
    subst e
    exact I1.fpOk (Nat.le_refl _) (I1.hok.fresh (Nat.le_refl _))

theorem rangeD_rel {K : PySem.W.Frag} {H : Hp} {ι : Nat → Addr} {m : Nat} (n : Nat) : VRels K H ι m (rangeD n) ((List.range n).map fun (i : Nat) => V.int (i : Int)) := by
  unfold rangeD
  generalize List.range n = l
  induction l with
  | nil => exact .nil
  | cons i l ih => exact .cons (.int _) ih
/-- what a loop walks in the heap is what it walks over the store -/
def Corr (K : PySem.W.Frag) (J : It) (s : Src) (H0 : Hp) (ι0 : Nat → Addr) (m0 : Nat) : Prop := ∀ H ι st i, Ext H0 H ι0 ι m0 st.length → Sim K H ι st →
  (nxt s i st = some none → J.stop i H) ∧ ∀ x, nxt s i st = some (some x) → J.go i H ∧ ∀ v H', J.yld i H v H' → H' = H ∧ VRel K H ι st.length x v
theorem Corr.tup {K : PySem.W.Frag} {a : Addr} {H0 : Hp} {ι0 : Nat → Addr} {m0 : Nat} {xs : List D} {vs : List V} (h : SqT K H0 a vs) (r : VRels K H0 ι0 m0 xs vs) : Corr K (Itt K a) (.its xs) H0 ι0 m0 := fun H ι st i E S => by
  have l := r.length
  have h' := SqT.ext E.toExt0 h
  refine ⟨fun e => ?_, fun x e => ?_⟩
  · have e : xs[i]? = none := Option.some.inj e
    exact ⟨vs, h', by have := List.getElem?_eq_none_iff.mp e; omega⟩
  · have e : xs[i]? = some x := Option.some.inj e
    obtain ⟨v, hv, rv⟩ := (r.ext E).get e
    refine ⟨⟨vs, v, h', hv⟩, fun w H' y => ⟨y.1, ?_⟩⟩
    have := y.2 vs h'
    rw [hv] at this
    cases this
    exact rv
theorem Corr.fl {K : PySem.W.Frag} {a : Addr} {H0 : Hp} {ι0 : Nat → Addr} {m0 : Nat} {xs : List D} {vs : List V} (h : SqF K H0 a vs) (r : VRels K H0 ι0 m0 xs vs) : Corr K (Itl K a) (.its xs) H0 ι0 m0 := fun H ι st i E S => by
  have l := r.length
  have h' := (SqF.ext E.toExt0 h).sql
  refine ⟨fun e => ?_, fun x e => ?_⟩
  · have e : xs[i]? = none := Option.some.inj e
    exact ⟨vs, h', by have := List.getElem?_eq_none_iff.mp e; omega⟩
  · have e : xs[i]? = some x := Option.some.inj e
    obtain ⟨v, hv, rv⟩ := (r.ext E).get e
    refine ⟨⟨vs, v, h', hv⟩, fun w H' y => ⟨y.1, ?_⟩⟩
    have := y.2 vs h'
    rw [hv] at this
    cases this
    exact rv
theorem Corr.ref {K : PySem.W.Frag} {n : Nat} {H0 : Hp} {ι0 : Nat → Addr} {m0 : Nat} (hn : n < m0) : Corr K (Itl K (ι0 n)) (.at n) H0 ι0 m0 := fun H ι st i E S => by
  simp only [nxt]
  cases q : st[n]? with
  | none => exact ⟨fun e => (by cases e), fun x e => (by cases e)⟩
  | some o =>
    have ob := S.ob n o q
    rw [E.ad n hn] at ob
    cases o with
    | dct => exact ⟨fun e => (by cases e), fun x e => (by cases e)⟩
    | lst xs =>
      obtain ⟨vs, h1, r⟩ := ob
      have l := r.length
      have h' : SqL K H (ι0 n) vs := SqL.of h1
      refine ⟨fun e => ?_, fun x e => ?_⟩
      · have e : xs[i]? = none := Option.some.inj e
        exact ⟨vs, h', by have := List.getElem?_eq_none_iff.mp e; omega⟩
      · have e : xs[i]? = some x := Option.some.inj e
        obtain ⟨v, hv, rv⟩ := r.get e
        refine ⟨⟨vs, v, h', hv⟩, fun w H' y => ⟨y.1, ?_⟩⟩
        have := y.2 vs h'
        rw [hv] at this
        cases this
        exact rv
theorem Corr.rng {K : PySem.W.Frag} {H0 : Hp} {ι0 : Nat → Addr} {m0 k : Nat} : Corr K (Itr 0 k) (.its (rangeD k)) H0 ι0 m0 := fun H ι st i E S => by
  refine ⟨fun e => ?_, fun x e => ?_⟩
  · have e : (rangeD k)[i]? = none := Option.some.inj e
    show k ≤ i
    have := List.getElem?_eq_none_iff.mp e
    simpa [rangeD] using this
  · have e : (rangeD k)[i]? = some x := Option.some.inj e
    have hi : i < k := by
      have := (List.getElem?_eq_some_iff.mp e).1
      simpa [rangeD] using this
    have hx : x = .int (i : Int) := by
      have : (rangeD k)[i]? = some (.int (i : Int)) := by simp [rangeD, hi]
      rw [this] at e
      exact (Option.some.inj e).symm
    subst hx
    refine ⟨hi, fun v H' y => ⟨y.1, ?_⟩⟩
    have : v = .int (0 + (i : Int)) := y.2
    rw [this, Int.zero_add]
    exact .int _

/-- one turn's element, as the reading of a comprehension asks it -/
structure EltOk (K : PySem.W.Frag) (tc : TT) (te : TE) (f : Loc → D → M (Option D)) : Prop where
  turn : ∀ {H : Hp} {ι : Nat → Addr} {st st1 : Sto} {loc : Loc} {σ : L2.St} {x : D} {v : V} {o : Option D} {Q : Option V → Hp → Prop}, Sim K H ι st → LRel K H ι st.length loc σ → VRel K H ι st.length x v → f loc x st = .ok o st1 →
    (∀ H1 ι1 w, Ext H H1 ι ι1 st.length st1.length → Sim K H1 ι1 st1 → (match o, w with | some y, some z => VRel K H1 ι1 st1.length y z | none, none => True | _, _ => False) → Q w H1) →
    tc (some v :: σ) H fun b H3 => if b = true then te (some v :: σ) H3 fun y H4 => Q (some y) H4 else Q none H3

theorem comp_ok {K : PySem.W.Frag} {tc : TT} {te : TE} {f : Loc → D → M (Option D)} (ok : EltOk K tc te f) {J : It} {s : Src} {H : Hp} {ι : Nat → Addr} {st st0 : Sto} {H0 : Hp} {ι0 : Nat → Addr} {loc : Loc} {σ : L2.St} {Q : VK}
    (F : Corr K J s H ι st.length) (E0 : Ext H0 H ι0 ι st0.length st.length) (S : Sim K H ι st) (L : LRel K H ι st.length loc σ) (P : Post K H0 ι0 st0 (compS (f loc) s st) Q) : ∀ Dd, H Dd = none → ∃ W : Nat → Nat → List V → Hp → Prop, (∃ m, W 0 m [] (upd H Dd (.lst []))) ∧ ∀ i m ys H2, W i m ys H2 →
      (J.stop i H2 ∧ Q (.ref Dd) H2) ∨ (J.go i H2 ∧ ∃ N : List V → Hp → Prop, (∀ ys' H', N ys' H' → ∃ m', m' < m ∧ W (i + 1) m' ys' H') ∧
        ∀ x H', J.yld i H2 x H' → tc (some x :: σ) H' fun b H3 => if b = true then te (some x :: σ) H3 fun y H4 => H4 Dd = some (.lst ys) ∧ ys.length < sizeLine ∧ N (ys ++ [y]) (upd H4 Dd (.lst (ys ++ [y]))) else N ys H3) := by
  intro Dd hD
  have sz : sizeLine = 16777216 := sizeLine_eq
  unfold compS at P
  split at P
  case isFalse => exact P.elim
  case isTrue hz =>
  refine ⟨fun i m ys H2 => i + m ≤ 1000001 ∧ ∃ ι2 st2 acc, Ext H H2 ι ι2 st.length st2.length ∧ Sim K H2 ι2 st2 ∧ H2 Dd = some (.lst ys) ∧ (∀ n, n < st2.length → ι2 n ≠ Dd) ∧ VRels K H2 ι2 st2.length acc ys ∧ acc.length ≤ i ∧
      Post K H0 ι0 st0 (bnd (compN (f loc) s m i acc) alloc st2) Q, ⟨lenS s st + 1, by omega, ι, st, [], ?_, ?_, upd_same, fun n hn => ?_, .nil, Nat.le_refl _, P⟩, ?_⟩
  · exact ⟨⟨Nat.le_refl _, fun _ _ => rfl, fun b xs e => by rw [upd_ne (ne_of_none e hD)]; exact e, fun b ob u e => by rw [upd_ne (ne_of_none e hD)]; exact e⟩, fun b ob e k => ⟨by rw [upd_ne (ne_of_none e hD)]; exact e, k⟩⟩
  · refine ⟨S.inj, fun n o e => ?_⟩
    have hn : n < st.length := (List.getElem?_eq_some_iff.mp e).1
    have hne : ι n ≠ Dd := by rcases S.obj hn with ⟨_, h⟩ | ⟨_, h⟩ <;> exact ne_of_none h hD
    have E : Ext0 H (upd H Dd (.lst [])) ι ι st.length st.length := ⟨Nat.le_refl _, fun _ _ => rfl, fun b xs e => by rw [upd_ne (ne_of_none e hD)]; exact e, fun b ob u e => by rw [upd_ne (ne_of_none e hD)]; exact e⟩
    have old := S.ob n o e
    cases o with
    | lst ds => obtain ⟨zs, h1, h2⟩ := old; exact ⟨zs, by rw [upd_ne hne]; exact h1, VRels.ext0 E h2⟩
    | dct => show upd H Dd _ (ι n) = _; rw [upd_ne hne]; exact old
  · rcases S.obj hn with ⟨_, h⟩ | ⟨_, h⟩ <;> exact ne_of_none h hD
  · rintro i m ys H2 ⟨hm, ι2, st2, acc, E2, S2, hDd, ap, ra, la, P2⟩
    obtain ⟨zs, st9, e9, P9⟩ := bnd_inv P2
    obtain ⟨c1, c2⟩ := F H2 ι2 st2 i E2 S2
    cases m with
    | zero => cases e9
    | succ m =>
      simp only [compN] at e9
      cases en : nxt s i st2 with
      | none => rw [en] at e9; cases e9
      | some ox =>
        rw [en] at e9
        cases ox with
        | none =>
          have e9 : R.ok acc st2 = R.ok zs st9 := e9
          cases e9
          refine .inl ⟨c1 en, ?_⟩
          obtain ⟨ι', h1, h2, h3⟩ := S2.add hDd ap ra
          have l : (st2 ++ [O.lst acc]).length = st2.length + 1 := by simp
          refine P9 H2 ι' (.ref Dd) ?_ h3 ?_
          · rw [l]
            have E6 := E0.trans E2
            refine ⟨⟨Nat.le_succ_of_le E6.le, fun n hn => (h1 n (Nat.lt_of_lt_of_le hn E6.le)).trans (E6.ad n hn), E6.tp, E6.fz⟩, fun b ob e k => ?_⟩
            obtain ⟨g1, g2⟩ := E6.fr b ob e k
            refine ⟨g1, fun n hn => ?_⟩
            by_cases hn' : n = st2.length
            · rw [hn', h2]
              obtain ⟨g3, _⟩ := E0.fr b ob e k
              exact (ne_of_none g3 hD).symm
            · rw [h1 n (by omega)]; exact g2 n (by omega)
          · rw [← h2, l]; exact .ref (Nat.lt_succ_self _)
        | some x =>
          obtain ⟨hgo, hyl⟩ := c2 x en
          refine .inr ⟨hgo, fun ys' H' => ∃ ι2 st2 acc, Ext H H' ι ι2 st.length st2.length ∧ Sim K H' ι2 st2 ∧ H' Dd = some (.lst ys') ∧ (∀ n, n < st2.length → ι2 n ≠ Dd) ∧ VRels K H' ι2 st2.length acc ys' ∧ acc.length ≤ i + 1 ∧
            Post K H0 ι0 st0 (bnd (compN (f loc) s m (i + 1) acc) alloc st2) Q, fun ys' H' b => ⟨m, Nat.lt_succ_self _, by omega, b⟩, fun v H' y => ?_⟩
          obtain ⟨rfl, rv⟩ := hyl v H' y
          simp only [bnd] at e9
          cases e3 : f loc x st2 with
          | bad => rw [e3] at e9; cases e9
          | ok o st3 =>
            rw [e3] at e9
            refine ok.turn (Q := fun w H4 => match w with
              | some y => H4 Dd = some (.lst ys) ∧ ys.length < sizeLine ∧ ∃ ι2 st2 acc, Ext H (upd H4 Dd (.lst (ys ++ [y]))) ι ι2 st.length st2.length ∧ Sim K (upd H4 Dd (.lst (ys ++ [y]))) ι2 st2 ∧ upd H4 Dd (.lst (ys ++ [y])) Dd = some (.lst (ys ++ [y])) ∧ (∀ n, n < st2.length → ι2 n ≠ Dd) ∧ VRels K (upd H4 Dd (.lst (ys ++ [y]))) ι2 st2.length acc (ys ++ [y]) ∧ acc.length ≤ i + 1 ∧
                  Post K H0 ι0 st0 (bnd (compN (f loc) s m (i + 1) acc) alloc st2) Q
              | none => ∃ ι2 st2 acc, Ext H H4 ι ι2 st.length st2.length ∧ Sim K H4 ι2 st2 ∧ H4 Dd = some (.lst ys) ∧ (∀ n, n < st2.length → ι2 n ≠ Dd) ∧ VRels K H4 ι2 st2.length acc ys ∧ acc.length ≤ i + 1 ∧
                  Post K H0 ι0 st0 (bnd (compN (f loc) s m (i + 1) acc) alloc st2) Q) S2 (L.ext E2) rv e3 fun H4 ι4 w E4 S4 r4 => ?_
            obtain ⟨hDd4, ap4⟩ := E4.fr Dd _ hDd ap
            cases o with
            | none =>
              cases w with
              | some _ => exact r4.elim
              | none =>
                have e9' : compN (f loc) s m (i + 1) acc st3 = .ok zs st9 := e9
                refine ⟨ι4, st3, acc, E2.trans E4, S4, hDd4, ap4, ra.ext E4, by omega, ?_⟩
                unfold bnd
                rw [e9']
                exact P9
            | some yd =>
              cases w with
              | none => exact r4.elim
              | some yv =>
                have e9' : compN (f loc) s m (i + 1) (acc ++ [yd]) st3 = .ok zs st9 := e9
                have lra := ra.length
                refine ⟨hDd4, by omega, ι4, st3, acc ++ [yd], ?_⟩
                have E5 : Ext0 H4 (upd H4 Dd (.lst (ys ++ [yv]))) ι4 ι4 st3.length st3.length := ⟨Nat.le_refl _, fun _ _ => rfl, fun b xs e => by rw [upd_ne (ne_of e hDd4 (by intro z; cases z))]; exact e, fun b ob u e => by rw [upd_ne (ne_of e hDd4 (by intro z; cases z))]; exact e⟩
                refine ⟨?_, ⟨S4.inj, fun n ob e => ?_⟩, upd_same, ap4, VRels.ext0 E5 ((ra.ext E4).append (.cons r4 .nil)), by simp; omega, ?_⟩
                · have E6 := E2.trans E4
                  refine ⟨⟨E6.le, E6.ad, fun b xs e => E5.tp b xs (E6.tp b xs e), fun b ob u e => E5.fz b ob u (E6.fz b ob u e)⟩, fun b ob e k => ?_⟩
                  obtain ⟨g1, g2⟩ := E6.fr b ob e k
                  exact ⟨by rw [upd_ne (ne_of_none e hD)]; exact g1, g2⟩
                · have hn : n < st3.length := (List.getElem?_eq_some_iff.mp e).1
                  have old := S4.ob n ob e
                  cases ob with
                  | lst ds => obtain ⟨zs', h1, h2⟩ := old; exact ⟨zs', by rw [upd_ne (ap4 n hn)]; exact h1, VRels.ext0 E5 h2⟩
                  | dct => show upd H4 Dd _ (ι4 n) = _; rw [upd_ne (ap4 n hn)]; exact old
                · unfold bnd
                  rw [e9']
                  exact P9
end Ev

set_option Elab.async false
set_option linter.all false
set_option maxRecDepth 100000
set_option maxHeartbeats 4000000
/-! COMPREHENSIONS over enumerate -/
namespace Ev
open PySem PySem.Spec PyProof.Rows L2

/-- .. whatever a turn does with the item -/
def CorrG (K : PySem.W.Frag) (J : It) (s : Src) (H0 : Hp) (ι0 : Nat → Addr) (m0 : Nat) : Prop := ∀ H ι st i, Ext H0 H ι0 ι m0 st.length → Sim K H ι st →
  (nxt s i st = some none → J.stop i H) ∧ ∀ x, nxt s i st = some (some x) → J.go i H ∧ ∀ v H', J.yld i H v H' → Ext H H' ι ι st.length st.length ∧ Sim K H' ι st ∧ VRel K H' ι st.length x v
theorem Sim.tup {K : PySem.W.Frag} {H : Hp} {ι : Nat → Addr} {st : Sto} (S : Sim K H ι st) {p : Addr} (hp : H p = none) {xs : List V} : Ext H (upd H p (.tup xs)) ι ι st.length st.length ∧ Sim K (upd H p (.tup xs)) ι st := by
  have E : Ext H (upd H p (.tup xs)) ι ι st.length st.length := ⟨⟨Nat.le_refl _, fun _ _ => rfl, fun b ys e => by rw [upd_ne (ne_of_none e hp)]; exact e, fun b ob u e => by rw [upd_ne (ne_of_none e hp)]; exact e⟩, fun b ob e k => ⟨by rw [upd_ne (ne_of_none e hp)]; exact e, k⟩⟩
  refine ⟨E, S.inj, fun n o e => ?_⟩
  have hn : n < st.length := (List.getElem?_eq_some_iff.mp e).1
  have hne : ι n ≠ p := by rcases S.obj hn with ⟨_, h⟩ | ⟨_, h⟩ <;> exact ne_of_none h hp
  have old := S.ob n o e
  cases o with
  | lst ds => obtain ⟨zs, h1, h2⟩ := old; exact ⟨zs, by rw [upd_ne hne]; exact h1, h2.ext E⟩
  | dct => show upd H p _ (ι n) = _; rw [upd_ne hne]; exact old
theorem CorrG.en {K : PySem.W.Frag} {n : Nat} {H0 : Hp} {ι0 : Nat → Addr} {m0 : Nat} (hn : n < m0) : CorrG K (Ite K (ι0 n)) (.en n) H0 ι0 m0 := fun H ι st i E S => by
  simp only [nxt]
  cases q : st[n]? with
  | none => exact ⟨fun e => (by cases e), fun x e => (by cases e)⟩
  | some o =>
    have ob := S.ob n o q
    rw [E.ad n hn] at ob
    cases o with
    | dct => exact ⟨fun e => (by cases e), fun x e => (by cases e)⟩
    | lst xs =>
      obtain ⟨vs, h1, r⟩ := ob
      have l := r.length
      have h' : SqL K H (ι0 n) vs := SqL.of h1
      refine ⟨fun e => ?_, fun x e => ?_⟩
      · have e : xs[i]?.map (fun x => D.tup [.int (i : Int), x]) = none := Option.some.inj e
        have e : xs[i]? = none := by simpa using e
        exact ⟨vs, h', by have := List.getElem?_eq_none_iff.mp e; omega⟩
      · have e : xs[i]?.map (fun x => D.tup [.int (i : Int), x]) = some x := Option.some.inj e
        cases e2 : xs[i]? with
        | none => rw [e2] at e; cases e
        | some y =>
          rw [e2] at e
          have e : D.tup [.int (i : Int), y] = x := Option.some.inj e
          subst e
          obtain ⟨v, hv, rv⟩ := r.get e2
          refine ⟨⟨vs, v, h', hv⟩, fun w H' yy => ?_⟩
          obtain ⟨p, z, rfl, hp, rfl, hz⟩ := yy
          have := hz vs h'
          rw [hv] at this
          cases this
          obtain ⟨E1, S1⟩ := S.tup (xs := [.int (i : Int), v]) hp
          exact ⟨E1, S1, .tup (.inl (.inl upd_same)) (.cons (.int _) (.cons (rv.ext E1) .nil))⟩
structure EltG (K : PySem.W.Frag) (tt : V → Hp → (Option V → Hp → Prop) → Prop) (f : D → M (Option D)) (H0 : Hp) (ι0 : Nat → Addr) (m0 : Nat) : Prop where
  turn : ∀ {H : Hp} {ι : Nat → Addr} {st st1 : Sto} {x : D} {v : V} {o : Option D} {Q : Option V → Hp → Prop}, Ext H0 H ι0 ι m0 st.length → Sim K H ι st → VRel K H ι st.length x v → f x st = .ok o st1 →
    (∀ H1 ι1 w, Ext H H1 ι ι1 st.length st1.length → Sim K H1 ι1 st1 → (match o, w with | some y, some z => VRel K H1 ι1 st1.length y z | none, none => True | _, _ => False) → Q w H1) → tt v H Q
theorem comp_okG {K : PySem.W.Frag} {tt : V → Hp → (Option V → Hp → Prop) → Prop} {f : D → M (Option D)} {J : It} {s : Src} {H : Hp} {ι : Nat → Addr} {st st0 : Sto} {H0 : Hp} {ι0 : Nat → Addr} {Q : VK} (ok : EltG K tt f H ι st.length)
    (F : CorrG K J s H ι st.length) (E0 : Ext H0 H ι0 ι st0.length st.length) (S : Sim K H ι st) (P : Post K H0 ι0 st0 (compS f s st) Q) : ∀ Dd, H Dd = none → ∃ W : Nat → Nat → List V → Hp → Prop, (∃ m, W 0 m [] (upd H Dd (.lst []))) ∧ ∀ i m ys H2, W i m ys H2 →
      (J.stop i H2 ∧ Q (.ref Dd) H2) ∨ (J.go i H2 ∧ ∃ N : List V → Hp → Prop, (∀ ys' H', N ys' H' → ∃ m', m' < m ∧ W (i + 1) m' ys' H') ∧
        ∀ x H', J.yld i H2 x H' → tt x H' fun w H4 => match w with
          | some y => H4 Dd = some (.lst ys) ∧ ys.length < sizeLine ∧ N (ys ++ [y]) (upd H4 Dd (.lst (ys ++ [y])))
          | none => N ys H4) := by
  intro Dd hD
  have sz : sizeLine = 16777216 := sizeLine_eq
  unfold compS at P
  split at P
  case isFalse => exact P.elim
  case isTrue hz =>
  refine ⟨fun i m ys H2 => i + m ≤ 1000001 ∧ ∃ ι2 st2 acc, Ext H H2 ι ι2 st.length st2.length ∧ Sim K H2 ι2 st2 ∧ H2 Dd = some (.lst ys) ∧ (∀ n, n < st2.length → ι2 n ≠ Dd) ∧ VRels K H2 ι2 st2.length acc ys ∧ acc.length ≤ i ∧
      Post K H0 ι0 st0 (bnd (compN f s m i acc) alloc st2) Q, ⟨lenS s st + 1, by omega, ι, st, [], ?_, ?_, upd_same, fun n hn => ?_, .nil, Nat.le_refl _, P⟩, ?_⟩
  · exact ⟨⟨Nat.le_refl _, fun _ _ => rfl, fun b xs e => by rw [upd_ne (ne_of_none e hD)]; exact e, fun b ob u e => by rw [upd_ne (ne_of_none e hD)]; exact e⟩, fun b ob e k => ⟨by rw [upd_ne (ne_of_none e hD)]; exact e, k⟩⟩
  · refine ⟨S.inj, fun n o e => ?_⟩
    have hn : n < st.length := (List.getElem?_eq_some_iff.mp e).1
    have hne : ι n ≠ Dd := by rcases S.obj hn with ⟨_, h⟩ | ⟨_, h⟩ <;> exact ne_of_none h hD
    have E : Ext0 H (upd H Dd (.lst [])) ι ι st.length st.length := ⟨Nat.le_refl _, fun _ _ => rfl, fun b xs e => by rw [upd_ne (ne_of_none e hD)]; exact e, fun b ob u e => by rw [upd_ne (ne_of_none e hD)]; exact e⟩
    have old := S.ob n o e
    cases o with
    | lst ds => obtain ⟨zs, h1, h2⟩ := old; exact ⟨zs, by rw [upd_ne hne]; exact h1, VRels.ext0 E h2⟩
    | dct => show upd H Dd _ (ι n) = _; rw [upd_ne hne]; exact old
  · rcases S.obj hn with ⟨_, h⟩ | ⟨_, h⟩ <;> exact ne_of_none h hD
  · rintro i m ys H2 ⟨hm, ι2, st2, acc, E2, S2, hDd, ap, ra, la, P2⟩
    obtain ⟨zs, st9, e9, P9⟩ := bnd_inv P2
    obtain ⟨c1, c2⟩ := F H2 ι2 st2 i E2 S2
    cases m with
    | zero => cases e9
    | succ m =>
      simp only [compN] at e9
      cases en : nxt s i st2 with
      | none => rw [en] at e9; cases e9
      | some ox =>
        rw [en] at e9
        cases ox with
        | none =>
          have e9 : R.ok acc st2 = R.ok zs st9 := e9
          cases e9
          refine .inl ⟨c1 en, ?_⟩
          obtain ⟨ι', h1, h2, h3⟩ := S2.add hDd ap ra
          have l : (st2 ++ [O.lst acc]).length = st2.length + 1 := by simp
          refine P9 H2 ι' (.ref Dd) ?_ h3 ?_
          · rw [l]
            have E6 := E0.trans E2
            refine ⟨⟨Nat.le_succ_of_le E6.le, fun n hn => (h1 n (Nat.lt_of_lt_of_le hn E6.le)).trans (E6.ad n hn), E6.tp, E6.fz⟩, fun b ob e k => ?_⟩
            obtain ⟨g1, g2⟩ := E6.fr b ob e k
            refine ⟨g1, fun n hn => ?_⟩
            by_cases hn' : n = st2.length
            · rw [hn', h2]
              obtain ⟨g3, _⟩ := E0.fr b ob e k
              exact (ne_of_none g3 hD).symm
            · rw [h1 n (by omega)]; exact g2 n (by omega)
          · rw [← h2, l]; exact .ref (Nat.lt_succ_self _)
        | some x =>
          obtain ⟨hgo, hyl⟩ := c2 x en
          refine .inr ⟨hgo, fun ys' H' => ∃ ι2 st2 acc, Ext H H' ι ι2 st.length st2.length ∧ Sim K H' ι2 st2 ∧ H' Dd = some (.lst ys') ∧ (∀ n, n < st2.length → ι2 n ≠ Dd) ∧ VRels K H' ι2 st2.length acc ys' ∧ acc.length ≤ i + 1 ∧
            Post K H0 ι0 st0 (bnd (compN f s m (i + 1) acc) alloc st2) Q, fun ys' H' b => ⟨m, Nat.lt_succ_self _, by omega, b⟩, fun v H' y => ?_⟩
          obtain ⟨EY, SY, rv⟩ := hyl v H' y
          obtain ⟨hDd, _⟩ := EY.fr Dd _ hDd ap
          replace E2 := E2.trans EY
          replace ra := ra.ext EY
          simp only [bnd] at e9
          cases e3 : f x st2 with
          | bad => rw [e3] at e9; cases e9
          | ok o st3 =>
            rw [e3] at e9
            refine ok.turn (Q := fun w H4 => match w with
              | some y => H4 Dd = some (.lst ys) ∧ ys.length < sizeLine ∧ ∃ ι2 st2 acc, Ext H (upd H4 Dd (.lst (ys ++ [y]))) ι ι2 st.length st2.length ∧ Sim K (upd H4 Dd (.lst (ys ++ [y]))) ι2 st2 ∧ upd H4 Dd (.lst (ys ++ [y])) Dd = some (.lst (ys ++ [y])) ∧ (∀ n, n < st2.length → ι2 n ≠ Dd) ∧ VRels K (upd H4 Dd (.lst (ys ++ [y]))) ι2 st2.length acc (ys ++ [y]) ∧ acc.length ≤ i + 1 ∧
                  Post K H0 ι0 st0 (bnd (compN f s m (i + 1) acc) alloc st2) Q
              | none => ∃ ι2 st2 acc, Ext H H4 ι ι2 st.length st2.length ∧ Sim K H4 ι2 st2 ∧ H4 Dd = some (.lst ys) ∧ (∀ n, n < st2.length → ι2 n ≠ Dd) ∧ VRels K H4 ι2 st2.length acc ys ∧ acc.length ≤ i + 1 ∧
                  Post K H0 ι0 st0 (bnd (compN f s m (i + 1) acc) alloc st2) Q) E2 SY rv e3 fun H4 ι4 w E4 S4 r4 => ?_
            obtain ⟨hDd4, ap4⟩ := E4.fr Dd _ hDd ap
            cases o with
            | none =>
              cases w with
              | some _ => exact r4.elim
              | none =>
                have e9' : compN f s m (i + 1) acc st3 = .ok zs st9 := e9
                refine ⟨ι4, st3, acc, E2.trans E4, S4, hDd4, ap4, ra.ext E4, by omega, ?_⟩
                unfold bnd
                rw [e9']
                exact P9
            | some yd =>
              cases w with
              | none => exact r4.elim
              | some yv =>
                have e9' : compN f s m (i + 1) (acc ++ [yd]) st3 = .ok zs st9 := e9
                have lra := ra.length
                refine ⟨hDd4, by omega, ι4, st3, acc ++ [yd], ?_⟩
                have E5 : Ext0 H4 (upd H4 Dd (.lst (ys ++ [yv]))) ι4 ι4 st3.length st3.length := ⟨Nat.le_refl _, fun _ _ => rfl, fun b xs e => by rw [upd_ne (ne_of e hDd4 (by intro z; cases z))]; exact e, fun b ob u e => by rw [upd_ne (ne_of e hDd4 (by intro z; cases z))]; exact e⟩
                refine ⟨?_, ⟨S4.inj, fun n ob e => ?_⟩, upd_same, ap4, VRels.ext0 E5 ((ra.ext E4).append (.cons r4 .nil)), by simp; omega, ?_⟩
                · have E6 := E2.trans E4
                  refine ⟨⟨E6.le, E6.ad, fun b xs e => E5.tp b xs (E6.tp b xs e), fun b ob u e => E5.fz b ob u (E6.fz b ob u e)⟩, fun b ob e k => ?_⟩
                  obtain ⟨g1, g2⟩ := E6.fr b ob e k
                  exact ⟨by rw [upd_ne (ne_of_none e hD)]; exact g1, g2⟩
                · have hn : n < st3.length := (List.getElem?_eq_some_iff.mp e).1
                  have old := S4.ob n ob e
                  cases ob with
                  | lst ds => obtain ⟨zs', h1, h2⟩ := old; exact ⟨zs', by rw [upd_ne (ap4 n hn)]; exact h1, VRels.ext0 E5 h2⟩
                  | dct => show upd H4 Dd _ (ι4 n) = _; rw [upd_ne (ap4 n hn)]; exact old
                · unfold bnd
                  rw [e9']
                  exact P9
end Ev

set_option Elab.async false
set_option linter.all false
set_option maxRecDepth 100000
set_option maxHeartbeats 4000000
/-! EXPRESSIONS: the turned text does what the text does -/
namespace Ev
open PySem PySem.Spec PyProof.Rows L2

section
variable {T : Tab} {g : Fns} {X : Cx} {sc : Scope} {N : List Str} {pos p2 : Pos}
theorem pt_plain {e : Expr} {m : Loc → M D} (h : PE X e (tE X.K m)) (he : ∀ whole, isTrue e X.env whole = (do let v ← whole; standAt e.pos; holding [v] (truthy v))) : PT X e (tT X.K m) :=
  (pt_val h he).imp fun σ H Q ⟨ι, st, loc, S, L, P⟩ => by
    obtain ⟨b, st1, e1, k⟩ := P.inv
    exact tE_of S L e1 fun H1 ι1 v E1 S1 r1 => by cases r1; exact ⟨b, rfl, k H1 ι1 E1 S1⟩
theorem e_const {d : D} {v : V} {e : Expr} (h : PE X e (tC v)) (r : ∀ H ι m, VRel X.K H ι m d v) : PE X e (tE X.K (run g (.c d))) :=
  h.imp fun σ H Q ⟨ι, st, loc, S, L, P⟩ => by
    rw [run] at P
    exact P.same S (r H ι _)
theorem e_var {x : Str} {i : Nat} (C : Ctx T g X sc N) (hi : ixOf N x = some i) (hv : Vis sc x) : PE X (.Name x pos) (tE X.K (run g (.v i))) := by
  have hN : X.N[i]? = some x := by rw [C.n]; exact ixOf_get hi
  obtain ⟨h1, h2⟩ := C.nm x (List.mem_of_getElem? (ixOf_get hi))
  refine (pe_var hN (by rw [C.sc]; exact hv) h1 h2).imp fun σ H Q ⟨ι, st, loc, S, L, P⟩ => ?_
  rw [run] at P
  unfold ofO at P
  cases e : loc[i]? with
  | none => rw [e] at P; exact P.elim
  | some o =>
    rw [e] at P
    cases o with
    | none => exact P.elim
    | some d =>
      obtain ⟨v, hv, r⟩ := L.at_ i d e
      exact ⟨v, hv, P.same S r⟩
theorem e_tup {es : List Expr} {xs : List Ex} {k : Nat} (ha : PA X es (tA X.K (runs g xs))) (hz : es.length ≤ 1000) (hl : es.length = xs.length) : PE X (.Tuple es k pos) (tE X.K (run g (.tup xs))) :=
  (pe_tup ha).imp fun σ H Q ⟨ι, st, loc, S, L, P⟩ => by
    rw [run] at P
    obtain ⟨ds, st1, e1, P⟩ := bnd_inv P
    have sz : sizeLine = 16777216 := sizeLine_eq
    refine tA_of S L e1 fun H1 ι1 vs E1 S1 r1 => ⟨?_, (P.mono E1).tup S1 r1⟩
    have := runs_len e1
    have l := r1.length
    omega
where
  runs_len : ∀ {xs : List Ex} {loc : Loc} {st st1 : Sto} {ds : List D}, runs g xs loc st = .ok ds st1 → ds.length = xs.length
  | [], loc, st, st1, ds, e => by rw [runs] at e; cases e; rfl
  | x :: xs, loc, st, st1, ds, e => by
    rw [runs] at e
    simp only [bnd, ret] at e
    split at e
    · split at e
      · rename_i e2
        cases e
        rw [List.length_cons, List.length_cons, runs_len e2]
      · cases e
    · cases e
theorem e_lst {es : List Expr} {xs : List Ex} (ha : PA X es (tA X.K (runs g xs))) (hz : es.length ≤ 1000) (hl : es.length = xs.length) : PE X (.List es pos) (tE X.K (run g (.lst xs))) :=
  (pe_lst ha).imp fun σ H Q ⟨ι, st, loc, S, L, P⟩ => by
    rw [run] at P
    obtain ⟨ds, st1, e1, P⟩ := bnd_inv P
    have sz : sizeLine = 16777216 := sizeLine_eq
    refine tA_of S L e1 fun H1 ι1 vs E1 S1 r1 => ⟨?_, (P.mono E1).alloc S1 r1⟩
    have := e_tup.runs_len e1
    have l := r1.length
    omega
theorem big_ok {pins : List (Addr × Obj)} {σ : L2.St} {H : Hp} {s : Shared} (I : Inv X pins σ H s) : sysModules < s.heap.objs.size := Nat.lt_trans (by decide) (show mainGlobals < s.heap.objs.size from (I.mod.glob.keeps I.bk).lt)
theorem e_emp : PE X (.Dict [] [] pos) (tE X.K (run g .emp)) := by
  intro pins s σ H Q I ⟨ι, st, loc, S, L, P⟩
  rw [run] at P
  refine wpAny_Dict_empty ⟨.ref s.heap.objs.size, _, I.laid (a := s.heap.objs.size) (o := .dK []) (t' := s.toks) (fun _ _ q => Heap.get?_push_of_some _ q) (Nat.le_refl _) ?_, rfl, P.allocD S _ (I.hok.fresh (Nat.le_refl _))⟩
  exact ⟨Nat.zero_le _, beq_eq_false_iff_ne.mpr (Ne.symm (Nat.ne_of_lt (big_ok I))), [], .nil, Heap.DictOf.new s.heap⟩
theorem rd_op {a b : Ex} {f : D → D → M D} {σ : L2.St} {H : Hp} {Q : VK} (h : tE X.K (fun loc => bnd (run g a loc) fun x => bnd (run g b loc) fun y => f x y) σ H Q) : tOp (rD X.K f) (tE X.K (run g a)) (tE X.K (run g b)) σ H Q := by
  obtain ⟨ι, st, loc, S, L, P⟩ := h
  obtain ⟨x, st1, e1, P⟩ := bnd_inv P
  obtain ⟨y, st2, e2, P⟩ := bnd_inv P
  exact tE_of S L e1 fun H1 ι1 vx E1 S1 r1 => tE_of S1 (L.ext E1) e2 fun H2 ι2 vy E2 S2 r2 => ⟨ι2, st2, x, y, S2, r1.ext E2, r2, P.mono (E1.trans E2)⟩
theorem e_bin {a b : Expr} {a' b' : Ex} {op : Operator} {o : Bo} (ho : boOf op = some o) (ha : PE X a (tE X.K (run g a'))) (hb : PE X b (tE X.K (run g b'))) : PE X (.BinOp a op b pos) (tE X.K (run g (.bin o a' b'))) := by
  have e : op = o.op := by cases op <;> cases ho <;> rfl
  subst e
  refine (pe_op (op_bin o) ha hb).imp fun σ H Q h => rd_op ?_
  obtain ⟨ι, st, loc, S, L, P⟩ := h
  rw [run] at P
  exact ⟨ι, st, loc, S, L, P⟩
theorem e_neg {a : Expr} {a' : Ex} (ha : PE X a (tE X.K (run g a'))) : PE X (.UnaryOp .USub a pos) (tE X.K (run g (.neg a'))) :=
  (pe_un un_neg ha).imp fun σ H Q ⟨ι, st, loc, S, L, P⟩ => by
    rw [run] at P
    obtain ⟨x, st1, e1, P⟩ := bnd_inv P
    obtain ⟨i, st2, e2, P⟩ := bnd_inv P
    obtain ⟨e3, rfl⟩ := ofO_inv e2
    have := int?_inv e3
    subst this
    exact tE_of S L e1 fun H1 ι1 v E1 S1 r1 => by cases r1; exact ⟨i, rfl, (P.mono E1).same S1 (.int _)⟩
theorem e_not {a : Expr} {a' : Ex} (ha : PE X a (tE X.K (run g a'))) : PE X (.UnaryOp .Not a pos) (tE X.K (run g (.not a'))) :=
  (pe_not ha).imp fun σ H Q ⟨ι, st, loc, S, L, P⟩ => by
    rw [run] at P
    obtain ⟨x, st1, e1, P⟩ := bnd_inv P
    obtain ⟨i, st2, e2, P⟩ := bnd_inv P
    obtain ⟨e3, rfl⟩ := ofO_inv e2
    have := bool?_inv e3
    subst this
    exact tE_of S L e1 fun H1 ι1 v E1 S1 r1 => by cases r1; exact ⟨i, rfl, (P.mono E1).same S1 (.bl _)⟩
theorem t_not {a : Expr} {a' : Ex} (ha : PT X a (tT X.K (run g a'))) : PT X (.UnaryOp .Not a pos) (tT X.K (run g (.not a'))) :=
  (pt_not ha).imp fun σ H Q ⟨ι, st, loc, S, L, P⟩ => by
    rw [run] at P
    obtain ⟨x, st1, e1, P⟩ := bnd_invT P
    obtain ⟨i, st2, e2, P⟩ := bnd_invT P
    obtain ⟨e3, rfl⟩ := ofO_inv e2
    have := bool?_inv e3
    subst this
    exact tT_of S L e1 fun H1 ι1 E1 S1 => P H1 ι1 E1 S1
theorem e_and {a b : Expr} {r : List Expr} {a' b' : Ex} (ha : PE X a (tE X.K (run g a'))) (hb : PE X (.BoolOp .And (b :: r) pos) (tE X.K (run g b'))) : PE X (.BoolOp .And (a :: b :: r) pos) (tE X.K (run g (.and a' b'))) :=
  (pe_and ha hb).imp fun σ H Q ⟨ι, st, loc, S, L, P⟩ => by
    rw [run] at P
    obtain ⟨x, st1, e1, P⟩ := bnd_inv P
    obtain ⟨i, st2, e2, P⟩ := bnd_inv P
    obtain ⟨e3, rfl⟩ := ofO_inv e2
    have := bool?_inv e3
    subst this
    refine tE_of S L e1 fun H1 ι1 v E1 S1 r1 => ?_
    cases r1
    refine ⟨i, rfl, ?_⟩
    cases i with
    | true => rw [if_pos rfl]; exact ⟨ι1, st2, loc, S1, L.ext E1, P.mono E1⟩
    | false => rw [if_neg Bool.false_ne_true]; exact (P.mono E1).same S1 (.bl false)
theorem e_or {a b : Expr} {r : List Expr} {a' b' : Ex} (ha : PE X a (tE X.K (run g a'))) (hb : PE X (.BoolOp .Or (b :: r) pos) (tE X.K (run g b'))) : PE X (.BoolOp .Or (a :: b :: r) pos) (tE X.K (run g (.or a' b'))) :=
  (pe_or ha hb).imp fun σ H Q ⟨ι, st, loc, S, L, P⟩ => by
    rw [run] at P
    obtain ⟨x, st1, e1, P⟩ := bnd_inv P
    obtain ⟨i, st2, e2, P⟩ := bnd_inv P
    obtain ⟨e3, rfl⟩ := ofO_inv e2
    have := bool?_inv e3
    subst this
    refine tE_of S L e1 fun H1 ι1 v E1 S1 r1 => ?_
    cases r1
    refine ⟨i, rfl, ?_⟩
    cases i with
    | false => rw [if_neg Bool.false_ne_true]; exact ⟨ι1, st2, loc, S1, L.ext E1, P.mono E1⟩
    | true => rw [if_pos rfl]; exact (P.mono E1).same S1 (.bl true)
theorem pw_of {op : BoolOp} {es : List Expr} {t : TT} (h : PT X (.BoolOp op es pos) t) : PW X (.BoolOp op es pos) t := fun wh pins s σ H Q I q => by
  have := h pins s σ H Q I q
  exact this
theorem t_and {a b : Expr} {r : List Expr} {a' b' : Ex} (ha : PT X a (tT X.K (run g a'))) (hb : PT X (.BoolOp .And (b :: r) pos) (tT X.K (run g b'))) : PT X (.BoolOp .And (a :: b :: r) pos) (tT X.K (run g (.and a' b'))) :=
  (pw_and ha (pw_of hb)).pt.imp fun σ H Q ⟨ι, st, loc, S, L, P⟩ => by
    rw [run] at P
    obtain ⟨x, st1, e1, P⟩ := bnd_invT P
    obtain ⟨i, st2, e2, P⟩ := bnd_invT P
    obtain ⟨e3, rfl⟩ := ofO_inv e2
    have := bool?_inv e3
    subst this
    refine tT_of S L e1 fun H1 ι1 E1 S1 => ?_
    cases i with
    | true => rw [if_pos rfl]; exact ⟨ι1, st2, loc, S1, L.ext E1, P.mono E1⟩
    | false => rw [if_neg Bool.false_ne_true]; exact P H1 ι1 E1 S1
theorem t_or {a b : Expr} {r : List Expr} {a' b' : Ex} (ha : PT X a (tT X.K (run g a'))) (hb : PT X (.BoolOp .Or (b :: r) pos) (tT X.K (run g b'))) : PT X (.BoolOp .Or (a :: b :: r) pos) (tT X.K (run g (.or a' b'))) :=
  (pw_or ha (pw_of hb)).pt.imp fun σ H Q ⟨ι, st, loc, S, L, P⟩ => by
    rw [run] at P
    obtain ⟨x, st1, e1, P⟩ := bnd_invT P
    obtain ⟨i, st2, e2, P⟩ := bnd_invT P
    obtain ⟨e3, rfl⟩ := ofO_inv e2
    have := bool?_inv e3
    subst this
    refine tT_of S L e1 fun H1 ι1 E1 S1 => ?_
    cases i with
    | false => rw [if_neg Bool.false_ne_true]; exact ⟨ι1, st2, loc, S1, L.ext E1, P.mono E1⟩
    | true => rw [if_pos rfl]; exact P H1 ι1 E1 S1
theorem t_one {op : BoolOp} {a : Expr} {t : TT} (ha : PT X a t) : PT X (.BoolOp op [a] pos) t := by
  cases op with
  | And => exact (pw_and1 ha).pt
  | Or => exact (pw_or1 ha).pt
theorem e_cmp (hu : X.A.units + 100 < cLine) {a b : Expr} {a' b' : Ex} {op : CmpOp} (hm : behindInMarks op b = false) (ha : PE X a (tE X.K (run g a'))) (hb : PE X b (tE X.K (run g b'))) : PE X (.Compare a [op] [b] pos) (tE X.K (run g (.cmp op a' b'))) :=
  (pe_cmpR (op_cmp hu op) ha hb hm).imp fun σ H Q ⟨ι, st, loc, S, L, P⟩ => by
    rw [run] at P
    exact rd_op ⟨ι, st, loc, S, L, P⟩
/-- a test's reading out of a value's -/
theorem test_of {m : Loc → M D} {t : TE} {σ : L2.St} {H : Hp} {Q : Bool → Hp → Prop} (k : ∀ Q', tE X.K m σ H Q' → t σ H Q') (h : tT X.K m σ H Q) : tTest t σ H Q := by
  refine k _ ?_
  obtain ⟨ι, st, loc, S, L, P⟩ := h
  obtain ⟨b, st1, e, q⟩ := P.inv
  exact tE_of S L e fun H1 ι1 v E1 S1 r1 => by cases r1; exact ⟨b, rfl, q H1 ι1 E1 S1⟩
theorem t_cmp (hu : X.A.units + 100 < cLine) {a b : Expr} {a' b' : Ex} {op : CmpOp} (hm : behindInMarks op b = false) (ha : PE X a (tE X.K (run g a'))) (hb : PE X b (tE X.K (run g b'))) : PT X (.Compare a [op] [b] pos) (tT X.K (run g (.cmp op a' b'))) :=
  (pt_cmpR (op_cmp hu op) ha hb hm).imp fun σ H Q h => test_of (fun Q' ⟨ι, st, loc, S, L, P⟩ => by
    rw [run] at P
    exact rd_op ⟨ι, st, loc, S, L, P⟩) h
theorem rd_chain {a b c : Ex} {op op' : CmpOp} {σ : L2.St} {H : Hp} {Q : VK} (h : tE X.K (run g (.chain op op' a b c)) σ H Q) : tChain (rD X.K (cmpop op)) (rD X.K (cmpop op')) (tE X.K (run g a)) (tE X.K (run g b)) (tE X.K (run g c)) σ H Q := by
  obtain ⟨ι, st, loc, S, L, P⟩ := h
  rw [run] at P
  obtain ⟨x, st1, e1, P⟩ := bnd_inv P
  obtain ⟨y, st2, e2, P⟩ := bnd_inv P
  obtain ⟨z, st3, e3, P⟩ := bnd_inv P
  obtain ⟨k, st4, e4, P⟩ := bnd_inv P
  obtain ⟨e5, rfl⟩ := ofO_inv e4
  have := bool?_inv e5
  subst this
  refine tE_of S L e1 fun H1 ι1 vx E1 S1 r1 => tE_of S1 (L.ext E1) e2 fun H2 ι2 vy E2 S2 r2 => ⟨ι2, st2, x, y, S2, r1.ext E2, r2, ?_⟩
  rw [e3]
  intro H3 ι3 vz E3 S3 r3
  cases r3
  refine ⟨k, rfl, ?_⟩
  have E := (E1.trans E2).trans E3
  cases k with
  | true =>
    rw [if_pos rfl]
    obtain ⟨w, st5, e5, P⟩ := bnd_inv (show Post X.K H ι st (bnd (run g c loc) (fun w => cmpop op' y w) st4) Q from P)
    exact tE_of S3 (L.ext E) e5 fun H5 ι5 vw E5 S5 r5 => ⟨ι5, st5, y, w, S5, (r2.ext E3).ext E5, r5, P.mono (E.trans E5)⟩
  | false =>
    rw [if_neg Bool.false_ne_true]
    exact (P.mono E).same S3 (.bl false)
theorem e_chain (hu : X.A.units + 100 < cLine) {a b c : Expr} {a' b' c' : Ex} {op op' : CmpOp} (hm : behindInMarks op' c = false) (ha : PE X a (tE X.K (run g a'))) (hb : PE X b (tE X.K (run g b'))) (hc : PE X c (tE X.K (run g c'))) : PE X (.Compare a [op, op'] [b, c] pos) (tE X.K (run g (.chain op op' a' b' c'))) :=
  (pe_chain (op_cmp hu op) (op_cmp hu op') ha hb hc hm).imp fun σ H Q h => rd_chain h
theorem t_chain (hu : X.A.units + 100 < cLine) {a b c : Expr} {a' b' c' : Ex} {op op' : CmpOp} (hm : behindInMarks op' c = false) (ha : PE X a (tE X.K (run g a'))) (hb : PE X b (tE X.K (run g b'))) (hc : PE X c (tE X.K (run g c'))) : PT X (.Compare a [op, op'] [b, c] pos) (tT X.K (run g (.chain op op' a' b' c'))) :=
  (pt_chain (op_cmp hu op) (op_cmp hu op') ha hb hc hm).imp fun σ H Q h => test_of (fun Q' h' => rd_chain h') h
theorem e_ix {a b : Expr} {a' b' : Ex} (hs : plainSub b = true) (ha : PE X a (tE X.K (run g a'))) (hb : PE X b (tE X.K (run g b'))) : PE X (.Subscript a b pos) (tE X.K (run g (.ix a' b'))) :=
  (pe_ix ix_D ha hb (fun o i => by cases b <;> first | rfl | cases hs)).imp fun σ H Q ⟨ι, st, loc, S, L, P⟩ => by
    rw [run] at P
    exact rd_op ⟨ι, st, loc, S, L, P⟩
theorem e_sl {a : Expr} {lo hi : Option Expr} {a' l' h' : Ex} {hl hh : Bool} {tl th : TO} (ha : PE X a (tE X.K (run g a'))) (hlo : PO X lo tl) (hhi : PO X hi th)
    (kl : ∀ {H : Hp} {ι : Nat → Addr} {st st1 : Sto} {loc : Loc} {σ : L2.St} {o : Option Int} {Q : Option Int → Hp → Prop}, Sim X.K H ι st → LRel X.K H ι st.length loc σ → (if hl = true then bnd (run g l' loc) fun z => bnd (ofO (int? z)) fun i => ret (some i) else ret none) st = R.ok o st1 →
      (∀ H1 ι1, Ext H H1 ι ι1 st.length st1.length → Sim X.K H1 ι1 st1 → Q o H1) → tl σ H Q)
    (kh : ∀ {H : Hp} {ι : Nat → Addr} {st st1 : Sto} {loc : Loc} {σ : L2.St} {o : Option Int} {Q : Option Int → Hp → Prop}, Sim X.K H ι st → LRel X.K H ι st.length loc σ → (if hh = true then bnd (run g h' loc) fun z => bnd (ofO (int? z)) fun i => ret (some i) else ret none) st = R.ok o st1 →
      (∀ H1 ι1, Ext H H1 ι ι1 st.length st1.length → Sim X.K H1 ι1 st1 → Q o H1) → th σ H Q) : PE X (.Subscript a (.Slice lo hi none p2) pos) (tE X.K (run g (.sl a' l' h' hl hh))) :=
  (pe_slice sl_D ha hlo hhi).imp fun σ H Q ⟨ι, st, loc, S, L, P⟩ => by
    rw [run] at P
    obtain ⟨x, st1, e1, P⟩ := bnd_inv P
    obtain ⟨ol, st2, e2, P⟩ := bnd_inv P
    obtain ⟨oh, st3, e3, P⟩ := bnd_inv P
    refine tE_of S L e1 fun H1 ι1 vx E1 S1 r1 => kl S1 (L.ext E1) e2 fun H2 ι2 E2 S2 => kh S2 ((L.ext E1).ext E2) e3 fun H3 ι3 E3 S3 => ⟨ι3, st3, x, S3, (r1.ext E2).ext E3, P.mono ((E1.trans E2).trans E3)⟩
theorem part_no {l' : Ex} {H : Hp} {ι : Nat → Addr} {st st1 : Sto} {loc : Loc} {σ : L2.St} {o : Option Int} {Q : Option Int → Hp → Prop} (S : Sim X.K H ι st) (L : LRel X.K H ι st.length loc σ) (e : (if false = true then bnd (run g l' loc) fun z => bnd (ofO (int? z)) fun i => ret (some i) else ret none) st = R.ok o st1)
    (k : ∀ H1 ι1, Ext H H1 ι ι1 st.length st1.length → Sim X.K H1 ι1 st1 → Q o H1) : tNoPart σ H Q := by
  rw [if_neg Bool.false_ne_true] at e
  cases e
  exact k H ι (Ext.refl _ _ _) S
theorem part_yes {l' : Ex} {H : Hp} {ι : Nat → Addr} {st st1 : Sto} {loc : Loc} {σ : L2.St} {o : Option Int} {Q : Option Int → Hp → Prop} (S : Sim X.K H ι st) (L : LRel X.K H ι st.length loc σ) (e : (if true = true then bnd (run g l' loc) fun z => bnd (ofO (int? z)) fun i => ret (some i) else ret none) st = R.ok o st1)
    (k : ∀ H1 ι1, Ext H H1 ι ι1 st.length st1.length → Sim X.K H1 ι1 st1 → Q o H1) : tPart (tE X.K (run g l')) σ H Q := by
  rw [if_pos rfl] at e
  simp only [bnd, ret] at e
  cases e1 : run g l' loc st with
  | bad => rw [e1] at e; cases e
  | ok z st2 =>
    rw [e1] at e
    simp only [ofO] at e
    cases e2 : int? z with
    | none => rw [e2] at e; cases e
    | some i =>
      rw [e2] at e
      cases e
      have := int?_inv e2
      subst this
      exact tE_of S L e1 fun H1 ι1 v E1 S1 r1 => by cases r1; exact ⟨i, rfl, k H1 ι1 E1 S1⟩
theorem e_ite {c a b : Expr} {c' a' b' : Ex} (hc : PT X c (tT X.K (run g c'))) (ha : PE X a (tE X.K (run g a'))) (hb : PE X b (tE X.K (run g b'))) : PE X (.IfExp c a b pos) (tE X.K (run g (.ite c' a' b'))) :=
  (pe_ifExp hc ha hb).imp fun σ H Q ⟨ι, st, loc, S, L, P⟩ => by
    rw [run] at P
    obtain ⟨x, st1, e1, P⟩ := bnd_inv P
    obtain ⟨i, st2, e2, P⟩ := bnd_inv P
    obtain ⟨e3, rfl⟩ := ofO_inv e2
    have := bool?_inv e3
    subst this
    refine tT_of S L e1 fun H1 ι1 E1 S1 => ?_
    cases i with
    | true => rw [if_pos rfl]; exact ⟨ι1, st2, loc, S1, L.ext E1, P.mono E1⟩
    | false => rw [if_neg Bool.false_ne_true]; exact ⟨ι1, st2, loc, S1, L.ext E1, P.mono E1⟩
/-! ### calls -/
theorem e_fn {f : Str} {i : Nat} {a : Expr} {as : List Expr} {xs : List Ex} (C : Ctx T g X sc N) (hg : isGlob sc f = true) (hi : ixOf T.fns f = some i) (ha : PA X (a :: as) (tA X.K (runs g xs))) (hl : (a :: as).length = xs.length)
    (he : starEach (a :: as) X.env = (false, eval a X.env) :: starEach as X.env) (hpl : (backTo pos (starEach as X.env)).any (·.1) = false) : PE X (.Call (.Name f p2) (a :: as) [] pos) (tE X.K (run g (.fn i xs))) := by
  obtain ⟨hd, ad, fd, ps, k, hm, kp, hb, hr, har, F⟩ := C.fns i f (ixOf_get hi)
  have hgl : Gl X f := by
    show X.env.scope.names.lookup f = some .globalImplicit
    rw [C.sc]
    simpa [isGlob] using hg
  refine (pe_call F hr hgl hm kp hb .nil pass0 ha hd he hpl).imp fun σ H Q ⟨ι, st, loc, S, L, P⟩ => ?_
  rw [run] at P
  obtain ⟨ds, st1, e1, P⟩ := bnd_inv P
  refine tA_of S L e1 fun H1 ι1 vs E1 S1 r1 => ?_
  rw [List.append_nil]
  refine ⟨?_, ι1, st1, ds, S1, r1, P.mono E1⟩
  by_cases hps : ds.length = ps.length
  · rw [← r1.length]; exact hps
  · rw [har ds st1 hps] at P; exact P.elim
theorem e_bt {f : Str} {b : Bt} {a : Expr} {as : List Expr} {xs : List Ex} (C : Ctx T g X sc N) (hg : isGlob sc f = true) (hb : btOf.lookup f = some b) (ha : PA X (a :: as) (tA X.K (runs g xs)))
    (he : starEach (a :: as) X.env = (false, eval a X.env) :: starEach as X.env) (hpl : (backTo pos (starEach as X.env)).any (·.1) = false) : PE X (.Call (.Name f p2) (a :: as) [] pos) (tE X.K (run g (.bt b xs))) := by
  have hgl : Gl X f := by
    show X.env.scope.names.lookup f = some .globalImplicit
    rw [C.sc]
    simpa [isGlob] using hg
  have hbl : ∀ x : Str, x ∈ blts → X.mg x = none := C.blt
  have key : PE X (.Call (.Name f p2) (a :: as) [] pos) (tCB (rB X.K b) (tA X.K (runs g xs))) := by
    have hmem := PySem.mem_of_lookup hb
    have cc : CallR X b.val (rB X.K b) := call_D C.calm b
    simp only [btOf, List.mem_cons, List.mem_nil_iff, Prod.mk.injEq, or_false] at hmem
    rcases hmem with ⟨rfl, rfl⟩ | ⟨rfl, rfl⟩ | ⟨rfl, rfl⟩ | ⟨rfl, rfl⟩ | ⟨rfl, rfl⟩ | ⟨rfl, rfl⟩ | ⟨rfl, rfl⟩ | ⟨rfl, rfl⟩
    · exact pe_callB cc hgl (hbl _ (by decide +kernel)) PySem.boot_len ha (by decide +kernel) (by decide +kernel) he hpl
    · exact pe_callTy cc hgl (hbl _ (by decide +kernel)) (by decide +kernel) ha (by decide +kernel) (by decide +kernel) he hpl
    · exact pe_callTy cc hgl (hbl _ (by decide +kernel)) (by decide +kernel) ha (by decide +kernel) (by decide +kernel) he hpl
    · exact pe_callTy cc hgl (hbl _ (by decide +kernel)) (by decide +kernel) ha (by decide +kernel) (by decide +kernel) he hpl
    · exact pe_callB cc hgl (hbl _ (by decide +kernel)) (by decide +kernel) ha (by decide +kernel) (by decide +kernel) he hpl
    · exact pe_callB cc hgl (hbl _ (by decide +kernel)) (by decide +kernel) ha (by decide +kernel) (by decide +kernel) he hpl
    · exact pe_callB cc hgl (hbl _ (by decide +kernel)) (by decide +kernel) ha (by decide +kernel) (by decide +kernel) he hpl
    · exact pe_callB cc hgl (hbl _ (by decide +kernel)) (by decide +kernel) ha (by decide +kernel) (by decide +kernel) he hpl
  refine key.imp fun σ H Q ⟨ι, st, loc, S, L, P⟩ => ?_
  rw [run] at P
  obtain ⟨ds, st1, e1, P⟩ := bnd_inv P
  exact tA_of S L e1 fun H1 ι1 vs E1 S1 r1 => ⟨ι1, st1, ds, S1, r1, P.mono E1⟩
theorem ty_boot {t : Str} {ty : Ty} (h : tyOf.lookup t = some ty) : bootBuiltins t = some (.type ty.name) ∧ t ≠ "__name__" ∧ (t == ("__debug__" : Str)) = false ∧ t ∈ blts := by
  have hmem := PySem.mem_of_lookup h
  simp only [tyOf, List.mem_cons, List.mem_nil_iff, Prod.mk.injEq, or_false] at hmem
  rcases hmem with ⟨rfl, rfl⟩ | ⟨rfl, rfl⟩ | ⟨rfl, rfl⟩ | ⟨rfl, rfl⟩ | ⟨rfl, rfl⟩ | ⟨rfl, rfl⟩ <;> exact ⟨by decide +kernel, by decide +kernel, by decide +kernel, by decide +kernel⟩
theorem e_isi {t : Str} {ty : Ty} {a : Expr} {a' : Ex} {p3 : Pos} (C : Ctx T g X sc N) (hg : isGlob sc "isinstance" = true) (hgt : isGlob sc t = true) (ht : tyOf.lookup t = some ty) (ha : PE X a (tE X.K (run g a')))
    (he : starEach [a, .Name t p3] X.env = (false, eval a X.env) :: starEach [.Name t p3] X.env) : PE X (.Call (.Name "isinstance" p2) [a, .Name t p3] [] pos) (tE X.K (run g (.isi a' ty))) := by
  have gl : ∀ {x : Str}, isGlob sc x = true → Gl X x := fun {x} h => by
    show X.env.scope.names.lookup x = some .globalImplicit
    rw [C.sc]
    simpa [isGlob] using h
  obtain ⟨b1, b2, b3, b4⟩ := ty_boot ht
  have cc : CallR X (.builtin "isinstance") (fun vs H Q => ∃ ι st d v k, vs = [v, .ty ty.name] ∧ Sim X.K H ι st ∧ VRel X.K H ι st.length d v ∧ isiD st ty d = some k ∧ Q (.bl k) H) := by
    intro pins s σ H vs us Q I r h
    obtain ⟨ι, st, d, v, k, rfl, S, rv, e, q⟩ := h
    cases r with
    | cons r1 r2 =>
      cases r2 with
      | cons r2 r3 =>
        cases r3
        cases r2
        exact isi_ok I S rv r1 e q
  have ht' : PE X (.Name t p3) (tC (.ty ty.name)) := pe_bltn (gl hgt) (C.blt t b4) b1 rfl b2 b3
  refine (pe_callB cc (gl hg) (C.blt _ (by decide +kernel)) (by decide +kernel) (pa_cons ha (pa_cons ht' pa_nil) he) (by decide +kernel) (by decide +kernel) he rfl).imp fun σ H Q ⟨ι, st, loc, S, L, P⟩ => ?_
  rw [run] at P
  obtain ⟨x, st1, e1, P⟩ := bnd_inv P
  refine tE_of S L e1 fun H1 ι1 v E1 S1 r1 => ?_
  cases e2 : isiD st1 ty x with
  | none => rw [e2] at P; exact P.elim
  | some k =>
    rw [e2] at P
    exact ⟨ι1, st1, x, v, k, rfl, S1, r1, e2, (P.mono E1).same S1 (.bl k)⟩
end
end Ev

set_option Elab.async false
set_option linter.all false
set_option maxRecDepth 100000
set_option maxHeartbeats 8000000
/-! EXPRESSIONS, the whole -/
namespace Ev
open PySem PySem.Spec PyProof.Rows L2

section
variable {T : Tab} {g : Fns} {X : Cx} {sc : Scope} {N : List Str} {pos px : Pos}
theorem comp_scope {x : Str} {scope : Scope} (C : Ctx T g X sc N) (h : compOk sc scope N x = true) : CompScope X x scope ∧ x ∉ X.N ∧ (x == ("__debug__" : Str)) = false ∧ (x == ("__classdict__" : Str)) = false := by
  unfold compOk at h
  simp only [Bool.and_eq_true, List.all_eq_true] at h
  obtain ⟨⟨⟨⟨⟨h1, h2⟩, h3⟩, h4⟩, h5⟩, h6⟩ := h
  have hx : x ∉ N := by simpa using h3
  refine ⟨⟨by simpa using h1, fun y hy => ?_, fun y hy hl => ?_, by simpa using h2, fun y hy hf => ?_, fun y hy hl => ?_⟩, by rw [C.n]; exact hx, by simpa using h4, by simpa using h5⟩
  · obtain ⟨⟨a, b⟩, c⟩ := h6 y hy
    simpa using a
  · obtain ⟨⟨a, b⟩, c⟩ := h6 y hy
    rw [hl] at b
    simp at b
    exact b.1
  · obtain ⟨⟨a, b⟩, c⟩ := h6 y hy
    rw [hf] at c
    have c' : sc.names.lookup y.1 = some .cell ∨ sc.names.lookup y.1 = some .free := by simpa using c
    show X.env.scope.names.lookup y.1 = _ ∨ X.env.scope.names.lookup y.1 = _
    rw [C.sc]
    exact c'
  · obtain ⟨⟨a, b⟩, c⟩ := h6 y hy
    rw [hl] at b
    simp at b
    rw [C.n]
    exact b.2
theorem ctx_comp {x : Str} {scope : Scope} (C : Ctx T g X sc N) (h : compOk sc scope N x = true) (fp : List Addr) (s : Shared) (H : Hp) : Ctx T g (cxComp X x scope fp s H) (relabS sc scope) (x :: N) := by
  obtain ⟨h1, h2, h3, h4⟩ := comp_scope C h
  refine ⟨?_, ?_, List.nodup_cons.mpr ⟨by rw [← C.n]; exact h2, C.nd⟩, fun y hy => ?_, C.calm, C.un, C.fns, C.csts, C.blt⟩
  · show relabel scope X.env = relabS sc scope
    rw [← C.sc]
    rfl
  · show x :: X.N = x :: N
    rw [C.n]
  · rcases List.mem_cons.mp hy with rfl | hy
    · exact ⟨h3, h4⟩
    · exact C.nm y hy
theorem elt_plain {K : PySem.W.Frag} {e : Ex} : EltOk K tYes (tE K (run g e)) (fun loc x => bnd (run g e (some x :: loc)) fun y => ret (some y)) where
  turn := fun {H ι st st1 loc σ x v o Q} S L rv e1 k => by
    unfold tYes
    refine iteT ?_
    simp only [bnd, ret] at e1
    cases e2 : run g e (some x :: loc) st with
    | bad => rw [e2] at e1; cases e1
    | ok y st2 =>
      rw [e2] at e1
      cases e1
      exact tE_of S (L.cons rv) e2 fun H1 ι1 w E1 S1 r1 => k H1 ι1 (some w) E1 S1 r1
theorem elt_if {K : PySem.W.Frag} {c e : Ex} : EltOk K (tT K (run g c)) (tE K (run g e)) (fun loc x => bnd (run g c (some x :: loc)) fun z => bnd (ofO (bool? z)) fun k => if k then bnd (run g e (some x :: loc)) fun y => ret (some y) else ret none) where
  turn := fun {H ι st st1 loc σ x v o Q} S L rv e1 k => by
    simp only [bnd] at e1
    cases e2 : run g c (some x :: loc) st with
    | bad => rw [e2] at e1; cases e1
    | ok z st2 =>
      rw [e2] at e1
      simp only [ofO] at e1
      cases e3 : bool? z with
      | none => rw [e3] at e1; cases e1
      | some b =>
        rw [e3] at e1
        have := bool?_inv e3
        subst this
        refine tT_of S (L.cons rv) e2 fun H1 ι1 E1 S1 => ?_
        cases b with
        | true =>
          rw [if_pos rfl]
          simp only [if_true, bnd, ret] at e1
          cases e4 : run g e (some x :: loc) st2 with
          | bad => rw [e4] at e1; cases e1
          | ok y st3 =>
            rw [e4] at e1
            cases e1
            exact tE_of S1 ((L.cons rv).ext E1) e4 fun H2 ι2 w E2 S2 r2 => k H2 ι2 (some w) (E1.trans E2) S2 r2
        | false =>
          rw [if_neg Bool.false_ne_true]
          simp only [Bool.false_eq_true, if_false, ret] at e1
          cases e1
          exact k H1 ι1 none E1 S1 True.intro
/-- the source of a loop, whichever comes -/
theorem src_seq {s' : Ex} {k : Loc → Src → M D} {σ : L2.St} {H : Hp} {Q : VK} {RR : It → Hp → Prop} (h : tE X.K (fun loc => bnd (run g s' loc) fun d => bnd (ofO (source false d)) fun s => k loc s) σ H Q)
    (hk : ∀ {J : It} {s : Src} {ι ι1 : Nat → Addr} {st st1 : Sto} {loc : Loc} {H1 : Hp}, Corr X.K J s H1 ι1 st1.length → Ext H H1 ι ι1 st.length st1.length → Sim X.K H1 ι1 st1 → LRel X.K H1 ι1 st1.length loc σ → Post X.K H ι st (k loc s st1) Q → RR J H1)
    (hbad : ∀ loc n st, (∀ xs, st[n]? ≠ some (.lst xs)) → k loc (.at n) st = .bad) : iSeq X.K (tE X.K (run g s')) σ H RR := by
  obtain ⟨ι, st, loc, S, L, P⟩ := h
  obtain ⟨d, st1, e1, P⟩ := bnd_inv P
  obtain ⟨s, st2, e2, P⟩ := bnd_inv P
  obtain ⟨e3, rfl⟩ := ofO_inv e2
  refine tE_of S L e1 fun H1 ι1 v E1 S1 r1 => ?_
  cases r1 with
  | tup h r => cases e3; exact ⟨_, rfl, .inr ⟨⟨_, h⟩, hk (Corr.tup h r) E1 S1 (L.ext E1) P⟩⟩
  | fl h r => cases e3; exact ⟨_, rfl, .inl ⟨⟨_, h.sql⟩, hk (Corr.fl h r) E1 S1 (L.ext E1) P⟩⟩
  | @ref n hn =>
    cases e3
    cases q : st2[n]? with
    | none =>
      rw [hbad loc n st2 (fun xs z => by rw [q] at z; cases z)] at P
      exact P.elim
    | some o =>
      cases o with
      | dct =>
        rw [hbad loc n st2 (fun xs z => by rw [q] at z; cases z)] at P
        exact P.elim
      | lst xs =>
        obtain ⟨vs, h1, _⟩ := S1.ob n _ q
        exact ⟨_, rfl, .inl ⟨⟨vs, SqL.of h1⟩, hk (Corr.ref hn) E1 S1 (L.ext E1) P⟩⟩
  | _ => cases e3
theorem src_rng {s' : Ex} {k : Loc → Src → M D} {σ : L2.St} {H : Hp} {Q : VK} {RR : It → Hp → Prop} (h : tE X.K (fun loc => bnd (run g s' loc) fun d => bnd (ofO (source true d)) fun s => k loc s) σ H Q)
    (hk : ∀ {J : It} {s : Src} {ι ι1 : Nat → Addr} {st st1 : Sto} {loc : Loc} {H1 : Hp}, Corr X.K J s H1 ι1 st1.length → Ext H H1 ι ι1 st.length st1.length → Sim X.K H1 ι1 st1 → LRel X.K H1 ι1 st1.length loc σ → Post X.K H ι st (k loc s st1) Q → RR J H1) :
    iRng1 (tCons (tE X.K (run g s')) tNil) σ H RR := by
  obtain ⟨ι, st, loc, S, L, P⟩ := h
  obtain ⟨d, st1, e1, P⟩ := bnd_inv P
  obtain ⟨s, st2, e2, P⟩ := bnd_inv P
  obtain ⟨e3, rfl⟩ := ofO_inv e2
  refine tE_of S L e1 fun H1 ι1 v E1 S1 r1 => ?_
  cases r1 with
  | int j =>
    simp only [source] at e3
    split at e3
    · rename_i hj
      cases e3
      exact ⟨j, rfl, by omega, by omega, hk Corr.rng E1 S1 (L.ext E1) P⟩
    · cases e3
  | _ => cases e3
theorem nxt_bad {n i : Nat} {st : Sto} (h : ∀ xs, st[n]? ≠ some (.lst xs)) : nxt (.at n) i st = none := by
  unfold nxt
  show (match st[n]? with | some (.lst xs) => some xs[i]? | _ => none) = none
  cases q : st[n]? with
  | none => rfl
  | some o =>
    cases o with
    | dct => rfl
    | lst xs => exact absurd q (h xs)
theorem comp_bad {f : D → M (Option D)} (n : Nat) (st : Sto) (h : ∀ xs, st[n]? ≠ some (.lst xs)) : compS f (.at n) st = .bad := by
  unfold compS
  split
  · simp only [bnd, compN, nxt_bad h]
  · rfl
/-- a comprehension's parts, and its reading -/
def CompD (g : Fns) (X : Cx) (x : Str) (px : Pos) (iter : Expr) (ifs : List Expr) (elt : Expr) (scope : Scope) (y : Ex) : Prop :=
  ∃ wi tc te, PI X (.Name x px) iter wi ∧ (∀ fp s H, PTs (cxComp X x scope fp s H) ifs tc) ∧ (∀ fp s H, PE (cxComp X x scope fp s H) elt te) ∧ (∀ v, foldedSetIterable iter X.env v = pure v) ∧ ∀ σ H Q, tE X.K (run g y) σ H Q → tComp wi tc te σ H Q
theorem CompD.pe {x : Str} {iter elt : Expr} {ifs : List Expr} {scope : Scope} {y : Ex} (C : Ctx T g X sc N) (hc : compOk sc scope N x = true) (h : CompD g X x px iter ifs elt scope y) : PE X (.ListComp elt [⟨.Name x px, iter, ifs, 0⟩] scope pos) (tE X.K (run g y)) := by
  obtain ⟨wi, tc, te, a, b, c, d, e⟩ := h
  obtain ⟨h1, h2, _, _⟩ := comp_scope C hc
  exact (pe_comp C.calm h1 h2 (by rw [C.n]; exact C.nd) a b c d).imp e
theorem CompD.ps {x z : Str} {iter elt : Expr} {ifs : List Expr} {scope : Scope} {y : Ex} {py spos : Pos} {i : Nat} (C : Ctx T g X sc N) (hc : compOk sc scope N x = true) (h : CompD g X x px iter ifs elt scope y) (hz : X.N[i]? = some z) (hl : L2.Loc X.env.scope z) (hf : X.fn z = true ∨ X.env.scope.names.lookup z = some .local) :
    PS X (.Assign [.Name z py] (.ListComp elt [⟨.Name x px, iter, ifs, 0⟩] scope pos) spos) (tAsg (tE X.K (run g y)) (gName i)) := by
  obtain ⟨wi, tc, te, a, b, c, d, e⟩ := h
  obtain ⟨h1, h2, _, _⟩ := comp_scope C hc
  exact fun pins s σ H D I q => ps_setComp C.calm h1 h2 (by rw [C.n]; exact C.nd) a b c d hz hl hf pins s σ H D I (e _ _ _ q)
variable {x : Str} {elt it : Expr} {scope : Scope} {s' c' e' : Ex}
theorem e_comp (C : Ctx T g X sc N) (hc : compOk sc scope N x = true) (hs : PE X it (tE X.K (run g s'))) (he : ∀ fp s H, PE (cxComp X x scope fp s H) elt (tE X.K (run g e'))) (hf : ∀ v, foldedSetIterable it X.env v = pure v) :
    CompD g X x px it [] elt scope (.comp false s' e') := by
  refine ⟨_, _, _, pi_seq hs, fun _ _ _ => pts_nil, he, hf, fun σ H Q ⟨ι, st, loc, S, L, P⟩ => ?_⟩
  rw [run] at P
  exact src_seq (k := fun loc s => compS (fun x => bnd (run g e' (some x :: loc)) fun y => ret (some y)) s) ⟨ι, st, loc, S, L, P⟩ (fun {J s ι ι1 st st1 loc H1} F E S1 L1 P1 => comp_ok (loc := loc) (f := fun loc x => bnd (run g e' (some x :: loc)) fun y => ret (some y)) elt_plain F E S1 L1 P1) (fun _ => comp_bad)
theorem e_compIf {c : Expr} (C : Ctx T g X sc N) (hc : compOk sc scope N x = true) (hs : PE X it (tE X.K (run g s'))) (ht : ∀ fp s H, PT (cxComp X x scope fp s H) c (tT X.K (run g c'))) (he : ∀ fp s H, PE (cxComp X x scope fp s H) elt (tE X.K (run g e'))) (hf : ∀ v, foldedSetIterable it X.env v = pure v) :
    CompD g X x px it [c] elt scope (.compIf false s' c' e') := by
  refine ⟨_, _, _, pi_seq hs, fun fp s H => pts_one (ht fp s H), he, hf, fun σ H Q ⟨ι, st, loc, S, L, P⟩ => ?_⟩
  rw [run] at P
  exact src_seq (k := fun loc s => compS (fun x => bnd (run g c' (some x :: loc)) fun z => bnd (ofO (bool? z)) fun k => if k then bnd (run g e' (some x :: loc)) fun y => ret (some y) else ret none) s) ⟨ι, st, loc, S, L, P⟩
    (fun {J s ι ι1 st st1 loc H1} F E S1 L1 P1 => comp_ok (loc := loc) (f := fun loc x => bnd (run g c' (some x :: loc)) fun z => bnd (ofO (bool? z)) fun k => if k then bnd (run g e' (some x :: loc)) fun y => ret (some y) else ret none) elt_if F E S1 L1 P1) (fun _ => comp_bad)
variable {a : Expr} {p3 p4 : Pos}
theorem e_compR (C : Ctx T g X sc N) (hc : compOk sc scope N x = true) (hg : isGlob sc "range" = true) (hst : starEach [a] X.env = [(false, eval a X.env)]) (hs : PE X a (tE X.K (run g s'))) (he : ∀ fp s H, PE (cxComp X x scope fp s H) elt (tE X.K (run g e'))) :
    CompD g X x px (.Call (.Name "range" p3) [a] [] p4) [] elt scope (.comp true s' e') := by
  have hgl : Gl X "range" := by
    show X.env.scope.names.lookup _ = some .globalImplicit
    rw [C.sc]
    simpa [isGlob] using hg
  refine ⟨_, _, _, pi_range1 hgl (C.blt _ (by decide +kernel)) (pa_cons hs pa_nil hst) hst, fun _ _ _ => pts_nil, he, fun _ => rfl, fun σ H Q ⟨ι, st, loc, S, L, P⟩ => ?_⟩
  rw [run] at P
  exact src_rng (k := fun loc s => compS (fun x => bnd (run g e' (some x :: loc)) fun y => ret (some y)) s) ⟨ι, st, loc, S, L, P⟩ (fun {J s ι ι1 st st1 loc H1} F E S1 L1 P1 => comp_ok (loc := loc) (f := fun loc x => bnd (run g e' (some x :: loc)) fun y => ret (some y)) elt_plain F E S1 L1 P1)
theorem e_compRIf {c : Expr} (C : Ctx T g X sc N) (hc : compOk sc scope N x = true) (hg : isGlob sc "range" = true) (hst : starEach [a] X.env = [(false, eval a X.env)]) (hs : PE X a (tE X.K (run g s'))) (ht : ∀ fp s H, PT (cxComp X x scope fp s H) c (tT X.K (run g c'))) (he : ∀ fp s H, PE (cxComp X x scope fp s H) elt (tE X.K (run g e'))) :
    CompD g X x px (.Call (.Name "range" p3) [a] [] p4) [c] elt scope (.compIf true s' c' e') := by
  have hgl : Gl X "range" := by
    show X.env.scope.names.lookup _ = some .globalImplicit
    rw [C.sc]
    simpa [isGlob] using hg
  refine ⟨_, _, _, pi_range1 hgl (C.blt _ (by decide +kernel)) (pa_cons hs pa_nil hst) hst, fun fp s H => pts_one (ht fp s H), he, fun _ => rfl, fun σ H Q ⟨ι, st, loc, S, L, P⟩ => ?_⟩
  rw [run] at P
  exact src_rng (k := fun loc s => compS (fun x => bnd (run g c' (some x :: loc)) fun z => bnd (ofO (bool? z)) fun k => if k then bnd (run g e' (some x :: loc)) fun y => ret (some y) else ret none) s) ⟨ι, st, loc, S, L, P⟩
    (fun {J s ι ι1 st st1 loc H1} F E S1 L1 P1 => comp_ok (loc := loc) (f := fun loc x => bnd (run g c' (some x :: loc)) fun z => bnd (ofO (bool? z)) fun k => if k then bnd (run g e' (some x :: loc)) fun y => ret (some y) else ret none) elt_if F E S1 L1 P1)
end

/-! ### what is turned is of a plain form -/
theorem cE_marks {T : Tab} {n : Nat} {sc : Scope} {N : List Str} {b : Expr} {x : Ex} (h : cE T n sc N b = some x) (op : CmpOp) : behindInMarks op b = false := by
  cases n with
  | zero => cases h
  | succ n => cases b <;> first | rfl | (simp [cE] at h)
theorem cE_fold {T : Tab} {n : Nat} {sc : Scope} {N : List Str} {b : Expr} {x : Ex} (h : cE T n sc N b = some x) (env : Env) (v : Value) : foldedSetIterable b env v = pure v := by
  cases n with
  | zero => cases h
  | succ n => cases b <;> first | rfl | (simp [cE] at h)
theorem cE_star {T : Tab} {n : Nat} {sc : Scope} {N : List Str} {b : Expr} {x : Ex} (h : cE T n sc N b = some x) (es : List Expr) (env : Env) : starEach (b :: es) env = (false, eval b env) :: starEach es env := by
  cases n with
  | zero => cases h
  | succ n => cases b <;> first | rfl | (simp [cE] at h)
end Ev

set_option Elab.async false
set_option linter.all false
set_option maxRecDepth 100000
set_option maxHeartbeats 8000000
/-! EXPRESSIONS: comprehensions over enumerate -/
namespace Ev
open PySem PySem.Spec PyProof.Rows L2

section
variable {T : Tab} {g : Fns} {X : Cx} {sc scope : Scope} {N : List Str} {pos px py pt p3 p4 : Pos} {x y : Str}
theorem comp2_parts (h : compOk2 sc scope N x y = true) : compOk sc scope N x = true ∧ scope.names.lookup y = some .local ∧ y ∉ N ∧ x ≠ y ∧ (y == ("__debug__" : Str)) = false ∧ (y == ("__classdict__" : Str)) = false := by
  unfold compOk2 at h
  simp only [Bool.and_eq_true] at h
  obtain ⟨⟨⟨⟨⟨h1, h2⟩, h3⟩, h4⟩, h5⟩, h6⟩ := h
  exact ⟨h1, by simpa using h2, by simpa using h3, by simpa using h4, by simpa using h5, by simpa using h6⟩
theorem ctx_comp2 (C : Ctx T g X sc N) (h : compOk2 sc scope N x y = true) (fp : List Addr) (s : Shared) (H : Hp) : Ctx T g (cxComp2 X x y scope fp s H) (relabS sc scope) (x :: y :: N) := by
  obtain ⟨h1, h2, h3, h4, h5, h6⟩ := comp2_parts h
  have C1 := ctx_comp C h1 fp s H
  have nx : x ∉ N := (List.nodup_cons.mp C1.nd).1
  refine ⟨C1.sc, ?_, ?_, fun z hz => ?_, C1.calm, C1.un, C1.fns, C1.csts, C1.blt⟩
  · show x :: y :: X.N = x :: y :: N
    rw [C.n]
  · refine List.nodup_cons.mpr ⟨fun z => ?_, List.nodup_cons.mpr ⟨h3, C.nd⟩⟩
    rcases List.mem_cons.mp z with z | z
    · exact h4 z
    · exact nx z
  · rcases List.mem_cons.mp hz with rfl | hz
    · exact C1.nm _ List.mem_cons_self
    · rcases List.mem_cons.mp hz with rfl | hz
      · exact ⟨h5, h6⟩
      · exact C.nm z hz
theorem en_bad {f : D → M (Option D)} (n : Nat) (st : Sto) (h : ∀ xs, st[n]? ≠ some (.lst xs)) : compS f (.en n) st = .bad := by
  have hb : ∀ i, nxt (.en n) i st = none := fun i => by
    unfold nxt
    show (match st[n]? with | some (.lst xs) => some (xs[i]?.map fun x => D.tup [.int (i : Int), x]) | _ => none) = none
    cases q : st[n]? with
    | none => rfl
    | some o =>
      cases o with
      | dct => rfl
      | lst xs => exact absurd q (h xs)
  unfold compS
  split
  · simp only [bnd, compN, hb]
  · rfl
theorem e_compE {k : Nat} {elt a : Expr} {a' e' : Ex} (C : Ctx T g X sc N) (hc : compOk2 sc scope N x y = true) (hg : isGlob sc "enumerate" = true) (hst : starEach [a] X.env = [(false, eval a X.env)]) (hs : PE X a (tE X.K (run g a'))) (he : ∀ fp s H, PE (cxComp2 X x y scope fp s H) elt (tE X.K (run g e'))) :
    PE X (.ListComp elt [⟨.Tuple [.Name x px, .Name y py] k pt, .Call (.Name "enumerate" p3) [a] [] p4, [], 0⟩] scope pos) (tE X.K (run g (.compE a' e'))) := by
  have hgl : Gl X "enumerate" := by
    show X.env.scope.names.lookup _ = some .globalImplicit
    rw [C.sc]
    simpa [isGlob] using hg
  obtain ⟨h1, h2, h3, h4, h5, h6⟩ := comp2_parts hc
  obtain ⟨c1, c2, _, _⟩ := comp_scope C h1
  have lx : (relabel scope X.env).names.lookup x = some .local := lookup_relabel_local c1.own
  have ly : (relabel scope X.env).names.lookup y = some .local := lookup_relabel_local h2
  have nd : (x :: y :: X.N).Nodup := by
    have := (ctx_comp2 C hc [] X.s₀ (fun _ => none)).nd
    rw [C.n]; exact this
  refine (pe_comp2 (y := y) C.calm c1 c2 (pi_enum hgl (C.blt _ (by decide +kernel)) (pa_cons hs pa_nil hst) hst) (g := gTup X.K 2 (gCons (gName 0) (gCons (gName 1) gNil)))
    (fun fp s H => pg_tup (X := cxComp2 X x y scope fp s H) C.calm (pgs_cons (pg_name (i := 0) nd rfl (.inl lx) (.inr lx)) (pgs_cons (pg_name (i := 1) nd rfl (.inl ly) (.inr ly)) pgs_nil))) he (fun _ => rfl)).imp fun σ H Q ⟨ι, st, loc, S, L, P⟩ => ?_
  rw [run] at P
  obtain ⟨d, st1, e1, P⟩ := bnd_inv P
  obtain ⟨s, st2, e2, P⟩ := bnd_inv P
  obtain ⟨e3, rfl⟩ := ofO_inv e2
  refine tE_of S L e1 fun H1 ι1 v E1 S1 r1 => ?_
  cases r1 with
  | @ref n hn =>
    cases e3
    cases q : st2[n]? with
    | none =>
      rw [en_bad n st2 (fun xs z => by rw [q] at z; cases z)] at P
      exact P.elim
    | some o =>
      cases o with
      | dct =>
        rw [en_bad n st2 (fun xs z => by rw [q] at z; cases z)] at P
        exact P.elim
      | lst xs =>
        obtain ⟨vs, h1, _⟩ := S1.ob n _ q
        refine ⟨_, rfl, ⟨vs, SqL.of h1⟩, ?_⟩
        refine comp_okG (tt := fun v H' K => ∀ o1 o2 : Option V, gTup X.K 2 (gCons (gName 0) (gCons (gName 1) gNil)) v (o1 :: o2 :: σ) H' fun σ2 H3 => (∃ p1 p2, σ2 = p1 :: p2 :: σ) ∧ tE X.K (run g e') σ2 H3 fun y H4 => K (some y) H4) ⟨?_⟩ (CorrG.en hn) E1 S1 P
        intro H2 ι2 st3 st4 z v o K E2 S2 rv ee k o1 o2
        split at ee
        · cases rv with
          | tup hq rr =>
            rename_i _ da db ad ws
            cases rr with
            | cons ra rr =>
              cases rr with
              | cons rb rr =>
                cases rr
                refine ⟨ad, _, rfl, hq, rfl, _, _, rfl, _, _, rfl, rfl, ⟨_, _, rfl⟩, ?_⟩
                simp only [bnd, ret] at ee
                cases e5 : run g e' (some da :: some db :: loc) st3 with
                | bad => rw [e5] at ee; cases ee
                | ok w st5 =>
                  rw [e5] at ee
                  cases ee
                  exact tE_of S2 ((((L.ext E1).ext E2).cons rb).cons ra) e5 fun H5 ι5 w E5 S5 r5 => k H5 ι5 (some w) E5 S5 r5
        · cases ee
  | _ => cases e3
end
end Ev

set_option Elab.async false
set_option linter.all false
set_option maxRecDepth 100000
set_option maxHeartbeats 16000000
namespace Ev
open PySem PySem.Spec PyProof.Rows L2

/-- the arguments: none is starred -/
def Plain (es : List Expr) (env : Env) (pos : Pos) : Prop := (backTo pos (starEach es env)).any (·.1) = false
theorem plain_cons {e : Expr} {es : List Expr} {env : Env} {pos : Pos} (h : starEach (e :: es) env = (false, eval e env) :: starEach es env) (k : Plain es env pos) : Plain (e :: es) env pos := by
  unfold Plain at k ⊢
  rw [h]
  simpa [backTo] using k
def SE (T : Tab) (g : Fns) (n : Nat) : Prop := ∀ {X : Cx} {sc : Scope} {N : List Str} {e : Expr} {x : Ex}, Ctx T g X sc N → cE T n sc N e = some x → PE X e (tE X.K (run g x)) ∧ PT X e (tT X.K (run g x))
def SEs (T : Tab) (g : Fns) (n : Nat) : Prop := ∀ {X : Cx} {sc : Scope} {N : List Str} {es : List Expr} {xs : List Ex}, Ctx T g X sc N → cEs T n sc N es = some xs →
  PA X es (tA X.K (runs g xs)) ∧ es.length = xs.length ∧ (∀ pos, Plain es X.env pos) ∧ ∀ e r, es = e :: r → starEach (e :: r) X.env = (false, eval e X.env) :: starEach r X.env ∧ ∀ pos, Plain r X.env pos
def SC (T : Tab) (g : Fns) (n : Nat) : Prop := ∀ {X : Cx} {sc scope : Scope} {N : List Str} {x : Str} {elt src : Expr} {ifs : List Expr} {y : Ex} {px : Pos}, Ctx T g X sc N → compOk sc scope N x = true →
  (cComp T n sc N false src x elt ifs scope = some y → CompD g X x px src ifs elt scope y) ∧
  (∀ p3 p4, isGlob sc "range" = true → cComp T n sc N true src x elt ifs scope = some y → CompD g X x px (.Call (.Name "range" p3) [src] [] p4) ifs elt scope y)

theorem ses_step {T : Tab} {g : Fns} {n : Nat} (h : SE T g n) (hs : SEs T g n) : SEs T g (n + 1) := by
  intro X sc N es xs C e
  unfold cEs at e
  split at e
  · cases e
    refine ⟨pa_nil.imp fun σ H Q ⟨ι, st, loc, S, L, P⟩ => ?_, rfl, fun pos => rfl, fun _ _ z => nomatch z⟩
    rw [runs] at P
    exact P H ι [] (Ext.refl _ _ _) S .nil
  · split at e
    · rename_i a0 as0 _ _ e1 r1 e2 r2
      cases e
      have h1 := h C e2
      obtain ⟨h2, h3, h4, _⟩ := hs C r2
      have st := cE_star e2 as0 X.env
      refine ⟨(pa_cons h1.1 h2 st).imp fun σ H Q ⟨ι, st, loc, S, L, P⟩ => ?_, by simp [h3], fun pos => plain_cons st (h4 pos), fun a b z => by cases z; exact ⟨st, h4⟩⟩
      rw [runs] at P
      obtain ⟨d, st1, e1, P⟩ := bnd_invA (β := D) P
      obtain ⟨ds, st2, e2, P⟩ := bnd_invA (β := D) P
      exact tE_of S L e1 fun H1 ι1 v E1 S1 r1 => tA_of S1 (L.ext E1) e2 fun H2 ι2 vs E2 S2 r2 => P H2 ι2 (v :: vs) (E1.trans E2) S2 (.cons (r1.ext E2) r2)
    · cases e
theorem sc_step {T : Tab} {g : Fns} {n : Nat} (h : SE T g n) : SC T g (n + 1) := by
  intro X sc scope N x elt src ifs y px C hc
  refine ⟨fun e => ?_, fun p3 p4 hg e => ?_⟩
  · unfold cComp at e
    split at e
    · rename_i s' e' e1 e2
      have h1 := h C e1
      have h2 := fun fp s H => (h (ctx_comp C hc fp s H) e2).1
      split at e
      · cases e
        exact e_comp C hc h1.1 h2 (cE_fold e1 X.env)
      · split at e
        · rename_i c' e3
          cases e
          exact e_compIf C hc h1.1 (fun fp s H => (h (ctx_comp C hc fp s H) e3).2) h2 (cE_fold e1 X.env)
        · cases e
      · cases e
    · cases e
  · unfold cComp at e
    split at e
    · rename_i s' e' e1 e2
      have h1 := h C e1
      have h2 := fun fp s H => (h (ctx_comp C hc fp s H) e2).1
      have st := cE_star e1 [] X.env
      split at e
      · cases e
        exact e_compR C hc hg st h1.1 h2
      · split at e
        · rename_i c' e3
          cases e
          exact e_compRIf C hc hg st h1.1 (fun fp s H => (h (ctx_comp C hc fp s H) e3).2) h2
        · cases e
      · cases e
    · cases e
theorem t_ite {X : Cx} {g : Fns} {pos : Pos} {c a b : Expr} {c' a' b' : Ex} (hc : PT X c (tT X.K (run g c'))) (ha : PT X a (tT X.K (run g a'))) (hb : PT X b (tT X.K (run g b'))) : PT X (.IfExp c a b pos) (tT X.K (run g (.ite c' a' b'))) := by
  intro pins s σ H Q I h
  obtain ⟨ι, st, loc, S, L, P⟩ := h
  rw [run] at P
  obtain ⟨x, st1, e1, P⟩ := bnd_invT P
  obtain ⟨i, st2, e2, P⟩ := bnd_invT P
  obtain ⟨e3, rfl⟩ := ofO_inv e2
  have := bool?_inv e3
  subst this
  refine isTrue_IfExp (thn (hc pins s σ H (fun k H1 => if k = true then tT X.K (run g a') σ H1 Q else tT X.K (run g b') σ H1 Q) I (tT_of S L e1 fun H1 ι1 E1 S1 => ?_)) fun k s1 ⟨H1, I1, q1⟩ => ?_)
  · cases i with
    | true => rw [if_pos rfl]; exact ⟨ι1, st2, loc, S1, L.ext E1, P.mono E1⟩
    | false => rw [if_neg Bool.false_ne_true]; exact ⟨ι1, st2, loc, S1, L.ext E1, P.mono E1⟩
  · cases k with
    | true => exact ha pins s1 σ H1 Q I1 (by simpa using q1)
    | false => exact hb pins s1 σ H1 Q I1 (by simpa using q1)
theorem both {X : Cx} {e : Expr} {m : Loc → M D} (h : PE X e (tE X.K m)) (he : ∀ whole, isTrue e X.env whole = (do let v ← whole; standAt e.pos; holding [v] (truthy v))) : PE X e (tE X.K m) ∧ PT X e (tT X.K m) := ⟨h, pt_plain h he⟩
theorem map_some {α β : Type} {f : α → β} {o : Option α} {b : β} (h : o.map f = some b) : ∃ a, o = some a ∧ b = f a := by
  cases o with
  | none => cases h
  | some a => exact ⟨a, rfl, (Option.some.inj h).symm⟩
def isComp2 : Expr → Bool
  | .ListComp _ [⟨.Tuple _ _ _, _, _, _⟩] _ _ => true
  | _ => false
theorem cE_comp {T : Tab} {g : Fns} {n : Nat} (hc : SC T g n) {X : Cx} {sc scope : Scope} {N : List Str} {elt : Expr} {gens : List Comprehension} {pos : Pos} {y : Ex} (C : Ctx T g X sc N) (ex : cE T (n + 1) sc N (.ListComp elt gens scope pos) = some y) :
    isComp2 (.ListComp elt gens scope pos) = false → ∃ x px it ifs, gens = [⟨.Name x px, it, ifs, 0⟩] ∧ compOk sc scope N x = true ∧ CompD g X x px it ifs elt scope y := by
  intro h2
  cases gens with
  | nil => simp [cE] at ex
  | cons c r =>
    cases r with
    | cons _ _ => simp [cE] at ex
    | nil =>
      obtain ⟨tg, it, ifs, as⟩ := c
      by_cases h0 : as = 0
      · subst h0
        cases tg with
        | Name x px =>
          unfold cE at ex
          simp only at ex
          split at ex
          · rename_i hk
            refine ⟨x, px, it, ifs, rfl, hk, ?_⟩
            split at ex
            · split at ex
              · rename_i hr
                obtain ⟨rfl, hr⟩ := hr
                exact (hc C hk).2 _ _ hr ex
              · exact (hc C hk).1 ex
            · exact (hc C hk).1 ex
          · cases ex
        | Tuple es k p => simp [isComp2] at h2
        | _ => simp [cE] at ex
      · exfalso
        unfold cE at ex
        split at ex <;> simp_all
theorem se_step {T : Tab} {g : Fns} {n : Nat} (h : SE T g n) (hs : SEs T g n) (hc : SC T g n) : SE T g (n + 1) := by
  intro X sc N e x C ex
  unfold cE at ex
  split at ex
  · cases ex; exact both (e_const (X := X) (g := g) pe_int (d := .int _) (fun _ _ _ => .int _)) fun _ => rfl
  · cases ex; exact both (e_const (X := X) (g := g) pe_str (d := .str _) (fun _ _ _ => .str _)) fun _ => rfl
  · cases ex; exact both (e_const (X := X) (g := g) pe_bl (d := .bl _) (fun _ _ _ => .bl _)) fun _ => rfl
  · cases ex; exact both (e_const (X := X) (g := g) pe_non (d := .non) (fun _ _ _ => .non)) fun _ => rfl
  · split at ex
    · rename_i q
      obtain ⟨i, hi, rfl⟩ := map_some ex
      exact both (e_var C hi (.inl q)) fun _ => rfl
    · rename_i q
      obtain ⟨i, hi, rfl⟩ := map_some ex
      exact both (e_var C hi (.inr (.inl q))) fun _ => rfl
    · rename_i q
      obtain ⟨i, hi, rfl⟩ := map_some ex
      exact both (e_var C hi (.inr (.inr q))) fun _ => rfl
    · rename_i q
      obtain ⟨d, hd, rfl⟩ := map_some ex
      obtain ⟨a1, u, v, a2, a3, a4⟩ := C.csts _ _ hd
      exact both (e_const (pe_glob (by show X.env.scope.names.lookup _ = _; rw [C.sc]; exact q) a2 a3 a1) a4) fun _ => rfl
    · cases ex
  · split at ex
    · rename_i hz
      obtain ⟨xs, hx, rfl⟩ := map_some ex
      obtain ⟨h1, h2, _⟩ := hs C hx
      exact both (e_tup h1 hz h2) fun _ => rfl
    · cases ex
  · split at ex
    · rename_i hz
      obtain ⟨xs, hx, rfl⟩ := map_some ex
      obtain ⟨h1, h2, _⟩ := hs C hx
      exact both (e_lst h1 hz h2) fun _ => rfl
    · cases ex
  · cases ex; exact both (e_emp (X := X) (g := g)) fun _ => rfl
  · split at ex
    · rename_i e1 e2 e3
      cases ex
      exact both (e_bin e2 (h C e1).1 (h C e3).1) fun _ => rfl
    · cases ex
  · obtain ⟨a', ha, rfl⟩ := map_some ex
    exact ⟨e_not (h C ha).1, t_not (h C ha).2⟩
  · obtain ⟨a', ha, rfl⟩ := map_some ex
    exact both (e_neg (h C ha).1) fun _ => rfl
  · exact ⟨pe_one (h C ex).1, t_one (h C ex).2⟩
  · split at ex
    · rename_i e1 e2
      cases ex
      exact ⟨e_and (h C e1).1 (h C e2).1, t_and (h C e1).2 (h C e2).2⟩
    · cases ex
  · split at ex
    · rename_i e1 e2
      cases ex
      exact ⟨e_or (h C e1).1 (h C e2).1, t_or (h C e1).2 (h C e2).2⟩
    · cases ex
  · split at ex
    · rename_i e1 e2
      cases ex
      exact ⟨e_cmp C.un (cE_marks e2 _) (h C e1).1 (h C e2).1, t_cmp C.un (cE_marks e2 _) (h C e1).1 (h C e2).1⟩
    · cases ex
  · split at ex
    · rename_i e1 e2 e3
      cases ex
      exact ⟨e_chain C.un (cE_marks e3 _) (h C e1).1 (h C e2).1 (h C e3).1, t_chain C.un (cE_marks e3 _) (h C e1).1 (h C e2).1 (h C e3).1⟩
    · cases ex
  · obtain ⟨a', ha, rfl⟩ := map_some ex
    exact both (e_sl (h C ha).1 po_none po_none part_no part_no (pos := ‹_›)) fun _ => rfl
  · split at ex
    · rename_i e1 e2
      cases ex
      exact both (e_sl (h C e1).1 (po_some (h C e2).1) po_none part_yes part_no (pos := ‹_›)) fun _ => rfl
    · cases ex
  · split at ex
    · rename_i e1 e2
      cases ex
      exact both (e_sl (h C e1).1 po_none (po_some (h C e2).1) part_no part_yes (pos := ‹_›)) fun _ => rfl
    · cases ex
  · split at ex
    · rename_i e1 e2 e3
      cases ex
      exact both (e_sl (h C e1).1 (po_some (h C e2).1) (po_some (h C e3).1) part_yes part_yes (pos := ‹_›)) fun _ => rfl
    · cases ex
  · split at ex
    · rename_i hp
      split at ex
      · rename_i e1 e2
        cases ex
        exact both (e_ix hp (h C e1).1 (h C e2).1) fun _ => rfl
      · cases ex
    · cases ex
  · split at ex
    · cases ex
    · rename_i hg
      rw [Bool.not_eq_false] at hg
      split at ex
      · cases ex
      · split at ex
        · rename_i hi
          obtain ⟨xs, hx, rfl⟩ := map_some ex
          obtain ⟨h1, h2, _, h3⟩ := hs C hx
          obtain ⟨h4, h5⟩ := h3 _ _ rfl
          exact both (e_fn C hg hi h1 h2 h4 (h5 _)) fun _ => rfl
        · split at ex
          · rename_i hb
            obtain ⟨xs, hx, rfl⟩ := map_some ex
            obtain ⟨h1, h2, _, h3⟩ := hs C hx
            obtain ⟨h4, h5⟩ := h3 _ _ rfl
            exact both (e_bt C hg hb h1 h4 (h5 _)) fun _ => rfl
          · split at ex
            · rename_i hf
              subst hf
              split at ex
              · split at ex
                · rename_i hgt
                  split at ex
                  · rename_i ty a' ht ha
                    cases ex
                    exact both (e_isi C hg hgt ht (h C ha).1 (cE_star ha _ _)) fun _ => rfl
                  · cases ex
                · cases ex
              · cases ex
            · cases ex
  · split at ex
    · rename_i hk
      split at ex
      · split at ex
        · rename_i hr
          obtain ⟨rfl, hr⟩ := hr
          exact both (((hc C hk).2 _ _ hr ex).pe C hk) fun _ => rfl
        · exact both (((hc C hk).1 ex).pe C hk) fun _ => rfl
      · exact both (((hc C hk).1 ex).pe C hk) fun _ => rfl
    · cases ex
  · split at ex
    · rename_i hr
      obtain ⟨⟨rfl, hr⟩, hk⟩ := hr
      split at ex
      · rename_i e1 e2
        cases ex
        exact both (e_compE C hk hr (cE_star e1 [] _) (h C e1).1 fun fp s H => (h (ctx_comp2 C hk fp s H) e2).1) fun _ => rfl
      · cases ex
    · cases ex
  · split at ex
    · rename_i e1 e2 e3
      cases ex
      exact ⟨e_ite (h C e1).2 (h C e2).1 (h C e3).1, t_ite (h C e1).2 (h C e2).2 (h C e3).2⟩
    · cases ex
  · cases ex
theorem sound (T : Tab) (g : Fns) : ∀ n, SE T g n ∧ SEs T g n ∧ SC T g n
  | 0 => by
    refine ⟨?_, ?_, ?_⟩
    · intro X sc N e x C h
      unfold cE at h
      cases h
    · intro X sc N e x C h
      unfold cEs at h
      cases h
    · intro X sc scope N x elt src ifs y px C hc
      refine ⟨fun h => ?_, fun _ _ _ h => ?_⟩
      · unfold cComp at h
        cases h
      · unfold cComp at h
        cases h
  | n + 1 => by
    obtain ⟨a, b, c⟩ := sound T g n
    exact ⟨se_step a b c, ses_step a b, sc_step a⟩
end Ev

set_option Elab.async false
set_option linter.all false
set_option maxRecDepth 100000
set_option maxHeartbeats 16000000
/-! STATEMENTS -/
namespace Ev
open PySem PySem.Spec PyProof.Rows L2

def isLocal (sc : Scope) (x : Str) : Bool := sc.names.lookup x == some .local || sc.names.lookup x == some .cell
def isComp : Expr → Bool
  | .ListComp .. => true
  | _ => false
def isNameE : Expr → Bool
  | .Name .. => true
  | _ => false
def isAppend (s : Str) : Bool := s == "append"
mutual
def cS (T : Tab) (n : Nat) (sc : Scope) (N : List Str) (s : Stmt) : Option S := match n with
  | 0 => none
  | n + 1 => match s with
    | .Assign [.Name x _] e _ => if isLocal sc x && !isComp2 e then (match ixOf N x, cE T n sc N e with
      | some i, some e' => some (.set i e')
      | _, _ => none) else none
    | .Assign [.Subscript o i _] e _ => if plainSub i then (match cE T n sc N o, cE T n sc N i, cE T n sc N e with
      | some o', some i', some e' => some (.setix o' i' e')
      | _, _, _ => none) else none
    | .Return (some e) _ => (cE T n sc N e).map .ret
    | .Return none _ => some .ret0
    | .Expr (.Call (.Attribute o m ap) [e] [] cp) _ => if isAppend m && (ap.endLine == cp.line) && isNameE o then (match cE T n sc N o, cE T n sc N e with
      | some o', some e' => some (.app o' e')
      | _, _ => none) else none
    | .Expr e _ => if isComp e then none else (cE T n sc N e).map .ex
    | .If c a b _ => match cE T n sc N c, cSs T n sc N a, cSs T n sc N b with
      | some c', some a', some b' => some (.ite c' a' b')
      | _, _, _ => none
    | .For (.Name x _) it body [] _ => if isLocal sc x then (match ixOf N x, cSs T n sc N body with
      | some i, some b' => (match it with
        | .Call (.Name r _) [a] [] _ => if r = "range" ∧ isGlob sc r = true then (cE T n sc N a).map fun a' => .for_ i true a' b' else (cE T n sc N it).map fun a' => .for_ i false a' b'
        | _ => (cE T n sc N it).map fun a' => .for_ i false a' b')
      | _, _ => none) else none
    | .Pass _ => some .pass
    | _ => none
def cSs (T : Tab) (n : Nat) (sc : Scope) (N : List Str) (ss : List Stmt) : Option (List S) := match n with
  | 0 => none
  | n + 1 => match ss with
    | [] => some []
    | s :: r => match cS T n sc N s, cSs T n sc N r with
      | some s', some r' => some (s' :: r')
      | _, _ => none
end
def PostS (K : PySem.W.Frag) (H : Hp) (ι : Nat → Addr) (st : Sto) (r : R Fl) (D : Ends) : Prop := match r with
  | .ok (.nx loc) st' => ∀ H' ι' σ', Ext H H' ι ι' st.length st'.length → Sim K H' ι' st' → LRel K H' ι' st'.length loc σ' → D.nx σ' H'
  | .ok (.rt d) st' => ∀ H' ι' v, Ext H H' ι ι' st.length st'.length → Sim K H' ι' st' → VRel K H' ι' st'.length d v → D.rt v H'
  | .bad => False
def tS (K : PySem.W.Frag) (m : Loc → M Fl) : TS := fun D σ H => ∃ ι st loc, Sim K H ι st ∧ LRel K H ι st.length loc σ ∧ PostS K H ι st (m loc st) D
section
variable {K : PySem.W.Frag} {H : Hp} {ι : Nat → Addr} {st : Sto}
theorem bnd_invS {α : Type} {m : M α} {f : α → M Fl} {st0 : Sto} {D : Ends} (P : PostS K H ι st (bnd m f st0) D) : ∃ a st1, m st0 = .ok a st1 ∧ PostS K H ι st (f a st1) D := by
  unfold bnd at P
  cases e : m st0 with
  | ok a st1 => rw [e] at P; exact ⟨a, st1, rfl, P⟩
  | bad => rw [e] at P; exact P.elim
theorem PostS.mono {r : R Fl} {D : Ends} {H1 : Hp} {ι1 : Nat → Addr} {st1 : Sto} (P : PostS K H ι st r D) (E : Ext H H1 ι ι1 st.length st1.length) : PostS K H1 ι1 st1 r D := by
  cases r with
  | ok f st2 =>
    cases f with
    | nx loc => exact fun H' ι' σ' E' S' r' => P H' ι' σ' (E.trans E') S' r'
    | rt d => exact fun H' ι' v E' S' r' => P H' ι' v (E.trans E') S' r'
  | bad => exact P
end
theorem _root_.L2.PS.imp {X : Cx} {s : Stmt} {t t' : TS} (h : PS X s t) (k : ∀ D σ H, t' D σ H → t D σ H) : PS X s t' := fun pins s σ H D I q => h pins s σ H D I (k D σ H q)
theorem _root_.L2.PSs.imp {X : Cx} {s : List Stmt} {t t' : TS} (h : PSs X s t) (k : ∀ D σ H, t' D σ H → t D σ H) : PSs X s t' := fun pins s σ H D I q => h pins s σ H D I (k D σ H q)
section
variable {T : Tab} {g : Fns} {X : Cx} {sc : Scope} {N : List Str} {pos p2 p3 : Pos}
theorem loc_of (C : Ctx T g X sc N) {x : Str} (h : isLocal sc x = true) : L2.Loc X.env.scope x := by
  show X.env.scope.names.lookup x = _ ∨ X.env.scope.names.lookup x = _
  rw [C.sc]
  simpa [isLocal] using h
theorem rd_set {e' : Ex} {i : Nat} {D : Ends} {σ : L2.St} {H : Hp} (h : tS X.K (exec g (.set i e')) D σ H) : tAsg (tE X.K (run g e')) (gName i) D σ H := by
  obtain ⟨ι, st, loc, S, L, P⟩ := h
  rw [exec] at P
  obtain ⟨d, st1, e1, P⟩ := bnd_invS P
  exact tE_of S L e1 fun H1 ι1 v E1 S1 r1 => P H1 ι1 _ E1 S1 ((L.ext E1).set i r1)
theorem s_setix {o i e : Expr} {o' i' e' : Ex} (hp : plainSub i = true) (ho : PE X o (tE X.K (run g o'))) (hi : PE X i (tE X.K (run g i'))) (he : PE X e (tE X.K (run g e'))) : PS X (.Assign [.Subscript o i p2] e pos) (tS X.K (exec g (.setix o' i' e'))) := by
  refine (ps_asg he (pg_sub ho hi set_list (fun v => by cases i <;> first | rfl | cases hp)) (by cases e <;> rfl) (by cases e <;> rfl)).imp fun D σ H ⟨ι, st, loc, S, L, P⟩ => ?_
  rw [exec] at P
  obtain ⟨d, st1, e1, P⟩ := bnd_invS P
  obtain ⟨x, st2, e2, P⟩ := bnd_invS P
  obtain ⟨k, st3, e3, P⟩ := bnd_invS P
  obtain ⟨u, st4, e4, P⟩ := bnd_invS P
  refine tE_of S L e1 fun H1 ι1 v E1 S1 r1 => tE_of S1 (L.ext E1) e2 fun H2 ι2 vx E2 S2 r2 => tE_of S2 ((L.ext E1).ext E2) e3 fun H3 ι3 vk E3 S3 r3 => ?_
  have r2' := r2.ext E3
  have r1' := (r1.ext E2).ext E3
  unfold setitem at e4
  split at e4
  · rename_i n0 k0 z0
    split at e4
    · rename_i xs q
      split at e4
      · rename_i j hj
        cases e4
        cases r2' with
        | ref hn =>
          cases r3
          obtain ⟨vs, g1, g2⟩ := S3.ob _ _ q
          have rr := g2.set j r1'
          obtain ⟨E4, S4⟩ := S3.write q rr
          refine ⟨_, _, _, j, rfl, rfl, g1, by rw [← g2.length]; exact hj, ?_⟩
          have E5 := (E1.trans E2).trans E3
          have E4' : Ext H3 (upd H3 (ι3 n0) (.lst (vs.set j v))) ι3 ι3 st3.length (st3.set n0 (O.lst (xs.set j d))).length := by rw [List.length_set]; exact E4
          exact P _ ι3 σ (E5.trans E4') S4 (((L.ext E5)).ext E4')
      · cases e4
    · cases e4
  · cases e4
theorem s_ret {e : Expr} {e' : Ex} (he : PE X e (tE X.K (run g e'))) : PS X (.Return (some e) pos) (tS X.K (exec g (.ret e'))) :=
  (ps_ret he).imp fun D σ H ⟨ι, st, loc, S, L, P⟩ => by
    rw [exec] at P
    obtain ⟨d, st1, e1, P⟩ := bnd_invS P
    exact tE_of S L e1 fun H1 ι1 v E1 S1 r1 => P H1 ι1 v E1 S1 r1
theorem s_ret0 : PS X (.Return none pos) (tS X.K (exec g .ret0)) :=
  ps_retN.imp fun D σ H ⟨ι, st, loc, S, L, P⟩ => by
    rw [exec] at P
    exact P H ι .non (Ext.refl _ _ _) S .non
theorem s_ex {e : Expr} {e' : Ex} (hk : isComp e = false) (hm : ∃ n sc N, cE T n sc N e = some e') (he : PE X e (tE X.K (run g e'))) : PS X (.Expr e pos) (tS X.K (exec g (.ex e'))) := by
  obtain ⟨n, sc', N', hm⟩ := hm
  have hs : swapsWith e none pos.line X.env = pure false := by
    cases n with
    | zero => cases hm
    | succ n => cases e <;> first | rfl | (simp [isComp] at hk; done) | (simp [cE] at hm; done)
  refine (ps_expr he hs).imp fun D σ H ⟨ι, st, loc, S, L, P⟩ => ?_
  rw [exec] at P
  obtain ⟨d, st1, e1, P⟩ := bnd_invS P
  exact tE_of S L e1 fun H1 ι1 v E1 S1 r1 => P H1 ι1 σ E1 S1 (L.ext E1)
theorem s_app {o e : Expr} {o' e' : Ex} {m : Str} {ap cp : Pos} (hm : isAppend m = true) (hl : (ap.endLine == cp.line) = true) (hst : starEach [e] X.env = [(false, eval e X.env)]) (hb : attributeBase o m X.env (eval o X.env) = eval o X.env) (ho : PE X o (tE X.K (run g o'))) (he : PE X e (tE X.K (run g e'))) :
    PS X (.Expr (.Call (.Attribute o m ap) [e] [] cp) pos) (tS X.K (exec g (.app o' e'))) := by
  have hm : m = "append" := by simpa [isAppend] using hm
  subst hm
  refine (ps_expr (pe_bm PySem.F.plainAttrs_list PySem.F.slot_list_append PySem.F.type_list_append mt_append ho (pa_cons he pa_nil hst) hb (by rw [hst]; rfl) hl hst rfl)).imp fun D σ H ⟨ι, st, loc, S, L, P⟩ => ?_
  rw [exec] at P
  obtain ⟨x, st1, e1, P⟩ := bnd_invS P
  obtain ⟨u0, st0, e0, P⟩ := bnd_invS P
  obtain ⟨d, st2, e2, P⟩ := bnd_invS P
  obtain ⟨u, st3, e3, P⟩ := bnd_invS P
  have sz : sizeLine = 16777216 := sizeLine_eq
  unfold append at e3
  split at e3
  · rename_i n z1 z0
    split at e3
    · rename_i xs q
      split at e3
      · rename_i hz
        cases e3
        simp only [lstOk] at e0
        split at e0
        · rename_i zs q0
          cases e0
          refine tE_of S L e1 fun H1 ι1 vx E1 S1 r1 => ?_
          cases r1 with
          | ref hn =>
            obtain ⟨ws, w1, _⟩ := S1.ob _ _ q0
            refine ⟨.inl ⟨rfl, ws, SqL.of w1⟩, tE_of S1 (L.ext E1) e2 fun H2 ι2 v E2 S2 r2 => ?_⟩
            obtain ⟨vs, g1, g2⟩ := S2.ob _ _ q
            have l := g2.length
            have rr := g2.append (.cons r2 .nil)
            obtain ⟨E4, S4⟩ := S2.write q rr
            rw [E2.ad n hn] at g1 E4 S4
            refine ⟨_, _, _, rfl, rfl, g1, by omega, ?_⟩
            have E5 := E1.trans E2
            have E4' : Ext H2 (upd H2 (ι1 n) (.lst (vs ++ [v]))) ι2 ι2 st2.length (st2.set n (O.lst (xs ++ [d]))).length := by rw [List.length_set]; exact E4
            exact P _ ι2 σ (E5.trans E4') S4 ((L.ext E5).ext E4')
        · cases e0
      · cases e3
    · cases e3
  · cases e3
theorem s_if {c : Expr} {a b : List Stmt} {c' : Ex} {a' b' : List S} (hc : PT X c (tT X.K (run g c'))) (ha : PSs X a (tS X.K (execs g a'))) (hb : PSs X b (tS X.K (execs g b'))) : PS X (.If c a b pos) (tS X.K (exec g (.ite c' a' b'))) :=
  (ps_if hc ha hb).imp fun D σ H ⟨ι, st, loc, S, L, P⟩ => by
    rw [exec] at P
    obtain ⟨x, st1, e1, P⟩ := bnd_invS P
    obtain ⟨i, st2, e2, P⟩ := bnd_invS P
    obtain ⟨e3, rfl⟩ := ofO_inv e2
    have := bool?_inv e3
    subst this
    refine tT_of S L e1 fun H1 ι1 E1 S1 => ?_
    cases i with
    | true => rw [if_pos rfl]; exact ⟨ι1, st2, loc, S1, L.ext E1, P.mono E1⟩
    | false => rw [if_neg Bool.false_ne_true]; exact ⟨ι1, st2, loc, S1, L.ext E1, P.mono E1⟩
theorem s_pass : PS X (.Pass pos) (tS X.K (exec g .pass)) :=
  ps_pass.imp fun D σ H ⟨ι, st, loc, S, L, P⟩ => by
    rw [exec] at P
    exact P H ι σ (Ext.refl _ _ _) S L
/-- a loop's turns -/
theorem for_ok {J : It} {s : Src} {H : Hp} {ι : Nat → Addr} {st st0 : Sto} {H0 : Hp} {ι0 : Nat → Addr} {loc : Loc} {σ : L2.St} {D : Ends} {i : Nat} {b' : List S}
    (F : Corr X.K J s H ι st.length) (E0 : Ext H0 H ι0 ι st0.length st.length) (Sm : Sim X.K H ι st) (L : LRel X.K H ι st.length loc σ) (P : PostS X.K H0 ι0 st0 (forS (fun x loc' => execs g b' (loc'.set i (some x))) s loc st) D) :
    ∃ W : Nat → Nat → L2.St → Hp → Prop, (∃ m, W 0 m σ H) ∧ ∀ k m σ H, W k m σ H →
      (J.stop k H ∧ D.nx σ H) ∨ (J.go k H ∧ ∃ Nn : L2.St → Hp → Prop, (∀ σ' H', Nn σ' H' → ∃ m', m' < m ∧ W (k + 1) m' σ' H') ∧ ∀ x H', J.yld k H x H' → gName i x σ H' fun σ2 H2 => tS X.K (execs g b') { D with nx := Nn, ct := Nn, bk := D.nx } σ2 H2) := by
  refine ⟨fun k m σ2 H2 => ∃ ι2 st2 loc2, Ext H H2 ι ι2 st.length st2.length ∧ Sim X.K H2 ι2 st2 ∧ LRel X.K H2 ι2 st2.length loc2 σ2 ∧ PostS X.K H0 ι0 st0 (forN (fun x loc' => execs g b' (loc'.set i (some x))) s m k loc2 st2) D, ⟨lenS s st + 1, ι, st, loc, Ext.refl _ _ _, Sm, L, P⟩, ?_⟩
  rintro k m σ2 H2 ⟨ι2, st2, loc2, E2, S2, L2', P2⟩
  obtain ⟨c1, c2⟩ := F H2 ι2 st2 k E2 S2
  cases m with
  | zero => exact P2.elim
  | succ m =>
    simp only [forN] at P2
    cases en : nxt s k st2 with
    | none => rw [en] at P2; exact P2.elim
    | some ox =>
      rw [en] at P2
      cases ox with
      | none => exact .inl ⟨c1 en, P2 H2 ι2 σ2 (E0.trans E2) S2 L2'⟩
      | some x =>
        obtain ⟨hgo, hyl⟩ := c2 x en
        refine .inr ⟨hgo, fun σ3 H3 => ∃ ι3 st3 loc3, Ext H H3 ι ι3 st.length st3.length ∧ Sim X.K H3 ι3 st3 ∧ LRel X.K H3 ι3 st3.length loc3 σ3 ∧ PostS X.K H0 ι0 st0 (forN (fun x loc' => execs g b' (loc'.set i (some x))) s m (k + 1) loc3 st3) D, fun σ' H' q => ⟨m, Nat.lt_succ_self _, q⟩, fun v H' y => ?_⟩
        obtain ⟨rfl, rv⟩ := hyl v H' y
        obtain ⟨r, st3, e3, P3⟩ := bnd_invS P2
        refine ⟨ι2, st2, loc2.set i (some x), S2, L2'.set i rv, ?_⟩
        rw [e3]
        cases r with
        | nx loc3 => exact fun H3 ι3 σ3 E3 S3 L3 => ⟨ι3, st3, loc3, E2.trans E3, S3, L3, P3⟩
        | rt d => exact fun H3 ι3 w E3 S3 r3 => P3 H3 ι3 w ((E0.trans E2).trans E3) S3 r3
theorem for_bad {f : D → Loc → M Fl} {loc : Loc} (n : Nat) (st : Sto) (h : ∀ xs, st[n]? ≠ some (.lst xs)) : forS f (.at n) loc st = .bad := by
  unfold forS
  simp only [forN, nxt_bad h]
theorem s_for (hp : PassesOwn (model X.prog X.w) X.A X.env X.xe) (C : Ctx T g X sc N) {x : Str} {it : Expr} {body : List Stmt} {a' : Ex} {b' : List S} {i : Nat} (hx : isLocal sc x = true) (hfn : ∀ y, X.fn y = true) (hi : ixOf N x = some i) (ha : PE X it (tE X.K (run g a'))) (hf : ∀ v, foldedSetIterable it X.env v = pure v) (hb : PSs X body (tS X.K (execs g b'))) :
    PS X (.For (.Name x p2) it body [] pos) (tS X.K (exec g (.for_ i false a' b'))) := by
  refine (ps_for hp C.calm (pi_seq ha) (pg_name (i := i) (by rw [C.n]; exact C.nd) (by rw [C.n]; exact ixOf_get hi) (loc_of C hx) (.inl (hfn x))) hb hf).imp fun D σ H ⟨ι, st, loc, S, L, P⟩ => ?_
  rw [exec] at P
  obtain ⟨d, st1, e1, P⟩ := bnd_invS P
  obtain ⟨s, st2, e2, P⟩ := bnd_invS P
  obtain ⟨e3, rfl⟩ := ofO_inv e2
  refine tE_of S L e1 fun H1 ι1 v E1 S1 r1 => ?_
  cases r1 with
  | tup h r => cases e3; exact ⟨_, rfl, .inr ⟨⟨_, h⟩, for_ok (Corr.tup h r) E1 S1 (L.ext E1) P⟩⟩
  | fl h r => cases e3; exact ⟨_, rfl, .inl ⟨⟨_, h.sql⟩, for_ok (Corr.fl h r) E1 S1 (L.ext E1) P⟩⟩
  | @ref n hn =>
    cases e3
    cases q : st2[n]? with
    | none =>
      rw [for_bad n st2 (fun xs z => by rw [q] at z; cases z)] at P
      exact P.elim
    | some o =>
      cases o with
      | dct =>
        rw [for_bad n st2 (fun xs z => by rw [q] at z; cases z)] at P
        exact P.elim
      | lst xs =>
        obtain ⟨vs, h1, _⟩ := S1.ob n _ q
        exact ⟨_, rfl, .inl ⟨⟨vs, SqL.of h1⟩, for_ok (Corr.ref hn) E1 S1 (L.ext E1) P⟩⟩
  | _ => cases e3
theorem s_forR (hp : PassesOwn (model X.prog X.w) X.A X.env X.xe) (C : Ctx T g X sc N) {x : Str} {a : Expr} {body : List Stmt} {a' : Ex} {b' : List S} {i : Nat} (hx : isLocal sc x = true) (hfn : ∀ y, X.fn y = true) (hi : ixOf N x = some i) (hg : isGlob sc "range" = true) (hst : starEach [a] X.env = [(false, eval a X.env)]) (ha : PE X a (tE X.K (run g a'))) (hb : PSs X body (tS X.K (execs g b'))) {p4 : Pos} :
    PS X (.For (.Name x p2) (.Call (.Name "range" p3) [a] [] p4) body [] pos) (tS X.K (exec g (.for_ i true a' b'))) := by
  have hgl : Gl X "range" := by
    show X.env.scope.names.lookup _ = some .globalImplicit
    rw [C.sc]
    simpa [isGlob] using hg
  refine (ps_for hp C.calm (pi_range1 hgl (C.blt _ (by decide +kernel)) (pa_cons ha pa_nil hst) hst) (pg_name (i := i) (by rw [C.n]; exact C.nd) (by rw [C.n]; exact ixOf_get hi) (loc_of C hx) (.inl (hfn x))) hb).imp fun D σ H ⟨ι, st, loc, S, L, P⟩ => ?_
  rw [exec] at P
  obtain ⟨d, st1, e1, P⟩ := bnd_invS P
  obtain ⟨s, st2, e2, P⟩ := bnd_invS P
  obtain ⟨e3, rfl⟩ := ofO_inv e2
  refine tE_of S L e1 fun H1 ι1 v E1 S1 r1 => ?_
  cases r1 with
  | int j =>
    simp only [source] at e3
    split at e3
    · rename_i hj
      cases e3
      exact ⟨j, rfl, by omega, by omega, for_ok Corr.rng E1 S1 (L.ext E1) P⟩
    · cases e3
  | _ => cases e3
end
end Ev

set_option Elab.async false
set_option linter.all false
set_option maxRecDepth 100000
set_option maxHeartbeats 16000000
/-! STATEMENTS, the whole; A DEF; THE TABLE -/
namespace Ev
open PySem PySem.Spec PyProof.Rows L2

def SS (T : Tab) (g : Fns) (n : Nat) : Prop := ∀ {X : Cx} {sc : Scope} {N : List Str} {s : Stmt} {s' : S}, Ctx T g X sc N → (∀ y, X.fn y = true) → PassesOwn (model X.prog X.w) X.A X.env X.xe → cS T n sc N s = some s' → PS X s (tS X.K (exec g s'))
def SSs (T : Tab) (g : Fns) (n : Nat) : Prop := ∀ {X : Cx} {sc : Scope} {N : List Str} {s : List Stmt} {s' : List S}, Ctx T g X sc N → (∀ y, X.fn y = true) → PassesOwn (model X.prog X.w) X.A X.env X.xe → cSs T n sc N s = some s' → PSs X s (tS X.K (execs g s'))
theorem sss_step {T : Tab} {g : Fns} {n : Nat} (h1 : SS T g n) (h2 : SSs T g n) : SSs T g (n + 1) := by
  intro X sc N s s' C hf hp h
  unfold cSs at h
  split at h
  · cases h
    refine pss_nil.imp fun D σ H ⟨ι, st, loc, S, L, P⟩ => ?_
    rw [execs] at P
    exact P H ι σ (Ext.refl _ _ _) S L
  · split at h
    · rename_i a r _ _ a' r' ea er
      cases h
      refine (pss_cons (h1 C hf hp ea) (h2 C hf hp er)).imp fun D σ H ⟨ι, st, loc, S, L, P⟩ => ?_
      rw [execs] at P
      obtain ⟨f, st1, e1, P⟩ := bnd_invS P
      refine ⟨ι, st, loc, S, L, ?_⟩
      rw [e1]
      cases f with
      | nx loc1 => exact fun H1 ι1 σ1 E1 S1 L1 => ⟨ι1, st1, loc1, S1, L1, P.mono E1⟩
      | rt d => exact P
    · cases h
theorem swaps_no {T : Tab} {n : Nat} {sc : Scope} {N : List Str} {e : Expr} {e' : Ex} (hk : isComp e = false) (hm : cE T n sc N e = some e') (o : Option Expr) (l : Nat) (env : Env) (ho : o = none ∨ ∃ x p, o = some (.Name x p)) : swapsWith e o l env = pure false := by
  cases n with
  | zero => cases hm
  | succ n =>
    rcases ho with rfl | ⟨x, p, rfl⟩
    · cases e <;> first | rfl | (simp [isComp] at hk; done) | (simp [cE] at hm; done)
    · cases e <;> first | rfl | (simp [isComp] at hk; done) | (simp [cE] at hm; done)
theorem base_no {o : Expr} (hk : isNameE o = true) (m : Str) (env : Env) : attributeBase o m env (eval o env) = eval o env := by
  cases o <;> first | rfl | (simp [isNameE] at hk; done)
theorem ss_step {T : Tab} {g : Fns} {n : Nat} (h1 : SS T g n) (h2 : SSs T g n) : SS T g (n + 1) := by
  intro X sc N s s' C hf hp h
  have snd := sound T g n
  have he := fun {e : Expr} {e' : Ex} (q : cE T n sc N e = some e') => snd.1 C q
  unfold cS at h
  split at h
  · rename_i x px e pp
    split at h
    · rename_i hl
      simp only [Bool.and_eq_true] at hl
      obtain ⟨hl, h2c⟩ := hl
      split at h
      · rename_i i e' hi hee
        cases h
        by_cases hk : isComp e = true
        · cases e <;> simp [isComp] at hk
          cases n with
          | zero => cases hee
          | succ m =>
            obtain ⟨y, py, it, ifs, rfl, hc, hd⟩ := cE_comp (sound T g m).2.2 C hee (by simpa using h2c)
            exact (CompD.ps C hc hd (by rw [C.n]; exact ixOf_get hi) (loc_of C hl) (.inl (hf _))).imp fun D σ H q => rd_set q
        · exact (ps_set (by rw [C.n]; exact C.nd) (by rw [C.n]; exact ixOf_get hi) (loc_of C hl) (he hee).1 (swaps_no (by simpa using hk) hee _ _ _ (.inr ⟨_, _, rfl⟩)) (.inl (hf _))).imp fun D σ H q => rd_set q
      · cases h
    · cases h
  · split at h
    · rename_i hp'
      split at h
      · rename_i a1 a2 a3
        cases h
        exact s_setix hp' (he a1).1 (he a2).1 (he a3).1
      · cases h
    · cases h
  · obtain ⟨e', q, rfl⟩ := map_some h
    exact s_ret (he q).1
  · cases h
    exact s_ret0
  · split at h
    · rename_i hm
      split at h
      · rename_i a1 a2
        cases h
        simp only [Bool.and_eq_true] at hm
        exact s_app hm.1.1 hm.1.2 (cE_star a2 [] _) (base_no hm.2 _ _) (he a1).1 (he a2).1
      · cases h
    · cases h
  · split at h
    · cases h
    · rename_i hk
      obtain ⟨e', q, rfl⟩ := map_some h
      exact s_ex (T := T) (by simpa using hk) ⟨n, sc, N, q⟩ (he q).1
  · split at h
    · rename_i a1 a2 a3
      cases h
      exact s_if (he a1).2 (h2 C hf hp a2) (h2 C hf hp a3)
    · cases h
  · split at h
    · rename_i hl
      split at h
      · rename_i hi hb
        split at h
        · split at h
          · rename_i hr
            obtain ⟨rfl, hr⟩ := hr
            obtain ⟨a', q, rfl⟩ := map_some h
            exact s_forR hp C hl hf hi hr (cE_star q [] _) (he q).1 (h2 C hf hp hb)
          · obtain ⟨a', q, rfl⟩ := map_some h
            exact s_for hp C hl hf hi (he q).1 (cE_fold q _) (h2 C hf hp hb)
        · obtain ⟨a', q, rfl⟩ := map_some h
          exact s_for hp C hl hf hi (he q).1 (cE_fold q _) (h2 C hf hp hb)
      · cases h
    · cases h
  · cases h
    exact s_pass
  · cases h
theorem ssound (T : Tab) (g : Fns) : ∀ n, SS T g n ∧ SSs T g n
  | 0 => by
    refine ⟨?_, ?_⟩
    · intro X sc N s s' C hf hp h
      unfold cS at h
      cases h
    · intro X sc N s s' C hf hp h
      unfold cSs at h
      cases h
  | n + 1 => ⟨ss_step (ssound T g n).1 (ssound T g n).2, sss_step (ssound T g n).1 (ssound T g n).2⟩

/-! ### a def, the table -/
structure Rec where
  name : Str
  ps : List Str
  N : List Str
  st : Stmt
  fn : Fn
structure Chk (T : Tab) (r : Rec) : Prop where
  sc : FnScope r.N r.ps (defScope r.st)
  nm : ∀ x ∈ r.N, (x == ("__debug__" : Str)) = false ∧ (x == ("__classdict__" : Str)) = false
  cc : cSs T 100 (defScope r.st) r.N (defBody r.st) = some r.fn.body
  ar : r.fn.ar = r.ps.length
  nl : r.fn.nl = r.N.length
  dn : (r.name == ("__debug__" : Str)) = false
structure Lnk (K : PySem.W.Frag) (mg : Str → Option Value) (r : Rec) (a : Addr) (fd : FuncData) : Prop where
  f : Fun K r.name r.name r.st a fd
  b : Binds K fd r.ps []
  m : mg r.name = some (.ref a)
theorem calls_bad {recs : List Rec} {T : Tab} {i : Nat} {r : Rec} (hr : recs[i]? = some r) (hc : Chk T r) : ∀ (n : Nat) (ds : List D) (st : Sto), ds.length ≠ r.ps.length → calls (recs.map (·.fn)) n i ds st = .bad
  | 0, _, _, _ => rfl
  | n + 1, ds, st, h => by
    have e : (recs.map (·.fn))[i]? = some r.fn := by rw [List.getElem?_map, hr]; rfl
    simp only [calls, e, callB]
    rw [if_neg (by rw [hc.ar]; exact h)]
    rfl
theorem start_rel {K : PySem.W.Frag} {H : Hp} {ι : Nat → Addr} {m : Nat} {ds : List D} {vs : List V} (r : VRels K H ι m ds vs) (N : List Str) (k : Nat) (hk : k = N.length) : LRel K H ι m (ds.map some ++ List.replicate (k - ds.length) none) (L2.start N vs) := by
  have l := r.length
  refine ⟨by simp [L2.start, l, hk], fun i d e => ?_⟩
  by_cases hi : i < ds.length
  · rw [List.getElem?_append_left (by simpa using hi), List.getElem?_map] at e
    cases q : ds[i]? with
    | none => rw [q] at e; cases e
    | some d' =>
      rw [q] at e
      have e' : d' = d := by simpa using e
      subst e'
      obtain ⟨v, hv, rv⟩ := r.get q
      refine ⟨v, ?_, rv⟩
      unfold L2.start
      rw [List.getElem?_append_left (by simpa [← l] using hi), List.getElem?_map, hv]
      rfl
  · rw [List.getElem?_append_right (by simpa using hi), List.getElem?_replicate] at e
    split at e <;> cases e
theorem all_fns {P : Program} {w : World} {K : PySem.W.Frag} {mg : Str → Option Value} {base : Heap} {T : Tab} {recs : List Rec} (hT : T.fns = recs.map (·.name)) (hc : ∀ r ∈ recs, Chk T r) (hl : ∀ r ∈ recs, ∃ a fd, Lnk K mg r a fd)
    (hcs : ∀ x d, T.csts.lookup x = some d → (x == ("__debug__" : Str)) = false ∧ ∃ u v, mg x = some u ∧ RelV v u ∧ ∀ H ι m, VRel K H ι m d v) (hb : ∀ x ∈ blts, mg x = none) :
    ∀ (n i : Nat) (r : Rec) (a : Addr) (fd : FuncData), recs[i]? = some r → Lnk K mg r a fd → FnOk P w K mg base CX0 n a fd r.ps (spF K r.ps.length (calls (recs.map (·.fn)) n i))
  | 0, i, r, a, fd, hr, L => ⟨fun vs H Q E h => h.1, fun A outer s H args us vs Q E _ _ _ _ h => by
      obtain ⟨_, ι, st, ds, _, _, q⟩ := h
      exact False.elim q⟩
  | n + 1, i, r, a, fd, hr, L => by
    have c := hc r (List.mem_of_getElem? hr)
    refine L.f.ok c.sc (fun vs H Q E h => h.1) (fun cdv A outer s H vs Q E hroom h => ?_)
    obtain ⟨hlen, ι, st, ds, S, rv, q⟩ := h
    have un := hroom.un
    have C : Ctx T (calls (recs.map (·.fn)) n) (cxOf CX0 P w K mg base r.N r.name (defScope r.st) a cdv A outer s H E).nox (defScope r.st) r.N := by
      refine ⟨rfl, rfl, c.sc.nd, c.nm, rfl, ?_, fun j f hj => ?_, hcs, hb⟩
      · show (A.deeper _).units + 100 < cLine
        omega
      · rw [hT, List.getElem?_map] at hj
        cases q : recs[j]? with
        | none => rw [q] at hj; cases hj
        | some r2 =>
          rw [q] at hj
          have hj : r2.name = f := by simpa using hj
          subst hj
          obtain ⟨a2, fd2, L2⟩ := hl r2 (List.mem_of_getElem? q)
          have c2 := hc r2 (List.mem_of_getElem? q)
          exact ⟨c2.dn, a2, fd2, r2.ps, n, L2.m, L2.f.kp, L2.b, hroom, calls_bad q c2 n, all_fns hT hc hl hcs hb n j r2 a2 fd2 q L2⟩
    refine ⟨_, (ssound T _ 100).2 C (fun _ => rfl) PassesOwn.never c.cc, ι, st, ds.map some ++ List.replicate (r.fn.nl - ds.length) none, S, start_rel rv _ _ c.nl, ?_⟩
    have e : (recs.map (·.fn))[i]? = some r.fn := by rw [List.getElem?_map, hr]; rfl
    have hd : ds.length = r.fn.ar := by rw [rv.length, hlen, c.ar]
    simp only [calls, e, callB] at q
    rw [if_pos hd] at q
    obtain ⟨f, st1, e1, q⟩ := bnd_inv q
    rw [e1]
    cases f with
    | nx loc => exact fun H1 ι1 σ1 E1 S1 L1 => q H1 ι1 .non E1 S1 .non
    | rt d => exact q
/-- the law, at a script -/
def spLaw (K : PySem.W.Frag) : Sp := fun vs H Q _ => ∃ (a : Addr) (ns : List Int), vs = [.ref a] ∧ SqL K H a (ns.map V.int) ∧ Only H ∧ ns.length ≤ 63 ∧ ∀ H', Q (.bl true) H'
theorem ints_rel {K : PySem.W.Frag} {H : Hp} {ι : Nat → Addr} {m : Nat} : ∀ ns : List Int, VRels K H ι m (ns.map .int) (ns.map V.int)
  | [] => .nil
  | n :: ns => .cons (.int n) (ints_rel ns)
theorem law_fn {P : Program} {w : World} {K : PySem.W.Frag} {mg : Str → Option Value} {base : Heap} {n : Nat} {a : Addr} {fd : FuncData} {x : Str} {f : List D → M D} (F : FnOk P w K mg base CX0 n a fd [x] (spF K 1 f))
    (h : ∀ ns : List Int, ns.length ≤ 63 → ∃ st', f [.fl (ns.map .int)] [] = .ok (.bl true) st') : FnOk P w K mg base CX0 n a fd [x] (spLaw K) := by
  refine F.imp fun vs H Q E ⟨a, ns, e, hS, hO, hl, q⟩ => ?_
  subst e
  obtain ⟨st', e⟩ := h ns hl
  refine ⟨rfl, fun _ => 0, [], [.fl (ns.map .int)], ⟨fun i _ hi => absurd hi (Nat.not_lt_zero _), fun i o e => by simp at e⟩, .cons (.fl (xs := ns.map V.int) ?_ (ints_rel ns)) .nil, ?_⟩
  · rcases hS with (h | h) | h
    · rcases hO a with z | ⟨o, xs, z⟩
      · rw [h] at z; cases z
      · rw [h] at z; cases z
    · exact .inl h
    · exact .inr h
  · rw [e]
    intro H' ι' v E' S' r
    cases r
    exact q H'
theorem walk {l : PySem.W.OpenLaw} {q : Program} {loose : List Str} {XP : (Str → Option Value) → Heap → Prop} {YP : World → Heap → Prop} {d : DefRec} {K : Params → PySem.W.Frag} {x : Str} {n : Nat} (hn : l.most = some 63) (hdf : d.params.defaults = []) (hr : Room n callerA)
    (hY : ∀ (w : World) (h : Heap), YP w h → (K w.params).In h)
    (F : ∀ (w : World) (mg : Str → Option Value) (fa : Addr) (h : Heap), (K w.params).In h → h.Ns mainGlobals mg → mg d.name = some (.ref fa) →
      ∃ fd : FuncData, (∀ (s : Shared) (u : Value), BindsTo s fd ⟨[u], []⟩ [(x, u)]) ∧ ∀ base : Heap, (K w.params).In base → base.Ns mainGlobals mg → FnOk l.prog w (K w.params) mg base CX0 n fa fd [x] (spLaw (K w.params))) :
    PySem.W.WalkO q loose XP YP l.row.toRowW d [] (fun f vs => PySem.call f vs) :=
  L2.walk_of (n := 63) (k := n) (x := x) (CX := fun _ => CX0) (sp := fun w => spLaw (K w.params)) hn (by decide) hdf hr hY F (fun _ _ a ns hl hO hS => ⟨a, ns, rfl, hS, hO, hl, fun _ => rfl⟩) fun _ _ _ _ _ z => z
end Ev

set_option Elab.async false
set_option linter.all false
set_option maxRecDepth 100000
set_option maxHeartbeats 4000000
/-! HOW A TERM OF THE SMALL LANGUAGE IS READ, BACKWARDS -/
namespace Ev
open PySem L2
def W {α : Type} (r : R α) (Q : α → Sto → Prop) : Prop := match r with
  | .ok a st => Q a st
  | .bad => False
theorem W.mono {α : Type} {r : R α} {Q Q' : α → Sto → Prop} (h : W r Q) (k : ∀ a st, Q a st → Q' a st) : W r Q' := by
  cases r with
  | ok a st => exact k _ _ h
  | bad => exact h
theorem W.get {α : Type} {r : R α} {Q : α → Sto → Prop} (h : W r Q) : ∃ a st, r = .ok a st ∧ Q a st := by
  cases r with
  | ok a st => exact ⟨a, st, rfl, h⟩
  | bad => exact h.elim
theorem w_bnd {α β : Type} {m : M α} {f : α → M β} {st : Sto} {Q : β → Sto → Prop} (h : W (m st) fun a st1 => W (f a st1) Q) : W (bnd m f st) Q := by
  unfold bnd
  cases e : m st with
  | ok a st1 => rw [e] at h; exact h
  | bad => rw [e] at h; exact h
section
variable {g : Fns} {loc : Loc} {st : Sto} {Q : D → Sto → Prop} {a b c : Ex}
theorem w_c {d : D} (h : Q d st) : W (run g (.c d) loc st) Q := by rw [run]; exact h
theorem w_v {i : Nat} {d : D} (e : loc[i]? = some (some d)) (h : Q d st) : W (run g (.v i) loc st) Q := by
  rw [run]; unfold ofO; rw [e]; exact h
theorem w_tup {es : List Ex} (h : W (runs g es loc st) fun ds st1 => Q (.tup ds) st1) : W (run g (.tup es) loc st) Q := by
  rw [run]; exact w_bnd (h.mono fun _ _ q => q)
theorem w_lst {es : List Ex} (h : W (runs g es loc st) fun ds st1 => Q (.ref st1.length) (st1 ++ [.lst ds])) : W (run g (.lst es) loc st) Q := by
  rw [run]; exact w_bnd (h.mono fun _ _ q => q)
theorem w_emp (h : Q (.ref st.length) (st ++ [.dct])) : W (run g .emp loc st) Q := by rw [run]; exact h
theorem w_bin {op : Bo} (h : W (run g a loc st) fun x st1 => W (run g b loc st1) fun y st2 => W (binop op x y st2) Q) : W (run g (.bin op a b) loc st) Q := by
  rw [run]; exact w_bnd (h.mono fun _ _ q => w_bnd q)
theorem w_neg (h : W (run g a loc st) fun x st1 => ∃ i, x = .int i ∧ Q (.int (-i)) st1) : W (run g (.neg a) loc st) Q := by
  rw [run]; exact w_bnd (h.mono fun _ _ ⟨i, e, q⟩ => by subst e; exact q)
theorem w_not (h : W (run g a loc st) fun x st1 => ∃ k, x = .bl k ∧ Q (.bl (!k)) st1) : W (run g (.not a) loc st) Q := by
  rw [run]; exact w_bnd (h.mono fun _ _ ⟨i, e, q⟩ => by subst e; exact q)
theorem w_and (h : W (run g a loc st) fun x st1 => ∃ k, x = .bl k ∧ (k = true → W (run g b loc st1) Q) ∧ (k = false → Q (.bl false) st1)) : W (run g (.and a b) loc st) Q := by
  rw [run]; exact w_bnd (h.mono fun _ _ ⟨k, e, q1, q2⟩ => by
    subst e
    cases k with
    | true => exact q1 rfl
    | false => exact q2 rfl)
theorem w_or (h : W (run g a loc st) fun x st1 => ∃ k, x = .bl k ∧ (k = true → Q (.bl true) st1) ∧ (k = false → W (run g b loc st1) Q)) : W (run g (.or a b) loc st) Q := by
  rw [run]; exact w_bnd (h.mono fun _ _ ⟨k, e, q1, q2⟩ => by
    subst e
    cases k with
    | true => exact q1 rfl
    | false => exact q2 rfl)
theorem w_cmp {op : CmpOp} (h : W (run g a loc st) fun x st1 => W (run g b loc st1) fun y st2 => W (cmpop op x y st2) Q) : W (run g (.cmp op a b) loc st) Q := by
  rw [run]; exact w_bnd (h.mono fun _ _ q => w_bnd q)
theorem w_chain {op op' : CmpOp} (h : W (run g a loc st) fun x st1 => W (run g b loc st1) fun y st2 => W (cmpop op x y st2) fun z st3 => ∃ k, z = .bl k ∧
    (k = true → W (run g c loc st3) fun w st4 => W (cmpop op' y w st4) Q) ∧ (k = false → Q (.bl false) st3)) : W (run g (.chain op op' a b c) loc st) Q := by
  rw [run]
  exact w_bnd (h.mono fun _ _ q => w_bnd (q.mono fun _ _ q => w_bnd (q.mono fun _ _ ⟨k, e, q1, q2⟩ => by
    subst e
    cases k with
    | true => exact w_bnd (show W ((bnd (run g c loc) fun w => cmpop op' _ w) _) Q from w_bnd (q1 rfl))
    | false => exact q2 rfl)))
theorem w_ix (h : W (run g a loc st) fun x st1 => W (run g b loc st1) fun y st2 => W (index x y st2) Q) : W (run g (.ix a b) loc st) Q := by
  rw [run]; exact w_bnd (h.mono fun _ _ q => w_bnd q)
theorem w_slTo (h : W (run g a loc st) fun x st1 => W (run g b loc st1) fun y st2 => ∃ i, y = .int i ∧ W (slice x none (some i) st2) Q) : W (run g (.sl a b b false true) loc st) Q := by
  rw [run]
  refine w_bnd (h.mono fun _ _ q => w_bnd ?_)
  show W ((bnd (if true = true then bnd (run g b loc) fun z => bnd (ofO (int? z)) fun i => ret (some i) else ret none) fun h => slice _ none h) _) Q
  exact w_bnd (show W ((bnd (run g b loc) fun z => bnd (ofO (int? z)) fun i => ret (some i)) _) _ from w_bnd (q.mono fun _ _ ⟨i, e, q⟩ => by subst e; exact q))
theorem w_slFrom (h : W (run g a loc st) fun x st1 => W (run g b loc st1) fun y st2 => ∃ i, y = .int i ∧ W (slice x (some i) none st2) Q) : W (run g (.sl a b b true false) loc st) Q := by
  rw [run]
  refine w_bnd (h.mono fun _ _ q => w_bnd ?_)
  exact w_bnd (q.mono fun _ _ ⟨i, e, q⟩ => by subst e; exact q)
theorem w_fn {f : Nat} {args : List Ex} (h : W (runs g args loc st) fun ds st1 => W (g f ds st1) Q) : W (run g (.fn f args) loc st) Q := by
  rw [run]; exact w_bnd h
theorem w_bt {f : Bt} {args : List Ex} (h : W (runs g args loc st) fun ds st1 => W (btin f ds st1) Q) : W (run g (.bt f args) loc st) Q := by
  rw [run]; exact w_bnd h
theorem w_isi {t : Ty} (h : W (run g a loc st) fun x st1 => ∃ k, isiD st1 t x = some k ∧ Q (.bl k) st1) : W (run g (.isi a t) loc st) Q := by
  rw [run]; exact w_bnd (h.mono fun _ _ ⟨k, e, q⟩ => by show W (match isiD _ t _ with | some k => R.ok (.bl k) _ | none => .bad) Q; rw [e]; exact q)
theorem w_ife (h : W (run g c loc st) fun x st1 => ∃ k, x = .bl k ∧ (k = true → W (run g a loc st1) Q) ∧ (k = false → W (run g b loc st1) Q)) : W (run g (.ite c a b) loc st) Q := by
  rw [run]; exact w_bnd (h.mono fun _ _ ⟨k, e, q1, q2⟩ => by
    subst e
    cases k with
    | true => exact q1 rfl
    | false => exact q2 rfl)
theorem w_comp {rng : Bool} (h : W (run g a loc st) fun d st1 => ∃ s, source rng d = some s ∧ W (compS (fun x => bnd (run g b (some x :: loc)) fun y => ret (some y)) s st1) Q) : W (run g (.comp rng a b) loc st) Q := by
  rw [run]; exact w_bnd (h.mono fun _ _ ⟨s, e, q⟩ => w_bnd (by unfold ofO; rw [e]; exact q))
theorem w_compE (h : W (run g a loc st) fun d st1 => ∃ s, enumS d = some s ∧ W (compS (fun x => match x with
        | .tup [a, c] => bnd (run g b (some a :: some c :: loc)) fun y => ret (some y)
        | _ => stuck) s st1) Q) : W (run g (.compE a b) loc st) Q := by
  rw [run]; exact w_bnd (h.mono fun _ _ ⟨s, e, q⟩ => w_bnd (by unfold ofO; rw [e]; exact q))
theorem w_compIf {rng : Bool} (h : W (run g a loc st) fun d st1 => ∃ s, source rng d = some s ∧ W (compS (fun x => bnd (run g c (some x :: loc)) fun z => bnd (ofO (bool? z)) fun k => if k then bnd (run g b (some x :: loc)) fun y => ret (some y) else ret none) s st1) Q) : W (run g (.compIf rng a c b) loc st) Q := by
  rw [run]; exact w_bnd (h.mono fun _ _ ⟨s, e, q⟩ => w_bnd (by unfold ofO; rw [e]; exact q))
end
section
variable {g : Fns} {loc : Loc} {st : Sto} {Q : List D → Sto → Prop}
theorem w_anil (h : Q [] st) : W (runs g [] loc st) Q := by rw [runs]; exact h
theorem w_acons {e : Ex} {es : List Ex} (h : W (run g e loc st) fun d st1 => W (runs g es loc st1) fun ds st2 => Q (d :: ds) st2) : W (runs g (e :: es) loc st) Q := by
  rw [runs]; exact w_bnd (h.mono fun _ _ q => w_bnd (q.mono fun _ _ q => q))
end
/-! ### the turns of a comprehension -/
section
variable {st : Sto} {Q : D → Sto → Prop} {f : D → M (Option D)}
theorem w_compN {xs : List D} {Q : List D → Sto → Prop} (I : Nat → List D → Sto → Prop) (step : ∀ i x acc st, xs[i]? = some x → I i acc st → W (f x st) fun o st1 => I (i + 1) (match o with | some y => acc ++ [y] | none => acc) st1)
    (fin : ∀ acc st, I xs.length acc st → Q acc st) : ∀ k i acc st, i ≤ xs.length → xs.length < k + i → I i acc st → W (compN f (.its xs) k i acc st) Q
  | 0, i, acc, st, h1, h2, h => by omega
  | k + 1, i, acc, st, h1, h2, h => by
    simp only [compN, nxt]
    cases e : xs[i]? with
    | none =>
      have : i = xs.length := by have := List.getElem?_eq_none_iff.mp e; omega
      subst this
      exact fin acc st h
    | some x =>
      have hi := (List.getElem?_eq_some_iff.mp e).1
      refine w_bnd ((step i x acc st e h).mono fun o st1 q => ?_)
      cases o with
      | none => exact w_compN I step fin k (i + 1) acc st1 hi (by omega) q
      | some y => exact w_compN I step fin k (i + 1) (acc ++ [y]) st1 hi (by omega) q
theorem w_compS {xs : List D} (hl : xs.length ≤ 1000000) (I : Nat → List D → Sto → Prop) (h0 : I 0 [] st) (step : ∀ i x acc st, xs[i]? = some x → I i acc st → W (f x st) fun o st1 => I (i + 1) (match o with | some y => acc ++ [y] | none => acc) st1)
    (fin : ∀ acc st, I xs.length acc st → Q (.ref st.length) (st ++ [.lst acc])) : W (compS f (.its xs) st) Q := by
  unfold compS
  rw [if_pos (show lenS (.its xs) st ≤ 1000000 from hl)]
  refine w_bnd (W.mono (w_compN (Q := fun acc st => Q (.ref st.length) (st ++ [.lst acc])) I step fin (xs.length + 1) 0 [] st (by omega) (by show xs.length < xs.length + 1 + 0; omega) h0) fun acc st q => (show Q (.ref st.length) (st ++ [.lst acc]) from q))
/-- enumerate over a list of the store that the turns leave as it is -/
theorem w_compNE {n : Nat} {xs : List D} {Q : List D → Sto → Prop} (I : Nat → List D → Sto → Prop) (keep : ∀ i acc st, I i acc st → st[n]? = some (.lst xs)) (step : ∀ i x acc st, xs[i]? = some x → I i acc st → W (f (.tup [.int (i : Int), x]) st) fun o st1 => I (i + 1) (match o with | some y => acc ++ [y] | none => acc) st1)
    (fin : ∀ acc st, I xs.length acc st → Q acc st) : ∀ k i acc st, i ≤ xs.length → xs.length < k + i → I i acc st → W (compN f (.en n) k i acc st) Q
  | 0, i, acc, st, h1, h2, h => by omega
  | k + 1, i, acc, st, h1, h2, h => by
    simp only [compN, nxt, keep i acc st h]
    cases e : xs[i]? with
    | none =>
      have : i = xs.length := by have := List.getElem?_eq_none_iff.mp e; omega
      subst this
      exact fin acc st h
    | some x =>
      have hi := (List.getElem?_eq_some_iff.mp e).1
      refine w_bnd ((step i x acc st e h).mono fun o st1 q => ?_)
      cases o with
      | none => exact w_compNE I keep step fin k (i + 1) acc st1 hi (by omega) q
      | some y => exact w_compNE I keep step fin k (i + 1) (acc ++ [y]) st1 hi (by omega) q
theorem w_compSE {n : Nat} {xs : List D} (hl : xs.length ≤ 1000000) (hn : st[n]? = some (.lst xs)) (I : Nat → List D → Sto → Prop) (h0 : I 0 [] st) (keep : ∀ i acc st, I i acc st → st[n]? = some (.lst xs)) (step : ∀ i x acc st, xs[i]? = some x → I i acc st → W (f (.tup [.int (i : Int), x]) st) fun o st1 => I (i + 1) (match o with | some y => acc ++ [y] | none => acc) st1)
    (fin : ∀ acc st, I xs.length acc st → Q (.ref st.length) (st ++ [.lst acc])) : W (compS f (.en n) st) Q := by
  have hL : lenS (.en n) st = xs.length := by simp only [lenS, hn]
  unfold compS
  rw [hL, if_pos hl]
  refine w_bnd (W.mono (w_compNE (Q := fun acc st => Q (.ref st.length) (st ++ [.lst acc])) I keep step fin (xs.length + 1) 0 [] st (by omega) (by omega) h0) fun acc st q => (show Q (.ref st.length) (st ++ [.lst acc]) from q))
/-- over a list of the store that the turns leave as it is -/
theorem w_compNA {n : Nat} {xs : List D} {Q : List D → Sto → Prop} (I : Nat → List D → Sto → Prop) (keep : ∀ i acc st, I i acc st → st[n]? = some (.lst xs)) (step : ∀ i x acc st, xs[i]? = some x → I i acc st → W (f x st) fun o st1 => I (i + 1) (match o with | some y => acc ++ [y] | none => acc) st1)
    (fin : ∀ acc st, I xs.length acc st → Q acc st) : ∀ k i acc st, i ≤ xs.length → xs.length < k + i → I i acc st → W (compN f (.at n) k i acc st) Q
  | 0, i, acc, st, h1, h2, h => by omega
  | k + 1, i, acc, st, h1, h2, h => by
    simp only [compN, nxt, keep i acc st h]
    cases e : xs[i]? with
    | none =>
      have : i = xs.length := by have := List.getElem?_eq_none_iff.mp e; omega
      subst this
      exact fin acc st h
    | some x =>
      have hi := (List.getElem?_eq_some_iff.mp e).1
      refine w_bnd ((step i x acc st e h).mono fun o st1 q => ?_)
      cases o with
      | none => exact w_compNA I keep step fin k (i + 1) acc st1 hi (by omega) q
      | some y => exact w_compNA I keep step fin k (i + 1) (acc ++ [y]) st1 hi (by omega) q
theorem w_compSA {n : Nat} {xs : List D} (hl : xs.length ≤ 1000000) (hn : st[n]? = some (.lst xs)) (I : Nat → List D → Sto → Prop) (h0 : I 0 [] st) (keep : ∀ i acc st, I i acc st → st[n]? = some (.lst xs)) (step : ∀ i x acc st, xs[i]? = some x → I i acc st → W (f x st) fun o st1 => I (i + 1) (match o with | some y => acc ++ [y] | none => acc) st1)
    (fin : ∀ acc st, I xs.length acc st → Q (.ref st.length) (st ++ [.lst acc])) : W (compS f (.at n) st) Q := by
  have hL : lenS (.at n) st = xs.length := by simp only [lenS, hn]
  unfold compS
  rw [hL, if_pos hl]
  refine w_bnd (W.mono (w_compNA (Q := fun acc st => Q (.ref st.length) (st ++ [.lst acc])) I keep step fin (xs.length + 1) 0 [] st (by omega) (by omega) h0) fun acc st q => (show Q (.ref st.length) (st ++ [.lst acc]) from q))
theorem w_elt {g : Fns} {loc : Loc} {b : Ex} {x : D} {Q : Option D → Sto → Prop} (h : W (run g b (some x :: loc) st) fun y st1 => Q (some y) st1) : W (bnd (run g b (some x :: loc)) (fun y => ret (some y)) st) Q := w_bnd (h.mono fun _ _ q => q)
theorem w_eltIf {g : Fns} {loc : Loc} {c b : Ex} {x : D} {Q : Option D → Sto → Prop} (h : W (run g c (some x :: loc) st) fun z st1 => ∃ k, z = .bl k ∧ (k = true → W (run g b (some x :: loc) st1) fun y st2 => Q (some y) st2) ∧ (k = false → Q none st1)) :
    W (bnd (run g c (some x :: loc)) (fun z => bnd (ofO (bool? z)) fun k => if k then bnd (run g b (some x :: loc)) fun y => ret (some y) else ret none) st) Q :=
  w_bnd (h.mono fun _ _ ⟨k, e, q1, q2⟩ => by
    subst e
    cases k with
    | true => exact w_bnd (w_bnd (q1 rfl))
    | false => exact w_bnd (q2 rfl))
end
/-! ### statements -/
def Kn (g : Fns) (ss : List S) (Q : Fl → Sto → Prop) : Fl → Sto → Prop := fun r st => match r with
  | .nx loc => W (execs g ss loc st) Q
  | .rt d => Q (.rt d) st
def Kr (Q : D → Sto → Prop) : Fl → Sto → Prop := fun r st => match r with
  | .nx _ => Q .non st
  | .rt d => Q d st
section
variable {g : Fns} {loc : Loc} {st : Sto} {Q : Fl → Sto → Prop} {ss : List S} {e o i c : Ex}
theorem kn_nx (h : W (execs g ss loc st) Q) : Kn g ss Q (.nx loc) st := h
theorem kn_rt {d : D} (h : Q (.rt d) st) : Kn g ss Q (.rt d) st := h
theorem kr_nx {Q : D → Sto → Prop} (h : Q .non st) : Kr Q (.nx loc) st := h
theorem kr_rt {Q : D → Sto → Prop} {d : D} (h : Q d st) : Kr Q (.rt d) st := h
theorem w_snil (h : Q (.nx loc) st) : W (execs g [] loc st) Q := by rw [execs]; exact h
theorem w_scons {s : S} (h : W (exec g s loc st) (Kn g ss Q)) : W (execs g (s :: ss) loc st) Q := by
  rw [execs]
  refine w_bnd (h.mono fun r st1 q => ?_)
  cases r with
  | nx loc' => exact q
  | rt d => exact q
theorem w_set {n : Nat} (h : W (run g e loc st) fun d st1 => W (execs g ss (loc.set n (some d)) st1) Q) : W (execs g (.set n e :: ss) loc st) Q :=
  w_scons (by rw [exec]; exact w_bnd (h.mono fun _ _ q => q))
theorem w_setix (h : W (run g e loc st) fun d st1 => W (run g o loc st1) fun x st2 => W (run g i loc st2) fun k st3 => W (setitem x k d st3) fun _ st4 => W (execs g ss loc st4) Q) : W (execs g (.setix o i e :: ss) loc st) Q :=
  w_scons (by rw [exec]; exact w_bnd (h.mono fun _ _ q => w_bnd (q.mono fun _ _ q => w_bnd (q.mono fun _ _ q => w_bnd (q.mono fun _ _ q => q)))))
theorem w_ret (h : W (run g e loc st) fun d st1 => Q (.rt d) st1) : W (execs g (.ret e :: ss) loc st) Q :=
  w_scons (by rw [exec]; exact w_bnd (h.mono fun _ _ q => q))
theorem w_ret0 (h : Q (.rt .non) st) : W (execs g (.ret0 :: ss) loc st) Q := w_scons (by rw [exec]; exact h)
theorem w_ex (h : W (run g e loc st) fun _ st1 => W (execs g ss loc st1) Q) : W (execs g (.ex e :: ss) loc st) Q :=
  w_scons (by rw [exec]; exact w_bnd (h.mono fun _ _ q => q))
theorem w_app (h : W (run g o loc st) fun x st1 => W (lstOk x st1) fun _ st2 => W (run g e loc st2) fun d st3 => W (append x d st3) fun _ st4 => W (execs g ss loc st4) Q) : W (execs g (.app o e :: ss) loc st) Q :=
  w_scons (by rw [exec]; exact w_bnd (h.mono fun _ _ q => w_bnd (q.mono fun _ _ q => w_bnd (q.mono fun _ _ q => w_bnd (q.mono fun _ _ q => q)))))
theorem w_pass (h : W (execs g ss loc st) Q) : W (execs g (.pass :: ss) loc st) Q := w_scons (by rw [exec]; exact h)
theorem w_if {x y : List S} (h : W (run g c loc st) fun z st1 => ∃ k, z = .bl k ∧ (k = true → W (execs g x loc st1) (Kn g ss Q)) ∧ (k = false → W (execs g y loc st1) (Kn g ss Q))) : W (execs g (.ite c x y :: ss) loc st) Q :=
  w_scons (by
    rw [exec]
    exact w_bnd (h.mono fun _ _ ⟨k, e, q1, q2⟩ => by
      subst e
      cases k with
      | true => exact q1 rfl
      | false => exact q2 rfl))
/-- a loop over items that stay -/
theorem w_forN {f : D → Loc → M Fl} {xs : List D} (I : Nat → Loc → Sto → Prop) (step : ∀ i x loc st, xs[i]? = some x → I i loc st → W (f x loc st) fun r st1 => match r with | .nx loc' => I (i + 1) loc' st1 | .rt d => Q (.rt d) st1)
    (fin : ∀ loc st, I xs.length loc st → Q (.nx loc) st) : ∀ k i loc st, i ≤ xs.length → xs.length < k + i → I i loc st → W (forN f (.its xs) k i loc st) Q
  | 0, i, acc, st, h1, h2, h => by omega
  | k + 1, i, loc, st, h1, h2, h => by
    simp only [forN, nxt]
    cases e : xs[i]? with
    | none =>
      have : i = xs.length := by have := List.getElem?_eq_none_iff.mp e; omega
      subst this
      exact fin loc st h
    | some x =>
      have hi := (List.getElem?_eq_some_iff.mp e).1
      refine w_bnd ((step i x loc st e h).mono fun r st1 q => ?_)
      cases r with
      | nx loc' => exact w_forN I step fin k (i + 1) loc' st1 hi (by omega) q
      | rt d => exact q
def Kf (I : Loc → Sto → Prop) (Q : Fl → Sto → Prop) : Fl → Sto → Prop := fun r st => match r with
  | .nx loc => I loc st
  | .rt d => Q (.rt d) st
theorem kf_nx {I : Loc → Sto → Prop} (h : I loc st) : Kf I Q (.nx loc) st := h
theorem kf_rt {I : Loc → Sto → Prop} {d : D} (h : Q (.rt d) st) : Kf I Q (.rt d) st := h
theorem w_for {n : Nat} {rng : Bool} {body : List S} (I : List D → Nat → Loc → Sto → Prop)
    (h : W (run g e loc st) fun d st1 => ∃ xs, source rng d = some (.its xs) ∧ I xs 0 loc st1 ∧ (∀ i x loc st, xs[i]? = some x → I xs i loc st → W (execs g body (loc.set n (some x)) st) (Kf (I xs (i + 1)) (Kn g ss Q))) ∧ ∀ loc st, I xs xs.length loc st → W (execs g ss loc st) Q) :
    W (execs g (.for_ n rng e body :: ss) loc st) Q := by
  refine w_scons ?_
  rw [exec]
  refine w_bnd (h.mono fun d st1 ⟨xs, hs, h0, step, fin⟩ => w_bnd ?_)
  unfold ofO
  rw [hs]
  show W (forS _ (.its xs) loc st1) _
  unfold forS
  refine w_forN (I xs) (fun i x loc st e q => (step i x loc st e q).mono fun r st1 q => ?_) fin _ 0 loc st1 (by omega) (by show xs.length < xs.length + 1 + 0; omega) h0
  cases r with
  | nx loc' => exact q
  | rt d => exact q
end
section
variable {g : Fns} {loc : Loc} {st : Sto} {Q : Fl → Sto → Prop} {ss : List S} {e : Ex}
/-- a loop over a list of the store that the turns leave as it is -/
theorem w_forNA {f : D → Loc → M Fl} {n : Nat} {xs : List D} (I : Nat → Loc → Sto → Prop) (keep : ∀ i loc st, I i loc st → st[n]? = some (.lst xs)) (step : ∀ i x loc st, xs[i]? = some x → I i loc st → W (f x loc st) fun r st1 => match r with | .nx loc' => I (i + 1) loc' st1 | .rt d => Q (.rt d) st1)
    (fin : ∀ loc st, I xs.length loc st → Q (.nx loc) st) : ∀ k i loc st, i ≤ xs.length → xs.length < k + i → I i loc st → W (forN f (.at n) k i loc st) Q
  | 0, i, acc, st, h1, h2, h => by omega
  | k + 1, i, loc, st, h1, h2, h => by
    simp only [forN, nxt, keep i loc st h]
    cases e : xs[i]? with
    | none =>
      have : i = xs.length := by have := List.getElem?_eq_none_iff.mp e; omega
      subst this
      exact fin loc st h
    | some x =>
      have hi := (List.getElem?_eq_some_iff.mp e).1
      refine w_bnd ((step i x loc st e h).mono fun r st1 q => ?_)
      cases r with
      | nx loc' => exact w_forNA I keep step fin k (i + 1) loc' st1 hi (by omega) q
      | rt d => exact q
theorem w_forA {m : Nat} {body : List S} (I : Nat → List D → Nat → Loc → Sto → Prop)
    (h : W (run g e loc st) fun d st1 => ∃ n xs, d = .ref n ∧ st1[n]? = some (.lst xs) ∧ I n xs 0 loc st1 ∧ (∀ i loc st, I n xs i loc st → st[n]? = some (.lst xs)) ∧ (∀ i x loc st, xs[i]? = some x → I n xs i loc st → W (execs g body (loc.set m (some x)) st) (Kf (I n xs (i + 1)) (Kn g ss Q))) ∧ ∀ loc st, I n xs xs.length loc st → W (execs g ss loc st) Q) :
    W (execs g (.for_ m false e body :: ss) loc st) Q := by
  refine w_scons ?_
  rw [exec]
  refine w_bnd (h.mono fun d st1 ⟨n, xs, hd, hn, h0, keep, step, fin⟩ => w_bnd ?_)
  subst hd
  show W (forS _ (.at n) loc st1) _
  have hL : lenS (.at n) st1 = xs.length := by simp only [lenS, hn]
  unfold forS
  rw [hL]
  refine w_forNA (I n xs) keep (fun i x loc st e q => (step i x loc st e q).mono fun r st1 q => ?_) fin _ 0 loc st1 (by omega) (by omega) h0
  cases r with
  | nx loc' => exact q
  | rt d => exact q
end
theorem w_call {tab : List Fn} {k f : Nat} {fn : Fn} {ds : List D} {st : Sto} {Q : D → Sto → Prop} (hf : tab[f]? = some fn) (hl : ds.length = fn.ar) (h : W (execs (calls tab k) fn.body (ds.map some ++ List.replicate (fn.nl - ds.length) none) st) (Kr Q)) : W (calls tab (k + 1) f ds st) Q := by
  simp only [calls, hf, callB, if_pos hl]
  refine w_bnd (h.mono fun r st1 q => ?_)
  cases r with
  | nx loc' => exact q
  | rt d => exact q
/-! ### operations -/
section
variable {st : Sto} {Q : D → Sto → Prop} {i j : Int}
theorem w_add (h : Q (.int (i + j)) st) : W (binop .add (.int i) (.int j) st) Q := h
theorem w_sub (h : Q (.int (i - j)) st) : W (binop .sub (.int i) (.int j) st) Q := h
theorem w_mul (hb : (-18446744073709551616 < i ∧ i < 18446744073709551616) ∨ (-18446744073709551616 < j ∧ j < 18446744073709551616)) (h : Q (.int (i * j)) st) : W (binop .mul (.int i) (.int j) st) Q := by
  simp only [binop]; rw [if_pos (show (-big < i ∧ i < big) ∨ (-big < j ∧ j < big) from hb)]; exact h
theorem w_mod (hb : 0 < j) (h : Q (.int (i % j)) st) : W (binop .mod (.int i) (.int j) st) Q := by
  simp only [binop]; rw [if_pos (by omega), Int.fmod_eq_emod_of_nonneg i (by omega)]; exact h
theorem w_modN (hb : j ≠ 0) (h : Q (.int (i.fmod j)) st) : W (binop .mod (.int i) (.int j) st) Q := by
  simp only [binop]; rw [if_pos hb]; exact h
theorem w_fdiv (hb : 0 < j ∧ j < 4611686018427387904) (h : Q (.int (i / j)) st) : W (binop .fdiv (.int i) (.int j) st) Q := by
  simp only [binop]
  rw [if_pos ⟨by omega, Nat.lt_of_lt_of_le (show j.natAbs < 4611686018427387904 by omega) (by decide)⟩, Int.fdiv_eq_ediv_of_nonneg i (by omega)]; exact h
theorem w_fdivN (hb : j ≠ 0 ∧ j.natAbs < 2 ^ 200) (h : Q (.int (i.fdiv j)) st) : W (binop .fdiv (.int i) (.int j) st) Q := by
  simp only [binop]; rw [if_pos hb]; exact h
theorem w_pow (hb : 0 ≤ j ∧ j ≤ 1000 ∧ i.natAbs < 1000) (h : Q (.int (i ^ j.toNat)) st) : W (binop .pow (.int i) (.int j) st) Q := by
  simp only [binop]; rw [if_pos hb]; exact h
theorem w_catT {as bs : List D} (ha : as ≠ []) (hb : as.length + bs.length ≤ 1000000) (h : Q (.tup (as ++ bs)) st) : W (binop .add (.tup as) (.tup bs) st) Q := by
  cases as with
  | nil => exact absurd rfl ha
  | cons a as => simp only [binop]; rw [if_pos hb]; exact h
theorem w_cat0 {bs : List D} (h : Q (.tup bs) st) : W (binop .add (.tup []) (.tup bs) st) Q := h
theorem w_catL {m n : Nat} {as bs : List D} (hm : st[m]? = some (.lst as)) (hn : st[n]? = some (.lst bs)) (hb : as.length + bs.length ≤ 1000000) (h : Q (.ref st.length) (st ++ [.lst (as ++ bs)])) : W (binop .add (.ref m) (.ref n) st) Q := by
  simp only [binop, hm, hn]; rw [if_pos hb]; exact h
theorem w_repL {m : Nat} {as : List D} (hm : st[m]? = some (.lst as)) (hb : 0 ≤ j ∧ j ≤ 1000 ∧ as.length ≤ 1000) (h : Q (.ref st.length) (st ++ [.lst (List.flatten (List.replicate j.toNat as))])) : W (binop .mul (.ref m) (.int j) st) Q := by
  simp only [binop, hm]; rw [if_pos hb]; exact h
theorem w_eq {x y : D} {k : Bool} (e : eqD 60 st x y = some k) (h : Q (.bl k) st) : W (cmpop .Eq x y st) Q := by simp only [cmpop, e]; exact h
theorem w_ne {x y : D} {k : Bool} (e : eqD 60 st x y = some k) (h : Q (.bl (!k)) st) : W (cmpop .NotEq x y st) Q := by simp only [cmpop, e]; exact h
theorem w_eqI (h : Q (.bl (decide (i = j))) st) : W (cmpop .Eq (.int i) (.int j) st) Q := w_eq (k := decide (i = j)) (by simp [eqD, shape, eqV]; rfl) h
theorem w_neI (h : Q (.bl (!decide (i = j))) st) : W (cmpop .NotEq (.int i) (.int j) st) Q := w_ne (k := decide (i = j)) (by simp [eqD, shape, eqV]; rfl) h
theorem w_lt (h : Q (.bl (decide (i < j))) st) : W (cmpop .Lt (.int i) (.int j) st) Q := h
theorem w_le (h : Q (.bl (decide (i ≤ j))) st) : W (cmpop .LtE (.int i) (.int j) st) Q := h
theorem w_gt (h : Q (.bl (decide (j < i))) st) : W (cmpop .Gt (.int i) (.int j) st) Q := h
theorem w_ge (h : Q (.bl (decide (j ≤ i))) st) : W (cmpop .GtE (.int i) (.int j) st) Q := h
theorem w_is {x y : D} {k : Bool} (e : isD x y = some k) (h : Q (.bl k) st) : W (cmpop .Is x y st) Q := by simp only [cmpop, e]; exact h
theorem w_isnot {x y : D} {k : Bool} (e : isD x y = some k) (h : Q (.bl (!k)) st) : W (cmpop .IsNot x y st) Q := by simp only [cmpop, e]; exact h
theorem w_ixT {xs : List D} {d : D} (e : atI xs i = some d) (h : Q d st) : W (index (.tup xs) (.int i) st) Q := by simp only [index, seqOf, e]; exact h
theorem w_ixF {xs : List D} {d : D} (e : atI xs i = some d) (h : Q d st) : W (index (.fl xs) (.int i) st) Q := by simp only [index, seqOf, e]; exact h
theorem w_ixL {xs : List D} {n : Nat} {d : D} (hn : st[n]? = some (.lst xs)) (e : atI xs i = some d) (h : Q d st) : W (index (.ref n) (.int i) st) Q := by simp only [index, seqOf, hn, e]; exact h
theorem atI_in {α : Type} {xs : List α} (h0 : 0 ≤ i) (h1 : i < xs.length) : ∃ d, atI xs i = some d ∧ xs[i.toNat]? = some d := by
  have hi : i.toNat < xs.length := by omega
  refine ⟨xs[i.toNat], ?_, by simp [hi]⟩
  unfold atI ixN
  rw [if_pos h0, if_pos h1]
  show xs[i.toNat]? = _
  simp [hi]
theorem w_ixAny {xs : List D} {n : Nat} (hn : st[n]? = some (.lst xs)) (h0 : 0 ≤ i) (h1 : i < xs.length) (h : ∀ d, d ∈ xs → xs[i.toNat]? = some d → Q d st) : W (index (.ref n) (.int i) st) Q := by
  obtain ⟨d, e, e2⟩ := atI_in h0 h1
  exact w_ixL hn e (h d (List.mem_of_getElem? e2) e2)
theorem w_lenT {xs : List D} (h : Q (.int xs.length) st) : W (btin .len [.tup xs] st) Q := h
theorem w_lenF {xs : List D} (h : Q (.int xs.length) st) : W (btin .len [.fl xs] st) Q := h
theorem w_lenL {xs : List D} {n : Nat} (hn : st[n]? = some (.lst xs)) (h : Q (.int xs.length) st) : W (btin .len [.ref n] st) Q := by simp only [btin, seqOf, hn]; exact h
theorem w_listT {xs : List D} (h : Q (.ref st.length) (st ++ [.lst xs])) : W (btin .list [.tup xs] st) Q := h
theorem w_listL {xs : List D} {n : Nat} (hn : st[n]? = some (.lst xs)) (h : Q (.ref st.length) (st ++ [.lst xs])) : W (btin .list [.ref n] st) Q := by simp only [btin, seqOf, hn]; exact h
theorem w_tupleT {xs : List D} (h : Q (.tup xs) st) : W (btin .tuple [.tup xs] st) Q := h
theorem w_tupleL {xs : List D} {n : Nat} (hn : st[n]? = some (.lst xs)) (h : Q (.tup xs) st) : W (btin .tuple [.ref n] st) Q := by simp only [btin, seqOf, hn]; exact h
theorem w_intB {b : Bool} (h : Q (.int (if b then 1 else 0)) st) : W (btin .int [.bl b] st) Q := h
theorem w_allL {xs : List D} {n : Nat} {k : Bool} (hn : st[n]? = some (.lst xs)) (e : allB xs = some k) (h : Q (.bl k) st) : W (btin .all [.ref n] st) Q := by simp only [btin, hn, e]; exact h
theorem w_max (h : Q (.int (if j > i then j else i)) st) : W (btin .max [.int i, .int j] st) Q := h
theorem w_min (h : Q (.int (if j < i then j else i)) st) : W (btin .min [.int i, .int j] st) Q := h
theorem w_abs (h : Q (.int (if i < 0 then -i else i)) st) : W (btin .abs [.int i] st) Q := h
theorem w_slT {xs : List D} {lo hi : Option Int} (hn : ¬ (HT.sIx xs.length 0 lo = 0 ∧ HT.sIx xs.length xs.length hi = xs.length)) (h : Q (.tup (cutD xs lo hi)) st) : W (slice (.tup xs) lo hi st) Q := by simp only [slice]; rw [if_neg hn]; exact h
theorem w_slL {xs : List D} {n : Nat} {lo hi : Option Int} (hn : st[n]? = some (.lst xs)) (h : Q (.ref st.length) (st ++ [.lst (cutD xs lo hi)])) : W (slice (.ref n) lo hi st) Q := by simp only [slice, seqOf, hn]; exact h
theorem w_setitem {n : Nat} {xs : List D} {v : D} {j : Nat} {Q : Unit → Sto → Prop} (hn : st[n]? = some (.lst xs)) (hj : ixN xs.length i = some j) (h : Q () (st.set n (.lst (xs.set j v)))) : W (setitem (.ref n) (.int i) v st) Q := by simp only [setitem, hn, hj]; exact h
theorem w_lstOk {n : Nat} {xs : List D} {Q : Unit → Sto → Prop} (hn : st[n]? = some (.lst xs)) (h : Q () st) : W (lstOk (.ref n) st) Q := by simp only [lstOk, hn]; exact h
theorem w_append {n : Nat} {xs : List D} {v : D} {Q : Unit → Sto → Prop} (hn : st[n]? = some (.lst xs)) (hl : xs.length < 1000000) (h : Q () (st.set n (.lst (xs ++ [v])))) : W (append (.ref n) v st) Q := by simp only [append, hn]; rw [if_pos hl]; exact h
end
end Ev

set_option Elab.async false
set_option linter.all false
set_option maxRecDepth 100000
set_option maxHeartbeats 4000000
/-! FACTS that several laws share: things that lie well in the store, comparisons with written things, the box of draws -/
namespace Ev
open PySem L2
mutual
def okD (n : Nat) : D → Prop
  | .ref m => m < n
  | .tup xs => okL n xs
  | _ => True
def okL (n : Nat) : List D → Prop
  | [] => True
  | x :: xs => okD n x ∧ okL n xs
end
mutual
theorem okD.mono {n m : Nat} (h : n ≤ m) : ∀ {d : D}, okD n d → okD m d
  | .ref _, q => Nat.lt_of_lt_of_le q h
  | .tup xs, q => by
    simp only [okD] at q ⊢
    exact okL.mono h q
  | .non, _ => True.intro
  | .bl _, _ => True.intro
  | .int _, _ => True.intro
  | .str _, _ => True.intro
  | .fl _, _ => True.intro
theorem okL.mono {n m : Nat} (h : n ≤ m) : ∀ {xs : List D}, okL n xs → okL m xs
  | [], _ => True.intro
  | _ :: _, q => ⟨okD.mono h q.1, okL.mono h q.2⟩
end
theorem okL_mem {n : Nat} : ∀ {xs : List D}, okL n xs ↔ ∀ x ∈ xs, okD n x
  | [] => by simp [okL]
  | x :: xs => by simp [okL, okL_mem (xs := xs)]
theorem okD_tup {n : Nat} {xs : List D} : okD n (.tup xs) ↔ ∀ x ∈ xs, okD n x := by rw [← okL_mem]; rfl
def isS (s : Str) : D → Bool
  | .str t => t == s
  | _ => false
theorem isS_eq {s : Str} {d : D} (h : isS s d = true) : d = .str s := by
  cases d <;> simp_all [isS]
def isT1 (s : Str) : D → Bool
  | .tup [y] => isS s y
  | _ => false
theorem isT1_eq {s : Str} {d : D} (h : isT1 s d = true) : d = .tup [.str s] := by
  unfold isT1 at h
  split at h
  · rw [isS_eq h]
  · cases h
theorem shape_ref {st : Sto} {m : Nat} (h : m < st.length) : (∃ xs, st[m]? = some (.lst xs) ∧ shape st (.ref m) = some (.l xs)) ∨ (st[m]? = some .dct ∧ shape st (.ref m) = some .d) := by
  have e : st[m]? = some st[m] := by simp [h]
  cases o : st[m] with
  | lst xs => rw [o] at e; exact .inl ⟨xs, e, by simp only [shape, e]⟩
  | dct => rw [o] at e; exact .inr ⟨e, by simp only [shape, e]⟩
theorem eqD_str {st : Sto} {n : Nat} {d : D} {s : Str} (h : okD st.length d) : eqD (n + 1) st d (.str s) = some (isS s d) := by
  cases d with
  | ref m =>
    rcases shape_ref (show m < st.length from h) with ⟨xs, _, e⟩ | ⟨_, e⟩
    · simp only [eqD, e]; simp only [shape]; rfl
    · simp only [eqD, e]; simp only [shape]; rfl
  | _ => simp only [eqD, shape] <;> rfl
theorem eqD_t1 {st : Sto} {n : Nat} {d : D} {s : Str} (h : okD st.length d) : eqD (n + 3) st d (.tup [.str s]) = some (isT1 s d) := by
  cases d with
  | ref m =>
    rcases shape_ref (show m < st.length from h) with ⟨xs, _, e⟩ | ⟨_, e⟩
    · simp only [eqD, e]; simp only [shape]; rfl
    · simp only [eqD, e]; simp only [shape]; rfl
  | tup xs =>
    simp only [eqD, shape]
    cases xs with
    | nil => simp only [eqs]; rfl
    | cons x xs =>
      simp only [eqs]
      rw [eqD_str (okD_tup.mp h x (by simp))]
      cases xs with
      | nil => simp [eqs, isT1]
      | cons y ys => simp [eqs, isT1]
  | _ => simp only [eqD, shape] <;> rfl
def Gr (st st' : Sto) : Prop := ∃ t, st' = st ++ t
theorem Gr.refl (st : Sto) : Gr st st := ⟨[], by simp⟩
theorem Gr.trans {a b c : Sto} (h : Gr a b) (k : Gr b c) : Gr a c := by
  obtain ⟨t, rfl⟩ := h
  obtain ⟨u, rfl⟩ := k
  exact ⟨t ++ u, by simp⟩
theorem Gr.one (st : Sto) (o : O) : Gr st (st ++ [o]) := ⟨[o], rfl⟩
theorem Gr.more {a b : Sto} (h : Gr a b) (o : O) : Gr a (b ++ [o]) := h.trans (.one b o)
theorem Gr.le {a b : Sto} (h : Gr a b) : a.length ≤ b.length := by obtain ⟨t, rfl⟩ := h; simp
theorem Gr.at {a b : Sto} (h : Gr a b) {i : Nat} {o : O} (e : a[i]? = some o) : b[i]? = some o := by
  obtain ⟨t, rfl⟩ := h
  have := (List.getElem?_eq_some_iff.mp e).1
  rw [List.getElem?_append_left this]; exact e
theorem at_new {st : Sto} {o : O} : (st ++ [o])[st.length]? = some o := by simp
theorem at_old {st : Sto} {o : O} {t : Sto} {i : Nat} (e : st[i]? = some o) : (st ++ t)[i]? = some o := by
  have := (List.getElem?_eq_some_iff.mp e).1
  rw [List.getElem?_append_left this]; exact e

/-! ### kinds -/
def wholeP : D → Bool
  | .int _ => true
  | _ => false
def boolP : D → Bool
  | .bl _ => true
  | _ => false
def tupP : D → Bool
  | .tup _ => true
  | _ => false
def pairP : D → Bool
  | .tup [_, _] => true
  | _ => false
theorem isi_int {st : Sto} {d : D} (h : okD st.length d) : isiD st .int d = some (wholeP d || boolP d) := by
  cases d with
  | ref m =>
    rcases shape_ref (show m < st.length from h) with ⟨xs, e, _⟩ | ⟨e, _⟩
    · simp only [isiD, e]; rfl
    · simp only [isiD, e]; rfl
  | _ => rfl
theorem isi_bool {st : Sto} {d : D} (h : okD st.length d) : isiD st .bool d = some (boolP d) := by
  cases d with
  | ref m =>
    rcases shape_ref (show m < st.length from h) with ⟨xs, e, _⟩ | ⟨e, _⟩
    · simp only [isiD, e]; rfl
    · simp only [isiD, e]; rfl
  | _ => rfl
theorem isi_tup {st : Sto} {d : D} (h : okD st.length d) : isiD st .tuple d = some (tupP d) := by
  cases d with
  | ref m =>
    rcases shape_ref (show m < st.length from h) with ⟨xs, e, _⟩ | ⟨e, _⟩
    · simp only [isiD, e]; rfl
    · simp only [isiD, e]; rfl
  | _ => rfl
def fieldP (d : D) : Bool := isT1 "num" d || isT1 "truth" d
def rowP : D → Bool
  | .tup [a, .int i] => isS "row" a && decide (1 ≤ i) && decide (i ≤ 6)
  | _ => false
def recP : D → Bool
  | .tup [a, .tup fs] => isS "record" a && decide (1 ≤ fs.length) && decide (fs.length ≤ 4) && fs.all fieldP
  | _ => false
def kindP (d : D) : Bool := fieldP d || rowP d || recP d
def constP : D → Bool
  | .tup [a, b] => if isS "num" a then wholeP b else isS "truth" a && boolP b
  | _ => false
/-! ### the box -/
def Bx (st : Sto) (n : Nat) : Prop := ∃ a b c, st[n]? = some (.lst [.int a, .int b, .int c])
structure Stp (n : Nat) (st st' : Sto) : Prop where
  le : st.length ≤ st'.length
  same : ∀ i, i < st.length → i ≠ n → st'[i]? = st[i]?
  box : Bx st' n
theorem Bx.lt {st : Sto} {n : Nat} (h : Bx st n) : n < st.length := by
  obtain ⟨a, b, c, e⟩ := h
  exact (List.getElem?_eq_some_iff.mp e).1
theorem Bx.gr {st st' : Sto} {n : Nat} (h : Bx st n) (g : Gr st st') : Bx st' n := by
  obtain ⟨a, b, c, e⟩ := h
  exact ⟨a, b, c, g.at e⟩
theorem Stp.of_gr {st st' : Sto} {n : Nat} (h : Bx st n) (g : Gr st st') : Stp n st st' :=
  ⟨g.le, fun i hi _ => by
    obtain ⟨t, rfl⟩ := g
    rw [List.getElem?_append_left hi], h.gr g⟩
theorem Stp.refl {st : Sto} {n : Nat} (h : Bx st n) : Stp n st st := .of_gr h (.refl _)
theorem Stp.trans {n : Nat} {a b c : Sto} (h : Stp n a b) (k : Stp n b c) : Stp n a c :=
  ⟨Nat.le_trans h.le k.le, fun i hi hn => (k.same i (Nat.lt_of_lt_of_le hi h.le) hn).trans (h.same i hi hn), k.box⟩
theorem Stp.more {n : Nat} {a b : Sto} (h : Stp n a b) (o : O) : Stp n a (b ++ [o]) := h.trans (.of_gr h.box (.one _ _))
theorem Stp.at {n : Nat} {a b : Sto} (h : Stp n a b) {i : Nat} {o : O} (e : a[i]? = some o) (hn : i ≠ n) : b[i]? = some o := by
  rw [h.same i (List.getElem?_eq_some_iff.mp e).1 hn]; exact e
/-! ### more -/
theorem pairP_eq {d : D} (h : pairP d = true) : ∃ a b, d = .tup [a, b] := by
  unfold pairP at h
  split at h
  · exact ⟨_, _, rfl⟩
  · cases h
theorem ok2 {n : Nat} {a b : D} (h : okD n (.tup [a, b])) : okD n a ∧ okD n b := by
  have := okD_tup.mp h
  exact ⟨this a (by simp), this b (by simp)⟩
theorem rowP_no {d : D} (h : pairP d = false) : rowP d = false := by
  unfold rowP
  split
  · simp [pairP] at h
  · rfl
theorem recP_no {d : D} (h : pairP d = false) : recP d = false := by
  unfold recP
  split
  · simp [pairP] at h
  · rfl
theorem allB_map {p : D → Bool} : ∀ xs : List D, allB (xs.map fun f => .bl (p f)) = some (xs.all p)
  | [] => rfl
  | x :: xs => by simp [allB, allB_map xs]
theorem take_more {xs : List D} {i : Nat} {x : D} (e : xs[i]? = some x) : xs.take (i + 1) = xs.take i ++ [x] := by
  rw [List.take_add_one, e]; rfl
theorem source_rng {j : Int} (h : -1000000 ≤ j ∧ j ≤ 1000000) : source true (.int j) = some (.its (rangeD j.toNat)) := by simp only [source]; rw [if_pos h]
theorem rangeD_len (n : Nat) : (rangeD n).length = n := by simp [rangeD]
def numK : D := .tup [.str "num"]
def partsP : D → List D
  | .tup [a, .int i] => if isS "row" a then List.replicate i.toNat numK else []
  | .tup [a, .tup fs] => if isS "record" a then fs else []
  | _ => []
theorem kind_cases {d : D} (h : kindP d = true) : (d = .tup [.str "num"] ∨ d = .tup [.str "truth"]) ∨ (∃ i : Int, d = .tup [.str "row", .int i] ∧ 1 ≤ i ∧ i ≤ 6) ∨ ∃ fs, d = .tup [.str "record", .tup fs] ∧ 1 ≤ fs.length ∧ fs.length ≤ 4 ∧ fs.all fieldP = true := by
  unfold kindP at h
  simp only [Bool.or_eq_true] at h
  rcases h with (h | h) | h
  · unfold fieldP at h
    simp only [Bool.or_eq_true] at h
    rcases h with h | h
    · exact .inl (.inl (isT1_eq h))
    · exact .inl (.inr (isT1_eq h))
  · unfold rowP at h
    split at h
    · simp only [Bool.and_eq_true, decide_eq_true_eq] at h
      rw [isS_eq h.1.1]
      exact .inr (.inl ⟨_, rfl, h.1.2, h.2⟩)
    · cases h
  · unfold recP at h
    split at h
    · simp only [Bool.and_eq_true, decide_eq_true_eq] at h
      rw [isS_eq h.1.1.1]
      exact .inr (.inr ⟨_, rfl, h.1.1.2, h.1.2, h.2⟩)
    · cases h
theorem field_ok {n : Nat} {d : D} (h : fieldP d = true) : okD n d := by
  unfold fieldP at h
  simp only [Bool.or_eq_true] at h
  rcases h with h | h <;> (rw [isT1_eq h]; simp [okD, okL])
theorem kind_ok {n : Nat} {d : D} (h : kindP d = true) : okD n d := by
  rcases kind_cases h with (rfl | rfl) | ⟨i, rfl, _⟩ | ⟨fs, rfl, _, _, q⟩
  · simp [okD, okL]
  · simp [okD, okL]
  · simp [okD, okL]
  · simp only [okD, okL, true_and, and_true]
    exact okL_mem.mpr fun x hx => field_ok (List.all_eq_true.mp q x hx)
theorem parts_fields {d : D} (h : kindP d = true) : (partsP d).all fieldP = true ∧ (partsP d).length ≤ 6 := by
  rcases kind_cases h with (rfl | rfl) | ⟨i, rfl, h1, h2⟩ | ⟨fs, rfl, h1, h2, q⟩
  · exact ⟨rfl, by simp [partsP]⟩
  · exact ⟨rfl, by simp [partsP]⟩
  · simp only [partsP, isS, beq_self_eq_true, if_true]
    refine ⟨?_, by simp; omega⟩
    rw [List.all_eq_true]
    intro x hx
    rw [(List.mem_replicate.mp hx).2]
    rfl
  · simp only [partsP, isS, beq_self_eq_true, if_true]
    exact ⟨q, by omega⟩
theorem set_at {st : Sto} {n : Nat} {o : O} (h : n < st.length) : (st.set n o)[n]? = some o := by rw [List.getElem?_set_self h]
theorem Stp.set {n : Nat} {st st' : Sto} (h : Stp n st st') (a b c : Int) : Stp n st (st'.set n (.lst [.int a, .int b, .int c])) :=
  ⟨by rw [List.length_set]; exact h.le, fun i hi hn => by rw [List.getElem?_set_ne (Ne.symm hn)]; exact h.same i hi hn, ⟨a, b, c, set_at h.box.lt⟩⟩
theorem new_ne {st : Sto} {n : Nat} (h : Bx st n) : st.length ≠ n := Nat.ne_of_gt h.lt

mutual
def lit : Ex → Bool
  | .c .non => true
  | .c (.bl _) => true
  | .c (.int _) => true
  | .c (.str _) => true
  | .tup es => lits es
  | .lst es => lits es
  | .emp => true
  | .neg (.c (.int _)) => true
  | .bin .pow (.c (.int i)) (.c (.int j)) => decide (0 ≤ j) && decide (j ≤ 1000) && decide (i.natAbs < 1000)
  | _ => false
def lits : List Ex → Bool
  | [] => true
  | e :: es => lit e && lits es
end
mutual
theorem w_lit {g : Fns} {loc : Loc} : ∀ {e : Ex} {st : Sto}, lit e = true → W (run g e loc st) fun d st' => okD st'.length d ∧ Gr st st'
  | .c .non, _, _ => w_c ⟨True.intro, .refl _⟩
  | .c (.bl _), _, _ => w_c ⟨True.intro, .refl _⟩
  | .c (.int _), _, _ => w_c ⟨True.intro, .refl _⟩
  | .c (.str _), _, _ => w_c ⟨True.intro, .refl _⟩
  | .tup es, st, h => w_tup ((w_lits (es := es) (by simpa [lit] using h)).mono fun ds st1 ⟨a, b, _⟩ => ⟨by simpa only [okD] using a, b⟩)
  | .lst es, st, h => w_lst ((w_lits (es := es) (by simpa [lit] using h)).mono fun ds st1 ⟨a, b, _⟩ => ⟨by simp [okD], b.more _⟩)
  | .emp, st, _ => w_emp ⟨by simp [okD], .one _ _⟩
  | .neg (.c (.int _)), _, _ => w_neg (w_c ⟨_, rfl, True.intro, .refl _⟩)
  | .bin .pow (.c (.int i)) (.c (.int j)), st, h => by
    simp only [lit, Bool.and_eq_true, decide_eq_true_eq] at h
    exact w_bin (w_c (w_c (w_pow ⟨h.1.1, h.1.2, h.2⟩ ⟨True.intro, .refl _⟩)))
  | .c (.tup _), _, h => by simp [lit] at h
  | .c (.fl _), _, h => by simp [lit] at h
  | .c (.ref _), _, h => by simp [lit] at h
theorem w_lits {g : Fns} {loc : Loc} : ∀ {es : List Ex} {st : Sto}, lits es = true → W (runs g es loc st) fun ds st' => okL st'.length ds ∧ Gr st st' ∧ ds.length = es.length
  | [], _, _ => w_anil ⟨True.intro, .refl _, rfl⟩
  | e :: es, st, h => by
    simp only [lits, Bool.and_eq_true] at h
    exact w_acons ((w_lit h.1).mono fun d st1 ⟨a, b⟩ => (w_lits h.2).mono fun ds st2 ⟨c, f, l⟩ => ⟨⟨okD.mono f.le a, c⟩, b.trans f, by simp [l]⟩)
end
theorem eqD_strL {st : Sto} {n : Nat} {d : D} {s : Str} (h : okD st.length d) : eqD (n + 1) st (.str s) d = some (isS s d) := by
  cases d with
  | ref m =>
    rcases shape_ref (show m < st.length from h) with ⟨xs, _, e⟩ | ⟨_, e⟩
    · simp only [eqD, e]; simp only [shape]; rfl
    · simp only [eqD, e]; simp only [shape]; rfl
  | str x =>
    simp only [eqD, shape, eqV, isS]
    congr 1
    rw [Bool.eq_iff_iff, beq_iff_eq, beq_iff_eq]; exact eq_comm
  | _ => simp only [eqD, shape] <;> rfl
theorem eqD_int {st : Sto} {n : Nat} {i j : Int} : eqD (n + 1) st (.int i) (.int j) = some (decide (i = j)) := by simp [eqD, shape, eqV]; rfl
theorem eqD_bl {st : Sto} {n : Nat} {i j : Bool} : eqD (n + 1) st (.bl i) (.bl j) = some (i == j) := by simp [eqD, shape, eqV]
theorem anyEq_ints {st : Sto} {i : Int} : ∀ ms : List Int, anyEq st (.int i) (ms.map .int) = some (ms.any fun m => decide (m = i))
  | [] => rfl
  | m :: ms => by simp only [List.map_cons, anyEq, eqD_int, anyEq_ints ms, List.any_cons]
theorem anyEq_strs {st : Sto} {d : D} (h : okD st.length d) : ∀ ms : List Str, anyEq st d (ms.map .str) = some (ms.any fun m => isS m d)
  | [] => rfl
  | m :: ms => by simp only [List.map_cons, anyEq, eqD_strL h, anyEq_strs h ms, List.any_cons]
theorem w_ninI {st : Sto} {Q : D → Sto → Prop} {i : Int} (ms : List Int) (h : Q (.bl (!(ms.any fun m => decide (m = i)))) st) : W (cmpop .NotIn (.int i) (.tup (ms.map .int)) st) Q := by
  simp only [cmpop, seqOf, anyEq_ints]; exact h
theorem w_ninS {st : Sto} {Q : D → Sto → Prop} {d : D} (ok : okD st.length d) (ms : List Str) (h : Q (.bl (!(ms.any fun m => isS m d))) st) : W (cmpop .NotIn d (.tup (ms.map .str)) st) Q := by
  simp only [cmpop, seqOf, anyEq_strs ok]; exact h
theorem w_inS {st : Sto} {Q : D → Sto → Prop} {d : D} (ok : okD st.length d) (ms : List Str) (h : Q (.bl (ms.any fun m => isS m d)) st) : W (cmpop .In d (.tup (ms.map .str)) st) Q := by
  simp only [cmpop, seqOf, anyEq_strs ok]; exact h
theorem isi_list {st : Sto} {m : Nat} {xs : List D} (h : st[m]? = some (.lst xs)) : isiD st .list (.ref m) = some true := by simp only [isiD, h]
theorem eqD_field {st : Sto} {n : Nat} {d : D} (h : fieldP d = true) : eqD (n + 3) st d d = some true := by
  unfold fieldP at h
  simp only [Bool.or_eq_true] at h
  rcases h with h | h <;> (rw [isT1_eq h, eqD_t1 (by simp [okD, okL])]; simp [isT1, isS])
theorem eqs_fields {st : Sto} : ∀ {xs : List D} {n : Nat}, xs.all fieldP = true → xs.length + 4 ≤ n → eqs n st xs xs = some true
  | [], n + 1, _, _ => rfl
  | x :: xs, n + 1, h, hl => by
    simp only [List.all_cons, Bool.and_eq_true] at h
    simp only [List.length_cons] at hl
    obtain ⟨m, rfl⟩ : ∃ m, n = m + 3 := ⟨n - 3, by omega⟩
    show (match eqD (m + 3) st x x, eqs (m + 3) st xs xs with | some x, some y => some (x && y) | _, _ => none) = some true
    rw [eqD_field h.1, eqs_fields h.2 (by omega : xs.length + 4 ≤ m + 3)]
    rfl
  | [], 0, _, h => by simp at h
  | _ :: _, 0, _, h => by simp at h
theorem eqL_fields {st : Sto} {p q : Nat} {xs : List D} (hp : st[p]? = some (.lst xs)) (hq : st[q]? = some (.lst xs)) (h : xs.all fieldP = true) (hl : xs.length ≤ 50) : eqD 60 st (.ref p) (.ref q) = some true := by
  simp only [eqD, shape, hp, hq]
  exact eqs_fields h (by omega)
theorem wholeP_eq {d : D} (h : wholeP d = true) : ∃ i, d = .int i := by cases d <;> simp_all [wholeP]
theorem boolP_eq {d : D} (h : boolP d = true) : ∃ i, d = .bl i := by cases d <;> simp_all [boolP]
theorem tupP_eq {d : D} (h : tupP d = true) : ∃ i, d = .tup i := by cases d <;> simp_all [tupP]
theorem all_ok {n : Nat} {xs : List D} (h : xs.all fieldP = true) : okL n xs := okL_mem.mpr fun x hx => field_ok (List.all_eq_true.mp h x hx)
theorem okL_set {n : Nat} {d : D} : ∀ {xs : List D} {j : Nat}, okL n xs → okD n d → okL n (xs.set j d)
  | [], _, h, _ => h
  | _ :: _, 0, h, q => ⟨q, h.2⟩
  | _ :: _, j + 1, h, q => ⟨h.1, okL_set h.2 q⟩
theorem eqL_nil {st : Sto} {p q : Nat} {xs : List D} (hp : st[p]? = some (.lst xs)) (hq : st[q]? = some (.lst [])) : eqD 60 st (.ref p) (.ref q) = some xs.isEmpty := by
  simp only [eqD, shape, hp, hq]
  cases xs <;> simp [eqs]
/-! ### values of kinds -/
def fieldVal (p x : D) : Bool := if isT1 "num" p then wholeP x else boolP x
def valP (kd d : D) : Bool := if fieldP kd then fieldVal kd d else match d with
  | .tup xs => decide (xs.length = (partsP kd).length) && (List.zipWith fieldVal (partsP kd) xs).all id
  | _ => false
theorem zip_more {f : D → D → Bool} : ∀ {ps xs : List D} {i : Nat} {p x : D}, ps[i]? = some p → xs[i]? = some x → (List.zipWith f ps xs).take (i + 1) = (List.zipWith f ps xs).take i ++ [f p x]
  | ps, xs, i, p, x, h1, h2 => by
    rw [List.take_add_one, List.getElem?_zipWith, h1, h2]; rfl
theorem zip_app {f : D → D → Bool} : ∀ {ps acc : List D} {p x : D}, ps[acc.length]? = some p → List.zipWith f ps (acc ++ [x]) = List.zipWith f ps acc ++ [f p x]
  | [], _, _, _, h => by simp at h
  | q :: ps, [], p, x, h => by
    have : q = p := by simpa using h
    subst this
    cases ps <;> rfl
  | q :: ps, a :: acc, p, x, h => by
    have h' : ps[acc.length]? = some p := by simpa using h
    simp only [List.cons_append, List.zipWith_cons_cons, List.cons_append]
    rw [zip_app h']
def scalP : D → Bool
  | .int _ => true
  | .bl _ => true
  | _ => false
theorem scal_ok {n : Nat} {d : D} (h : scalP d = true) : okD n d := by cases d <;> simp_all [scalP, okD]
theorem fieldVal_scal {p x : D} (h : fieldVal p x = true) : scalP x = true := by
  unfold fieldVal at h
  split at h <;> (cases x <;> simp_all [wholeP, boolP, scalP])
def tagP : D → D
  | .bl b => .tup [.str "truth", .bl b]
  | d => .tup [.str "num", d]
theorem w_catA {st : Sto} {Q : D → Sto → Prop} {as bs : List D} (hb : as.length + bs.length ≤ 1000000) (h : Q (.tup (as ++ bs)) st) : W (binop .add (.tup as) (.tup bs) st) Q := by
  cases as with
  | nil => exact w_cat0 h
  | cons a as => exact w_catT (by simp) hb h
theorem cut_mem {xs : List D} {lo hi : Option Int} {x : D} (h : x ∈ cutD xs lo hi) : x ∈ xs := List.mem_of_mem_drop (List.mem_of_mem_take h)
theorem cut_len {xs : List D} {lo hi : Option Int} : (cutD xs lo hi).length ≤ xs.length := by
  unfold cutD
  rw [List.length_take, List.length_drop]
  omega
theorem part_not_field {d : D} (h : kindP d = true) (hf : fieldP d = false) : partsP d ≠ [] := by
  rcases kind_cases h with (rfl | rfl) | ⟨i, rfl, h1, h2⟩ | ⟨fs, rfl, h1, h2, q⟩
  · exact absurd hf (by decide)
  · exact absurd hf (by decide)
  · simp only [partsP, isS, beq_self_eq_true, if_true]
    intro z
    have := congrArg List.length z
    simp at this
    omega
  · simp only [partsP, isS, beq_self_eq_true, if_true]
    intro z
    subst z
    simp at h1
theorem field_no_parts {d : D} (h : fieldP d = true) : partsP d = [] := by
  unfold fieldP at h
  simp only [Bool.or_eq_true] at h
  rcases h with h | h <;> (rw [isT1_eq h]; rfl)
theorem field_kind {d : D} (h : fieldP d = true) : kindP d = true := by simp [kindP, h]
theorem eqD_scal {st : Sto} {n : Nat} {d : D} (h : scalP d = true) : eqD (n + 1) st d d = some true := by
  cases d <;> simp [scalP] at h
  · rw [eqD_bl]; simp
  · rw [eqD_int]; simp
end Ev

set_option Elab.async false
set_option linter.all false
set_option maxRecDepth 100000
set_option maxHeartbeats 4000000
namespace Ev
open PySem L2
local macro_rules | `(tactic| walk_at "ev1") => `(tactic| with_reducible first
  | refine w_c ?_ | (refine w_v (by with_unfolding_all rfl) ?_) | refine w_tup ?_ | refine w_lst ?_ | refine w_emp ?_ | refine w_bin ?_ | refine w_neg ?_ | refine w_not ?_ | refine w_and ?_ | refine w_or ?_ | refine w_cmp ?_ | refine w_chain ?_ | refine w_ix ?_ | refine w_slTo ?_ | refine w_slFrom ?_
  | refine w_fn ?_ | refine w_bt ?_ | refine w_isi ?_ | refine w_ife ?_ | refine w_comp ?_ | refine w_compIf ?_ | refine w_compE ?_ | refine w_anil ?_ | refine w_acons ?_ | refine w_elt ?_ | refine w_eltIf ?_
  | refine w_snil ?_ | refine w_set ?_ | refine w_setix ?_ | refine w_ret ?_ | refine w_ret0 ?_ | refine w_ex ?_ | refine w_app ?_ | refine w_pass ?_ | refine w_if ?_ | refine kn_nx ?_ | refine kn_rt ?_ | refine kr_nx ?_ | refine kr_rt ?_ | refine kf_nx ?_ | refine kf_rt ?_
  | refine w_add ?_ | refine w_sub ?_ | refine w_eqI ?_ | refine w_neI ?_ | refine w_lt ?_ | refine w_le ?_ | refine w_gt ?_ | refine w_ge ?_ | refine w_lenT ?_ | refine w_lenF ?_ | refine w_listT ?_ | refine w_tupleT ?_ | refine w_intB ?_ | refine w_max ?_ | refine w_min ?_ | refine w_abs ?_
  | (refine w_mul (by omega) ?_) | (refine w_mod (by omega) ?_) | (refine w_fdiv (by omega) ?_) | (refine w_pow (by decide) ?_) | (refine w_ixT (by with_unfolding_all rfl) ?_))
local macro_rules | `(tactic| walk_at "ev") => `(tactic| repeat (walk_at "ev1"))
namespace K02
abbrev i_is_whole : Nat := 0
def f_is_whole : Fn := ⟨1, 1, [.ret (.and (.isi (.v 0) .int) (.not (.isi (.v 0) .bool)))]⟩
abbrev i_is_truth : Nat := 1
def f_is_truth : Fn := ⟨1, 1, [.ret (.isi (.v 0) .bool)]⟩
abbrev i_parts_of : Nat := 2
def f_parts_of : Fn := ⟨1, 1, [.ite (.cmp .Eq (.ix (.v 0) (.c (.int 0))) (.c (.str "row"))) [.ret (.comp true (.ix (.v 0) (.c (.int 1))) (.c (.tup [.str "num"])))] [],
    .ite (.cmp .Eq (.ix (.v 0) (.c (.int 0))) (.c (.str "record"))) [.ret (.bt .list [.ix (.v 0) (.c (.int 1))])] [],
    .ret (.lst [])]⟩
abbrev i_is_value : Nat := 3
def f_is_value : Fn := ⟨2, 3, [.ite (.cmp .Eq (.v 1) (.c (.tup [.str "num"]))) [.ret (.fn 0 [.v 0])] [],
    .ite (.cmp .Eq (.v 1) (.c (.tup [.str "truth"]))) [.ret (.fn 1 [.v 0])] [],
    .set 2 (.fn 2 [.v 1]),
    .ite (.or (.not (.isi (.v 0) .tuple)) (.cmp .NotEq (.bt .len [.v 0]) (.bt .len [.v 2]))) [.ret (.c (.bl false))] [],
    .ret (.bt .all [.compE (.v 2) (.fn 3 [.ix (.v 2) (.v 0), .v 1])])]⟩
abbrev i_tagged : Nat := 4
def f_tagged : Fn := ⟨1, 1, [.ite (.isi (.v 0) .bool) [.ret (.tup [.c (.str "truth"), .v 0])] [],
    .ite (.isi (.v 0) .int) [.ret (.tup [.c (.str "num"), .v 0])] [],
    .ret (.bt .tuple [.comp false (.v 0) (.fn 4 [.v 0])])]⟩
abbrev i__law_mixed : Nat := 5
def f__law_mixed : Fn := ⟨2, 3, [.set 2 (.bin .mod (.bin .add (.bin .add (.bin .mul (.bin .mod (.v 0) (.c (.int 2147483629))) (.c (.int 48271))) (.bin .mul (.v 1) (.c (.int 7919)))) (.c (.int 104729))) (.c (.int 2147483629))),
    .set 2 (.bin .mod (.bin .add (.bin .add (.bin .mul (.bin .mod (.bin .mul (.v 2) (.v 2)) (.c (.int 2147483629))) (.c (.int 16807))) (.bin .mul (.v 1) (.c (.int 104729)))) (.c (.int 11))) (.c (.int 2147483587))),
    .ret (.bin .mod (.bin .mul (.v 2) (.v 2)) (.c (.int 2147483587)))]⟩
abbrev i__law_box : Nat := 6
def f__law_box : Fn := ⟨2, 3, [.set 2 (.c (.int 0)),
    .ite (.cmp .Lt (.v 1) (.bt .len [.v 0])) [.set 2 (.ix (.v 0) (.v 1))] [],
    .ret (.lst [.v 2, .v 2, .bin .mul (.c (.int 100)) (.v 1)])]⟩
abbrev i__law_take : Nat := 7
def f__law_take : Fn := ⟨2, 3, [.setix (.v 0) (.c (.int 2)) (.bin .add (.ix (.v 0) (.c (.int 2))) (.c (.int 1))),
    .ite (.and (.cmp .GtE (.ix (.v 0) (.c (.int 0))) (.bin .pow (.c (.int 10)) (.c (.int 18)))) (.cmp .Gt (.ix (.v 0) (.c (.int 1))) (.c (.int 0)))) [.set 2 (.bin .mod (.ix (.v 0) (.c (.int 1))) (.v 1)),
    .setix (.v 0) (.c (.int 1)) (.bin .fdiv (.ix (.v 0) (.c (.int 1))) (.v 1)),
    .ret (.v 2)] [],
    .ret (.bin .mod (.fn 5 [.ix (.v 0) (.c (.int 0)), .ix (.v 0) (.c (.int 2))]) (.v 1))]⟩
abbrev i__law_plain : Nat := 8
def f__law_plain : Fn := ⟨1, 1, [.ret (.ix (.lst [.tup [.c (.str "num")], .tup [.c (.str "truth")]]) (.fn 7 [.v 0, .c (.int 2)]))]⟩
abbrev i__law_kind : Nat := 9
def f__law_kind : Fn := ⟨1, 2, [.set 1 (.fn 7 [.v 0, .c (.int 4)]),
    .ite (.cmp .Lt (.v 1) (.c (.int 2))) [.ret (.ix (.lst [.tup [.c (.str "num")], .tup [.c (.str "truth")]]) (.v 1))] [],
    .ite (.cmp .Eq (.v 1) (.c (.int 2))) [.ret (.tup [.c (.str "row"), .bin .add (.c (.int 1)) (.fn 7 [.v 0, .c (.int 6)])])] [],
    .ret (.tup [.c (.str "record"), .bt .tuple [.comp true (.bin .add (.c (.int 1)) (.fn 7 [.v 0, .c (.int 4)])) (.fn 8 [.v 1])]])]⟩
abbrev i__law_great : Nat := 10
def f__law_great : Fn := ⟨1, 3, [.set 1 (.c (.int 1)),
    .for_ 2 true (.v 0) [.set 1 (.bin .mul (.v 1) (.c (.int 10)))],
    .ret (.v 1)]⟩
abbrev i__law_number : Nat := 11
def f__law_number : Fn := ⟨1, 3, [.set 1 (.fn 7 [.v 0, .c (.int 4)]),
    .ite (.cmp .Lt (.v 1) (.c (.int 2))) [.ret (.bin .sub (.fn 7 [.v 0, .c (.int 11)]) (.c (.int 5)))] [],
    .ite (.cmp .Eq (.v 1) (.c (.int 2))) [.ret (.bin .sub (.fn 7 [.v 0, .bin .mul (.c (.int 2)) (.bin .pow (.c (.int 10)) (.c (.int 9)))]) (.bin .pow (.c (.int 10)) (.c (.int 9))))] [],
    .set 2 (.bin .sub (.c (.int 1)) (.bin .mul (.c (.int 2)) (.fn 7 [.v 0, .c (.int 2)]))),
    .ret (.bin .mul (.v 2) (.bin .sub (.bin .add (.fn 10 [.fn 7 [.v 0, .c (.int 52)]]) (.fn 7 [.v 0, .c (.int 3)])) (.c (.int 1))))]⟩
abbrev i__law_part : Nat := 12
def f__law_part : Fn := ⟨2, 2, [.ite (.cmp .Eq (.v 1) (.tup [.c (.str "truth")])) [.ret (.cmp .Eq (.fn 7 [.v 0, .c (.int 2)]) (.c (.int 1)))] [],
    .ret (.fn 11 [.v 0])]⟩
abbrev i__law_parts : Nat := 13
def f__law_parts : Fn := ⟨1, 1, [.ite (.cmp .Eq (.ix (.v 0) (.c (.int 0))) (.c (.str "row"))) [.ret (.bin .mul (.lst [.tup [.c (.str "num")]]) (.ix (.v 0) (.c (.int 1))))] [],
    .ite (.cmp .Eq (.ix (.v 0) (.c (.int 0))) (.c (.str "record"))) [.ret (.bt .list [.ix (.v 0) (.c (.int 1))])] [],
    .ret (.lst [])]⟩
abbrev i__law_value : Nat := 14
def f__law_value : Fn := ⟨2, 2, [.ite (.cmp .Eq (.fn 13 [.v 1]) (.lst [])) [.ret (.fn 12 [.v 0, .v 1])] [],
    .ret (.bt .tuple [.comp false (.fn 13 [.v 1]) (.fn 12 [.v 1, .v 0])])]⟩
abbrev i__law_odd : Nat := 15
def f__law_odd : Fn := ⟨2, 2, [.ite (.isi (.v 1) .bool) [.ret (.ix (.lst [.bt .int [.v 1], .c (.non), .c (.str "yes"), .tup [.v 1], .c (.int 1)]) (.fn 7 [.v 0, .c (.int 5)]))] [],
    .ret (.ix (.lst [.c (.bl true), .c (.bl false), .c (.non), .c (.str "1"), .tup [.v 1], .lst [.v 1]]) (.fn 7 [.v 0, .c (.int 6)]))]⟩
abbrev i__law_spoilt : Nat := 16
def f__law_spoilt : Fn := ⟨2, 4, [.ite (.not (.isi (.v 1) .tuple)) [.ret (.fn 15 [.v 0, .v 1])] [],
    .set 2 (.fn 7 [.v 0, .c (.int 5)]),
    .ite (.cmp .Eq (.v 2) (.c (.int 0))) [.ret (.sl (.v 1) (.c (.int 1)) (.c (.int 1)) true false)] [],
    .ite (.cmp .Eq (.v 2) (.c (.int 1))) [.ret (.bin .add (.v 1) (.tup [.ix (.v 1) (.c (.int 0))]))] [],
    .ite (.cmp .Eq (.v 2) (.c (.int 2))) [.ret (.ix (.lst [.bt .list [.v 1], .c (.non), .c (.int 7), .c (.bl true), .tup []]) (.fn 7 [.v 0, .c (.int 5)]))] [],
    .set 3 (.fn 7 [.v 0, .bt .len [.v 1]]),
    .ret (.bin .add (.bin .add (.sl (.v 1) (.v 3) (.v 3) false true) (.tup [.fn 15 [.v 0, .ix (.v 1) (.v 3)]])) (.sl (.v 1) (.bin .add (.v 3) (.c (.int 1))) (.bin .add (.v 3) (.c (.int 1))) true false))]⟩
abbrev i__law_is_value : Nat := 17
def f__law_is_value : Fn := ⟨2, 3, [.ite (.cmp .Eq (.v 1) (.tup [.c (.str "truth")])) [.ret (.isi (.v 0) .bool)] [],
    .ite (.cmp .Eq (.v 1) (.tup [.c (.str "num")])) [.ret (.and (.isi (.v 0) .int) (.not (.isi (.v 0) .bool)))] [],
    .set 2 (.fn 13 [.v 1]),
    .ite (.or (.not (.isi (.v 0) .tuple)) (.cmp .NotEq (.bt .len [.v 0]) (.bt .len [.v 2]))) [.ret (.c (.bl false))] [],
    .ret (.cmp .Eq (.compIf true (.bt .len [.v 2]) (.not (.fn 17 [.ix (.v 1) (.v 0), .ix (.v 3) (.v 0)])) (.v 0)) (.lst []))]⟩
abbrev i__law_alike : Nat := 18
def f__law_alike : Fn := ⟨2, 3, [.ite (.isi (.v 1) .tuple) [.ite (.or (.not (.isi (.v 0) .tuple)) (.cmp .NotEq (.bt .len [.v 0]) (.bt .len [.v 1]))) [.ret (.c (.bl false))] [],
    .ret (.cmp .Eq (.compIf true (.bt .len [.v 1]) (.not (.fn 18 [.ix (.v 1) (.v 0), .ix (.v 2) (.v 0)])) (.v 0)) (.lst []))] [],
    .set 2 (.ix (.lst [.c (.str "num"), .c (.str "truth")]) (.bt .int [.isi (.v 1) .bool])),
    .ite (.or (.not (.isi (.v 0) .tuple)) (.or (.cmp .NotEq (.bt .len [.v 0]) (.c (.int 2))) (.cmp .NotEq (.ix (.v 0) (.c (.int 0))) (.v 2)))) [.ret (.c (.bl false))] [],
    .ret (.and (.cmp .Eq (.ix (.v 0) (.c (.int 1))) (.v 1)) (.cmp .Eq (.isi (.ix (.v 0) (.c (.int 1))) .bool) (.isi (.v 1) .bool)))]⟩
abbrev i__law_truly : Nat := 19
def f__law_truly : Fn := ⟨2, 2, [.ret (.and (.isi (.v 0) .bool) (.cmp .Eq (.v 0) (.v 1)))]⟩
abbrev i_law : Nat := 20
def f_law : Fn := ⟨1, 8, [.for_ 1 true (.bt .max [.c (.int 2), .bt .min [.bt .len [.v 0], .c (.int 60)]]) [.set 2 (.fn 6 [.v 0, .v 1]),
    .set 3 (.fn 9 [.v 2]),
    .set 4 (.fn 14 [.v 2, .v 3]),
    .ite (.or (.cmp .IsNot (.fn 3 [.v 4, .v 3]) (.c (.bl true))) (.not (.fn 18 [.fn 4 [.v 4], .v 4]))) [.ret (.c (.bl false))] [],
    .set 5 (.fn 9 [.v 2]),
    .set 6 (.v 4),
    .ite (.cmp .Eq (.fn 7 [.v 2, .c (.int 2)]) (.c (.int 0))) [.set 6 (.fn 16 [.v 2, .v 4])] [],
    .for_ 7 false (.lst [.v 3, .v 5]) [.ite (.not (.fn 19 [.fn 3 [.v 6, .v 7], .fn 17 [.v 6, .v 7]])) [.ret (.c (.bl false))] []]],
    .ret (.c (.bl true))]⟩
def tab : List Fn := [f_is_whole, f_is_truth, f_parts_of, f_is_value, f_tagged, f__law_mixed, f__law_box, f__law_take, f__law_plain, f__law_kind, f__law_great, f__law_number, f__law_part, f__law_parts, f__law_value, f__law_odd, f__law_spoilt, f__law_is_value, f__law_alike, f__law_truly, f_law]
local macro_rules | `(tactic| walk_at "call") => `(tactic| (refine w_call rfl rfl ?_; dsimp only [f_is_whole, f_is_truth, f_parts_of, f_is_value, f_tagged, f__law_mixed, f__law_box, f__law_take, f__law_plain, f__law_kind, f__law_great, f__law_number, f__law_part, f__law_parts, f__law_value, f__law_odd, f__law_spoilt, f__law_is_value, f__law_alike, f__law_truly, f_law, List.map, List.length, List.replicate, List.append, HAppend.hAppend, Append.append]; walk_at "ev"))
local macro_rules | `(tactic| walk_at "call0") => `(tactic| (refine w_call rfl rfl ?_; dsimp only [f_is_whole, f_is_truth, f_parts_of, f_is_value, f_tagged, f__law_mixed, f__law_box, f__law_take, f__law_plain, f__law_kind, f__law_great, f__law_number, f__law_part, f__law_parts, f__law_value, f__law_odd, f__law_spoilt, f__law_is_value, f__law_alike, f__law_truly, f_law, List.map, List.length, List.replicate, List.append, HAppend.hAppend, Append.append]))
theorem s_is_whole {k : Nat} {d : D} {st : Sto} {Q : D → Sto → Prop} (ok : okD st.length d) (h : Q (.bl (wholeP d)) st) : W (calls tab (k + 1) i_is_whole [d] st) Q := by
  walk_at "call"
  refine ⟨_, isi_int ok, _, rfl, fun e => ?_, fun e => ?_⟩
  · walk_at "ev"
    refine ⟨_, isi_bool ok, _, rfl, ?_⟩
    walk_at "ev"
    cases d <;> simp_all [wholeP, boolP]
  · walk_at "ev"
    cases d <;> simp_all [wholeP, boolP]
theorem s_is_truth {k : Nat} {d : D} {st : Sto} {Q : D → Sto → Prop} (ok : okD st.length d) (h : Q (.bl (boolP d)) st) : W (calls tab (k + 1) i_is_truth [d] st) Q := by
  walk_at "call"
  exact ⟨_, isi_bool ok, kr_rt h⟩
theorem s_parts_of {k : Nat} {d : D} {st : Sto} {Q : D → Sto → Prop} (hk : kindP d = true) (h : Q (.ref st.length) (st ++ [.lst (partsP d)])) : W (calls tab (k + 1) i_parts_of [d] st) Q := by
  walk_at "call"
  rcases kind_cases hk with (rfl | rfl) | ⟨i, rfl, h1, h2⟩ | ⟨fs, rfl, h1, h2, q⟩
  · walk_at "ev"
    refine w_eq (eqD_str True.intro) ⟨_, rfl, (fun e => absurd e (by decide)), fun _ => ?_⟩
    walk_at "ev"
    refine w_eq (eqD_str True.intro) ⟨_, rfl, (fun e => absurd e (by decide)), fun _ => ?_⟩
    walk_at "ev"
    exact h
  · walk_at "ev"
    refine w_eq (eqD_str True.intro) ⟨_, rfl, (fun e => absurd e (by decide)), fun _ => ?_⟩
    walk_at "ev"
    refine w_eq (eqD_str True.intro) ⟨_, rfl, (fun e => absurd e (by decide)), fun _ => ?_⟩
    walk_at "ev"
    exact h
  · walk_at "ev"
    refine w_eq (eqD_str True.intro) ⟨_, rfl, (fun _ => ?_), fun e => absurd e (by decide)⟩
    walk_at "ev"
    refine ⟨_, source_rng (by omega), w_compS (by rw [rangeD_len]; omega) (fun i acc st1 => acc = List.replicate i numK ∧ st1 = st) ⟨rfl, rfl⟩ (fun i x acc st1 e5 ⟨ea, es⟩ => ?_) (fun acc st1 ⟨ea, es⟩ => ?_)⟩
    · subst ea; subst es
      walk_at "ev"
      refine ⟨?_, rfl⟩
      show _ = List.replicate (i + 1) numK
      rw [List.replicate_succ']; rfl
    · subst ea; subst es
      refine kn_rt (kr_rt ?_)
      rw [rangeD_len]
      exact h
  · walk_at "ev"
    refine w_eq (eqD_str True.intro) ⟨_, rfl, (fun e => absurd e (by decide)), fun _ => ?_⟩
    walk_at "ev"
    refine w_eq (eqD_str True.intro) ⟨_, rfl, (fun _ => ?_), fun e => absurd e (by decide)⟩
    walk_at "ev"
    exact h
theorem s_mixed {k : Nat} {c m : Int} {st : Sto} {Q : D → Sto → Prop} (h : ∀ r, Q (.int r) st) : W (calls tab (k + 1) i__law_mixed [.int c, .int m] st) Q := by
  walk_at "call"
  exact h _
theorem s_box {k : Nat} {ns : List Int} {m : Int} {st : Sto} {Q : D → Sto → Prop} (hm : 0 ≤ m) (h : ∀ c l, Q (.ref st.length) (st ++ [.lst [.int c, .int c, .int l]])) : W (calls tab (k + 1) i__law_box [.fl (ns.map .int), .int m] st) Q := by
  walk_at "call"
  refine ⟨_, rfl, fun e => ?_, fun e => ?_⟩
  · walk_at "ev"
    have hl : m < (ns.map D.int).length := by simpa using e
    obtain ⟨d, e1, e2⟩ := atI_in (xs := ns.map D.int) hm hl
    refine w_ixF e1 ?_
    have : ∃ c, d = .int c := by
      have := List.mem_of_getElem? e2
      obtain ⟨c, _, rfl⟩ := List.mem_map.mp this
      exact ⟨c, rfl⟩
    obtain ⟨c, rfl⟩ := this
    walk_at "ev"
    exact h _ _
  · walk_at "ev"
    exact h _ _
theorem s_take {k n : Nat} {m : Int} {st : Sto} {Q : D → Sto → Prop} (hb : Bx st n) (hm : 0 < m) (hm' : m < 4611686018427387904) (h : ∀ r st', 0 ≤ r → r < m → Stp n st st' → st'.length = st.length → Q (.int r) st') : W (calls tab (k + 2) i__law_take [.ref n, .int m] st) Q := by
  obtain ⟨a, b, c, e⟩ := id hb
  have lt := hb.lt
  walk_at "call"
  refine w_ixL e rfl ?_
  walk_at "ev"
  refine w_setitem e rfl ?_
  have e1 : (st.set n (.lst [.int a, .int b, .int (c + 1)]))[n]? = some (.lst [.int a, .int b, .int (c + 1)]) := set_at lt
  walk_at "ev"
  refine w_ixL e1 rfl ?_
  walk_at "ev"
  refine ⟨_, rfl, fun e2 => ?_, fun e2 => ?_⟩
  · walk_at "ev"
    refine w_ixL e1 rfl ?_
    walk_at "ev"
    refine ⟨_, rfl, fun e3 => ?_, fun e3 => ?_⟩
    · walk_at "ev"
      refine w_ixL e1 rfl ?_
      walk_at "ev"
      refine w_ixL e1 rfl ?_
      walk_at "ev"
      refine w_setitem e1 rfl ?_
      walk_at "ev"
      refine h _ _ (Int.emod_nonneg _ (by omega)) (Int.emod_lt_of_pos _ hm) (((Stp.refl hb).set _ _ _).set _ _ _) (by simp)
    · walk_at "ev"
      refine w_ixL e1 rfl ?_
      walk_at "ev"
      refine w_ixL e1 rfl ?_
      walk_at "ev"
      refine s_mixed fun r => ?_
      walk_at "ev"
      exact h _ _ (Int.emod_nonneg _ (by omega)) (Int.emod_lt_of_pos _ hm) ((Stp.refl hb).set _ _ _) (by simp)
  · refine ⟨_, rfl, nofun, fun _ => ?_⟩
    walk_at "ev"
    refine w_ixL e1 rfl ?_
    walk_at "ev"
    refine w_ixL e1 rfl ?_
    walk_at "ev"
    refine s_mixed fun r => ?_
    walk_at "ev"
    exact h _ _ (Int.emod_nonneg _ (by omega)) (Int.emod_lt_of_pos _ hm) ((Stp.refl hb).set _ _ _) (by simp)
theorem s_plain {k n : Nat} {st : Sto} {Q : D → Sto → Prop} (hb : Bx st n) (h : ∀ d st', fieldP d = true → Stp n st st' → Q d st') : W (calls tab (k + 3) i__law_plain [.ref n] st) Q := by
  walk_at "call"
  have S1 := (Stp.refl hb).more (.lst [.tup [.str "num"], .tup [.str "truth"]])
  refine s_take S1.box (by decide) (by decide) fun r st' h0 h1 S2 _ => w_ixAny (S2.at at_new (new_ne hb)) h0 h1 fun d hd _ => kr_rt (h d st' ?_ (S1.trans S2))
  simp only [List.mem_cons, List.not_mem_nil, or_false] at hd
  rcases hd with rfl | rfl <;> rfl
theorem s_kind {k n : Nat} {st : Sto} {Q : D → Sto → Prop} (hb : Bx st n) (h : ∀ d st', kindP d = true → Stp n st st' → Q d st') : W (calls tab (k + 4) i__law_kind [.ref n] st) Q := by
  walk_at "call"
  refine s_take hb (by decide) (by decide) fun r st1 h0 h1 S1 _ => ?_
  walk_at "ev"
  refine ⟨_, rfl, fun e => ?_, fun e => ?_⟩
  · walk_at "ev"
    have hr : r < 2 := by simpa using e
    refine w_ixAny at_new h0 hr fun d hd _ => kn_rt (kr_rt (h d _ ?_ (S1.more _)))
    simp only [List.mem_cons, List.not_mem_nil, or_false] at hd
    rcases hd with rfl | rfl <;> rfl
  · walk_at "ev"
    refine ⟨_, rfl, fun e2 => ?_, fun e2 => ?_⟩
    · walk_at "ev"
      refine s_take S1.box (by decide) (by decide) fun r2 st2 h2 h3 S2 _ => ?_
      walk_at "ev"
      refine h _ _ ?_ (S1.trans S2)
      have h4 : (1 : Int) ≤ 1 + r2 := by omega
      have h5 : 1 + r2 ≤ 6 := by omega
      simp [kindP, rowP, isS, h4, h5]
    · walk_at "ev"
      refine s_take S1.box (by decide) (by decide) fun r2 st2 h2 h3 S2 _ => ?_
      walk_at "ev"
      refine ⟨_, source_rng (by omega), w_compS (by rw [rangeD_len]; omega) (fun i acc st3 => Stp n st2 st3 ∧ acc.length = i ∧ acc.all fieldP = true) ⟨.refl S2.box, rfl, rfl⟩ (fun i x acc st3 e5 ⟨S3, el, ea⟩ => ?_) (fun acc st3 ⟨S3, el, ea⟩ => ?_)⟩
      · walk_at "ev"
        refine s_plain S3.box fun d st4 hd S4 => ⟨S3.trans S4, by simp [el], by simp [ea, hd]⟩
      · walk_at "ev"
        refine w_tupleL at_new ?_
        walk_at "ev"
        refine h _ _ ?_ ((S1.trans S2).trans (S3.more _))
        rw [rangeD_len] at el
        have h4 : 1 ≤ acc.length := by omega
        have h5 : acc.length ≤ 4 := by omega
        simp [kindP, recP, isS, h4, h5, ea]
theorem s_pick {k n i : Nat} {m : Int} {es : List Ex} {loc : Loc} {st : Sto} {Q : D → Sto → Prop} (hl : lits es = true) (hm : (es.length : Int) = m) (hi : loc[i]? = some (some (.ref n))) (hb : Bx st n) (h0 : 0 < m) (h1 : m < 4611686018427387904) (h : ∀ d st', okD st'.length d → Stp n st st' → Q d st') :
    W (run (calls tab (k + 2)) (.ix (.lst es) (.fn i__law_take [.v i, .c (.int m)])) loc st) Q := by
  refine w_ix (w_lst ((w_lits hl).mono fun ds st1 ⟨o1, G1, l1⟩ => ?_))
  refine w_fn (w_acons (w_v hi (w_acons (w_c (w_anil ?_)))))
  have S1 : Stp n st (st1 ++ [.lst ds]) := .of_gr hb (G1.more _)
  have hn : st1.length ≠ n := fun e => by have := hb.lt; have := G1.le; omega
  refine s_take S1.box h0 h1 fun r st' h2 h3 S2 _ => w_ixAny (S2.at at_new hn) h2 (by rw [l1]; omega) fun d hd _ => h d st' ?_ (S1.trans S2)
  have := S2.le
  rw [List.length_append] at this
  exact okD.mono (by omega) (okL_mem.mp o1 d hd)
theorem s_truly {k : Nat} {x y : Bool} {st : Sto} {Q : D → Sto → Prop} (h : Q (.bl (x == y)) st) : W (calls tab (k + 1) i__law_truly [.bl x, .bl y] st) Q := by
  walk_at "call"
  refine ⟨_, rfl, _, rfl, fun _ => ?_, nofun⟩
  walk_at "ev"
  exact w_eq eqD_bl (kr_rt h)
theorem s_law_parts {k : Nat} {d : D} {st : Sto} {Q : D → Sto → Prop} (hk : kindP d = true) (h : ∀ st', Gr st st' → st'[st'.length - 1]? = some (.lst (partsP d)) → 0 < st'.length → Q (.ref (st'.length - 1)) st') : W (calls tab (k + 1) i__law_parts [d] st) Q := by
  have fin : ∀ (st1 : Sto) (xs : List D), xs = partsP d → Gr st st1 → Q (.ref st1.length) (st1 ++ [.lst xs]) := fun st1 xs e G => by
    subst e
    have q := h (st1 ++ [.lst (partsP d)]) (G.more _) (by simp) (by simp)
    simpa using q
  walk_at "call"
  rcases kind_cases hk with (rfl | rfl) | ⟨i, rfl, h1, h2⟩ | ⟨fs, rfl, h1, h2, q⟩
  · walk_at "ev"
    refine w_eq (eqD_str True.intro) ⟨_, rfl, (fun e => absurd e (by decide)), fun _ => ?_⟩
    walk_at "ev"
    refine w_eq (eqD_str True.intro) ⟨_, rfl, (fun e => absurd e (by decide)), fun _ => ?_⟩
    walk_at "ev"
    exact fin st _ rfl (.refl _)
  · walk_at "ev"
    refine w_eq (eqD_str True.intro) ⟨_, rfl, (fun e => absurd e (by decide)), fun _ => ?_⟩
    walk_at "ev"
    refine w_eq (eqD_str True.intro) ⟨_, rfl, (fun e => absurd e (by decide)), fun _ => ?_⟩
    walk_at "ev"
    exact fin st _ rfl (.refl _)
  · walk_at "ev"
    refine w_eq (eqD_str True.intro) ⟨_, rfl, (fun _ => ?_), fun e => absurd e (by decide)⟩
    walk_at "ev"
    refine w_repL at_new ⟨by omega, by omega, by simp⟩ (kn_rt (kr_rt (fin _ _ ?_ (.one _ _))))
    simp only [partsP, isS, beq_self_eq_true, if_true]
    generalize i.toNat = n
    induction n with
    | zero => rfl
    | succ n ih => rw [List.replicate_succ, List.replicate_succ, List.flatten_cons, ih]; rfl
  · walk_at "ev"
    refine w_eq (eqD_str True.intro) ⟨_, rfl, (fun e => absurd e (by decide)), fun _ => ?_⟩
    walk_at "ev"
    refine w_eq (eqD_str True.intro) ⟨_, rfl, (fun _ => ?_), fun e => absurd e (by decide)⟩
    walk_at "ev"
    refine fin st _ ?_ (.refl _)
    simp only [partsP, isS, beq_self_eq_true, if_true]
theorem field_two {p : D} (h : fieldP p = true) : p = .tup [.str "num"] ∨ p = .tup [.str "truth"] := by
  unfold fieldP at h
  simp only [Bool.or_eq_true] at h
  rcases h with h | h
  · exact .inl (isT1_eq h)
  · exact .inr (isT1_eq h)
theorem s_is_value_f {k : Nat} {p d : D} {st : Sto} {Q : D → Sto → Prop} (hp : fieldP p = true) (ok : okD st.length d) (h : Q (.bl (fieldVal p d)) st) : W (calls tab (k + 2) i_is_value [d, p] st) Q := by
  walk_at "call"
  refine w_eq (eqD_t1 (field_ok hp)) ⟨_, rfl, fun e => ?_, fun e => ?_⟩
  · walk_at "ev"
    refine s_is_whole ok (kn_rt (kr_rt ?_))
    simpa [fieldVal, e] using h
  · walk_at "ev"
    refine w_eq (eqD_t1 (field_ok hp)) ⟨_, rfl, fun e2 => ?_, fun e2 => ?_⟩
    · walk_at "ev"
      refine s_is_truth ok (kn_rt (kr_rt ?_))
      simpa [fieldVal, e] using h
    · exact absurd hp (by simp [fieldP, e, e2])
theorem s_is_value {k : Nat} {kd d : D} {st : Sto} {Q : D → Sto → Prop} (hk : kindP kd = true) (ok : okD st.length d) (h : ∀ st', Gr st st' → Q (.bl (valP kd d)) st') : W (calls tab (k + 3) i_is_value [d, kd] st) Q := by
  cases hf : fieldP kd with
  | true =>
    refine s_is_value_f hf ok ?_
    have q := h st (.refl _)
    simpa [valP, hf] using q
  | false =>
    have hf1 : isT1 "num" kd = false := by unfold fieldP at hf; simp at hf; exact hf.1
    have hf2 : isT1 "truth" kd = false := by unfold fieldP at hf; simp at hf; exact hf.2
    obtain ⟨fa, fl⟩ := parts_fields hk
    walk_at "call"
    refine w_eq (eqD_t1 (kind_ok hk)) ⟨_, rfl, fun e => absurd e (by simp [hf1]), fun _ => ?_⟩
    walk_at "ev"
    refine w_eq (eqD_t1 (kind_ok hk)) ⟨_, rfl, fun e => absurd e (by simp [hf2]), fun _ => ?_⟩
    walk_at "ev"
    refine s_parts_of hk ?_
    walk_at "ev"
    have ok1 := okD.mono (Gr.one st (.lst (partsP kd))).le ok
    refine ⟨_, isi_tup ok1, _, rfl, _, rfl, fun e => ⟨_, rfl, fun _ => ?_, nofun⟩, fun e => ?_⟩
    · walk_at "ev"
      have q := h _ (.one st (.lst (partsP kd)))
      rw [show valP kd d = false by simp only [valP, hf]; cases d <;> simp_all [tupP]] at q
      exact q
    · obtain ⟨xs, rfl⟩ := tupP_eq (d := d) (by simpa using e)
      walk_at "ev"
      refine w_lenL at_new ?_
      walk_at "ev"
      refine ⟨_, rfl, fun e1 => ?_, fun e1 => ?_⟩
      · walk_at "ev"
        have q := h _ (.one st (.lst (partsP kd)))
        rw [show valP kd (.tup xs) = false by
          have : ¬ xs.length = (partsP kd).length := by intro z; rw [z] at e1; simp at e1
          simp [valP, hf, this]] at q
        exact q
      · have hl : xs.length = (partsP kd).length := by
          have : ((xs.length : Int) = ((partsP kd).length : Int)) := by simpa using e1
          omega
        walk_at "ev"
        refine ⟨_, rfl, w_compSE (by omega) at_new (fun i acc st1 => acc = ((List.zipWith fieldVal (partsP kd) xs).take i).map (fun b => .bl b) ∧ st1 = st ++ [.lst (partsP kd)]) ⟨rfl, rfl⟩ (fun i acc st1 ⟨_, es⟩ => by subst es; exact at_new) (fun i x acc st1 e5 ⟨ea, es⟩ => ?_) (fun acc st1 ⟨ea, es⟩ => ?_)⟩
        · subst ea; subst es
          have hi := (List.getElem?_eq_some_iff.mp e5).1
          obtain ⟨y, ey, ey2⟩ := atI_in (xs := xs) (i := (i : Int)) (by omega) (by omega)
          show W (bnd _ _ _) _
          refine w_bnd ?_
          walk_at "ev"
          refine w_ixT ey ?_
          walk_at "ev"
          refine s_is_value_f (List.all_eq_true.mp fa x (List.mem_of_getElem? e5)) (okD_tup.mp ok1 y (List.mem_of_getElem? ey2)) ⟨?_, rfl⟩
          rw [zip_more e5 (by simpa using ey2)]
          simp
        · subst ea; subst es
          walk_at "ev"
          refine w_allL (k := (List.zipWith fieldVal (partsP kd) xs).all id) at_new ?_ (kr_rt ?_)
          · rw [List.take_of_length_le (by simp; omega)]
            generalize List.zipWith fieldVal (partsP kd) xs = bs
            induction bs with
            | nil => rfl
            | cons b bs ih => simp only [List.map_cons, allB, ih]; rfl
          · have q := h _ ((Gr.one st (.lst (partsP kd))).more (.lst (((List.zipWith fieldVal (partsP kd) xs).take (partsP kd).length).map (fun b => .bl b))))
            rw [show valP kd (.tup xs) = (List.zipWith fieldVal (partsP kd) xs).all id by simp [valP, hf, hl]] at q
            exact q
theorem s_law_is_value_f {k : Nat} {p d : D} {st : Sto} {Q : D → Sto → Prop} (hp : fieldP p = true) (ok : okD st.length d) (h : Q (.bl (fieldVal p d)) st) : W (calls tab (k + 1) i__law_is_value [d, p] st) Q := by
  walk_at "call"
  refine w_eq (eqD_t1 (field_ok hp)) ⟨_, rfl, fun e => ?_, fun e => ?_⟩
  · walk_at "ev"
    refine ⟨_, isi_bool ok, kn_rt (kr_rt ?_)⟩
    have := isT1_eq e
    subst this
    rw [show fieldVal (.tup [.str "truth"]) d = boolP d from rfl] at h
    exact h
  · walk_at "ev"
    refine w_eq (eqD_t1 (field_ok hp)) ⟨_, rfl, fun e2 => ?_, fun e2 => ?_⟩
    · walk_at "ev"
      have hv : fieldVal p d = wholeP d := by simp [fieldVal, e2]
      rw [hv] at h
      refine ⟨_, isi_int ok, _, rfl, fun e => ?_, fun e => ?_⟩
      · walk_at "ev"
        refine ⟨_, isi_bool ok, _, rfl, ?_⟩
        walk_at "ev"
        cases d <;> simp_all [wholeP, boolP]
      · walk_at "ev"
        cases d <;> simp_all [wholeP, boolP]
    · exact absurd hp (by simp [fieldP, e, e2])
theorem s_law_is_value {k : Nat} {kd d : D} {st : Sto} {Q : D → Sto → Prop} (hk : kindP kd = true) (ok : okD st.length d) (h : ∀ st', Gr st st' → Q (.bl (valP kd d)) st') : W (calls tab (k + 2) i__law_is_value [d, kd] st) Q := by
  cases hf : fieldP kd with
  | true =>
    refine s_law_is_value_f hf ok ?_
    have q := h st (.refl _)
    simpa [valP, hf] using q
  | false =>
    have hf1 : isT1 "num" kd = false := by unfold fieldP at hf; simp at hf; exact hf.1
    have hf2 : isT1 "truth" kd = false := by unfold fieldP at hf; simp at hf; exact hf.2
    obtain ⟨fa, fl⟩ := parts_fields hk
    walk_at "call"
    refine w_eq (eqD_t1 (kind_ok hk)) ⟨_, rfl, fun e => absurd e (by simp [hf2]), fun _ => ?_⟩
    walk_at "ev"
    refine w_eq (eqD_t1 (kind_ok hk)) ⟨_, rfl, fun e => absurd e (by simp [hf1]), fun _ => ?_⟩
    walk_at "ev"
    refine s_law_parts hk fun st1 G1 e1 l1 => ?_
    walk_at "ev"
    have ok1 := okD.mono G1.le ok
    refine ⟨_, isi_tup ok1, _, rfl, _, rfl, fun e => ⟨_, rfl, fun _ => ?_, nofun⟩, fun e => ?_⟩
    · walk_at "ev"
      have q := h _ G1
      rw [show valP kd d = false by simp only [valP, hf]; cases d <;> simp_all [tupP]] at q
      exact q
    · obtain ⟨xs, rfl⟩ := tupP_eq (d := d) (by simpa using e)
      walk_at "ev"
      refine w_lenL e1 ?_
      walk_at "ev"
      refine ⟨_, rfl, fun e2 => ?_, fun e2 => ?_⟩
      · walk_at "ev"
        have q := h _ G1
        rw [show valP kd (.tup xs) = false by
          have : ¬ xs.length = (partsP kd).length := by intro z; rw [z] at e2; simp at e2
          simp [valP, hf, this]] at q
        exact q
      · have hl : xs.length = (partsP kd).length := by
          have : ((xs.length : Int) = ((partsP kd).length : Int)) := by simpa using e2
          omega
        walk_at "ev"
        refine w_lenL e1 ?_
        walk_at "ev"
        refine ⟨_, source_rng (by omega), w_compS (by rw [rangeD_len]; omega) (fun i acc st2 => acc.isEmpty = ((List.zipWith fieldVal (partsP kd) xs).take i).all id ∧ st2 = st1) ⟨rfl, rfl⟩ (fun i x acc st2 e5 ⟨ea, es⟩ => ?_) (fun acc st2 ⟨ea, es⟩ => ?_)⟩
        · subst es
          have hi := (List.getElem?_eq_some_iff.mp e5).1
          rw [rangeD_len] at hi
          have hx : x = .int (i : Int) := by
            unfold rangeD at e5
            rw [List.getElem?_map, List.getElem?_range hi] at e5
            exact (Option.some.inj e5).symm
          subst hx
          obtain ⟨y, ey, ey2⟩ := atI_in (xs := xs) (i := (i : Int)) (by omega) (by omega)
          obtain ⟨p, ep, ep2⟩ := atI_in (xs := partsP kd) (i := (i : Int)) (by omega) (by omega)
          walk_at "ev"
          refine w_ixT ey ?_
          walk_at "ev"
          refine w_ixL e1 ep ?_
          walk_at "ev"
          refine s_law_is_value_f (List.all_eq_true.mp fa p (List.mem_of_getElem? ep2)) (okD_tup.mp ok1 y (List.mem_of_getElem? ey2)) ⟨_, rfl, _, rfl, fun e7 => ?_, fun e7 => ?_⟩
          · walk_at "ev"
            refine ⟨?_, rfl⟩
            rw [zip_more (by simpa using ep2) (by simpa using ey2)]
            have : fieldVal p y = false := by simpa using e7
            simp [this]
          · refine ⟨?_, rfl⟩
            rw [zip_more (by simpa using ep2) (by simpa using ey2)]
            have : fieldVal p y = true := by simpa using e7
            simp [this, ea]
        · subst es
          walk_at "ev"
          refine w_eq (eqL_nil (at_old at_new) at_new) (kr_rt ?_)
          have q := h _ ((G1.more (.lst acc)).more (.lst []))
          rw [rangeD_len, List.take_of_length_le (by simp; omega)] at ea
          rw [ea]
          rw [show valP kd (.tup xs) = (List.zipWith fieldVal (partsP kd) xs).all id by simp [valP, hf, hl]] at q
          exact q
theorem s_tagged_f {k : Nat} {d : D} {st : Sto} {Q : D → Sto → Prop} (hd : scalP d = true) (h : Q (tagP d) st) : W (calls tab (k + 1) i_tagged [d] st) Q := by
  walk_at "call"
  cases d <;> simp [scalP] at hd
  · exact ⟨_, rfl, _, rfl, (fun _ => w_ret (w_tup (w_acons (w_c (w_acons (w_v rfl (w_anil (kn_rt (kr_rt h))))))))), nofun⟩
  · refine ⟨_, rfl, _, rfl, nofun, fun _ => ?_⟩
    walk_at "ev"
    exact ⟨_, rfl, _, rfl, (fun _ => w_ret (w_tup (w_acons (w_c (w_acons (w_v rfl (w_anil (kn_rt (kr_rt h))))))))), nofun⟩
theorem s_tagged_t {k : Nat} {xs : List D} {st : Sto} {Q : D → Sto → Prop} (hl : xs.length ≤ 100) (hd : xs.all scalP = true) (h : ∀ st', Gr st st' → Q (.tup (xs.map tagP)) st') : W (calls tab (k + 2) i_tagged [.tup xs] st) Q := by
  walk_at "call"
  refine ⟨_, rfl, _, rfl, nofun, fun _ => ?_⟩
  walk_at "ev"
  refine ⟨_, rfl, _, rfl, nofun, fun _ => ?_⟩
  walk_at "ev"
  refine ⟨_, rfl, w_compS (by omega) (fun i acc st1 => acc = (xs.take i).map tagP ∧ st1 = st) ⟨rfl, rfl⟩ (fun i x acc st1 e5 ⟨ea, es⟩ => ?_) (fun acc st1 ⟨ea, es⟩ => ?_)⟩
  · subst ea; subst es
    walk_at "ev"
    refine s_tagged_f (List.all_eq_true.mp hd x (List.mem_of_getElem? e5)) ⟨?_, rfl⟩
    rw [take_more e5]; simp
  · subst ea; subst es
    walk_at "ev"
    refine w_tupleL at_new (kr_rt ?_)
    rw [List.take_length]
    exact h _ (.one _ _)
theorem s_alike_f {k : Nat} {d : D} {st : Sto} {Q : D → Sto → Prop} (hd : scalP d = true) (h : ∀ st', Gr st st' → Q (.bl true) st') : W (calls tab (k + 1) i__law_alike [tagP d, d] st) Q := by
  cases d <;> simp [scalP] at hd <;> dsimp only [tagP]
  · walk_at "call"
    refine ⟨_, rfl, _, rfl, nofun, fun _ => ?_⟩
    walk_at "ev"
    refine ⟨_, rfl, ?_⟩
    walk_at "ev"
    refine w_ixL at_new rfl ?_
    walk_at "ev"
    refine ⟨_, rfl, _, rfl, _, rfl, nofun, fun _ => ?_⟩
    walk_at "ev"
    refine ⟨_, rfl, (fun e => absurd e (by simp)), fun _ => ?_⟩
    walk_at "ev"
    refine w_ne (eqD_str True.intro) ⟨_, rfl, (fun e => absurd e (by decide)), fun _ => ?_⟩
    walk_at "ev"
    refine w_eq (eqD_scal rfl) ⟨_, rfl, fun _ => ?_, nofun⟩
    walk_at "ev"
    refine ⟨_, rfl, ?_⟩
    walk_at "ev"
    refine ⟨_, rfl, ?_⟩
    exact w_eq eqD_bl (kr_rt (h _ (.one _ _)))
  · walk_at "call"
    refine ⟨_, rfl, _, rfl, nofun, fun _ => ?_⟩
    walk_at "ev"
    refine ⟨_, rfl, ?_⟩
    walk_at "ev"
    refine w_ixL at_new rfl ?_
    walk_at "ev"
    refine ⟨_, rfl, _, rfl, _, rfl, nofun, fun _ => ?_⟩
    walk_at "ev"
    refine ⟨_, rfl, (fun e => absurd e (by simp)), fun _ => ?_⟩
    walk_at "ev"
    refine w_ne (eqD_str True.intro) ⟨_, rfl, (fun e => absurd e (by decide)), fun _ => ?_⟩
    walk_at "ev"
    refine ⟨_, rfl, (fun _ => ?_), fun e => absurd e (by simp)⟩
    walk_at "ev"
    refine ⟨_, rfl, ?_⟩
    walk_at "ev"
    refine ⟨_, rfl, ?_⟩
    exact w_eq eqD_bl (kr_rt (h _ (.one _ _)))
theorem s_alike_t {k : Nat} {xs : List D} {st : Sto} {Q : D → Sto → Prop} (hl : xs.length ≤ 100) (hd : xs.all scalP = true) (h : ∀ st', Gr st st' → Q (.bl true) st') : W (calls tab (k + 2) i__law_alike [.tup (xs.map tagP), .tup xs] st) Q := by
  walk_at "call"
  refine ⟨_, rfl, _, rfl, fun _ => ?_, nofun⟩
  walk_at "ev"
  refine ⟨_, rfl, _, rfl, _, rfl, nofun, fun _ => ?_⟩
  walk_at "ev"
  refine ⟨_, rfl, (fun e => absurd e (by simp)), fun _ => ?_⟩
  walk_at "ev"
  refine ⟨_, source_rng (by omega), w_compS (by rw [rangeD_len]; omega) (fun i acc st2 => acc = [] ∧ Gr st st2) ⟨rfl, .refl _⟩ (fun i x acc st2 e5 ⟨ea, es⟩ => ?_) (fun acc st2 ⟨ea, es⟩ => ?_)⟩
  · subst ea
    have hi := (List.getElem?_eq_some_iff.mp e5).1
    rw [rangeD_len] at hi
    have hx : x = .int (i : Int) := by
      unfold rangeD at e5
      rw [List.getElem?_map, List.getElem?_range hi] at e5
      exact (Option.some.inj e5).symm
    subst hx
    obtain ⟨y, ey, ey2⟩ := atI_in (xs := xs) (i := (i : Int)) (by omega) (by omega)
    have ez : atI (xs.map tagP) (i : Int) = some (tagP y) := by
      obtain ⟨z, e1, e2⟩ := atI_in (xs := xs.map tagP) (i := (i : Int)) (by omega) (by simp; omega)
      rw [List.getElem?_map, ey2] at e2
      rw [e1, ← Option.some.inj e2]
    walk_at "ev"
    refine w_ixT ez ?_
    walk_at "ev"
    refine w_ixT ey ?_
    walk_at "ev"
    refine s_alike_f (List.all_eq_true.mp hd y (List.mem_of_getElem? ey2)) fun st3 G3 => ⟨_, rfl, _, rfl, nofun, fun _ => ⟨rfl, es.trans G3⟩⟩
  · subst ea
    walk_at "ev"
    refine w_eq (eqL_nil (at_old at_new) at_new) (kn_rt (kr_rt (h _ ((es.more _).more _))))
theorem s_great {k : Nat} {m : Int} {st : Sto} {Q : D → Sto → Prop} (hm : 0 ≤ m ∧ m ≤ 1000) (h : ∀ r, Q (.int r) st) : W (calls tab (k + 1) i__law_great [.int m] st) Q := by
  walk_at "call0"
  refine w_set (w_c (w_for (fun xs i loc st1 => st1 = st ∧ ∃ a b, loc = [some (.int m), some (.int a), b]) ?_))
  walk_at "ev"
  refine ⟨_, source_rng (by omega), ⟨rfl, _, _, rfl⟩, ?_, ?_⟩
  · rintro i x loc st1 e ⟨rfl, a, b, rfl⟩
    walk_at "ev"
    exact ⟨rfl, _, _, rfl⟩
  · rintro loc st1 ⟨rfl, a, b, rfl⟩
    walk_at "ev"
    exact h _
theorem s_number {k n : Nat} {st : Sto} {Q : D → Sto → Prop} (hb : Bx st n) (h : ∀ r st', Stp n st st' → st'.length = st.length → Q (.int r) st') : W (calls tab (k + 3) i__law_number [.ref n] st) Q := by
  walk_at "call"
  refine s_take hb (by decide) (by decide) fun r st1 h0 h1 S1 l1 => ?_
  walk_at "ev"
  refine ⟨_, rfl, fun e => ?_, fun e => ?_⟩
  · walk_at "ev"
    refine s_take S1.box (by decide) (by decide) fun r2 st2 h2 h3 S2 l2 => ?_
    walk_at "ev"
    exact h _ _ (S1.trans S2) (by omega)
  · walk_at "ev"
    refine ⟨_, rfl, fun e => ?_, fun e => ?_⟩
    · walk_at "ev"
      refine s_take S1.box (by decide) (by decide) fun r2 st2 h2 h3 S2 l2 => ?_
      walk_at "ev"
      exact h _ _ (S1.trans S2) (by omega)
    · walk_at "ev"
      refine s_take S1.box (by decide) (by decide) fun r2 st2 h2 h3 S2 l2 => ?_
      walk_at "ev"
      refine s_take S2.box (by decide) (by decide) fun r3 st3 h4 h5 S3 l3 => ?_
      walk_at "ev"
      refine s_great (by omega) fun r4 => ?_
      walk_at "ev"
      refine s_take S3.box (by decide) (by decide) fun r5 st5 h6 h7 S5 l5 => ?_
      walk_at "ev"
      exact h _ _ ((S1.trans S2).trans (S3.trans S5)) (by omega)
theorem s_part {k n : Nat} {p : D} {st : Sto} {Q : D → Sto → Prop} (hb : Bx st n) (hp : fieldP p = true) (h : ∀ d st', fieldVal p d = true → Stp n st st' → Q d st') : W (calls tab (k + 4) i__law_part [.ref n, p] st) Q := by
  walk_at "call"
  refine w_eq (eqD_t1 (field_ok hp)) ⟨_, rfl, fun e => ?_, fun e => ?_⟩
  · walk_at "ev"
    refine s_take hb (by decide) (by decide) fun r st1 h0 h1 S1 l1 => ?_
    walk_at "ev"
    refine h _ _ ?_ S1
    rw [isT1_eq e]; rfl
  · walk_at "ev"
    refine s_number hb fun r st1 S1 l1 => kr_rt (h _ _ ?_ S1)
    have : isT1 "num" p = true := by simpa [fieldP, e] using hp
    simp [fieldVal, this, wholeP]
theorem s_value {k n : Nat} {kd : D} {st : Sto} {Q : D → Sto → Prop} (hb : Bx st n) (hk : kindP kd = true) (h : ∀ d st', valP kd d = true → (scalP d = true ∨ ∃ xs, d = .tup xs ∧ xs ≠ [] ∧ xs.length ≤ 6 ∧ xs.all scalP = true) → Stp n st st' → Q d st') : W (calls tab (k + 5) i__law_value [.ref n, kd] st) Q := by
  obtain ⟨fa, fl⟩ := parts_fields hk
  walk_at "call"
  refine s_law_parts hk fun st1 G1 e1 l1 => ?_
  walk_at "ev"
  refine w_eq (eqL_nil (at_old e1) at_new) ⟨_, rfl, fun e => ?_, fun e => ?_⟩
  · have hf : fieldP kd = true := by
      cases hf : fieldP kd with
      | true => rfl
      | false => exact absurd (List.isEmpty_iff.mp e) (part_not_field hk hf)
    walk_at "ev"
    have S1 : Stp n st (st1 ++ [.lst []]) := .of_gr hb (G1.more _)
    refine s_part S1.box hf fun d st2 hd S2 => kn_rt (kr_rt (h d st2 ?_ (.inl (fieldVal_scal hd)) (S1.trans S2)))
    simp [valP, hf, hd]
  · have hf : fieldP kd = false := by
      cases hf : fieldP kd with
      | false => rfl
      | true => rw [field_no_parts hf] at e; simp at e
    walk_at "ev"
    refine s_law_parts hk fun st2 G2 e2 l2 => ?_
    have S2 : Stp n st st2 := .of_gr hb ((G1.more _).trans G2)
    have hpn : st2.length - 1 ≠ n := by
      have h1 := G2.le
      have h2 := G1.le
      have h3 := hb.lt
      rw [List.length_append, List.length_singleton] at h1
      omega
    refine ⟨_, rfl, w_compSA (by omega) e2 (fun i acc st3 => Stp n st2 st3 ∧ st3[st2.length - 1]? = some (.lst (partsP kd)) ∧ acc.length = i ∧ (List.zipWith fieldVal (partsP kd) acc).all id = true ∧ acc.all scalP = true) ⟨.refl S2.box, e2, rfl, by simp, rfl⟩ (fun i acc st3 q => q.2.1) (fun i x acc st3 e5 ⟨S3, e3, el, ea, es⟩ => ?_) (fun acc st3 ⟨S3, e3, el, ea, es⟩ => ?_)⟩
    · walk_at "ev"
      refine s_part S3.box (List.all_eq_true.mp fa x (List.mem_of_getElem? e5)) fun d st4 hd S4 => ⟨S3.trans S4, S4.at e3 hpn, by simp [el], ?_, by simp [es, fieldVal_scal hd]⟩
      rw [zip_app (by rw [el]; exact e5)]
      simp only [List.all_append, List.all_cons, List.all_nil, Bool.and_true, ea, hd, id]
    · walk_at "ev"
      refine w_tupleL at_new (kr_rt (h _ _ ?_ (.inr ⟨acc, rfl, ?_, by omega, es⟩) (S2.trans (S3.more _))))
      · simp [valP, hf, el]
        simpa using ea
      · intro z
        subst z
        exact part_not_field hk hf (List.length_eq_zero_iff.mp (by simpa using el.symm))
theorem s_odd {k n : Nat} {d : D} {st : Sto} {Q : D → Sto → Prop} (hb : Bx st n) (hd : scalP d = true) (h : ∀ d st', okD st'.length d → Stp n st st' → Q d st') : W (calls tab (k + 3) i__law_odd [.ref n, d] st) Q := by
  have lt := hb.lt
  walk_at "call"
  refine ⟨_, isi_bool (scal_ok hd), _, rfl, fun e => ?_, fun e => ?_⟩
  · obtain ⟨b, rfl⟩ := boolP_eq e
    walk_at "ev"
    have S1 := (Stp.refl hb).more (.lst [.int (if b then 1 else 0), .non, .str "yes", .tup [.bl b], .int 1])
    refine s_take S1.box (by decide) (by decide) fun r st' h0 h1 S2 _ => w_ixAny (S2.at at_new (new_ne hb)) h0 h1 fun d hd _ => kn_rt (kr_rt (h d st' ?_ (S1.trans S2)))
    have : okL st'.length [.int (if b then 1 else 0), .non, .str "yes", .tup [.bl b], .int 1] := by simp [okL, okD]
    exact okL_mem.mp this d hd
  · walk_at "ev"
    have S1 := ((Stp.refl hb).more (.lst [d])).more (.lst [.bl true, .bl false, .non, .str "1", .tup [d], .ref st.length])
    refine s_take S1.box (by decide) (by decide) fun r st' h0 h1 S2 _ => w_ixAny (S2.at at_new (by simp; omega)) h0 h1 fun d' hd' _ => kr_rt (h d' st' ?_ (S1.trans S2))
    have le := S2.le
    simp only [List.length_append, List.length_singleton] at le
    have : okL st'.length [.bl true, .bl false, .non, .str "1", .tup [d], .ref st.length] := by
      simp [okL, okD, scal_ok hd]
      omega
    exact okL_mem.mp this d' hd'
theorem s_spoilt {k n : Nat} {d : D} {st : Sto} {Q : D → Sto → Prop} (hb : Bx st n) (hd : scalP d = true ∨ ∃ xs, d = .tup xs ∧ xs ≠ [] ∧ xs.length ≤ 6 ∧ xs.all scalP = true) (h : ∀ d st', okD st'.length d → Stp n st st' → Q d st') : W (calls tab (k + 4) i__law_spoilt [.ref n, d] st) Q := by
  have lt := hb.lt
  walk_at "call"
  rcases hd with hd | ⟨xs, rfl, hx, hl, hs⟩
  · refine ⟨_, isi_tup (scal_ok hd), _, rfl, _, rfl, fun e => ?_, fun e => absurd e (by cases d <;> simp_all [scalP, tupP])⟩
    walk_at "ev"
    exact s_odd hb hd fun d' st' o S => kn_rt (kr_rt (h d' st' o S))
  · have hpos : 0 < xs.length := List.length_pos_iff.mpr hx
    have okx : ∀ m, ∀ x ∈ xs, okD m x := fun m x hx => scal_ok (List.all_eq_true.mp hs x hx)
    refine ⟨_, rfl, _, rfl, _, rfl, nofun, fun _ => ?_⟩
    walk_at "ev"
    refine s_take hb (by decide) (by decide) fun r st1 h0 h1 S1 l1 => ?_
    walk_at "ev"
    refine ⟨_, rfl, fun e => ?_, fun e => ?_⟩
    · walk_at "ev"
      refine ⟨_, rfl, w_slT (by simp [HT.sIx]; omega) (kn_rt (kr_rt (h _ _ ?_ S1)))⟩
      exact okD_tup.mpr fun x hx => okx _ x (cut_mem hx)
    walk_at "ev"
    refine ⟨_, rfl, fun e => ?_, fun e => ?_⟩
    · obtain ⟨y, ey, ey2⟩ := atI_in (xs := xs) (i := 0) (by omega) (by omega)
      walk_at "ev"
      refine w_ixT ey ?_
      walk_at "ev"
      refine w_catA (by simp; omega) (kn_rt (kr_rt (h _ _ ?_ S1)))
      refine okD_tup.mpr fun x hx => ?_
      rcases List.mem_append.mp hx with hx | hx
      · exact okx _ x hx
      · rw [List.mem_singleton.mp hx]; exact okx _ y (List.mem_of_getElem? ey2)
    walk_at "ev"
    refine ⟨_, rfl, fun e => ?_, fun e => ?_⟩
    · walk_at "ev"
      have S2 := ((Stp.refl S1.box).more (.lst xs)).more (.lst [.ref st1.length, .non, .int 7, .bl true, .tup []])
      have lt1 := S1.box.lt
      refine s_take S2.box (by decide) (by decide) fun r st' h0 h1 S3 _ => w_ixAny (S3.at at_new (by simp; omega)) h0 h1 fun d' hd' _ => kn_rt (kr_rt (h d' st' ?_ (S1.trans (S2.trans S3))))
      have le := S3.le
      simp only [List.length_append, List.length_singleton] at le
      have : okL st'.length [.ref st1.length, .non, .int 7, .bl true, .tup []] := by
        simp [okL, okD]
        omega
      exact okL_mem.mp this d' hd'
    walk_at "ev"
    refine s_take S1.box (by omega) (by omega) fun r2 st2 h2 h3 S2 l2 => ?_
    walk_at "ev"
    refine ⟨_, rfl, w_slT (by intro ⟨_, z⟩; simp only [HT.sIx] at z; rw [if_neg (by omega)] at z; omega) ?_⟩
    walk_at "ev"
    obtain ⟨y, ey, ey2⟩ := atI_in (xs := xs) (i := r2) (by omega) (by omega)
    refine w_ixT ey ?_
    walk_at "ev"
    refine s_odd S2.box (List.all_eq_true.mp hs y (List.mem_of_getElem? ey2)) fun d' st3 o3 S3 => ?_
    walk_at "ev"
    have c1 := cut_len (xs := xs) (lo := none) (hi := some r2)
    have c2 := cut_len (xs := xs) (lo := some (r2 + 1)) (hi := none)
    refine w_catA (by simp; omega) ?_
    walk_at "ev"
    refine ⟨_, rfl, w_slT (by intro ⟨z, _⟩; simp only [HT.sIx] at z; rw [if_neg (by omega)] at z; omega) ?_⟩
    refine w_catA (by simp; omega) (kr_rt (h _ _ ?_ (S1.trans (S2.trans S3))))
    refine okD_tup.mpr fun x hx => ?_
    rcases List.mem_append.mp hx with hx | hx
    · rcases List.mem_append.mp hx with hx | hx
      · exact okx _ x (cut_mem hx)
      · rw [List.mem_singleton.mp hx]; exact o3
    · exact okx _ x (cut_mem hx)
theorem s_law {k : Nat} {ns : List Int} {st : Sto} (hn : ns.length ≤ 63) : W (calls tab (k + 6) i_law [.fl (ns.map .int)] st) fun d _ => d = .bl true := by
  walk_at "call0"
  refine w_for (fun xs i loc _ => ∃ a b c d e f g, loc = [some (.fl (ns.map .int)), a, b, c, d, e, f, g]) ?_
  walk_at "ev"
  have hl : ((ns.map D.int).length : Int) ≤ 63 := by simp; omega
  refine ⟨_, source_rng (by constructor <;> (split <;> (try split) <;> omega)), ⟨_, _, _, _, _, _, _, rfl⟩, ?_, ?_⟩
  · rintro i x loc st e ⟨a, b, c, d, e', f, g, rfl⟩
    have hx : x = .int (i : Int) := by
      have hi := (List.getElem?_eq_some_iff.mp e).1
      rw [rangeD_len] at hi
      unfold rangeD at e
      rw [List.getElem?_map, List.getElem?_range hi] at e
      exact (Option.some.inj e).symm
    subst hx
    walk_at "ev"
    refine s_box (by omega) fun c l => ?_
    walk_at "ev"
    have B : Bx (st ++ [.lst [.int c, .int c, .int l]]) st.length := ⟨_, _, _, at_new⟩
    refine s_kind B fun kd st2 hk S2 => ?_
    walk_at "ev"
    refine s_value S2.box hk fun v st3 hv hs S3 => ?_
    have ov : ∀ m, okD m v := fun m => by
      rcases hs with hs | ⟨xs, rfl, _, _, hs⟩
      · exact scal_ok hs
      · exact okD_tup.mpr fun x hx => scal_ok (List.all_eq_true.mp hs x hx)
    walk_at "ev"
    refine s_is_value hk (ov _) fun st4 G4 => ?_
    walk_at "ev"
    rw [hv]
    refine w_isnot rfl ⟨_, rfl, nofun, fun _ => ?_⟩
    walk_at "ev"
    have tail : ∀ st5, Gr st4 st5 → W (execs (calls tab (k + 5)) ((match f_law.body with | [.for_ _ _ _ bd, _] => bd | _ => []).drop 4) [some (.fl (ns.map .int)), some (.int (i : Int)), some (.ref st.length), some kd, some v, e', f, g] st5) (Kf (fun loc _ => ∃ a b c d e f g, loc = [some (.fl (ns.map .int)), a, b, c, d, e, f, g]) (Kn (calls tab (k + 5)) [.ret (.c (.bl true))] (Kr fun d _ => d = .bl true))) := by
      intro st5 G5
      have B5 : Bx st5 st.length := S3.box.gr (G4.trans G5)
      dsimp only [f_law, List.drop]
      walk_at "ev"
      refine s_kind B5 fun kd2 st6 hk2 S6 => ?_
      walk_at "ev"
      refine s_take S6.box (by decide) (by decide) fun r st7 h0 h1 S7 l7 => ?_
      walk_at "ev"
      have inner : ∀ (st8 : Sto) (th : D), okD st8.length th → W (execs (calls tab (k + 5)) ((match f_law.body with | [.for_ _ _ _ bd, _] => bd | _ => []).drop 7) [some (.fl (ns.map .int)), some (.int (i : Int)), some (.ref st.length), some kd, some v, some kd2, some th, g] st8) (Kf (fun loc _ => ∃ a b c d e f g, loc = [some (.fl (ns.map .int)), a, b, c, d, e, f, g]) (Kn (calls tab (k + 5)) [.ret (.c (.bl true))] (Kr fun d _ => d = .bl true))) := by
        intro st8 th ot
        dsimp only [f_law, List.drop]
        refine w_forA (fun n xs j loc st9 => st9[n]? = some (.lst xs) ∧ okD st9.length th ∧ ∃ z, loc = [some (.fl (ns.map .int)), some (.int (i : Int)), some (.ref st.length), some kd, some v, some kd2, some th, z]) ?_
        walk_at "ev"
        refine ⟨_, _, rfl, at_new, ⟨at_new, okD.mono (Gr.one _ _).le ot, _, rfl⟩, fun j loc st9 q => q.1, ?_, ?_⟩
        · rintro j y loc st9 ey ⟨e9, o9, z, rfl⟩
          have hy : kindP y = true := by
            have := List.mem_of_getElem? ey
            simp only [List.mem_cons, List.not_mem_nil, or_false] at this
            rcases this with rfl | rfl
            · exact hk
            · exact hk2
          walk_at "ev"
          refine s_is_value hy o9 fun st10 G10 => ?_
          walk_at "ev"
          refine s_law_is_value hy (okD.mono G10.le o9) fun st11 G11 => ?_
          walk_at "ev"
          refine s_truly ⟨_, rfl, _, rfl, (fun e => absurd e (by simp)), fun _ => ?_⟩
          walk_at "ev"
          exact ⟨(G10.trans G11).at e9, okD.mono (G10.trans G11).le o9, _, rfl⟩
        · rintro loc st9 ⟨e9, o9, z, rfl⟩
          walk_at "ev"
          exact ⟨_, _, _, _, _, _, _, rfl⟩
      refine ⟨_, rfl, fun e => ?_, fun e => ?_⟩
      · walk_at "ev"
        refine s_spoilt S7.box hs fun th st8 o8 S8 => ?_
        exact w_snil (kn_nx (inner _ _ o8))
      · exact w_snil (kn_nx (inner _ _ (ov _)))
    rcases hs with hs | ⟨xs, rfl, hx, hl, hs⟩
    · refine s_tagged_f hs ?_
      walk_at "ev"
      refine s_alike_f hs fun st5 G5 => ⟨_, rfl, _, rfl, nofun, fun _ => w_snil (kn_nx (tail _ G5))⟩
    · refine s_tagged_t (by omega) hs fun st5 G5 => ?_
      walk_at "ev"
      refine s_alike_t (by omega) hs fun st6 G6 => ⟨_, rfl, _, rfl, nofun, fun _ => w_snil (kn_nx (tail _ (G5.trans G6)))⟩
  · rintro loc st ⟨a, b, c, d, e, f, g, rfl⟩
    walk_at "ev"
    rfl
end K02
end Ev

set_option maxHeartbeats 4000000
namespace Ev
open PySem PySem.Spec PyProof.Rows L2
namespace K02
def top (i : Nat) : Stmt := PySem.Challenge.pw_eachstepsame_k02_values_of_kinds.main.body.getD i (.Pass ⟨0, 0, 0, 0⟩)
def names : List Str := ["is_whole", "is_truth", "parts_of", "is_value", "tagged", "_law_mixed", "_law_box", "_law_take", "_law_plain", "_law_kind", "_law_great", "_law_number", "_law_part", "_law_parts", "_law_value", "_law_odd", "_law_spoilt", "_law_is_value", "_law_alike", "_law_truly", "law"]
def csts : List (Str × D) := [("NUM", .tup [.str "num"]), ("TRUTH", .tup [.str "truth"])]
def T : Tab := ⟨names, csts⟩
def r_is_whole : Rec := ⟨"is_whole", ["thing"], ["thing"], top 3, f_is_whole⟩
def r_is_truth : Rec := ⟨"is_truth", ["thing"], ["thing"], top 4, f_is_truth⟩
def r_parts_of : Rec := ⟨"parts_of", ["kind"], ["kind"], top 5, f_parts_of⟩
def r_is_value : Rec := ⟨"is_value", ["thing", "kind"], ["thing", "kind", "parts"], top 6, f_is_value⟩
def r_tagged : Rec := ⟨"tagged", ["value"], ["value"], top 7, f_tagged⟩
def r__law_mixed : Rec := ⟨"_law_mixed", ["_law_cell", "_law_k"], ["_law_cell", "_law_k", "_law_number_here"], top 9, f__law_mixed⟩
def r__law_box : Rec := ⟨"_law_box", ["_law_script", "_law_k"], ["_law_script", "_law_k", "_law_cell"], top 10, f__law_box⟩
def r__law_take : Rec := ⟨"_law_take", ["_law_box_here", "_law_many"], ["_law_box_here", "_law_many", "_law_found"], top 11, f__law_take⟩
def r__law_plain : Rec := ⟨"_law_plain", ["_law_box_here"], ["_law_box_here"], top 12, f__law_plain⟩
def r__law_kind : Rec := ⟨"_law_kind", ["_law_box_here"], ["_law_box_here", "_law_way"], top 13, f__law_kind⟩
def r__law_great : Rec := ⟨"_law_great", ["_law_many"], ["_law_many", "_law_found", "_law_k"], top 14, f__law_great⟩
def r__law_number : Rec := ⟨"_law_number", ["_law_box_here"], ["_law_box_here", "_law_way", "_law_sign"], top 15, f__law_number⟩
def r__law_part : Rec := ⟨"_law_part", ["_law_box_here", "_law_kind_here"], ["_law_box_here", "_law_kind_here"], top 16, f__law_part⟩
def r__law_parts : Rec := ⟨"_law_parts", ["_law_kind_here"], ["_law_kind_here"], top 17, f__law_parts⟩
def r__law_value : Rec := ⟨"_law_value", ["_law_box_here", "_law_kind_here"], ["_law_box_here", "_law_kind_here"], top 18, f__law_value⟩
def r__law_odd : Rec := ⟨"_law_odd", ["_law_box_here", "_law_part_here"], ["_law_box_here", "_law_part_here"], top 19, f__law_odd⟩
def r__law_spoilt : Rec := ⟨"_law_spoilt", ["_law_box_here", "_law_value_here"], ["_law_box_here", "_law_value_here", "_law_way", "_law_at"], top 20, f__law_spoilt⟩
def r__law_is_value : Rec := ⟨"_law_is_value", ["_law_thing", "_law_kind_here"], ["_law_thing", "_law_kind_here", "_law_parts_here"], top 21, f__law_is_value⟩
def r__law_alike : Rec := ⟨"_law_alike", ["_law_found", "_law_value_here"], ["_law_found", "_law_value_here", "_law_word"], top 22, f__law_alike⟩
def r__law_truly : Rec := ⟨"_law_truly", ["_law_found", "_law_due"], ["_law_found", "_law_due"], top 23, f__law_truly⟩
def r_law : Rec := ⟨"law", ["_law_script"], ["_law_script", "_law_k", "_law_box_here", "_law_kind_here", "_law_value_here", "_law_other", "_law_thing", "_law_one"], top 24, f_law⟩
def recs : List Rec := [r_is_whole, r_is_truth, r_parts_of, r_is_value, r_tagged, r__law_mixed, r__law_box, r__law_take, r__law_plain, r__law_kind, r__law_great, r__law_number, r__law_part, r__law_parts, r__law_value, r__law_odd, r__law_spoilt, r__law_is_value, r__law_alike, r__law_truly, r_law]
theorem c_is_whole : Chk T r_is_whole := ⟨⟨rfl, rfl, rfl, by decide +kernel, rfl, by decide +kernel, by decide +kernel⟩, by decide +kernel, by kernel_rfl, rfl, rfl, by decide +kernel⟩
theorem c_is_truth : Chk T r_is_truth := ⟨⟨rfl, rfl, rfl, by decide +kernel, rfl, by decide +kernel, by decide +kernel⟩, by decide +kernel, by kernel_rfl, rfl, rfl, by decide +kernel⟩
theorem c_parts_of : Chk T r_parts_of := ⟨⟨rfl, rfl, rfl, by decide +kernel, rfl, by decide +kernel, by decide +kernel⟩, by decide +kernel, by kernel_rfl, rfl, rfl, by decide +kernel⟩
theorem c_is_value : Chk T r_is_value := ⟨⟨rfl, rfl, rfl, by decide +kernel, rfl, by decide +kernel, by decide +kernel⟩, by decide +kernel, by kernel_rfl, rfl, rfl, by decide +kernel⟩
theorem c_tagged : Chk T r_tagged := ⟨⟨rfl, rfl, rfl, by decide +kernel, rfl, by decide +kernel, by decide +kernel⟩, by decide +kernel, by kernel_rfl, rfl, rfl, by decide +kernel⟩
theorem c__law_mixed : Chk T r__law_mixed := ⟨⟨rfl, rfl, rfl, by decide +kernel, rfl, by decide +kernel, by decide +kernel⟩, by decide +kernel, by kernel_rfl, rfl, rfl, by decide +kernel⟩
theorem c__law_box : Chk T r__law_box := ⟨⟨rfl, rfl, rfl, by decide +kernel, rfl, by decide +kernel, by decide +kernel⟩, by decide +kernel, by kernel_rfl, rfl, rfl, by decide +kernel⟩
theorem c__law_take : Chk T r__law_take := ⟨⟨rfl, rfl, rfl, by decide +kernel, rfl, by decide +kernel, by decide +kernel⟩, by decide +kernel, by kernel_rfl, rfl, rfl, by decide +kernel⟩
theorem c__law_plain : Chk T r__law_plain := ⟨⟨rfl, rfl, rfl, by decide +kernel, rfl, by decide +kernel, by decide +kernel⟩, by decide +kernel, by kernel_rfl, rfl, rfl, by decide +kernel⟩
theorem c__law_kind : Chk T r__law_kind := ⟨⟨rfl, rfl, rfl, by decide +kernel, rfl, by decide +kernel, by decide +kernel⟩, by decide +kernel, by kernel_rfl, rfl, rfl, by decide +kernel⟩
theorem c__law_great : Chk T r__law_great := ⟨⟨rfl, rfl, rfl, by decide +kernel, rfl, by decide +kernel, by decide +kernel⟩, by decide +kernel, by kernel_rfl, rfl, rfl, by decide +kernel⟩
theorem c__law_number : Chk T r__law_number := ⟨⟨rfl, rfl, rfl, by decide +kernel, rfl, by decide +kernel, by decide +kernel⟩, by decide +kernel, by kernel_rfl, rfl, rfl, by decide +kernel⟩
theorem c__law_part : Chk T r__law_part := ⟨⟨rfl, rfl, rfl, by decide +kernel, rfl, by decide +kernel, by decide +kernel⟩, by decide +kernel, by kernel_rfl, rfl, rfl, by decide +kernel⟩
theorem c__law_parts : Chk T r__law_parts := ⟨⟨rfl, rfl, rfl, by decide +kernel, rfl, by decide +kernel, by decide +kernel⟩, by decide +kernel, by kernel_rfl, rfl, rfl, by decide +kernel⟩
theorem c__law_value : Chk T r__law_value := ⟨⟨rfl, rfl, rfl, by decide +kernel, rfl, by decide +kernel, by decide +kernel⟩, by decide +kernel, by kernel_rfl, rfl, rfl, by decide +kernel⟩
theorem c__law_odd : Chk T r__law_odd := ⟨⟨rfl, rfl, rfl, by decide +kernel, rfl, by decide +kernel, by decide +kernel⟩, by decide +kernel, by kernel_rfl, rfl, rfl, by decide +kernel⟩
theorem c__law_spoilt : Chk T r__law_spoilt := ⟨⟨rfl, rfl, rfl, by decide +kernel, rfl, by decide +kernel, by decide +kernel⟩, by decide +kernel, by kernel_rfl, rfl, rfl, by decide +kernel⟩
theorem c__law_is_value : Chk T r__law_is_value := ⟨⟨rfl, rfl, rfl, by decide +kernel, rfl, by decide +kernel, by decide +kernel⟩, by decide +kernel, by kernel_rfl, rfl, rfl, by decide +kernel⟩
theorem c__law_alike : Chk T r__law_alike := ⟨⟨rfl, rfl, rfl, by decide +kernel, rfl, by decide +kernel, by decide +kernel⟩, by decide +kernel, by kernel_rfl, rfl, rfl, by decide +kernel⟩
theorem c__law_truly : Chk T r__law_truly := ⟨⟨rfl, rfl, rfl, by decide +kernel, rfl, by decide +kernel, by decide +kernel⟩, by decide +kernel, by kernel_rfl, rfl, rfl, by decide +kernel⟩
theorem c_law : Chk T r_law := ⟨⟨rfl, rfl, rfl, by decide +kernel, rfl, by decide +kernel, by decide +kernel⟩, by decide +kernel, by kernel_rfl, rfl, rfl, by decide +kernel⟩
theorem all_mk {l : PySem.W.OpenLaw} {w : World} {K : PySem.W.Frag} {h : Heap} {mg : Str → Option Value} {fa f1 f2 f3 f4 f5 f6 f7 f8 f9 f10 f11 f12 f13 f14 f15 f16 f17 f18 f19 f20 f21 : Addr} (X : K.In h) (G : h.Ns mainGlobals mg) (hfa : mg "law" = some (.ref fa))
    {od1 an1 od2 an2 od3 an3 od4 an4 od5 an5 od6 an6 od7 an7 od8 an8 od9 an9 od10 an10 od11 an11 od12 an12 od13 an13 od14 an14 od15 an15 od16 an16 od17 an17 od18 an18 od19 an19 od20 an20 od21 an21 : Option Addr} {sl1 sl2 sl3 sl4 sl5 sl6 sl7 sl8 sl9 sl10 sl11 sl12 sl13 sl14 sl15 sl16 sl17 sl18 sl19 sl20 sl21 : Array (Option Value)} {oc1 kV1 dc1 pm1 cd1 ct1 oc2 kV2 dc2 pm2 cd2 ct2 oc3 kV3 dc3 pm3 cd3 ct3 oc4 kV4 dc4 pm4 cd4 ct4 oc5 kV5 dc5 pm5 cd5 ct5 oc6 kV6 dc6 pm6 cd6 ct6 oc7 kV7 dc7 pm7 cd7 ct7 oc8 kV8 dc8 pm8 cd8 ct8 oc9 kV9 dc9 pm9 cd9 ct9 oc10 kV10 dc10 pm10 cd10 ct10 oc11 kV11 dc11 pm11 cd11 ct11 oc12 kV12 dc12 pm12 cd12 ct12 oc13 kV13 dc13 pm13 cd13 ct13 oc14 kV14 dc14 pm14 cd14 ct14 oc15 kV15 dc15 pm15 cd15 ct15 oc16 kV16 dc16 pm16 cd16 ct16 oc17 kV17 dc17 pm17 cd17 ct17 oc18 kV18 dc18 pm18 cd18 ct18 oc19 kV19 dc19 pm19 cd19 ct19 oc20 kV20 dc20 pm20 cd20 ct20 oc21 kV21 dc21 pm21 cd21 ct21 : Value}
    {q1 q2 : Addr} {qd1 qd2 : Option Addr} {qn1 qn2 : Nat} {qs1 qs2 : Array (Option Value)}
    {qt1_0 qt2_0 : Tok}
    (a1 : PySem.W.nsIn K mainGlobals "is_whole" = some (some (.ref f1))) (l1 : K.lookup f1 = some ⟨oc1, od1, .func (PySem.W.fnOf "is_whole" "is_whole" (defArgs (top 3)) (defBody (top 3)) (defScope (top 3)) .none kV1 dc1 pm1 an1 cd1 ct1), sl1⟩) (c1 : PySem.W.codeIn K cd1 "is_whole" = true) (k1 : PySem.W.keepIn K (.ref f1) = true)
    (a2 : PySem.W.nsIn K mainGlobals "is_truth" = some (some (.ref f2))) (l2 : K.lookup f2 = some ⟨oc2, od2, .func (PySem.W.fnOf "is_truth" "is_truth" (defArgs (top 4)) (defBody (top 4)) (defScope (top 4)) .none kV2 dc2 pm2 an2 cd2 ct2), sl2⟩) (c2 : PySem.W.codeIn K cd2 "is_truth" = true) (k2 : PySem.W.keepIn K (.ref f2) = true)
    (a3 : PySem.W.nsIn K mainGlobals "parts_of" = some (some (.ref f3))) (l3 : K.lookup f3 = some ⟨oc3, od3, .func (PySem.W.fnOf "parts_of" "parts_of" (defArgs (top 5)) (defBody (top 5)) (defScope (top 5)) .none kV3 dc3 pm3 an3 cd3 ct3), sl3⟩) (c3 : PySem.W.codeIn K cd3 "parts_of" = true) (k3 : PySem.W.keepIn K (.ref f3) = true)
    (a4 : PySem.W.nsIn K mainGlobals "is_value" = some (some (.ref f4))) (l4 : K.lookup f4 = some ⟨oc4, od4, .func (PySem.W.fnOf "is_value" "is_value" (defArgs (top 6)) (defBody (top 6)) (defScope (top 6)) .none kV4 dc4 pm4 an4 cd4 ct4), sl4⟩) (c4 : PySem.W.codeIn K cd4 "is_value" = true) (k4 : PySem.W.keepIn K (.ref f4) = true)
    (a5 : PySem.W.nsIn K mainGlobals "tagged" = some (some (.ref f5))) (l5 : K.lookup f5 = some ⟨oc5, od5, .func (PySem.W.fnOf "tagged" "tagged" (defArgs (top 7)) (defBody (top 7)) (defScope (top 7)) .none kV5 dc5 pm5 an5 cd5 ct5), sl5⟩) (c5 : PySem.W.codeIn K cd5 "tagged" = true) (k5 : PySem.W.keepIn K (.ref f5) = true)
    (a6 : PySem.W.nsIn K mainGlobals "_law_mixed" = some (some (.ref f6))) (l6 : K.lookup f6 = some ⟨oc6, od6, .func (PySem.W.fnOf "_law_mixed" "_law_mixed" (defArgs (top 9)) (defBody (top 9)) (defScope (top 9)) .none kV6 dc6 pm6 an6 cd6 ct6), sl6⟩) (c6 : PySem.W.codeIn K cd6 "_law_mixed" = true) (k6 : PySem.W.keepIn K (.ref f6) = true)
    (a7 : PySem.W.nsIn K mainGlobals "_law_box" = some (some (.ref f7))) (l7 : K.lookup f7 = some ⟨oc7, od7, .func (PySem.W.fnOf "_law_box" "_law_box" (defArgs (top 10)) (defBody (top 10)) (defScope (top 10)) .none kV7 dc7 pm7 an7 cd7 ct7), sl7⟩) (c7 : PySem.W.codeIn K cd7 "_law_box" = true) (k7 : PySem.W.keepIn K (.ref f7) = true)
    (a8 : PySem.W.nsIn K mainGlobals "_law_take" = some (some (.ref f8))) (l8 : K.lookup f8 = some ⟨oc8, od8, .func (PySem.W.fnOf "_law_take" "_law_take" (defArgs (top 11)) (defBody (top 11)) (defScope (top 11)) .none kV8 dc8 pm8 an8 cd8 ct8), sl8⟩) (c8 : PySem.W.codeIn K cd8 "_law_take" = true) (k8 : PySem.W.keepIn K (.ref f8) = true)
    (a9 : PySem.W.nsIn K mainGlobals "_law_plain" = some (some (.ref f9))) (l9 : K.lookup f9 = some ⟨oc9, od9, .func (PySem.W.fnOf "_law_plain" "_law_plain" (defArgs (top 12)) (defBody (top 12)) (defScope (top 12)) .none kV9 dc9 pm9 an9 cd9 ct9), sl9⟩) (c9 : PySem.W.codeIn K cd9 "_law_plain" = true) (k9 : PySem.W.keepIn K (.ref f9) = true)
    (a10 : PySem.W.nsIn K mainGlobals "_law_kind" = some (some (.ref f10))) (l10 : K.lookup f10 = some ⟨oc10, od10, .func (PySem.W.fnOf "_law_kind" "_law_kind" (defArgs (top 13)) (defBody (top 13)) (defScope (top 13)) .none kV10 dc10 pm10 an10 cd10 ct10), sl10⟩) (c10 : PySem.W.codeIn K cd10 "_law_kind" = true) (k10 : PySem.W.keepIn K (.ref f10) = true)
    (a11 : PySem.W.nsIn K mainGlobals "_law_great" = some (some (.ref f11))) (l11 : K.lookup f11 = some ⟨oc11, od11, .func (PySem.W.fnOf "_law_great" "_law_great" (defArgs (top 14)) (defBody (top 14)) (defScope (top 14)) .none kV11 dc11 pm11 an11 cd11 ct11), sl11⟩) (c11 : PySem.W.codeIn K cd11 "_law_great" = true) (k11 : PySem.W.keepIn K (.ref f11) = true)
    (a12 : PySem.W.nsIn K mainGlobals "_law_number" = some (some (.ref f12))) (l12 : K.lookup f12 = some ⟨oc12, od12, .func (PySem.W.fnOf "_law_number" "_law_number" (defArgs (top 15)) (defBody (top 15)) (defScope (top 15)) .none kV12 dc12 pm12 an12 cd12 ct12), sl12⟩) (c12 : PySem.W.codeIn K cd12 "_law_number" = true) (k12 : PySem.W.keepIn K (.ref f12) = true)
    (a13 : PySem.W.nsIn K mainGlobals "_law_part" = some (some (.ref f13))) (l13 : K.lookup f13 = some ⟨oc13, od13, .func (PySem.W.fnOf "_law_part" "_law_part" (defArgs (top 16)) (defBody (top 16)) (defScope (top 16)) .none kV13 dc13 pm13 an13 cd13 ct13), sl13⟩) (c13 : PySem.W.codeIn K cd13 "_law_part" = true) (k13 : PySem.W.keepIn K (.ref f13) = true)
    (a14 : PySem.W.nsIn K mainGlobals "_law_parts" = some (some (.ref f14))) (l14 : K.lookup f14 = some ⟨oc14, od14, .func (PySem.W.fnOf "_law_parts" "_law_parts" (defArgs (top 17)) (defBody (top 17)) (defScope (top 17)) .none kV14 dc14 pm14 an14 cd14 ct14), sl14⟩) (c14 : PySem.W.codeIn K cd14 "_law_parts" = true) (k14 : PySem.W.keepIn K (.ref f14) = true)
    (a15 : PySem.W.nsIn K mainGlobals "_law_value" = some (some (.ref f15))) (l15 : K.lookup f15 = some ⟨oc15, od15, .func (PySem.W.fnOf "_law_value" "_law_value" (defArgs (top 18)) (defBody (top 18)) (defScope (top 18)) .none kV15 dc15 pm15 an15 cd15 ct15), sl15⟩) (c15 : PySem.W.codeIn K cd15 "_law_value" = true) (k15 : PySem.W.keepIn K (.ref f15) = true)
    (a16 : PySem.W.nsIn K mainGlobals "_law_odd" = some (some (.ref f16))) (l16 : K.lookup f16 = some ⟨oc16, od16, .func (PySem.W.fnOf "_law_odd" "_law_odd" (defArgs (top 19)) (defBody (top 19)) (defScope (top 19)) .none kV16 dc16 pm16 an16 cd16 ct16), sl16⟩) (c16 : PySem.W.codeIn K cd16 "_law_odd" = true) (k16 : PySem.W.keepIn K (.ref f16) = true)
    (a17 : PySem.W.nsIn K mainGlobals "_law_spoilt" = some (some (.ref f17))) (l17 : K.lookup f17 = some ⟨oc17, od17, .func (PySem.W.fnOf "_law_spoilt" "_law_spoilt" (defArgs (top 20)) (defBody (top 20)) (defScope (top 20)) .none kV17 dc17 pm17 an17 cd17 ct17), sl17⟩) (c17 : PySem.W.codeIn K cd17 "_law_spoilt" = true) (k17 : PySem.W.keepIn K (.ref f17) = true)
    (a18 : PySem.W.nsIn K mainGlobals "_law_is_value" = some (some (.ref f18))) (l18 : K.lookup f18 = some ⟨oc18, od18, .func (PySem.W.fnOf "_law_is_value" "_law_is_value" (defArgs (top 21)) (defBody (top 21)) (defScope (top 21)) .none kV18 dc18 pm18 an18 cd18 ct18), sl18⟩) (c18 : PySem.W.codeIn K cd18 "_law_is_value" = true) (k18 : PySem.W.keepIn K (.ref f18) = true)
    (a19 : PySem.W.nsIn K mainGlobals "_law_alike" = some (some (.ref f19))) (l19 : K.lookup f19 = some ⟨oc19, od19, .func (PySem.W.fnOf "_law_alike" "_law_alike" (defArgs (top 22)) (defBody (top 22)) (defScope (top 22)) .none kV19 dc19 pm19 an19 cd19 ct19), sl19⟩) (c19 : PySem.W.codeIn K cd19 "_law_alike" = true) (k19 : PySem.W.keepIn K (.ref f19) = true)
    (a20 : PySem.W.nsIn K mainGlobals "_law_truly" = some (some (.ref f20))) (l20 : K.lookup f20 = some ⟨oc20, od20, .func (PySem.W.fnOf "_law_truly" "_law_truly" (defArgs (top 23)) (defBody (top 23)) (defScope (top 23)) .none kV20 dc20 pm20 an20 cd20 ct20), sl20⟩) (c20 : PySem.W.codeIn K cd20 "_law_truly" = true) (k20 : PySem.W.keepIn K (.ref f20) = true)
    (a21 : PySem.W.nsIn K mainGlobals "law" = some (some (.ref f21))) (l21 : K.lookup f21 = some ⟨oc21, od21, .func (PySem.W.fnOf "law" "law" (defArgs (top 24)) (defBody (top 24)) (defScope (top 24)) .none kV21 dc21 pm21 an21 cd21 ct21), sl21⟩) (c21 : PySem.W.codeIn K cd21 "law" = true) (k21 : PySem.W.keepIn K (.ref f21) = true)
    (n1 : PySem.W.nsIn K mainGlobals "NUM" = some (some (.ref q1))) (m1 : K.lookup q1 = some ⟨.type "tuple", qd1, .seq #[.str "num" qt1_0] qn1, qs1⟩)
    (n2 : PySem.W.nsIn K mainGlobals "TRUTH" = some (some (.ref q2))) (m2 : K.lookup q2 = some ⟨.type "tuple", qd2, .seq #[.str "truth" qt2_0] qn2, qs2⟩)
    (z1 : PySem.W.nsIn K mainGlobals "enumerate" = some none)
    (z2 : PySem.W.nsIn K mainGlobals "len" = some none)
    (z3 : PySem.W.nsIn K mainGlobals "list" = some none)
    (z4 : PySem.W.nsIn K mainGlobals "tuple" = some none)
    (z5 : PySem.W.nsIn K mainGlobals "int" = some none)
    (z6 : PySem.W.nsIn K mainGlobals "abs" = some none)
    (z7 : PySem.W.nsIn K mainGlobals "all" = some none)
    (z8 : PySem.W.nsIn K mainGlobals "max" = some none)
    (z9 : PySem.W.nsIn K mainGlobals "min" = some none)
    (z10 : PySem.W.nsIn K mainGlobals "bool" = some none)
    (z11 : PySem.W.nsIn K mainGlobals "str" = some none)
    (z12 : PySem.W.nsIn K mainGlobals "dict" = some none)
    (z13 : PySem.W.nsIn K mainGlobals "isinstance" = some none)
    (z14 : PySem.W.nsIn K mainGlobals "range" = some none)
    : ∃ fd : FuncData, (∀ (s : Shared) (v : Value), BindsTo s fd ⟨[v], []⟩ [("_law_script", v)]) ∧ ∀ base : Heap, K.In base → base.Ns mainGlobals mg → FnOk l.prog w K mg base CX0 6 fa fd ["_law_script"] (spLaw K) := by
  have e := hfa.symm.trans (PySem.W.mg_of X G a21)
  cases e
  have F1 := fun_mk (st := top 3) l1 c1 k1
  have L1 : Lnk K mg r_is_whole _ _ := ⟨F1, F1.binds (ps := ["thing"]) fun _ _ _ _ _ _ us hl => match us, hl with | [_], _ => rfl, PySem.W.mg_of X G a1⟩
  have F2 := fun_mk (st := top 4) l2 c2 k2
  have L2 : Lnk K mg r_is_truth _ _ := ⟨F2, F2.binds (ps := ["thing"]) fun _ _ _ _ _ _ us hl => match us, hl with | [_], _ => rfl, PySem.W.mg_of X G a2⟩
  have F3 := fun_mk (st := top 5) l3 c3 k3
  have L3 : Lnk K mg r_parts_of _ _ := ⟨F3, F3.binds (ps := ["kind"]) fun _ _ _ _ _ _ us hl => match us, hl with | [_], _ => rfl, PySem.W.mg_of X G a3⟩
  have F4 := fun_mk (st := top 6) l4 c4 k4
  have L4 : Lnk K mg r_is_value _ _ := ⟨F4, F4.binds (ps := ["thing", "kind"]) fun _ _ _ _ _ _ us hl => match us, hl with | [_, _], _ => rfl, PySem.W.mg_of X G a4⟩
  have F5 := fun_mk (st := top 7) l5 c5 k5
  have L5 : Lnk K mg r_tagged _ _ := ⟨F5, F5.binds (ps := ["value"]) fun _ _ _ _ _ _ us hl => match us, hl with | [_], _ => rfl, PySem.W.mg_of X G a5⟩
  have F6 := fun_mk (st := top 9) l6 c6 k6
  have L6 : Lnk K mg r__law_mixed _ _ := ⟨F6, F6.binds (ps := ["_law_cell", "_law_k"]) fun _ _ _ _ _ _ us hl => match us, hl with | [_, _], _ => rfl, PySem.W.mg_of X G a6⟩
  have F7 := fun_mk (st := top 10) l7 c7 k7
  have L7 : Lnk K mg r__law_box _ _ := ⟨F7, F7.binds (ps := ["_law_script", "_law_k"]) fun _ _ _ _ _ _ us hl => match us, hl with | [_, _], _ => rfl, PySem.W.mg_of X G a7⟩
  have F8 := fun_mk (st := top 11) l8 c8 k8
  have L8 : Lnk K mg r__law_take _ _ := ⟨F8, F8.binds (ps := ["_law_box_here", "_law_many"]) fun _ _ _ _ _ _ us hl => match us, hl with | [_, _], _ => rfl, PySem.W.mg_of X G a8⟩
  have F9 := fun_mk (st := top 12) l9 c9 k9
  have L9 : Lnk K mg r__law_plain _ _ := ⟨F9, F9.binds (ps := ["_law_box_here"]) fun _ _ _ _ _ _ us hl => match us, hl with | [_], _ => rfl, PySem.W.mg_of X G a9⟩
  have F10 := fun_mk (st := top 13) l10 c10 k10
  have L10 : Lnk K mg r__law_kind _ _ := ⟨F10, F10.binds (ps := ["_law_box_here"]) fun _ _ _ _ _ _ us hl => match us, hl with | [_], _ => rfl, PySem.W.mg_of X G a10⟩
  have F11 := fun_mk (st := top 14) l11 c11 k11
  have L11 : Lnk K mg r__law_great _ _ := ⟨F11, F11.binds (ps := ["_law_many"]) fun _ _ _ _ _ _ us hl => match us, hl with | [_], _ => rfl, PySem.W.mg_of X G a11⟩
  have F12 := fun_mk (st := top 15) l12 c12 k12
  have L12 : Lnk K mg r__law_number _ _ := ⟨F12, F12.binds (ps := ["_law_box_here"]) fun _ _ _ _ _ _ us hl => match us, hl with | [_], _ => rfl, PySem.W.mg_of X G a12⟩
  have F13 := fun_mk (st := top 16) l13 c13 k13
  have L13 : Lnk K mg r__law_part _ _ := ⟨F13, F13.binds (ps := ["_law_box_here", "_law_kind_here"]) fun _ _ _ _ _ _ us hl => match us, hl with | [_, _], _ => rfl, PySem.W.mg_of X G a13⟩
  have F14 := fun_mk (st := top 17) l14 c14 k14
  have L14 : Lnk K mg r__law_parts _ _ := ⟨F14, F14.binds (ps := ["_law_kind_here"]) fun _ _ _ _ _ _ us hl => match us, hl with | [_], _ => rfl, PySem.W.mg_of X G a14⟩
  have F15 := fun_mk (st := top 18) l15 c15 k15
  have L15 : Lnk K mg r__law_value _ _ := ⟨F15, F15.binds (ps := ["_law_box_here", "_law_kind_here"]) fun _ _ _ _ _ _ us hl => match us, hl with | [_, _], _ => rfl, PySem.W.mg_of X G a15⟩
  have F16 := fun_mk (st := top 19) l16 c16 k16
  have L16 : Lnk K mg r__law_odd _ _ := ⟨F16, F16.binds (ps := ["_law_box_here", "_law_part_here"]) fun _ _ _ _ _ _ us hl => match us, hl with | [_, _], _ => rfl, PySem.W.mg_of X G a16⟩
  have F17 := fun_mk (st := top 20) l17 c17 k17
  have L17 : Lnk K mg r__law_spoilt _ _ := ⟨F17, F17.binds (ps := ["_law_box_here", "_law_value_here"]) fun _ _ _ _ _ _ us hl => match us, hl with | [_, _], _ => rfl, PySem.W.mg_of X G a17⟩
  have F18 := fun_mk (st := top 21) l18 c18 k18
  have L18 : Lnk K mg r__law_is_value _ _ := ⟨F18, F18.binds (ps := ["_law_thing", "_law_kind_here"]) fun _ _ _ _ _ _ us hl => match us, hl with | [_, _], _ => rfl, PySem.W.mg_of X G a18⟩
  have F19 := fun_mk (st := top 22) l19 c19 k19
  have L19 : Lnk K mg r__law_alike _ _ := ⟨F19, F19.binds (ps := ["_law_found", "_law_value_here"]) fun _ _ _ _ _ _ us hl => match us, hl with | [_, _], _ => rfl, PySem.W.mg_of X G a19⟩
  have F20 := fun_mk (st := top 23) l20 c20 k20
  have L20 : Lnk K mg r__law_truly _ _ := ⟨F20, F20.binds (ps := ["_law_found", "_law_due"]) fun _ _ _ _ _ _ us hl => match us, hl with | [_, _], _ => rfl, PySem.W.mg_of X G a20⟩
  have F21 := fun_mk (st := top 24) l21 c21 k21
  have L21 : Lnk K mg r_law _ _ := ⟨F21, F21.binds (ps := ["_law_script"]) fun _ _ _ _ _ _ us hl => match us, hl with | [_], _ => rfl, PySem.W.mg_of X G a21⟩
  have hl : ∀ r ∈ recs, ∃ a fd, Lnk K mg r a fd := (List.forall_mem_cons.mpr ⟨⟨_, _, L1⟩, (List.forall_mem_cons.mpr ⟨⟨_, _, L2⟩, (List.forall_mem_cons.mpr ⟨⟨_, _, L3⟩, (List.forall_mem_cons.mpr ⟨⟨_, _, L4⟩, (List.forall_mem_cons.mpr ⟨⟨_, _, L5⟩, (List.forall_mem_cons.mpr ⟨⟨_, _, L6⟩, (List.forall_mem_cons.mpr ⟨⟨_, _, L7⟩, (List.forall_mem_cons.mpr ⟨⟨_, _, L8⟩, (List.forall_mem_cons.mpr ⟨⟨_, _, L9⟩, (List.forall_mem_cons.mpr ⟨⟨_, _, L10⟩, (List.forall_mem_cons.mpr ⟨⟨_, _, L11⟩, (List.forall_mem_cons.mpr ⟨⟨_, _, L12⟩, (List.forall_mem_cons.mpr ⟨⟨_, _, L13⟩, (List.forall_mem_cons.mpr ⟨⟨_, _, L14⟩, (List.forall_mem_cons.mpr ⟨⟨_, _, L15⟩, (List.forall_mem_cons.mpr ⟨⟨_, _, L16⟩, (List.forall_mem_cons.mpr ⟨⟨_, _, L17⟩, (List.forall_mem_cons.mpr ⟨⟨_, _, L18⟩, (List.forall_mem_cons.mpr ⟨⟨_, _, L19⟩, (List.forall_mem_cons.mpr ⟨⟨_, _, L20⟩, (List.forall_mem_cons.mpr ⟨⟨_, _, L21⟩, (fun _ h => nomatch h)⟩)⟩)⟩)⟩)⟩)⟩)⟩)⟩)⟩)⟩)⟩)⟩)⟩)⟩)⟩)⟩)⟩)⟩)⟩)⟩)⟩)
  have hc : ∀ r ∈ recs, Chk T r := (List.forall_mem_cons.mpr ⟨c_is_whole, (List.forall_mem_cons.mpr ⟨c_is_truth, (List.forall_mem_cons.mpr ⟨c_parts_of, (List.forall_mem_cons.mpr ⟨c_is_value, (List.forall_mem_cons.mpr ⟨c_tagged, (List.forall_mem_cons.mpr ⟨c__law_mixed, (List.forall_mem_cons.mpr ⟨c__law_box, (List.forall_mem_cons.mpr ⟨c__law_take, (List.forall_mem_cons.mpr ⟨c__law_plain, (List.forall_mem_cons.mpr ⟨c__law_kind, (List.forall_mem_cons.mpr ⟨c__law_great, (List.forall_mem_cons.mpr ⟨c__law_number, (List.forall_mem_cons.mpr ⟨c__law_part, (List.forall_mem_cons.mpr ⟨c__law_parts, (List.forall_mem_cons.mpr ⟨c__law_value, (List.forall_mem_cons.mpr ⟨c__law_odd, (List.forall_mem_cons.mpr ⟨c__law_spoilt, (List.forall_mem_cons.mpr ⟨c__law_is_value, (List.forall_mem_cons.mpr ⟨c__law_alike, (List.forall_mem_cons.mpr ⟨c__law_truly, (List.forall_mem_cons.mpr ⟨c_law, (fun _ h => nomatch h)⟩)⟩)⟩)⟩)⟩)⟩)⟩)⟩)⟩)⟩)⟩)⟩)⟩)⟩)⟩)⟩)⟩)⟩)⟩)⟩)⟩)
  have hb : ∀ x ∈ blts, mg x = none := (List.forall_mem_cons.mpr ⟨PySem.W.mg_none_of X G z1, (List.forall_mem_cons.mpr ⟨PySem.W.mg_none_of X G z2, (List.forall_mem_cons.mpr ⟨PySem.W.mg_none_of X G z3, (List.forall_mem_cons.mpr ⟨PySem.W.mg_none_of X G z4, (List.forall_mem_cons.mpr ⟨PySem.W.mg_none_of X G z5, (List.forall_mem_cons.mpr ⟨PySem.W.mg_none_of X G z6, (List.forall_mem_cons.mpr ⟨PySem.W.mg_none_of X G z7, (List.forall_mem_cons.mpr ⟨PySem.W.mg_none_of X G z8, (List.forall_mem_cons.mpr ⟨PySem.W.mg_none_of X G z9, (List.forall_mem_cons.mpr ⟨PySem.W.mg_none_of X G z10, (List.forall_mem_cons.mpr ⟨PySem.W.mg_none_of X G z11, (List.forall_mem_cons.mpr ⟨PySem.W.mg_none_of X G z12, (List.forall_mem_cons.mpr ⟨PySem.W.mg_none_of X G z13, (List.forall_mem_cons.mpr ⟨PySem.W.mg_none_of X G z14, (fun _ h => nomatch h)⟩)⟩)⟩)⟩)⟩)⟩)⟩)⟩)⟩)⟩)⟩)⟩)⟩)⟩)
  have hcs : ∀ x d, T.csts.lookup x = some d → (x == ("__debug__" : Str)) = false ∧ ∃ u v, mg x = some u ∧ RelV v u ∧ ∀ H ι m, VRel K H ι m d v := by
    intro x d hx
    replace hx : (x, d) ∈ csts := PySem.mem_of_lookup hx
    simp only [csts, List.mem_cons, List.not_mem_nil, or_false, Prod.mk.injEq] at hx
    rcases hx with ⟨rfl, rfl⟩ | ⟨rfl, rfl⟩
    · exact ⟨by decide +kernel, _, .ref q1, PySem.W.mg_of X G n1, rfl, fun H ι m => .tup (xs := [.str "num"]) (.inr ⟨_, _, _, m1, rfl, rfl, (by show 1 ≤ sizeLine; decide), .cons ⟨qt1_0, rfl⟩ .nil⟩) (.cons (.str _) .nil)⟩
    · exact ⟨by decide +kernel, _, .ref q2, PySem.W.mg_of X G n2, rfl, fun H ι m => .tup (xs := [.str "truth"]) (.inr ⟨_, _, _, m2, rfl, rfl, (by show 1 ≤ sizeLine; decide), .cons ⟨qt2_0, rfl⟩ .nil⟩) (.cons (.str _) .nil)⟩
  refine ⟨PySem.W.fnOf "law" "law" (defArgs (top 24)) (defBody (top 24)) (defScope (top 24)) .none kV21 dc21 pm21 an21 cd21 ct21, fun s v => .of_eq rfl, fun base _ _ => law_fn (n := 6) (all_fns (recs := recs) rfl hc hl hcs hb 6 20 r_law _ _ rfl L21) fun ns hn => ?_⟩
  obtain ⟨a, st', e, h⟩ := W.get (s_law (k := 0) (st := []) hn)
  subst h
  exact ⟨st', e⟩
end K02
end Ev

open PySem PySem.W PyProof.Rows
set_option maxRecDepth 100000 in
set_option maxHeartbeats 0 in
theorem PySem.Challenge.cw_eachstepsame_k02_values_of_kinds_holds : PySem.Challenge.rw_eachstepsame_k02_values_of_kinds.Holds := by
  w_on; o_law; k_head; (case hw => w_witness2)
  k_fill
  refine Ev.walk (l := PySem.Challenge.rw_eachstepsame_k02_values_of_kinds) (n := 6) (x := "_law_script") rfl rfl ⟨rfl, by decide, by decide⟩ (fun w h Y => PySem.W.kIn_of Y) ?F
  case F =>
    intro w mg fa h KX G hmg
    refine' Ev.K02.all_mk KX G hmg ?a1 ?l1 ?c1 ?k1 ?a2 ?l2 ?c2 ?k2 ?a3 ?l3 ?c3 ?k3 ?a4 ?l4 ?c4 ?k4 ?a5 ?l5 ?c5 ?k5 ?a6 ?l6 ?c6 ?k6 ?a7 ?l7 ?c7 ?k7 ?a8 ?l8 ?c8 ?k8 ?a9 ?l9 ?c9 ?k9 ?a10 ?l10 ?c10 ?k10 ?a11 ?l11 ?c11 ?k11 ?a12 ?l12 ?c12 ?k12 ?a13 ?l13 ?c13 ?k13 ?a14 ?l14 ?c14 ?k14 ?a15 ?l15 ?c15 ?k15 ?a16 ?l16 ?c16 ?k16 ?a17 ?l17 ?c17 ?k17 ?a18 ?l18 ?c18 ?k18 ?a19 ?l19 ?c19 ?k19 ?a20 ?l20 ?c20 ?k20 ?a21 ?l21 ?c21 ?k21 ?n1 ?m1 ?n2 ?m2 ?z1 ?z2 ?z3 ?z4 ?z5 ?z6 ?z7 ?z8 ?z9 ?z10 ?z11 ?z12 ?z13 ?z14
    (case a1 => k_is)
    (case l1 => k_is)
    (case c1 => k_is)
    (case k1 => k_is)
    (case a2 => k_is)
    (case l2 => k_is)
    (case c2 => k_is)
    (case k2 => k_is)
    (case a3 => k_is)
    (case l3 => k_is)
    (case c3 => k_is)
    (case k3 => k_is)
    (case a4 => k_is)
    (case l4 => k_is)
    (case c4 => k_is)
    (case k4 => k_is)
    (case a5 => k_is)
    (case l5 => k_is)
    (case c5 => k_is)
    (case k5 => k_is)
    (case a6 => k_is)
    (case l6 => k_is)
    (case c6 => k_is)
    (case k6 => k_is)
    (case a7 => k_is)
    (case l7 => k_is)
    (case c7 => k_is)
    (case k7 => k_is)
    (case a8 => k_is)
    (case l8 => k_is)
    (case c8 => k_is)
    (case k8 => k_is)
    (case a9 => k_is)
    (case l9 => k_is)
    (case c9 => k_is)
    (case k9 => k_is)
    (case a10 => k_is)
    (case l10 => k_is)
    (case c10 => k_is)
    (case k10 => k_is)
    (case a11 => k_is)
    (case l11 => k_is)
    (case c11 => k_is)
    (case k11 => k_is)
    (case a12 => k_is)
    (case l12 => k_is)
    (case c12 => k_is)
    (case k12 => k_is)
    (case a13 => k_is)
    (case l13 => k_is)
    (case c13 => k_is)
    (case k13 => k_is)
    (case a14 => k_is)
    (case l14 => k_is)
    (case c14 => k_is)
    (case k14 => k_is)
    (case a15 => k_is)
    (case l15 => k_is)
    (case c15 => k_is)
    (case k15 => k_is)
    (case a16 => k_is)
    (case l16 => k_is)
    (case c16 => k_is)
    (case k16 => k_is)
    (case a17 => k_is)
    (case l17 => k_is)
    (case c17 => k_is)
    (case k17 => k_is)
    (case a18 => k_is)
    (case l18 => k_is)
    (case c18 => k_is)
    (case k18 => k_is)
    (case a19 => k_is)
    (case l19 => k_is)
    (case c19 => k_is)
    (case k19 => k_is)
    (case a20 => k_is)
    (case l20 => k_is)
    (case c20 => k_is)
    (case k20 => k_is)
    (case a21 => k_is)
    (case l21 => k_is)
    (case c21 => k_is)
    (case k21 => k_is)
    (case n1 => k_is)
    (case m1 => k_is)
    (case n2 => k_is)
    (case m2 => k_is)
    (case z1 => k_is)
    (case z2 => k_is)
    (case z3 => k_is)
    (case z4 => k_is)
    (case z5 => k_is)
    (case z6 => k_is)
    (case z7 => k_is)
    (case z8 => k_is)
    (case z9 => k_is)
    (case z10 => k_is)
    (case z11 => k_is)
    (case z12 => k_is)
    (case z13 => k_is)
    (case z14 => k_is)

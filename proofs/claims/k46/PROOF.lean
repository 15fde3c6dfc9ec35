import PyProof.Rows.All
import Wide.All
import OpenK.AllK
import Wide.FinOn
import Lean
import PyProof.EqAt
import PyProof.EqKinds
import PyProof.TupleCall
import PyProof.NeKinds
import KE.LcSums
import PyProof.ZipIter
import PyProof.Rows.SumAny
import PyProof.ExcClass3
import PyProof.ExcBaseAll.ValueError
import OpenK.KOwn
import PyProof.EnumFor
import PyProof.EnumMake
import PyProof.TupleIter
import KE.KIsAll
import PyProof.ExcArgsOwn
import PySem.Challenge.RW_likefill_k46_counts_refused
set_option Elab.async false
set_option linter.all false
set_option maxRecDepth 100000
set_option maxHeartbeats 4000000
/-! THE HAND LAYER, for ints, bools, texts, own classes, LISTS and tuples (index, slices, in, append, pop ..), calls, loops. Paste it whole ahead of your own text; what your proof does not reach may be deleted. -/
namespace L2
open PySem PySem.Spec PyProof.Rows

/-- a key: an int or a str -/
abbrev Key := Sum Int Str
def keyIs : Key → Value → Bool
  | .inl k, v => Value.isInt k v
  | .inr x, v => Value.isStrOf x v
def keyH (w : World) : Key → Int
  | .inl k => hashInt k
  | .inr x => hashStr w x
theorem keyIs_shape : ∀ {k : Key} {v : Value}, keyIs k v = true → (∃ i t, k = Sum.inl i ∧ v = Value.int i t) ∨ (∃ x t, k = Sum.inr x ∧ v = Value.str x t)
  | .inl i, v, h => by
    obtain ⟨t, e⟩ := Value.isInt_shape (k := i) (v := v) h
    exact .inl ⟨i, t, rfl, e⟩
  | .inr x, v, h => by
    obtain ⟨t, e⟩ := Value.isStrOf_shape (x := x) (v := v) h
    exact .inr ⟨x, t, rfl, e⟩
theorem keyIs_int (i : Int) (t : Tok) : keyIs (.inl i) (.int i t) = true := by simp [keyIs, Value.isInt]
theorem keyIs_str (x : Str) (t : Tok) : keyIs (.inr x) (.str x t) = true := by simp [keyIs, Value.isStrOf]
theorem key_ll (a b : Int) : decide ((Sum.inl a : Key) = Sum.inl b) = (a == b) := by
  by_cases e : a = b
  · subst e; simp
  · have h : ¬ (Sum.inl a : Key) = Sum.inl b := fun q => e (Sum.inl.inj q)
    rw [decide_eq_false h]
    exact (beq_eq_false_iff_ne.mpr e).symm
theorem key_rr (a b : Str) : decide ((Sum.inr a : Key) = Sum.inr b) = decide (a = b) := by
  by_cases e : a = b
  · subst e; simp
  · have h : ¬ (Sum.inr a : Key) = Sum.inr b := fun q => e (Sum.inr.inj q)
    rw [decide_eq_false h, decide_eq_false e]
theorem key_lr (a : Int) (b : Str) : decide ((Sum.inl a : Key) = Sum.inr b) = false := decide_eq_false (fun q => nomatch q)
theorem key_rl (a : Str) (b : Int) : decide ((Sum.inr a : Key) = Sum.inl b) = false := decide_eq_false (fun q => nomatch q)

def mixKind (prog : Program) (w : World) : PySem.KeyKind prog w Key where
  is := keyIs
  hash := keyH w
  inj := fun v a b ha hb => by
    rcases keyIs_shape ha with ⟨i, t, rfl, rfl⟩ | ⟨x, t, rfl, rfl⟩
    · rcases keyIs_shape hb with ⟨j, u, rfl, e⟩ | ⟨y, u, rfl, e⟩
      · injection e with e1 _; rw [e1]
      · exact nomatch e
    · rcases keyIs_shape hb with ⟨j, u, rfl, e⟩ | ⟨y, u, rfl, e⟩
      · exact nomatch e
      · injection e with e1 _; rw [e1]
  byValue := fun k v h => by
    rcases keyIs_shape h with ⟨i, t, rfl, rfl⟩ | ⟨x, t, rfl, rfl⟩ <;> rfl
  pyHash := fun hv h => by
    rcases keyIs_shape hv with ⟨i, t, rfl, rfl⟩ | ⟨x, t, rfl, rfl⟩
    · exact wpAny_pyHash_int h
    · exact wpAny_pyHash_str h
  eqBool := fun hu hv h => by
    rcases keyIs_shape hu with ⟨i, t, rfl, rfl⟩ | ⟨x, t, rfl, rfl⟩
    · rcases keyIs_shape hv with ⟨j, u, rfl, rfl⟩ | ⟨y, u, rfl, rfl⟩
      · rw [key_ll] at h; exact wpAny_eqBool_int h
      · rw [key_lr] at h; exact SeqAt.EqAt.int_str i t y u _ _ _ _ h
    · rcases keyIs_shape hv with ⟨j, u, rfl, rfl⟩ | ⟨y, u, rfl, rfl⟩
      · rw [key_rl] at h; exact SeqAt.EqAt.str_int x t j u _ _ _ _ h
      · rw [key_rr] at h; exact wpAny_eqBool_str h
  «strs» := fun k x t v h => by
    rcases keyIs_shape h with ⟨i, u, rfl, e⟩ | ⟨y, u, rfl, e⟩
    · exact nomatch e
    · injection e with e1 _
      subst e1
      cases v <;> rfl

theorem mixKind_is (prog : Program) (w : World) (k : Key) (v : Value) : (mixKind prog w).is k v = keyIs k v := rfl
theorem mixKind_int (prog : Program) (w : World) (i : Int) (t : Tok) : (mixKind prog w).is (.inl i) (.int i t) = true := keyIs_int i t
theorem mixKind_str (prog : Program) (w : World) (x : Str) (t : Tok) : (mixKind prog w).is (.inr x) (.str x t) = true := keyIs_str x t
end L2

namespace L2
open PySem PySem.Spec PyProof.Rows

/-- a value, without the heap -/
inductive V where
  | non | bl (b : Bool) | int (i : Int) | str (x : Str) | byt (b : Array UInt8) | flt (b : UInt64) | ref (a : Addr) | ty (n : String)
  deriving DecidableEq

def RelV : V → Value → Prop
  | .non, u => u = Value.none
  | .bl b, u => u = Value.bool b
  | .int i, u => ∃ t, u = Value.int i t
  | .str x, u => ∃ t, u = Value.str x t
  | .byt b, u => ∃ t, u = Value.bytes b t
  | .flt b, u => ∃ t, u = Value.float b t
  | .ref a, u => u = Value.ref a
  | .ty n, u => u = Value.type n

abbrev Vals : List V → List Value → Prop := Paired RelV
theorem Vals.length {xs : List V} {us : List Value} (r : Vals xs us) : xs.length = us.length := Paired.length r
theorem Vals.get : ∀ {xs : List V} {us : List Value} {i : Nat} {x : V}, Vals xs us → xs[i]? = some x → ∃ u, us[i]? = some u ∧ RelV x u
  | _, _, _, _, .nil, e => by simp at e
  | _, _, 0, _, .cons r _, e => by simp at e; subst e; exact ⟨_, rfl, r⟩
  | _, _, i + 1, x, .cons _ t, e => by
    obtain ⟨u, h1, h2⟩ := Vals.get (i := i) (x := x) t (by simpa using e)
    exact ⟨u, by simpa using h1, h2⟩
theorem Vals.set {x : V} {u : Value} (r : RelV x u) : ∀ {xs : List V} {us : List Value} (i : Nat), Vals xs us → Vals (xs.set i x) (us.set i u)
  | _, _, _, .nil => .nil
  | _, _, 0, .cons _ t => .cons r t
  | _, _, i + 1, .cons q t => .cons q (Vals.set r i t)
theorem Vals.append : ∀ {xs ys : List V} {us ws : List Value}, Vals xs us → Vals ys ws → Vals (xs ++ ys) (us ++ ws)
  | _, _, _, _, .nil, s => s
  | _, _, _, _, .cons r t, s => .cons r (Vals.append t s)
theorem Vals.take : ∀ {xs : List V} {us : List Value} (n : Nat), Vals xs us → Vals (xs.take n) (us.take n)
  | _, _, 0, _ => .nil
  | _, _, _ + 1, .nil => .nil
  | _, _, n + 1, .cons r t => .cons r (Vals.take n t)
theorem Vals.drop : ∀ {xs : List V} {us : List Value} (n : Nat), Vals xs us → Vals (xs.drop n) (us.drop n)
  | _, _, 0, r => r
  | _, _, _ + 1, .nil => .nil
  | _, _, n + 1, .cons _ t => Vals.drop n t
theorem Vals.none_of : ∀ {xs : List V} {us : List Value} {i : Nat}, Vals xs us → xs[i]? = none → us[i]? = none := fun {xs us i} r e => by
  have h1 := r.length
  have h2 : xs.length ≤ i := List.getElem?_eq_none_iff.mp e
  exact List.getElem?_eq_none_iff.mpr (by omega)

def RelO : Option V → Option Value → Prop
  | some v, some u => RelV v u
  | none, none => True
  | _, _ => False
def KV {κ : Type} : List (κ × V) → List (κ × Value) → Prop := Paired fun (p : κ × V) (q : κ × Value) => p.1 = q.1 ∧ RelV p.2 q.2

/-- a key of a dict (00_mix): an int or a text -/
def kV : Key → V
  | .inl i => .int i
  | .inr x => .str x

/-- what stands at a tracked address -/
inductive HO where
  /-- a list -/
  | lst (xs : List V)
  /-- a tuple (never changes) -/
  | tup (xs : List V)
  /-- a dict whose keys are ints and texts; one whose keys are tuples of ints and texts (the empty one is both) -/
  | dK (kvs : List (Key × V)) | dT (kvs : List (List Key × V))
  /-- a set of ints: its members, its size -/
  | set (S : Int → Bool) (n : Nat)
  /-- an instance of the class at C, its dict at dx, its attributes -/
  | ins (C dx : Addr) (fs : List (Str × V))
  /-- the dict of the instance at x -/
  | own (x : Addr)
  /-- the dict of an exception -/
  | xd (fs : List (Str × V))
  /-- a bound method, f of x -/
  | met (f x : Addr)
  /-- a range object lo, lo + 1, .. below hi -/
  | rng (lo hi : Int)
  /-- a thing that is known to the object (the script; a dict while a loop walks it): read, never written while it is so -/
  | frz (o : Obj) (u : HO)
  /-- a code object's table -/
  | tbl (ps : Array Value)
  /-- any other thing, by what is true of its one object (a def of one's own: SetO a S n := HO.ext fun h => ..) -/
  | ext (φ : Heap → Prop)

abbrev Hp := Addr → Option HO
def upd (H : Hp) (a : Addr) (o : HO) : Hp := fun b => if b = a then some o else H b
theorem upd_same {H : Hp} {a : Addr} {o : HO} : upd H a o a = some o := by unfold upd; rw [if_pos rfl]
theorem upd_ne {H : Hp} {a b : Addr} {o : HO} (h : b ≠ a) : upd H a o b = H b := by unfold upd; rw [if_neg h]
theorem upd_upd {H : Hp} {a : Addr} {o u : HO} : upd (upd H a o) a u = upd H a u := by
  funext b; unfold upd; split <;> rfl
/-- two objects of different content stand apart -/
theorem ne_of {H : Hp} {a b : Addr} {o u : HO} (h : H a = some o) (h' : H b = some u) (d : o ≠ u) : a ≠ b := by
  intro e; subst e; rw [h] at h'; exact d (Option.some.inj h')
theorem ne_of_none {H : Hp} {a b : Addr} {o : HO} (h : H a = some o) (h' : H b = none) : a ≠ b := by
  intro e; subst e; rw [h] at h'; cases h'

section
variable (P : Program) (w : World)
def ObjOk (H : Hp) (h : Heap) (a : Addr) : HO → Prop
  | .lst xs => xs.length ≤ sizeLine ∧ ∃ (its : List Value) (n : Nat), Vals xs its ∧ h.get? a = some { cls := .type "list", data := .seq its.toArray n }
  | .tup xs => xs.length ≤ sizeLine ∧ ∃ its : List Value, Vals xs its ∧ IsTup h a its.toArray
  | .dK kvs => kvs.length ≤ sizeLine ∧ (a == sysModules) = false ∧ ∃ vs, KV kvs vs ∧ h.DictOf (mixKind P w) a vs
  | .dT kvs => kvs.length ≤ sizeLine ∧ (a == sysModules) = false ∧ ∃ xs : List (List Key × Addr × Value),
      Paired (fun (p : List Key × V) (q : List Key × Addr × Value) => p.1 = q.1 ∧ H q.2.1 = some (.tup (p.1.map kV)) ∧ RelV p.2 q.2.2) kvs xs ∧
      ∃ o es ep, h.get? a = some o ∧ o.ExactDict ∧ o.data = .dict es ep ∧ es.toList = xs.map (entryOfKey (tupleKind (mixKind P w))) ∧ (xs.map (·.1)).Nodup
  | .set S n => h.SetOf (intKind P w) a S n
  | .ins C dx fs => H dx = some (.own a) ∧ fs.length ≤ 1000 ∧ dx ≠ a ∧ h.get? a = some (PySem.W.instObj C dx) ∧
      ∃ mA, h.Ns1 dx mA ∧ (∀ f, RelO (fs.lookup f) (mA f)) ∧ PySem.Within mA (fs.map (·.1))
  | .own _ => ∃ o, h.get? a = some o
  | .xd fs => ∃ mA, h.Ns1 a mA ∧ ∀ f, RelO (fs.lookup f) (mA f)
  | .rng lo hi => ∃ t u v, h.get? a = some { cls := .type "range", data := .fields #[.int lo t, .int hi u, .int 1 v] }
  | .frz o u => h.get? a = some o ∧ ObjOk H h a u
  | .tbl ps => h.get? a = some { cls := .none, data := .fields ps }
  | .met f x => h.get? a = some (PySem.W.methodObj (.ref f) (.ref x))
  | .ext φ => φ h ∧ (∃ o, h.get? a = some o) ∧ ∀ h1 h2 : Heap, φ h1 → (∀ o, h1.get? a = some o → h2.get? a = some o) → φ h2
/-- the abstract heap is held -/
def HOk (H : Hp) (h : Heap) : Prop := ∀ a o, H a = some o → ObjOk P w H h a o
end

section
variable {P : Program} {w : World} {H H' : Hp} {h h' : Heap} {a : Addr} {o : HO}
theorem ObjOk.lt (x : ObjOk P w H h a o) : a < h.objs.size := by
  cases o with
  | lst xs => obtain ⟨_, _, _, _, e⟩ := x; exact Heap.lt_size e
  | tup xs => obtain ⟨_, _, _, p⟩ := x; exact p.lt
  | dK kvs => obtain ⟨_, _, _, _, o, _, _, e, _⟩ := x; exact Heap.lt_size e
  | dT kvs => obtain ⟨_, _, _, _, o, _, _, e, _⟩ := x; exact Heap.lt_size e
  | set S n => obtain ⟨o, _, _, _, e, _⟩ := x; exact Heap.lt_size e
  | ins C dx fs => obtain ⟨_, _, _, e, _⟩ := x; exact Heap.lt_size e
  | own y => obtain ⟨_, e⟩ := x; exact Heap.lt_size e
  | xd fs => obtain ⟨_, ⟨_, _, _, e, _⟩, _⟩ := x; exact Heap.lt_size e
  | rng lo hi => obtain ⟨_, _, _, e⟩ := x; exact Heap.lt_size e
  | frz ob u => obtain ⟨e, _⟩ := x; exact Heap.lt_size e
  | tbl ps => exact Heap.lt_size (show h.get? a = some _ from x)
  | met f y => exact Heap.lt_size (show h.get? a = some _ from x)
  | ext φ => obtain ⟨_, ⟨_, e⟩, _⟩ := x; exact Heap.lt_size e
theorem Paired.mapP {α β : Type} {F G : α → β → Prop} : ∀ {l₁ : List α} {l₂ : List β}, Paired F l₁ l₂ → (∀ a b, F a b → G a b) → Paired G l₁ l₂
  | _, _, .nil, _ => .nil
  | _, _, .cons r t, f => .cons (f _ _ r) (Paired.mapP t f)
theorem Paired.imp' {α β : Type} {F G : α → β → Prop} (f : ∀ a b, F a b → G a b) {l₁ : List α} {l₂ : List β} (r : Paired F l₁ l₂) : Paired G l₁ l₂ := Paired.mapP r f
/-- what an object's description leans on: its own object, its own dict, the tuples -/
theorem ObjOk.stay (x : ObjOk P w H h a o) (k : ∀ b u, (b = a ∨ H b = some (.own a)) → h.get? b = some u → h'.get? b = some u)
    (ho : ∀ b, H b = some (.own a) → H' b = some (.own a)) (ht : ∀ b xs, H b = some (.tup xs) → H' b = some (.tup xs)) : ObjOk P w H' h' a o := by
  induction o with
  | lst xs => obtain ⟨z, its, n, r, e⟩ := x; exact ⟨z, its, n, r, k _ _ (.inl rfl) e⟩
  | tup xs => obtain ⟨z, its, r, ob, e, c⟩ := x; exact ⟨z, its, r, ob, k _ _ (.inl rfl) e, c⟩
  | dK kvs => obtain ⟨z, y, vs, r, ob, es, ep, e, c⟩ := x; exact ⟨z, y, vs, r, ob, es, ep, k _ _ (.inl rfl) e, c⟩
  | dT kvs =>
    obtain ⟨z, y, xs, r, ob, es, ep, e, c⟩ := x
    exact ⟨z, y, xs, Paired.mapP r fun p q z => ⟨z.1, ht _ _ z.2.1, z.2.2⟩, ob, es, ep, k _ _ (.inl rfl) e, c⟩
  | set S n => obtain ⟨ob, es, ep, t, e, c⟩ := x; exact ⟨ob, es, ep, t, k _ _ (.inl rfl) e, c⟩
  | ins C dx fs =>
    obtain ⟨d, z, ne, e, mA, ⟨od, es, ep, e2, c⟩, r⟩ := x
    exact ⟨ho _ d, z, ne, k _ _ (.inl rfl) e, mA, ⟨od, es, ep, k _ _ (.inr d) e2, c⟩, r⟩
  | own y => obtain ⟨ob, e⟩ := x; exact ⟨ob, k _ _ (.inl rfl) e⟩
  | xd fs => obtain ⟨mA, ⟨od, es, ep, e, c⟩, r⟩ := x; exact ⟨mA, ⟨od, es, ep, k _ _ (.inl rfl) e, c⟩, r⟩
  | rng lo hi => obtain ⟨t, u, v, e⟩ := x; exact ⟨t, u, v, k _ _ (.inl rfl) e⟩
  | frz ob u ih => obtain ⟨e, q⟩ := x; exact ⟨k _ _ (.inl rfl) e, ih q⟩
  | tbl ps =>
    have e : h.get? a = some { cls := .none, data := .fields ps } := x
    show h'.get? a = some { cls := .none, data := .fields ps }
    exact k a _ (.inl rfl) e
  | met f y =>
    have e : h.get? a = some (PySem.W.methodObj (.ref f) (.ref y)) := x
    show h'.get? a = some (PySem.W.methodObj (.ref f) (.ref y))
    exact k a _ (.inl rfl) e
  | ext φ => obtain ⟨p, ⟨o, e⟩, st⟩ := x; exact ⟨st _ _ p fun o q => k _ _ (.inl rfl) q, ⟨o, k _ _ (.inl rfl) e⟩, st⟩
theorem HOk.lt (x : HOk P w H h) (e : H a = some o) : a < h.objs.size := (x a o e).lt
theorem HOk.fresh (x : HOk P w H h) (e : h.objs.size ≤ a) : H a = none := by
  cases q : H a with
  | none => rfl
  | some u => exact absurd (Nat.lt_of_lt_of_le (x.lt q) e) (Nat.lt_irrefl _)
/-- every object of the heap is kept -/
theorem HOk.kept (x : HOk P w H h) (k : ∀ b u, h.get? b = some u → h'.get? b = some u) : HOk P w H h' := fun a o e =>
  (x a o e).stay (fun b u _ q => k b u q) (fun _ q => q) fun _ _ q => q
/-- a new object is laid and tracked -/
theorem HOk.laid (x : HOk P w H h) (k : ∀ b u, h.get? b = some u → h'.get? b = some u) (hp : h.objs.size ≤ a) (new : ObjOk P w (upd H a o) h' a o) : HOk P w (upd H a o) h' := fun b u e => by
  have hn := x.fresh hp
  by_cases hb : b = a
  · subst hb; rw [upd_same] at e; cases e; exact new
  · rw [upd_ne hb] at e
    exact (x b u e).stay (fun c v _ q => k c v q) (fun c q => by rw [upd_ne (ne_of_none q hn)]; exact q) fun c xs q => by rw [upd_ne (ne_of_none q hn)]; exact q
end

/-- what may be read as u: it is u, or a known u -/
def Rd (H : Hp) (a : Addr) (u : HO) : Prop := H a = some u ∨ ∃ o, H a = some (.frz o u)
theorem Rd.of {H : Hp} {a : Addr} {u : HO} (h : H a = some u) : Rd H a u := .inl h
theorem Rd.ok {P : Program} {w : World} {H : Hp} {h : Heap} {a : Addr} {u : HO} (r : Rd H a u) (x : HOk P w H h) : ObjOk P w H h a u := by
  rcases r with r | ⟨o, r⟩
  · exact x a u r
  · obtain ⟨_, q⟩ := x a _ r
    exact q
/-- what may be written -/
def Mut : Option HO → Prop
  | some (.lst _) => True
  | some (.dK _) => True
  | some (.dT _) => True
  | some (.set _ _) => True
  | some (.ins _ _ _) => True
  | some (.ext _) => True
  | _ => False
section
variable {P : Program} {w : World} {H : Hp} {h h' : Heap} {x e : Addr} {o' : HO}
/-- the object at e is changed: x itself, or the dict of the instance x -/
theorem HOk.write (ok : HOk P w H h) (mu : Mut (H x)) (he : e = x ∨ H e = some (.own x)) (k : ∀ b u, b ≠ e → h.get? b = some u → h'.get? b = some u) (heo : ∃ u, h'.get? e = some u)
    (new : ObjOk P w (upd H x o') h' x o') : HOk P w (upd H x o') h' := fun b u q => by
  have nown : ∀ c y, H c = some (.own y) → c ≠ x := fun c y r z => by subst z; rw [r] at mu; exact mu
  have ntup : ∀ c xs, H c = some (.tup xs) → c ≠ x := fun c xs r z => by subst z; rw [r] at mu; exact mu
  by_cases hb : b = x
  · subst hb; rw [upd_same] at q; cases q; exact new
  · rw [upd_ne hb] at q
    by_cases hbe : b = e
    · have q' : H b = some (.own x) := by
        rcases he with z | z
        · exact absurd (hbe.trans z) hb
        · rw [hbe]; exact z
      rw [q] at q'; cases q'
      obtain ⟨v, hv⟩ := heo
      exact ⟨v, by rw [hbe]; exact hv⟩
    · refine (ok b u q).stay (fun c v hc r => k c v ?_ r) (fun c r => by rw [upd_ne (nown c b r)]; exact r) fun c xs r => by rw [upd_ne (ntup c xs r)]; exact r
      rcases hc with rfl | hc
      · exact hbe
      · rintro rfl
        rcases he with z | z
        · exact nown c b hc z
        · rw [hc] at z; cases z; exact hb rfl
end

/-! ### kept unless tracked; of the frames at fs (the callers') the slots may change (an exception that passes writes there); of the records at ex (iterators) nothing is said -/
structure Un (fs ex : List Addr) (H H' : Hp) (h h' : Heap) : Prop where
  keep : ∀ b o, h.get? b = some o → H b = none → b ∉ fs → b ∉ ex → h'.get? b = some o
  slot : ∀ b o, h.get? b = some o → H b = none → b ∈ fs → b ∉ ex → ∃ sl, h'.get? b = some { o with slots := sl }
  free : ∀ b o, h.get? b = some o → H b = none → b ∉ ex → H' b = none
  there : ∀ b o, h.get? b = some o → b ∉ ex → ∃ o', h'.get? b = some o'
  tups : ∀ b xs, H b = some (.tup xs) → H' b = some (.tup xs)
  frzs : ∀ b o u, H b = some (.frz o u) → H' b = some (.frz o u)
  tbls : ∀ b ps, H b = some (.tbl ps) → ∃ more, H' b = some (.tbl (ps ++ more))
section
variable {fs fs' ex ex' : List Addr} {H H1 H2 : Hp} {h h1 h2 h' : Heap} {a x e : Addr} {o : HO}
theorem Un.any (u : Un fs ex H H1 h h1) {b : Addr} {ob : Obj} (q : h.get? b = some ob) (n : H b = none) (hx : b ∉ ex) : ∃ sl, h1.get? b = some { ob with slots := sl } := by
  by_cases hb : b ∈ fs
  · exact u.slot b ob q n hb hx
  · exact ⟨ob.slots, u.keep b ob q n hb hx⟩
theorem Un.trans (a : Un fs ex H H1 h h1) (b : Un fs ex H1 H2 h1 h2) : Un fs ex H H2 h h2 where
  keep := fun c ob q n hc hx => b.keep c ob (a.keep c ob q n hc hx) (a.free c ob q n hx) hc hx
  slot := fun c ob q n hc hx => by
    obtain ⟨sl, e1⟩ := a.slot c ob q n hc hx
    obtain ⟨sl', e2⟩ := b.slot c _ e1 (a.free c ob q n hx) hc hx
    exact ⟨sl', e2⟩
  free := fun c ob q n hx => by
    obtain ⟨o', e1⟩ := a.there c ob q hx
    exact b.free c o' e1 (a.free c ob q n hx) hx
  there := fun c ob q hx => by
    obtain ⟨o', e1⟩ := a.there c ob q hx
    exact b.there c o' e1 hx
  tups := fun c xs q => b.tups c xs (a.tups c xs q)
  frzs := fun c ob xs q => b.frzs c ob xs (a.frzs c ob xs q)
  tbls := fun c ps q => by
    obtain ⟨m1, e1⟩ := a.tbls c ps q
    obtain ⟨m2, e2⟩ := b.tbls c _ e1
    exact ⟨m1 ++ m2, by rw [e2, Array.append_assoc]⟩
theorem Un.kept (k : ∀ b u, h.get? b = some u → h'.get? b = some u) : Un fs ex H H h h' :=
  ⟨fun b ob q _ _ _ => k b ob q, fun b ob q _ _ _ => ⟨ob.slots, k b ob q⟩, fun _ _ _ n _ => n, fun b ob q _ => ⟨ob, k b ob q⟩, fun _ _ q => q, fun _ _ _ q => q, fun _ ps q => ⟨#[], by rw [q]; simp⟩⟩
theorem Un.refl : Un fs ex H H h h := Un.kept fun _ _ q => q
theorem Un.laid (k : ∀ b u, h.get? b = some u → h'.get? b = some u) (hp : h.objs.size ≤ a) (hn : H a = none) : Un fs ex H (upd H a o) h h' where
  keep := fun b u q _ _ _ => k b u q
  slot := fun b u q _ _ _ => ⟨u.slots, k b u q⟩
  free := fun b u q n _ => by rw [upd_ne (Nat.ne_of_lt (Nat.lt_of_lt_of_le (Heap.lt_size q) hp))]; exact n
  there := fun b u q _ => ⟨u, k b u q⟩
  tups := fun b xs q => by rw [upd_ne (ne_of_none q hn)]; exact q
  frzs := fun b u xs q => by rw [upd_ne (ne_of_none q hn)]; exact q
  tbls := fun b ps q => ⟨#[], by rw [upd_ne (ne_of_none q hn), q]; simp⟩
theorem Un.write (mu : Mut (H x)) (he : e = x ∨ H e = some (.own x)) (k : ∀ b u, b ≠ e → h.get? b = some u → h'.get? b = some u) (heo : ∃ u, h'.get? e = some u) : Un fs ex H (upd H x o) h h' := by
  have hx : ∀ b, H b = none → b ≠ x := fun b n z => by subst z; rw [n] at mu; exact mu
  have hb : ∀ b, H b = none → b ≠ e := fun b n z => by
    subst z
    rcases he with r | r
    · exact hx b n r
    · rw [n] at r; cases r
  have hm : ∀ b u, H b = some u → ¬ Mut (some u) → b ≠ x := fun b u q nm z => by subst z; rw [q] at mu; exact nm mu
  refine ⟨fun b u q n _ _ => k b u (hb b n) q, fun b u q n _ _ => ⟨u.slots, k b u (hb b n) q⟩, fun b u q n _ => by rw [upd_ne (hx b n)]; exact n, fun b u q _ => ?_,
    fun b xs q => by rw [upd_ne (hm b _ q fun z => z)]; exact q, fun b u xs q => by rw [upd_ne (hm b _ q fun z => z)]; exact q, fun b ps q => ⟨#[], by rw [upd_ne (hm b _ q fun z => z), q]; simp⟩⟩
  by_cases hbe : b = e
  · subst hbe; exact heo
  · exact ⟨u, k b u hbe q⟩
theorem Un.mono (u : Un fs ex H H1 h h1) (hs : ∀ b ∈ fs, b ∈ fs') (hx : ∀ b ∈ ex, b ∈ ex') : Un fs' ex' H H1 h h1 :=
  ⟨fun b ob q n hb he => u.keep b ob q n (fun z => hb (hs b z)) fun z => he (hx b z), fun _ _ q n _ he => u.any q n fun z => he (hx _ z), fun b ob q n he => u.free b ob q n fun z => he (hx b z), fun b ob q he => u.there b ob q fun z => he (hx b z), u.tups, u.frzs, u.tbls⟩
end

/-! ### the heap without what is tracked -/
def trk (h : Heap) (H : Hp) : List Addr := (List.range h.objs.size).filter fun a => (H a).isSome
def hidT (h : Heap) (H : Hp) : Heap := PySem.W.hideAll h (trk h H)
theorem hidT_size (h : Heap) (H : Hp) : (hidT h H).objs.size = h.objs.size := PySem.W.hideAll_size _ _
theorem hidT_get {h : Heap} {H : Hp} {b : Addr} {o : Obj} (e : h.get? b = some o) (n : H b = none) : (hidT h H).get? b = some o :=
  PySem.W.hideAll_get _ e fun hm => by
    have q : (H b).isSome = true := (List.mem_filter.mp hm).2
    rw [n] at q; simp at q
theorem of_hidT {h : Heap} {H : Hp} {b : Addr} {o : Obj} (e : (hidT h H).get? b = some o) : h.get? b = some o ∧ H b = none := by
  have e' : h.get? b = some o := PySem.W.of_hideAll (trk h H) e
  refine ⟨e', ?_⟩
  cases q : H b with
  | none => rfl
  | some x =>
    have hm : b ∈ trk h H := List.mem_filter.mpr ⟨List.mem_range.mpr (Heap.lt_size e'), by simp [q]⟩
    have z : (hidT h H).get? b = none := PySem.W.hideAll_none (trk h H) hm
    rw [z] at e; cases e

/-! ### OpenK's ledger, filled with every new object but one -/
def allNews (g h : Heap) (L : Addr) : List (Addr × Obj) := (List.range h.objs.size).filterMap fun a => if a = L ∨ (g.get? a).isSome = true then none else (h.get? a).map fun o => (a, o)
theorem mem_allNews {g h : Heap} {L a : Addr} {o : Obj} (h1 : a ≠ L) (h2 : g.get? a = none) (h3 : h.get? a = some o) : (a, o) ∈ allNews g h L :=
  List.mem_filterMap.mpr ⟨a, List.mem_range.mpr (Heap.lt_size h3), by simp [h1, h2, h3]⟩
theorem of_mem_allNews {g h : Heap} {L : Addr} {p : Addr × Obj} (hp : p ∈ allNews g h L) : p.1 ≠ L ∧ g.get? p.1 = none ∧ h.get? p.1 = some p.2 := by
  obtain ⟨b, _, e⟩ := List.mem_filterMap.mp hp
  split at e
  · cases e
  · rename_i hn
    cases q : h.get? b with
    | none => rw [q] at e; simp at e
    | some u =>
      rw [q] at e
      simp only [Option.map_some, Option.some.injEq] at e
      subst e
      refine ⟨fun z => hn (.inl z), ?_, q⟩
      show g.get? b = none
      cases r : g.get? b with
      | none => rfl
      | some v => exact (hn (.inr (by simp [r]))).elim
def rest (g h : Heap) (L d : Addr) : List (Addr × Obj) := (allNews g h L).filter fun p => decide (p.1 ≠ d)
theorem rest_ne {g h : Heap} {L d : Addr} : ∀ p ∈ rest g h L d, p.1 ≠ d := fun p hp => of_decide_eq_true (List.mem_filter.mp hp).2
theorem mem_rest {g h : Heap} {L d a : Addr} {o : Obj} (h1 : a ≠ L) (h2 : g.get? a = none) (h3 : h.get? a = some o) (h4 : a ≠ d) : (a, o) ∈ rest g h L d :=
  List.mem_filter.mpr ⟨mem_allNews h1 h2 h3, decide_eq_true h4⟩
theorem news_all {g h : Heap} {L : Addr} : News g L h (allNews g h L) := fun p hp => let ⟨a, b, c⟩ := of_mem_allNews hp; ⟨c, a, b⟩
theorem news_at {g h : Heap} {L d : Addr} {o : Obj} (h1 : d ≠ L) (h2 : g.get? d = none) (h3 : h.get? d = some o) : News g L h ((d, o) :: rest g h L d) := fun p hp => by
  rcases List.mem_cons.mp hp with rfl | hp
  · exact ⟨h3, h1, h2⟩
  · exact news_all p (List.mem_filter.mp hp).1
/-- behind a rule that changed d alone: all else but the frame is kept -/
theorem kept_of_news {g h h' : Heap} {L d : Addr} {m : Str → Option Value} (k : ∀ b o, g.get? b = some o → h.get? b = some o) (F : Fr g L h' m) (N : News g L h' (rest g h L d)) :
    ∀ b o, b ≠ L → b ≠ d → h.get? b = some o → h'.get? b = some o := fun b o h1 h2 e => by
  cases q : g.get? b with
  | some u =>
    have := k b u q
    rw [e] at this; cases this
    exact F.keep b _ q
  | none => exact (N (b, o) (mem_rest h1 q e h2)).1
end L2

namespace L2
open PySem PySem.Spec PyProof.Rows

/-- the module's facts, over the base: the heap at the law's entry without what is tracked there -/
structure Mod (K : PySem.W.Frag) (mg : Str → Option Value) (base : Heap) : Prop where
  kin : K.In base
  glob : base.Ns mainGlobals mg
  blt : ∃ mb, base.Ns builtinsNs mb ∧ ∀ x : Str, x ≠ "__name__" → mb x = bootBuiltins x
  nolimit : base.NoLimit

/-- the context: a def's body (or a comprehension's block) running. base: fixed through the whole law; s₀, H₀: the entry; outer: the frames whose slots others may change (a def's callers); stack: all frames that run;
   ex: iterators that were made ahead of the entry and are walked here (a comprehension's); fn: the names whose cells were made at the entry (a def: all; a comprehension's block: its own); calm: not within an except suite; pn: pins that every state bears; xe: what is wanted of an exception that leaves the code -/
structure Cx where
  prog : Program
  w : World
  K : PySem.W.Frag
  mg : Str → Option Value
  base : Heap
  A : Around
  N : List Str
  s₀ : Shared
  H₀ : Hp
  env : Env
  outer : List Env
  stack : List Env
  ex : List Addr
  fn : Str → Bool
  calm : Bool
  pn : List (Addr × Obj)
  xe : Value → Shared → Prop
/-- the callers' frames -/
def frs (l : List Env) : List Addr := l.filterMap (·.frame)
abbrev Cx.fs (X : Cx) : List Addr := frs X.outer

def Vis (sc : Scope) (x : Str) : Prop := sc.names.lookup x = some .local ∨ sc.names.lookup x = some .cell ∨ sc.names.lookup x = some .free
def Loc (sc : Scope) (x : Str) : Prop := sc.names.lookup x = some .local ∨ sc.names.lookup x = some .cell
def Look (env : Env) (h : Heap) (m : Str → Option Value) (x : Str) (u : Value) : Prop :=
  (env.kindOf x = some .local ∧ m x = some u) ∨ ((env.kindOf x = some .cell ∨ env.kindOf x = some .free) ∧ ∃ c, env.cells.lookup x = some c ∧ h.IsCell c (some u))

structure Cx.Ok (X : Cx) : Prop where
  mod : Mod X.K X.mg X.base
  kind : X.env.scope.kind = .function
  glob : X.env.globals = mainGlobals
  blt : X.env.builtins = builtinsNs
  above : X.s₀.heap.objs.size ≤ X.env.locals
  inj : ∀ x y c, X.env.cells.lookup x = some c → X.env.cells.lookup y = some c → x = y
  has : ∀ x, (X.env.kindOf x = some .cell ∨ X.env.kindOf x = some .free) → ∃ c, X.env.cells.lookup x = some c
  cab : ∀ x c, X.fn x = true → X.env.cells.lookup x = some c → X.s₀.heap.objs.size ≤ c
  hd : X.calm = true → X.A.handled = none
  frames : X.A.frames = some X.stack
  stk : X.stack = X.outer ∨ (X.stack = X.env :: X.outer ∧ X.env.frame = some X.env.locals)
  exf : ∀ b ∈ X.ex, b ≠ X.env.locals ∧ ∀ x c, X.env.cells.lookup x = some c → c ≠ b
  bs : ∀ b o, X.base.get? b = some o → X.s₀.heap.get? b = some o ∧ X.H₀ b = none
  bsz : X.base.objs.size ≤ X.s₀.heap.objs.size
  noex : ∀ b o, X.base.get? b = some o → b ∉ X.ex
  exfs : ∀ b ∈ X.ex, b ∉ X.fs
  funs : X.s₀.heap.FunFrames X.base X.outer
  frf : ∀ b ∈ X.fs, X.H₀ b = none

structure Inv (X : Cx) (pins : List (Addr × Obj)) (σ : List (Option V)) (H : Hp) (s : Shared) : Prop where
  ok : X.Ok
  os : s.os = X.s₀.os
  bare : AllBare s.gens
  base : Un X.fs X.ex X.H₀ H X.s₀.heap s.heap
  loc : ∃ m, s.heap.Ns X.env.locals m ∧ ∀ (i : Nat) (x : Str) (v : V), X.N[i]? = some x → σ[i]? = some (some v) → Vis X.env.scope x → ∃ u, RelV v u ∧ Look X.env s.heap m x u
  cell : ∀ x c, X.env.cells.lookup x = some c → ∃ v, s.heap.IsCell c v
  free : H X.env.locals = none
  freeC : ∀ x c, X.env.cells.lookup x = some c → H c = none
  pin : ∀ p ∈ X.pn ++ pins, s.heap.get? p.1 = some p.2 ∧ H p.1 = none ∧ p.1 ≠ X.env.locals ∧ p.1 ∉ X.fs ∧ ∀ v, p.2.data ≠ .cell v
  hok : HOk X.prog X.w H s.heap
  len : σ.length = X.N.length

section
variable {X : Cx} {pins : List (Addr × Obj)} {σ : List (Option V)} {H H' : Hp} {s : Shared} {h' : Heap}

theorem Cx.Ok.nofr (ok : X.Ok) {b : Addr} {o : Obj} (e : X.base.get? b = some o) : b ∉ X.fs := fun hb => by
  have := (ok.funs.mem hb).1
  rw [e] at this; cases this
theorem Inv.bs (I : Inv X pins σ H s) : ∀ b o, X.base.get? b = some o → s.heap.get? b = some o ∧ H b = none := fun b o e =>
  ⟨I.base.keep b o (I.ok.bs b o e).1 (I.ok.bs b o e).2 (I.ok.nofr e) (I.ok.noex b o e), I.base.free b o (I.ok.bs b o e).1 (I.ok.bs b o e).2 (I.ok.noex b o e)⟩
theorem Inv.bk (I : Inv X pins σ H s) : ∀ b o, X.base.get? b = some o → s.heap.get? b = some o := fun b o e => (I.bs b o e).1
theorem Inv.mod (I : Inv X pins σ H s) : Mod X.K X.mg X.base := I.ok.mod
theorem Inv.kIn (I : Inv X pins σ H s) : X.K.In s.heap := I.ok.mod.kin.keeps I.bk
theorem Inv.nolimit (I : Inv X pins σ H s) : s.heap.NoLimit := I.ok.mod.nolimit.keeps I.bk
/-- the frame over the base: for OpenK's rules (K.In X.base is I.mod.kin) -/
theorem Inv.fr (I : Inv X pins σ H s) : ∃ m, Fr X.base X.env.locals s.heap m :=
  let ⟨m, hn, _⟩ := I.loc
  ⟨m, hn, I.bk, Nat.le_trans I.ok.bsz I.ok.above⟩
theorem Inv.lt (I : Inv X pins σ H s) : X.env.locals < s.heap.objs.size := let ⟨_, hn, _⟩ := I.loc; hn.lt
theorem Inv.sz (I : Inv X pins σ H s) : X.s₀.heap.objs.size ≤ s.heap.objs.size := Nat.le_trans I.ok.above (Nat.le_of_lt I.lt)
theorem Inv.nofs (I : Inv X pins σ H s) {a : Addr} (h : s.heap.objs.size ≤ a) : a ∉ X.fs := fun hb => by
  obtain ⟨_, o, ho, _⟩ := I.ok.funs.mem hb
  exact absurd (Nat.lt_of_lt_of_le (Heap.lt_size ho) (Nat.le_trans I.sz h)) (Nat.lt_irrefl _)
theorem Inv.cne (I : Inv X pins σ H s) : ∀ x c, X.env.cells.lookup x = some c → c ≠ X.env.locals := fun x c e z => by
  obtain ⟨v, o, ho, hd⟩ := I.cell x c e
  obtain ⟨m, ⟨o', es, ep, ho', hd', _⟩, _⟩ := I.loc
  rw [z, ho'] at ho; cases ho; rw [hd'] at hd; cases hd
theorem Inv.funs (I : Inv X pins σ H s) : s.heap.FunFrames X.base X.outer := by
  have all : ∀ (l : List Env), (∀ b ∈ frs l, b ∈ X.fs) → X.s₀.heap.FunFrames X.base l → s.heap.FunFrames X.base l := by
    intro l
    induction l with
    | nil => intro _ _; trivial
    | cons env r ih =>
      intro hs hl
      obtain ⟨hk, ⟨L, o, hf, hn, ho, hd⟩, hr⟩ := hl
      have hL : L ∈ X.fs := hs L (by unfold frs; rw [List.filterMap_cons, hf]; exact List.mem_cons_self)
      obtain ⟨sl, e⟩ := I.base.slot L o ho (I.ok.frf L hL) hL fun z => I.ok.exfs L z hL
      exact ⟨hk, ⟨L, _, hf, hn, e, hd⟩, ih (fun b hb => hs b (by unfold frs; rw [List.filterMap_cons, hf]; exact List.mem_cons_of_mem _ hb)) hr⟩
  exact all X.outer (fun _ hb => hb) I.ok.funs

/-- the frames that run, for a call -/
theorem Inv.stack (I : Inv X pins σ H s) : s.heap.FunFrames X.base X.stack := by
  rcases I.ok.stk with e | ⟨e, hf⟩
  · rw [e]; exact I.funs
  · rw [e]
    obtain ⟨m, hn, _⟩ := I.loc
    refine .cons (by rw [I.ok.kind]; decide) hf hn ?_ I.funs
    exact Heap.get?_none_of_le (Nat.le_trans I.ok.bsz I.ok.above)
theorem Inv.stkSub (I : Inv X pins σ H s) : ∀ b ∈ frs X.stack, b ∈ X.env.locals :: X.fs := fun b hb => by
  rcases I.ok.stk with e | ⟨e, hf⟩
  · rw [e] at hb; exact List.mem_cons_of_mem _ hb
  · rw [e] at hb
    unfold frs at hb
    rw [List.filterMap_cons, hf] at hb
    exact hb
theorem Inv.stkFree (I : Inv X pins σ H s) : ∀ b ∈ frs X.stack, H b = none := fun b hb => by
  rcases List.mem_cons.mp (I.stkSub b hb) with e | hb
  · rw [e]; exact I.free
  · obtain ⟨_, o, ho, _⟩ := I.ok.funs.mem hb
    exact I.base.free b o ho (I.ok.frf b hb) fun z => I.ok.exfs b z hb

/-- THE STEP: the untracked objects but the frame and the records at ch are kept (the callers' frames up to slots), the frame's map is kept, the new abstract heap is held -/
theorem Inv.step {g' : Array GenState} {t' : Nat} {d' : Drawn} {ch : List Addr} (I : Inv X pins σ H s)
    (hch : ∀ b ∈ ch, (b ∈ X.ex ∨ X.s₀.heap.objs.size ≤ b) ∧ b ≠ X.env.locals ∧ (∀ x c, X.env.cells.lookup x = some c → c ≠ b) ∧ ∀ p ∈ X.pn ++ pins, p.1 ≠ b)
    (keep : ∀ b o, b ≠ X.env.locals → b ∉ X.fs → b ∉ ch → s.heap.get? b = some o → H b = none → h'.get? b = some o)
    (slot : ∀ b o, b ≠ X.env.locals → b ∈ X.fs → b ∉ ch → s.heap.get? b = some o → H b = none → ∃ sl, h'.get? b = some { o with slots := sl }) (free : ∀ b o, b ∉ ch → s.heap.get? b = some o → H b = none → H' b = none)
    (there : ∀ b o, b ∉ ch → s.heap.get? b = some o → ∃ o', h'.get? b = some o')
    (tups : ∀ b xs, H b = some (.tup xs) → H' b = some (.tup xs)) (frzs : ∀ b o u, H b = some (.frz o u) → H' b = some (.frz o u)) (tbls : ∀ b ps, H b = some (.tbl ps) → ∃ more, H' b = some (.tbl (ps ++ more)))
    (ns : ∀ m, s.heap.Ns X.env.locals m → h'.Ns X.env.locals m) (hok : HOk X.prog X.w H' h') (hg : AllBare g') :
    Inv X pins σ H' { s with heap := h', gens := g', drawn := d', toks := t' } := by
  have neL : ∀ b o, X.s₀.heap.get? b = some o → b ≠ X.env.locals := fun b o e => Nat.ne_of_lt (Nat.lt_of_lt_of_le (Heap.lt_size e) I.ok.above)
  have neC : ∀ b o, X.s₀.heap.get? b = some o → b ∉ X.ex → b ∉ ch := fun b o e hx hb => by
    rcases (hch b hb).1 with z | z
    · exact hx z
    · exact absurd (Nat.lt_of_lt_of_le (Heap.lt_size e) z) (Nat.lt_irrefl _)
  have cellK : ∀ x c, X.env.cells.lookup x = some c → ∀ v, s.heap.IsCell c v → h'.IsCell c v := fun x c e v ⟨o, ho, hd⟩ => by
    have nch : c ∉ ch := fun z => (hch c z).2.2.1 x c e rfl
    by_cases hc : c ∈ X.fs
    · obtain ⟨sl, q⟩ := slot c o (I.cne x c e) hc nch ho (I.freeC x c e)
      exact ⟨_, q, hd⟩
    · exact ⟨o, keep c o (I.cne x c e) hc nch ho (I.freeC x c e), hd⟩
  refine ⟨I.ok, I.os, hg, ⟨fun b o e n hb hx => ?_, fun b o e n hb hx => ?_, fun b o e n hx => ?_, fun b o e hx => ?_, fun b xs e => tups b xs (I.base.tups b xs e), fun b o xs e => frzs b o xs (I.base.frzs b o xs e), fun b ps e => ?_⟩, ?_, fun x c e => ?_, ?_, fun x c e => ?_, fun p hp => ?_, hok, I.len⟩
  · exact keep b o (neL b o e) hb (neC b o e hx) (I.base.keep b o e n hb hx) (I.base.free b o e n hx)
  · obtain ⟨sl, e1⟩ := I.base.slot b o e n hb hx
    obtain ⟨sl', e2⟩ := slot b _ (neL b o e) hb (neC b o e hx) e1 (I.base.free b o e n hx)
    exact ⟨sl', e2⟩
  · obtain ⟨o', e1⟩ := I.base.there b o e hx
    exact free b o' (neC b o e hx) e1 (I.base.free b o e n hx)
  · obtain ⟨o', e1⟩ := I.base.there b o e hx
    exact there b o' (neC b o e hx) e1
  · obtain ⟨m1, e1⟩ := I.base.tbls b ps e
    obtain ⟨m2, e2⟩ := tbls b _ e1
    exact ⟨m1 ++ m2, by rw [e2, Array.append_assoc]⟩
  · obtain ⟨m, hn, hl⟩ := I.loc
    refine ⟨m, ns m hn, fun i x v e1 e2 e3 => ?_⟩
    obtain ⟨u, r, l⟩ := hl i x v e1 e2 e3
    refine ⟨u, r, ?_⟩
    rcases l with l | ⟨k, c, e, z⟩
    · exact .inl l
    · exact .inr ⟨k, c, e, cellK x c e _ z⟩
  · obtain ⟨v, z⟩ := I.cell x c e
    exact ⟨v, cellK x c e v z⟩
  · obtain ⟨m, ⟨o, _, _, ho, _⟩, _⟩ := I.loc
    exact free _ o (fun z => (hch _ z).2.1 rfl) ho I.free
  · obtain ⟨v, o, ho, hd⟩ := I.cell x c e
    exact free c o (fun z => (hch c z).2.2.1 x c e rfl) ho (I.freeC x c e)
  · obtain ⟨e, n, ne, nf, d⟩ := I.pin p hp
    have nch : p.1 ∉ ch := fun z => (hch p.1 z).2.2.2 p hp rfl
    exact ⟨keep p.1 p.2 ne nf nch e n, free p.1 p.2 nch e n, ne, nf, d⟩
/-- .. where the frame's own object is kept too -/
theorem Inv.un {t' : Nat} (I : Inv X pins σ H s) (u : Un X.fs [] H H' s.heap h') (hok : HOk X.prog X.w H' h') : Inv X pins σ H' { s with heap := h', toks := t' } := by
  obtain ⟨m, ⟨o, es, ep, ho, r⟩, _⟩ := id I.loc
  obtain ⟨sl, hL⟩ := u.any ho I.free (by simp)
  exact I.step (g' := s.gens) (d' := s.drawn) (ch := []) (fun _ z => nomatch z) (fun b o _ hb _ e n => u.keep b o e n hb (by simp)) (fun b o _ hb _ e n => u.slot b o e n hb (by simp)) (fun b o _ e n => u.free b o e n (by simp)) (fun b o _ e => u.there b o e (by simp)) u.tups u.frzs u.tbls (fun m' hm => by
    obtain ⟨o', es', ep', ho', r'⟩ := hm
    rw [ho] at ho'; cases ho'
    exact ⟨_, es', ep', hL, r'⟩) hok I.bare
/-- behind a call (or a comprehension's block): the slots of this frame may have changed too, the records at ch may have turned -/
theorem Inv.call {g' : Array GenState} {t' : Nat} {d' : Drawn} {ch : List Addr} (I : Inv X pins σ H s) (u : Un (frs X.stack) ch H H' s.heap h') (hok : HOk X.prog X.w H' h') (hg : AllBare g')
    (hch : ∀ b ∈ ch, (b ∈ X.ex ∨ X.s₀.heap.objs.size ≤ b) ∧ b ≠ X.env.locals ∧ (∀ x c, X.env.cells.lookup x = some c → c ≠ b) ∧ ∀ p ∈ X.pn ++ pins, p.1 ≠ b) :
    Inv X pins σ H' { s with heap := h', gens := g', drawn := d', toks := t' } := by
  obtain ⟨m, ⟨o, es, ep, ho, r⟩, _⟩ := id I.loc
  obtain ⟨sl, hL⟩ := u.any ho I.free fun z => (hch _ z).2.1 rfl
  exact I.step (ch := ch) hch (fun b o hL hb hc e n => u.keep b o e n (fun z => (List.mem_cons.mp (I.stkSub b z)).elim hL hb) hc) (fun b o _ _ hc e n => u.any e n hc) (fun b o hc e n => u.free b o e n hc) (fun b o hc e => u.there b o e hc) u.tups u.frzs u.tbls (fun m' hm => by
    obtain ⟨o', es', ep', ho', r'⟩ := hm
    rw [ho] at ho'; cases ho'
    exact ⟨_, es', ep', hL, r'⟩) hok hg
/-- an untracked record of ours (an iterator) has turned -/
theorem Inv.turned {t' : Nat} {it : Addr} (I : Inv X pins σ H s) (k : ∀ b o, b ≠ it → s.heap.get? b = some o → h'.get? b = some o) (hn : H it = none) (hL : it ≠ X.env.locals)
    (h1 : it ∈ X.ex ∨ X.s₀.heap.objs.size ≤ it) (h2 : ∀ x c, X.env.cells.lookup x = some c → c ≠ it) (h3 : ∀ p ∈ X.pn ++ pins, p.1 ≠ it) : Inv X pins σ H { s with heap := h', toks := t' } := by
  have nit : ∀ b u, H b = some u → b ≠ it := fun b u e z => by rw [z, hn] at e; cases e
  refine I.step (g' := s.gens) (d' := s.drawn) (ch := [it]) (fun b hb => ?_) (fun b o _ _ hc e _ => k b o (fun z => hc (by simp [z])) e) (fun b o _ _ hc e _ => ⟨o.slots, k b o (fun z => hc (by simp [z])) e⟩) (fun _ _ _ _ n => n)
    (fun b o hc e => ⟨o, k b o (fun z => hc (by simp [z])) e⟩) (fun _ _ e => e) (fun _ _ _ e => e) (fun b ps e => ⟨#[], by rw [e]; simp⟩) (fun m hm => ?_) (fun b u e => ?_) I.bare
  · have e : b = it := by simpa using hb
    subst e
    exact ⟨h1, hL, h2, h3⟩
  · obtain ⟨o, es, ep, ho, r⟩ := hm
    exact ⟨o, es, ep, k _ o (Ne.symm hL) ho, r⟩
  · refine (I.hok b u e).stay (fun c v hc q => k c v ?_ q) (fun _ q => q) fun _ _ q => q
    rcases hc with z | z
    · rw [z]; exact nit b u e
    · exact nit c _ z
theorem Inv.tok (I : Inv X pins σ H s) (t : Nat) : Inv X pins σ H { s with toks := t } := I.un (h' := s.heap) (t' := t) Un.refl I.hok
/-- all objects kept -/
theorem Inv.kept {t' : Nat} (I : Inv X pins σ H s) (k : ∀ b u, s.heap.get? b = some u → h'.get? b = some u) : Inv X pins σ H { s with heap := h', toks := t' } := I.un (Un.kept k) (I.hok.kept k)
/-- a new object laid and tracked -/
theorem Inv.laid {a : Addr} {o : HO} {t' : Nat} (I : Inv X pins σ H s) (k : ∀ b u, s.heap.get? b = some u → h'.get? b = some u) (hp : s.heap.objs.size ≤ a) (new : ObjOk X.prog X.w (upd H a o) h' a o) :
    Inv X pins σ (upd H a o) { s with heap := h', toks := t' } := I.un (Un.laid k hp (I.hok.fresh hp)) (I.hok.laid k hp new)
/-- an object written -/
theorem Inv.write {x e : Addr} {o : HO} {t' : Nat} (I : Inv X pins σ H s) (mu : Mut (H x)) (he : e = x ∨ H e = some (.own x)) (k : ∀ b u, b ≠ e → s.heap.get? b = some u → h'.get? b = some u) (heo : ∃ u, h'.get? e = some u)
    (new : ObjOk X.prog X.w (upd H x o) h' x o) : Inv X pins σ (upd H x o) { s with heap := h', toks := t' } := I.un (Un.write mu he k heo) (I.hok.write mu he k heo new)
/-- forgetting slots, pins -/
theorem Inv.weak {σ' : List (Option V)} (I : Inv X pins σ H s) (hl : σ'.length = σ.length) (w : ∀ (i : Nat) v, σ'[i]? = some (some v) → σ[i]? = some (some v)) : Inv X pins σ' H s :=
  ⟨I.ok, I.os, I.bare, I.base, let ⟨m, hn, hl'⟩ := I.loc; ⟨m, hn, fun i x v e1 e2 e3 => hl' i x v e1 (w i v e2) e3⟩, I.cell, I.free, I.freeC, I.pin, I.hok, hl.trans I.len⟩
theorem Inv.pins_of {pins' : List (Addr × Obj)} (I : Inv X pins σ H s) (h : ∀ p ∈ pins', s.heap.get? p.1 = some p.2 ∧ H p.1 = none ∧ p.1 ≠ X.env.locals ∧ p.1 ∉ X.fs ∧ ∀ v, p.2.data ≠ .cell v) : Inv X pins' σ H s :=
  ⟨I.ok, I.os, I.bare, I.base, I.loc, I.cell, I.free, I.freeC, fun p hp => (List.mem_append.mp hp).elim (fun z => I.pin p (List.mem_append_left _ z)) (h p), I.hok, I.len⟩

theorem nodup_ix {N : List Str} (hN : N.Nodup) {i j : Nat} {x : Str} (a : N[i]? = some x) (b : N[j]? = some x) : i = j := by
  obtain ⟨h1, e1⟩ := List.getElem?_eq_some_iff.mp a
  obtain ⟨h2, e2⟩ := List.getElem?_eq_some_iff.mp b
  exact (List.getElem_inj hN).mp (e1.trans e2.symm)

/-- a name is stored; what changed -/
theorem store_ok2 {M : Model} {A : Around} {E : Value → Shared → Prop} {i : Nat} {x : Str} {v : V} {u : Value} {Q : Unit → Shared → Prop} (I : Inv X pins σ H s) (hN : X.N.Nodup) (hi : X.N[i]? = some x) (hx : Loc X.env.scope x) (r : RelV v u)
    (h : ∀ s', Inv X pins (σ.set i (some v)) H s' → (∃ a, Heap.SameBut a s.heap s'.heap ∧ (a = X.env.locals ∨ X.env.cells.lookup x = some a)) → Q () s') (hf : X.fn x = true ∨ X.env.scope.names.lookup x = some .local := by first | exact .inl rfl | exact .inr rfl | assumption) : wpAny M A (storeName X.env x u) Q E s := by
  obtain ⟨m, hn, hl⟩ := id I.loc
  have hcls : (X.env.scope.kind == .class || (X.env.scope.kind == .module && X.env.locals != X.env.globals)) = false := by rw [I.ok.kind]; rfl
  have hiσ : i < σ.length := by rw [I.len]; exact (List.getElem?_eq_some_iff.mp hi).1
  have cne := I.cne
  have tracked : ∀ {a : Addr} {h' : Heap}, (∃ o, s.heap.get? a = some o ∧ H a = none) → Heap.SameBut a s.heap h' → HOk X.prog X.w H h' := fun {a h'} ha hs b ob e => by
    obtain ⟨_, _, hfree⟩ := ha
    refine (I.hok b ob e).stay (fun c w' hc q => (hs.2 c ?_).trans q) (fun _ q => q) fun _ _ q => q
    rintro rfl
    rcases hc with rfl | hc
    · rw [hfree] at e; cases e
    · rw [hfree] at hc; cases hc
  rcases hx with hk | hk
  · refine wpAny_storeName_local hk hn (fun h' hn' hs => ?_) hcls
    obtain ⟨oL, _, _, hoL, _⟩ := id hn
    refine h _ ⟨I.ok, I.os, I.bare, ⟨fun b o e n hb hx => ?_, fun b o e n hb hx => ?_, I.base.free, fun b o e hx => ?_, I.base.tups, I.base.frzs, I.base.tbls⟩, ⟨_, hn', fun j y v' e1 e2 e3 => ?_⟩, fun y c e => ?_, I.free, I.freeC, fun p hp => ?_, tracked ⟨oL, hoL, I.free⟩ hs, by simpa using I.len⟩ ⟨_, hs, .inl rfl⟩
    · exact (hs.2 b (Nat.ne_of_lt (Nat.lt_of_lt_of_le (Heap.lt_size e) I.ok.above))).trans (I.base.keep b o e n hb hx)
    · obtain ⟨sl, e1⟩ := I.base.slot b o e n hb hx
      exact ⟨sl, (hs.2 b (Nat.ne_of_lt (Nat.lt_of_lt_of_le (Heap.lt_size e) I.ok.above))).trans e1⟩
    · obtain ⟨o', e1⟩ := I.base.there b o e hx
      exact ⟨o', (hs.2 b (Nat.ne_of_lt (Nat.lt_of_lt_of_le (Heap.lt_size e) I.ok.above))).trans e1⟩
    · by_cases hj : j = i
      · subst hj
        rw [hi] at e1; cases e1
        rw [List.getElem?_set_self hiσ] at e2
        cases e2
        exact ⟨u, r, .inl ⟨hk, by simp⟩⟩
      · rw [List.getElem?_set_ne (Ne.symm hj)] at e2
        obtain ⟨u', r', q⟩ := hl j y v' e1 e2 e3
        refine ⟨u', r', ?_⟩
        rcases q with ⟨k, e⟩ | ⟨k, c, e, z⟩
        · refine .inl ⟨k, ?_⟩
          have : y ≠ x := fun e => hj (nodup_ix hN e1 (e ▸ hi))
          simp [this, e]
        · exact .inr ⟨k, c, e, z.sameBut hs (cne y c e)⟩
    · obtain ⟨w', z⟩ := I.cell y c e
      exact ⟨w', z.sameBut hs (cne y c e)⟩
    · obtain ⟨e, n, ne, nf, d⟩ := I.pin p hp
      exact ⟨(hs.2 p.1 ne).trans e, n, ne, nf, d⟩
  · have hfn : X.fn x = true := by
      rcases hf with z | z
      · exact z
      · rw [z] at hk; cases hk
    obtain ⟨c, hc⟩ := I.ok.has x (.inl hk)
    obtain ⟨w', z⟩ := I.cell x c hc
    refine wpAny_storeName_cell I.ok.kind hk hc z (fun h' hc' hs => ?_)
    obtain ⟨oc, hoc, hocd⟩ := id z
    refine h { s with heap := h' } ⟨I.ok, I.os, I.bare, ⟨fun b o e n hb hx => ?_, fun b o e n hb hx => ?_, I.base.free, fun b o e hx => ?_, I.base.tups, I.base.frzs, I.base.tbls⟩, ⟨m, hn.sameBut hs (Ne.symm (cne x c hc)), fun j y v' e1 e2 e3 => ?_⟩, fun y c' e => ?_, I.free, I.freeC, fun p hp => ?_, tracked ⟨oc, hoc, I.freeC x c hc⟩ hs, by simpa using I.len⟩ ⟨c, hs, .inr hc⟩
    · exact (hs.2 b (Nat.ne_of_lt (Nat.lt_of_lt_of_le (Heap.lt_size e) (I.ok.cab x c hfn hc)))).trans (I.base.keep b o e n hb hx)
    · obtain ⟨sl, e1⟩ := I.base.slot b o e n hb hx
      exact ⟨sl, (hs.2 b (Nat.ne_of_lt (Nat.lt_of_lt_of_le (Heap.lt_size e) (I.ok.cab x c hfn hc)))).trans e1⟩
    · obtain ⟨o', e1⟩ := I.base.there b o e hx
      exact ⟨o', (hs.2 b (Nat.ne_of_lt (Nat.lt_of_lt_of_le (Heap.lt_size e) (I.ok.cab x c hfn hc)))).trans e1⟩
    · by_cases hj : j = i
      · subst hj
        rw [hi] at e1; cases e1
        rw [List.getElem?_set_self hiσ] at e2
        cases e2
        exact ⟨u, r, .inr ⟨.inl hk, c, hc, hc'⟩⟩
      · rw [List.getElem?_set_ne (Ne.symm hj)] at e2
        obtain ⟨u', r', q⟩ := hl j y v' e1 e2 e3
        refine ⟨u', r', ?_⟩
        rcases q with q | ⟨k, c', e, z'⟩
        · exact .inl q
        · refine .inr ⟨k, c', e, z'.sameBut hs ?_⟩
          rintro rfl
          exact hj (nodup_ix hN e1 (I.ok.inj _ _ _ e hc ▸ hi))
    · by_cases hcc : c' = c
      · subst hcc; exact ⟨_, hc'⟩
      · obtain ⟨w2, z2⟩ := I.cell y c' e
        exact ⟨w2, z2.sameBut hs hcc⟩
    · obtain ⟨e, n, ne, nf, d⟩ := I.pin p hp
      refine ⟨(hs.2 p.1 ?_).trans e, n, ne, nf, d⟩
      intro q
      rw [q, hoc] at e
      have q' : oc = p.2 := Option.some.inj e
      exact d w' (by rw [← q']; exact hocd)
theorem store_ok {M : Model} {A : Around} {E : Value → Shared → Prop} {i : Nat} {x : Str} {v : V} {u : Value} {Q : Unit → Shared → Prop} (I : Inv X pins σ H s) (hN : X.N.Nodup) (hi : X.N[i]? = some x) (hx : Loc X.env.scope x) (r : RelV v u)
    (h : ∀ s', Inv X pins (σ.set i (some v)) H s' → Q () s') (hf : X.fn x = true ∨ X.env.scope.names.lookup x = some .local := by first | exact .inl rfl | exact .inr rfl | assumption) : wpAny M A (storeName X.env x u) Q E s :=
  store_ok2 I hN hi hx r (fun s' I' _ => h s' I') hf
/-- behind a call or a block, the state as it is -/
theorem Inv.call' {s' : Shared} {ch : List Addr} (I : Inv X pins σ H s) (ho : s'.os = s.os) (u : Un (frs X.stack) ch H H' s.heap s'.heap) (hok : HOk X.prog X.w H' s'.heap) (hg : AllBare s'.gens)
    (hch : ∀ b ∈ ch, (b ∈ X.ex ∨ X.s₀.heap.objs.size ≤ b) ∧ b ≠ X.env.locals ∧ (∀ x c, X.env.cells.lookup x = some c → c ≠ b) ∧ ∀ p ∈ X.pn ++ pins, p.1 ≠ b) : Inv X pins σ H' s' := by
  obtain ⟨h', g', d', t', o'⟩ := s'
  have e : o' = s.os := ho
  subst e
  exact I.call (g' := g') (t' := t') (d' := d') u hok hg hch
end

/-! ### the judgements -/
/-- an exception: its class, its own dict's address (where it has one), the abstract heap behind it -/
abbrev XK := Value → Option Addr → Hp → Prop
abbrev St := List (Option V)
abbrev VK := V → Hp → Prop
/-- an expression's reading; a test's; an argument list's -/
abbrev TE := St → Hp → VK → Prop
abbrev TT := St → Hp → (Bool → Hp → Prop) → Prop
abbrev TA := St → Hp → (List V → Hp → Prop) → Prop
/-- what is wanted behind a statement -/
structure Ends where
  nx : St → Hp → Prop
  rt : VK
  bk : St → Hp → Prop := fun _ _ => False
  ct : St → Hp → Prop := fun _ _ => False
abbrev TS := Ends → St → Hp → Prop

def EP (X : Cx) (pins : List (Addr × Obj)) (σ : St) (Q : VK) (u : Value) (s' : Shared) : Prop := ∃ v H', Inv X pins σ H' s' ∧ RelV v u ∧ Q v H'
def TP (X : Cx) (pins : List (Addr × Obj)) (σ : St) (Q : Bool → Hp → Prop) (b : Bool) (s' : Shared) : Prop := ∃ H', Inv X pins σ H' s' ∧ Q b H'
def AP (X : Cx) (pins : List (Addr × Obj)) (σ : St) (Q : List V → Hp → Prop) (us : List Value) (s' : Shared) : Prop := ∃ vs H', Inv X pins σ H' s' ∧ Vals vs us ∧ Q vs H'
def SP (X : Cx) (pins : List (Addr × Obj)) (D : Ends) (f : Flow) (s' : Shared) : Prop :=
  match f with
  | .next => ∃ σ' H', Inv X pins σ' H' s' ∧ D.nx σ' H'
  | .brk => ∃ σ' H', Inv X pins σ' H' s' ∧ D.bk σ' H'
  | .cont => ∃ σ' H', Inv X pins σ' H' s' ∧ D.ct σ' H'
  | .ret u => ∃ v σ' H', Inv X pins σ' H' s' ∧ RelV v u ∧ D.rt v H'

def PE (X : Cx) (e : Expr) (t : TE) : Prop :=
  ∀ (pins : List (Addr × Obj)) (s : Shared) (σ : St) (H : Hp) (Q : VK), Inv X pins σ H s → t σ H Q → wpAny (model X.prog X.w) X.A (eval e X.env) (EP X pins σ Q) X.xe s
def PT (X : Cx) (e : Expr) (t : TT) : Prop :=
  ∀ (pins : List (Addr × Obj)) (s : Shared) (σ : St) (H : Hp) (Q : Bool → Hp → Prop), Inv X pins σ H s → t σ H Q → wpAny (model X.prog X.w) X.A (isTrue e X.env (eval e X.env)) (TP X pins σ Q) X.xe s
/-- a test whatever its 'whole' is (and, or) -/
def PW (X : Cx) (e : Expr) (t : TT) : Prop :=
  ∀ (whole : Sem Value) (pins : List (Addr × Obj)) (s : Shared) (σ : St) (H : Hp) (Q : Bool → Hp → Prop), Inv X pins σ H s → t σ H Q → wpAny (model X.prog X.w) X.A (isTrue e X.env whole) (TP X pins σ Q) X.xe s
theorem PW.pt {X : Cx} {e : Expr} {t : TT} (h : PW X e t) : PT X e t := h _
/-- an argument list (no star), from the left -/
def PA (X : Cx) (es : List Expr) (t : TA) : Prop :=
  ∀ (pos : Pos) (pins : List (Addr × Obj)) (s : Shared) (σ : St) (H : Hp) (Q : List V → Hp → Prop), Inv X pins σ H s → t σ H Q → wpAny (model X.prog X.w) X.A (spliced (backTo pos (starEach es X.env))) (AP X pins σ Q) X.xe s
def PS (X : Cx) (st : Stmt) (t : TS) : Prop :=
  ∀ (pins : List (Addr × Obj)) (s : Shared) (σ : St) (H : Hp) (D : Ends), Inv X pins σ H s → t D σ H → wpAny (model X.prog X.w) X.A (exec st X.env) (SP X pins D) X.xe s
def PSs (X : Cx) (st : List Stmt) (t : TS) : Prop :=
  ∀ (pins : List (Addr × Obj)) (s : Shared) (σ : St) (H : Hp) (D : Ends), Inv X pins σ H s → t D σ H → wpAny (model X.prog X.w) X.A (execs st X.env) (SP X pins D) X.xe s
/-- weaken the end -/
theorem thn {α : Type} {t : Sem α} {Q Q' : α → Shared → Prop} {M : Model} {A : Around} {E : Value → Shared → Prop} {s : Shared} (h : wpAny M A t Q E s) (hQ : ∀ a s, Q a s → Q' a s) : wpAny M A t Q' E s := wpAny_mono h hQ fun _ _ x => x
end L2

namespace L2
open PySem PySem.Spec PyProof.Rows
section
variable {X : Cx}

/-- two expressions in a row -/
theorem bin {a b : Expr} {ta tb : TE} (ha : PE X a ta) (hb : PE X b tb) {pins : List (Addr × Obj)} {s : Shared} {σ : St} {H : Hp} {R : V → V → Hp → Prop} (I : Inv X pins σ H s) (h : ta σ H fun x H1 => tb σ H1 fun y H2 => R x y H2)
    {α : Type} {Q : α → Shared → Prop} {f : Value → Value → Sem α}
    (hf : ∀ v u s2 x y H2, Inv X pins σ H2 s2 → RelV x v → RelV y u → R x y H2 → wpAny (model X.prog X.w) X.A (f v u) Q X.xe s2) :
    wpAny (model X.prog X.w) X.A (eval a X.env) (fun v s₁ => wpAny (model X.prog X.w) X.A (eval b X.env) (fun u s₂ => wpAny (model X.prog X.w) X.A (f v u) Q X.xe s₂) X.xe s₁) X.xe s := by
  refine thn (ha pins s σ H _ I h) fun v s1 ⟨x, H1, I1, r1, q1⟩ => ?_
  refine thn (hb pins s1 σ H1 _ I1 q1) fun u s2 ⟨y, H2, I2, r2, q2⟩ => ?_
  exact hf v u s2 x y H2 I2 r1 r2 q2

/-! ### names and constants -/
def tVar (i : Nat) : TE := fun σ H Q => ∃ v, σ[i]? = some (some v) ∧ Q v H
def tC (v : V) : TE := fun _ H Q => Q v H
theorem pe_var {i : Nat} {x : Str} {pos : Pos} (hN : X.N[i]? = some x) (hv : Vis X.env.scope x) (hd : (x == ("__debug__" : Str)) = false := by decide) (hcd : (x == ("__classdict__" : Str)) = false := by decide) : PE X (.Name x pos) (tVar i) := by
  intro pins s σ H Q I h
  obtain ⟨v, e, h⟩ := h
  obtain ⟨m, hn, hl⟩ := I.loc
  obtain ⟨u, r, l⟩ := hl i x v hN e hv
  have fin : EP X pins σ Q u s := ⟨v, H, I, r, h⟩
  rcases l with ⟨hk, hm⟩ | ⟨hk, c, hc, hcell⟩
  · exact wpAny_Name (wpAny_loadName_local I.ok.kind hk hn hm fin) hd
  · rcases hk with hk | hk
    · exact wpAny_Name (wpAny_loadName_cell I.ok.kind hk hc hcell fin) hd
    · exact wpAny_Name (wpAny_loadName_free I.ok.kind hk hc hcell fin hcd) hd
theorem pe_int {i j pos} : PE X (.Constant (.int i) j pos) (tC (.int i)) := fun _ _ _ H _ I h => wpAny_Constant_int ⟨.int i, H, I.tok _, ⟨_, rfl⟩, h⟩
theorem pe_bl {b j pos} : PE X (.Constant (.bool b) j pos) (tC (.bl b)) := fun _ _ _ H _ I h => Constant_bool ⟨.bl b, H, I, rfl, h⟩
theorem pe_non {j pos} : PE X (.Constant .none j pos) (tC .non) := fun _ _ _ H _ I h => Constant_none ⟨.non, H, I, rfl, h⟩
theorem pe_str {x j pos} : PE X (.Constant (.str x) j pos) (tC (.str x)) := fun _ _ _ H _ I h => Calls.Constant_str ⟨.str x, H, I.tok _, ⟨_, rfl⟩, h⟩

/-- a global name of the def -/
def Gl (X : Cx) (x : Str) : Prop := X.env.kindOf x = some .globalImplicit
theorem ld_glob {E : Value → Shared → Prop} {pins : List (Addr × Obj)} {s : Shared} {σ : St} {H : Hp} {x : Str} {u : Value} {pos : Pos} {Q : Value → Shared → Prop} (I : Inv X pins σ H s) (hg : Gl X x) (hm : X.mg x = some u) (h : Q u s)
    (hd : (x == ("__debug__" : Str)) = false := by decide) : wpAny (model X.prog X.w) X.A (eval (.Name x pos) X.env) Q E s :=
  Calls.Name_function_global I.ok.kind hg (Calls.loadGlobal_global (by rw [I.ok.glob]; exact I.mod.glob.keeps I.bk) hm h) hd
theorem ld_blt {E : Value → Shared → Prop} {pins : List (Addr × Obj)} {s : Shared} {σ : St} {H : Hp} {x : Str} {u : Value} {pos : Pos} {Q : Value → Shared → Prop} (I : Inv X pins σ H s) (hg : Gl X x) (hm : X.mg x = none) (hv : bootBuiltins x = some u) (h : Q u s)
    (hn : x ≠ "__name__" := by decide) (hd : (x == ("__debug__" : Str)) = false := by decide) : wpAny (model X.prog X.w) X.A (eval (.Name x pos) X.env) Q E s := by
  obtain ⟨mb, h1, h2⟩ := I.mod.blt
  exact Calls.Name_function_global I.ok.kind hg (Calls.loadGlobal_builtin (by rw [I.ok.glob]; exact I.mod.glob.keeps I.bk) hm (by rw [I.ok.blt]; exact h1.keeps I.bk) ((h2 x hn).trans hv) h) hd
/-- a module's constant, a class, a function, as a value -/
theorem pe_glob {x : Str} {v : V} {u : Value} {pos : Pos} (hg : Gl X x) (hm : X.mg x = some u) (r : RelV v u) (hd : (x == ("__debug__" : Str)) = false := by decide) : PE X (.Name x pos) (tC v) :=
  fun _ _ _ H _ I h => ld_glob I hg hm ⟨v, H, I, r, h⟩ hd
theorem pe_bltn {x : Str} {v : V} {u : Value} {pos : Pos} (hg : Gl X x) (hm : X.mg x = none) (hv : bootBuiltins x = some u) (r : RelV v u) (hn : x ≠ "__name__" := by decide) (hd : (x == ("__debug__" : Str)) = false := by decide) : PE X (.Name x pos) (tC v) :=
  fun _ _ _ H _ I h => ld_blt I hg hm hv ⟨v, H, I, r, h⟩ hn hd

/-! ### arithmetic -/
/-- two ints -/
def t2I (ta tb : TE) (k : Int → Int → Hp → Prop) : St → Hp → Prop := fun σ H => ta σ H fun x H1 => tb σ H1 fun y H2 => ∃ i j, x = .int i ∧ y = .int j ∧ k i j H2
def tAdd (ta tb : TE) : TE := fun σ H Q => t2I ta tb (fun i j H2 => Q (.int (i + j)) H2) σ H
def tSub (ta tb : TE) : TE := fun σ H Q => t2I ta tb (fun i j H2 => Q (.int (i - j)) H2) σ H
/-- the left factor below 2^64 -/
def tMul (ta tb : TE) : TE := fun σ H Q => t2I ta tb (fun i j H2 => (-(2 ^ 64) < i ∧ i < 2 ^ 64) ∧ Q (.int (i * j)) H2) σ H
variable {a b : Expr} {ta tb : TE} {pos : Pos}
theorem pe_add (ha : PE X a ta) (hb : PE X b tb) : PE X (.BinOp a .Add b pos) (tAdd ta tb) := by
  intro pins s σ H Q I h
  refine wpAny_BinOp (bin ha hb I h fun v u s2 x y H2 I2 rx ry q => ?_)
  obtain ⟨i, j, rfl, rfl, q⟩ := q
  obtain ⟨t, rfl⟩ := rx
  obtain ⟨t', rfl⟩ := ry
  exact add_int ⟨.int _, H2, I2.tok _, ⟨_, rfl⟩, q⟩
theorem pe_sub (ha : PE X a ta) (hb : PE X b tb) : PE X (.BinOp a .Sub b pos) (tSub ta tb) := by
  intro pins s σ H Q I h
  refine wpAny_BinOp (bin ha hb I h fun v u s2 x y H2 I2 rx ry q => ?_)
  obtain ⟨i, j, rfl, rfl, q⟩ := q
  obtain ⟨t, rfl⟩ := rx
  obtain ⟨t', rfl⟩ := ry
  exact sub_int ⟨.int _, H2, I2.tok _, ⟨_, rfl⟩, q⟩
theorem pe_mul (ha : PE X a ta) (hb : PE X b tb) : PE X (.BinOp a .Mult b pos) (tMul ta tb) := by
  intro pins s σ H Q I h
  refine wpAny_BinOp (bin ha hb I h fun v u s2 x y H2 I2 rx ry q => ?_)
  obtain ⟨i, j, rfl, rfl, ⟨q1, q2⟩, q⟩ := q
  obtain ⟨t, rfl⟩ := rx
  obtain ⟨t', rfl⟩ := ry
  exact mul_int ⟨.int _, H2, I2.tok _, ⟨_, rfl⟩, q⟩ (.of_left (intBits_le_64 q1 q2))

/-! ### comparisons -/
def PC (X : Cx) (op : CmpOp) (a b : Expr) (t : TE) : Prop :=
  ∀ (pins : List (Addr × Obj)) (s : Shared) (σ : St) (H : Hp) (Q : VK), Inv X pins σ H s → t σ H Q →
    wpAny (model X.prog X.w) X.A (eval a X.env) (fun v s₁ => wpAny (model X.prog X.w) X.A (eval b X.env) (fun u s₂ => wpAny (model X.prog X.w) X.A (compareOp op v u) (EP X pins σ Q) X.xe s₂) X.xe s₁) X.xe s
theorem nobehind (b : Expr) {op : CmpOp} (h : op ≠ .In) (h2 : op ≠ .NotIn) : behindInMarks op b = false := by
  have e1 : (op == CmpOp.In) = false := by cases op <;> first | rfl | exact absurd rfl h
  have e2 : (op == CmpOp.NotIn) = false := by cases op <;> first | rfl | exact absurd rfl h2
  cases b <;> simp [behindInMarks, e1, e2]
def tCmp (p : Int → Int → Bool) (ta tb : TE) : TE := fun σ H Q => t2I ta tb (fun i j H2 => Q (.bl (p i j)) H2) σ H
abbrev tLt : TE → TE → TE := tCmp fun i j => decide (i < j)
abbrev tLe : TE → TE → TE := tCmp fun i j => decide (i ≤ j)
abbrev tGt : TE → TE → TE := tCmp fun i j => decide (j < i)
abbrev tGe : TE → TE → TE := tCmp fun i j => decide (j ≤ i)
abbrev tEqI : TE → TE → TE := tCmp fun i j => decide (i = j)
abbrev tNeI : TE → TE → TE := tCmp fun i j => !decide (i = j)
/-- a comparison of two ints, by its rule -/
theorem pc_int {op : CmpOp} {p : Int → Int → Bool} (ha : PE X a ta) (hb : PE X b tb)
    (rule : ∀ (i j : Int) (t u : Tok) (Q : Value → Shared → Prop) (s : Shared), Q (.bool (p i j)) s → wpAny (model X.prog X.w) X.A (compareOp op (.int i t) (.int j u)) Q X.xe s) : PC X op a b (tCmp p ta tb) := by
  intro pins s σ H Q I h
  refine bin ha hb I h fun v u s2 x y H2 I2 rx ry q => ?_
  obtain ⟨i, j, rfl, rfl, q⟩ := q
  obtain ⟨t, rfl⟩ := rx
  obtain ⟨t', rfl⟩ := ry
  exact rule i j t t' _ s2 ⟨.bl _, H2, I2, rfl, q⟩
theorem pc_lt (ha : PE X a ta) (hb : PE X b tb) : PC X .Lt a b (tLt ta tb) := pc_int ha hb fun _ _ _ _ _ _ h => lt_int h
theorem pc_le (ha : PE X a ta) (hb : PE X b tb) : PC X .LtE a b (tLe ta tb) := pc_int ha hb fun _ _ _ _ _ _ h => le_int h
theorem pc_gt (ha : PE X a ta) (hb : PE X b tb) : PC X .Gt a b (tGt ta tb) := pc_int ha hb fun _ _ _ _ _ _ h => gt_int h
theorem pc_ge (ha : PE X a ta) (hb : PE X b tb) : PC X .GtE a b (tGe ta tb) := pc_int ha hb fun _ _ _ _ _ _ h => ge_int h
theorem pc_eqI (ha : PE X a ta) (hb : PE X b tb) : PC X .Eq a b (tEqI ta tb) := pc_int ha hb fun _ _ _ _ _ _ h => eq_int (by rw [Bool.beq_eq_decide_eq]; exact h)
theorem pc_neI (ha : PE X a ta) (hb : PE X b tb) : PC X .NotEq a b (tNeI ta tb) := pc_int ha hb fun _ _ _ _ _ _ h => ne_int (by rw [bne, Bool.beq_eq_decide_eq]; exact h)
/-- is None -/
def tIsN (ta : TE) : TE := fun σ H Q => ta σ H fun x H1 => Q (.bl (decide (x = .non))) H1
def tNotN (ta : TE) : TE := fun σ H Q => ta σ H fun x H1 => Q (.bl (!decide (x = .non))) H1
theorem RelV.none_iff {x : V} {v : Value} (r : RelV x v) : (v == Value.none) = decide (x = .non) := by
  cases x with
  | non => cases r; rfl
  | bl _ => cases r; rfl
  | int _ => obtain ⟨t, rfl⟩ := r; rfl
  | str _ => obtain ⟨t, rfl⟩ := r; rfl
  | byt _ => obtain ⟨t, rfl⟩ := r; rfl
  | flt _ => obtain ⟨t, rfl⟩ := r; rfl
  | ref _ => cases r; rfl
  | ty _ => cases r; rfl
theorem pc_isN {j pos'} (ha : PE X a ta) : PC X .Is a (.Constant .none j pos') (tIsN ta) := by
  intro pins s σ H Q I h
  refine thn (ha pins s σ H _ I h) fun v s1 ⟨x, H1, I1, r1, q1⟩ => ?_
  exact Constant_none (is_none_gen ⟨.bl _, H1, I1, by rw [r1.none_iff]; rfl, q1⟩)
theorem pc_notN {j pos'} (ha : PE X a ta) : PC X .IsNot a (.Constant .none j pos') (tNotN ta) := by
  intro pins s σ H Q I h
  refine thn (ha pins s σ H _ I h) fun v s1 ⟨x, H1, I1, r1, q1⟩ => ?_
  exact Constant_none (isnot_none_gen ⟨.bl _, H1, I1, by rw [r1.none_iff]; rfl, q1⟩)
/-- a comparison as a value, as a test -/
def tB (t : TE) : TT := fun σ H Q => t σ H fun x H1 => ∃ c, x = .bl c ∧ Q c H1
theorem pe_cmp {op : CmpOp} {t : TE} (h : PC X op a b t) (h1 : behindInMarks op b = false := by first | exact nobehind _ (by decide) (by decide) | rfl) : PE X (.Compare a [op] [b] pos) t := fun pins s σ H Q I hw => wpAny_Compare1 (h pins s σ H Q I hw) h1
theorem pt_cmp {op : CmpOp} {t : TE} (h : PC X op a b t) (h1 : behindInMarks op b = false := by first | exact nobehind _ (by decide) (by decide) | rfl) : PT X (.Compare a [op] [b] pos) (tB t) := by
  intro pins s σ H Q I hw
  refine wpAny_isTrue_Compare1 (thn (h pins s σ H _ I hw) fun v s1 h1 => thn h1 fun u s2 h2 => thn h2 fun c s3 ⟨x, H1, I1, r1, q1⟩ => ?_) h1
  obtain ⟨d, rfl, q⟩ := q1
  cases r1
  exact wpAny_truthy_bool ⟨H1, I1, q⟩
/-- an expression whose value is a bool, as a test -/
theorem pt_val {e : Expr} {t : TE} (h : PE X e t) (he : ∀ whole, isTrue e X.env whole = (do let v ← whole; standAt e.pos; holding [v] (truthy v)) := by intro _; rfl) : PT X e (tB t) := by
  intro pins s σ H Q I hw
  refine isTrue_plain (thn (h pins s σ H _ I hw) fun v s1 ⟨x, H1, I1, r1, q1⟩ => ?_) (he _)
  obtain ⟨d, rfl, q⟩ := q1
  cases r1
  exact wpAny_truthy_bool ⟨H1, I1, q⟩

/-! ### and, or, not -/
variable {tA tB' : TT} {rest : List Expr}
def tAnd (t u : TT) : TT := fun σ H Q => t σ H fun c H1 => if c = true then u σ H1 Q else Q false H1
def tOr (t u : TT) : TT := fun σ H Q => t σ H fun c H1 => if c = true then Q true H1 else u σ H1 Q
def tNot (t : TT) : TT := fun σ H Q => t σ H fun c H1 => Q (!c) H1
theorem pw_and1 (ha : PT X a tA) : PW X (.BoolOp .And [a] pos) tA := by
  intro wh pins s σ H Q I h
  refine isTrue_and (thn (ha pins s σ H Q I h) fun c s1 e => ?_)
  cases c with
  | true => exact isTrue_and_nil e
  | false => exact e
theorem pw_or1 (ha : PT X a tA) : PW X (.BoolOp .Or [a] pos) tA := by
  intro wh pins s σ H Q I h
  refine isTrue_or (thn (ha pins s σ H Q I h) fun c s1 e => ?_)
  cases c with
  | false => exact isTrue_or_nil e
  | true => exact e
theorem pw_and (ha : PT X a tA) (hb : PW X (.BoolOp .And (b :: rest) pos) tB') : PW X (.BoolOp .And (a :: b :: rest) pos) (tAnd tA tB') := by
  intro wh pins s σ H Q I h
  refine isTrue_and (thn (ha pins s σ H _ I h) fun c s1 ⟨H1, I1, q1⟩ => ?_)
  cases c with
  | true => exact hb wh pins s1 σ H1 Q I1 q1
  | false => exact ⟨H1, I1, q1⟩
theorem pw_or (ha : PT X a tA) (hb : PW X (.BoolOp .Or (b :: rest) pos) tB') : PW X (.BoolOp .Or (a :: b :: rest) pos) (tOr tA tB') := by
  intro wh pins s σ H Q I h
  refine isTrue_or (thn (ha pins s σ H _ I h) fun c s1 ⟨H1, I1, q1⟩ => ?_)
  cases c with
  | true => exact ⟨H1, I1, q1⟩
  | false => exact hb wh pins s1 σ H1 Q I1 q1
theorem pt_not (ha : PT X a tA) : PT X (.UnaryOp .Not a pos) (tNot tA) := by
  intro pins s σ H Q I h
  exact isTrue_not (ha pins s σ H (fun c H1 => Q (!c) H1) I h)
/-- .. as values (bools) -/
def tAndV (ta tb : TE) : TE := fun σ H Q => ta σ H fun x H1 => ∃ c, x = .bl c ∧ if c = true then tb σ H1 Q else Q (.bl false) H1
def tOrV (ta tb : TE) : TE := fun σ H Q => ta σ H fun x H1 => ∃ c, x = .bl c ∧ if c = true then Q (.bl true) H1 else tb σ H1 Q
def tNotV (ta : TE) : TE := fun σ H Q => ta σ H fun x H1 => ∃ c, x = .bl c ∧ Q (.bl (!c)) H1
theorem pe_one {op} {t : TE} (h : PE X a t) : PE X (.BoolOp op [a] pos) t := fun pins s σ H Q I hw => BoolOp_one (h pins s σ H Q I hw)
theorem pe_and (ha : PE X a ta) (hb : PE X (.BoolOp .And (b :: rest) pos) tb) : PE X (.BoolOp .And (a :: b :: rest) pos) (tAndV ta tb) := by
  intro pins s σ H Q I h
  refine BoolOp_and (thn (ha pins s σ H _ I h) fun v s1 ⟨x, H1, I1, r1, q1⟩ => ?_)
  obtain ⟨c, rfl, q1⟩ := q1
  cases r1
  refine wpAny_truthy_bool ?_
  cases c with
  | true => exact hb pins s1 σ H1 Q I1 q1
  | false => exact ⟨.bl false, H1, I1, rfl, q1⟩
theorem pe_or (ha : PE X a ta) (hb : PE X (.BoolOp .Or (b :: rest) pos) tb) : PE X (.BoolOp .Or (a :: b :: rest) pos) (tOrV ta tb) := by
  intro pins s σ H Q I h
  refine BoolOp_or (thn (ha pins s σ H _ I h) fun v s1 ⟨x, H1, I1, r1, q1⟩ => ?_)
  obtain ⟨c, rfl, q1⟩ := q1
  cases r1
  refine wpAny_truthy_bool ?_
  cases c with
  | false => exact hb pins s1 σ H1 Q I1 q1
  | true => exact ⟨.bl true, H1, I1, rfl, q1⟩
theorem pe_not (ha : PE X a ta) : PE X (.UnaryOp .Not a pos) (tNotV ta) := by
  intro pins s σ H Q I h
  refine UnaryOp_ (thn (ha pins s σ H _ I h) fun v s1 ⟨x, H1, I1, r1, q1⟩ => ?_)
  obtain ⟨c, rfl, q1⟩ := q1
  cases r1
  exact not_of (wpAny_truthy_bool ⟨.bl (!c), H1, I1, rfl, q1⟩)
/-- a if t else b -/
def tIf (t : TT) (ta tb : TE) : TE := fun σ H Q => t σ H fun c H1 => if c = true then ta σ H1 Q else tb σ H1 Q
theorem pe_ifExp {c : Expr} (hc : PT X c tA) (ha : PE X a ta) (hb : PE X b tb) : PE X (.IfExp c a b pos) (tIf tA ta tb) := by
  intro pins s σ H Q I h
  refine wpAny_IfExp (thn (hc pins s σ H _ I h) fun d s1 ⟨H1, I1, q1⟩ => ?_)
  cases d with
  | true => exact ha pins s1 σ H1 Q I1 q1
  | false => exact hb pins s1 σ H1 Q I1 q1
end
end L2

namespace L2
open PySem PySem.Spec PyProof.Rows

/-! ### a list, a tuple that is read: tracked, frozen, or an object of the module -/
def SqL (K : PySem.W.Frag) (H : Hp) (a : Addr) (xs : List V) : Prop :=
  Rd H a (.lst xs) ∨
    ∃ (o : Obj) (its : Array Value) (n : Nat), K.lookup a = some o ∧ o.cls = .type "list" ∧ o.dict = none ∧ o.data = .seq its n ∧ its.size ≤ sizeLine ∧ Vals xs its.toList
def SqT (K : PySem.W.Frag) (H : Hp) (a : Addr) (xs : List V) : Prop :=
  Rd H a (.tup xs) ∨
    ∃ (o : Obj) (its : Array Value) (n : Nat), K.lookup a = some o ∧ o.cls = .type "tuple" ∧ o.data = .seq its n ∧ its.size ≤ sizeLine ∧ Vals xs its.toList
def absV : Value → Option V
  | .none => some .non
  | .bool b => some (.bl b)
  | .int i _ => some (.int i)
  | .str x _ => some (.str x)
  | .bytes b _ => some (.byt b)
  | .float b _ => some (.flt b)
  | .ref a => some (.ref a)
  | .type n => some (.ty n)
  | _ => none
theorem RelV.abs {x : V} {u : Value} (r : RelV x u) : absV u = some x := by
  cases x with
  | non => cases r; rfl
  | bl _ => cases r; rfl
  | int _ => obtain ⟨t, rfl⟩ := r; rfl
  | str _ => obtain ⟨t, rfl⟩ := r; rfl
  | byt _ => obtain ⟨t, rfl⟩ := r; rfl
  | flt _ => obtain ⟨t, rfl⟩ := r; rfl
  | ref _ => cases r; rfl
  | ty _ => cases r; rfl
theorem RelV.inj {x y : V} {u : Value} (r : RelV x u) (q : RelV y u) : x = y := Option.some.inj (r.abs.symm.trans q.abs)
theorem Vals.inj : ∀ {xs ys : List V} {us : List Value}, Vals xs us → Vals ys us → xs = ys
  | _, _, _, .nil, .nil => rfl
  | _, _, _, .cons r t, .cons r' t' => by rw [r.inj r', Vals.inj t t']
section
variable {X : Cx} {pins : List (Addr × Obj)} {σ : St} {H : Hp} {s : Shared} {a : Addr} {xs ys : List V}
theorem SqL.of {K : PySem.W.Frag} (h : H a = some (.lst xs)) : SqL K H a xs := .inl (.inl h)
theorem SqT.of {K : PySem.W.Frag} (h : H a = some (.tup xs)) : SqT K H a xs := .inl (.inl h)
theorem Inv.list (I : Inv X pins σ H s) (h : SqL X.K H a xs) : ∃ its : List Value, Vals xs its ∧ PlainL s.heap a its.toArray ∧ xs.length ≤ sizeLine := by
  rcases h with h | ⟨o, its, n, hk, hc, hd, hs, hz, r⟩
  · obtain ⟨z, its, n, r, e⟩ := h.ok I.hok
    exact ⟨its, r, ⟨_, n, e, rfl, rfl, rfl⟩, z⟩
  · refine ⟨its.toList, r, ⟨o, n, I.kIn a o hk, hc, hd, by simpa using hs⟩, ?_⟩
    have e := r.length
    simp only [Array.length_toList] at e
    omega
theorem Inv.tuple (I : Inv X pins σ H s) (h : SqT X.K H a xs) : ∃ its : List Value, Vals xs its ∧ IsTup s.heap a its.toArray ∧ xs.length ≤ sizeLine := by
  rcases h with h | ⟨o, its, n, hk, hc, hs, hz, r⟩
  · obtain ⟨z, its, r, p⟩ := h.ok I.hok
    exact ⟨its, r, p, z⟩
  · refine ⟨its.toList, r, ⟨o, I.kIn a o hk, hc, n, by simpa using hs⟩, ?_⟩
    have e := r.length
    simp only [Array.length_toList] at e
    omega
theorem Inv.list_inj (I : Inv X pins σ H s) (h : SqL X.K H a xs) (h' : SqL X.K H a ys) : xs = ys := by
  obtain ⟨its, r, ⟨o, n, e, _, _, d⟩, _⟩ := I.list h
  obtain ⟨its', r', ⟨o', n', e', _, _, d'⟩, _⟩ := I.list h'
  rw [e] at e'; cases e'
  rw [d] at d'
  injection d' with d1 _
  have : its = its' := by simpa using congrArg Array.toList d1
  subst this
  exact r.inj r'
theorem Inv.tuple_inj (I : Inv X pins σ H s) (h : SqT X.K H a xs) (h' : SqT X.K H a ys) : xs = ys := by
  obtain ⟨its, r, ⟨o, e, _, n, d⟩, _⟩ := I.tuple h
  obtain ⟨its', r', ⟨o', e', _, n', d'⟩, _⟩ := I.tuple h'
  rw [e] at e'; cases e'
  rw [d] at d'
  injection d' with d1 _
  have : its = its' := by simpa using congrArg Array.toList d1
  subst this
  exact r.inj r'
end

/-! ### another wish about exceptions -/
abbrev Cx.wish (X : Cx) (E : Value → Shared → Prop) : Cx := { X with xe := E }
/-- no exception leaves -/
abbrev Cx.nox (X : Cx) : Cx := X.wish fun _ _ => False
theorem Cx.Ok.wish {X : Cx} (ok : X.Ok) (E : Value → Shared → Prop) : (X.wish E).Ok :=
  ⟨ok.mod, ok.kind, ok.glob, ok.blt, ok.above, ok.inj, ok.has, ok.cab, ok.hd, ok.frames, ok.stk, ok.exf, ok.bs, ok.bsz, ok.noex, ok.exfs, ok.funs, ok.frf⟩
theorem Cx.Ok.unwish {X : Cx} {E : Value → Shared → Prop} (ok : (X.wish E).Ok) : X.Ok :=
  ⟨ok.mod, ok.kind, ok.glob, ok.blt, ok.above, ok.inj, ok.has, ok.cab, ok.hd, ok.frames, ok.stk, ok.exf, ok.bs, ok.bsz, ok.noex, ok.exfs, ok.funs, ok.frf⟩
section
variable {X : Cx} {pins : List (Addr × Obj)} {σ : St} {H : Hp} {s : Shared} {E : Value → Shared → Prop}
theorem Inv.wish (I : Inv X pins σ H s) (E : Value → Shared → Prop) : Inv (X.wish E) pins σ H s := ⟨I.ok.wish E, I.os, I.bare, I.base, I.loc, I.cell, I.free, I.freeC, I.pin, I.hok, I.len⟩
theorem Inv.unwish (I : Inv (X.wish E) pins σ H s) : Inv X pins σ H s := ⟨I.ok.unwish, I.os, I.bare, I.base, I.loc, I.cell, I.free, I.freeC, I.pin, I.hok, I.len⟩
theorem SP.unwish {D : Ends} {f : Flow} {s' : Shared} (h : SP (X.wish E) pins D f s') : SP X pins D f s' := by
  cases f with
  | next => obtain ⟨σ', H', I, q⟩ := h; exact ⟨σ', H', I.unwish, q⟩
  | brk => obtain ⟨σ', H', I, q⟩ := h; exact ⟨σ', H', I.unwish, q⟩
  | cont => obtain ⟨σ', H', I, q⟩ := h; exact ⟨σ', H', I.unwish, q⟩
  | ret u => obtain ⟨v, σ', H', I, r, q⟩ := h; exact ⟨v, σ', H', I.unwish, r, q⟩
theorem PE.nox {e : Expr} {t : TE} (h : PE X.nox e t) : PE X e t := fun pins s σ H Q I hw =>
  wpAny_mono (h pins s σ H Q (I.wish _) hw) (fun _ _ ⟨v, H', I', r, q⟩ => ⟨v, H', I'.unwish, r, q⟩) fun _ _ z => False.elim z
theorem PT.nox {e : Expr} {t : TT} (h : PT X.nox e t) : PT X e t := fun pins s σ H Q I hw =>
  wpAny_mono (h pins s σ H Q (I.wish _) hw) (fun _ _ ⟨H', I', q⟩ => ⟨H', I'.unwish, q⟩) fun _ _ z => False.elim z
theorem PSs.nox {st : List Stmt} {t : TS} (h : PSs X.nox st t) : PSs X st t := fun pins s σ H D I hw =>
  wpAny_mono (h pins s σ H D (I.wish _) hw) (fun _ _ q => q.unwish) fun _ _ z => False.elim z
end

/-! ### blocks and small statements -/
section
variable {X : Cx} {st : Stmt} {rest : List Stmt} {t u : TS} {e : Expr} {te : TE} {pos : Pos}
def tNext : TS := fun D σ H => D.nx σ H
def tSeq (t u : TS) : TS := fun D σ H => t { D with nx := u D } σ H
theorem pss_nil : PSs X [] tNext := fun _ _ σ H _ I h => wpAny_execs_nil ⟨σ, H, I, h⟩
theorem pss_cons (h1 : PS X st t) (h2 : PSs X rest u) : PSs X (st :: rest) (tSeq t u) := by
  intro pins s σ H D I h
  refine wpAny_execs_cons (thn (h1 pins s σ H { D with nx := u D } I h) fun f s1 q => ?_)
  cases f with
  | next =>
    obtain ⟨σ', H', I', q⟩ := q
    exact h2 pins s1 σ' H' D I' q
  | ret v => exact q
  | brk => exact q
  | cont => exact q
theorem pss_one (h1 : PS X st t) : PSs X [st] t := by
  intro pins s σ H D I h
  refine wpAny_execs_cons (thn (h1 pins s σ H D I h) fun f s1 q => ?_)
  cases f with
  | next => exact wpAny_execs_nil q
  | ret v => exact q
  | brk => exact q
  | cont => exact q
def tBreak : TS := fun D σ H => D.bk σ H
def tCont : TS := fun D σ H => D.ct σ H
theorem ps_pass : PS X (.Pass pos) tNext := fun _ _ σ H _ I h => wpAny_Pass ⟨σ, H, I, h⟩
theorem ps_break : PS X (.Break pos) tBreak := fun _ _ σ H _ I h => wpAny_Break ⟨σ, H, I, h⟩
theorem ps_continue : PS X (.Continue pos) tCont := fun _ _ σ H _ I h => wpAny_Continue ⟨σ, H, I, h⟩
/-- in a def's body nothing is shown -/
theorem Inv.quiet {pins : List (Addr × Obj)} {σ : St} {H : Hp} {s : Shared} (I : Inv X pins σ H s) : interactive X.env = false := by simp [interactive, I.ok.kind]
/-- a docstring -/
theorem ps_doc {x j pos pos'} : PS X (.Expr (.Constant (.str x) j pos) pos') tNext := fun _ s σ H _ I h => wpAny_Expr (Calls.Constant_str (show SP X _ _ .next { s with toks := s.toks + 1 } from ⟨σ, H, I.tok _, h⟩)) I.quiet
/-- an expression whose value is dropped -/
def tDrop (te : TE) : TS := fun D σ H => te σ H fun _ H1 => D.nx σ H1
theorem ps_expr (he : PE X e te) (hs : swapsWith e none pos.line X.env = pure false := by rfl) : PS X (.Expr e pos) (tDrop te) := by
  intro pins s σ H D I h
  exact wpAny_Expr_any (thn (he pins s σ H _ I h) fun v s1 ⟨x, H1, I1, r1, q1⟩ => ⟨σ, H1, I1, q1⟩) I.quiet hs
def tRet (te : TE) : TS := fun D σ H => te σ H D.rt
theorem ps_ret (he : PE X e te) : PS X (.Return (some e) pos) (tRet te) := by
  intro pins s σ H D I h
  exact wpAny_Return_some (thn (he pins s σ H _ I h) fun v s1 ⟨x, H1, I1, r1, q1⟩ => ⟨x, σ, H1, I1, r1, q1⟩)
def tRetN : TS := fun D _ H => D.rt .non H
theorem ps_retN : PS X (.Return none pos) tRetN := fun _ _ σ H _ I h => wpAny_Return_none ⟨.non, σ, H, I, rfl, h⟩
def tIfS (c : TT) (t u : TS) : TS := fun D σ H => c σ H fun b H1 => if b = true then t D σ H1 else u D σ H1
theorem ps_if {c : Expr} {a b : List Stmt} {tc : TT} (hc : PT X c tc) (ha : PSs X a t) (hb : PSs X b u) : PS X (.If c a b pos) (tIfS tc t u) := by
  intro pins s σ H D I h
  refine wpAny_If (thn (hc pins s σ H _ I h) fun d s1 ⟨H1, I1, q1⟩ => ?_)
  cases d with
  | true => exact ha pins s1 σ H1 D I1 q1
  | false => exact hb pins s1 σ H1 D I1 q1
/-- code that the proof never comes to -/
def tNever : TS := fun _ _ _ => False
theorem ps_never : PS X st tNever := fun _ _ _ _ _ _ h => h.elim
theorem pss_never {sts : List Stmt} : PSs X sts tNever := fun _ _ _ _ _ _ h => h.elim
end

/-! ### targets -/
abbrev TG := V → St → Hp → (St → Hp → Prop) → Prop
abbrev TGs := List V → St → Hp → (St → Hp → Prop) → Prop
def PG (X : Cx) (target : Expr) (t : TG) : Prop :=
  ∀ (pins : List (Addr × Obj)) (s : Shared) (σ : St) (H : Hp) (v : V) (u : Value) (Q : St → Hp → Prop), Inv X pins σ H s → RelV v u → t v σ H Q →
    wpAny (model X.prog X.w) X.A (assign target X.env u) (fun _ s' => ∃ σ' H', Inv X pins σ' H' s' ∧ Q σ' H') X.xe s
/-- several targets, one after another -/
def PGs (X : Cx) (ts : List Expr) (t : TGs) : Prop :=
  ∀ (pins : List (Addr × Obj)) (s : Shared) (σ : St) (H : Hp) (vs : List V) (us : List Value) (Q : St → Hp → Prop), Inv X pins σ H s → Vals vs us → t vs σ H Q →
    wpAny (model X.prog X.w) X.A (assignInOrder ((assignEach ts X.env).map (·.2)) us) (fun _ s' => ∃ σ' H', Inv X pins σ' H' s' ∧ Q σ' H') X.xe s
/-- o[i] = v, by values -/
abbrev TSet := V → V → V → Hp → (Hp → Prop) → Prop
def PSet (X : Cx) (t : TSet) : Prop :=
  ∀ (pins : List (Addr × Obj)) (s : Shared) (σ : St) (H : Hp) (o i v : V) (ov iv u : Value) (Q : Hp → Prop), Inv X pins σ H s → RelV o ov → RelV i iv → RelV v u → t o i v H Q →
    wpAny (model X.prog X.w) X.A (setItem ov iv u) (fun _ s' => ∃ H', Inv X pins σ H' s' ∧ Q H') X.xe s
/-- a op= b, by values -/
abbrev TIp := V → V → Hp → VK → Prop
def PIp (X : Cx) (op : Operator) (t : TIp) : Prop :=
  ∀ (pins : List (Addr × Obj)) (s : Shared) (σ : St) (H : Hp) (x y : V) (v u : Value) (Q : VK), Inv X pins σ H s → RelV x v → RelV y u → t x y H Q →
    wpAny (model X.prog X.w) X.A (inplaceOp op v u) (EP X pins σ Q) X.xe s
section
variable {X : Cx} {pos : Pos}
def gName (i : Nat) : TG := fun v σ H Q => Q (σ.set i (some v)) H
theorem pg_name {i : Nat} {x : Str} (hN : X.N.Nodup) (hi : X.N[i]? = some x) (hx : Loc X.env.scope x) (hf : X.fn x = true ∨ X.env.scope.names.lookup x = some .local := by first | exact .inl rfl | exact .inr rfl | assumption) : PG X (.Name x pos) (gName i) := by
  intro pins s σ H v u Q I r h
  exact wpAny_assign_Name (store_ok I hN hi hx r (fun s' I' => ⟨_, H, I', h⟩) hf)
def gNil : TGs := fun vs σ H Q => vs = [] ∧ Q σ H
def gCons (t : TG) (u : TGs) : TGs := fun vs σ H Q => ∃ v r, vs = v :: r ∧ t v σ H fun σ' H' => u r σ' H' Q
theorem pgs_nil : PGs X [] gNil := by
  intro pins s σ H vs us Q I r h
  obtain ⟨e, h⟩ := h
  subst e
  cases r
  exact assignInOrder_nil ⟨σ, H, I, h⟩
theorem pgs_cons {e : Expr} {es : List Expr} {t : TG} {u : TGs} (h1 : PG X e t) (h2 : PGs X es u)
    (hs : (assignEach (e :: es) X.env).map (·.2) = assign e X.env :: (assignEach es X.env).map (·.2) := by rfl) : PGs X (e :: es) (gCons t u) := by
  intro pins s σ H vs us Q I r h
  obtain ⟨v, vr, e1, h⟩ := h
  subst e1
  cases r with
  | cons r rr =>
    rw [hs]
    refine assignInOrder_cons (thn (h1 pins s σ H _ _ _ I r h) fun _ s1 ⟨σ1, H1, I1, q1⟩ => ?_)
    exact h2 pins s1 σ1 H1 _ _ Q I1 rr q1
/-- (a, b, ..) = a tuple of that length -/
def gTup (K : PySem.W.Frag) (n : Nat) (t : TGs) : TG := fun v σ H Q => ∃ a xs, v = .ref a ∧ SqT K H a xs ∧ xs.length = n ∧ t xs σ H Q
theorem pg_tup {es : List Expr} {k : Nat} {t : TGs} {n : Nat} (hc : X.calm = true) (h : PGs X es t)
    (hn : (assignEach es X.env).length = n := by rfl) (hst : (assignEach es X.env).findIdx? (·.1) = none := by rfl) : PG X (.Tuple es k pos) (gTup X.K n t) := by
  intro pins s σ H v u Q I r hw
  obtain ⟨a, xs, e1, hq, hl, hw⟩ := hw
  subst e1
  cases r
  obtain ⟨its, rv, ht, hz⟩ := I.tuple hq
  refine assign_Tuple_tuple (I.ok.hd hc) ht (by simp [hn, ← hl, rv.length]) hst fun h' hx => ?_
  have I1 : Inv X pins σ H { s with heap := h' } := I.kept (t' := s.toks) fun b o e => hx b o (Nat.ne_of_lt (Heap.lt_size e)) e
  exact h pins _ σ H xs _ Q I1 (by simpa using rv) hw
/-- o[i] = .. -/
def gSub (to ti : TE) (t : TSet) : TG := fun v σ H Q => to σ H fun o H1 => ti σ H1 fun i H2 => t o i v H2 fun H3 => Q σ H3
theorem pg_sub {o i : Expr} {to ti : TE} {t : TSet} (ho : PE X o to) (hi : PE X i ti) (hs : PSet X t)
    (ha : ∀ v, assign (.Subscript o i pos) X.env v = (do
      let ov ← holding [v] (eval o X.env)
      let iv ← holding [v, ov] (eval i X.env)
      standAt pos
      holding [v, ov, iv] (setItem ov iv v)
      release [v, ov, iv] []) := by intro _; rfl) : PG X (.Subscript o i pos) (gSub to ti t) := by
  intro pins s σ H v u Q I r h
  rw [ha]
  refine wpAny_bind (wpAny_holding (thn (ho pins s σ H _ I h) fun ov s1 ⟨x, H1, I1, r1, q1⟩ => ?_))
  refine wpAny_bind (wpAny_holding (thn (hi pins s1 σ H1 _ I1 q1) fun iv s2 ⟨y, H2, I2, r2, q2⟩ => ?_))
  refine wpAny_bind (wpAny_standAt (wpAny_bind (wpAny_holding (thn (hs pins s2 σ H2 x y v ov iv u _ I2 r1 r2 r q2) fun _ s3 ⟨H3, I3, q3⟩ => ?_))))
  exact wpAny_release ⟨σ, H3, I3, q3⟩
/-- target = value -/
def tAsg (te : TE) (g : TG) : TS := fun D σ H => te σ H fun x H1 => g x σ H1 D.nx
theorem ps_asg {tg e : Expr} {te : TE} {g : TG} (he : PE X e te) (hg : PG X tg g) (hs : swapsWithSole [tg] e pos.line X.env = pure false := by rfl) (hw : swappedStores [tg] e X.env = pure none := by rfl)
    (h1 : (assignEach [tg] X.env).map (·.2) = [assign tg X.env] := by rfl) : PS X (.Assign [tg] e pos) (tAsg te g) := by
  intro pins s σ H D I h
  refine wpAny_Assign_stores (thn (he pins s σ H _ I h) fun v s1 ⟨x, H1, I1, r1, q1⟩ => ?_) hs hw
  rw [h1]
  exact thn (hg pins s1 σ H1 x v _ I1 r1 q1) fun _ s2 q => q
/-- name = value -/
theorem ps_set {i : Nat} {x : Str} {e : Expr} {te : TE} {pos' : Pos} (hN : X.N.Nodup) (hi : X.N[i]? = some x) (hx : Loc X.env.scope x) (he : PE X e te) (hs : swapsWith e (some (.Name x pos')) pos.line X.env = pure false := by rfl) (hf : X.fn x = true ∨ X.env.scope.names.lookup x = some .local := by first | exact .inl rfl | exact .inr rfl | assumption) :
    PS X (.Assign [.Name x pos'] e pos) (tAsg te (gName i)) := by
  intro pins s σ H D I h
  refine wpAny_Assign_Name (thn (he pins s σ H _ I h) fun v s1 ⟨y, H1, I1, r1, q1⟩ => ?_) hs
  exact store_ok I1 hN hi hx r1 (fun s2 I2 => ⟨_, H1, I2, q1⟩) hf
/-- a, b = x, y with plain local names: stored from the right; the pair itself is not tracked (the opening rows as in PyProof/Rows/TupAssign.lean:23) -/
def tPar (i j : Nat) (ta : TA) : TS := fun D σ H => ta σ H fun vs H1 => ∃ v w, vs = [v, w] ∧ D.nx ((σ.set i (some v)).set j (some w)) H1
theorem ps_par {i j : Nat} {x y : Str} {a b : Expr} {ta : TA} {px py pt : Pos} {kt k2 pt2} (hc : X.calm = true) (hN : X.N.Nodup) (hi : X.N[i]? = some x) (hj : X.N[j]? = some y) (hij : i ≠ j)
    (hx : X.env.scope.names.lookup x = some .local) (hy : X.env.scope.names.lookup y = some .local) (ha : PA X [a, b] ta)
    (hw : swappedStores [.Tuple [.Name x px, .Name y py] kt pt] (.Tuple [a, b] k2 pt2) X.env = pure (some [x, y]))
    (hs : swapsWithSole [.Tuple [.Name x px, .Name y py] kt pt] (.Tuple [a, b] k2 pt2) pos.line X.env = pure false := by rfl) :
    PS X (.Assign [.Tuple [.Name x px, .Name y py] kt pt] (.Tuple [a, b] k2 pt2) pos) (tPar i j ta) := by
  intro pins s σ H D I h
  rw [exec_Assign_arm]
  refine wpAny_bind (wpAny_standAt ?_)
  rw [hs]
  refine wpAny_bind (wpAny_pure ?_)
  rw [if_neg (by decide)]
  refine wpAny_bind (Tuple_ (thn (ha _ pins s σ H _ I h) fun us s1 ⟨vs, H1, I1, r1, q1⟩ => ?_))
  obtain ⟨v, w, e1, q1⟩ := q1
  subst e1
  obtain ⟨u1, u2, rfl, rv, rw'⟩ : ∃ u1 u2, us = [u1, u2] ∧ RelV v u1 ∧ RelV w u2 := by
    cases r1 with
    | cons p q =>
      cases q with
      | cons p' q' =>
        cases q'
        exact ⟨_, _, rfl, p, p'⟩
  refine wpAny_newObj_type ?_ (by show 2 ≤ sizeLine; decide)
  have I2 : Inv X pins σ H1 { s1 with heap := s1.heap.push { cls := .type "tuple", data := .seq [u1, u2].toArray } } := I1.kept (t' := s1.toks) fun b o e => Heap.get?_push_of_some _ e
  rw [hw]
  refine wpAny_bind (wpAny_pure ?_)
  show wpAny (model X.prog X.w) X.A (do rule "assign.swapped-stores"; let items ← unpackItems (.ref s1.heap.objs.size) 2 none; assignInOrder [fun v => bindName X.env y v, fun v => bindName X.env x v] items.reverse; pure Flow.next) _ _ _
  refine wpAny_bind (wpAny_rule (wpAny_bind (unpackItems_tuple (items := #[u1, u2]) (I.ok.hd hc) (IsTup.new s1.heap _) fun h' hx' => ?_)))
  have I3 := I2.kept (h' := h') (t' := s1.toks) fun b o e => hx' b o (Nat.ne_of_lt (Heap.lt_size e)) e
  show wpAny _ _ (assignInOrder [fun v => bindName X.env y v, fun v => bindName X.env x v] [u2, u1] >>= fun _ => pure Flow.next) _ _ _
  refine wpAny_bind (assignInOrder_cons (wpAny_bindName (store_ok I3 hN hj (.inl hy) rw' (fun s2 I4 => ?_) (.inr hy))))
  refine assignInOrder_cons (wpAny_bindName (store_ok I4 hN hi (.inl hx) rv (fun s3 I5 => assignInOrder_nil (wpAny_pure ?_)) (.inr hx)))
  rw [List.set_comm _ _ (Ne.symm hij)] at I5
  exact ⟨_, H1, I5, q1⟩
/-- name op= e -/
def tAug (i : Nat) (te : TE) (ti : TIp) : TS := fun D σ H => ∃ x, σ[i]? = some (some x) ∧ te σ H fun y H1 => ti x y H1 fun z H2 => D.nx (σ.set i (some z)) H2
theorem ps_aug {i : Nat} {x : Str} {e : Expr} {te : TE} {op : Operator} {ti : TIp} {pos' : Pos} (hN : X.N.Nodup) (hi : X.N[i]? = some x) (hx : Loc X.env.scope x) (he : PE X e te) (ho : PIp X op ti) (hf : X.fn x = true ∨ X.env.scope.names.lookup x = some .local := by first | exact .inl rfl | exact .inr rfl | assumption) :
    PS X (.AugAssign (.Name x pos') op e pos) (tAug i te ti) := by
  intro pins s σ H D I h
  obtain ⟨v, e1, h⟩ := h
  obtain ⟨m, hn, hl⟩ := I.loc
  have vis : Vis X.env.scope x := by rcases hx with k | k; exact .inl k; exact .inr (.inl k)
  obtain ⟨u, r, l⟩ := hl i x v hi e1 vis
  refine wpAny_AugAssign_Name ?_
  have go : wpAny (model X.prog X.w) X.A (eval e X.env) (fun w s₂ => wpAny (model X.prog X.w) X.A (inplaceOp op u w) (fun r s₃ => wpAny (model X.prog X.w) X.A (storeName X.env x r) (fun _ => SP X pins D .next) X.xe s₃) X.xe s₂) X.xe s := by
    refine thn (he pins s σ H _ I h) fun w s1 ⟨y, H1, I1, r1, q1⟩ => ?_
    refine thn (ho pins s1 σ H1 v y u w _ I1 r r1 q1) fun z s2 ⟨zv, H2, I2, r2, q2⟩ => ?_
    exact store_ok I2 hN hi hx r2 (fun s3 I3 => ⟨_, H2, I3, q2⟩) hf
  rcases l with ⟨hk, hm⟩ | ⟨hk, c, hc, hcell⟩
  · exact wpAny_loadName_local I.ok.kind hk hn hm go
  · rcases hk with hk | hk
    · exact wpAny_loadName_cell I.ok.kind hk hc hcell go
    · rcases hx with k | k
      · have : X.env.scope.names.lookup x = some .free := hk
        rw [k] at this; cases this
      · have : X.env.scope.names.lookup x = some .free := hk
        rw [k] at this; cases this
/-- o[i] op= e -/
def tAugS (to ti te : TE) (tget : V → V → Hp → VK → Prop) (tip : TIp) (tset : TSet) : TS := fun D σ H => to σ H fun o H1 => ti σ H1 fun i H2 => tget o i H2 fun x H3 => te σ H3 fun y H4 => tip x y H4 fun z H5 => tset o i z H5 fun H6 => D.nx σ H6
/-- o[i], by values -/
def PGet (X : Cx) (t : V → V → Hp → VK → Prop) : Prop :=
  ∀ (pins : List (Addr × Obj)) (s : Shared) (σ : St) (H : Hp) (o i : V) (ov iv : Value) (Q : VK), Inv X pins σ H s → RelV o ov → RelV i iv → t o i H Q →
    wpAny (model X.prog X.w) X.A (getItem ov iv) (EP X pins σ Q) X.xe s
theorem ps_augS {o i e : Expr} {to ti te : TE} {tget : V → V → Hp → VK → Prop} {tip : TIp} {tset : TSet} {op : Operator} {tpos : Pos} (ho : PE X o to) (hi : PE X i ti) (hg : PGet X tget) (he : PE X e te) (hp : PIp X op tip) (hs : PSet X tset)
    (ha : ∀ ov iv new, augStore i ov iv new = (do holding [new, ov, iv] (setItem ov iv new); release [new, ov, iv] []; pure .next) := by intros; rfl) : PS X (.AugAssign (.Subscript o i tpos) op e pos) (tAugS to ti te tget tip tset) := by
  intro pins s σ H D I h
  refine wpAny_AugAssign_SubscriptAny (thn (ho pins s σ H _ I h) fun ov s1 ⟨x1, H1, I1, r1, q1⟩ => ?_) ha
  refine thn (hi pins s1 σ H1 _ I1 q1) fun iv s2 ⟨x2, H2, I2, r2, q2⟩ => ?_
  refine thn (hg pins s2 σ H2 x1 x2 ov iv _ I2 r1 r2 q2) fun old s3 ⟨x3, H3, I3, r3, q3⟩ => ?_
  refine thn (he pins s3 σ H3 _ I3 q3) fun v s4 ⟨x4, H4, I4, r4, q4⟩ => ?_
  refine thn (hp pins s4 σ H4 x3 x4 old v _ I4 r3 r4 q4) fun new s5 ⟨x5, H5, I5, r5, q5⟩ => ?_
  exact thn (hs pins s5 σ H5 x1 x2 x5 ov iv new _ I5 r1 r2 r5 q5) fun _ s6 ⟨H6, I6, q6⟩ => ⟨σ, H6, I6, q6⟩
/-- ints -/
def ipI (f : Int → Int → Int) : TIp := fun x y H Q => ∃ i j, x = .int i ∧ y = .int j ∧ Q (.int (f i j)) H
theorem ip_add : PIp X .Add (ipI fun i j => i + j) := by
  intro pins s σ H x y v u Q I r1 r2 h
  obtain ⟨i, j, e1, e2, q⟩ := h
  subst e1; subst e2
  obtain ⟨t, rfl⟩ := r1
  obtain ⟨t', rfl⟩ := r2
  exact iadd_int ⟨.int _, H, I.tok _, ⟨_, rfl⟩, q⟩
theorem ip_sub : PIp X .Sub (ipI fun i j => i - j) := by
  intro pins s σ H x y v u Q I r1 r2 h
  obtain ⟨i, j, e1, e2, q⟩ := h
  subst e1; subst e2
  obtain ⟨t, rfl⟩ := r1
  obtain ⟨t', rfl⟩ := r2
  exact isub_int ⟨.int _, H, I.tok _, ⟨_, rfl⟩, q⟩
end

/-! ### while -/
section
variable {X : Cx} {pos : Pos}
/-- the invariant W with its measure -/
def tWhile (c : TT) (tb : TS) : TS := fun D σ H => ∃ W : Nat → St → Hp → Prop, (∃ m, W m σ H) ∧ ∀ m σ H, W m σ H →
  c σ H fun b H1 => if b = true then ∃ N : St → Hp → Prop, (∀ σ' H', N σ' H' → ∃ m', m' < m ∧ W m' σ' H') ∧ tb { D with nx := N, ct := N, bk := D.nx } σ H1 else D.nx σ H1
theorem ps_while {c : Expr} {body : List Stmt} {tc : TT} {tb : TS} (hp : PassesOwn (model X.prog X.w) X.A X.env X.xe) (hc : PT X c tc) (hb : PSs X body tb) : PS X (.While c body [] pos) (tWhile tc tb) := by
  intro pins s σ H D I h
  obtain ⟨W, ⟨m0, w0⟩, turn⟩ := h
  refine wpAny_While (codeAny_whileLoop (fun n s' => ∃ σ' H', Inv X pins σ' H' s' ∧ W n σ' H') ?_ m0 ⟨σ, H, I, w0⟩)
  rintro n s1 ⟨σ1, H1, I1, w1⟩
  refine wpAny_passesOwn hp (thn (hc pins s1 σ1 H1 _ I1 (turn n σ1 H1 w1)) fun b s2 ⟨H2, I2, q2⟩ => ?_)
  cases b with
  | true =>
    obtain ⟨N, hN, q2⟩ := q2
    rw [if_pos rfl]
    refine wpAny_passesOwn hp (thn (hb pins s2 σ1 H2 _ I2 q2) fun f s3 q3 => ?_)
    cases f with
    | next =>
      obtain ⟨σ3, H3, I3, n3⟩ := q3
      obtain ⟨m', hm, w3⟩ := hN σ3 H3 n3
      exact ⟨m', hm, σ3, H3, I3, w3⟩
    | cont =>
      obtain ⟨σ3, H3, I3, n3⟩ := q3
      obtain ⟨m', hm, w3⟩ := hN σ3 H3 n3
      exact ⟨m', hm, σ3, H3, I3, w3⟩
    | brk => exact q3
    | ret v => exact q3
  | false =>
    rw [if_neg Bool.false_ne_true]
    exact wpAny_execs_nil ⟨σ1, H2, I2, q2⟩
end

/-! ### what a loop or a comprehension walks -/
/-- at turn i: it yields x (the heap may grow), or it stops -/
structure It where
  go : Nat → Hp → Prop
  yld : Nat → Hp → V → Hp → Prop
  stop : Nat → Hp → Prop
/-- the iterator's own objects may turn: they are not the frame's, not pinned, younger than the entry (or a comprehension's own) -/
def FpOk (X : Cx) (pins : List (Addr × Obj)) (H : Hp) (b : Addr) : Prop :=
  H b = none ∧ b ≠ X.env.locals ∧ b ∉ X.fs ∧ (b ∈ X.ex ∨ X.s₀.heap.objs.size ≤ b) ∧ (∀ x c, X.env.cells.lookup x = some c → c ≠ b) ∧ ∀ p ∈ X.pn ++ pins, p.1 ≠ b
theorem Inv.fpOk {X : Cx} {pins : List (Addr × Obj)} {σ : St} {H H' : Hp} {s : Shared} {b : Addr} (I : Inv X pins σ H s) (hb : s.heap.objs.size ≤ b) (hn : H' b = none) : FpOk X pins H' b := by
  refine ⟨hn, Nat.ne_of_gt (Nat.lt_of_lt_of_le I.lt hb), I.nofs hb, .inr (Nat.le_trans I.sz hb), fun x c e z => ?_, fun p hp z => ?_⟩
  · obtain ⟨v, q⟩ := I.cell x c e
    exact absurd (Nat.lt_of_lt_of_le q.lt (by rw [z]; exact hb)) (Nat.lt_irrefl _)
  · exact absurd (Nat.lt_of_lt_of_le (Heap.lt_size (I.pin p hp).1) (by rw [z]; exact hb)) (Nat.lt_irrefl _)
structure Turn (P : Program) (w : World) (K : PySem.W.Frag) (tg : Expr) (J : It) (fp : List Addr) (it : Addr) (tn : Nat → Heap → Prop) : Prop where
  mem : it ∈ fp
  obj : ∀ i h, tn i h → ∀ b ∈ fp, ∃ o, h.get? b = some o ∧ ∀ v, o.data ≠ .cell v
  keep : ∀ i h h', tn i h → (∀ b ∈ fp, ∀ o, h.get? b = some o → h'.get? b = some o) → tn i h'
  item : ∀ (X : Cx), X.prog = P → X.w = w → X.K = K → X.calm = true → ∀ (i : Nat) (pins : List (Addr × Obj)) (s : Shared) (σ : St) (H : Hp) (E : Value → Shared → Prop), Inv X pins σ H s → (∀ b ∈ fp, FpOk X pins H b) → tn i s.heap → J.go i H →
    wpAny (model P w) X.A (pyNext (.ref it)) (fun r s1 => ∃ u, r = some u ∧
      wpAny (model P w) X.A (letOwnedTupleGo tg (.ref it) u) (fun _ s2 => ∃ x H', Inv X pins σ H' s2 ∧ RelV x u ∧ J.yld i H x H' ∧ tn (i + 1) s2.heap ∧ ∀ b ∈ fp, H' b = none) E s1) E s
  done : ∀ (X : Cx), X.prog = P → X.w = w → X.K = K → X.calm = true → ∀ (i : Nat) (pins : List (Addr × Obj)) (s : Shared) (σ : St) (H : Hp) (E : Value → Shared → Prop), Inv X pins σ H s → (∀ b ∈ fp, FpOk X pins H b) → tn i s.heap → J.stop i H →
    wpAny (model P w) X.A (pyNext (.ref it)) (fun r s1 => r = none ∧ Inv X pins σ H s1) E s
  self : ∀ (A : Around) (i : Nat) (s : Shared) (Q : Value → Shared → Prop) (E : Value → Shared → Prop), tn i s.heap → Q (.ref it) s → wpAny (model P w) A (pyIter (.ref it)) Q E s
abbrev TI := St → Hp → (It → Hp → Prop) → Prop
/-- an iterator has come -/
def PIE (X : Cx) (pins : List (Addr × Obj)) (σ : St) (tg : Expr) (R : It → Hp → Prop) (itv : Value) (s2 : Shared) : Prop :=
  ∃ (it : Addr) (fp : List Addr) (tn : Nat → Heap → Prop) (J : It) (H' : Hp), itv = .ref it ∧ Inv X pins σ H' s2 ∧ Turn X.prog X.w X.K tg J fp it tn ∧ tn 0 s2.heap ∧ (∀ b ∈ fp, FpOk X pins H' b) ∧ R J H'
def PI (X : Cx) (tg iter : Expr) (wi : TI) : Prop :=
  ∀ (pins : List (Addr × Obj)) (s : Shared) (σ : St) (H : Hp) (R : It → Hp → Prop), Inv X pins σ H s → wi σ H R →
    wpAny (model X.prog X.w) X.A (eval iter X.env) (fun v s1 => wpAny (model X.prog X.w) X.A (pyIter v) (PIE X pins σ tg R) X.xe s1) X.xe s

/-- the step ahead of the store is nothing for an iterator that keeps no tuple -/
theorem go_of {M : Model} {A : Around} {E : Value → Shared → Prop} {s : Shared} {tg : Expr} {it : Addr} {u : Value} {o : Obj} {n : String} {vs : Array Value} {Q : Unit → Shared → Prop} (ho : s.heap.get? it = some o) (hc : o.cls = .type n) (hd : o.data = .fields vs)
    (hn : ["enumerate", "zip", "dict_itemiterator", "dict_reverseitemiterator", "odict_iterator", "itertools.zip_longest", "itertools.pairwise"].contains n = false) (hQ : Q () s) : wpAny M A (letOwnedTupleGo tg (.ref it) u) Q E s := by
  unfold letOwnedTupleGo
  cases tg <;> first
    | exact wpAny_pure hQ
    | (cases u <;> first
        | exact wpAny_pure hQ
        | (refine wpAny_bind (wpAny_load ho ?_)
           rw [hc, hd]
           show wpAny M A (if (["enumerate", "zip", "dict_itemiterator", "dict_reverseitemiterator", "odict_iterator", "itertools.zip_longest", "itertools.pairwise"].contains n && vs[0]? == some (rawInt _)) = true then _ else _) Q E s
           rw [if_neg (by intro h; rw [hn, Bool.false_and] at h; cases h)]
           exact wpAny_pure hQ))

/-- the list at a, as it stands at each turn (a loop may append to it) -/
def Itl (K : PySem.W.Frag) (a : Addr) : It :=
  ⟨fun i H => ∃ xs x, SqL K H a xs ∧ xs[i]? = some x, fun i H x H' => H' = H ∧ ∀ xs, SqL K H a xs → xs[i]? = some x, fun i H => ∃ xs, SqL K H a xs ∧ xs.length ≤ i⟩
def Itt (K : PySem.W.Frag) (a : Addr) : It :=
  ⟨fun i H => ∃ xs x, SqT K H a xs ∧ xs[i]? = some x, fun i H x H' => H' = H ∧ ∀ xs, SqT K H a xs → xs[i]? = some x, fun i H => ∃ xs, SqT K H a xs ∧ xs.length ≤ i⟩
/-- lo, lo + 1, .. (n of them) -/
def Itr (lo : Int) (n : Nat) : It := ⟨fun i _ => i < n, fun i H x H' => H' = H ∧ x = .int (lo + i), fun i _ => n ≤ i⟩
theorem turn_list {P : Program} {w : World} {K : PySem.W.Frag} {tg : Expr} (a it : Addr) : Turn P w K tg (Itl K a) [it] it (fun i h => h.IsListIter it a i) where
  mem := by simp
  obj := fun i h st b hb => by
    have e : b = it := by simpa using hb
    subst e
    obtain ⟨o, e, c, d⟩ := st
    exact ⟨o, e, fun v z => by rw [d] at z; cases z⟩
  keep := fun i h h' st k => st.at fun o e => k it (by simp) o e
  item := by
    intro X hP hw hK hc i pins s σ H E I hf st hg
    subst hP hw hK
    obtain ⟨xs, x, hq, hx⟩ := hg
    obtain ⟨its, rv, p, hz⟩ := I.list hq
    obtain ⟨u, hu, ru⟩ := rv.get hx
    obtain ⟨f0, f1, f2, f3, f4, f5⟩ := hf it (by simp)
    refine wpAny_pyNext_list_item st p.isList (x := u) (by simpa using hu) fun h' st' sb => ?_
    have I1 : Inv X pins σ H { s with heap := h' } := I.turned (t' := s.toks) (fun b o hb e => (sb.2 b hb).trans e) f0 f1 f3 f4 f5
    obtain ⟨o, e, c, d⟩ := id st'
    exact ⟨u, rfl, go_of (s := { s with heap := h' }) e c d (by decide) ⟨x, H, I1, ru, ⟨rfl, fun ys hy => by rw [I.list_inj hy hq]; exact hx⟩, st', fun b hb => (hf b hb).1⟩⟩
  done := by
    intro X hP hw hK hc i pins s σ H E I hf st hg
    subst hP hw hK
    obtain ⟨xs, hq, hx⟩ := hg
    obtain ⟨its, rv, p, hz⟩ := I.list hq
    obtain ⟨f0, f1, f2, f3, f4, f5⟩ := hf it (by simp)
    have hl := rv.length
    exact wpAny_pyNext_list_end (I.ok.hd hc) st p.isList (by simp; omega) fun h' eb => ⟨rfl, I.turned (t' := s.toks) (fun b o hb e => eb b o hb e) f0 f1 f3 f4 f5⟩
  self := fun _ _ _ _ _ st h => wpAny_pyIter_listiter st h
theorem turn_tuple {P : Program} {w : World} {K : PySem.W.Frag} {tg : Expr} (a it : Addr) : Turn P w K tg (Itt K a) [it] it (fun i h => h.IsTupleIter it a i) where
  mem := by simp
  obj := fun i h st b hb => by
    have e : b = it := by simpa using hb
    subst e
    obtain ⟨o, e, c, d⟩ := st
    exact ⟨o, e, fun v z => by rw [d] at z; cases z⟩
  keep := fun i h h' st k => st.at fun o e => k it (by simp) o e
  item := by
    intro X hP hw hK hc i pins s σ H E I hf st hg
    subst hP hw hK
    obtain ⟨xs, x, hq, hx⟩ := hg
    obtain ⟨its, rv, p, hz⟩ := I.tuple hq
    obtain ⟨u, hu, ru⟩ := rv.get hx
    obtain ⟨f0, f1, f2, f3, f4, f5⟩ := hf it (by simp)
    refine wpAny_pyNext_tuple_item st (show s.heap.IsTuple a its.toArray from p) (x := u) (by simpa using hu) fun h' st' sb => ?_
    have I1 : Inv X pins σ H { s with heap := h' } := I.turned (t' := s.toks) (fun b o hb e => (sb.2 b hb).trans e) f0 f1 f3 f4 f5
    obtain ⟨o, e, c, d⟩ := id st'
    exact ⟨u, rfl, go_of (s := { s with heap := h' }) e c d (by decide) ⟨x, H, I1, ru, ⟨rfl, fun ys hy => by rw [I.tuple_inj hy hq]; exact hx⟩, st', fun b hb => (hf b hb).1⟩⟩
  done := by
    intro X hP hw hK hc i pins s σ H E I hf st hg
    subst hP hw hK
    obtain ⟨xs, hq, hx⟩ := hg
    obtain ⟨its, rv, p, hz⟩ := I.tuple hq
    obtain ⟨f0, f1, f2, f3, f4, f5⟩ := hf it (by simp)
    have hl := rv.length
    exact wpAny_pyNext_tuple_end (I.ok.hd hc) st (show s.heap.IsTuple a its.toArray from p) (by simp; omega) fun h' eb => ⟨rfl, I.turned (t' := s.toks) (fun b o hb e => eb b o hb e) f0 f1 f3 f4 f5⟩
  self := fun _ _ _ _ _ st h => wpAny_pyIter_tupleiter st h
theorem turn_range {P : Program} {w : World} {K : PySem.W.Frag} {tg : Expr} (it : Addr) (lo : Int) (n : Nat) : Turn P w K tg (Itr lo n) [it] it (fun i h => IsRangeIter h it (lo + (i : Nat) * 1) ((n : Int) - (i : Nat)) 1) where
  mem := by simp
  obj := fun i h st b hb => by
    have e : b = it := by simpa using hb
    subst e
    exact ⟨_, st, fun v z => by
      have z' : Data.fields _ = Data.cell v := z
      cases z'⟩
  keep := fun i h h' st k => k it (by simp) _ st
  item := by
    intro X hP hw hK hc i pins s σ H E I hf st hg
    subst hP hw hK
    obtain ⟨f0, f1, f2, f3, f4, f5⟩ := hf it (by simp)
    have W := Walks.range (prog := X.prog) (w := X.w) (I.ok.hd hc) it lo 1 n
    refine W.item i s _ _ hg st fun v h' tk hv st' kk => ?_
    obtain ⟨t, rfl⟩ := hv
    have I1 : Inv X pins σ H { s with heap := h', toks := tk } := I.turned (fun b o hb e => kk b o (by simpa using hb) e) f0 f1 f3 f4 f5
    refine ⟨_, rfl, go_of (s := { s with heap := h', toks := tk }) (n := "range_iterator") st' rfl rfl (by decide) ⟨.int (lo + i), H, I1, ⟨t, ?_⟩, ⟨rfl, rfl⟩, st', fun b hb => (hf b hb).1⟩⟩
    rw [Int.mul_one]
  done := by
    intro X hP hw hK hc i pins s σ H E I hf st hg
    subst hP hw hK
    obtain ⟨f0, f1, f2, f3, f4, f5⟩ := hf it (by simp)
    exact wpAny_pyNext_range_end (I.ok.hd hc) st (by have : n ≤ i := hg; omega) fun h' eb => ⟨rfl, I.turned (t' := s.toks) (fun b o hb e => eb b o hb e) f0 f1 f3 f4 f5⟩
  self := fun _ _ _ _ _ st h => wpAny_pyIter_rangeiter st h
end L2

namespace L2
open PySem PySem.Spec PyProof.Rows
section
variable {X : Cx} {tg : Expr}
def iList (K : PySem.W.Frag) (tl : TE) : TI := fun σ H R => tl σ H fun x H1 => ∃ a, x = .ref a ∧ (∃ xs, SqL K H1 a xs) ∧ R (Itl K a) H1
def iTup (K : PySem.W.Frag) (tl : TE) : TI := fun σ H R => tl σ H fun x H1 => ∃ a, x = .ref a ∧ (∃ xs, SqT K H1 a xs) ∧ R (Itt K a) H1
theorem pi_list {l : Expr} {tl : TE} (hl : PE X l tl) : PI X tg l (iList X.K tl) := by
  intro pins s σ H R I h
  refine thn (hl pins s σ H _ I h) fun v s1 ⟨x, H1, I1, r1, q1⟩ => ?_
  obtain ⟨a, e, ⟨xs, hq⟩, q⟩ := q1
  subst e
  cases r1
  obtain ⟨its, rv, p, hz⟩ := I1.list hq
  refine wpAny_pyIter_list p.isList ?_
  refine ⟨s1.heap.objs.size, [s1.heap.objs.size], _, _, H1, rfl, I1.kept (t' := s1.toks) fun b o e => Heap.get?_push_of_some _ e, turn_list a _, ⟨_, Heap.get?_push_size _ rfl, rfl, rfl⟩, fun b hb => ?_, q⟩
  have e : b = s1.heap.objs.size := by simpa using hb
  subst e
  exact I1.fpOk (Nat.le_refl _) (I1.hok.fresh (Nat.le_refl _))
theorem pi_tup {l : Expr} {tl : TE} (hl : PE X l tl) : PI X tg l (iTup X.K tl) := by
  intro pins s σ H R I h
  refine thn (hl pins s σ H _ I h) fun v s1 ⟨x, H1, I1, r1, q1⟩ => ?_
  obtain ⟨a, e, ⟨xs, hq⟩, q⟩ := q1
  subst e
  cases r1
  obtain ⟨its, rv, p, hz⟩ := I1.tuple hq
  refine wpAny_pyIter_tuple (show s1.heap.IsTuple a its.toArray from p) ?_
  refine ⟨s1.heap.objs.size, [s1.heap.objs.size], _, _, H1, rfl, I1.kept (t' := s1.toks) fun b o e => Heap.get?_push_of_some _ e, turn_tuple a _, ⟨_, Heap.get?_push_size _ rfl, rfl, rfl⟩, fun b hb => ?_, q⟩
  have e : b = s1.heap.objs.size := by simpa using hb
  subst e
  exact I1.fpOk (Nat.le_refl _) (I1.hok.fresh (Nat.le_refl _))
/-- a range object just made, walked -/
theorem range_it {pins : List (Addr × Obj)} {σ : St} {H : Hp} {s : Shared} {R : It → Hp → Prop} {E : Value → Shared → Prop} {lo hi : Int} {t u v : Tok} {tk : Nat} (I : Inv X pins σ H s) (h1 : -(2 ^ 62) ≤ lo) (h2 : lo < 2 ^ 62) (h3 : -(2 ^ 62) ≤ hi) (h4 : hi < 2 ^ 62)
    (q : R (Itr lo (hi - lo).toNat) H) : wpAny (model X.prog X.w) X.A (pyIter (.ref s.heap.objs.size)) (PIE X pins σ tg R) E { s with heap := s.heap.push { cls := .type "range", data := .fields #[.int lo t, .int hi u, .int 1 v] }, toks := tk } := by
  refine wpAny_pyIter_range (IsRange.new ..) (small_one h1 h2 h3 h4) ?_
  have I1 : Inv X pins σ H { s with heap := s.heap.push { cls := .type "range", data := .fields #[.int lo t, .int hi u, .int 1 v] }, toks := tk } := I.kept fun b o e => Heap.get?_push_of_some _ e
  refine ⟨(s.heap.push { cls := .type "range", data := .fields #[.int lo t, .int hi u, .int 1 v] }).objs.size, [(s.heap.push { cls := .type "range", data := .fields #[.int lo t, .int hi u, .int 1 v] }).objs.size], _, _, H, rfl,
    I1.kept (t' := tk) fun b o e => Heap.get?_push_of_some _ e, turn_range _ lo (hi - lo).toNat, ?_, fun b hb => ?_, q⟩
  · have e1 : lo + ((0 : Nat) : Int) * 1 = lo := by simp
    have e2 : (((hi - lo).toNat : Nat) : Int) - ((0 : Nat) : Int) = Builtin.Range.rangeSize lo hi 1 := by rw [rangeSize_one]; split <;> omega
    show IsRangeIter _ _ (lo + ((0 : Nat) : Int) * 1) ((((hi - lo).toNat : Nat) : Int) - ((0 : Nat) : Int)) 1
    rw [e1, e2]
    exact Heap.get?_push_size _ rfl
  · have e : b = (s.heap.push { cls := .type "range", data := .fields #[.int lo t, .int hi u, .int 1 v] }).objs.size := by simpa using hb
    subst e
    exact I1.fpOk (Nat.le_refl _) (I1.hok.fresh (Nat.le_refl _))
def iRng1 (ta : TA) : TI := fun σ H R => ta σ H fun vs H1 => ∃ j : Int, vs = [.int j] ∧ -(2 ^ 62) ≤ j ∧ j < 2 ^ 62 ∧ R (Itr 0 j.toNat) H1
def iRng2 (ta : TA) : TI := fun σ H R => ta σ H fun vs H1 => ∃ i j : Int, vs = [.int i, .int j] ∧ (-(2 ^ 62) ≤ i ∧ i < 2 ^ 62 ∧ -(2 ^ 62) ≤ j ∧ j < 2 ^ 62) ∧ R (Itr i (j - i).toNat) H1
theorem pi_range1 {a : Expr} {ta : TA} {p pos : Pos} (hg : Gl X "range") (hm : X.mg "range" = none) (ha : PA X [a] ta) (hs : starEach [a] X.env = [(false, eval a X.env)] := by rfl) : PI X tg (.Call (.Name "range" p) [a] [] pos) (iRng1 ta) := by
  intro pins s σ H R I h
  refine Call_ (ld_blt I hg hm boot_range (PyProof.Rows.callWith_type1 (thn (ha pos pins s σ H _ I h) fun us s1 ⟨vs, H1, I1, r1, q1⟩ => ?_) hs rfl))
  obtain ⟨j, e, q1, q2, q⟩ := q1
  subst e
  cases r1 with
  | cons r rr =>
    cases rr
    obtain ⟨t, rfl⟩ := r
    exact call_range_1 (range_it I1 (by omega) (by omega) q1 q2 (by simpa using q))
theorem pi_range2 {a b : Expr} {ta : TA} {p pos : Pos} (hg : Gl X "range") (hm : X.mg "range" = none) (ha : PA X [a, b] ta) (hs : starEach [a, b] X.env = [(false, eval a X.env), (false, eval b X.env)] := by rfl) (hs2 : starEach [b] X.env = [(false, eval b X.env)] := by rfl) :
    PI X tg (.Call (.Name "range" p) [a, b] [] pos) (iRng2 ta) := by
  intro pins s σ H R I h
  refine Call_ (ld_blt I hg hm boot_range (PyProof.Rows.callWith_type1 (thn (ha pos pins s σ H _ I h) fun us s1 ⟨vs, H1, I1, r1, q1⟩ => ?_) (by rw [hs, hs2]) (by rw [hs2]; rfl)))
  obtain ⟨i, j, e, ⟨q1, q2, q3, q4⟩, q⟩ := q1
  subst e
  cases r1 with
  | cons r rr =>
    cases rr with
    | cons r' rr =>
      cases rr
      obtain ⟨t, rfl⟩ := r
      obtain ⟨t', rfl⟩ := r'
      exact call_range_2 (range_it I1 q1 q2 q3 q4 q)

/-! ### for -/
/-- W: the invariant by the turn and a measure; N: what the body is to reach -/
def tFor (wi : TI) (g : TG) (tb : TS) : TS := fun D σ H => wi σ H fun J H1 => ∃ W : Nat → Nat → St → Hp → Prop, (∃ m, W 0 m σ H1) ∧ ∀ i m σ H, W i m σ H →
  (J.stop i H ∧ D.nx σ H) ∨ (J.go i H ∧ ∃ N : St → Hp → Prop, (∀ σ' H', N σ' H' → ∃ m', m' < m ∧ W (i + 1) m' σ' H') ∧ ∀ x H', J.yld i H x H' → g x σ H' fun σ2 H2 => tb { D with nx := N, ct := N, bk := D.nx } σ2 H2)
/-- the records at fp as they stand -/
def pinsAt (fp : List Addr) (h : Heap) : List (Addr × Obj) := fp.filterMap fun b => (h.get? b).map fun o => (b, o)
theorem mem_pinsAt {fp : List Addr} {h : Heap} {b : Addr} {o : Obj} (hb : b ∈ fp) (e : h.get? b = some o) : (b, o) ∈ pinsAt fp h := List.mem_filterMap.mpr ⟨b, hb, by rw [e]; rfl⟩
theorem of_pinsAt {fp : List Addr} {h : Heap} {p : Addr × Obj} (hp : p ∈ pinsAt fp h) : p.1 ∈ fp ∧ h.get? p.1 = some p.2 := by
  obtain ⟨b, hb, e⟩ := List.mem_filterMap.mp hp
  cases q : h.get? b with
  | none => rw [q] at e; cases e
  | some o =>
    rw [q] at e
    have e' : (b, o) = p := Option.some.inj e
    subst e'
    exact ⟨hb, q⟩
theorem Inv.pinned {pins : List (Addr × Obj)} {σ : St} {H : Hp} {s : Shared} {fp : List Addr} (I : Inv X pins σ H s) (hf : ∀ b ∈ fp, FpOk X pins H b) (ho : ∀ b ∈ fp, ∃ o, s.heap.get? b = some o ∧ ∀ v, o.data ≠ .cell v) : Inv X (pins ++ pinsAt fp s.heap) σ H s :=
  I.pins_of fun p hp => (List.mem_append.mp hp).elim (fun z => I.pin p (List.mem_append_right _ z)) fun z => by
    obtain ⟨hb, e⟩ := of_pinsAt z
    obtain ⟨f0, f1, f2, _⟩ := hf p.1 hb
    obtain ⟨o, e', d⟩ := ho p.1 hb
    rw [e] at e'; cases e'
    exact ⟨e, f0, f1, f2, d⟩
theorem Inv.unpinned {pins pl : List (Addr × Obj)} {σ : St} {H : Hp} {s : Shared} (I : Inv X (pins ++ pl) σ H s) : Inv X pins σ H s := I.pins_of fun p hp => I.pin p (List.mem_append_right _ (List.mem_append_left _ hp))
theorem ps_for {iter : Expr} {body : List Stmt} {wi : TI} {g : TG} {tb : TS} {pos : Pos} (hp : PassesOwn (model X.prog X.w) X.A X.env X.xe) (hc : X.calm = true) (hi : PI X tg iter wi) (hg : PG X tg g) (hb : PSs X body tb)
    (hs : ∀ x, foldedSetIterable iter X.env x = pure x := by intro _; rfl) : PS X (.For tg iter body [] pos) (tFor wi g tb) := by
  intro pins s σ H D I h
  refine wpAny_For (thn (hi pins s σ H _ I h) fun v s1 h1 => thn h1 fun itv s2 h2 => ?_) hs
  obtain ⟨it, fp, tn, J, H2, e, I2, T, st2, f2, W, ⟨m0, w0⟩, turn⟩ := h2
  subst e
  -- what stays true of the iterator's objects through the loop
  have stat : ∀ {H' : Hp}, (∀ b ∈ fp, H' b = none) → ∀ b ∈ fp, FpOk X pins H' b := fun hn b hb => ⟨hn b hb, (f2 b hb).2⟩
  refine codeAny_forLoop_any (fun n s' => ∃ i σ' H', Inv X pins σ' H' s' ∧ tn i s'.heap ∧ (∀ b ∈ fp, H' b = none) ∧ W i n σ' H') ?_ m0 ⟨0, σ, H2, I2, st2, fun b hb => (f2 b hb).1, w0⟩
  rintro n s3 ⟨i, σ3, H3, I3, st3, fr3, w3⟩
  rcases turn i n σ3 H3 w3 with ⟨stop, qn⟩ | ⟨go, N, hN, step⟩
  · refine wpAny_passesOwn hp (thn (T.done X rfl rfl rfl hc i pins s3 σ3 H3 X.xe I3 (stat fr3) st3 stop) fun r s4 ⟨hr, I4⟩ => ?_)
    subst hr
    exact wpAny_execs_nil ⟨σ3, H3, I4, qn⟩
  · refine wpAny_passesOwn hp (thn (T.item X rfl rfl rfl hc i pins s3 σ3 H3 X.xe I3 (stat fr3) st3 go) fun r s4 ⟨u, hr, h4⟩ => ?_)
    subst hr
    refine wpAny_passesOwn hp (thn h4 fun _ s5 ⟨x, H5, I5, r5, y5, st5, fr5⟩ => ?_)
    have I5' := I5.pinned (stat fr5) (T.obj _ _ st5)
    refine wpAny_passesOwn hp (thn (hg _ s5 σ3 H5 x u _ I5' r5 (step x H5 y5)) fun _ s6 ⟨σ6, H6, I6, q6⟩ => ?_)
    refine wpAny_passesOwn hp (thn (hb _ s6 σ6 H6 _ I6 q6) fun f s7 q7 => ?_)
    have again : ∀ {σ7 : St} {H7 : Hp}, Inv X (pins ++ pinsAt fp s5.heap) σ7 H7 s7 → N σ7 H7 → ∃ m, m < n ∧ ∃ i σ' H', Inv X pins σ' H' s7 ∧ tn i s7.heap ∧ (∀ b ∈ fp, H' b = none) ∧ W i m σ' H' := fun {σ7 H7} I7 n7 => by
      obtain ⟨m', hm, w7⟩ := hN σ7 H7 n7
      refine ⟨m', hm, i + 1, σ7, H7, I7.unpinned, T.keep _ _ _ st5 fun b hb o e => (I7.pin (b, o) (List.mem_append_right _ (List.mem_append_right _ (mem_pinsAt hb e)))).1, fun b hb => ?_, w7⟩
      obtain ⟨o, e, d⟩ := T.obj _ _ st5 b hb
      exact (I7.pin (b, o) (List.mem_append_right _ (List.mem_append_right _ (mem_pinsAt hb e)))).2.1
    cases f with
    | next => obtain ⟨σ7, H7, I7, n7⟩ := q7; exact again I7 n7
    | cont => obtain ⟨σ7, H7, I7, n7⟩ := q7; exact again I7 n7
    | brk => obtain ⟨σ7, H7, I7, q7⟩ := q7; exact ⟨σ7, H7, I7.unpinned, q7⟩
    | ret v => obtain ⟨x7, σ7, H7, I7, r7, q7⟩ := q7; exact ⟨x7, σ7, H7, I7.unpinned, r7, q7⟩
end

/-! ### the forms one uses -/
/-- over a list that the body leaves as it is -/
theorem for_list {K : PySem.W.Frag} {a : Addr} {xs : List V} {g : TG} {tb : TS} {D : Ends} {σ : St} {H : Hp} (Pv : Nat → St → Hp → Prop) (h0 : Pv 0 σ H) (hl : ∀ i σ H, i ≤ xs.length → Pv i σ H → SqL K H a xs)
    (hs : ∀ i x σ H, xs[i]? = some x → Pv i σ H → g x σ H fun σ2 H2 => tb { D with nx := Pv (i + 1), ct := Pv (i + 1), bk := D.nx } σ2 H2) (hd : ∀ σ H, Pv xs.length σ H → D.nx σ H) :
    ∃ W : Nat → Nat → St → Hp → Prop, (∃ m, W 0 m σ H) ∧ ∀ i m σ H, W i m σ H →
      ((Itl K a).stop i H ∧ D.nx σ H) ∨ ((Itl K a).go i H ∧ ∃ N : St → Hp → Prop, (∀ σ' H', N σ' H' → ∃ m', m' < m ∧ W (i + 1) m' σ' H') ∧ ∀ x H', (Itl K a).yld i H x H' → g x σ H' fun σ2 H2 => tb { D with nx := N, ct := N, bk := D.nx } σ2 H2) := by
  refine ⟨fun i m σ H => m = xs.length - i ∧ i ≤ xs.length ∧ Pv i σ H, ⟨xs.length, by simp, Nat.zero_le _, h0⟩, ?_⟩
  rintro i m σ H ⟨rfl, hi, p⟩
  have q := hl i σ H hi p
  by_cases hlt : i < xs.length
  · refine .inr ⟨⟨xs, xs[i], q, by simp [hlt]⟩, Pv (i + 1), fun σ' H' p' => ⟨xs.length - (i + 1), by omega, rfl, hlt, p'⟩, fun x H' y => ?_⟩
    obtain ⟨e, y⟩ := y
    subst e
    exact hs i x σ _ (y xs q) p
  · have e : i = xs.length := by omega
    subst e
    exact .inl ⟨⟨xs, q, Nat.le_refl _⟩, hd σ H p⟩
theorem for_tup {K : PySem.W.Frag} {a : Addr} {xs : List V} {g : TG} {tb : TS} {D : Ends} {σ : St} {H : Hp} (Pv : Nat → St → Hp → Prop) (h0 : Pv 0 σ H) (hl : ∀ i σ H, i ≤ xs.length → Pv i σ H → SqT K H a xs)
    (hs : ∀ i x σ H, xs[i]? = some x → Pv i σ H → g x σ H fun σ2 H2 => tb { D with nx := Pv (i + 1), ct := Pv (i + 1), bk := D.nx } σ2 H2) (hd : ∀ σ H, Pv xs.length σ H → D.nx σ H) :
    ∃ W : Nat → Nat → St → Hp → Prop, (∃ m, W 0 m σ H) ∧ ∀ i m σ H, W i m σ H →
      ((Itt K a).stop i H ∧ D.nx σ H) ∨ ((Itt K a).go i H ∧ ∃ N : St → Hp → Prop, (∀ σ' H', N σ' H' → ∃ m', m' < m ∧ W (i + 1) m' σ' H') ∧ ∀ x H', (Itt K a).yld i H x H' → g x σ H' fun σ2 H2 => tb { D with nx := N, ct := N, bk := D.nx } σ2 H2) := by
  refine ⟨fun i m σ H => m = xs.length - i ∧ i ≤ xs.length ∧ Pv i σ H, ⟨xs.length, by simp, Nat.zero_le _, h0⟩, ?_⟩
  rintro i m σ H ⟨rfl, hi, p⟩
  have q := hl i σ H hi p
  by_cases hlt : i < xs.length
  · refine .inr ⟨⟨xs, xs[i], q, by simp [hlt]⟩, Pv (i + 1), fun σ' H' p' => ⟨xs.length - (i + 1), by omega, rfl, hlt, p'⟩, fun x H' y => ?_⟩
    obtain ⟨e, y⟩ := y
    subst e
    exact hs i x σ _ (y xs q) p
  · have e : i = xs.length := by omega
    subst e
    exact .inl ⟨⟨xs, q, Nat.le_refl _⟩, hd σ H p⟩
theorem for_range {lo : Int} {n : Nat} {g : TG} {tb : TS} {D : Ends} {σ : St} {H : Hp} (Pv : Nat → St → Hp → Prop) (h0 : Pv 0 σ H)
    (hs : ∀ i σ H, i < n → Pv i σ H → g (.int (lo + i)) σ H fun σ2 H2 => tb { D with nx := Pv (i + 1), ct := Pv (i + 1), bk := D.nx } σ2 H2) (hd : ∀ σ H, Pv n σ H → D.nx σ H) :
    ∃ W : Nat → Nat → St → Hp → Prop, (∃ m, W 0 m σ H) ∧ ∀ i m σ H, W i m σ H →
      ((Itr lo n).stop i H ∧ D.nx σ H) ∨ ((Itr lo n).go i H ∧ ∃ N : St → Hp → Prop, (∀ σ' H', N σ' H' → ∃ m', m' < m ∧ W (i + 1) m' σ' H') ∧ ∀ x H', (Itr lo n).yld i H x H' → g x σ H' fun σ2 H2 => tb { D with nx := N, ct := N, bk := D.nx } σ2 H2) := by
  refine ⟨fun i m σ H => m = n - i ∧ i ≤ n ∧ Pv i σ H, ⟨n, by simp, Nat.zero_le _, h0⟩, ?_⟩
  rintro i m σ H ⟨rfl, hi, p⟩
  by_cases hlt : i < n
  · refine .inr ⟨hlt, Pv (i + 1), fun σ' H' p' => ⟨n - (i + 1), by omega, rfl, hlt, p'⟩, fun x H' y => ?_⟩
    obtain ⟨e, y⟩ := y
    subst e y
    exact hs i σ _ hlt p
  · have e : i = n := by omega
    subst e
    exact .inl ⟨Nat.le_refl _, hd σ H p⟩
/-- while, by a word and a measure of the state -/
theorem while_by {c : TT} {tb : TS} {D : Ends} {σ : St} {H : Hp} (Pv : St → Hp → Prop) (μ : St → Hp → Nat) (h0 : Pv σ H)
    (hs : ∀ σ H, Pv σ H → c σ H fun b H1 => if b = true then tb { D with nx := fun σ' H' => Pv σ' H' ∧ μ σ' H' < μ σ H, ct := fun σ' H' => Pv σ' H' ∧ μ σ' H' < μ σ H, bk := D.nx } σ H1 else D.nx σ H1)
    (mono : ∀ σ H Q Q', (∀ b H1, Q b H1 → Q' b H1) → c σ H Q → c σ H Q') : tWhile c tb D σ H := by
  refine ⟨fun m σ H => m = μ σ H ∧ Pv σ H, ⟨_, rfl, h0⟩, ?_⟩
  rintro m σ H ⟨rfl, p⟩
  refine mono σ H _ _ (fun b H1 q => ?_) (hs σ H p)
  cases b with
  | true => exact ⟨_, fun σ' H' ⟨p', l⟩ => ⟨_, l, rfl, p'⟩, q⟩
  | false => exact q
end L2

namespace L2
open PySem PySem.Spec PyProof.Rows

abbrev R2 := V → V → Hp → VK → Prop
/-- a two-place operation on values: f is binaryOp op, inplaceOp op or compareOp op -/
def OpR (X : Cx) (f : Value → Value → Sem Value) (r : R2) : Prop :=
  ∀ (pins : List (Addr × Obj)) (s : Shared) (σ : St) (H : Hp) (x y : V) (v u : Value) (Q : VK), Inv X pins σ H s → RelV x v → RelV y u → r x y H Q →
    wpAny (model X.prog X.w) X.A (f v u) (EP X pins σ Q) X.xe s
/-- a one-place operation -/
def UnR (X : Cx) (f : Value → Sem Value) (r : V → Hp → VK → Prop) : Prop :=
  ∀ (pins : List (Addr × Obj)) (s : Shared) (σ : St) (H : Hp) (x : V) (v : Value) (Q : VK), Inv X pins σ H s → RelV x v → r x H Q →
    wpAny (model X.prog X.w) X.A (f v) (EP X pins σ Q) X.xe s
/-- a call of a value that is known (a builtin, a type) with values -/
def CallR (X : Cx) (f : Value) (r : List V → Hp → VK → Prop) : Prop :=
  ∀ (pins : List (Addr × Obj)) (s : Shared) (σ : St) (H : Hp) (xs : List V) (us : List Value) (Q : VK), Inv X pins σ H s → Vals xs us → r xs H Q →
    wpAny (model X.prog X.w) X.A (call f us) (EP X pins σ Q) X.xe s
/-- a value's truth -/
def TruR (X : Cx) (r : V → Hp → (Bool → Hp → Prop) → Prop) : Prop :=
  ∀ (pins : List (Addr × Obj)) (s : Shared) (σ : St) (H : Hp) (x : V) (v : Value) (Q : Bool → Hp → Prop), Inv X pins σ H s → RelV x v → r x H Q →
    wpAny (model X.prog X.w) X.A (truthy v) (TP X pins σ Q) X.xe s

def tOp (r : R2) (ta tb : TE) : TE := fun σ H Q => ta σ H fun x H1 => tb σ H1 fun y H2 => r x y H2 Q
def tUn (r : V → Hp → VK → Prop) (ta : TE) : TE := fun σ H Q => ta σ H fun x H1 => r x H1 Q
/-- ints in, under C, and a value out -/
def rI (C : Int → Int → Prop) (g : Int → Int → V) : R2 := fun x y H Q => ∃ i j, x = .int i ∧ y = .int j ∧ C i j ∧ Q (g i j) H
def rI0 (g : Int → Int → V) : R2 := fun x y H Q => ∃ i j, x = .int i ∧ y = .int j ∧ Q (g i j) H
def rU (g : Int → V) : V → Hp → VK → Prop := fun x H Q => ∃ i, x = .int i ∧ Q (g i) H

section
variable {X : Cx} {a b c : Expr} {ta tb tc : TE} {pos : Pos}

theorem binT (ha : PE X a ta) (hb : PE X b tb) {pins : List (Addr × Obj)} {s : Shared} {σ : St} {H : Hp} {R : V → V → Hp → Prop} (I : Inv X pins σ H s)
    (h : ta σ H fun x H1 => tb σ H1 fun y H2 => R x y H2) {Q : Value → Shared → Prop} {f : Value → Value → Sem Value}
    (hf : ∀ v u s2 x y H2, Inv X pins σ H2 s2 → RelV x v → RelV y u → R x y H2 → wpAny (model X.prog X.w) X.A (f v u) Q X.xe s2) :
    wpAny (model X.prog X.w) X.A (eval a X.env) (fun v s₁ => wpAny (model X.prog X.w) X.A (eval b X.env) (fun u s₂ => wpAny (model X.prog X.w) X.A (f v u) Q X.xe s₂) X.xe s₁) X.xe s := by
  refine thn (ha pins s σ H _ I h) fun v s1 ⟨x, H1, I1, r1, q1⟩ => ?_
  refine thn (hb pins s1 σ H1 _ I1 q1) fun u s2 ⟨y, H2, I2, r2, q2⟩ => ?_
  exact hf v u s2 x y H2 I2 r1 r2 q2

theorem pe_op {op : Operator} {r : R2} (ho : OpR X (binaryOp op) r) (ha : PE X a ta) (hb : PE X b tb) : PE X (.BinOp a op b pos) (tOp r ta tb) := by
  intro pins s σ H Q I h
  exact wpAny_BinOp (binT ha hb I h fun v u s2 x y H2 I2 rx ry q => ho pins s2 σ H2 x y v u Q I2 rx ry q)
theorem pe_un {op : UnaryOp} {r : V → Hp → VK → Prop} (ho : UnR X (unaryOp op) r) (ha : PE X a ta) : PE X (.UnaryOp op a pos) (tUn r ta) := by
  intro pins s σ H Q I h
  exact UnaryOp_ (thn (ha pins s σ H _ I h) fun v s1 ⟨x, H1, I1, r1, q1⟩ => ho pins s1 σ H1 x v Q I1 r1 q1)
/-- a op= e at a name: the name's slot i -/
theorem augR {op : Operator} {r : R2} (ho : OpR X (inplaceOp op) r) {pins : List (Addr × Obj)} {s : Shared} {σ : St} {H : Hp} {x y : V} {v u : Value} {Q : VK} (I : Inv X pins σ H s)
    (rx : RelV x v) (ry : RelV y u) (q : r x y H Q) : wpAny (model X.prog X.w) X.A (inplaceOp op v u) (EP X pins σ Q) X.xe s := ho pins s σ H x y v u Q I rx ry q

/-! ### ints -/
theorem opI {f : Value → Value → Sem Value} {C : Int → Int → Prop} {g : Int → Int → Int}
    (rule : ∀ (i j : Int) (t u : Tok) (s : Shared) (Q : Value → Shared → Prop) (E : Value → Shared → Prop), C i j → Q (.int (g i j) s.toks) { s with toks := s.toks + 1 } → wpAny (model X.prog X.w) X.A (f (.int i t) (.int j u)) Q E s) :
    OpR X f (rI C fun i j => .int (g i j)) := by
  intro pins s σ H x y v u Q I rx ry h
  obtain ⟨i, j, rfl, rfl, hc, q⟩ := h
  obtain ⟨t, rfl⟩ := rx
  obtain ⟨t', rfl⟩ := ry
  exact rule i j t t' s _ _ hc ⟨.int (g i j), H, I.tok _, ⟨_, rfl⟩, q⟩
theorem opI0 {f : Value → Value → Sem Value} {g : Int → Int → Int}
    (rule : ∀ (i j : Int) (t u : Tok) (s : Shared) (Q : Value → Shared → Prop) (E : Value → Shared → Prop), Q (.int (g i j) s.toks) { s with toks := s.toks + 1 } → wpAny (model X.prog X.w) X.A (f (.int i t) (.int j u)) Q E s) :
    OpR X f (rI0 fun i j => .int (g i j)) := by
  intro pins s σ H x y v u Q I rx ry h
  obtain ⟨i, j, rfl, rfl, q⟩ := h
  obtain ⟨t, rfl⟩ := rx
  obtain ⟨t', rfl⟩ := ry
  exact rule i j t t' s _ _ ⟨.int (g i j), H, I.tok _, ⟨_, rfl⟩, q⟩
theorem opB0 {f : Value → Value → Sem Value} {g : Int → Int → Bool}
    (rule : ∀ (i j : Int) (t u : Tok) (s : Shared) (Q : Value → Shared → Prop) (E : Value → Shared → Prop), Q (.bool (g i j)) s → wpAny (model X.prog X.w) X.A (f (.int i t) (.int j u)) Q E s) :
    OpR X f (rI0 fun i j => .bl (g i j)) := by
  intro pins s σ H x y v u Q I rx ry h
  obtain ⟨i, j, rfl, rfl, q⟩ := h
  obtain ⟨t, rfl⟩ := rx
  obtain ⟨t', rfl⟩ := ry
  exact rule i j t t' s _ _ ⟨.bl (g i j), H, I, rfl, q⟩

def CDiv (i j : Int) : Prop := 0 < j ∧ j < 1073741824
def CDivN (i j : Int) : Prop := j ≠ 0 ∧ j.natAbs < 1073741824
def CPow (i j : Int) : Prop := 0 ≤ j ∧ j ≤ 1000000 ∧ i.natAbs < 2 ^ 64
def CMul (i j : Int) : Prop := (-(2 ^ 64) < i ∧ i < 2 ^ 64) ∨ (-(2 ^ 64) < j ∧ j < 2 ^ 64)
theorem CMul.ok {i j : Int} (h : CMul i j) : IntMulOk i j := by
  rcases h with ⟨h1, h2⟩ | ⟨h1, h2⟩
  · exact .of_left (intBits_le_64 h1 h2)
  · exact .of_right (intBits_le_64 h1 h2)
theorem two_pow_nn (k : Nat) : (0 : Int) ≤ 2 ^ k := by
  rw [two_pow_cast]
  exact Int.natCast_nonneg _

theorem op_add : OpR X (binaryOp .Add) (rI0 fun i j => .int (i + j)) := opI0 fun _ _ _ _ _ _ _ q => add_int q
theorem op_sub : OpR X (binaryOp .Sub) (rI0 fun i j => .int (i - j)) := opI0 fun _ _ _ _ _ _ _ q => sub_int q
theorem op_mul : OpR X (binaryOp .Mult) (rI CMul fun i j => .int (i * j)) := opI fun _ _ _ _ _ _ _ hc q => mul_int q hc.ok
/-- // by a positive divisor -/
theorem op_fdiv : OpR X (binaryOp .FloorDiv) (rI CDiv fun i j => .int (i / j)) := opI fun i j _ _ _ _ _ hc q => by
  have h1 : (0 : Int) < j := hc.1
  have h2 : j < 1073741824 := hc.2
  exact floordiv_int (by omega) (by rw [Int.fdiv_eq_ediv_of_nonneg i (by omega)]; exact q) (.inl (PyProof.noPylong_small (by omega)))
theorem op_fdivN : OpR X (binaryOp .FloorDiv) (rI CDivN fun i j => .int (i.fdiv j)) := opI fun _ _ _ _ _ _ _ hc q => floordiv_int hc.1 q (.inl (PyProof.noPylong_small hc.2))
/-- % by a positive divisor of any size -/
theorem op_mod : OpR X (binaryOp .Mod) (rI (fun _ j => 0 < j) fun i j => .int (i % j)) := opI fun i j _ _ _ _ _ hc q => by
  have h1 : (0 : Int) < j := hc
  exact mod_int' (by omega) (by rw [Int.fmod_eq_emod_of_nonneg i (by omega)]; exact q)
theorem op_modN : OpR X (binaryOp .Mod) (rI (fun _ j => j ≠ 0) fun i j => .int (i.fmod j)) := opI fun _ _ _ _ _ _ _ hc q => mod_int' hc q
theorem op_pow : OpR X (binaryOp .Pow) (rI CPow fun i j => .int (i ^ j.toNat)) := opI fun _ _ _ _ _ _ _ hc q => pow_int_small hc.1 hc.2.1 hc.2.2 q
theorem op_shl : OpR X (binaryOp .LShift) (rI CPow fun i j => .int (i * 2 ^ j.toNat)) := opI fun _ _ _ _ _ _ _ hc q => lshift_int_small hc.1 hc.2.1 hc.2.2 q
theorem op_shr : OpR X (binaryOp .RShift) (rI (fun _ j => 0 ≤ j) fun i j => .int (i / 2 ^ j.toNat)) := opI fun i j _ _ _ _ _ hc q =>
  rshift_int hc (by rw [Int.fdiv_eq_ediv_of_nonneg i (two_pow_nn _)]; exact q)
theorem op_and : OpR X (binaryOp .BitAnd) (rI0 fun i j => .int (Builtin.bitAnd i j)) := opI0 fun _ _ _ _ _ _ _ q => and_int q
theorem op_or : OpR X (binaryOp .BitOr) (rI0 fun i j => .int (Builtin.bitOr i j)) := opI0 fun _ _ _ _ _ _ _ q => or_int q
theorem op_xor : OpR X (binaryOp .BitXor) (rI0 fun i j => .int (Builtin.bitXor i j)) := opI0 fun _ _ _ _ _ _ _ q => xor_int q

theorem iop_add : OpR X (inplaceOp .Add) (rI0 fun i j => .int (i + j)) := opI0 fun _ _ _ _ _ _ _ q => iadd_int q
theorem iop_sub : OpR X (inplaceOp .Sub) (rI0 fun i j => .int (i - j)) := opI0 fun _ _ _ _ _ _ _ q => isub_int q
theorem iop_mul : OpR X (inplaceOp .Mult) (rI CMul fun i j => .int (i * j)) := opI fun _ _ _ _ _ _ _ hc q => imul_int q hc.ok
theorem iop_fdiv : OpR X (inplaceOp .FloorDiv) (rI CDiv fun i j => .int (i / j)) := opI fun i j _ _ _ _ _ hc q => by
  have h1 : (0 : Int) < j := hc.1
  have h2 : j < 1073741824 := hc.2
  exact ifloordiv_int (by omega) (by rw [Int.fdiv_eq_ediv_of_nonneg i (by omega)]; exact q) (.inl (PyProof.noPylong_small (by omega)))
theorem iop_mod : OpR X (inplaceOp .Mod) (rI (fun _ j => 0 < j) fun i j => .int (i % j)) := opI fun i j _ _ _ _ _ hc q => by
  have h1 : (0 : Int) < j := hc
  exact imod_int (by omega) (by rw [Int.fmod_eq_emod_of_nonneg i (by omega)]; exact q)
theorem iop_shl : OpR X (inplaceOp .LShift) (rI CPow fun i j => .int (i * 2 ^ j.toNat)) := opI fun _ _ _ _ _ _ _ hc q => ilshift_int_small hc.1 hc.2.1 hc.2.2 q
theorem iop_shr : OpR X (inplaceOp .RShift) (rI (fun _ j => 0 ≤ j) fun i j => .int (i / 2 ^ j.toNat)) := opI fun i j _ _ _ _ _ hc q =>
  irshift_int hc (by rw [Int.fdiv_eq_ediv_of_nonneg i (two_pow_nn _)]; exact q)
theorem iop_and : OpR X (inplaceOp .BitAnd) (rI0 fun i j => .int (Builtin.bitAnd i j)) := opI0 fun _ _ _ _ _ _ _ q => iand_int q
theorem iop_or : OpR X (inplaceOp .BitOr) (rI0 fun i j => .int (Builtin.bitOr i j)) := opI0 fun _ _ _ _ _ _ _ q => ior_int q
theorem iop_xor : OpR X (inplaceOp .BitXor) (rI0 fun i j => .int (Builtin.bitXor i j)) := opI0 fun _ _ _ _ _ _ _ q => ixor_int q

theorem unI {f : Value → Sem Value} {g : Int → Int}
    (rule : ∀ (i : Int) (t : Tok) (s : Shared) (Q : Value → Shared → Prop) (E : Value → Shared → Prop), Q (.int (g i) s.toks) { s with toks := s.toks + 1 } → wpAny (model X.prog X.w) X.A (f (.int i t)) Q E s) :
    UnR X f (rU fun i => .int (g i)) := by
  intro pins s σ H x v Q I rx h
  obtain ⟨i, rfl, q⟩ := h
  obtain ⟨t, rfl⟩ := rx
  exact rule i t s _ _ ⟨.int (g i), H, I.tok _, ⟨_, rfl⟩, q⟩
theorem un_neg : UnR X (unaryOp .USub) (rU fun i => .int (-i)) := unI fun _ _ _ _ _ q => neg_int q
theorem un_inv : UnR X (unaryOp .Invert) (rU fun i => .int (Builtin.bitNot i)) := unI fun _ _ _ _ _ q => invert_int q

/-! ### bools among ints: n += (a < b) -/
theorem op_add_ib : OpR X (binaryOp .Add) (fun x y H Q => ∃ i k, x = .int i ∧ y = .bl k ∧ Q (.int (i + b2i k)) H) := by
  intro pins s σ H x y v u Q I rx ry h
  obtain ⟨i, k, rfl, rfl, q⟩ := h
  obtain ⟨t, rfl⟩ := rx
  cases ry
  exact add_int_bool ⟨.int (i + b2i k), H, I.tok _, ⟨_, rfl⟩, q⟩
end

/-! ### comparisons -/
/-- the scalars that == tells apart as data does -/
def scal : V → V → Bool
  | .non, .non => true | .non, .int _ => true | .int _, .non => true | .non, .bl _ => true | .bl _, .non => true | .non, .str _ => true | .str _, .non => true
  | .int _, .int _ => true | .bl _, .bl _ => true | .str _, .str _ => true | .byt _, .byt _ => true
  | .int _, .str _ => true | .str _, .int _ => true | .bl _, .str _ => true | .str _, .bl _ => true
  | _, _ => false
def rEq : R2 := fun x y H Q => scal x y = true ∧ Q (.bl (decide (x = y))) H
def rNe : R2 := fun x y H Q => scal x y = true ∧ Q (.bl (!decide (x = y))) H

theorem dec_int {i j : Int} : decide (V.int i = V.int j) = (i == j) := by
  rw [Bool.eq_iff_iff]
  simp
theorem dec_bl {i j : Bool} : decide (V.bl i = V.bl j) = (i == j) := by
  rw [Bool.eq_iff_iff]
  simp
theorem dec_str {i j : Str} : decide (V.str i = V.str j) = (i == j) := by
  rw [Bool.eq_iff_iff]
  simp
theorem dec_byt {i j : Array UInt8} : decide (V.byt i = V.byt j) = (i.toList == j.toList) := by
  rw [Bool.eq_iff_iff]
  cases i
  cases j
  simp

section
variable {X : Cx} {a b c : Expr} {ta tb tc : TE} {pos : Pos}
theorem fin_bl {pins : List (Addr × Obj)} {σ : St} {H : Hp} {s : Shared} {Q : VK} {k k' : Bool} (I : Inv X pins σ H s) (q : Q (.bl k) H) (e : k = k') : EP X pins σ Q (.bool k') s := by
  subst e
  exact ⟨.bl k, H, I, rfl, q⟩
theorem op_eq : OpR X (compareOp .Eq) rEq := by
  intro pins s σ H x y v u Q I rx ry h
  obtain ⟨hs, q⟩ := h
  cases x with
  | non =>
    cases rx
    cases y with
    | non => cases ry; exact PySem.EqNone.eq_none_none (fin_bl I q (by simp))
    | bl j => cases ry; exact PySem.EqNone.eq_none_bool (fin_bl I q (by simp))
    | int j => obtain ⟨t', rfl⟩ := ry; exact PySem.EqNone.eq_none_int (fin_bl I q (by simp))
    | str j => obtain ⟨t', rfl⟩ := ry; exact PySem.EqNone.eq_none_str (fin_bl I q (by simp))
    | _ => exact absurd (show false = true from hs) Bool.false_ne_true
  | bl i =>
    cases rx
    cases y with
    | non => cases ry; exact PySem.EqNone.eq_bool_none (fin_bl I q (by simp))
    | bl j => cases ry; exact eq_bool (fin_bl I q dec_bl)
    | str j => obtain ⟨t', rfl⟩ := ry; exact PySem.EqMixed.eq_bool_str (fin_bl I q (by simp))
    | _ => exact absurd (show false = true from hs) Bool.false_ne_true
  | int i =>
    obtain ⟨t, rfl⟩ := rx
    cases y with
    | non => cases ry; exact PySem.EqNone.eq_int_none (fin_bl I q (by simp))
    | int j => obtain ⟨t', rfl⟩ := ry; exact eq_int (fin_bl I q dec_int)
    | str j => obtain ⟨t', rfl⟩ := ry; exact PySem.EqMixed.eq_int_str (fin_bl I q (by simp))
    | _ => exact absurd (show false = true from hs) Bool.false_ne_true
  | str i =>
    obtain ⟨t, rfl⟩ := rx
    cases y with
    | non => cases ry; exact PySem.EqNone.eq_str_none (fin_bl I q (by simp))
    | bl j => cases ry; exact PySem.EqMixed.eq_str_bool (fin_bl I q (by simp))
    | int j => obtain ⟨t', rfl⟩ := ry; exact PySem.EqMixed.eq_str_int (fin_bl I q (by simp))
    | str j => obtain ⟨t', rfl⟩ := ry; exact eq_str (fin_bl I q dec_str)
    | _ => exact absurd (show false = true from hs) Bool.false_ne_true
  | byt i =>
    obtain ⟨t, rfl⟩ := rx
    cases y with
    | byt j => obtain ⟨t', rfl⟩ := ry; exact PySem.W.eq_bytes (fin_bl I q dec_byt)
    | _ => exact absurd (show false = true from hs) Bool.false_ne_true
  | _ => cases y <;> exact absurd (show false = true from hs) Bool.false_ne_true
theorem op_ne : OpR X (compareOp .NotEq) rNe := by
  intro pins s σ H x y v u Q I rx ry h
  obtain ⟨hs, q⟩ := h
  cases x with
  | non =>
    cases rx
    cases y with
    | non => cases ry; exact PySem.EqNone.ne_none_none (fin_bl I q (by simp))
    | bl j => cases ry; exact PySem.EqNone.ne_none_bool (fin_bl I q (by simp))
    | int j => obtain ⟨t', rfl⟩ := ry; exact PySem.EqNone.ne_none_int (fin_bl I q (by simp))
    | str j => obtain ⟨t', rfl⟩ := ry; exact PySem.EqNone.ne_none_str (fin_bl I q (by simp))
    | _ => exact absurd (show false = true from hs) Bool.false_ne_true
  | bl i =>
    cases rx
    cases y with
    | non => cases ry; exact PySem.EqNone.ne_bool_none (fin_bl I q (by simp))
    | bl j => cases ry; exact ne_bool (fin_bl I q (congrArg not dec_bl))
    | str j => obtain ⟨t', rfl⟩ := ry; exact PySem.EqMixed.ne_bool_str (fin_bl I q (by simp))
    | _ => exact absurd (show false = true from hs) Bool.false_ne_true
  | int i =>
    obtain ⟨t, rfl⟩ := rx
    cases y with
    | non => cases ry; exact PySem.EqNone.ne_int_none (fin_bl I q (by simp))
    | int j => obtain ⟨t', rfl⟩ := ry; exact ne_int (fin_bl I q (congrArg not dec_int))
    | str j => obtain ⟨t', rfl⟩ := ry; exact PySem.EqMixed.ne_int_str (fin_bl I q (by simp))
    | _ => exact absurd (show false = true from hs) Bool.false_ne_true
  | str i =>
    obtain ⟨t, rfl⟩ := rx
    cases y with
    | non => cases ry; exact PySem.EqNone.ne_str_none (fin_bl I q (by simp))
    | bl j => cases ry; exact PySem.EqMixed.ne_str_bool (fin_bl I q (by simp))
    | int j => obtain ⟨t', rfl⟩ := ry; exact PySem.EqMixed.ne_str_int (fin_bl I q (by simp))
    | str j => obtain ⟨t', rfl⟩ := ry; exact ne_str (fin_bl I q (congrArg not dec_str))
    | _ => exact absurd (show false = true from hs) Bool.false_ne_true
  | byt i =>
    obtain ⟨t, rfl⟩ := rx
    cases y with
    | byt j => obtain ⟨t', rfl⟩ := ry; exact PySem.W.ne_bytes (fin_bl I q (congrArg not dec_byt))
    | _ => exact absurd (show false = true from hs) Bool.false_ne_true
  | _ => cases y <;> exact absurd (show false = true from hs) Bool.false_ne_true

theorem op_lt : OpR X (compareOp .Lt) (rI0 fun i j => .bl (decide (i < j))) := opB0 fun _ _ _ _ _ _ _ q => lt_int q
theorem op_le : OpR X (compareOp .LtE) (rI0 fun i j => .bl (decide (i ≤ j))) := opB0 fun _ _ _ _ _ _ _ q => le_int q
theorem op_gt : OpR X (compareOp .Gt) (rI0 fun i j => .bl (decide (j < i))) := opB0 fun _ _ _ _ _ _ _ q => gt_int q
theorem op_ge : OpR X (compareOp .GtE) (rI0 fun i j => .bl (decide (j ≤ i))) := opB0 fun _ _ _ _ _ _ _ q => ge_int q
theorem op_lt_str : OpR X (compareOp .Lt) (fun x y H Q => ∃ i j, x = .str i ∧ y = .str j ∧ Q (.bl (decide (i.cps.toList < j.cps.toList))) H) := by
  intro pins s σ H x y v u Q I rx ry h
  obtain ⟨i, j, rfl, rfl, q⟩ := h
  obtain ⟨t, rfl⟩ := rx
  obtain ⟨t', rfl⟩ := ry
  exact lt_str (fin_bl I q rfl)
/-- the one string within the other -/
theorem op_in_str : OpR X (compareOp .In) (fun x y H Q => ∃ i j, x = .str i ∧ y = .str j ∧ Q (.bl (!(Builtin.Str.occurrences j i 0 j.length 1).isEmpty)) H) := by
  intro pins s σ H x y v u Q I rx ry h
  obtain ⟨i, j, rfl, rfl, q⟩ := h
  obtain ⟨t, rfl⟩ := rx
  obtain ⟨t', rfl⟩ := ry
  exact in_str (fin_bl I q rfl)

/-- is None, is not None: the right side a value none -/
theorem op_isN : OpR X (compareOp .Is) (fun x y H Q => y = .non ∧ Q (.bl (decide (x = .non))) H) := by
  intro pins s σ H x y v u Q I rx ry h
  obtain ⟨rfl, q⟩ := h
  cases ry
  refine is_none_gen (fin_bl I q ?_)
  cases x <;> first
    | (cases rx; rfl)
    | (obtain ⟨t, rfl⟩ := rx; rfl)
theorem op_notN : OpR X (compareOp .IsNot) (fun x y H Q => y = .non ∧ Q (.bl (!decide (x = .non))) H) := by
  intro pins s σ H x y v u Q I rx ry h
  obtain ⟨rfl, q⟩ := h
  cases ry
  refine isnot_none_gen (fin_bl I q ?_)
  cases x <;> first
    | (cases rx; rfl)
    | (obtain ⟨t, rfl⟩ := rx; rfl)

theorem op_notin_str : OpR X (compareOp .NotIn) (fun x y H Q => ∃ i j, x = .str i ∧ y = .str j ∧ Q (.bl (!(!(Builtin.Str.occurrences j i 0 j.length 1).isEmpty))) H) := by
  intro pins s σ H x y v u Q I rx ry h
  obtain ⟨i, j, rfl, rfl, q⟩ := h
  obtain ⟨t, rfl⟩ := rx
  obtain ⟨t', rfl⟩ := ry
  exact notIn_str (fin_bl I q rfl)
/-- is, is not of two objects that are tracked lists or instances -/
def isObj : HO → Bool
  | .lst _ => true
  | .ins _ _ _ => true
  | _ => false
theorem obj_there {pins : List (Addr × Obj)} {s : Shared} {σ : St} {H : Hp} {a : Addr} {o : HO} (I : Inv X pins σ H s) (h : H a = some o) (p : isObj o = true) : ∃ ob, s.heap.get? a = some ob ∧ ob.cls ≠ .type "tuple" := by
  cases o with
  | lst xs =>
    obtain ⟨_, its, n, _, e⟩ : xs.length ≤ sizeLine ∧ ∃ (its : List Value) (n : Nat), Vals xs its ∧ s.heap.get? a = some { cls := .type "list", data := .seq its.toArray n } := I.hok a _ h
    exact ⟨_, e, (by show Value.type "list" ≠ .type "tuple"; decide +kernel)⟩
  | ins C dx fs =>
    have x := I.hok a _ h
    obtain ⟨_, _, _, e, _⟩ := x
    exact ⟨_, e, (by show Value.ref C ≠ .type "tuple"; exact fun z => by cases z)⟩
  | _ => exact absurd (show false = true from p) Bool.false_ne_true
theorem op_is_ref : OpR X (compareOp .Is) (fun x y H Q => ∃ a b oa ob, x = .ref a ∧ y = .ref b ∧ H a = some oa ∧ isObj oa = true ∧ H b = some ob ∧ isObj ob = true ∧ Q (.bl (decide (a = b))) H) := by
  intro pins s σ H x y v u Q I rx ry h
  obtain ⟨a, b, oa, ob, rfl, rfl, ha, pa, hb, pb, q⟩ := h
  cases rx
  cases ry
  obtain ⟨o1, e1, n1⟩ := obj_there I ha pa
  obtain ⟨o2, e2, _⟩ := obj_there I hb pb
  by_cases z : a = b
  · subst z
    exact wpAny_is_ref_self (fin_bl I q (by simp))
  · exact wpAny_is_ref_other z e1 e2 n1 (fin_bl I q (by simp [z]))
theorem op_isnot_ref : OpR X (compareOp .IsNot) (fun x y H Q => ∃ a b oa ob, x = .ref a ∧ y = .ref b ∧ H a = some oa ∧ isObj oa = true ∧ H b = some ob ∧ isObj ob = true ∧ Q (.bl (!decide (a = b))) H) := by
  intro pins s σ H x y v u Q I rx ry h
  obtain ⟨a, b, oa, ob, rfl, rfl, ha, pa, hb, pb, q⟩ := h
  cases rx
  cases ry
  obtain ⟨o1, e1, n1⟩ := obj_there I ha pa
  obtain ⟨o2, e2, _⟩ := obj_there I hb pb
  by_cases z : a = b
  · subst z
    exact wpAny_isNot_ref_self (fin_bl I q (by simp))
  · exact wpAny_isNot_ref_other z e1 e2 n1 (fin_bl I q (by simp [z]))

/-- two rules for one operation: by cases -/
theorem OpR.or {f : Value → Value → Sem Value} {r r' : R2} (h : OpR X f r) (h' : OpR X f r') : OpR X f (fun x y H Q => r x y H Q ∨ r' x y H Q) := by
  intro pins s σ H x y v u Q I rx ry q
  rcases q with q | q
  · exact h pins s σ H x y v u Q I rx ry q
  · exact h' pins s σ H x y v u Q I rx ry q

theorem nomark (b : Expr) {op : CmpOp} (h : op ≠ .In := by decide) (h2 : op ≠ .NotIn := by decide) : behindInMarks op b = false := by
  have e1 : (op == CmpOp.In) = false := by cases op <;> first | rfl | exact absurd rfl h
  have e2 : (op == CmpOp.NotIn) = false := by cases op <;> first | rfl | exact absurd rfl h2
  cases b <;> simp [behindInMarks, e1, e2]
/-- a comparison as a value; hm: nomark b, or (for in, not in) by with_unfolding_all rfl -/
theorem pe_cmpR {op : CmpOp} {r : R2} (ho : OpR X (compareOp op) r) (ha : PE X a ta) (hb : PE X b tb) (hm : behindInMarks op b = false) : PE X (.Compare a [op] [b] pos) (tOp r ta tb) := by
  intro pins s σ H Q I h
  exact wpAny_Compare1 (binT ha hb I h fun v u s2 x y H2 I2 rx ry q => ho pins s2 σ H2 x y v u Q I2 rx ry q) hm
/-- a reading of a value as a test -/
def tTest (t : TE) : TT := fun σ H Q => t σ H fun x H' => ∃ k, x = .bl k ∧ Q k H'
theorem pt_cmpR {op : CmpOp} {r : R2} (ho : OpR X (compareOp op) r) (ha : PE X a ta) (hb : PE X b tb) (hm : behindInMarks op b = false) : PT X (.Compare a [op] [b] pos) (tTest (tOp r ta tb)) := by
  intro pins s σ H Q I h
  refine wpAny_isTrue_Compare1 (thn (ha pins s σ H _ I h) fun v s1 ⟨x, H1, I1, r1, q1⟩ => thn (hb pins s1 σ H1 _ I1 q1) fun u s2 ⟨y, H2, I2, r2, q2⟩ =>
    thn (ho pins s2 σ H2 x y v u _ I2 r1 r2 q2) fun c s3 ⟨z, H3, I3, r3, k, e, q3⟩ => ?_) hm
  subst e
  cases r3
  exact wpAny_truthy_bool ⟨H3, I3, q3⟩
/-- a op1 b op2 c -/
def tChain (r r' : R2) (ta tb tc : TE) : TE := fun σ H Q => ta σ H fun x H1 => tb σ H1 fun y H2 => r x y H2 fun z H3 => ∃ k, z = .bl k ∧
  (if k = true then tc σ H3 fun w' H4 => r' y w' H4 Q else Q (.bl false) H3)
theorem pe_chain {op op' : CmpOp} {r r' : R2} (ho : OpR X (compareOp op) r) (ho' : OpR X (compareOp op') r') (ha : PE X a ta) (hb : PE X b tb) (hc : PE X c tc)
    (hm : lastMarks [op, op'] [b, c] = false := by with_unfolding_all rfl) : PE X (.Compare a [op, op'] [b, c] pos) (tChain r r' ta tb tc) := by
  intro pins s σ H Q I h
  refine Compare_chain (thn (ha pins s σ H _ I h) fun v s1 ⟨x, H1, I1, r1, q1⟩ => chain_link (thn (hb pins s1 σ H1 _ I1 q1) fun u s2 ⟨y, H2, I2, r2, q2⟩ =>
    thn (ho pins s2 σ H2 x y v u _ I2 r1 r2 q2) fun d s3 ⟨z, H3, I3, r3, k, e, q3⟩ => ?_)) hm
  subst e
  cases r3
  refine wpAny_truthy_bool ?_
  cases k with
  | false => exact ite_ff ⟨.bl false, H3, I3, rfl, q3⟩
  | true => exact ite_tt (chain_last (thn (hc pins s3 σ H3 _ I3 q3) fun w' s4 ⟨z', H4, I4, r4, q4⟩ => ho' pins s4 σ H4 y z' u w' Q I4 r2 r4 q4))
theorem pt_chain {op op' : CmpOp} {r r' : R2} (ho : OpR X (compareOp op) r) (ho' : OpR X (compareOp op') r') (ha : PE X a ta) (hb : PE X b tb) (hc : PE X c tc)
    (hm : lastMarks [op, op'] [b, c] = false := by with_unfolding_all rfl) : PT X (.Compare a [op, op'] [b, c] pos) (tTest (tChain r r' ta tb tc)) := by
  intro pins s σ H Q I h
  refine isTrue_chain (thn (ha pins s σ H _ I h) fun v s1 ⟨x, H1, I1, r1, q1⟩ => test_link (thn (hb pins s1 σ H1 _ I1 q1) fun u s2 ⟨y, H2, I2, r2, q2⟩ =>
    thn (ho pins s2 σ H2 x y v u _ I2 r1 r2 q2) fun d s3 ⟨z, H3, I3, r3, k, e, q3⟩ => ?_)) hm
  subst e
  cases r3
  refine wpAny_truthy_bool ?_
  cases k with
  | false =>
    obtain ⟨k', e', q'⟩ := q3
    cases e'
    exact ite_ff ⟨H3, I3, q'⟩
  | true =>
    refine ite_tt (test_last (thn (hc pins s3 σ H3 _ I3 q3) fun w' s4 ⟨z', H4, I4, r4, q4⟩ => thn (ho' pins s4 σ H4 y z' u w' _ I4 r2 r4 q4) fun d' s5 ⟨z2, H5, I5, r5, k2, e2, q5⟩ => ?_))
    subst e2
    cases r5
    exact wpAny_truthy_bool ⟨H5, I5, q5⟩

/-! ### truth -/
/-- a value's truth by the abstract heap -/
def TruV (K : PySem.W.Frag) (x : V) (H : Hp) (k : Bool) : Prop :=
  match x with
  | .non => k = false
  | .bl b => k = b
  | .int i => k = (i != 0)
  | .str y => y.length ≤ sizeLine ∧ k = ((y.length : Int) != 0)
  | .byt y => y.size ≤ sizeLine ∧ k = ((y.size : Int) != 0)
  | .ref p => (∃ xs, SqL K H p xs ∧ k = !xs.isEmpty) ∨ (∃ xs, SqT K H p xs ∧ k = !xs.isEmpty) ∨ ∃ kvs, H p = some (.dK kvs) ∧ k = !kvs.isEmpty
  | _ => False
theorem isEmpty_kv {κ : Type} {kvs : List (κ × V)} {vs : List (κ × Value)} (r : KV kvs vs) : (!vs.isEmpty) = !kvs.isEmpty := by
  cases r <;> rfl
theorem isEmpty_of {xs : List V} {its : List Value} (r : Vals xs its) : (!its.toArray.isEmpty) = !xs.isEmpty := by
  cases r <;> simp
theorem line63 : (sizeLine : Nat) < 2 ^ 63 := by rw [sizeLine_eq]; decide
theorem tru_ok : TruR X (fun x H Q => ∃ k, TruV X.K x H k ∧ Q k H) := by
  intro pins s σ H x v Q I rx h
  obtain ⟨k, e, q⟩ := h
  have hl := line63
  have hs : sizeLine = 16777216 := sizeLine_eq
  cases x with
  | non =>
    cases rx
    have e' : k = false := e
    subst e'
    exact truthy_none ⟨H, I, q⟩
  | bl b =>
    cases rx
    have e' : k = b := e
    subst e'
    exact wpAny_truthy_bool ⟨H, I, q⟩
  | int i =>
    obtain ⟨t, rfl⟩ := rx
    have e' : k = (i != 0) := e
    subst e'
    exact PySem.P.truthy_int ⟨H, I, q⟩
  | str y =>
    obtain ⟨t, rfl⟩ := rx
    obtain ⟨hy, e'⟩ : y.length ≤ sizeLine ∧ k = ((y.length : Int) != 0) := e
    subst e'
    exact PySem.P.truthy_str (by omega) ⟨H, I.tok _, q⟩
  | byt y =>
    obtain ⟨t, rfl⟩ := rx
    obtain ⟨hy, e'⟩ : y.size ≤ sizeLine ∧ k = ((y.size : Int) != 0) := e
    subst e'
    exact PySem.W.truthy_bytes (by omega) ⟨H, I.tok _, q⟩
  | ref p =>
    cases rx
    have e' : (∃ xs, SqL X.K H p xs ∧ k = !xs.isEmpty) ∨ (∃ xs, SqT X.K H p xs ∧ k = !xs.isEmpty) ∨ ∃ kvs, H p = some (.dK kvs) ∧ k = !kvs.isEmpty := e
    rcases e' with ⟨xs, hx, e'⟩ | ⟨xs, hx, e'⟩ | ⟨kvs, hx, e'⟩
    · subst e'
      obtain ⟨its, r, pl, hz⟩ := I.list hx
      have hlen := r.length
      exact wpAny_truthy_list pl.isList (by simp only [List.size_toArray]; omega) ⟨H, I.tok _, by rw [isEmpty_of r]; exact q⟩
    · subst e'
      obtain ⟨its, r, pl, hz⟩ := I.tuple hx
      have hlen := r.length
      exact truthy_tuple pl (by simp only [List.size_toArray]; omega) ⟨H, I.tok _, by rw [isEmpty_of r]; exact q⟩
    · subst e'
      obtain ⟨hz, hS, vs, r, m⟩ : kvs.length ≤ sizeLine ∧ (p == sysModules) = false ∧ ∃ vs, KV kvs vs ∧ s.heap.DictOf (mixKind X.prog X.w) p vs := I.hok p _ hx
      have hlen : kvs.length = vs.length := Paired.length r
      exact wpAny_truthy_dict hS m (by omega) ⟨H, I.tok _, by rw [isEmpty_kv r]; exact q⟩
  | _ => exact (show False from e).elim
/-- any expression whose test is its value's truth (a name, a call, a subscript, a field ..: he by fun _ => rfl) -/
theorem pt_truth (ha : PE X a ta) (he : ∀ whole, isTrue a X.env whole = (do let v ← whole; standAt a.pos; holding [v] (truthy v))) :
    PT X a (fun σ H Q => ta σ H fun x H' => ∃ k, TruV X.K x H' k ∧ Q k H') := by
  intro pins s σ H Q I h
  exact isTrue_plain (thn (ha pins s σ H _ I h) fun v s1 ⟨x, H1, I1, r1, q1⟩ => tru_ok pins s1 σ H1 x v Q I1 r1 q1) (he _)

/-! ### strs and bytes -/
theorem pe_byt {x : List UInt8} {k : Nat} : PE X (.Constant (.bytes x) k pos) (fun _ H Q => Q (.byt x.toArray) H) := fun _ _ _ H _ I h => PySem.W.Constant_bytes ⟨.byt x.toArray, H, I.tok _, ⟨_, rfl⟩, h⟩
theorem op_add_str : OpR X (binaryOp .Add) (fun x y H Q => ∃ i j, x = .str i ∧ y = .str j ∧ i.length + j.length ≤ sizeLine ∧ Q (.str (i ++ j)) H) := by
  intro pins s σ H x y v u Q I rx ry h
  obtain ⟨i, j, rfl, rfl, hz, q⟩ := h
  obtain ⟨t, rfl⟩ := rx
  obtain ⟨t', rfl⟩ := ry
  exact add_str (fun t' tk => ⟨.str (i ++ j), H, I.tok _, ⟨_, rfl⟩, q⟩) hz
theorem iop_add_str : OpR X (inplaceOp .Add) (fun x y H Q => ∃ i j, x = .str i ∧ y = .str j ∧ i.length + j.length ≤ sizeLine ∧ Q (.str (i ++ j)) H) := by
  intro pins s σ H x y v u Q I rx ry h
  obtain ⟨i, j, rfl, rfl, hz, q⟩ := h
  obtain ⟨t, rfl⟩ := rx
  obtain ⟨t', rfl⟩ := ry
  exact iadd_str (fun t' tk => ⟨.str (i ++ j), H, I.tok _, ⟨_, rfl⟩, q⟩) hz
theorem op_add_byt : OpR X (binaryOp .Add) (fun x y H Q => ∃ i j, x = .byt i ∧ y = .byt j ∧ i.size + j.size ≤ 16777216 ∧ Q (.byt (i ++ j)) H) := by
  intro pins s σ H x y v u Q I rx ry h
  obtain ⟨i, j, rfl, rfl, hz, q⟩ := h
  obtain ⟨t, rfl⟩ := rx
  obtain ⟨t', rfl⟩ := ry
  exact PySem.W.KBy.add_bytes hz (fun t' tk => ⟨.byt (i ++ j), H, I.tok _, ⟨_, rfl⟩, q⟩)

def PlainIxT (b : Expr) : Prop := ∀ o i, subscripted b false o i = operate [o, i] (getItem o i)
/-- s[i], 0 ≤ i < len -/
theorem pe_item_str (ha : PE X a ta) (hb : PE X b tb) (hs : PlainIxT b) :
    PE X (.Subscript a b pos) (tOp (fun x y H Q => ∃ z i c, x = .str z ∧ y = .int i ∧ 0 ≤ i ∧ i < 2 ^ 63 ∧ i < z.length ∧ z.cps[i.toNat]? = some c ∧ Q (.str ⟨#[c]⟩) H) ta tb) := by
  intro pins s σ H Q I h
  refine Subscript_ (binT ha hb I h fun v u s2 x y H2 I2 rx ry q => ?_)
  obtain ⟨z, i, c, rfl, rfl, h0, h63, h1, hc, q⟩ := q
  obtain ⟨t, rfl⟩ := rx
  obtain ⟨t', rfl⟩ := ry
  have e : seqIndex? i z.length = some i.toNat := PySem.StrLaws.seqIndex_nonneg h0 h1
  exact tail_any (typeIs_str s2 z t) slot_str_getitem.lookup (getItem_str (c := c) (by
    have e1 : decide (i < -(2 ^ 63 : Int)) = false := decide_eq_false (by omega)
    have e2 : decide (i ≥ 2 ^ 63) = false := decide_eq_false (by omega)
    rw [e1, e2] <;> rfl) (by rw [e]; exact hc) ⟨.str ⟨#[c]⟩, H2, I2.tok _, ⟨_, rfl⟩, q⟩) (hs _ _)
/-- b[i], 0 ≤ i < len -/
theorem pe_item_byt (ha : PE X a ta) (hb : PE X b tb) (hs : PlainIxT b) :
    PE X (.Subscript a b pos) (tOp (fun x y H Q => ∃ (z : List UInt8) (i : Int), x = .byt z.toArray ∧ y = .int i ∧ z.length ≤ sizeLine ∧ 0 ≤ i ∧ i < z.length ∧ Q (.int ((z.getD i.toNat 0).toNat : Nat)) H) ta tb) := by
  intro pins s σ H Q I h
  refine Subscript_ (binT ha hb I h fun v u s2 x y H2 I2 rx ry q => ?_)
  obtain ⟨z, i, rfl, rfl, hz, h0, h1, q⟩ := q
  obtain ⟨t, rfl⟩ := rx
  obtain ⟨t', rfl⟩ := ry
  have hl : sizeLine = 16777216 := sizeLine_eq
  exact tail_any (PySem.W.typeIs_bytes s2 z.toArray t) PySem.W.FB.slot_bytes_getitem.lookup (PySem.W.getItem_bytes (by omega) h0 h1 ⟨.int ((z.getD i.toNat 0).toNat : Nat), H2, I2.tok _, ⟨_, rfl⟩, q⟩) (hs _ _)

/-! ### scalar builtins, by CallR -/
theorem vals1 {x : V} {us : List Value} (r : Vals [x] us) : ∃ u, us = [u] ∧ RelV x u := by
  cases r with
  | cons r1 r2 => cases r2; exact ⟨_, rfl, r1⟩
theorem vals2 {x y : V} {us : List Value} (r : Vals [x, y] us) : ∃ u w', us = [u, w'] ∧ RelV x u ∧ RelV y w' := by
  cases r with
  | cons r1 r2 =>
    cases r2 with
    | cons r3 r4 => cases r4; exact ⟨_, _, rfl, r1, r3⟩
theorem call_abs : CallR X (.builtin "abs") (fun xs H Q => ∃ i, xs = [.int i] ∧ Q (.int (if i < 0 then -i else i)) H) := by
  intro pins s σ H xs us Q I r h
  obtain ⟨i, rfl, q⟩ := h
  obtain ⟨u, rfl, t, rfl⟩ := vals1 r
  exact call_abs_int fun u tk => ⟨.int (if i < 0 then -i else i), H, I.tok _, ⟨_, rfl⟩, q⟩
theorem call_max2 (hc : X.calm = true) : CallR X (.builtin "max") (fun xs H Q => ∃ i j, xs = [.int i, .int j] ∧ Q (.int (if j > i then j else i)) H) := by
  intro pins s σ H xs us Q I r h
  obtain ⟨i, j, rfl, q⟩ := h
  obtain ⟨u, w', rfl, ⟨t, rfl⟩, ⟨t', rfl⟩⟩ := vals2 r
  refine max_two_ints (I.ok.hd hc) fun h' tk k => ⟨_, H, I.kept k, ?_, q⟩
  by_cases hj : j > i
  · rw [if_pos hj, if_pos hj]; exact ⟨_, rfl⟩
  · rw [if_neg hj, if_neg hj]; exact ⟨_, rfl⟩
theorem call_min2 (hc : X.calm = true) : CallR X (.builtin "min") (fun xs H Q => ∃ i j, xs = [.int i, .int j] ∧ Q (.int (if j < i then j else i)) H) := by
  intro pins s σ H xs us Q I r h
  obtain ⟨i, j, rfl, q⟩ := h
  obtain ⟨u, w', rfl, ⟨t, rfl⟩, ⟨t', rfl⟩⟩ := vals2 r
  refine min_two_ints (I.ok.hd hc) fun h' tk k => ⟨_, H, I.kept k, ?_, q⟩
  by_cases hj : j < i
  · rw [if_pos hj, if_pos hj]; exact ⟨_, rfl⟩
  · rw [if_neg hj, if_neg hj]; exact ⟨_, rfl⟩
theorem call_int1 : CallR X (.type "int") (fun xs H Q => (∃ i, xs = [.int i] ∧ Q (.int i) H) ∨ ∃ k, xs = [.bl k] ∧ Q (.int (if k then 1 else 0)) H) := by
  intro pins s σ H xs us Q I r h
  rcases h with ⟨i, rfl, q⟩ | ⟨k, rfl, q⟩
  · obtain ⟨u, rfl, t, rfl⟩ := vals1 r
    exact call_int_int ⟨.int i, H, I, ⟨_, rfl⟩, q⟩
  · obtain ⟨u, rfl, r1⟩ := vals1 r
    cases r1
    exact call_int_bool ⟨.int (if k then 1 else 0), H, I.tok _, ⟨_, rfl⟩, q⟩
theorem call_bool1 : CallR X (.type "bool") (fun xs H Q => (∃ i, xs = [.int i] ∧ Q (.bl (i != 0)) H) ∨ ∃ k, xs = [.bl k] ∧ Q (.bl k) H) := by
  intro pins s σ H xs us Q I r h
  rcases h with ⟨i, rfl, q⟩ | ⟨k, rfl, q⟩
  · obtain ⟨u, rfl, t, rfl⟩ := vals1 r
    exact call_bool_int ⟨.bl (i != 0), H, I, rfl, q⟩
  · obtain ⟨u, rfl, r1⟩ := vals1 r
    cases r1
    exact call_bool_bool ⟨.bl k, H, I, rfl, q⟩
theorem call_str_int : CallR X (.type "str") (fun xs H Q => ∃ i, xs = [.int i] ∧ i.natAbs.log2 < 1920 ∧ Q (.str (toString i)) H) := by
  intro pins s σ H xs us Q I r h
  obtain ⟨i, rfl, hz, q⟩ := h
  obtain ⟨u, rfl, t, rfl⟩ := vals1 r
  exact PySem.P.str_of_int hz ⟨.str _, H, I.tok _, ⟨_, rfl⟩, q⟩
theorem call_ord : CallR X (.builtin "ord") (fun xs H Q => ∃ x, xs = [.str x] ∧ x.length = 1 ∧ Q (.int (x.cps.getD 0 0 : Nat)) H) := by
  intro pins s σ H xs us Q I r h
  obtain ⟨x, rfl, hz, q⟩ := h
  obtain ⟨u, rfl, t, rfl⟩ := vals1 r
  exact ord_of_one hz ⟨.int _, H, I.tok _, ⟨_, rfl⟩, q⟩
theorem call_chr : CallR X (.builtin "chr") (fun xs H Q => ∃ i, xs = [.int i] ∧ 0 ≤ i ∧ i ≤ 1114111 ∧ Q (.str ⟨#[i.toNat]⟩) H) := by
  intro pins s σ H xs us Q I r h
  obtain ⟨i, rfl, h0, h1, q⟩ := h
  obtain ⟨u, rfl, t, rfl⟩ := vals1 r
  exact chr_of_range h0 h1 ⟨.str _, H, I.tok _, ⟨_, rfl⟩, q⟩
/-- len of a str, a bytes, a list, a tuple -/
def LenV (K : PySem.W.Frag) (x : V) (H : Hp) (n : Nat) : Prop :=
  match x with
  | .str y => y.length ≤ sizeLine ∧ n = y.length
  | .byt y => y.size ≤ sizeLine ∧ n = y.size
  | .ref p => (∃ xs, SqL K H p xs ∧ n = xs.length) ∨ ∃ xs, SqT K H p xs ∧ n = xs.length
  | _ => False
theorem call_len : CallR X (.builtin "len") (fun xs H Q => ∃ x n, xs = [x] ∧ LenV X.K x H n ∧ Q (.int n) H) := by
  intro pins s σ H xs us Q I r h
  obtain ⟨x, n, rfl, e, q⟩ := h
  obtain ⟨u, rfl, rx⟩ := vals1 r
  have hl := line63
  have hs : sizeLine = 16777216 := sizeLine_eq
  cases x with
  | str y =>
    obtain ⟨t, rfl⟩ := rx
    obtain ⟨hy, e'⟩ : y.length ≤ sizeLine ∧ n = y.length := e
    subst e'
    exact len_str (by omega) ⟨.int _, H, I.tok _, ⟨_, rfl⟩, q⟩
  | byt y =>
    obtain ⟨t, rfl⟩ := rx
    obtain ⟨hy, e'⟩ : y.size ≤ sizeLine ∧ n = y.size := e
    subst e'
    exact PySem.W.len_bytes (by omega) ⟨.int _, H, I.tok _, ⟨_, rfl⟩, q⟩
  | ref p =>
    cases rx
    have e' : (∃ xs, SqL X.K H p xs ∧ n = xs.length) ∨ ∃ xs, SqT X.K H p xs ∧ n = xs.length := e
    rcases e' with ⟨xs, hx, e'⟩ | ⟨xs, hx, e'⟩
    · subst e'
      obtain ⟨its, r', pl, hz⟩ := I.list hx
      have hlen := r'.length
      exact Calls.call_len_list pl.isList (by simp only [List.size_toArray]; omega) ⟨.int xs.length, H, I.tok _, ⟨_, by simp only [List.size_toArray]; rw [hlen]⟩, q⟩
    · subst e'
      obtain ⟨its, r', pl, hz⟩ := I.tuple hx
      have hlen := r'.length
      exact len_tuple pl (by simp only [List.size_toArray]; omega) ⟨.int xs.length, H, I.tok _, ⟨_, by simp only [List.size_toArray]; rw [hlen]⟩, q⟩
  | _ => exact (show False from e).elim
/-- divmod: a new tuple -/
theorem call_divmod : CallR X (.builtin "divmod") (fun xs H Q => ∃ i j, xs = [.int i, .int j] ∧ CDiv i j ∧ ∀ p, H p = none → Q (.ref p) (upd H p (.tup [.int (i / j), .int (i % j)]))) := by
  intro pins s σ H xs us Q I r h
  obtain ⟨i, j, rfl, ⟨h1, h2⟩, q⟩ := h
  obtain ⟨u, w', rfl, ⟨t, rfl⟩, ⟨t', rfl⟩⟩ := vals2 r
  refine divmod_int (by omega) ?_ (.inl (PyProof.noPylong_small (by omega)))
  rw [Int.fdiv_eq_ediv_of_nonneg i (by omega), Int.fmod_eq_emod_of_nonneg i (by omega)]
  have hn : H s.heap.objs.size = none := I.hok.fresh (Nat.le_refl _)
  refine ⟨.ref s.heap.objs.size, _, ?_, rfl, q _ hn⟩
  refine I.laid (fun b o e => Heap.get?_push_of_some _ e) (Nat.le_refl _) ⟨by simp only [List.length_cons, List.length_nil]; rw [sizeLine_eq]; decide, [.int (i / j) s.toks, .int (i % j) (s.toks + 1)], .cons ⟨_, rfl⟩ (.cons ⟨_, rfl⟩ .nil), ?_⟩
  exact ⟨_, Heap.get?_push_size s.heap rfl, rfl, 0, rfl⟩
end
end L2

namespace L2
open PySem PySem.Spec PyProof.Rows

/-! ### an instance, its attributes a map -/
structure ObjM (h : Heap) (x dx C : Addr) (mA : Str → Option Value) : Prop where
  obj : h.get? x = some (PySem.W.instObj C dx)
  ns : h.Ns1 dx mA
  ne : dx ≠ x

theorem lookIn_ns {h : Heap} {dx : Addr} {mA : Str → Option Value} (n : h.Ns1 dx mA) : ∃ od, h.get? dx = some od ∧ ∀ name, PySem.W.lookIn name od = some (mA name) := by
  obtain ⟨o, es, ep, ho, hd, hk, _, hm⟩ := n
  refine ⟨o, ho, fun name => ?_⟩
  have e := hm name
  unfold nsFind findBy at e
  rw [← Array.find?_toList] at e
  unfold PySem.W.lookIn
  rw [hd]
  dsimp only
  split
  · rename_i y q
    rw [q] at e
    exact congrArg some e
  · rename_i q
    rw [q] at e
    have a : es.toList.any (·.refKey) = false := by
      rw [List.any_eq_false]
      intro y hy
      obtain ⟨z, t, hkey⟩ := hk y (Array.mem_toList_iff.mp hy)
      simp [DictEntry.refKey, hkey]
    have a' : ¬ es.toList.any (·.refKey) = true := by rw [a]; exact Bool.false_ne_true
    rw [if_neg a']
    exact congrArg some e

theorem ObjM.look {h : Heap} {x dx C : Addr} {mA : Str → Option Value} (I : ObjM h x dx C mA) : ∃ od, PySem.W.InstAt h x (PySem.W.instObj C dx) C (some od) ∧ ∀ name, PySem.W.lookIn name od = some (mA name) :=
  let ⟨od, ho, hl⟩ := lookIn_ns I.ns
  ⟨od, ⟨I.obj, rfl, rfl, ho⟩, hl⟩

section
variable {prog : Program} {w : World} {A : Around} {E : Value → Shared → Prop} {s : Shared} {K : PySem.W.Frag} {x dx C f : Addr} {mA : Str → Option Value} {name : Str} {v : Value}

theorem get_map {expr : Bool} {Q : Value → Shared → Prop} (X : K.In s.heap) (I : ObjM s.heap x dx C mA) (hg : PySem.W.plainGet K C name = true) (hh : PySem.W.hasDictIn K C = true)
    (ha : PySem.W.findIn K (.ref C) name = some none) (hv : mA name = some v) (hv' : PySem.W.handedIn v = true) (h : Q v { s with toks := s.toks + 1 }) :
    wpAny (model prog w) A (getAttr (.ref x) name expr) Q E s := by
  obtain ⟨od, J, hl⟩ := I.look
  exact PySem.W.get_value X J (PySem.W.plainGet_of hg).1 (PySem.W.findObj_own hh ha rfl (by rw [hl, hv])) hv' h

theorem get_const {expr : Bool} {a : Value} {Q : Value → Shared → Prop} (X : K.In s.heap) (I : ObjM s.heap x dx C mA) (hg : PySem.W.plainGet K C name = true) (hh : PySem.W.hasDictIn K C = true)
    (ha : PySem.W.findIn K (.ref C) name = some (some a)) (hn : PySem.W.specialIn K a "__get__" = some none) (hc : PySem.W.copiedNames.contains name = false) (hv : mA name = none) (hv' : PySem.W.handedIn a = true)
    (h : Q a { s with toks := s.toks + 1 }) : wpAny (model prog w) A (getAttr (.ref x) name expr) Q E s := by
  obtain ⟨od, J, hl⟩ := I.look
  exact PySem.W.get_value X J (PySem.W.plainGet_of hg).1 (PySem.W.findObj_cls hh ha hn hv' hc (by rw [hl, hv])) hv' h

theorem get_meth {pl : Sem Bool} {Q : Value × List Value → Shared → Prop} (X : K.In s.heap) (I : ObjM s.heap x dx C mA) (hg : PySem.W.plainGet K C name = true)
    (hf : PySem.W.findIn K (.ref C) name = some (some (.ref f))) (ht : PySem.W.isFn K (.ref f) = true) (hv : mA name = none) (h : Q (.ref f, [.ref x]) s) :
    wpAny (model prog w) A (getMethod (.ref x) name pl) Q E s := by
  obtain ⟨od, J, hl⟩ := I.look
  exact PySem.W.method_fn X J (PySem.W.plainGet_of hg).1 (PySem.W.plainGet_of hg).2 hf (beq_iff_eq.mp ht) (by show (PySem.W.lookIn name od).map (·.isSome) = some false; rw [hl, hv]; rfl) h

theorem set_map {ns : List Str} {Q : Unit → Shared → Prop} (X : K.In s.heap) (I : ObjM s.heap x dx C mA)
    (hs : PySem.W.findIn K (.ref C) "__setattr__" = some (some (.builtin "object.__setattr__"))) (hp : PySem.W.plainOver K C = true) (ht : PySem.W.takerIn K C name = some none) (hh : PySem.W.hasDictIn K C = true)
    (hw : PySem.Within mA ns) (hsz : ns.length ≤ sizeLine)
    (h : ∀ h', ObjM h' x dx C (fun y => if y = name then some v else mA y) → Heap.SameBut dx s.heap h' → Q () { s with heap := h', toks := s.toks + 2 }) :
    wpAny (model prog w) A (setAttr (.ref x) name v) Q E s := by
  obtain ⟨od, J, hl⟩ := I.look
  refine PySem.W.set_plain X J hs (PySem.W.osa_open (s := { s with toks := s.toks + 1 }) (r := none) X J hp ht fun b => ?_)
  obtain ⟨cd, hc, hd'⟩ := PySem.W.any_some hh
  have hx : s.heap.get? x = some ⟨.ref C, some dx, .plain, #[]⟩ := I.obj
  refine wpAny_bind (wpAny_pure (wpAny_bind (wpAny_bind (wpAny_loadPart hx (wpAny_bind (PySem.W.Looks.here (s := { s with toks := s.toks + 1 }) (PySem.W.looks_clsIn X hc) ?_))))))
  rw [hd']
  refine wpAny_pure (a := some dx) (wpAny_bind (wpAny_pure (wpAny_bind ?_)))
  refine wpAny_nsSet1 (s := { s with toks := s.toks + 1 }) I.ns fun h' hn2 hs2 => ?_
  obtain ⟨oD, esD, epD, hoD, hdD, hcD⟩ := hn2.count (PySem.Within.cons name v hw)
  refine wpAny_bind (wpAny_lookBehind hoD (by rw [hdD]; exact pastItsLine_dict (Nat.le_trans hcD (by rw [List.length_cons]; omega))) ?_)
  exact wpAny_pure (h _ ⟨(hs2.2 _ (Ne.symm I.ne)).trans I.obj, hn2, I.ne⟩ hs2)

/-- C(..): the dict at the heap's end, the instance behind it; then its __init__ -/
theorem make_map {R : Result → Shared → Prop} {vs : List Value} {kw : List (Str × Value)} (X : K.In s.heap) (hm : PySem.W.makesIn K C = true)
    (hi : PySem.W.findIn K (.ref C) "__init__" = some (some (.ref f))) (hf : PySem.W.typeIn K (.ref f) = some (.type "function"))
    (h : codeAny (model prog w) (A.under (.builtin "type.__call__" ⟨.ref C :: vs, kw⟩)) (.call (.ref f) ⟨.ref (s.heap.objs.size + 1) :: vs, kw⟩) (PySem.W.InitBack (s.heap.objs.size + 1) R)
      { s with heap := (s.heap.push PySem.W.emptyDict).push (PySem.W.instObj C s.heap.objs.size) }) :
    codeAny (model prog w) A (.call (.ref C) ⟨vs, kw⟩) R s := by
  obtain ⟨hh, g, d, t, os⟩ := s
  exact PySem.W.make_core (PySem.W.makes_of X hm) (PySem.W.looks_findIn X hi) (fun self => PySem.W.bind_fn X self hf) (.inl rfl) h
/-- C() where there is no __init__ but object's -/
theorem make_map0 {R : Result → Shared → Prop} (X : K.In s.heap) (hm : PySem.W.makesIn K C = true)
    (hi : PySem.W.findIn K (.ref C) "__init__" = some (some (.builtin "object.__init__")))
    (hb : ∀ self, PySem.W.Looks (model prog w) s.heap (bindSpecial (.builtin "object.__init__") self) (.builtin "object.__init__", [self]))
    (h : codeAny (model prog w) (A.under (.builtin "type.__call__" ⟨[.ref C], []⟩)) (.call (.builtin "object.__init__") ⟨[.ref (s.heap.objs.size + 1)], []⟩) (PySem.W.InitBack (s.heap.objs.size + 1) R)
      { s with heap := (s.heap.push PySem.W.emptyDict).push (PySem.W.instObj C s.heap.objs.size) }) :
    codeAny (model prog w) A (.call (.ref C) ⟨[], []⟩) R s := by
  obtain ⟨hh, g, d, t, os⟩ := s
  exact PySem.W.make_core (PySem.W.makes_of X hm) (PySem.W.looks_findIn X hi) hb (.inr ⟨rfl, rfl⟩) h
end

/-! ### the attributes as a list of pairs -/
def putF (f : Str) (v : V) : List (Str × V) → List (Str × V)
  | [] => [(f, v)]
  | (g, x) :: r => if g = f then (g, v) :: r else (g, x) :: putF f v r
theorem lookup_putF (f g : Str) (v : V) : ∀ fs : List (Str × V), (putF f v fs).lookup g = if g = f then some v else fs.lookup g
  | [] => by
    show List.lookup g [(f, v)] = _
    by_cases h : g = f
    · have hb : (g == f) = true := beq_iff_eq.mpr h
      simp only [List.lookup, hb, if_pos h]
    · have hb : (g == f) = false := beq_eq_false_iff_ne.mpr h
      simp only [List.lookup, hb, if_neg h]
  | (k, x) :: r => by
    have ih := lookup_putF f g v r
    rw [show putF f v ((k, x) :: r) = (if k = f then (k, v) :: r else (k, x) :: putF f v r) from rfl]
    by_cases hk : k = f
    · rw [if_pos hk]
      by_cases h : g = k
      · have hb : (g == k) = true := beq_iff_eq.mpr h
        simp only [List.lookup, hb, if_pos (h.trans hk)]
      · have hb : (g == k) = false := beq_eq_false_iff_ne.mpr h
        simp only [List.lookup, hb, if_neg (fun e : g = f => h (e.trans hk.symm))]
    · rw [if_neg hk]
      by_cases h : g = k
      · have hb : (g == k) = true := beq_iff_eq.mpr h
        simp only [List.lookup, hb, if_neg (fun e : g = f => hk (h.symm.trans e))]
      · have hb : (g == k) = false := beq_eq_false_iff_ne.mpr h
        simp only [List.lookup, hb]
        exact ih
theorem keys_putF (f : Str) (v : V) : ∀ fs : List (Str × V), f ∈ (putF f v fs).map (·.1) ∧ ∀ g, g ∈ fs.map (·.1) → g ∈ (putF f v fs).map (·.1)
  | [] => ⟨by simp [putF], fun g h => by simp at h⟩
  | (k, x) :: r => by
    obtain ⟨i1, i2⟩ := keys_putF f v r
    rw [show putF f v ((k, x) :: r) = (if k = f then (k, v) :: r else (k, x) :: putF f v r) from rfl]
    by_cases hk : k = f
    · rw [if_pos hk]
      subst hk
      exact ⟨by simp, fun g h => by simpa using h⟩
    · rw [if_neg hk]
      refine ⟨?_, fun g h => ?_⟩
      · rw [List.map_cons]
        exact List.mem_cons_of_mem _ i1
      · rw [List.map_cons] at h ⊢
        rcases List.mem_cons.mp h with e | e
        · exact List.mem_cons.mpr (.inl e)
        · exact List.mem_cons_of_mem _ (i2 g e)
theorem length_putF (f : Str) (v : V) : ∀ fs : List (Str × V), (putF f v fs).length ≤ fs.length + 1
  | [] => by simp [putF]
  | (k, x) :: r => by
    have ih := length_putF f v r
    rw [show putF f v ((k, x) :: r) = (if k = f then (k, v) :: r else (k, x) :: putF f v r) from rfl]
    by_cases hk : k = f
    · rw [if_pos hk, List.length_cons, List.length_cons]; omega
    · rw [if_neg hk, List.length_cons, List.length_cons]; omega

theorem RelO.some_of {v : V} {o : Option Value} (r : RelO (some v) o) : ∃ u, o = some u ∧ RelV v u := by
  cases o with
  | none => exact (show False from r).elim
  | some u => exact ⟨u, rfl, r⟩
theorem RelO.none_of {o : Option Value} (r : RelO none o) : o = none := by
  cases o with
  | none => rfl
  | some u => exact (show False from r).elim
theorem handed_of {v : V} {u : Value} (r : RelV v u) : PySem.W.handedIn u = true := by
  cases v with
  | non => cases (show u = Value.none from r); rfl
  | bl b => cases (show u = Value.bool b from r); rfl
  | int i => obtain ⟨t, e⟩ := (show ∃ t, u = Value.int i t from r); cases e; rfl
  | str x => obtain ⟨t, e⟩ := (show ∃ t, u = Value.str x t from r); cases e; rfl
  | byt b => obtain ⟨t, e⟩ := (show ∃ t, u = Value.bytes b t from r); cases e; rfl
  | flt b => obtain ⟨t, e⟩ := (show ∃ t, u = Value.float b t from r); cases e; rfl
  | ref a => cases (show u = Value.ref a from r); rfl
  | ty n => cases (show u = Value.type n from r); rfl

section
variable {P : Program} {w : World} {H H' : Hp} {h h' : Heap} {a C dx : Addr} {fs fs' : List (Str × V)}
theorem ins_get (hok : HOk P w H h) (e : H a = some (.ins C dx fs)) : ∃ mA, ObjM h a dx C mA ∧ (∀ f, RelO (fs.lookup f) (mA f)) ∧ PySem.Within mA (fs.map (·.1)) ∧ fs.length ≤ 1000 ∧ H dx = some (.own a) := by
  obtain ⟨d, z, ne, ob, mA, n, r, q⟩ := (show ObjOk P w H h a (.ins C dx fs) from hok a _ e)
  exact ⟨mA, ⟨ob, n, ne⟩, r, q, z, d⟩
end

/-! ### what of the text a class must have -/
structure Cls (K : PySem.W.Frag) (C : Addr) : Prop where
  pg : PySem.W.plainGet K C Str.empty = true
  hd : PySem.W.hasDictIn K C = true
  po : PySem.W.plainOver K C = true
  sa : PySem.W.findIn K (.ref C) "__setattr__" = some (some (.builtin "object.__setattr__"))
theorem Cls.get {K : PySem.W.Frag} {C : Addr} (c : Cls K C) (f : Str) : PySem.W.plainGet K C f = true := c.pg
/-- no class of it has the name -/
def NoAttr (K : PySem.W.Frag) (C : Addr) (f : Str) : Prop := PySem.W.findIn K (.ref C) f = some none
theorem NoAttr.taker {K : PySem.W.Frag} {C : Addr} {f : Str} (n : NoAttr K C f) : PySem.W.takerIn K C f = some none := by
  unfold PySem.W.takerIn
  rw [show PySem.W.findIn K (.ref C) f = some none from n]
  rfl
/-- a constant of the class -/
structure Con (K : PySem.W.Frag) (C : Addr) (f : Str) (v : V) (u : Value) : Prop where
  at_ : PySem.W.findIn K (.ref C) f = some (some u)
  rel : RelV v u
  get : PySem.W.specialIn K u "__get__" = some none
  cp : PySem.W.copiedNames.contains f = false
/-- a method: a plain def of the class or of one above it -/
structure Meth (K : PySem.W.Frag) (C : Addr) (m : Str) (f : Addr) : Prop where
  at_ : PySem.W.findIn K (.ref C) m = some (some (.ref f))
  fn : PySem.W.isFn K (.ref f) = true
  kp : PySem.W.keepIn K (.ref f) = true

section
variable {X : Cx} {pins : List (Addr × Obj)} {σ : St} {H : Hp} {s : Shared} {a C dx : Addr} {fs : List (Str × V)} {f : Str} {v : V} {A : Around} {E : Value → Shared → Prop}

theorem getattr_ok {b : Bool} {Q : Value → Shared → Prop} (I : Inv X pins σ H s) (e : H a = some (.ins C dx fs)) (c : Cls X.K C) (n : NoAttr X.K C f) (l : fs.lookup f = some v)
    (h : ∀ u s', Inv X pins σ H s' → RelV v u → Q u s') : wpAny (model X.prog X.w) A (getAttr (.ref a) f b) Q E s := by
  obtain ⟨mA, O, r, _, _, _⟩ := ins_get I.hok e
  obtain ⟨u, hu, ru⟩ := RelO.some_of (v := v) (o := mA f) (by rw [← l]; exact r f)
  exact get_map I.kIn O (c.get f) c.hd n hu (handed_of ru) (h u _ (I.tok _) ru)

theorem getcon_ok {b : Bool} {u : Value} {Q : Value → Shared → Prop} (I : Inv X pins σ H s) (e : H a = some (.ins C dx fs)) (c : Cls X.K C) (k : Con X.K C f v u) (l : fs.lookup f = none)
    (h : ∀ s', Inv X pins σ H s' → Q u s') : wpAny (model X.prog X.w) A (getAttr (.ref a) f b) Q E s := by
  obtain ⟨mA, O, r, _, _, _⟩ := ins_get I.hok e
  have hn : mA f = none := RelO.none_of (by rw [← l]; exact r f)
  exact get_const I.kIn O (c.get f) c.hd k.at_ k.get k.cp hn (handed_of k.rel) (h _ (I.tok _))

theorem getmeth_ok {m : Str} {g : Addr} {pl : Sem Bool} {Q : Value × List Value → Shared → Prop} (I : Inv X pins σ H s) (e : H a = some (.ins C dx fs)) (c : Cls X.K C) (k : Meth X.K C m g) (l : fs.lookup m = none)
    (h : Q (.ref g, [.ref a]) s) : wpAny (model X.prog X.w) A (getMethod (.ref a) m pl) Q E s := by
  obtain ⟨mA, O, r, _, _, _⟩ := ins_get I.hok e
  have hn : mA m = none := RelO.none_of (by rw [← l]; exact r m)
  exact get_meth I.kIn O (c.get m) k.at_ k.fn hn h

theorem setattr_ok {y : V} {u : Value} {Q : Unit → Shared → Prop} (I : Inv X pins σ H s) (e : H a = some (.ins C dx fs)) (c : Cls X.K C) (n : NoAttr X.K C f) (hl : fs.length < 1000) (ry : RelV y u)
    (h : ∀ s', Inv X pins σ (upd H a (.ins C dx (putF f y fs))) s' → Q () s') : wpAny (model X.prog X.w) A (setAttr (.ref a) f u) Q E s := by
  obtain ⟨mA, O, r, wi, _, ho⟩ := ins_get I.hok e
  have hz : (fs.map (·.1)).length ≤ sizeLine := by rw [List.length_map, sizeLine_eq]; omega
  refine set_map I.kIn O c.sa c.po n.taker c.hd wi hz fun h' O' sb => h _ ?_
  have hd : ∃ o, h'.get? dx = some o := let ⟨o, _, _, e', _⟩ := O'.ns; ⟨o, e'⟩
  refine I.write (x := a) (e := dx) (by rw [e]; exact True.intro) (.inr ho) (fun b q hb z => (sb.2 b hb).trans z) hd ?_
  refine ⟨by rw [upd_ne O.ne]; exact ho, ?_, O.ne, O'.obj, _, O'.ns, fun g => ?_, fun g hg => ?_⟩
  · have := length_putF f y fs; omega
  · show RelO ((putF f y fs).lookup g) (if g = f then some u else mA g)
    rw [lookup_putF]
    by_cases q : g = f
    · rw [if_pos q, if_pos q]; exact ry
    · rw [if_neg q, if_neg q]; exact r g
  · by_cases q : g = f
    · rw [q]; exact (keys_putF f y fs).1
    · refine (keys_putF f y fs).2 g (wi g fun z => hg ?_)
      show (if g = f then some u else mA g) = none
      rw [if_neg q]; exact z

/-- a new instance, tracked, without attributes -/
theorem Inv.made (I : Inv X pins σ H s) : Inv X pins σ (upd (upd H s.heap.objs.size (.own (s.heap.objs.size + 1))) (s.heap.objs.size + 1) (.ins C s.heap.objs.size []))
    { s with heap := (s.heap.push PySem.W.emptyDict).push (PySem.W.instObj C s.heap.objs.size) } := by
  have e1 : (s.heap.push PySem.W.emptyDict).get? s.heap.objs.size = some PySem.W.emptyDict := Heap.get?_push_size s.heap rfl
  have e2 : ((s.heap.push PySem.W.emptyDict).push (PySem.W.instObj C s.heap.objs.size)).get? (s.heap.objs.size + 1) = some (PySem.W.instObj C s.heap.objs.size) := by
    have := Heap.get?_push_size (s.heap.push PySem.W.emptyDict) (o := PySem.W.instObj C s.heap.objs.size) rfl
    rwa [Heap.size_push] at this
  have e3 : (s.heap.push PySem.W.emptyDict).Ns s.heap.objs.size (fun _ => none) := ⟨PySem.W.emptyDict, #[], _, e1, rfl, (fun e he => absurd he (by simp)), fun _ => rfl⟩
  have I1 := I.laid (a := s.heap.objs.size) (o := .own (s.heap.objs.size + 1)) (h' := s.heap.push PySem.W.emptyDict) (t' := s.toks) (fun b u q => Heap.get?_push_of_some _ q) (Nat.le_refl _) ⟨_, e1⟩
  refine I1.laid (a := s.heap.objs.size + 1) (o := .ins C s.heap.objs.size []) (t' := s.toks) (fun b u q => Heap.get?_push_of_some _ q) (Nat.le_of_eq (Heap.size_push _ _)) ?_
  have ne : s.heap.objs.size ≠ s.heap.objs.size + 1 := Nat.ne_of_lt (Nat.lt_succ_self _)
  refine ⟨by rw [upd_ne ne, upd_same], Nat.zero_le _, ne, e2, fun _ => none, (Heap.Ns1.of_empty e3).at fun o q => Heap.get?_push_of_some _ q, fun _ => True.intro, fun y hy => absurd rfl hy⟩

/-- e.f where nothing but the object is asked: through attributeBase (super) and the last hold -/
theorem attr_of {prog : Program} {w : World} {env : Env} {e : Expr} {f : Str} {pos : Pos} {s : Shared} {Q : Value → Shared → Prop} (hb : attributeBase e f env (eval e env) = eval e env)
    (h : wpAny (model prog w) A (eval e env) (fun o s₁ => wpAny (model prog w) A (getAttr o f true) Q E s₁) E s) : wpAny (model prog w) A (eval (.Attribute e f pos) env) Q E s :=
  Attribute_any_ h (by rw [arm_eval_Attribute, hb])
end

/-! ### readings and rules -/
/-- e.f, an attribute of the instance -/
def tFld (K : PySem.W.Frag) (ta : TE) (f : Str) : TE := fun σ H Q => ta σ H fun x H1 => ∃ a C dx fs v, x = .ref a ∧ H1 a = some (.ins C dx fs) ∧ Cls K C ∧ NoAttr K C f ∧ fs.lookup f = some v ∧ Q v H1
/-- e.f, a constant of the class -/
def tCon (K : PySem.W.Frag) (ta : TE) (f : Str) : TE := fun σ H Q => ta σ H fun x H1 => ∃ a C dx fs v u, x = .ref a ∧ H1 a = some (.ins C dx fs) ∧ Cls K C ∧ Con K C f v u ∧ fs.lookup f = none ∧ Q v H1
/-- e.f = value -/
def sFld (K : PySem.W.Frag) (ta tv : TE) (f : Str) : TS := fun D σ H => tv σ H fun y H1 => ta σ H1 fun x H2 => ∃ a C dx fs, x = .ref a ∧ H2 a = some (.ins C dx fs) ∧ Cls K C ∧ NoAttr K C f ∧ fs.length < 1000 ∧
  D.nx σ (upd H2 a (.ins C dx (putF f y fs)))
/-- an augmented operator on two values -/
def InOp (X : Cx) (op : Operator) (rd : V → V → Hp → VK → Prop) : Prop :=
  ∀ (pins : List (Addr × Obj)) (s : Shared) (σ : St) (H : Hp) (x y : V) (u v : Value) (Q : VK), Inv X pins σ H s → RelV x u → RelV y v → rd x y H Q → wpAny (model X.prog X.w) X.A (inplaceOp op u v) (EP X pins σ Q) X.xe s
/-- e.f op= value -/
def sFldAug (K : PySem.W.Frag) (ta tv : TE) (rd : V → V → Hp → VK → Prop) (f : Str) : TS := fun D σ H => ta σ H fun x H1 => ∃ a C dx fs v, x = .ref a ∧ H1 a = some (.ins C dx fs) ∧ Cls K C ∧ NoAttr K C f ∧ fs.lookup f = some v ∧
  tv σ H1 fun y H2 => rd v y H2 fun z H3 => ∃ dx' fs', H3 a = some (.ins C dx' fs') ∧ fs'.length < 1000 ∧ D.nx σ (upd H3 a (.ins C dx' (putF f z fs')))

section
variable {X : Cx} {o e value : Expr} {f : Str} {pos pos' tpos : Pos} {ta tv : TE}
theorem pe_fld (he : PE X e ta) (hb : attributeBase e f X.env (eval e X.env) = eval e X.env) : PE X (.Attribute e f pos) (tFld X.K ta f) := by
  intro pins s σ H Q I h
  refine attr_of hb (thn (he pins s σ H _ I h) fun u s1 ⟨x, H1, I1, rx, a, C, dx, fs, v, ex, ea, c, n, l, q⟩ => ?_)
  subst ex
  obtain rfl : u = Value.ref a := rx
  exact getattr_ok I1 ea c n l fun u' s2 I2 ru => ⟨v, H1, I2, ru, q⟩
theorem pe_con (he : PE X e ta) (hb : attributeBase e f X.env (eval e X.env) = eval e X.env) : PE X (.Attribute e f pos) (tCon X.K ta f) := by
  intro pins s σ H Q I h
  refine attr_of hb (thn (he pins s σ H _ I h) fun u s1 ⟨x, H1, I1, rx, a, C, dx, fs, v, u0, ex, ea, c, k, l, q⟩ => ?_)
  subst ex
  obtain rfl : u = Value.ref a := rx
  exact getcon_ok I1 ea c k l fun s2 I2 => ⟨v, H1, I2, k.rel, q⟩
theorem ps_fld (ha : PE X o ta) (hv : PE X value tv) (hs : swapsWith value (some (.Attribute o f pos')) pos.line X.env = pure false) : PS X (.Assign [.Attribute o f pos'] value pos) (sFld X.K ta tv f) := by
  intro pins s σ H D I h
  refine plainObj_wpAny_Assign_Attribute (thn (hv pins s σ H _ I h) fun u s1 ⟨y, H1, I1, ry, q⟩ => thn (ha pins s1 σ H1 _ I1 q) fun ov s2 ⟨x, H2, I2, rx, a, C, dx, fs, ex, ea, c, n, l, q2⟩ => ?_) hs
  subst ex
  obtain rfl : ov = Value.ref a := rx
  exact setattr_ok I2 ea c n l ry fun s3 I3 => ⟨σ, _, I3, q2⟩
theorem ps_fldaug {op : Operator} {rd : V → V → Hp → VK → Prop} (ha : PE X o ta) (hv : PE X value tv) (hop : InOp X op rd) : PS X (.AugAssign (.Attribute o f tpos) op value pos) (sFldAug X.K ta tv rd f) := by
  intro pins s σ H D I h
  refine wpAny_AugAssign_AttributeAny (thn (ha pins s σ H _ I h) fun ov s1 ⟨x, H1, I1, rx, a, C, dx, fs, v, ex, ea, c, n, l, q⟩ => ?_)
  subst ex
  obtain rfl : ov = Value.ref a := rx
  refine getattr_ok I1 ea c n l fun u s2 I2 ru => thn (hv pins s2 σ H1 _ I2 q) fun w3 s3 ⟨y, H2, I3, ry, q3⟩ => thn (hop pins s3 σ H2 v y u w3 _ I3 ru ry q3) fun w4 s4 ⟨z, H3, I4, rz, dx', fs', ea', l', q4⟩ => ?_
  exact setattr_ok I4 ea' c n l' rz fun s5 I5 => ⟨σ, _, I5, q4⟩
def rAdd : V → V → Hp → VK → Prop := fun x y H Q => ∃ i j, x = .int i ∧ y = .int j ∧ Q (.int (i + j)) H
def rSub : V → V → Hp → VK → Prop := fun x y H Q => ∃ i j, x = .int i ∧ y = .int j ∧ Q (.int (i - j)) H
theorem in_add : InOp X .Add rAdd := by
  rintro pins s σ H x y u v Q I rx ry ⟨i, j, rfl, rfl, q⟩
  obtain ⟨t, rfl⟩ := (show ∃ t, u = Value.int i t from rx)
  obtain ⟨t', rfl⟩ := (show ∃ t', v = Value.int j t' from ry)
  exact PyProof.Rows.iadd_int ⟨.int (i + j), H, I.tok _, ⟨_, rfl⟩, q⟩
theorem in_sub : InOp X .Sub rSub := by
  rintro pins s σ H x y u v Q I rx ry ⟨i, j, rfl, rfl, q⟩
  obtain ⟨t, rfl⟩ := (show ∃ t, u = Value.int i t from rx)
  obtain ⟨t', rfl⟩ := (show ∃ t', v = Value.int j t' from ry)
  exact PyProof.Rows.isub_int ⟨.int (i - j), H, I.tok _, ⟨_, rfl⟩, q⟩

/-- what is between an instance and its method: the tree of a method call -/
theorem methcall_of {pl : Sem Bool} {m : Str} {apos : Pos} {args : List Expr} {pins : List (Addr × Obj)} {s : Shared} {σ : St} {H : Hp} {Q : Value → Shared → Prop} {te : TE} (he : PE X e te) (I : Inv X pins σ H s)
    (h : te σ H fun x H1 => ∃ a C dx fs g, x = .ref a ∧ H1 a = some (.ins C dx fs) ∧ Cls X.K C ∧ Meth X.K C m g ∧ fs.lookup m = none ∧
      ∀ s1, Inv X pins σ H1 s1 → wpAny (model X.prog X.w) X.A (callWith pos (.ref g) [.ref a] (backTo pos (starEach args X.env)) (backToKw pos (keywordEach [] X.env))) Q X.xe s1)
    (ht : eval (.Call (.Attribute e m apos) args [] pos) X.env = (do
      let ov ← eval e X.env
      standAt apos.atName
      let (f, first) ← holding [ov] (getMethod ov m pl)
      callWith pos f first (backTo pos (starEach args X.env)) (backToKw pos (keywordEach [] X.env)))) :
    wpAny (model X.prog X.w) X.A (eval (.Call (.Attribute e m apos) args [] pos) X.env) Q X.xe s := by
  refine PySem.W.methodCall_KW (pl := pl) (thn (he pins s σ H _ I h) fun u s1 ⟨x, H1, I1, rx, a, C, dx, fs, g, ex, ea, c, k, l, q⟩ => ?_) ht
  subst ex
  obtain rfl : u = Value.ref a := rx
  exact getmeth_ok I1 ea c k l (q s1 I1)
end

/-! ### isinstance -/
section
variable {X : Cx} {pins : List (Addr × Obj)} {σ : St} {H : Hp} {s : Shared} {A : Around} {E : Value → Shared → Prop} {Q : Value → Shared → Prop} {c : Value} {b : Bool}
/-- the type of a value, as the fragment's deciders take it; for an instance its class -/
inductive TyOf (K : PySem.W.Frag) (H : Hp) : V → Value → Prop where
  | non : TyOf K H .non (.type "NoneType")
  | bl (x : Bool) : TyOf K H (.bl x) (.type "bool")
  | int (i : Int) : TyOf K H (.int i) (.type "int")
  | str (x : Str) : TyOf K H (.str x) (.type "str")
  | flt (x : UInt64) : TyOf K H (.flt x) (.type "float")
  | lst {a : Addr} {xs : List V} (e : H a = some (.lst xs)) : TyOf K H (.ref a) (.type "list")
  | frz {a : Addr} {o : Obj} {xs : List V} (e : H a = some (.frz o (.lst xs))) : TyOf K H (.ref a) (.type "list")
  | tup {a : Addr} {xs : List V} (e : H a = some (.tup xs)) : TyOf K H (.ref a) (.type "tuple")
  | dK {a : Addr} {kvs : List (Key × V)} (e : H a = some (.dK kvs)) : TyOf K H (.ref a) (.type "dict")
  | dT {a : Addr} {kvs : List (List Key × V)} (e : H a = some (.dT kvs)) : TyOf K H (.ref a) (.type "dict")
  | ins {a C dx : Addr} {fs : List (Str × V)} (e : H a = some (.ins C dx fs)) (cl : Cls K C) (ha : PySem.W.findIn K (.ref C) "__class__" = some (some (.builtin "object.__class__")))
      (hn : PySem.W.specialIn K (.builtin "object.__class__") "__get__" = some (some (.builtin "getset_descriptor.__get__"))) (htk : PySem.W.takesIn K (.builtin "object.__class__") = some true)
      (hm : PySem.W.mroIn K C (.type "object") = some true) : TyOf K H (.ref a) (.ref C)
/-- isinstance(x, c) for one class c, a built-in or an own one: kitOne's answer -/
theorem isinst_ok {x : V} {u t : Value} (I : Inv X pins σ H s) (rx : RelV x u) (ty : TyOf X.K H x t) (e : PySem.W.kitOne X.K t c = some b) (h : ∀ tk, Q (.bool b) { s with toks := tk }) :
    wpAny (model X.prog X.w) A (call (.builtin "isinstance") [u, c]) Q E s := by
  cases ty with
  | non => cases (show u = Value.none from rx); exact PySem.W.kia_one PySem.W.kitx_none I.kIn True.intro e (fun z => nomatch z) h
  | bl y => cases (show u = Value.bool y from rx); exact PySem.W.kia_one PySem.W.kitx_bool I.kIn True.intro e (fun z => nomatch z) h
  | int i => obtain ⟨t, q⟩ := (show ∃ t, u = Value.int i t from rx); cases q; exact PySem.W.kia_one PySem.W.kitx_int I.kIn True.intro e (fun z => nomatch z) h
  | str y => obtain ⟨t, q⟩ := (show ∃ t, u = Value.str y t from rx); cases q; exact PySem.W.kia_one PySem.W.kitx_str I.kIn True.intro e (fun z => nomatch z) h
  | flt y => obtain ⟨t, q⟩ := (show ∃ t, u = Value.float y t from rx); cases q; exact PySem.W.kia_one PySem.W.kitx_float I.kIn True.intro e (fun z => nomatch z) h
  | @lst a xs ea =>
    cases (show u = Value.ref a from rx)
    obtain ⟨_, _, n, _, h1⟩ := (show ObjOk X.prog X.w H s.heap a (.lst xs) from I.hok a _ ea)
    exact PySem.W.kia_one PySem.W.kitx_list I.kIn ⟨_, h1, rfl⟩ e (fun z => nomatch z) h
  | @frz a ob xs ea =>
    cases (show u = Value.ref a from rx)
    obtain ⟨_, _, _, n, _, h1⟩ := (show ObjOk X.prog X.w H s.heap a (.frz ob (.lst xs)) from I.hok a _ ea)
    exact PySem.W.kia_one PySem.W.kitx_list I.kIn ⟨_, h1, rfl⟩ e (fun z => nomatch z) h
  | @tup a xs ea =>
    cases (show u = Value.ref a from rx)
    obtain ⟨_, _, _, p⟩ := (show ObjOk X.prog X.w H s.heap a (.tup xs) from I.hok a _ ea)
    obtain ⟨o, h1, h2, _⟩ := p
    exact PySem.W.kia_one PySem.W.kitx_tuple I.kIn ⟨o, h1, h2⟩ e (fun z => nomatch z) h
  | @dK a kvs ea =>
    cases (show u = Value.ref a from rx)
    obtain ⟨_, _, vs, _, p⟩ := (show ObjOk X.prog X.w H s.heap a (.dK kvs) from I.hok a _ ea)
    obtain ⟨o, es, ep, h1, h2, _⟩ := p
    exact PySem.W.kia_one PySem.W.kitx_dict I.kIn ⟨o, h1, h2.1⟩ e (fun z => nomatch z) h
  | @dT a kvs ea =>
    cases (show u = Value.ref a from rx)
    obtain ⟨_, _, xs, _, o, es, ep, h1, h2, _⟩ := (show ObjOk X.prog X.w H s.heap a (.dT kvs) from I.hok a _ ea)
    exact PySem.W.kia_one PySem.W.kitx_dict I.kIn ⟨o, h1, h2.1⟩ e (fun z => nomatch z) h
  | @ins a C dx fs ea cl ha hn htk hm =>
    cases (show u = Value.ref a from rx)
    obtain ⟨mA, O, _⟩ := ins_get I.hok ea
    obtain ⟨od, J, _⟩ := O.look
    exact PySem.W.kia_one (PySem.W.kitx_own (cl.get _) cl.hd ha hn htk hm) I.kIn J e (fun z => nomatch z) h
end
end L2

namespace L2
open PySem PySem.Spec PyProof.Rows

/-! ### room -/
structure Room (k : Nat) (A : Around) : Prop where
  hd : A.handled = none
  dp : A.depth + 3 * k + 5 < recursionLimit
  un : A.units + 16 * k + 200 < cLine
theorem Room.mono {j k : Nat} {A : Around} (r : Room k A) (h : j ≤ k) : Room j A := ⟨r.hd, by have := r.dp; omega, by have := r.un; omega⟩
theorem Room.deeper {k : Nat} {A : Around} (r : Room (k + 1) A) (env : Env) : Room k (A.deeper env) :=
  ⟨r.hd, by have := r.dp; show A.depth + 1 + 3 * k + 5 < _; omega, by have := r.un; show A.units + 3 + 16 * k + 200 < _; omega⟩
theorem Room.in1 {k : Nat} {A : Around} (r : Room (k + 1) A) : Room k A.in1 :=
  ⟨r.hd, by have := r.dp; show A.depth + 3 * k + 5 < _; omega, by have := r.un; show A.units + 1 + 16 * k + 200 < _; omega⟩
theorem make_depth {A : Around} {C : Addr} {us : List Value} {kw : List (Str × Value)} : (A.under (.builtin "type.__call__" ⟨.ref C :: us, kw⟩)).depth = A.depth + 1 := by
  first | rfl | simp [Around.under, Code.weight, Code.isCreation, Code.isGuard, Code.isCaller, Code.frames, Code.isFrame, guardIds]
theorem make_units {A : Around} {C : Addr} {us : List Value} {kw : List (Str × Value)} : (A.under (.builtin "type.__call__" ⟨.ref C :: us, kw⟩)).units = A.units + 1 := by
  first | rfl | simp [Around.under, Code.cUnits, Code.frames, Code.isFrame]
theorem Room.make {k : Nat} {A : Around} (r : Room (k + 1) A) (C : Addr) (us : List Value) (kw : List (Str × Value)) : Room k (A.under (.builtin "type.__call__" ⟨.ref C :: us, kw⟩)) :=
  ⟨r.hd, by have := r.dp; rw [make_depth]; omega, by have := r.un; rw [make_units]; omega⟩
theorem Room.depth {k : Nat} {A : Around} (r : Room k A) : A.depth < recursionLimit := by have := r.dp; omega
theorem Room.units {k : Nat} {A : Around} (r : Room k A) : A.units + 64 < cLine := by have := r.un; omega
theorem Room.units0 {k : Nat} {A : Around} (r : Room k A) : A.units < cLine := by have := r.un; omega

/-! ### argument lists and displays -/
def tNil : TA := fun _ H Q => Q [] H
def tCons (ta : TE) (tr : TA) : TA := fun σ H Q => ta σ H fun x H1 => tr σ H1 fun xs H2 => Q (x :: xs) H2
section
variable {X : Cx} {e : Expr} {es : List Expr} {te : TE} {t : TA} {pos : Pos}
theorem pa_nil : PA X [] tNil := fun _ _ _ _ H Q I h => Calls.spliced_nil ⟨[], H, I, .nil, h⟩
theorem pa_cons (ha : PE X e te) (hr : PA X es t) (hs : starEach (e :: es) X.env = (false, eval e X.env) :: starEach es X.env := by rfl) : PA X (e :: es) (tCons te t) := by
  intro pos pins s σ H Q I h
  rw [hs]
  show wpAny _ _ (spliced ((false, eval e X.env) :: backTo pos (starEach es X.env))) _ _ s
  refine Calls.spliced_cons (thn (ha pins s σ H _ I h) fun u s1 ⟨x, H1, I1, r1, q1⟩ => ?_)
  exact thn (hr pos pins s1 σ H1 _ I1 q1) fun us s2 ⟨xs, H2, I2, r2, q2⟩ => ⟨x :: xs, H2, I2, .cons r1 r2, q2⟩

/-- a tuple, a list of written items -/
def tTup (t : TA) : TE := fun σ H Q => t σ H fun xs H1 => xs.length ≤ sizeLine ∧ ∀ p, H1 p = none → Q (.ref p) (upd H1 p (.tup xs))
def tLst (t : TA) : TE := fun σ H Q => t σ H fun xs H1 => xs.length ≤ sizeLine ∧ ∀ p, H1 p = none → Q (.ref p) (upd H1 p (.lst xs))
theorem pe_tup {x1} (h : PA X es t) : PE X (.Tuple es x1 pos) (tTup t) := by
  intro pins s σ H Q I hq
  refine wpAny_Tuple_spliced (thn (h pos pins s σ H _ I hq) fun us s1 ⟨xs, H1, I1, r, z, q⟩ => ⟨by rw [← r.length]; exact z, ?_⟩)
  have hf : H1 s1.heap.objs.size = none := I1.hok.fresh (Nat.le_refl _)
  refine ⟨.ref s1.heap.objs.size, upd H1 s1.heap.objs.size (.tup xs), I1.laid (t' := s1.toks) (fun b u e => Heap.get?_push_of_some _ e) (Nat.le_refl _) ?_, rfl, q _ hf⟩
  exact ⟨z, us, r, ⟨_, Heap.get?_push_size _ rfl, rfl, _, rfl⟩⟩
theorem pe_lst (h : PA X es t) : PE X (.List es pos) (tLst t) := by
  intro pins s σ H Q I hq
  refine wpAny_List_spliced (thn (h pos pins s σ H _ I hq) fun us s1 ⟨xs, H1, I1, r, z, q⟩ => ⟨by rw [← r.length]; exact z, ?_⟩)
  have hf : H1 s1.heap.objs.size = none := I1.hok.fresh (Nat.le_refl _)
  refine ⟨.ref s1.heap.objs.size, upd H1 s1.heap.objs.size (.lst xs), I1.laid (t' := s1.toks) (fun b u e => Heap.get?_push_of_some _ e) (Nat.le_refl _) ?_, rfl, q _ hf⟩
  exact ⟨z, us, 0, r, Heap.get?_push_size _ rfl⟩
end

/-! ### what a def promises -/
/-- a def's promise: the bound arguments in the parameters' order, the heap, the wanted end, the wanted exception -/
abbrev Sp := List V → Hp → VK → XK → Prop
/-- how an exception lies behind a call (file 08 gives it): the callers' frames, abstract heap and state ahead of the call, the wish, the exception, the state -/
abbrev CXT := List Env → Hp → Shared → XK → Value → Shared → Prop

/-- the state at a call -/
structure Env0 (P : Program) (w : World) (K : PySem.W.Frag) (mg : Str → Option Value) (base : Heap) (A : Around) (outer : List Env) (s : Shared) (H : Hp) : Prop where
  frames : A.frames = some outer
  mod : Mod K mg base
  bs : ∀ b o, base.get? b = some o → s.heap.get? b = some o ∧ H b = none
  bsz : base.objs.size ≤ s.heap.objs.size
  funs : s.heap.FunFrames base outer
  frf : ∀ b ∈ frs outer, H b = none
  hok : HOk P w H s.heap
  bare : AllBare s.gens
/-- a call's end -/
def CE (outer : List Env) (P : Program) (w : World) (H : Hp) (s : Shared) (Q : VK) (u : Value) (s' : Shared) : Prop :=
  ∃ v H', s'.os = s.os ∧ AllBare s'.gens ∧ Un (frs outer) [] H H' s.heap s'.heap ∧ HOk P w H' s'.heap ∧ RelV v u ∧ Q v H'
def CR (CX : CXT) (outer : List Env) (P : Program) (w : World) (H : Hp) (s : Shared) (Q : VK) (E : XK) (r : Result) (s' : Shared) : Prop :=
  match r with
  | .ok (.ret u) => CE outer P w H s Q u s'
  | .ok _ => False
  | .error e => CX outer H s E e s'
structure FnOk (P : Program) (w : World) (K : PySem.W.Frag) (mg : Str → Option Value) (base : Heap) (CX : CXT) (k : Nat) (f : Addr) (fd : FuncData) (ps : List Str) (sp : Sp) : Prop where
  len : ∀ vs H Q E, sp vs H Q E → vs.length = ps.length
  run : ∀ (A : Around) (outer : List Env) (s : Shared) (H : Hp) (args : Args) (us : List Value) (vs : List V) (Q : VK) (E : XK), Room k A → Env0 P w K mg base A outer s H → BindsTo s fd args (ps.zip us) → Vals vs us → sp vs H Q E →
    codeAny (model P w) A (.call (.ref f) args) (CR CX outer P w H s Q E) s
theorem FnOk.mono {P : Program} {w : World} {K : PySem.W.Frag} {mg : Str → Option Value} {base : Heap} {CX : CXT} {j k : Nat} {f : Addr} {fd : FuncData} {ps : List Str} {sp : Sp} (F : FnOk P w K mg base CX j f fd ps sp) (h : j ≤ k) :
    FnOk P w K mg base CX k f fd ps sp := ⟨F.len, fun A outer s H args us vs Q E hr => F.run A outer s H args us vs Q E (hr.mono h)⟩
/-- a weaker promise -/
theorem FnOk.imp {P : Program} {w : World} {K : PySem.W.Frag} {mg : Str → Option Value} {base : Heap} {CX : CXT} {k : Nat} {f : Addr} {fd : FuncData} {ps : List Str} {sp sp' : Sp} (F : FnOk P w K mg base CX k f fd ps sp)
    (h : ∀ vs H Q E, sp' vs H Q E → sp vs H Q E) : FnOk P w K mg base CX k f fd ps sp' :=
  ⟨fun vs H Q E q => F.len vs H Q E (h _ _ _ _ q), fun A outer s H args us vs Q E hr he hb hv hs => F.run A outer s H args us vs Q E hr he hb hv (h _ _ _ _ hs)⟩

theorem Env0.make {P : Program} {w : World} {K : PySem.W.Frag} {mg : Str → Option Value} {base : Heap} {A : Around} {outer : List Env} {s : Shared} {H : Hp} (e : Env0 P w K mg base A outer s H) (C : Addr) (us : List Value) (kw : List (Str × Value)) :
    Env0 P w K mg base (A.under (.builtin "type.__call__" ⟨.ref C :: us, kw⟩)) outer s H := ⟨by first | exact e.frames | (simpa [Around.under, Code.envs, Code.isFrame, pushEnvs] using e.frames), e.mod, e.bs, e.bsz, e.funs, e.frf, e.hok, e.bare⟩
theorem Env0.in1 {P : Program} {w : World} {K : PySem.W.Frag} {mg : Str → Option Value} {base : Heap} {A : Around} {outer : List Env} {s : Shared} {H : Hp} (e : Env0 P w K mg base A outer s H) :
    Env0 P w K mg base A.in1 outer s H := ⟨e.frames, e.mod, e.bs, e.bsz, e.funs, e.frf, e.hok, e.bare⟩

section
variable {X : Cx} {pins : List (Addr × Obj)} {σ : St} {H : Hp} {s s' : Shared}
/-- from a body: what a callee wants -/
theorem Inv.env0 (I : Inv X pins σ H s) : Env0 X.prog X.w X.K X.mg X.base X.A X.stack s H :=
  ⟨I.ok.frames, I.ok.mod, I.bs, Nat.le_trans I.ok.bsz I.sz, I.stack, I.stkFree, I.hok, I.bare⟩
/-- behind a call -/
theorem Inv.after {Q : VK} {u : Value} (I : Inv X pins σ H s) (h : CE X.stack X.prog X.w H s Q u s') : EP X pins σ Q u s' := by
  obtain ⟨v, H', os, bare, un, hok, r, q⟩ := h
  obtain ⟨hh, g, d, t, os'⟩ := s'
  obtain rfl : os' = s.os := os
  exact ⟨v, H', I.call (h' := hh) (g' := g) (d' := d) (t' := t) (ch := []) un hok bare (fun b z => absurd z (by simp)), r, q⟩
end

/-! ### calls -/
/-- f(..): the written arguments, then the defaults dvs; E: what is wanted of an exception -/
def tCall (sp : Sp) (dvs : List V) (E : XK) (t : TA) : TE := fun σ H Q => t σ H fun vs H1 => sp (vs ++ dvs) H1 Q E
/-- o.m(..) of an instance of the class at C -/
def tMeth (C : Addr) (m : Str) (sp : Sp) (dvs : List V) (E : XK) (ta : TE) (t : TA) : TE := fun σ H Q => ta σ H fun x H1 => ∃ a dx fs, x = .ref a ∧ H1 a = some (.ins C dx fs) ∧ fs.lookup m = none ∧
  t σ H1 fun vs H2 => sp (x :: (vs ++ dvs)) H2 Q E
/-- C(..): a new instance and its dict, then __init__ -/
def tMake (C : Addr) (sp : Sp) (dvs : List V) (E : XK) (t : TA) : TE := fun σ H Q => t σ H fun vs H1 => ∀ x dx, H1 x = none → H1 dx = none → dx ≠ x →
  sp (.ref x :: (vs ++ dvs)) (upd (upd H1 dx (.own x)) x (.ins C dx [])) (fun v H2 => v = .non ∧ Q (.ref x) H2) E

/-- how the parameters are bound: us the positional arguments, kw the keywords' values by name, ds the defaults that fill up -/
def Binds (K : PySem.W.Frag) (fd : FuncData) (ps : List Str) (ds : List Value) : Prop :=
  ∀ (s : Shared) (us : List Value), K.In s.heap → (us ++ ds).length = ps.length → BindsTo s fd ⟨us, []⟩ (ps.zip (us ++ ds))
/-- every parameter is given -/
theorem Binds.all {K : PySem.W.Frag} {fd : FuncData} {ps : List Str} (h : ∀ us : List Value, us.length = ps.length → bindArgs fd ⟨us, []⟩ = pure (ps.zip us)) : Binds K fd ps [] := fun s us _ hl => by
  rw [List.append_nil] at hl ⊢
  exact .of_eq (h us hl)

/-- an exception of a callee reaches what this body wants of exceptions -/
def Passes (CX : CXT) (X : Cx) (E : XK) : Prop := ∀ (pins : List (Addr × Obj)) (σ : St) (H : Hp) (s : Shared) (e : Value) (s' : Shared), Inv X pins σ H s → CX X.stack H s E e s' → X.xe e s'

section
variable {X : Cx} {CX : CXT} {k : Nat} {f C : Addr} {fd : FuncData} {ps : List Str} {sp : Sp} {dvs : List V} {ds : List Value} {E : XK} {x m : Str} {p pos apos : Pos} {e o : Expr} {es : List Expr} {ta : TE} {t : TA}

/-- the callee runs -/
theorem run_fn {pins : List (Addr × Obj)} {σ : St} {H : Hp} {s : Shared} {Q : VK} {us : List Value} {vs : List V} (F : FnOk X.prog X.w X.K X.mg X.base CX k f fd ps sp) (hr : Room k X.A) (hb : Binds X.K fd ps ds) (hd : Vals dvs ds) (hx : Passes CX X E)
    (I : Inv X pins σ H s) (r : Vals vs us) (h : sp (vs ++ dvs) H Q E) : wpAny (model X.prog X.w) X.A (call (.ref f) us) (EP X pins σ Q) X.xe s := by
  have r2 : Vals (vs ++ dvs) (us ++ ds) := r.append hd
  have hl : (us ++ ds).length = ps.length := by rw [← r2.length]; exact F.len _ _ _ _ h
  refine wpAny_call (codeAny_mono (F.run X.A X.stack s H ⟨us, []⟩ (us ++ ds) (vs ++ dvs) Q E hr I.env0 (hb s us I.kIn hl) r2 h) fun r s' hq => ?_)
  cases r with
  | error e => exact hx pins σ H s e s' I hq
  | ok fl =>
    cases fl with
    | ret u => exact I.after hq
    | next => exact False.elim hq
    | brk => exact False.elim hq
    | cont => exact False.elim hq

theorem pe_call (F : FnOk X.prog X.w X.K X.mg X.base CX k f fd ps sp) (hr : Room k X.A) (hg : Gl X x) (hm : X.mg x = some (.ref f)) (hk : PySem.W.keepIn X.K (.ref f) = true) (hb : Binds X.K fd ps ds) (hd : Vals dvs ds) (hx : Passes CX X E)
    (ha : PA X (e :: es) t) (hdb : (x == ("__debug__" : Str)) = false := by decide) (he : starEach (e :: es) X.env = (false, eval e X.env) :: starEach es X.env := by rfl) (hpl : (backTo pos (starEach es X.env)).any (·.1) = false := by rfl) :
    PE X (.Call (.Name x p) (e :: es) [] pos) (tCall sp dvs E t) := by
  intro pins s σ H Q I h
  refine wpAny_Call_Name_kw (ld_glob I hg hm ?_ hdb)
  refine PySem.W.callWith_K (h₀ := X.base) I.ok.mod.kin hk (thn (ha pos pins s σ H _ I h) fun us s1 ⟨vs, H1, I1, r, q⟩ => ⟨I1.kIn, ?_⟩) he hpl
  exact run_fn F hr hb hd hx I1 r q
theorem pe_call0 (F : FnOk X.prog X.w X.K X.mg X.base CX k f fd ps sp) (hr : Room k X.A) (hg : Gl X x) (hm : X.mg x = some (.ref f)) (hk : PySem.W.keepIn X.K (.ref f) = true) (hb : Binds X.K fd ps ds) (hd : Vals dvs ds) (hx : Passes CX X E)
    (hdb : (x == ("__debug__" : Str)) = false := by decide) : PE X (.Call (.Name x p) [] [] pos) (tCall sp dvs E tNil) := by
  intro pins s σ H Q I h
  refine wpAny_Call_Name_kw (ld_glob I hg hm ?_ hdb)
  exact PySem.W.callWith_K0 I.kIn hk (run_fn (us := []) F hr hb hd hx I .nil h)

/-- o.m(e, ..) -/
theorem pe_meth {pl : Sem Bool} (he : PE X o ta) (c : Cls X.K C) (hm : Meth X.K C m f) (F : FnOk X.prog X.w X.K X.mg X.base CX k f fd ps sp) (hr : Room k X.A) (hb : Binds X.K fd ps ds) (hd : Vals dvs ds) (hx : Passes CX X E) (ha : PA X (e :: es) t)
    (hst : starEach (e :: es) X.env = (false, eval e X.env) :: starEach es X.env := by rfl) (hpl : (backTo pos (starEach es X.env)).any (·.1) = false := by rfl)
    (ht : eval (.Call (.Attribute o m apos) (e :: es) [] pos) X.env = (do
      let ov ← eval o X.env
      standAt apos.atName
      let (f, first) ← holding [ov] (getMethod ov m pl)
      callWith pos f first (backTo pos (starEach (e :: es) X.env)) (backToKw pos (keywordEach [] X.env))) := by rfl) :
    PE X (.Call (.Attribute o m apos) (e :: es) [] pos) (tMeth C m sp dvs E ta t) := by
  intro pins s σ H Q I h
  refine PySem.W.methodCall_KW (pl := pl) (thn (he pins s σ H _ I h) fun u s1 ⟨x, H1, I1, rx, a, dx, fs, ex, ea, l, q⟩ => ?_) ht
  subst ex
  obtain rfl : u = Value.ref a := rx
  refine getmeth_ok I1 ea c hm l ?_
  refine PySem.W.callWith_K (first := [.ref a]) (h₀ := X.base) I.ok.mod.kin hm.kp (thn (ha pos pins s1 σ H1 _ I1 q) fun us s2 ⟨vs, H2, I2, r, q2⟩ => ⟨I2.kIn, ?_⟩) hst hpl
  exact run_fn (us := .ref a :: us) (vs := .ref a :: vs) F hr hb hd hx I2 (.cons rfl r) q2
/-- o.m() -/
theorem pe_meth0 {pl : Sem Bool} (he : PE X o ta) (c : Cls X.K C) (hm : Meth X.K C m f) (F : FnOk X.prog X.w X.K X.mg X.base CX k f fd ps sp) (hr : Room k X.A) (hb : Binds X.K fd ps ds) (hd : Vals dvs ds) (hx : Passes CX X E)
    (ht : eval (.Call (.Attribute o m apos) [] [] pos) X.env = (do
      let ov ← eval o X.env
      standAt apos.atName
      let (f, first) ← holding [ov] (getMethod ov m pl)
      callWith pos f first (backTo pos (starEach [] X.env)) (backToKw pos (keywordEach [] X.env))) := by rfl) :
    PE X (.Call (.Attribute o m apos) [] [] pos) (tMeth C m sp dvs E ta tNil) := by
  intro pins s σ H Q I h
  refine PySem.W.methodCall_KW (pl := pl) (thn (he pins s σ H _ I h) fun u s1 ⟨x, H1, I1, rx, a, dx, fs, ex, ea, l, q⟩ => ?_) ht
  subst ex
  obtain rfl : u = Value.ref a := rx
  refine getmeth_ok I1 ea c hm l ?_
  exact PySem.W.callWith_K0 (first := [.ref a]) I1.kIn hm.kp (run_fn (us := [.ref a]) (vs := [.ref a]) F hr hb hd hx I1 (.cons rfl .nil) q)

/-- what a class must have to be made -/
structure Mk (K : PySem.W.Frag) (C f : Addr) : Prop where
  makes : PySem.W.makesIn K C = true
  init : PySem.W.findIn K (.ref C) "__init__" = some (some (.ref f))
  fn : PySem.W.isFn K (.ref f) = true
  kp : PySem.W.keepIn K (.ref C) = true

theorem run_make {pins : List (Addr × Obj)} {σ : St} {H : Hp} {s : Shared} {Q : VK} {us : List Value} {vs : List V} (M : Mk X.K C f) (F : FnOk X.prog X.w X.K X.mg X.base CX k f fd ps sp) (hr : Room (k + 1) X.A) (hb : Binds X.K fd ps ds) (hd : Vals dvs ds)
    (hx : Passes CX X E) (I : Inv X pins σ H s) (r : Vals vs us)
    (h : ∀ x dx, H x = none → H dx = none → dx ≠ x → sp (.ref x :: (vs ++ dvs)) (upd (upd H dx (.own x)) x (.ins C dx [])) (fun v H2 => v = .non ∧ Q (.ref x) H2) E) :
    wpAny (model X.prog X.w) X.A (call (.ref C) us) (EP X pins σ Q) X.xe s := by
  have hq := h (s.heap.objs.size + 1) s.heap.objs.size (I.hok.fresh (Nat.le_succ _)) (I.hok.fresh (Nat.le_refl _)) (Nat.ne_of_lt (Nat.lt_succ_self _))
  have I2 := Inv.made (C := C) I
  have r2 : Vals (V.ref (s.heap.objs.size + 1) :: (vs ++ dvs)) (Value.ref (s.heap.objs.size + 1) :: (us ++ ds)) := .cons rfl (r.append hd)
  have hl : (Value.ref (s.heap.objs.size + 1) :: us ++ ds).length = ps.length := by
    have e := r2.length
    rw [F.len _ _ _ _ hq] at e
    exact e.symm
  refine wpAny_call (make_map (f := f) I.kIn M.makes M.init (beq_iff_eq.mp M.fn) (codeAny_mono (F.run _ X.stack _ _ ⟨Value.ref (s.heap.objs.size + 1) :: us, []⟩ (Value.ref (s.heap.objs.size + 1) :: (us ++ ds)) _ _ E (hr.make C us [])
    (I2.env0.make C us []) (hb _ (Value.ref (s.heap.objs.size + 1) :: us) I2.kIn hl) r2 hq) fun r s' hq' => ?_))
  cases r with
  | error e => exact hx pins σ _ _ e s' I2 hq'
  | ok fl =>
    cases fl with
    | ret u =>
      obtain ⟨v, H', I3, rv, ev, q3⟩ := I2.after hq'
      subst ev
      exact ⟨rv, ⟨V.ref (s.heap.objs.size + 1), H', I3, rfl, q3⟩⟩
    | next => exact False.elim hq'
    | brk => exact False.elim hq'
    | cont => exact False.elim hq'
theorem pe_make (M : Mk X.K C f) (F : FnOk X.prog X.w X.K X.mg X.base CX k f fd ps sp) (hr : Room (k + 1) X.A) (hg : Gl X x) (hm : X.mg x = some (.ref C)) (hb : Binds X.K fd ps ds) (hd : Vals dvs ds) (hx : Passes CX X E)
    (ha : PA X (e :: es) t) (hdb : (x == ("__debug__" : Str)) = false := by decide) (he : starEach (e :: es) X.env = (false, eval e X.env) :: starEach es X.env := by rfl) (hpl : (backTo pos (starEach es X.env)).any (·.1) = false := by rfl) :
    PE X (.Call (.Name x p) (e :: es) [] pos) (tMake C sp dvs E t) := by
  intro pins s σ H Q I h
  refine wpAny_Call_Name_kw (ld_glob I hg hm ?_ hdb)
  refine PySem.W.callWith_K (h₀ := X.base) I.ok.mod.kin M.kp (thn (ha pos pins s σ H _ I h) fun us s1 ⟨vs, H1, I1, r, q⟩ => ⟨I1.kIn, ?_⟩) he hpl
  exact run_make M F hr hb hd hx I1 r q
theorem pe_make0 (M : Mk X.K C f) (F : FnOk X.prog X.w X.K X.mg X.base CX k f fd ps sp) (hr : Room (k + 1) X.A) (hg : Gl X x) (hm : X.mg x = some (.ref C)) (hb : Binds X.K fd ps ds) (hd : Vals dvs ds) (hx : Passes CX X E)
    (hdb : (x == ("__debug__" : Str)) = false := by decide) : PE X (.Call (.Name x p) [] [] pos) (tMake C sp dvs E tNil) := by
  intro pins s σ H Q I h
  refine wpAny_Call_Name_kw (ld_glob I hg hm ?_ hdb)
  exact PySem.W.callWith_K0 I.kIn M.kp (run_make (us := []) M F hr hb hd hx I .nil h)
end

/-! ### keywords -/
/-- the values of the keywords, from the left -/
def PK (X : Cx) (kws : List Keyword) (t : TA) : Prop :=
  ∀ (pos : Pos) (pins : List (Addr × Obj)) (s : Shared) (σ : St) (H : Hp) (Q : List V → Hp → Prop), Inv X pins σ H s → t σ H Q → wpAny (model X.prog X.w) X.A (evalAll ((backToKw pos (keywordEach kws X.env)).map (·.2))) (AP X pins σ Q) X.xe s
section
variable {X : Cx} {CX : CXT} {k : Nat} {f C : Addr} {fd : FuncData} {ps ks : List Str} {sp : Sp} {E : XK} {x m : Str} {p pos apos kpos : Pos} {e o : Expr} {es : List Expr} {kws : List Keyword} {te ta : TE} {t tk : TA} {nm : Option Str}
theorem pk_nil : PK X [] tNil := fun _ _ _ _ H Q I h => wpAny_evalAll_nil ⟨[], H, I, .nil, h⟩
theorem pk_cons (ha : PE X e te) (hr : PK X kws t) : PK X (⟨nm, e, kpos⟩ :: kws) (tCons te t) := by
  intro pos pins s σ H Q I h
  show wpAny _ _ (evalAll ((do let v ← eval e X.env; standAt pos; pure v) :: (backToKw pos (keywordEach kws X.env)).map (·.2))) _ _ s
  refine wpAny_evalAll_cons (wpAny_bind (thn (ha pins s σ H _ I h) fun u s1 ⟨x, H1, I1, r1, q1⟩ => wpAny_bind (wpAny_standAt (wpAny_pure ?_))))
  exact thn (hr pos pins s1 σ H1 _ I1 q1) fun us s2 ⟨xs, H2, I2, r2, q2⟩ => ⟨x :: xs, H2, I2, .cons r1 r2, q2⟩

/-- how a call with keywords binds: g puts the positional values us and the keywords' values ws (names ks) in the parameters' order, defaults among them -/
structure KBinds (K : PySem.W.Frag) (fd : FuncData) (ps ks : List Str) (g : List Value → List Value → List Value) (gV : List V → List V → List V) : Prop where
  to : ∀ (s : Shared) (us ws : List Value), K.In s.heap → (g us ws).length = ps.length → BindsTo s fd ⟨us, ks.zip ws⟩ (ps.zip (g us ws))
  rel : ∀ {vs : List V} {us : List Value} {zs : List V} {ws : List Value}, Vals vs us → Vals zs ws → Vals (gV vs zs) (g us ws)
def tCallK (sp : Sp) (gV : List V → List V → List V) (E : XK) (t tk : TA) : TE := fun σ H Q => t σ H fun vs H1 => tk σ H1 fun zs H2 => sp (gV vs zs) H2 Q E
variable {g : List Value → List Value → List Value} {gV : List V → List V → List V}
theorem run_fnk {pins : List (Addr × Obj)} {σ : St} {H : Hp} {s : Shared} {Q : VK} {us ws : List Value} {vs zs : List V} (F : FnOk X.prog X.w X.K X.mg X.base CX k f fd ps sp) (hr : Room k X.A) (hb : KBinds X.K fd ps ks g gV) (hx : Passes CX X E)
    (I : Inv X pins σ H s) (r : Vals vs us) (rz : Vals zs ws) (h : sp (gV vs zs) H Q E) : wpAny (model X.prog X.w) X.A (call (.ref f) us (ks.zip ws)) (EP X pins σ Q) X.xe s := by
  have r2 := hb.rel r rz
  have hl : (g us ws).length = ps.length := by rw [← r2.length]; exact F.len _ _ _ _ h
  refine wpAny_call (codeAny_mono (F.run X.A X.stack s H ⟨us, ks.zip ws⟩ (g us ws) (gV vs zs) Q E hr I.env0 (hb.to s us ws I.kIn hl) r2 h) fun r s' hq => ?_)
  cases r with
  | error e => exact hx pins σ H s e s' I hq
  | ok fl =>
    cases fl with
    | ret u => exact I.after hq
    | next => exact False.elim hq
    | brk => exact False.elim hq
    | cont => exact False.elim hq
/-- f(e, .., k = v, ..) -/
theorem pe_callK (F : FnOk X.prog X.w X.K X.mg X.base CX k f fd ps sp) (hr : Room k X.A) (hg : Gl X x) (hm : X.mg x = some (.ref f)) (hk : PySem.W.keepIn X.K (.ref f) = true) (hb : KBinds X.K fd ps ks g gV) (hx : Passes CX X E)
    (ha : PA X (e :: es) t) (hkw : PK X kws tk) (hall : (backToKw pos (keywordEach kws X.env)).all (·.1.isSome) = true := by rfl) (hks : (backToKw pos (keywordEach kws X.env)).filterMap (·.1) = ks := by rfl)
    (hdb : (x == ("__debug__" : Str)) = false := by decide) (he : starEach (e :: es) X.env = (false, eval e X.env) :: starEach es X.env := by rfl)
    (hpl : ((backTo pos (starEach (e :: es) X.env)).any (·.1) || (backToKw pos (keywordEach kws X.env)).any (·.1.isNone)) = false := by rfl) :
    PE X (.Call (.Name x p) (e :: es) kws pos) (tCallK sp gV E t tk) := by
  intro pins s σ H Q I h
  refine wpAny_Call_Name_kw (ld_glob I hg hm ?_ hdb)
  refine PySem.W.callWith_KW (h₀ := X.base) I.ok.mod.kin hk hall (thn (ha pos pins s σ H _ I h) fun us s1 ⟨vs, H1, I1, r, q⟩ => ?_) hpl he
  refine thn (hkw pos pins s1 σ H1 _ I1 q) fun ws s2 ⟨zs, H2, I2, rz, q2⟩ => ⟨I2.kIn, ?_⟩
  rw [hks]
  exact run_fnk F hr hb hx I2 r rz q2
end

/-! ### a def's body keeps its promise -/
/-- names: the parameters first -/
structure FnScope (N P : List Str) (sc : Scope) : Prop where
  kind : sc.kind = .function
  co : sc.isCoroutine = false
  gen : sc.isGenerator = false
  nd : N.Nodup
  pre : N.take P.length = P
  par : ∀ x ∈ P, sc.names.lookup x = some .local ∨ sc.names.lookup x = some .cell
  nofree : ∀ y ∈ sc.names, y.2 ≠ .free

theorem bindL_out {kindOf : Str → Option NameKind} {x : Str} : ∀ {binds : List (Str × Value)} {m : Str → Option Value}, (∀ v, (x, v) ∉ binds) → bindL kindOf binds m x = m x
  | [], _, _ => rfl
  | (n, v) :: r, m, h => by
    unfold bindL
    rw [bindL_out fun w hw => h w (List.mem_cons_of_mem _ hw)]
    split
    · have : x ≠ n := by rintro rfl; exact h v List.mem_cons_self
      simp [this]
    · rfl
theorem bindC_out {kindOf : Str → Option NameKind} {x : Str} : ∀ {binds : List (Str × Value)} {m : Str → Option Value}, (∀ v, (x, v) ∉ binds) → bindC kindOf binds m x = m x
  | [], _, _ => rfl
  | (n, v) :: r, m, h => by
    unfold bindC
    rw [bindC_out fun w hw => h w (List.mem_cons_of_mem _ hw)]
    split
    · rfl
    · have : x ≠ n := by rintro rfl; exact h v List.mem_cons_self
      simp [this]
theorem bindL_get {kindOf : Str → Option NameKind} {x : Str} {v : Value} : ∀ {P : List Str} {vs : List Value} {i : Nat} {m : Str → Option Value}, P.Nodup → P[i]? = some x → vs[i]? = some v → kindOf x = some .local →
    bindL kindOf (P.zip vs) m x = some v
  | [], _, _, _, _, h, _, _ => by simp at h
  | _ :: _, [], _, _, _, _, h, _ => by simp at h
  | p :: P, w :: vs, 0, m, nd, h1, h2, hk => by
    simp at h1 h2; subst h1; subst h2
    show bindL kindOf ((p, w) :: P.zip vs) m p = _
    unfold bindL
    rw [bindL_out fun v hv => (List.nodup_cons.mp nd).1 (List.of_mem_zip hv).1, if_pos hk]
    simp
  | p :: P, w :: vs, i + 1, m, nd, h1, h2, hk => by
    show bindL kindOf ((p, w) :: P.zip vs) m x = _
    unfold bindL
    exact bindL_get (i := i) (List.nodup_cons.mp nd).2 (by simpa using h1) (by simpa using h2) hk
theorem bindC_get {kindOf : Str → Option NameKind} {x : Str} {v : Value} : ∀ {P : List Str} {vs : List Value} {i : Nat} {m : Str → Option Value}, P.Nodup → P[i]? = some x → vs[i]? = some v → kindOf x ≠ some .local →
    bindC kindOf (P.zip vs) m x = some v
  | [], _, _, _, _, h, _, _ => by simp at h
  | _ :: _, [], _, _, _, _, h, _ => by simp at h
  | p :: P, w :: vs, 0, m, nd, h1, h2, hk => by
    simp at h1 h2; subst h1; subst h2
    show bindC kindOf ((p, w) :: P.zip vs) m p = _
    unfold bindC
    rw [bindC_out fun v hv => (List.nodup_cons.mp nd).1 (List.of_mem_zip hv).1, if_neg hk]
    simp
  | p :: P, w :: vs, i + 1, m, nd, h1, h2, hk => by
    show bindC kindOf ((p, w) :: P.zip vs) m x = _
    unfold bindC
    exact bindC_get (i := i) (List.nodup_cons.mp nd).2 (by simpa using h1) (by simpa using h2) hk

/-- the names' values at the entry -/
def start (N : List Str) (vs : List V) : St := vs.map some ++ List.replicate (N.length - vs.length) none

/-- the context of a def's body, at its entry; an exception leaves the frame, then lies as CX says -/
def cxOf (CX : CXT) (P : Program) (w : World) (K : PySem.W.Frag) (mg : Str → Option Value) (base : Heap) (N : List Str) (qual : Str) (scope : Scope) (f : Addr) (cd : Value) (A : Around) (outer : List Env) (s : Shared) (H : Hp) (E : XK) : Cx where
  prog := P
  w := w
  K := K
  mg := mg
  base := base
  A := A.deeper (envOfC qual scope s.heap.objs.size f cd)
  N := N
  s₀ := s
  H₀ := H
  env := envOfC qual scope s.heap.objs.size f cd
  outer := outer
  stack := envOfC qual scope s.heap.objs.size f cd :: outer
  ex := []
  calm := true
  fn := fun _ => true
  pn := []
  xe := fun e s' => wpAny (model P w) (A.deeper (envOfC qual scope s.heap.objs.size f cd)) (leaving (envOfC qual scope s.heap.objs.size f cd) e) (fun _ s'' => CX outer H s E e s'') (fun e' s'' => CX outer H s E e' s'') s'

theorem cell_has {sc : Scope} {n : Nat} {x : Str} (h : sc.names.lookup x = some .cell) : ∃ c, (cellsFrom n sc.names []).lookup x = some c := by
  have q := PySem.W.cellsFrom_some sc.names n [] (.inl h)
  exact Option.isSome_iff_exists.mp q

theorem inv_start {CX : CXT} {P : Program} {w : World} {K : PySem.W.Frag} {mg : Str → Option Value} {base : Heap} {N ps : List Str} {qual : Str} {scope : Scope} {f : Addr} {cd : Value} {A : Around} {outer : List Env} {s s1 : Shared} {H : Hp} {E : XK} {us : List Value} {vs : List V}
    (S : FnScope N ps scope) (hd : A.handled = none) (e0 : Env0 P w K mg base A outer s H) (hl : vs.length = ps.length) (r : Vals vs us)
    (x : InCallC s s.heap.objs.size (bindL (envOfC qual scope s.heap.objs.size f cd).kindOf (ps.zip us) fun _ => none) (cellsFrom (s.heap.objs.size + 1) scope.names []) (bindC (envOfC qual scope s.heap.objs.size f cd).kindOf (ps.zip us) fun _ => none) s1) :
    Inv (cxOf CX P w K mg base N qual scope f cd A outer s H E) [] (start N vs) H s1 := by
  have hpl : ps.length ≤ N.length := by have := congrArg List.length S.pre; rw [List.length_take] at this; omega
  obtain ⟨h1, tk, rfl, hk⟩ := x.done
  have noA : ∀ b : Addr, b ∉ (cxOf CX P w K mg base N qual scope f cd A outer s H E).ex := fun b z => absurd (show b ∈ ([] : List Addr) from z) (by simp)
  refine ⟨⟨e0.mod, S.kind, rfl, rfl, Nat.le_refl _, fun y z c h1 h2 => ?_, fun y hy => ?_, fun y c _ h => ?_, fun _ => hd, Around.frames_deeper e0.frames, .inr ⟨rfl, rfl⟩, fun b z => absurd z (noA b), e0.bs, e0.bsz, fun b _ _ => noA b, fun b z => absurd z (noA b), e0.funs, e0.frf⟩,
    rfl, e0.bare, Un.kept hk, ⟨_, x.toInCall.ns, fun i y v h1 h2 h3 => ?_⟩, fun y c h => ⟨_, x.cell y c h⟩, e0.hok.fresh (Nat.le_refl _), fun y c h => ?_, fun p hp => absurd (show p ∈ ([] : List (Addr × Obj)) from hp) (by simp), e0.hok.kept hk, ?_⟩
  · exact name_of_addr x.apart (PySem.mem_of_lookup h1) (PySem.mem_of_lookup h2)
  · have hy : scope.names.lookup y = some .cell ∨ scope.names.lookup y = some .free := hy
    rcases hy with hy | hy
    · exact cell_has hy
    · exact absurd rfl (S.nofree _ (PySem.mem_of_lookup hy))
  · exact Nat.le_of_lt (x.above y c (PySem.mem_of_lookup h))
  · have hi : i < vs.length := by
      unfold start at h2
      by_cases hi : i < vs.length
      · exact hi
      · rw [List.getElem?_append_right (by simpa using hi)] at h2
        rw [List.getElem?_replicate] at h2
        split at h2 <;> cases h2
    have ha : vs[i]? = some v := by
      unfold start at h2
      rw [List.getElem?_append_left (by simpa using hi), List.getElem?_map] at h2
      cases e : vs[i]? with
      | none => rw [e] at h2; cases h2
      | some a => rw [e] at h2; cases h2; rfl
    obtain ⟨u, hu, rv⟩ := r.get ha
    have hp : ps[i]? = some y := by
      rw [← S.pre, List.getElem?_take_of_lt (by omega)]; exact h1
    have ndP : ps.Nodup := by rw [← S.pre]; exact S.nd.sublist (List.take_sublist _ _)
    refine ⟨u, rv, ?_⟩
    rcases S.par y (List.mem_of_getElem? hp) with k | k
    · exact .inl ⟨k, bindL_get ndP hp hu k⟩
    · obtain ⟨c, e⟩ := cell_has (n := s.heap.objs.size + 1) k
      refine .inr ⟨.inl k, c, e, ?_⟩
      have q := x.cell y c e
      rw [bindC_get ndP hp hu (by show scope.names.lookup y ≠ _; rw [k]; decide)] at q
      exact q
  · exact e0.hok.fresh (Nat.le_of_lt (x.above y c (PySem.mem_of_lookup h)))
  · unfold start
    show _ = N.length
    rw [List.length_append, List.length_map, List.length_replicate]
    omega

/-- THE RULE: a def (or a method) of the text, by its body. The body's reading t is chosen for each entry; it is run at the parameters' values -/
theorem fn_of {CX : CXT} {P : Program} {w : World} {K : PySem.W.Frag} {mg : Str → Option Value} {base : Heap} {k : Nat} {f : Addr} {name qual : Str} {params : Arguments} {body : List Stmt} {scope : Scope} {dV kV doc pm cdv ct oc : Value} {an od : Option Addr}
    {osl : Array (Option Value)} {N ps : List Str} {sp : Sp} (lk : K.lookup f = some ⟨oc, od, .func (PySem.W.fnOf name qual params body scope dV kV doc pm an cdv ct), osl⟩) (hcd : PySem.W.codeIn K cdv qual = true) (S : FnScope N ps scope)
    (len : ∀ vs H Q E, sp vs H Q E → vs.length = ps.length)
    (hbody : ∀ (A : Around) (outer : List Env) (s : Shared) (H : Hp) (vs : List V) (Q : VK) (E : XK), Room k (A.deeper (envOfC qual scope s.heap.objs.size f cdv)) → sp vs H Q E →
      ∃ t, PSs (cxOf CX P w K mg base N qual scope f cdv A outer s H E) body t ∧ t { nx := fun _ H' => Q .non H', rt := Q } (start N vs) H) :
    FnOk P w K mg base CX (k + 1) f (PySem.W.fnOf name qual params body scope dV kV doc pm an cdv ct) ps sp := by
  refine ⟨len, fun A outer s H args us vs Q E hr e0 hb r hsp => ?_⟩
  have hl := len _ _ _ _ hsp
  have KX : K.In s.heap := e0.mod.kin.keeps fun b o e => (e0.bs b o e).1
  have lim : s.heap.NoLimit := e0.mod.nolimit.keeps fun b o e => (e0.bs b o e).1
  have hkind : ∀ y ∈ ps.zip us, scope.names.lookup y.1 = some .local ∨ (scope.names.lookup y.1 = some .cell ∧ ((cellsFrom (s.heap.objs.size + 1) scope.names []).lookup y.1).isSome = true) := fun ⟨n, v⟩ hy => by
    rcases S.par n (List.of_mem_zip hy).1 with q | q
    · exact .inl q
    · exact .inr ⟨q, PySem.W.cellsFrom_some _ _ _ (.inl q)⟩
  refine codeAny_call_function hr.depth (KX _ _ lk) rfl S.co S.gen rfl (PySem.W.codeRec_of KX hcd) (hb _ _ _ _ ?_)
  refine wpAny_newFunctionEnv_cells S.kind hkind fun env he s1 x => ?_
  subst he
  refine ⟨lim.keeps x.toInCall.keep, codeAny_func ?_⟩
  obtain ⟨t, ht, hq⟩ := hbody A outer s H vs Q E (hr.deeper _) hsp
  have I : Inv (cxOf CX P w K mg base N qual scope f cdv A outer s H E) [] (start N vs) H s1 := inv_start S hr.hd e0 hl r x
  refine wpAny_mono (ht [] s1 (start N vs) H _ I hq) (fun fl s' hs => ?_) fun e s' hs => hs
  have fin : ∀ {σ' : St} {H' : Hp} {v : V} {u : Value}, Inv (cxOf CX P w K mg base N qual scope f cdv A outer s H E) [] σ' H' s' → RelV v u → Q v H' → CE outer P w H s Q u s' :=
    fun {σ' H' v u} J rv q => ⟨v, H', J.os, J.bare, J.base, J.hok, rv, q⟩
  cases fl with
  | ret u =>
    obtain ⟨v, σ', H', J, rv, q⟩ := hs
    exact fin J rv q
  | next =>
    obtain ⟨σ', H', J, q⟩ := hs
    exact fin (v := V.non) (u := Value.none) J rfl q
  | brk =>
    obtain ⟨_, _, _, q⟩ := hs
    exact False.elim q
  | cont =>
    obtain ⟨_, _, _, q⟩ := hs
    exact False.elim q
end L2

namespace L2
open PySem PySem.Spec PyProof.Rows
section
variable {X : Cx} {x : Str} {p pos : Pos} {e : Expr} {es : List Expr} {t : TA} {id T : String} {r : List V → Hp → VK → Prop}

def tCB (r : List V → Hp → VK → Prop) (t : TA) : TE := fun σ H Q => t σ H fun vs H1 => r vs H1 Q
/-- f(e, ..), f a built-in function -/
theorem pe_callB (hc : CallR X (.builtin id) r) (hg : Gl X x) (hm : X.mg x = none) (hv : bootBuiltins x = some (.builtin id)) (ha : PA X (e :: es) t) (hn : x ≠ "__name__" := by decide) (hdb : (x == ("__debug__" : Str)) = false := by decide)
    (he : starEach (e :: es) X.env = (false, eval e X.env) :: starEach es X.env := by rfl) (hpl : (backTo pos (starEach es X.env)).any (·.1) = false := by rfl) : PE X (.Call (.Name x p) (e :: es) [] pos) (tCB r t) := by
  intro pins s σ H Q I h
  refine wpAny_Call_Name_kw (ld_blt I hg hm hv ?_ hn hdb)
  exact PyProof.Rows.callWith_builtin1 (thn (ha pos pins s σ H _ I h) fun us s1 ⟨vs, H1, I1, r1, q1⟩ => hc pins s1 σ H1 vs us Q I1 r1 q1) he hpl
/-- T(e, ..), T a built-in type -/
theorem pe_callTy (hc : CallR X (.type T) r) (hg : Gl X x) (hm : X.mg x = none) (hv : bootBuiltins x = some (.type T)) (ha : PA X (e :: es) t) (hn : x ≠ "__name__" := by decide) (hdb : (x == ("__debug__" : Str)) = false := by decide)
    (he : starEach (e :: es) X.env = (false, eval e X.env) :: starEach es X.env := by rfl) (hpl : (backTo pos (starEach es X.env)).any (·.1) = false := by rfl) : PE X (.Call (.Name x p) (e :: es) [] pos) (tCB r t) := by
  intro pins s σ H Q I h
  refine wpAny_Call_Name_kw (ld_blt I hg hm hv ?_ hn hdb)
  exact PyProof.Rows.callWith_type1 (thn (ha pos pins s σ H _ I h) fun us s1 ⟨vs, H1, I1, r1, q1⟩ => hc pins s1 σ H1 vs us Q I1 r1 q1) he hpl
/-- T() -/
theorem pe_callTy0 (hc : CallR X (.type T) r) (hg : Gl X x) (hm : X.mg x = none) (hv : bootBuiltins x = some (.type T)) (hn : x ≠ "__name__" := by decide) (hdb : (x == ("__debug__" : Str)) = false := by decide) :
    PE X (.Call (.Name x p) [] [] pos) (tCB r tNil) := by
  intro pins s σ H Q I h
  refine wpAny_Call_Name_kw (ld_blt I hg hm hv ?_ hn hdb)
  exact PyProof.Rows.callWith_type0 (hc pins s σ H [] [] Q I .nil h)
end
end L2

namespace HT
open PySem PyProof.Rows

/-- t < u of tuples of ints -/
def lexLt : List Int → List Int → Bool
  | [], [] => false
  | [], _ :: _ => true
  | _ :: _, [] => false
  | x :: xs, y :: ys => if x = y then lexLt xs ys else decide (x < y)
theorem lexLt_cons (x y : Int) (xs ys : List Int) : lexLt (x :: xs) (y :: ys) = if x = y then lexLt xs ys else decide (x < y) := rfl
theorem lexLt_nil_nil : lexLt [] [] = false := rfl
theorem lexLt_nil_cons (y : Int) (ys : List Int) : lexLt [] (y :: ys) = true := rfl
theorem lexLt_cons_nil (x : Int) (xs : List Int) : lexLt (x :: xs) [] = false := rfl

theorem eqAt_int (A : Around) (s : Shared) (a : Int) (t : Tok) (c : Int) (u : Tok) : ∃ e, SeqAt.EqAt A s (.int a t) (.int c u) e ∧ (e = true ↔ a = c) :=
  ⟨(a == c), SeqAt.EqAt.int_int a t c u, by simp⟩
theorem rcLt_int (A : Around) (s : Shared) (a : Int) (t : Tok) (c : Int) (u : Tok) (prog : Program) (w : World) (E : Value → Shared → Prop) (Q : Value → Shared → Prop) (h : Q (.bool (decide (a < c))) s) :
    wpAny (model prog w) A (richCompare .Lt (.int a t) (.int c u)) Q E s :=
  (PyProof.Rows.lt_int h : wpAny (model prog w) A (compareOp .Lt (.int a t) (.int c u)) Q E s)

section
open PySem.SeqAt
open PySem.AutoSeq1 (wpAny_loadPart')
open PySem.MeetsSeq PySem.MeetsSeq2 PySem.MeetsSeq3

theorem tuple_lt_ints (l b : Addr) (items items2 : Array Value) (n n2 : Nat) (dd dd2 : Option Addr) (sl sl2 : Array (Option Value)) (ns ms : List Int) (hi : IntsAre items.toList ns) (hj : IntsAre items2.toList ms) :
    Meets (Builtin.«tuple.__lt__» ⟨[.ref l, .ref b], []⟩)
      (fun _ R s => s.heap.get? l = some { cls := .type "tuple", dict := dd, data := .seq items n, slots := sl } ∧ s.heap.get? b = some { cls := .type "tuple", dict := dd2, data := .seq items2 n2, slots := sl2 } ∧
        R (.ok (.ret (.bool (lexLt ns ms)))) s) :=
  .of_wp fun prog w A R s h => by
    obtain ⟨hp, g, d, tk, os⟩ := s; obtain ⟨hl, hb, h⟩ := h
    have f2 := AutoSeq1.sub_tuple_tuple
    have z1 : items.size = ns.length := by rw [← hi.length]; simp
    have z2 : items2.size = ms.length := by rw [← hj.length]; simp
    wp_walk using wpAny_loadPart' hl, wpAny_loadPart' hb, wpAny_forIn_list _ (fun rest b s' => b.1 = none ∧ s' = ⟨hp, g, d, tk, os⟩ ∧ ∃ (vs ws : List Value) (ns' ms' : List Int), rest = vs.zip ws ∧
      IntsAre vs ns' ∧ IntsAre ws ms' ∧ ns'.length + items2.size = ms'.length + items.size ∧ R (.ok (.ret (.bool (lexLt ns' ms')))) ⟨hp, g, d, tk, os⟩) _
    case turn =>
      rintro ⟨y, x⟩ rest b s' ⟨hb', rfl, vs, ws, ns', ms', hz, hvi, hwi, hlen, hR⟩
      cases hvi with
      | nil => rw [List.zip_nil_left] at hz; cases hz
      | cons a t hvi' =>
        cases hwi with
        | nil => rw [List.zip_nil_right] at hz; cases hz
        | cons c u hwi' =>
          rw [List.zip_cons_cons] at hz
          injection hz with hyx hrest
          injection hyx with hy hx
          subst hy hx
          rw [lexLt_cons] at hR
          simp only [List.length_cons] at hlen
          obtain ⟨e, he, hiff⟩ := eqAt_int A.in1 ⟨hp, g, d, tk, os⟩ a t c u
          refine wpAny_bind (he prog w _ _ ?_)
          cases e with
          | true =>
            rw [if_pos (hiff.mp rfl)] at hR
            wp_walk
            exact ⟨rfl, rfl, _, _, _, _, hrest, hvi', hwi', by omega, hR⟩
          | false =>
            rw [if_neg (fun q => absurd (hiff.mpr q) Bool.false_ne_true)] at hR
            have hri := rcLt_int A.in1 ⟨hp, g, d, tk, os⟩ a t c u prog w
            wp_walk using hri
            exact ⟨_, rfl, by simpa using hR⟩
    case fin =>
      rintro ⟨b1, b2⟩ s' ⟨hb', rfl, vs, ws, ns', ms', hz, hvi, hwi, hlen, hR⟩
      simp only at hb'
      subst hb'
      have hv : lexLt ns' ms' = decide (items.size < items2.size) := by
        cases hvi with
        | nil =>
          cases hwi with
          | nil =>
            simp only [List.length_nil] at hlen
            rw [lexLt_nil_nil]
            exact (decide_eq_false (by omega)).symm
          | cons c u hw =>
            simp only [List.length_nil, List.length_cons] at hlen
            rw [lexLt_nil_cons]
            exact (decide_eq_true (by omega)).symm
        | cons a t hv =>
          cases hwi with
          | nil =>
            simp only [List.length_nil, List.length_cons] at hlen
            rw [lexLt_cons_nil]
            exact (decide_eq_false (by omega)).symm
          | cons c u hw =>
            rw [List.zip_cons_cons] at hz
            cases hz
      rw [hv] at hR
      wp_walk
      exact ⟨_, rfl, by simpa [Builtin.Tuple.tupleCompareSizes] using hR⟩
    case h =>
      exact ⟨rfl, rfl, items.toList, items2.toList, ns, ms, rfl, hi, hj, by omega, h⟩
end

section
variable {prog : Program} {w : World} {A : Around} {E : Value → Shared → Prop} {s : Shared}

theorem lt_tupInts {l b : Addr} {items items2 : Array Value} {ns ms : List Int} {Q : Value → Shared → Prop} (hl : IsTup s.heap l items) (hb : IsTup s.heap b items2) (hi : IntsAre items.toList ns) (hj : IntsAre items2.toList ms)
    (hu : A.units < cLine) (h : Q (.bool (lexLt ns ms)) s) : wpAny (model prog w) A (compareOp .Lt (.ref l) (.ref b)) Q E s := by
  obtain ⟨⟨cls, dd, data, sl⟩, ho, hc, n, hd⟩ := id hl
  obtain ⟨⟨cls2, dd2, data2, sl2⟩, ho2, hc2, n2, hd2⟩ := id hb
  simp only at hc hd hc2 hd2
  subst hc hd hc2 hd2
  exact richCompare_meets_room (op := .Lt) ⟨_, ho, rfl⟩ ⟨_, ho2, rfl⟩ PySem.F.slot_tuple_lt PySem.F.entry_tuple_lt (PySem.F.args_tuple_lt_2 _ _) (tuple_lt_ints l b items items2 n n2 dd dd2 sl sl2 ns ms hi hj)
    ⟨ho, ho2, show Value.bool (lexLt ns ms) ≠ Value.notImplemented ∧ Q (.bool (lexLt ns ms)) s from ⟨(fun x => nomatch x), h⟩⟩ hu

/-- t + u, t not empty -/
theorem cat_tup {t b : Addr} {vs ws : List Value} {Q : Value → Shared → Prop} (ht : IsTup s.heap t vs.toArray) (hb : IsTup s.heap b ws.toArray) (hv : vs ≠ [])
    (h1 : ws = [] → Q (.ref t) s) (h2 : ws ≠ [] → Q (.ref s.heap.objs.size) { s with heap := s.heap.push { cls := .type "tuple", data := .seq (vs ++ ws).toArray } })
    (hsz : vs.length + ws.length ≤ sizeLine) : wpAny (model prog w) A (binaryOp .Add (.ref t) (.ref b)) Q E s := by
  obtain ⟨⟨cls, dd, data, sl⟩, ho, hc, n, hd⟩ := id ht
  obtain ⟨⟨cls2, dd2, data2, sl2⟩, ho2, hc2, n2, hd2⟩ := id hb
  simp only at hc hd hc2 hd2
  subst hc hd hc2 hd2
  have e : vs.toArray ++ ws.toArray = (vs ++ ws).toArray := by simp
  by_cases hw : ws = []
  · exact concat_meets ⟨_, ho, rfl⟩ ⟨_, ho2, rfl⟩ noFill_tuple_add seq_tuple_add PySem.F.slot_tuple_add PySem.F.entry_tuple_add (PySem.F.args_tuple_add_2 _ _)
      (tuple_addW1 t b vs.toArray ws.toArray n n2 dd dd2 sl sl2 (by simpa using hv) (by simp [hw])) ⟨ho, ho2, h1 hw⟩
  · refine concat_meets ⟨_, ho, rfl⟩ ⟨_, ho2, rfl⟩ noFill_tuple_add seq_tuple_add PySem.F.slot_tuple_add PySem.F.entry_tuple_add (PySem.F.args_tuple_add_2 _ _)
      (tuple_addW2 t b vs.toArray ws.toArray n n2 dd dd2 sl sl2 (by simpa using hv) (by simpa using hw) (by rw [List.size_toArray, List.size_toArray]; exact hsz)) ⟨ho, ho2, ?_⟩
    rw [e]
    exact h2 hw

/-! ### t[a:b], not the whole -/
/-- a slice's bound as a place among n (d where it is left out) -/
def sIx (n d : Nat) : Option Int → Nat
  | none => d
  | some v => if v < 0 then (v + (n : Int)).toNat else min v.toNat n
theorem sIx_none (n d : Nat) : sIx n d none = d := rfl
theorem sIx_nat (n d k : Nat) : sIx n d (some (k : Int)) = min k n := by
  show (if (k : Int) < 0 then ((k : Int) + (n : Int)).toNat else min (k : Int).toNat n) = min k n
  rw [if_neg (by omega), Int.toNat_natCast]
theorem sIx_le (n d : Nat) (hd : d ≤ n) (o : Option Int) : sIx n d o ≤ n := by
  cases o with
  | none => exact hd
  | some v =>
    show (if v < 0 then (v + (n : Int)).toNat else min v.toNat n) ≤ n
    by_cases hv : v < 0
    · rw [if_pos hv]; omega
    · rw [if_neg hv]; exact Nat.min_le_right _ _
theorem clip_eq (v : Int) (n d : Nat) : (if v < 0 then max (v + (n : Int)) 0 else min v (n : Int)) = ((sIx n d (some v) : Nat) : Int) := by
  show (if v < 0 then max (v + (n : Int)) 0 else min v (n : Int)) = (((if v < 0 then (v + (n : Int)).toNat else min v.toNat n) : Nat) : Int)
  by_cases hv : v < 0
  · simp only [if_pos hv]; omega
  · simp only [if_neg hv]; omega
theorem adjust_gen (lo hi : Option Int) (n : Nat) : Builtin.Slice.sliceAdjust lo hi 1 (n : Int) = (((sIx n 0 lo : Nat) : Int), ((sIx n n hi : Nat) : Int)) := by
  have h1 : ¬ ((1 : Int) < 0) := by omega
  unfold Builtin.Slice.sliceAdjust
  simp only [h1, if_false]
  refine Prod.ext ?_ ?_
  · cases lo with
    | none => rfl
    | some v => exact clip_eq v n 0
  · cases hi with
    | none => rfl
    | some v => exact clip_eq v n n
theorem places_gen (i j : Nat) : Builtin.Slice.slicePlaces (i : Int) (j : Int) 1 = j - i := by
  unfold Builtin.Slice.slicePlaces
  have h1 : (1 : Int) > 0 := by omega
  simp only [h1, if_true, Int.ediv_one]
  split <;> omega
theorem slicePart_ {v : Value} {o : Option Int} {Q : Option Int → Shared → Prop} (p : IsPart v o) (h : Q o s) : wpAny (model prog w) A (Builtin.Slice.slicePartIndex v) Q E s := by
  cases p with
  | none => exact slicePart_none h
  | int i t => exact slicePart_int h
theorem sliceApplied_gen {sl : Addr} {vl vu : Value} {lo hi : Option Int} {n : Nat} {Q : Int × Int × Nat → Shared → Prop} (hs : s.heap.IsSliceOf sl vl vu .none) (pl : IsPart vl lo) (pu : IsPart vu hi)
    (h : Q (((sIx n 0 lo : Nat) : Int), 1, sIx n n hi - sIx n 0 lo) s) : wpAny (model prog w) A (Builtin.Slice.sliceApplied (.ref sl) (pure (n : Int))) Q E s := by
  obtain ⟨os, hos, hcs, hds⟩ := id hs
  unfold Builtin.Slice.sliceApplied Builtin.Slice.sliceFields
  refine wpAny_bind (wpAny_bind (wpAny_field hos hds (x := vl) rfl (wpAny_bind (wpAny_field hos hds (x := vu) rfl (wpAny_bind (wpAny_field hos hds (x := .none) rfl (wpAny_pure ?_)))))))
  refine wpAny_bind (slicePart_none ?_)
  show wpAny _ _ (if ((1 : Int) == 0) = true then _ else _) _ _ s
  rw [if_neg (by decide)]
  refine wpAny_bind (slicePart_ pl (wpAny_bind (slicePart_ pu (wpAny_bind (wpAny_pure ?_)))))
  show wpAny _ _ (match Builtin.Slice.sliceAdjust lo hi 1 (n : Int) with | (lo, hi) => pure (lo, (1 : Int), Builtin.Slice.slicePlaces lo hi 1)) _ _ s
  rw [adjust_gen lo hi n]
  show wpAny _ _ (pure (((sIx n 0 lo : Nat) : Int), (1 : Int), Builtin.Slice.slicePlaces ((sIx n 0 lo : Nat) : Int) ((sIx n n hi : Nat) : Int) 1)) _ _ s
  rw [places_gen]
  exact wpAny_pure h
theorem pick_gen (xs : Array Value) (i k : Nat) : ((List.range k).filterMap fun (m : Nat) => xs[((i : Int) + (m : Int) * 1).toNat]?).toArray = ((xs.toList.drop i).take k).toArray := by
  have e : (fun (m : Nat) => xs[((i : Int) + (m : Int) * 1).toNat]?) = fun m => xs[i + m]? := by
    funext m
    have : ((i : Int) + (m : Int) * 1).toNat = i + m := by omega
    rw [this]
  rw [e]
  have := pick_run xs i k
  rw [List.filterMap_map] at this
  have e2 : ((fun x => xs[x]?) ∘ fun x => i + x) = fun m => xs[i + m]? := rfl
  rw [e2] at this
  rw [this]

theorem getItem_tuple_cut {t sl : Addr} {items : Array Value} {vl vu : Value} {lo hi : Option Int} {Q : Value → Shared → Prop} (ht : IsTup s.heap t items) (hs : s.heap.IsSliceOf sl vl vu .none) (pl : IsPart vl lo) (pu : IsPart vu hi)
    (hw : ¬ (sIx items.size 0 lo = 0 ∧ sIx items.size items.size hi = items.size))
    (h : Q (.ref s.heap.objs.size) { s with heap := s.heap.push { cls := .type "tuple", data := .seq ((items.toList.drop (sIx items.size 0 lo)).take (sIx items.size items.size hi - sIx items.size 0 lo)).toArray } })
    (hsz : items.size ≤ sizeLine) : wpAny (model prog w) A (getItem (.ref t) (.ref sl)) Q E s := by
  have htake : sizeOk (.seq ((items.toList.drop (sIx items.size 0 lo)).take (sIx items.size items.size hi - sIx items.size 0 lo)).toArray) := by
    show ((items.toList.drop (sIx items.size 0 lo)).take (sIx items.size items.size hi - sIx items.size 0 lo)).toArray.size ≤ sizeLine
    rw [List.size_toArray, List.length_take, List.length_drop, Array.length_toList]
    omega
  have hj : sIx items.size items.size hi ≤ items.size := sIx_le _ _ (Nat.le_refl _) hi
  obtain ⟨os, hos, hcs, hds⟩ := id hs
  have hTs : s.TypeIs (.ref sl) "slice" := ⟨os, hos, hcs⟩
  unfold getItem
  try with_reducible refine wpAny_holding ?_
  first | refine wpAny_bind (wpAny_pure ?_) | skip
  refine wpAny_bind (wpAny_sequenceKey ht.typeIs (by decide) ?_)
  refine wpAny_bind (wpAny_callSpecial?_slot (name := Str.ofString "__getitem__") ht.typeIs PyProof.Rows.slot_tuple_getitem
    (wpAny_call_entry PyProof.Rows.slot_tuple_getitem ht.typeIs entry_tuple_getitem ?_ (args_tuple_getitem _ _)))
  show wpAny _ _ (Builtin.Tuple.tupleItemsOf (.ref t) >>= _) _ _ s
  refine wpAny_bind (tupleItemsOf_ ht ?_)
  refine wpAny_bind (wpAny_typeOf hTs ?_)
  rw [if_pos (by decide)]
  refine wpAny_bind (sliceApplied_gen hs pl pu ?_)
  have hno : ¬ ((((sIx items.size 0 lo : Nat) : Int) == 0 && (1 : Int) == 1 && (sIx items.size items.size hi - sIx items.size 0 lo) == items.size) = true) := by
    intro q
    rw [Bool.and_eq_true, Bool.and_eq_true] at q
    have q1 : ((sIx items.size 0 lo : Nat) : Int) = 0 := eq_of_beq q.1.1
    have q2 : sIx items.size items.size hi - sIx items.size 0 lo = items.size := eq_of_beq q.2
    exact hw ⟨by omega, by omega⟩
  show wpAny _ _ (if (((sIx items.size 0 lo : Nat) : Int) == 0 && (1 : Int) == 1 && (sIx items.size items.size hi - sIx items.size 0 lo) == items.size) = true then _ else _) _ _ s
  rw [if_neg hno, pick_gen]
  first
    | exact wpAny_bind (m := Builtin.Tuple.tupleExact _) (wpAny_newObj_type (wpAny_pure ⟨_, rfl, wpAny_pure h⟩) htake)
    | exact wpAny_bind (m := Builtin.Tuple.tupleExact _) (wpAny_newObj_type (wpAny_bind (wpAny_pure (wpAny_pure ⟨_, rfl, wpAny_pure h⟩))) htake)
    | exact wpAny_bind (wpAny_bind (m := Builtin.Tuple.tupleExact _) (wpAny_newObj_type (wpAny_pure (wpAny_pure ⟨_, rfl, wpAny_pure h⟩)) htake))
    | exact wpAny_bind (wpAny_bind (m := Builtin.Tuple.tupleExact _) (wpAny_newObj_type (wpAny_pure ⟨_, rfl, wpAny_pure h⟩) htake))
end
end HT

namespace L2
open PySem PySem.Spec PyProof.Rows

/-! ### the parts of a slice -/
abbrev TO := St → Hp → (Option Int → Hp → Prop) → Prop
/-- a slice's part (left out, or an int) -/
def PO (X : Cx) (e : Option Expr) (t : TO) : Prop :=
  ∀ (pins : List (Addr × Obj)) (s : Shared) (σ : St) (H : Hp) (Q : Option Int → Hp → Prop), Inv X pins σ H s → t σ H Q →
    wpAny (model X.prog X.w) X.A (evalPart e X.env) (fun u s' => ∃ o H', Inv X pins σ H' s' ∧ IsPart u o ∧ Q o H') X.xe s
def tNoPart : TO := fun _ H Q => Q none H
def tPart (t : TE) : TO := fun σ H Q => t σ H fun x H1 => ∃ i, x = .int i ∧ Q (some i) H1

theorem intsAre_of {ns : List Int} : ∀ {us : List Value}, Vals (ns.map V.int) us → IntsAre us ns := by
  induction ns with
  | nil => intro us r; rw [List.map_nil] at r; cases r; exact .nil
  | cons n ns ih =>
    intro us r
    rw [List.map_cons] at r
    cases r with
    | cons r1 r2 =>
      obtain ⟨t, e⟩ := r1
      subst e
      exact .cons n t (ih r2)

section
variable {X : Cx} {e : Expr} {te : TE} {lo hi : Option Expr} {tl th : TO} {pos p2 : Pos}

theorem po_none : PO X none tNoPart := by
  intro pins s σ H Q I h
  rw [evalPart_none]
  exact wpAny_pure ⟨none, H, I, .none, h⟩
theorem po_some (h : PE X e te) : PO X (some e) (tPart te) := by
  intro pins s σ H Q I hw
  rw [evalPart_some]
  refine thn (h pins s σ H _ I hw) fun u s1 ⟨x, H1, I1, r1, q1⟩ => ?_
  obtain ⟨i, rfl, q⟩ := q1
  obtain ⟨t, rfl⟩ := r1
  exact ⟨some i, H1, I1, .int i t, q⟩

/-- what a slice of a value is, by values: the slice object stands at sl -/
def SlR (X : Cx) (r : V → Option Int → Option Int → Hp → VK → Prop) : Prop :=
  ∀ (pins : List (Addr × Obj)) (s : Shared) (σ : St) (H : Hp) (x : V) (v vl vu : Value) (lo hi : Option Int) (sl : Addr) (Q : VK), Inv X pins σ H s → RelV x v → s.heap.IsSliceOf sl vl vu .none → IsPart vl lo → IsPart vu hi → r x lo hi H Q →
    ∃ T id, typeLookup (.type T) "__getitem__" = pure (some (.builtin id)) ∧ s.TypeIs v T ∧ wpAny (model X.prog X.w) X.A (getItem v (.ref sl)) (EP X pins σ Q) X.xe s
theorem SlR.or {r r' : V → Option Int → Option Int → Hp → VK → Prop} (h : SlR X r) (h' : SlR X r') : SlR X (fun x lo hi H Q => r x lo hi H Q ∨ r' x lo hi H Q) := by
  intro pins s σ H x v vl vu lo hi sl Q I rx hs pl pu q
  rcases q with q | q
  · exact h pins s σ H x v vl vu lo hi sl Q I rx hs pl pu q
  · exact h' pins s σ H x v vl vu lo hi sl Q I rx hs pl pu q
def tSl (r : V → Option Int → Option Int → Hp → VK → Prop) (te : TE) (tl th : TO) : TE := fun σ H Q => te σ H fun x H1 => tl σ H1 fun l H2 => th σ H2 fun u H3 => r x l u H3 Q
/-- a[lo:hi], any a -/
theorem pe_slice {r : V → Option Int → Option Int → Hp → VK → Prop} (hr : SlR X r) (he : PE X e te) (hl : PO X lo tl) (hu : PO X hi th) : PE X (.Subscript e (.Slice lo hi none p2) pos) (tSl r te tl th) := by
  intro pins s σ H Q I h
  refine Subscript_ (thn (he pins s σ H _ I h) fun v s1 ⟨x, H1, I1, r1, q1⟩ => ?_)
  refine wpAny_Slice (thn (hl pins s1 σ H1 _ I1 q1) fun vl s2 ⟨l, H2, I2, pl, q2⟩ => thn (hu pins s2 σ H2 _ I2 q2) fun vu s3 ⟨u, H3, I3, pu, q3⟩ => ?_)
  rw [evalPart_none]
  refine wpAny_pure ?_
  have I4 : Inv X pins σ H3 { s3 with heap := s3.heap.push { cls := .type "slice", data := .fields #[vl, vu, .none] } } := I3.kept (t' := s3.toks) fun b ob q => Heap.get?_push_of_some _ q
  obtain ⟨T, id, hT, ht, hg⟩ := hr pins { s3 with heap := s3.heap.push { cls := .type "slice", data := .fields #[vl, vu, .none] } } σ H3 x v vl vu l u s3.heap.objs.size Q I4 r1 (Heap.IsSliceOf.new ..) pl pu q3
  show wpAny (model X.prog X.w) X.A (subscriptTail e (.Slice lo hi none p2) v (.ref s3.heap.objs.size)) (EP X pins σ Q) X.xe { s3 with heap := s3.heap.push { cls := .type "slice", data := .fields #[vl, vu, .none] } }
  exact tail_any (ops := [.ref s3.heap.objs.size, v]) ht hT hg (by with_unfolding_all rfl)

/-- the items of xs[lo:hi] -/
def cutV (xs : List V) (lo hi : Option Int) : List V := (xs.drop (HT.sIx xs.length 0 lo)).take (HT.sIx xs.length xs.length hi - HT.sIx xs.length 0 lo)
theorem cutV_length (xs : List V) (lo hi : Option Int) : (cutV xs lo hi).length ≤ xs.length := by
  unfold cutV
  rw [List.length_take, List.length_drop]
  omega
/-- t[lo:hi], not the whole of it (the whole would be t itself) -/
def rSlT (K : PySem.W.Frag) : V → Option Int → Option Int → Hp → VK → Prop := fun x lo hi H Q => ∃ a xs, x = .ref a ∧ SqT K H a xs ∧
  ¬ (HT.sIx xs.length 0 lo = 0 ∧ HT.sIx xs.length xs.length hi = xs.length) ∧ ∀ p, H p = none → Q (.ref p) (upd H p (.tup (cutV xs lo hi)))
theorem sl_tup : SlR X (rSlT X.K) := by
  intro pins s σ H x v vl vu lo hi sl Q I rx hs pl pu h
  obtain ⟨a, xs, rfl, hx, hw, q⟩ := h
  cases rx
  obtain ⟨its, r, ht, hz⟩ := I.tuple hx
  have hlen : its.toArray.size = xs.length := by rw [List.size_toArray]; exact r.length.symm
  refine ⟨"tuple", _, PyProof.Rows.slot_tuple_getitem.lookup, ht.typeIs, ?_⟩
  refine HT.getItem_tuple_cut ht hs pl pu (by rw [hlen]; exact hw) ?_ (by rw [hlen]; exact hz)
  rw [hlen]
  refine ⟨.ref s.heap.objs.size, _, I.laid (t' := s.toks) (o := .tup (cutV xs lo hi)) (fun b ob q => Heap.get?_push_of_some _ q) (Nat.le_refl _) ?_, rfl, q _ (I.hok.fresh (Nat.le_refl _))⟩
  exact ⟨Nat.le_trans (cutV_length xs lo hi) hz, _, (r.drop (HT.sIx xs.length 0 lo)).take (HT.sIx xs.length xs.length hi - HT.sIx xs.length 0 lo), IsTup.new _ _⟩

/-! ### t < u, t + u -/
def rLtT (K : PySem.W.Frag) : R2 := fun x y H Q => ∃ a b ns ms, x = .ref a ∧ y = .ref b ∧ SqT K H a (ns.map V.int) ∧ SqT K H b (ms.map V.int) ∧ Q (.bl (HT.lexLt ns ms)) H
theorem op_ltT (hu : X.A.units < cLine) : OpR X (compareOp .Lt) (rLtT X.K) := by
  intro pins s σ H x y v u Q I rx ry h
  obtain ⟨a, b, ns, ms, rfl, rfl, ha, hb, q⟩ := h
  cases rx
  cases ry
  obtain ⟨its, r1, p1, _⟩ := I.tuple ha
  obtain ⟨its2, r2, p2, _⟩ := I.tuple hb
  have i1 : IntsAre its.toArray.toList ns := intsAre_of r1
  have i2 : IntsAre its2.toArray.toList ms := intsAre_of r2
  exact HT.lt_tupInts p1 p2 i1 i2 hu ⟨.bl (HT.lexLt ns ms), H, I, rfl, q⟩
/-- t + u, t not empty: u empty gives t itself -/
def rCatT (K : PySem.W.Frag) : R2 := fun x y H Q => ∃ a b xs ys, x = .ref a ∧ y = .ref b ∧ SqT K H a xs ∧ SqT K H b ys ∧ xs ≠ [] ∧ xs.length + ys.length ≤ sizeLine ∧
  (ys = [] → Q (.ref a) H) ∧ (ys ≠ [] → ∀ p, H p = none → Q (.ref p) (upd H p (.tup (xs ++ ys))))
theorem Vals.nil_iff {xs : List V} {us : List Value} (r : Vals xs us) : us = [] ↔ xs = [] := by
  cases r with
  | nil => simp
  | cons _ _ => simp
theorem op_catT : OpR X (binaryOp .Add) (rCatT X.K) := by
  intro pins s σ H x y v u Q I rx ry h
  obtain ⟨a, b, xs, ys, rfl, rfl, ha, hb, hx, hz, q1, q2⟩ := h
  cases rx
  cases ry
  obtain ⟨its, r1, p1, _⟩ := I.tuple ha
  obtain ⟨its2, r2, p2, _⟩ := I.tuple hb
  refine HT.cat_tup p1 p2 (fun z => hx (r1.nil_iff.mp z)) (fun z => ⟨.ref a, H, I, rfl, q1 (r2.nil_iff.mp z)⟩) (fun z => ?_) (by rw [← r1.length, ← r2.length]; exact hz)
  refine ⟨.ref s.heap.objs.size, _, I.laid (t' := s.toks) (o := .tup (xs ++ ys)) (fun b ob q => Heap.get?_push_of_some _ q) (Nat.le_refl _) ?_, rfl, q2 (fun w => z (r2.nil_iff.mpr w)) _ (I.hok.fresh (Nat.le_refl _))⟩
  exact ⟨by rw [List.length_append]; exact hz, _, r1.append r2, IsTup.new _ _⟩
/-- tuple(t) -/
theorem call_tupleT : CallR X (.type "tuple") (fun xs H Q => ∃ a ys, xs = [.ref a] ∧ SqT X.K H a ys ∧ Q (.ref a) H) := by
  intro pins s σ H xs us Q I r h
  obtain ⟨a, ys, rfl, ha, q⟩ := h
  obtain ⟨u, rfl, ru⟩ := vals1 r
  cases ru
  obtain ⟨its, _, p1, _⟩ := I.tuple ha
  exact call_tuple_same (items := its.toArray) p1 ⟨.ref a, H, I, rfl, q⟩
end
end L2

namespace L2
open PySem PySem.Spec PyProof.Rows

/-! ### places -/
/-- the place that an index of any sign means -/
def ixN (n : Nat) (i : Int) : Option Nat := if 0 ≤ i then (if i < n then some i.toNat else none) else if -(n : Int) ≤ i then some (i + n).toNat else none
def atI {α : Type} (xs : List α) (i : Int) : Option α := (ixN xs.length i).bind fun j => xs[j]?
theorem ixN_seq {n : Nat} {i : Int} {j : Nat} (h : ixN n i = some j) : seqIndex? i n = some j ∧ j < n ∧ -(n : Int) ≤ i ∧ i < n := by
  unfold ixN at h
  by_cases h0 : 0 ≤ i
  · rw [if_pos h0] at h
    by_cases h1 : i < n
    · rw [if_pos h1] at h
      have e : i.toNat = j := Option.some.inj h
      exact ⟨by rw [seqIndex_of h0 h1, e], by omega, by omega, h1⟩
    · rw [if_neg h1] at h; cases h
  · rw [if_neg h0] at h
    by_cases h1 : -(n : Int) ≤ i
    · rw [if_pos h1] at h
      have e : (i + n).toNat = j := Option.some.inj h
      exact ⟨by rw [seqIndex_neg (by omega) h1, e], by omega, h1, by omega⟩
    · rw [if_neg h1] at h; cases h
theorem atI_get {α : Type} {xs : List α} {i : Int} {v : α} (h : atI xs i = some v) : ∃ j, seqIndex? i xs.length = some j ∧ xs[j]? = some v ∧ j < xs.length ∧ -(xs.length : Int) ≤ i ∧ i < xs.length := by
  unfold atI at h
  cases e : ixN xs.length i with
  | none => rw [e] at h; cases h
  | some j =>
    rw [e] at h
    obtain ⟨h1, h2, h3, h4⟩ := ixN_seq e
    exact ⟨j, h1, h, h2, h3, h4⟩
theorem atI_nat {α : Type} {xs : List α} {j : Nat} {v : α} (h : xs[j]? = some v) : atI xs (j : Int) = some v := by
  have hj : j < xs.length := (List.getElem?_eq_some_iff.mp h).1
  have e : ixN xs.length (j : Int) = some j := by
    unfold ixN
    rw [if_pos (by omega), if_pos (by omega)]; simp
  unfold atI; rw [e]; exact h
theorem atI_last {α : Type} (xs : List α) (v : α) : atI (xs ++ [v]) (-1) = some v := by
  have hl : (xs ++ [v]).length = xs.length + 1 := by simp
  have e : ixN (xs ++ [v]).length (-1) = some xs.length := by
    unfold ixN
    rw [hl, if_neg (by decide), if_pos (by omega)]
    congr 1
    omega
  unfold atI
  rw [e]
  show (xs ++ [v])[xs.length]? = some v
  simp

/-! ### what may be subscripted -/
/-- what stands as an index of a plain subscript -/
def PlainIx (b : Expr) : Prop := ∀ o i, subscripted b false o i = operate [o, i] (getItem o i)
/-- a subscript by values -/
def IxR (X : Cx) (r : R2) : Prop :=
  ∀ (value slice : Expr) (pins : List (Addr × Obj)) (s : Shared) (σ : St) (H : Hp) (x y : V) (v u : Value) (Q : VK), Inv X pins σ H s → RelV x v → RelV y u → r x y H Q →
    subscripted slice false v u = operate [v, u] (getItem v u) → wpAny (model X.prog X.w) X.A (subscriptTail value slice v u) (EP X pins σ Q) X.xe s
/-- a call of a builtin's method by values: the receiver, the arguments -/
def MtR (X : Cx) (id : String) (r : V → List V → Hp → VK → Prop) : Prop :=
  ∀ (pins : List (Addr × Obj)) (s : Shared) (σ : St) (H : Hp) (x : V) (xs : List V) (v : Value) (us : List Value) (Q : VK), Inv X pins σ H s → RelV x v → Vals xs us → r x xs H Q →
    wpAny (model X.prog X.w) X.A (call (.builtin id) (v :: us)) (EP X pins σ Q) X.xe s
section
variable {X : Cx} {a b : Expr} {ta tb : TE} {pos : Pos}
theorem IxR.or {r r' : R2} (h : IxR X r) (h' : IxR X r') : IxR X (fun x y H Q => r x y H Q ∨ r' x y H Q) := by
  intro value slice pins s σ H x y v u Q I rx ry q hs
  rcases q with q | q
  · exact h value slice pins s σ H x y v u Q I rx ry q hs
  · exact h' value slice pins s σ H x y v u Q I rx ry q hs
theorem MtR.or {id : String} {r r' : V → List V → Hp → VK → Prop} (h : MtR X id r) (h' : MtR X id r') : MtR X id (fun x xs H Q => r x xs H Q ∨ r' x xs H Q) := by
  intro pins s σ H x xs v us Q I rx rs q
  rcases q with q | q
  · exact h pins s σ H x xs v us Q I rx rs q
  · exact h' pins s σ H x xs v us Q I rx rs q
/-- a[b] -/
theorem pe_ix {r : R2} (hr : IxR X r) (ha : PE X a ta) (hb : PE X b tb) (hs : PlainIx b) : PE X (.Subscript a b pos) (tOp r ta tb) := by
  intro pins s σ H Q I h
  exact Subscript_ (binT ha hb I h fun v u s2 x y H2 I2 rx ry q => hr a b pins s2 σ H2 x y v u Q I2 rx ry q (hs _ _))

def rIxL (K : PySem.W.Frag) : R2 := fun x y H Q => ∃ p xs i v, x = .ref p ∧ y = .int i ∧ SqL K H p xs ∧ atI xs i = some v ∧ Q v H
def rIxT (K : PySem.W.Frag) : R2 := fun x y H Q => ∃ p xs i v, x = .ref p ∧ y = .int i ∧ SqT K H p xs ∧ atI xs i = some v ∧ Q v H
def rIxS : R2 := fun x y H Q => ∃ z i c, x = .str z ∧ y = .int i ∧ z.length ≤ sizeLine ∧ atI z.cps.toList i = some c ∧ Q (.str ⟨#[c]⟩) H
theorem ix_list : IxR X (rIxL X.K) := by
  intro value slice pins s σ H x y v u Q I rx ry h hs
  obtain ⟨p, xs, i, z, rfl, rfl, hq, he, q⟩ := h
  cases rx
  obtain ⟨t, rfl⟩ := ry
  obtain ⟨its, r, pl, hz⟩ := I.list hq
  obtain ⟨j, h1, h2, h3, h4, h5⟩ := atI_get he
  obtain ⟨w, ew, rw'⟩ := r.get h2
  have hl := r.length
  have hn := line63
  have fin : EP X pins σ Q w s := ⟨z, H, I, rw', q⟩
  by_cases h0 : 0 ≤ i
  · have hj : i.toNat = j := by
      rw [seqIndex_of h0 h5] at h1
      exact Option.some.inj h1
    exact item_listR pl.isList h0 (by omega) (by rw [hj]; simpa using ew) fin hs
  · have hj : (i + (its.toArray.size : Int)).toNat = j := by
      rw [seqIndex_neg (by omega) h4] at h1
      rw [List.size_toArray, ← hl]
      exact Option.some.inj h1
    exact subscriptTail_builtinR (x := w) pl.isList.typeIs slot_list_getitem.lookup
      (wpAny_getItem_list_neg (Q := fun r s' => r = w ∧ EP X pins σ Q r s') pl.isList (by omega) (by rw [List.size_toArray] <;> omega) (by omega) (by rw [hj]; simpa using ew) ⟨rfl, fin⟩) hs
theorem ix_tup : IxR X (rIxT X.K) := by
  intro value slice pins s σ H x y v u Q I rx ry h hs
  obtain ⟨p, xs, i, z, rfl, rfl, hq, he, q⟩ := h
  cases rx
  obtain ⟨t, rfl⟩ := ry
  obtain ⟨its, r, pl, hz⟩ := I.tuple hq
  obtain ⟨j, h1, h2, h3, h4, h5⟩ := atI_get he
  obtain ⟨w, ew, rw'⟩ := r.get h2
  have hl := r.length
  have hn := line63
  have fin : EP X pins σ Q w s := ⟨z, H, I, rw', q⟩
  exact subscriptTail_builtinR (x := w) pl.typeIs slot_tuple_getitem.lookup
    (getItem_tuple (j := j) (Q := fun r s' => r = w ∧ EP X pins σ Q r s') pl (by omega) (by omega) (by rw [List.size_toArray, ← hl]; exact h1) (by simpa using ew) ⟨rfl, fin⟩) hs
theorem ix_str : IxR X rIxS := by
  intro value slice pins s σ H x y v u Q I rx ry h hs
  obtain ⟨z, i, c, rfl, rfl, hz, he, q⟩ := h
  obtain ⟨t, rfl⟩ := rx
  obtain ⟨t', rfl⟩ := ry
  obtain ⟨j, h1, h2, h3, h4, h5⟩ := atI_get he
  have hl : z.cps.toList.length = z.length := by simp [Str.length]
  rw [hl] at h1 h4 h5
  have hn := line63
  exact tail_any (typeIs_str s z t) slot_str_getitem.lookup (getItem_str (c := c) (by
    have e1 : decide (i < -(2 ^ 63 : Int)) = false := decide_eq_false (by omega)
    have e2 : decide (i ≥ 2 ^ 63) = false := decide_eq_false (by omega)
    rw [e1, e2, Bool.or_false]) (by rw [h1]; simpa using h2) ⟨.str ⟨#[c]⟩, H, I.tok _, ⟨_, rfl⟩, q⟩) hs
/-- list, tuple or str -/
def rIx (K : PySem.W.Frag) : R2 := fun x y H Q => rIxL K x y H Q ∨ rIxT K x y H Q ∨ rIxS x y H Q
theorem ix_seq : IxR X (rIx X.K) := ix_list.or (ix_tup.or ix_str)

/-! ### xs[i] = v, any sign -/
/-- the list's object behind a store -/
theorem mapSeq_set (its : List Value) (n j : Nat) (u : Value) : Obj.mapSeq (·.setIfInBounds j u) { cls := .type "list", data := .seq its.toArray n } = { cls := .type "list", data := .seq (its.set j u).toArray n } := by
  simp [Obj.mapSeq]
theorem Inv.lst {pins : List (Addr × Obj)} {σ : St} {H : Hp} {s : Shared} {p : Addr} {xs : List V} (I : Inv X pins σ H s) (h : H p = some (.lst xs)) :
    ∃ (its : List Value) (n : Nat), Vals xs its ∧ s.heap.get? p = some { cls := .type "list", data := .seq its.toArray n } ∧ xs.length ≤ sizeLine := by
  obtain ⟨z, its, n, r, e⟩ := I.hok p _ h
  exact ⟨its, n, r, e, z⟩
/-- the list at p is written by an update of its object -/
theorem Inv.lstUpd {pins : List (Addr × Obj)} {σ : St} {H : Hp} {s : Shared} {p : Addr} {xs ys : List V} {its its' : List Value} {n n' : Nat} {f : Obj → Obj} (I : Inv X pins σ H s) (h : H p = some (.lst xs))
    (ho : s.heap.get? p = some { cls := .type "list", data := .seq its.toArray n }) (hf : f { cls := .type "list", data := .seq its.toArray n } = { cls := .type "list", data := .seq its'.toArray n' }) (r : Vals ys its') (hz : ys.length ≤ sizeLine) (t : Nat) :
    Inv X pins σ (upd H p (.lst ys)) { s with heap := s.heap.update p f, toks := t } := by
  have e : (s.heap.update p f).get? p = some { cls := .type "list", data := .seq its'.toArray n' } := by
    rw [Heap.get?_update_self f ho (by rw [hf] <;> rfl), hf]
  refine I.write (x := p) (e := p) (by rw [h]; trivial) (.inl rfl) (fun b u hb q => (Heap.get?_update_other _ _ (Ne.symm hb)).trans q) ⟨_, e⟩ ?_
  exact ⟨hz, its', n', r, e⟩
def rSetL : V → V → V → Hp → (Hp → Prop) → Prop := fun o i v H Q => ∃ p xs k j, o = .ref p ∧ i = .int k ∧ H p = some (.lst xs) ∧ ixN xs.length k = some j ∧ Q (upd H p (.lst (xs.set j v)))
theorem set_list : PSet X rSetL := by
  intro pins s σ H o i v ov iv u Q I ro ri rv h
  obtain ⟨p, xs, k, j, rfl, rfl, hp, hj, q⟩ := h
  cases ro
  obtain ⟨t, rfl⟩ := ri
  obtain ⟨its, n, r, ho, hz⟩ := I.lst hp
  obtain ⟨h1, h2, h3, h4⟩ := ixN_seq hj
  have hl := r.length
  have hn := line63
  have I' : Inv X pins σ (upd H p (.lst (xs.set j v))) { s with heap := s.heap.update p (Obj.mapSeq (·.setIfInBounds j u)) } :=
    I.lstUpd hp ho (mapSeq_set its n j u) (r.set rv j) (by rw [List.length_set]; exact hz) s.toks
  by_cases h0 : 0 ≤ k
  · have hk : k.toNat = j := by
      rw [seqIndex_of h0 h4] at h1
      exact Option.some.inj h1
    exact PySem.W.ki_setAt ho h0 (by omega) (by rw [List.size_toArray, ← hl]; exact h4) (by rw [hk]; exact ⟨_, I', q⟩)
  · have hk : (k + (its.toArray.size : Int)).toNat = j := by
      rw [seqIndex_neg (by omega) h3] at h1
      rw [List.size_toArray, ← hl]
      exact Option.some.inj h1
    exact PySem.W.ki_setBack ho (by omega) (by rw [List.size_toArray, ← hl]; exact h3) (by omega) (by rw [hk]; exact ⟨_, I', q⟩)

/-! ### slices -/
theorem slice_bounds (lo hi : Option Int) (n : Nat) : (sliceBounds lo hi none n).1 = ((HT.sIx n 0 lo : Nat) : Int) ∧ (sliceBounds lo hi none n).2.1 = ((HT.sIx n n hi : Nat) : Int) ∧ (sliceBounds lo hi none n).2.2 = 1 := by
  refine ⟨?_, ?_, rfl⟩
  · cases lo with
    | none => simp [sliceBounds, HT.sIx]
    | some i =>
      simp only [sliceBounds, HT.sIx, Option.getD_none, show (1 : Int) > 0 by decide, if_true]
      by_cases h : i < 0
      · simp only [h, if_true] <;> omega
      · simp only [h, if_false] <;> omega
  · cases hi with
    | none => simp [sliceBounds, HT.sIx]
    | some i =>
      simp only [sliceBounds, HT.sIx, Option.getD_none, show (1 : Int) > 0 by decide, if_true]
      by_cases h : i < 0
      · simp only [h, if_true] <;> omega
      · simp only [h, if_false] <;> omega
theorem slicePick_cut (its : List Value) (lo hi : Option Int) : slicePick its.toArray lo hi none = ((its.drop (HT.sIx its.length 0 lo)).take (HT.sIx its.length its.length hi - HT.sIx its.length 0 lo)).toArray := by
  obtain ⟨h1, h2, h3⟩ := slice_bounds lo hi its.toArray.size
  unfold slicePick
  rw [h1, h2, h3]
  simp only [sliceRange_one, pick_run, List.size_toArray] <;> rfl
/-- xs[lo:hi] of a list: a new list -/
def rSlL (K : PySem.W.Frag) : V → Option Int → Option Int → Hp → VK → Prop := fun x lo hi H Q => ∃ a xs, x = .ref a ∧ SqL K H a xs ∧ ∀ p, H p = none → Q (.ref p) (upd H p (.lst (cutV xs lo hi)))
theorem sl_list : SlR X (rSlL X.K) := by
  intro pins s σ H x v vl vu lo hi sl Q I rx hs pl pu h
  obtain ⟨a, xs, rfl, hx, q⟩ := h
  cases rx
  obtain ⟨its, r, ht, hz⟩ := I.list hx
  have hlen := r.length
  refine ⟨"list", _, slot_list_getitem.lookup, ht.isList.typeIs, ?_⟩
  refine wpAny_getItem_list_slice ht.isList hs pl pu .none (by simp) ?_ (by rw [List.size_toArray] <;> omega)
  rw [slicePick_cut, ← hlen]
  refine ⟨.ref s.heap.objs.size, _, I.laid (t' := s.toks) (o := .lst (cutV xs lo hi)) (fun b ob q => Heap.get?_push_of_some _ q) (Nat.le_refl _) ?_, rfl, q _ (I.hok.fresh (Nat.le_refl _))⟩
  exact ⟨Nat.le_trans (cutV_length xs lo hi) hz, _, 0, (r.drop (HT.sIx xs.length 0 lo)).take (HT.sIx xs.length xs.length hi - HT.sIx xs.length 0 lo), Heap.get?_push_size _ rfl⟩

/-! ### in, not in: flat items -/
def flatV : V → Bool
  | .non => true
  | .bl _ => true
  | .int _ => true
  | .str _ => true
  | _ => false
/-- == of flat values -/
def eqV : V → V → Bool
  | .non, .non => true
  | .bl a, .bl b => a == b
  | .bl a, .int b => (if a then 1 else 0) == b
  | .int a, .bl b => a == (if b then 1 else 0)
  | .int a, .int b => a == b
  | .str a, .str b => a == b
  | _, _ => false
theorem eqAt_V {A : Around} {s : Shared} {y x : V} {u v : Value} (ry : RelV y u) (rx : RelV x v) (fy : flatV y = true) (fx : flatV x = true) : SeqAt.EqAt A s u v (eqV y x) := by
  cases y with
  | non =>
    cases ry
    cases x with
    | non => cases rx; exact SeqAt.EqAt.same _
    | bl b => cases rx; exact SeqAt.EqAt.none_bool b
    | int b => obtain ⟨t, rfl⟩ := rx; exact SeqAt.EqAt.none_int b t
    | str b => obtain ⟨t, rfl⟩ := rx; exact SeqAt.EqAt.none_str b t
    | _ => exact absurd (show false = true from fx) Bool.false_ne_true
  | bl a =>
    cases ry
    cases x with
    | non => cases rx; exact SeqAt.EqAt.bool_none a
    | bl b => cases rx; exact SeqAt.EqAt.bool_bool a b
    | int b => obtain ⟨t, rfl⟩ := rx; exact SeqAt.EqAt.bool_int a b t
    | str b => obtain ⟨t, rfl⟩ := rx; exact SeqAt.EqAt.bool_str a b t
    | _ => exact absurd (show false = true from fx) Bool.false_ne_true
  | int a =>
    obtain ⟨t', rfl⟩ := ry
    cases x with
    | non => cases rx; exact SeqAt.EqAt.int_none a t'
    | bl b => cases rx; exact SeqAt.EqAt.int_bool a t' b
    | int b => obtain ⟨t, rfl⟩ := rx; exact SeqAt.EqAt.int_int a t' b t
    | str b => obtain ⟨t, rfl⟩ := rx; exact SeqAt.EqAt.int_str a t' b t
    | _ => exact absurd (show false = true from fx) Bool.false_ne_true
  | str a =>
    obtain ⟨t', rfl⟩ := ry
    cases x with
    | non => cases rx; exact SeqAt.EqAt.str_none a t'
    | bl b => cases rx; exact SeqAt.EqAt.str_bool a t' b
    | int b => obtain ⟨t, rfl⟩ := rx; exact SeqAt.EqAt.str_int a t' b t
    | str b => obtain ⟨t, rfl⟩ := rx; exact SeqAt.EqAt.str_str a t' b t
    | _ => exact absurd (show false = true from fx) Bool.false_ne_true
  | _ => exact absurd (show false = true from fy) Bool.false_ne_true
/-- the items' answers, read off the values (a value's own answer does not lean on its token) -/
def eqU (x : V) (u : Value) : Bool := match u with
  | .none => eqV .non x
  | .bool b => eqV (.bl b) x
  | .int i _ => eqV (.int i) x
  | .str z _ => eqV (.str z) x
  | _ => false
theorem eqU_of {x y : V} {u : Value} (r : RelV y u) (f : flatV y = true) : eqU x u = eqV y x := by
  cases y with
  | non => cases r; rfl
  | bl b => cases r; rfl
  | int i => obtain ⟨t, rfl⟩ := r; rfl
  | str z => obtain ⟨t, rfl⟩ := r; rfl
  | _ => exact absurd (show false = true from f) Bool.false_ne_true
theorem any_eqU {x : V} : ∀ {xs : List V} {us : List Value}, Vals xs us → xs.all flatV = true → us.any (eqU x) = xs.any fun y => eqV y x
  | _, _, .nil, _ => rfl
  | y :: xs, u :: us, .cons r t, f => by
    rw [List.all_cons, Bool.and_eq_true] at f
    rw [List.any_cons, List.any_cons, eqU_of r f.1, any_eqU t f.2]
theorem mem_eqAt {A : Around} {s : Shared} {x : V} {v : Value} (rx : RelV x v) (fx : flatV x = true) : ∀ {xs : List V} {us : List Value}, Vals xs us → xs.all flatV = true → ∀ u ∈ us, SeqAt.EqAt A s u v (eqU x u)
  | _, _, .nil, _ => fun u hu => by cases hu
  | y :: xs, u :: us, .cons r t, f => fun u' hu => by
    rw [List.all_cons, Bool.and_eq_true] at f
    rcases List.mem_cons.mp hu with rfl | hu
    · rw [eqU_of r f.1]; exact eqAt_V r rx f.1 fx
    · exact mem_eqAt rx fx t f.2 u' hu
def inV (x : V) (xs : List V) : Bool := xs.any fun y => eqV y x
/-- x in a list or tuple of flat items -/
def rIn (K : PySem.W.Frag) (neg : Bool) : R2 := fun x y H Q => ∃ p xs, y = .ref p ∧ (SqL K H p xs ∨ SqT K H p xs) ∧ flatV x = true ∧ xs.all flatV = true ∧ Q (.bl (if neg then !inV x xs else inV x xs)) H
theorem op_in_seq : OpR X (compareOp .In) (rIn X.K false) := by
  intro pins s σ H x y v u Q I rx ry h
  obtain ⟨p, xs, rfl, hq, fx, fs, q⟩ := h
  cases ry
  rcases hq with hq | hq
  · obtain ⟨its, r, pl, hz⟩ := I.list hq
    refine SeqAt.in_listAt (eqU x) pl.isList (fun w hw => mem_eqAt rx fx r fs w (by simpa using hw)) ⟨.bl _, H, I, rfl, ?_⟩
    rw [show its.toArray.any (eqU x) = its.any (eqU x) by simp, any_eqU r fs]
    exact q
  · obtain ⟨its, r, pl, hz⟩ := I.tuple hq
    refine SeqAt.in_tupleAt (eqU x) pl (fun w hw => mem_eqAt rx fx r fs w (by simpa using hw)) ⟨.bl _, H, I, rfl, ?_⟩
    rw [show its.toArray.any (eqU x) = its.any (eqU x) by simp, any_eqU r fs]
    exact q
theorem op_notIn_seq : OpR X (compareOp .NotIn) (rIn X.K true) := by
  intro pins s σ H x y v u Q I rx ry h
  obtain ⟨p, xs, rfl, hq, fx, fs, q⟩ := h
  cases ry
  rcases hq with hq | hq
  · obtain ⟨its, r, pl, hz⟩ := I.list hq
    refine SeqAt.notIn_listAt (eqU x) pl.isList (fun w hw => mem_eqAt rx fx r fs w (by simpa using hw)) ⟨.bl _, H, I, rfl, ?_⟩
    rw [show its.toArray.any (eqU x) = its.any (eqU x) by simp, any_eqU r fs]
    exact q
  · obtain ⟨its, r, pl, hz⟩ := I.tuple hq
    refine SeqAt.notIn_tupleAt (eqU x) pl (fun w hw => mem_eqAt rx fx r fs w (by simpa using hw)) ⟨.bl _, H, I, rfl, ?_⟩
    rw [show its.toArray.any (eqU x) = its.any (eqU x) by simp, any_eqU r fs]
    exact q
theorem op_notIn_str : OpR X (compareOp .NotIn) (fun x y H Q => ∃ i j, x = .str i ∧ y = .str j ∧ Q (.bl (!(!(Builtin.Str.occurrences j i 0 j.length 1).isEmpty))) H) := by
  intro pins s σ H x y v u Q I rx ry h
  obtain ⟨i, j, rfl, rfl, q⟩ := h
  obtain ⟨t, rfl⟩ := rx
  obtain ⟨t', rfl⟩ := ry
  exact notIn_str ⟨.bl _, H, I, rfl, q⟩

/-! ### len, list(x), tuple(x) of any list or tuple that is read -/
theorem call_len_seq : CallR X (.builtin "len") (fun xs H Q => ∃ p ys, xs = [.ref p] ∧ (SqL X.K H p ys ∨ SqT X.K H p ys) ∧ Q (.int ys.length) H) := by
  intro pins s σ H xs us Q I r h
  obtain ⟨p, ys, rfl, hq, q⟩ := h
  obtain ⟨u, rfl, rx⟩ := vals1 r
  cases rx
  have hn := line63
  rcases hq with hq | hq
  · obtain ⟨its, r', pl, hz⟩ := I.list hq
    have hlen := r'.length
    exact Calls.call_len_list pl.isList (by simp only [List.size_toArray] <;> omega) ⟨.int ys.length, H, I.tok _, ⟨s.toks + 1, by rw [List.size_toArray, hlen]⟩, q⟩
  · obtain ⟨its, r', pl, hz⟩ := I.tuple hq
    have hlen := r'.length
    exact len_tuple pl (by simp only [List.size_toArray] <;> omega) ⟨.int ys.length, H, I.tok _, ⟨s.toks + 1, by rw [List.size_toArray, hlen]⟩, q⟩
theorem call_len_str : CallR X (.builtin "len") (fun xs H Q => ∃ z, xs = [.str z] ∧ z.length ≤ sizeLine ∧ Q (.int z.length) H) := by
  intro pins s σ H xs us Q I r h
  obtain ⟨z, rfl, hz, q⟩ := h
  obtain ⟨u, rfl, t, rfl⟩ := vals1 r
  have hn := line63
  exact len_str (by omega) ⟨.int z.length, H, I.tok _, ⟨_, rfl⟩, q⟩
theorem CallR.or {f : Value} {r r' : List V → Hp → VK → Prop} (h : CallR X f r) (h' : CallR X f r') : CallR X f (fun xs H Q => r xs H Q ∨ r' xs H Q) := by
  intro pins s σ H xs us Q I rs q
  rcases q with q | q
  · exact h pins s σ H xs us Q I rs q
  · exact h' pins s σ H xs us Q I rs q
theorem call_list_of : CallR X (.type "list") (fun xs H Q => ∃ p ys, xs = [.ref p] ∧ (SqL X.K H p ys ∨ SqT X.K H p ys) ∧ ∀ l, H l = none → Q (.ref l) (upd H l (.lst ys))) := by
  intro pins s σ H xs us Q I r h
  obtain ⟨p, ys, rfl, hq, q⟩ := h
  obtain ⟨u, rfl, rx⟩ := vals1 r
  cases rx
  have fin : ∀ (its : List Value), Vals ys its → ys.length ≤ sizeLine → ∀ (h' : Heap) (c' : Nat), (∀ b o', s.heap.get? b = some o' → h'.get? b = some o') →
      h'.get? s.heap.objs.size = some { cls := .type "list", dict := none, data := .seq its.toArray c', slots := #[] } → EP X pins σ Q (.ref s.heap.objs.size) { s with heap := h' } := fun its r' hz h' c' kp e =>
    ⟨.ref s.heap.objs.size, _, I.laid (t' := s.toks) kp (Nat.le_refl _) (show ObjOk X.prog X.w _ h' _ (.lst ys) from ⟨hz, its, c', r', e⟩), rfl, q _ (I.hok.fresh (Nat.le_refl _))⟩
  rcases hq with hq | hq
  · obtain ⟨its, r', pl, hz⟩ := I.list hq
    have hlen := r'.length
    obtain ⟨o, ho, hc, n, hd⟩ := pl.isList
    exact call_list_seq p (.inl rfl) ho hc hd (fun h' c' kp e => fin its r' hz h' c' kp e) (by simp only [List.size_toArray] <;> omega)
  · obtain ⟨its, r', pl, hz⟩ := I.tuple hq
    have hlen := r'.length
    obtain ⟨o, ho, hc, n, hd⟩ := pl
    exact call_list_seq p (.inr rfl) ho hc hd (fun h' c' kp e => fin its r' hz h' c' kp e) (by simp only [List.size_toArray] <;> omega)
theorem call_tuple_of : CallR X (.type "tuple") (fun xs H Q => ∃ p ys, xs = [.ref p] ∧ ((SqL X.K H p ys ∧ ∀ l, H l = none → Q (.ref l) (upd H l (.tup ys))) ∨ (SqT X.K H p ys ∧ Q (.ref p) H))) := by
  intro pins s σ H xs us Q I r h
  obtain ⟨p, ys, rfl, h⟩ := h
  obtain ⟨u, rfl, rx⟩ := vals1 r
  cases rx
  rcases h with ⟨hq, q⟩ | ⟨hq, q⟩
  · obtain ⟨its, r', pl, hz⟩ := I.list hq
    have hlen := r'.length
    refine call_tuple_list pl.isList (fun h' kp => ?_) (by simp only [List.size_toArray] <;> omega)
    have I1 : Inv X pins σ H { s with heap := h' } := I.kept (t' := s.toks) kp
    have I2 : Inv X pins σ (upd H h'.objs.size (.tup ys)) { s with heap := h'.push { cls := .type "tuple", data := .seq its.toArray } } :=
      I1.laid (t' := s.toks) (fun b o e => Heap.get?_push_of_some _ e) (Nat.le_refl _) (show ObjOk X.prog X.w _ _ _ (.tup ys) from ⟨hz, its, r', IsTup.new _ _⟩)
    exact ⟨.ref h'.objs.size, _, I2, rfl, q _ (I1.hok.fresh (Nat.le_refl _))⟩
  · obtain ⟨its, r', pl, hz⟩ := I.tuple hq
    exact call_tuple_same pl ⟨.ref p, H, I, rfl, q⟩

/-! ### the call of a builtin's method: o.m(..) -/
/-- the value is of that builtin type -/
def tyV (K : PySem.W.Frag) (T : String) (x : V) (H : Hp) : Prop := match x with
  | .str _ => T = "str"
  | .int _ => T = "int"
  | .ref p => (T = "list" ∧ ∃ xs, SqL K H p xs) ∨ (T = "tuple" ∧ ∃ o, K.lookup p = some o ∧ o.cls = .type "tuple" ∧ o.dict = none) ∨
      (T = "dict" ∧ ((∃ kvs, H p = some (.dK kvs)) ∨ ∃ kvs, H p = some (.dT kvs))) ∨ (T = "set" ∧ ∃ S n, H p = some (.set S n))
  | _ => False
theorem tyV_is {pins : List (Addr × Obj)} {σ : St} {H : Hp} {s : Shared} {T : String} {x : V} {v : Value} (I : Inv X pins σ H s) (r : RelV x v) (ty : tyV X.K T x H) :
    s.TypeIs v T ∧ ∀ a, v = .ref a → ∃ ob, s.heap.get? a = some ob ∧ ob.dict = none := by
  cases x with
  | str z =>
    obtain ⟨t, rfl⟩ := r
    cases (show T = "str" from ty)
    exact ⟨typeIs_str s z t, fun _ e => nomatch e⟩
  | int i =>
    obtain ⟨t, rfl⟩ := r
    cases (show T = "int" from ty)
    exact ⟨typeIs_int s i t, fun _ e => nomatch e⟩
  | ref p =>
    cases r
    rcases ty with ⟨rfl, xs, hq⟩ | ⟨rfl, o, hk, hc, hd⟩ | ⟨rfl, hk⟩ | ⟨rfl, S, n, hk⟩
    · obtain ⟨its, _, pl, _⟩ := I.list hq
      refine ⟨pl.isList.typeIs, fun a e => ?_⟩
      cases e
      obtain ⟨o, n, e, c, hd, _⟩ := pl
      exact ⟨o, e, hd⟩
    · refine ⟨⟨o, I.kIn p o hk, hc⟩, fun a e => ?_⟩
      cases e
      exact ⟨o, I.kIn _ o hk, hd⟩
    · have z : ∃ o, s.heap.get? p = some o ∧ o.ExactDict := by
        rcases hk with ⟨kvs, hk⟩ | ⟨kvs, hk⟩
        · obtain ⟨_, _, _, _, o, _, _, e, ex, _⟩ := I.hok p _ hk
          exact ⟨o, e, ex⟩
        · obtain ⟨_, _, _, _, o, _, _, e, ex, _⟩ := I.hok p _ hk
          exact ⟨o, e, ex⟩
      obtain ⟨o, e, ex⟩ := z
      refine ⟨⟨o, e, ex.1⟩, fun a e2 => ?_⟩
      cases e2
      exact ⟨o, e, ex.2.1⟩
    · obtain ⟨o, _, _, _, e, ex, _⟩ := I.hok p _ hk
      refine ⟨⟨o, e, ex.1⟩, fun a e2 => ?_⟩
      cases e2
      exact ⟨o, e, ex.2.1⟩
  | _ => exact False.elim ty
def tBM0 (K : PySem.W.Frag) (T : String) (r : V → List V → Hp → VK → Prop) (to : TE) : TE := fun σ H Q => to σ H fun x H1 => tyV K T x H1 ∧ r x [] H1 Q
def tBM (K : PySem.W.Frag) (T : String) (r : V → List V → Hp → VK → Prop) (to : TE) (t : TA) : TE := fun σ H Q => to σ H fun x H1 => tyV K T x H1 ∧ t σ H1 fun xs H2 => r x xs H2 Q
variable {o e : Expr} {es : List Expr} {to : TE} {t : TA} {name : Str} {apos cpos : Pos} {T id : String} {r : V → List V → Hp → VK → Prop}
theorem pe_bm0 (pa : PlainAttrs T) (slot : Slot T name id) (hty : typeOf (.builtin id) = pure (.type "method_descriptor")) (hm : MtR X id r) (ho : PE X o to)
    (hbase : attributeBase o name X.env (eval o X.env) = eval o X.env := by rfl) (hline : (apos.endLine == cpos.line) = true := by rfl) : PE X (.Call (.Attribute o name apos) [] [] cpos) (tBM0 X.K T r to) := by
  intro pins s σ H Q I h
  refine wpAny_Call_method0_late hbase hline (thn (ho pins s σ H _ I h) fun v s1 ⟨x, H1, I1, r1, ty, q1⟩ => ?_)
  obtain ⟨h1, h2⟩ := tyV_is I1 r1 ty
  exact ⟨T, id, pa, slot, hty, h1, h2, Calls.callWith_builtin rfl (PySem.evalArgs_none (hm pins s1 σ H1 x [] v [] Q I1 r1 .nil q1))⟩
theorem pe_bm (pa : PlainAttrs T) (slot : Slot T name id) (hty : typeOf (.builtin id) = pure (.type "method_descriptor")) (hm : MtR X id r) (ho : PE X o to) (ha : PA X (e :: es) t)
    (hbase : attributeBase o name X.env (eval o X.env) = eval o X.env := by rfl)
    (hfew : ((backTo cpos (starEach (e :: es) X.env)).all (fun x => !x.1) && (backToKw cpos (keywordEach [] X.env)).all (fun x => x.1.isSome)
      && decide ((e :: es).length + ([] : List Keyword).length + (if ([] : List Keyword).isEmpty then 0 else 1) < 30)) = true := by rfl)
    (hline : (apos.endLine == cpos.line) = true := by rfl) (hs : starEach (e :: es) X.env = (false, eval e X.env) :: starEach es X.env := by rfl) (hplain : (backTo cpos (starEach es X.env)).any (·.1) = false := by rfl) :
    PE X (.Call (.Attribute o name apos) (e :: es) [] cpos) (tBM X.K T r to t) := by
  intro pins s σ H Q I h
  refine wpAny_Call_method_late hbase hfew hline rfl (thn (ho pins s σ H _ I h) fun v s1 ⟨x, H1, I1, r1, ty, q1⟩ => ?_)
  obtain ⟨h1, h2⟩ := tyV_is I1 r1 ty
  refine ⟨T, id, pa, slot, hty, h1, h2, ?_⟩
  have hA := ha cpos pins s1 σ H1 _ I1 q1
  rw [hs] at hA ⊢
  refine Calls.callWith_builtin (by show (false || (backTo cpos (starEach es X.env)).any (·.1)) = false; rw [hplain] <;> rfl) (Calls.evalArgs_plain ?_)
  exact thn hA fun us s2 ⟨vs, H2, I2, r2, q2⟩ => hm pins s2 σ H2 x vs v us Q I2 r1 r2 q2
/- xs.append(e), list.index on a module's tuple .. are MtR facts of 06m -/
end
end L2

namespace L2
open PySem PySem.Spec PyProof.Rows

def MtM (X : Cx) (id : String) (r : V → List V → Hp → VK → Prop) : Prop :=
  ∀ (pins : List (Addr × Obj)) (s : Shared) (σ : St) (H : Hp) (x : V) (xs : List V) (v : Value) (us : List Value) (Q : VK), Inv X pins σ H s → RelV x v → Vals xs us → r x xs H Q →
    wpAny (model X.prog X.w) X.A (call (.builtin id) (v :: us)) (EP X pins σ Q) X.xe s

/-! ### lists of values -/
theorem Vals.one : ∀ {x : V} {us : List Value}, Vals [x] us → ∃ u, us = [u] ∧ RelV x u
  | _, _, .cons r .nil => ⟨_, rfl, r⟩
theorem Vals.two : ∀ {x y : V} {us : List Value}, Vals [x, y] us → ∃ u v, us = [u, v] ∧ RelV x u ∧ RelV y v
  | _, _, _, .cons r (.cons q .nil) => ⟨_, _, rfl, r, q⟩
theorem Vals.zero : ∀ {us : List Value}, Vals [] us → us = []
  | _, .nil => rfl
theorem Vals.dropLast {xs : List V} {us : List Value} (h : Vals xs us) : Vals xs.dropLast us.dropLast := by
  induction h with
  | nil => exact .nil
  | cons r t ih =>
    cases t with
    | nil => exact .nil
    | cons q t' => exact .cons r ih
theorem Vals.eraseIdx : ∀ {xs : List V} {us : List Value} (i : Nat), Vals xs us → Vals (xs.eraseIdx i) (us.eraseIdx i)
  | _, _, _, .nil => .nil
  | _, _, 0, .cons _ t => t
  | _, _, i + 1, .cons r t => .cons r (Vals.eraseIdx i t)
theorem Vals.reverse {xs : List V} {us : List Value} (h : Vals xs us) : Vals xs.reverse us.reverse := by
  induction h with
  | nil => exact .nil
  | cons r t ih => rw [List.reverse_cons, List.reverse_cons]; exact Vals.append ih (.cons r .nil)
theorem Vals.rep {xs : List V} {us : List Value} (h : Vals xs us) : ∀ k : Nat, Vals (List.replicate k xs).flatten (List.replicate k us).flatten
  | 0 => .nil
  | k + 1 => by
    rw [List.replicate_succ, List.replicate_succ, List.flatten_cons, List.flatten_cons]
    exact Vals.append h (Vals.rep h k)
theorem erase_last {α : Type} (l : List α) : l.eraseIdx (l.length - 1) = l.dropLast := by
  induction l with
  | nil => rfl
  | cons a r ih =>
    cases r with
    | nil => rfl
    | cons b r =>
      have e : (a :: b :: r).length - 1 = ((b :: r).length - 1) + 1 := by
        have h1 : (a :: b :: r).length = r.length + 2 := rfl
        have h2 : (b :: r).length = r.length + 1 := rfl
        omega
      rw [e, List.eraseIdx_cons_succ, ih]
      all_goals rfl
theorem len_erase {α : Type} : ∀ (l : List α) (i : Nat), (l.eraseIdx i).length ≤ l.length
  | [], _ => Nat.le_refl _
  | _ :: _, 0 => Nat.le_succ _
  | _ :: r, i + 1 => Nat.succ_le_succ (len_erase r i)
theorem foldl_rep (its : List Value) : ∀ (k : Nat) (acc : List Value),
    List.foldl (fun x1 x2 => x1 ++ x2) acc.toArray (List.replicate k its.toArray) = (acc ++ (List.replicate k its).flatten).toArray
  | 0, acc => by simp
  | k + 1, acc => by
    have e : acc.toArray ++ its.toArray = (acc ++ its).toArray := by simp
    have e2 : (acc ++ its) ++ (List.replicate k its).flatten = acc ++ (List.replicate (k + 1) its).flatten := by
      rw [List.replicate_succ, List.flatten_cons, List.append_assoc]
    rw [← e2, ← foldl_rep its k (acc ++ its), ← e, List.replicate_succ, List.foldl_cons]

section
variable {X : Cx} {pins : List (Addr × Obj)} {σ : St} {H : Hp} {s : Shared} {l b : Addr} {xs ys zs : List V}

/-! ### the two steps: a tracked list is rewritten, a new list is laid -/
theorem Inv.lset {its its' : List Value} {n : Nat} {f : Array Value → Array Value} {t' : Nat} (I : Inv X pins σ H s) (hH : H l = some (.lst xs))
    (e : s.heap.get? l = some { cls := .type "list", data := .seq its.toArray n }) (hf : f its.toArray = its'.toArray) (hv : Vals ys its') (hz : ys.length ≤ sizeLine) :
    Inv X pins σ (upd H l (.lst ys)) { s with heap := s.heap.update l (Obj.mapSeq f), toks := t' } := by
  have q := PySem.IsL.update e f
  rw [hf] at q
  refine I.write (x := l) (e := l) (by rw [hH]; exact trivial) (.inl rfl) (fun b' u hb hu => (Heap.get?_update_other s.heap (Obj.mapSeq f) (Ne.symm hb)).trans hu) ⟨_, q⟩ ?_
  exact ⟨hz, its', _, hv, q⟩
theorem Inv.lnew {its : List Value} {t' : Nat} (I : Inv X pins σ H s) (hv : Vals ys its) (hz : ys.length ≤ sizeLine) :
    Inv X pins σ (upd H s.heap.objs.size (.lst ys)) { s with heap := s.heap.push { cls := .type "list", data := .seq its.toArray }, toks := t' } :=
  I.laid (fun _ _ q => Heap.get?_push_of_some _ q) (Nat.le_refl _) ⟨hz, its, 0, hv, Heap.get?_push_size _ rfl⟩
theorem Inv.fresh (I : Inv X pins σ H s) : H s.heap.objs.size = none := I.hok.fresh (Nat.le_refl _)
theorem Inv.lstM (I : Inv X pins σ H s) (hH : H l = some (.lst xs)) : xs.length ≤ sizeLine ∧ ∃ (its : List Value) (n : Nat), Vals xs its ∧ xs.length = its.length ∧ s.heap.get? l = some { cls := .type "list", data := .seq its.toArray n } := by
  obtain ⟨z, its, n, r, e⟩ := I.hok l _ hH
  exact ⟨z, its, n, r, r.length, e⟩

theorem notLongL {n : Nat} (h : n ≤ sizeLine) : Builtin.List.listTooLong n = false := by
  unfold Builtin.List.listTooLong
  exact decide_eq_false (by omega)
end

section
variable {X : Cx}

/-! ### methods -/
def rAppend : V → List V → Hp → VK → Prop := fun x vs H Q => ∃ l xs y, x = .ref l ∧ vs = [y] ∧ H l = some (.lst xs) ∧ xs.length < sizeLine ∧ Q .non (upd H l (.lst (xs ++ [y])))
theorem mt_append : MtM X "list.append" rAppend := by
  intro pins s σ H x vs v us Q I rx rv h
  obtain ⟨l, xs, y, rfl, rfl, hH, hz, q⟩ := h
  cases rx
  obtain ⟨u, rfl, ru⟩ := rv.one
  obtain ⟨z, its, n, r, hl, e⟩ := I.lstM hH
  refine call_meets F.slot_list_append ⟨_, e, rfl⟩ F.entry_list_append (F.args_list_append_2 _ _) (PySem.list_append l its.toArray n u (by rw [List.size_toArray]; omega)) ⟨e, ?_⟩
  refine ⟨.non, _, I.lset (its' := its ++ [u]) hH e (by simp) (r.append (.cons ru .nil)) ?_, rfl, q⟩
  rw [List.length_append, List.length_singleton]
  omega

def rExtend : V → List V → Hp → VK → Prop := fun x vs H Q => ∃ l b xs zs, x = .ref l ∧ vs = [.ref b] ∧ H l = some (.lst xs) ∧ H b = some (.lst zs) ∧ xs.length + zs.length ≤ sizeLine ∧ Q .non (upd H l (.lst (xs ++ zs)))
theorem mt_extend : MtM X "list.extend" rExtend := by
  intro pins s σ H x vs v us Q I rx rv h
  obtain ⟨l, b, xs, zs, rfl, rfl, hH, hB, hz, q⟩ := h
  cases rx
  obtain ⟨u, rfl, ru⟩ := rv.one
  cases ru
  obtain ⟨z, its, n, r, hl, e⟩ := I.lstM hH
  obtain ⟨z2, its2, n2, r2, hl2, e2⟩ := I.lstM hB
  have hsz : its.toArray.size + its2.toArray.size ≤ sizeLine := by rw [List.size_toArray, List.size_toArray]; omega
  have hlong : ¬ (!its.toArray.isEmpty && Builtin.List.listTooLong (its.toArray.size + its2.toArray.size)) = true := by
    rw [notLongL hsz, Bool.and_false]
    exact Bool.false_ne_true
  refine call_meets F.slot_list_extend ⟨_, e, rfl⟩ F.entry_list_extend (F.args_list_extend_2 _ _)
    (AutoSeq1.list_extend_list_list_0 l its.toArray n b its2.toArray n2 hlong (by rw [List.size_toArray]; omega) (by omega)) ⟨e, e2, ?_⟩
  refine ⟨.non, _, I.lset (its' := its ++ its2) hH e (by simp) (r.append r2) ?_, rfl, q⟩
  rw [List.length_append]
  omega

def rPop : V → List V → Hp → VK → Prop := fun x vs H Q => ∃ l xs y, x = .ref l ∧ vs = [] ∧ H l = some (.lst xs) ∧ xs[xs.length - 1]? = some y ∧ Q y (upd H l (.lst xs.dropLast))
theorem mt_pop : MtM X "list.pop" rPop := by
  intro pins s σ H x vs v us Q I rx rv h
  obtain ⟨l, xs, y, rfl, rfl, hH, hy, q⟩ := h
  cases rx
  have hus := rv.zero
  subst hus
  obtain ⟨z, its, n, r, hl, e⟩ := I.lstM hH
  obtain ⟨u, hu, ru⟩ := r.get hy
  have hy' : its.toArray[its.toArray.size - 1]? = some u := by
    show its.toArray[its.length - 1]? = some u
    rw [← Array.getElem?_toList, ← hl]
    exact hu
  refine call_meets F.slot_list_pop ⟨_, e, rfl⟩ F.entry_list_pop (F.args_list_pop_1 _) (MeetsSeq.list_pop_last l its.toArray n u hy' (by rw [List.size_toArray]; omega)) ⟨e, ?_⟩
  refine ⟨y, _, I.lset (its' := its.dropLast) hH e ?_ r.dropLast ?_, ru, q⟩
  · show its.toArray.eraseIdxIfInBounds (its.toArray.size - 1) = its.dropLast.toArray
    rw [List.size_toArray, List.eraseIdxIfInBounds_toArray, erase_last]
  · rw [List.length_dropLast]
    omega

def rPopAt : V → List V → Hp → VK → Prop := fun x vs H Q => ∃ l xs i k y, x = .ref l ∧ vs = [.int i] ∧ H l = some (.lst xs) ∧ -(2 ^ 63) ≤ i ∧ i < 2 ^ 63 ∧ seqIndex? i xs.length = some k ∧ xs[k]? = some y ∧ Q y (upd H l (.lst (xs.eraseIdx k)))
theorem mt_popAt : MtM X "list.pop" rPopAt := by
  intro pins s σ H x vs v us Q I rx rv h
  obtain ⟨l, xs, i, k, y, rfl, rfl, hH, h1, h2, hk, hy, q⟩ := h
  cases rx
  obtain ⟨u, rfl, ru⟩ := rv.one
  obtain ⟨t, rfl⟩ := ru
  obtain ⟨z, its, n, r, hl, e⟩ := I.lstM hH
  obtain ⟨w, hw, rw'⟩ := r.get hy
  refine call_meets F.slot_list_pop ⟨_, e, rfl⟩ F.entry_list_pop (F.args_list_pop_2 _ _)
    (MeetsSeq.list_pop_at l its.toArray n i t k w (fitsIndex_both h1 h2) (by rw [List.size_toArray, ← hl]; exact hk) (by rw [← Array.getElem?_toList]; exact hw) (by rw [List.size_toArray]; omega)) ⟨e, ?_⟩
  refine ⟨y, _, I.lset (its' := its.eraseIdx k) hH e ?_ (r.eraseIdx k) ?_, rw', q⟩
  · show its.toArray.eraseIdxIfInBounds k = (its.eraseIdx k).toArray
    rw [List.eraseIdxIfInBounds_toArray]
  · have := len_erase xs k
    omega

def rReverse : V → List V → Hp → VK → Prop := fun x vs H Q => ∃ l xs, x = .ref l ∧ vs = [] ∧ H l = some (.lst xs) ∧ Q .non (upd H l (.lst xs.reverse))
theorem mt_reverse : MtM X "list.reverse" rReverse := by
  intro pins s σ H x vs v us Q I rx rv h
  obtain ⟨l, xs, rfl, rfl, hH, q⟩ := h
  cases rx
  have hus := rv.zero
  subst hus
  obtain ⟨z, its, n, r, hl, e⟩ := I.lstM hH
  refine call_meets F.slot_list_reverse ⟨_, e, rfl⟩ F.entry_list_reverse (F.args_list_reverse_1 _) (AutoSeq1.list_reverse_list_0 l its.toArray n (by rw [List.size_toArray]; omega)) ⟨e, ?_⟩
  refine ⟨.non, _, I.lset (its' := its.reverse) hH e (by simp) r.reverse ?_, rfl, q⟩
  rw [List.length_reverse]
  omega

def rClear : V → List V → Hp → VK → Prop := fun x vs H Q => ∃ l xs, x = .ref l ∧ vs = [] ∧ H l = some (.lst xs) ∧ Q .non (upd H l (.lst []))
theorem mt_clear : MtM X "list.clear" rClear := by
  intro pins s σ H x vs v us Q I rx rv h
  obtain ⟨l, xs, rfl, rfl, hH, q⟩ := h
  cases rx
  have hus := rv.zero
  subst hus
  obtain ⟨z, its, n, r, hl, e⟩ := I.lstM hH
  refine call_meets F.slot_list_clear ⟨_, e, rfl⟩ F.entry_list_clear (F.args_list_clear_1 _) (AutoSeq1.list_clear_list_0 l its.toArray n (by rw [List.size_toArray]; omega)) ⟨e, ?_⟩
  exact ⟨.non, _, I.lset (its' := []) (ys := []) hH e rfl .nil (Nat.zero_le _), rfl, q⟩

/-! ### list + list, list += list, list * int -/
def rCat : R2 := fun x y H Q => ∃ l b xs zs, x = .ref l ∧ y = .ref b ∧ H l = some (.lst xs) ∧ H b = some (.lst zs) ∧ xs.length + zs.length ≤ sizeLine ∧ ∀ p, H p = none → Q (.ref p) (upd H p (.lst (xs ++ zs)))
theorem op_cat : OpR X (binaryOp .Add) rCat := by
  intro pins s σ H x y v u Q I rx ry h
  obtain ⟨l, b, xs, zs, rfl, rfl, hH, hB, hz, q⟩ := h
  cases rx
  cases ry
  obtain ⟨z, its, n, r, hl, e⟩ := I.lstM hH
  obtain ⟨z2, its2, n2, r2, hl2, e2⟩ := I.lstM hB
  refine PySem.P.add_list e e2 ?_ (by rw [List.size_toArray, List.size_toArray]; omega)
  have ea : its.toArray ++ its2.toArray = (its ++ its2).toArray := by simp
  rw [ea]
  exact ⟨.ref _, _, I.lnew (t' := s.toks) (r.append r2) (by rw [List.length_append]; omega), rfl, q _ I.fresh⟩
/-- a list times an int (a negative one is nothing) -/
def rRep : R2 := fun x y H Q => ∃ l k xs, x = .ref l ∧ y = .int k ∧ H l = some (.lst xs) ∧ -(2 ^ 63) ≤ k ∧ k < 2 ^ 63 ∧ xs.length * k.toNat ≤ sizeLine ∧
  ∀ p, H p = none → Q (.ref p) (upd H p (.lst (List.replicate k.toNat xs).flatten))
theorem len_rep {α : Type} (xs : List α) (k : Nat) : (List.replicate k xs).flatten.length = k * xs.length := by
  induction k with
  | zero => simp
  | succ k ih => rw [List.replicate_succ, List.flatten_cons, List.length_append, ih, Nat.succ_mul, Nat.add_comm]
theorem op_rep : OpR X (binaryOp .Mult) rRep := by
  intro pins s σ H x y v u Q I rx ry h
  obtain ⟨l, k, xs, rfl, rfl, hH, h1, h2, hz, q⟩ := h
  cases rx
  obtain ⟨t, rfl⟩ := ry
  obtain ⟨z, its, n, r, hl, e⟩ := I.lstM hH
  have hlen : its.toArray.size * k.toNat ≤ sizeLine := by rw [List.size_toArray, ← hl]; exact hz
  have hcap : ¬ its.toArray.size * k.toNat > (2 ^ 63 - 1) / 8 := by
    have : (sizeLine : Nat) ≤ (2 ^ 63 - 1) / 8 := by decide
    omega
  have hfit : ¬ (!Builtin.List.listFitsIndex k) = true := by
    rw [fitsIndex_both h1 h2]
    exact Bool.false_ne_true
  have hlong : ¬ Builtin.List.listTooLong (its.toArray.size * k.toNat) = true := by
    rw [notLongL hlen]
    exact Bool.false_ne_true
  have hnew : List.foldl (fun x1 x2 => x1 ++ x2) #[] (List.replicate (if its.toArray.isEmpty = true then 0 else k.toNat) its.toArray) = (List.replicate k.toNat its).flatten.toArray := by
    have f0 : ∀ m : Nat, List.foldl (fun x1 x2 => x1 ++ x2) #[] (List.replicate m its.toArray) = (List.replicate m its).flatten.toArray := fun m => by
      have := foldl_rep its m []
      rw [List.nil_append] at this
      exact this
    rw [f0]
    cases its with
    | nil => simp
    | cons a r' => rw [if_neg (by simp)]
  refine wpAny_binaryOp_repeat_ref (T := "list") (U := "int") (by decide) ⟨_, e, rfl⟩ (fun s' => typeIs_int s' k t) noFill_list_mul F.fills_int_mul F.slot_int_rmul repeat_list F.slot_int_index.lookup
    (call_meets F.slot_int_rmul (typeIs_int s k t) F.entry_int_rmul (F.args_int_rmul_2 _ _) (int___rmul___int_list k t l its.toArray n)
      ⟨e, rfl, ⟨_, e, rfl⟩, call_meets F.slot_list_mul ⟨_, e, rfl⟩ F.entry_list_mul (F.args_list_mul_2 _ _) (AutoListH.list___mul___list_int_3 l its.toArray n k t hfit hcap hlong) ⟨e, ?_⟩⟩)
  rw [hnew]
  exact ⟨.ref _, _, I.lnew (t' := s.toks) (r.rep k.toNat) (by rw [len_rep, Nat.mul_comm]; exact hz), rfl, q _ I.fresh⟩

/-! ### del xs[i] -/
theorem del_list {pins : List (Addr × Obj)} {s : Shared} {σ : St} {H : Hp} {l : Addr} {xs : List V} {i : Int} {t : Tok} {k : Nat} {Q : Unit → Shared → Prop} (I : Inv X pins σ H s) (hH : H l = some (.lst xs))
    (h1 : -(2 ^ 63) ≤ i) (h2 : i < 2 ^ 63) (hk : seqIndex? i xs.length = some k) (h : ∀ s', Inv X pins σ (upd H l (.lst (xs.eraseIdx k))) s' → Q () s') :
    wpAny (model X.prog X.w) X.A (delItem (.ref l) (.int i t)) Q X.xe s := by
  obtain ⟨z, its, n, r, hl, e⟩ := I.lstM hH
  refine PySem.P.delItem_list (k := k) e (fitsIndex_both h1 h2) (by rw [List.size_toArray, ← hl]; exact hk) (h _ ?_) (by rw [List.size_toArray]; omega)
  refine I.lset (its' := its.eraseIdx k) (t' := s.toks) hH e ?_ (r.eraseIdx k) ?_
  · show its.toArray.eraseIdxIfInBounds k = (its.eraseIdx k).toArray
    rw [List.eraseIdxIfInBounds_toArray]
  · have := len_erase xs k
    omega
end

/-! ### xs[a:b] = ys -/
section
variable {prog : Program} {w : World} {A : Around} {E : Value → Shared → Prop} {s : Shared}
theorem splice_eq (its its2 : List Value) (a c : Nat) : its.toArray.extract 0 a ++ its2.toArray ++ its.toArray.extract c its.toArray.size = (its.take a ++ its2 ++ its.drop c).toArray := by
  apply Array.toList_inj.mp
  first
    | (simp
       exact List.take_of_length_le (by simp))
    | simp [List.take_of_length_le]
    | simp
theorem bounds_run {a c n : Nat} (hac : a ≤ c) (hc : c ≤ n) : sliceBounds (some (a : Int)) (some (c : Int)) none n = ((a : Int), (c : Int), 1) := by
  simp only [sliceBounds, Option.getD_none]
  have h1 : ¬ ((a : Int) < 0) := by omega
  have h2 : ¬ ((c : Int) < 0) := by omega
  simp only [h1, h2, if_false, show (1 : Int) > 0 by decide, if_true]
  congr 1
  · omega
  · congr 1; omega
set_option maxRecDepth 100000 in
/-- list.__setitem__ with a slice of step one and another list -/
theorem setItem_slice {l b sl : Addr} {items new : Array Value} {n n2 : Nat} {vl vu : Value} {a c : Nat} {Q : Unit → Shared → Prop}
    (e : s.heap.get? l = some { cls := .type "list", data := .seq items n }) (e2 : s.heap.get? b = some { cls := .type "list", data := .seq new n2 }) (hne : l ≠ b)
    (hs : s.heap.IsSliceOf sl vl vu .none) (pl : IsPart vl (some (a : Int))) (pu : IsPart vu (some (c : Int))) (hac : a ≤ c) (hc : c ≤ items.size)
    (hsz : items.size + new.size ≤ sizeLine) (h : Q () { s with heap := s.heap.update l (Obj.mapSeq fun xs => xs.extract 0 a ++ new ++ xs.extract c xs.size) }) :
    wpAny (model prog w) A (setItem (.ref l) (.ref sl) (.ref b)) Q E s := by
  have hl : s.heap.IsList l items := PySem.IsL.isList e
  have hb : s.heap.IsList b new := PySem.IsL.isList e2
  obtain ⟨os, hos, hcs, hds⟩ := id hs
  have hTs : s.TypeIs (.ref sl) "slice" := ⟨os, hos, hcs⟩
  have hstep : ¬ ((rawPart none == rawInt 0) = true) := Bool.false_ne_true
  have hsame : Builtin.List.listSameRef (.ref l) (.ref b) = false := by
    unfold Builtin.List.listSameRef
    exact beq_eq_false_iff_ne.mpr hne
  have hmax : (max (a : Int) (c : Int)).toNat = c := by omega
  have hz' : ((fun xs : Array Value => xs.extract 0 a ++ new ++ xs.extract c xs.size) items).size ≤ sizeLine + 1 := by
    simp only [Array.size_append, Array.size_extract]
    omega
  unfold setItem
  try with_reducible refine wpAny_holding ?_
  first | refine wpAny_bind (wpAny_pure ?_) | skip
  refine wpAny_bind (wpAny_sequenceKey hl.typeIs (by decide) ?_)
  refine wpAny_bind (wpAny_callSpecial?_slot (name := Str.ofString "__setitem__") hl.typeIs slot_list_setitem
    (wpAny_call_entry slot_list_setitem hl.typeIs entry_list_setitem ?_ (args_list_setitem _ _ _)))
  show wpAny _ _ (Builtin.List.listSubscript? (.ref sl) >>= _) _ _ s
  refine wpAny_bind ?_
  unfold Builtin.List.listSubscript?
  refine wpAny_bind (wpAny_specialOf hTs slice_no_index ?_)
  simp only [Option.isNone_none, if_true]
  refine wpAny_pure ?_
  show wpAny _ _ (typeOf (.ref sl) >>= _) _ _ s
  refine wpAny_bind (wpAny_typeOf hTs ?_)
  first
    | rw [if_neg (by decide)]
    | refine PySem.W.KFB.if_not (by decide) ?_
  rw [listSliceParts_eq]
  refine wpAny_bind (wpAny_bind (wpAny_field hos hds (x := .none) rfl (wpAny_bind (wpAny_listPart .none ?_))))
  rw [if_neg hstep]
  refine wpAny_bind (wpAny_field hos hds (x := vl) rfl (wpAny_bind (wpAny_listPart pl ?_)))
  refine wpAny_bind (wpAny_field hos hds (x := vu) rfl (wpAny_bind (wpAny_listPart pu (wpAny_pure ?_))))
  first
    | simp only [hsame, Bool.false_eq_true, if_false]
    | refine PySem.W.KFB.if_not hsame ?_
    | (dsimp only
       rw [if_neg (by rw [hsame]; exact Bool.false_ne_true)])
  refine wpAny_bind (m := Builtin.List.listAllItems (.ref b) "must assign iterable to extended slice") ?_
  unfold Builtin.List.listAllItems
  refine wpAny_bind (wpAny_typeOf hb.typeIs ?_)
  first
    | refine PySem.W.KFB.if_so (by decide) ?_
    | rw [if_pos (by decide)]
    | simp only [beq_self_eq_true, Bool.true_or, if_true]
  unfold Builtin.List.listItems
  refine wpAny_bind (wpAny_seqItems e2 rfl (wpAny_pure ?_))
  refine wpAny_bind (wpAny_bind (wpAny_seqItems e rfl (wpAny_pure ?_)))
  refine wpAny_bind (wpAny_of_eq ((sliceIndices_raw (some (a : Int)) (some (c : Int)) none items.size (by simp)).trans (congrArg (pure : Int × Int × Int → Sem (Int × Int × Int)) (bounds_run hac hc))) ?_)
  show wpAny _ _ (if ((1 : Int) == 1) = true then _ else _) _ _ s
  rw [if_pos (by decide)]
  refine wpAny_bind (wpAny_rule ?_)
  first
    | simp only [notLongL hsz, Bool.false_eq_true, if_false]
    | refine PySem.W.KFB.if_not (notLongL hsz) ?_
  first | refine wpAny_bind (wpAny_pure ?_) | skip
  show wpAny _ _ (updateSeq l (fun xs => xs.extract 0 ((a : Int)).toNat ++ new ++ xs.extract (max (a : Int) (c : Int)).toNat xs.size) >>= _) _ _ s
  rw [hmax, Int.toNat_natCast]
  refine wpAny_bind (wpAny_updateSeq (hz := Nat.le_trans (Nat.le_add_right _ _) hsz) (_hz' := hz') e rfl ?_)
  refine wpAny_bind (wpAny_letGo ?_)
  first
    | exact wpAny_bind (wpAny_pure (wpAny_pure ⟨.none, rfl, wpAny_pure h⟩))
    | exact wpAny_pure ⟨.none, rfl, wpAny_pure h⟩
end

section
variable {X : Cx}
/-- xs[a:c] = ys of another list, at the value level: sl is the slice object that was just made -/
theorem set_slice {pins : List (Addr × Obj)} {s : Shared} {σ : St} {H : Hp} {l b sl : Addr} {xs ys : List V} {a c : Int} {vl vu : Value} {Q : Unit → Shared → Prop} (I : Inv X pins σ H s)
    (hH : H l = some (.lst xs)) (hB : H b = some (.lst ys)) (hne : l ≠ b) (hs : s.heap.IsSliceOf sl vl vu .none) (ra : RelV (.int a) vl) (rc : RelV (.int c) vu) (h0 : 0 ≤ a) (hac : a ≤ c) (hc : c ≤ xs.length)
    (hz : xs.length + ys.length ≤ sizeLine) (h : ∀ s', Inv X pins σ (upd H l (.lst (xs.take a.toNat ++ ys ++ xs.drop c.toNat))) s' → Q () s') :
    wpAny (model X.prog X.w) X.A (setItem (.ref l) (.ref sl) (.ref b)) Q X.xe s := by
  obtain ⟨ta, rfl⟩ := ra
  obtain ⟨tc, rfl⟩ := rc
  obtain ⟨z, its, n, r, hl, e⟩ := I.lstM hH
  obtain ⟨z2, its2, n2, r2, hl2, e2⟩ := I.lstM hB
  obtain ⟨a', rfl⟩ := Int.eq_ofNat_of_zero_le h0
  obtain ⟨c', rfl⟩ := Int.eq_ofNat_of_zero_le (Int.le_trans h0 hac)
  simp only [Int.toNat_natCast] at h
  refine setItem_slice (a := a') (c := c') e e2 hne hs (.int _ _) (.int _ _) (by omega) (by rw [List.size_toArray]; omega) (by rw [List.size_toArray, List.size_toArray]; omega) (h _ ?_)
  refine I.lset (its' := its.take a' ++ its2 ++ its.drop c') (t' := s.toks) hH e ?_ (Vals.append (Vals.append (r.take _) r2) (r.drop _)) ?_
  · exact splice_eq its its2 a' c'
  · rw [List.length_append, List.length_append, List.length_take, List.length_drop]
    omega
end
end L2

namespace Att
open PySem PySem.W PySem.Calls PyProof.Rows

/-! ### the script -/
theorem ints_of_wellAll {P : Params} {h : Heap} : ∀ (ns : List Int) (vs : List Value), WellAll P h vs (ns.map WData.int) → IntsAre vs ns := by
  intro ns
  induction ns with
  | nil =>
    intro vs w
    rw [List.map_nil] at w
    cases w
    exact .nil
  | cons n ns ih =>
    intro vs w
    rw [List.map_cons] at w
    cases w with
    | cons a b =>
      cases a
      exact .cons _ _ (ih _ b)

theorem script_of {l : OpenLaw} {n : Nat} (hn : l.most = some n) {P : Params} {h : Heap} {args : List WData} {vals : List Value}
    (hpre : l.row.toRowW.claim.pre args = true) (hwl : WellAll P h vals args) :
    ∃ a vs ns, vals = [Value.ref a] ∧ args = [WData.list (ns.map WData.int)] ∧ h.get? a = some { cls := .type "list", data := .seq vs.toArray } ∧ IntsAre vs ns ∧ ns.length ≤ n := by
  have hsh : WShape.hasAll [] args [.list .int] = true := (pre_splitW hpre).1
  have hc : l.pre.holds [] { args := args } = true := (pre_splitW hpre).2
  obtain ⟨d, r, rfl, h1, h2⟩ := hasAllW_cons hsh
  obtain rfl := hasAllW_nil h2
  obtain ⟨xs, rfl, h3⟩ := hasW_list h1
  obtain ⟨ns, rfl⟩ := items_int h3
  have hlen : ns.length ≤ n := by
    unfold OpenLaw.pre at hc
    have h4 : (WTm.not (.lt (.lit (.int (n : Int))) (.len (.arg 0)))).holds [] { args := [.list (ns.map .int)] } = true := by
      have h4 := (holds_andW hc).1
      rw [hn] at h4
      exact h4
    have h5 := condW_of h4 (w_not (w_lt w_lit (w_len_list (w_arg rfl))))
    rw [List.length_map] at h5
    refine Nat.le_of_not_lt fun q => ?_
    have q' : (n : Int) < ((ns.length : Nat) : Int) := by omega
    first
      | (rw [decide_eq_true q'] at h5; exact absurd h5 (by decide))
      | (simp at h5; omega)
  cases hwl with
  | cons w1 w2 =>
    cases w2
    cases w1 with
    | list ho hall => exact ⟨_, _, ns, rfl, rfl, ho, ints_of_wellAll ns _ hall, hlen⟩

theorem post_true (l : OpenLaw) (args : List WData) : l.row.toRowW.claim.post args (.bool true) args = true :=
  postW_of (r := l.row.toRowW) (X := (true == true))
    (show WShape.has [] (.bool true) .bool = true by first | rfl | decide | simp [WShape.has, WShape.arms, WShape.armsAll])
    (show (WTm.eq .res (.lit (.bool true))).value [] { args := args, res := some (.bool true), after := args } = some (.bool (true == true)) from w_eq_bool (w_res rfl) w_lit) rfl

/-! ### the attachment: holds_open's last premise (the goal 'hc' behind k_head) from a wpAny of the law's body -/
theorem attach {l : OpenLaw} {n : Nat} {q : Program} {loose : List Str} {XP : (Str → Option Value) → Heap → Prop} {YP : World → Heap → Prop} {d : DefRec} {x : Str}
    (hn : l.most = some n) (hdf : d.params.defaults = [])
    (hbind : ∀ pm cd doc v : Value, bindArgs (docDef d.name d.params d.body d.scope pm cd doc) ⟨[v], []⟩ = pure [(x, v)])
    (hx : d.scope.names.lookup x = some .local ∨ d.scope.names.lookup x = some .cell)
    (hk : d.scope.kind = .function) (hco : d.scope.isCoroutine = false) (hgen : d.scope.isGenerator = false)
    (body : ∀ (w : World) (s₀ s₁ s : Shared) (mg mb : Str → Option Value) (fa : Addr) (o : Obj) (pm cd doc : Value) (a : Addr) (vs : List Value) (ns : List Int),
      Ground q loose [] XP w s₀ mg mb s₁.heap → YP w s₁.heap →
      s₁.heap.get? fa = some o → o.data = .func (docDef d.name d.params d.body d.scope pm cd doc) → s₁.heap.CodeRec cd d.name → mg d.name = some (.ref fa) →
      s₁.heap.get? a = some { cls := .type "list", data := .seq vs.toArray } → IntsAre vs ns → ns.length ≤ n →
      s.gens = #[] → s.os = s₁.os →
      Fr s₁.heap s₁.heap.objs.size s.heap (bindL (envOfC d.name d.scope s₁.heap.objs.size fa cd).kindOf [(x, .ref a)] fun _ => none) →
      Cl s₁.heap.objs.size (cellsFrom (s₁.heap.objs.size + 1) d.scope.names []) s.heap (bindC (envOfC d.name d.scope s₁.heap.objs.size fa cd).kindOf [(x, .ref a)] fun _ => none) →
      wpAny (model l.prog w) (callerA.deeper (envOfC d.name d.scope s₁.heap.objs.size fa cd)) (execs d.body (envOfC d.name d.scope s₁.heap.objs.size fa cd))
        (fun f s' => f = .ret (.bool true) ∧ OldK s₁.heap s'.heap ∧ s'.os = s₁.os ∧ AllBare s'.gens) (fun _ _ => False) s) :
    WalkO q loose XP YP l.row.toRowW d [] (fun f vs => PySem.call f vs) := by
  intro w s₀ s₁ mg mb G Y fa o pm cd doc dV kV ho hd hcd hD hmg hg args vals as hpre hlay hrd hwl hlo
  obtain rfl : dV = .none := Dflts.none hD hdf
  obtain rfl : kV = .none := Dflts.noKw hD
  obtain ⟨a, vs, ns, rfl, rfl, hobj, hints, hlen⟩ := script_of hn hpre hwl
  refine enter_call ?_
  refine call_cells_ret (o := o) (by rw [depth_caller]; decide) ho (fd_plain hd) G.T.nolimit hcd (hbind pm cd doc (.ref a)) (fun y hy => ?_) (fun h₁ tk F X => ?_) hco hgen hk
  · obtain rfl : y = (x, Value.ref a) := List.mem_singleton.mp hy
    rcases hx with e | e
    · exact .inl e
    · exact .inr ⟨e, cellsFrom_some _ _ _ (.inl e)⟩
  · refine wpAny_mono (body w s₀ s₁ { s₁ with heap := h₁, toks := tk } mg mb fa o pm cd doc a vs ns G Y ho (fd_plain hd) hcd hmg hobj hints hlen hg rfl F X) (fun f s' hq => ?_) (fun _ _ hq => hq)
    obtain ⟨rfl, h2, h3, h4⟩ := hq
    exact ⟨.inl ⟨.bool true, .bool true, [], rfl, fun _ => rfl, .bool true, post_true l _, fun _ => ⟨List.Pairwise.nil, fun _ hm => (nomatch hm)⟩⟩, h2, h3, h4⟩

/-- the same from a codeAny of the CALL (for a layer whose function contracts speak of calls) -/
theorem attach_call {l : OpenLaw} {n : Nat} {q : Program} {loose : List Str} {XP : (Str → Option Value) → Heap → Prop} {YP : World → Heap → Prop} {d : DefRec}
    (hn : l.most = some n) (hdf : d.params.defaults = [])
    (call : ∀ (w : World) (s₀ s₁ : Shared) (mg mb : Str → Option Value) (fa : Addr) (o : Obj) (pm cd doc : Value) (a : Addr) (vs : List Value) (ns : List Int),
      Ground q loose [] XP w s₀ mg mb s₁.heap → YP w s₁.heap →
      s₁.heap.get? fa = some o → o.data = .func (docDef d.name d.params d.body d.scope pm cd doc) → s₁.heap.CodeRec cd d.name → mg d.name = some (.ref fa) →
      s₁.heap.get? a = some { cls := .type "list", data := .seq vs.toArray } → IntsAre vs ns → ns.length ≤ n → s₁.gens = #[] →
      codeAny (model l.prog w) callerA (.call (.ref fa) ⟨[.ref a], []⟩) (fun r s' => r = .ok (.ret (.bool true)) ∧ OldK s₁.heap s'.heap ∧ s'.os = s₁.os ∧ AllBare s'.gens) s₁) :
    WalkO q loose XP YP l.row.toRowW d [] (fun f vs => PySem.call f vs) := by
  intro w s₀ s₁ mg mb G Y fa o pm cd doc dV kV ho hd hcd hD hmg hg args vals as hpre hlay hrd hwl hlo
  obtain rfl : dV = .none := Dflts.none hD hdf
  obtain rfl : kV = .none := Dflts.noKw hD
  obtain ⟨a, vs, ns, rfl, rfl, hobj, hints, hlen⟩ := script_of hn hpre hwl
  refine enter_call (codeAny_mono (call w s₀ s₁ mg mb fa o pm cd doc a vs ns G Y ho (fd_plain hd) hcd hmg hobj hints hlen hg) fun r s' hq => ?_)
  obtain ⟨rfl, h2, h3, h4⟩ := hq
  exact ⟨.inl ⟨.bool true, .bool true, [], rfl, fun _ => rfl, .bool true, post_true l _, fun _ => ⟨List.Pairwise.nil, fun _ hm => (nomatch hm)⟩⟩, h2, h3, h4⟩

/-- the same where the top left finished generators (o_head chose holds_openN): nothing may have changed at all and no generator may be left -/
theorem attachN {l : OpenLaw} {n : Nat} {q : Program} {loose : List Str} {XP : (Str → Option Value) → Heap → Prop} {YP : World → Heap → Prop} {d : DefRec} {x : Str}
    (hn : l.most = some n) (hdf : d.params.defaults = [])
    (hbind : ∀ pm cd doc v : Value, bindArgs (docDef d.name d.params d.body d.scope pm cd doc) ⟨[v], []⟩ = pure [(x, v)])
    (hx : d.scope.names.lookup x = some .local ∨ d.scope.names.lookup x = some .cell)
    (hk : d.scope.kind = .function) (hco : d.scope.isCoroutine = false) (hgen : d.scope.isGenerator = false)
    (body : ∀ (w : World) (s₀ s₁ s : Shared) (mg mb : Str → Option Value) (fa : Addr) (o : Obj) (pm cd doc : Value) (a : Addr) (vs : List Value) (ns : List Int),
      Ground q loose [] XP w s₀ mg mb s₁.heap → YP w s₁.heap →
      s₁.heap.get? fa = some o → o.data = .func (docDef d.name d.params d.body d.scope pm cd doc) → s₁.heap.CodeRec cd d.name → mg d.name = some (.ref fa) →
      s₁.heap.get? a = some { cls := .type "list", data := .seq vs.toArray } → IntsAre vs ns → ns.length ≤ n →
      s.gens = #[] → s.os = s₁.os →
      Fr s₁.heap s₁.heap.objs.size s.heap (bindL (envOfC d.name d.scope s₁.heap.objs.size fa cd).kindOf [(x, .ref a)] fun _ => none) →
      Cl s₁.heap.objs.size (cellsFrom (s₁.heap.objs.size + 1) d.scope.names []) s.heap (bindC (envOfC d.name d.scope s₁.heap.objs.size fa cd).kindOf [(x, .ref a)] fun _ => none) →
      wpAny (model l.prog w) (callerA.deeper (envOfC d.name d.scope s₁.heap.objs.size fa cd)) (execs d.body (envOfC d.name d.scope s₁.heap.objs.size fa cd))
        (fun f s' => f = .ret (.bool true) ∧ (∀ b o, s₁.heap.get? b = some o → s'.heap.get? b = some o) ∧ s'.os = s₁.os ∧ s'.gens = #[]) (fun _ _ => False) s) :
    WalkN q loose XP YP l.row.toRowW d [] (fun f vs => PySem.call f vs) := by
  intro w s₀ s₁ mg mb G Y fa o pm cd doc dV kV ho hd hcd hD hmg hg args vals as hpre hlay hrd hwl hlo
  obtain rfl : dV = .none := Dflts.none hD hdf
  obtain rfl : kV = .none := Dflts.noKw hD
  obtain ⟨a, vs, ns, rfl, rfl, hobj, hints, hlen⟩ := script_of hn hpre hwl
  refine enter_callW ?_
  refine call_cells_ret (o := o) (by rw [depth_caller]; decide) ho (fd_plain hd) G.T.nolimit hcd (hbind pm cd doc (.ref a)) (fun y hy => ?_) (fun h₁ tk F X => ?_) hco hgen hk
  · obtain rfl : y = (x, Value.ref a) := List.mem_singleton.mp hy
    rcases hx with e | e
    · exact .inl e
    · exact .inr ⟨e, cellsFrom_some _ _ _ (.inl e)⟩
  · refine wpAny_mono (body w s₀ s₁ { s₁ with heap := h₁, toks := tk } mg mb fa o pm cd doc a vs ns G Y ho (fd_plain hd) hcd hmg hobj hints hlen hg rfl F X) (fun f s' hq => ?_) (fun _ _ hq => hq)
    obtain ⟨rfl, h2, h3, h4⟩ := hq
    exact ⟨.inl ⟨.bool true, .bool true, [], rfl, fun _ => rfl, .bool true, post_true l _, fun _ => ⟨List.Pairwise.nil, fun _ hm => (nomatch hm)⟩⟩, h2, h3, h4⟩

/-! ### rules over ANY heap (no ledger) from facts about the written part K: the library's own take a ledger (News) for what they write -/
section
variable {prog : Program} {w : World} {A : Around} {E : Value → Shared → Prop} {s : Shared} {K : Frag}

/-- a def of the module, or a method (qual 'C.m'), entered: the frame is the next address; cells behind it -/
theorem call_fn {R : Result → Shared → Prop} {name qual : Str} {params : Arguments} {body : List Stmt} {scope : Scope} {dV kV doc pm cdv ct oc : Value} {an od : Option Addr} {osl : Array (Option Value)} {f : Addr} {args : Args} {binds : List (Str × Value)}
    (X : K.In s.heap) (hlim : s.heap.NoLimit) (ho : K.lookup f = some ⟨oc, od, .func (fnOf name qual params body scope dV kV doc pm an cdv ct), osl⟩) (hcd : codeIn K cdv qual = true) (hroom : A.depth < recursionLimit)
    (hbind : BindsTo s (fnOf name qual params body scope dV kV doc pm an cdv ct) args binds)
    (hkind : (binds.all fun y => scope.names.lookup y.1 == some .local || scope.names.lookup y.1 == some .cell) = true)
    (h : ∀ s₁, InCallC s s.heap.objs.size (bindL (envOfC qual scope s.heap.objs.size f cdv).kindOf binds fun _ => none) (cellsFrom (s.heap.objs.size + 1) scope.names [])
        (bindC (envOfC qual scope s.heap.objs.size f cdv).kindOf binds fun _ => none) s₁ →
      wpAny (model prog w) (A.deeper (envOfC qual scope s.heap.objs.size f cdv)) (execs body (envOfC qual scope s.heap.objs.size f cdv))
        (fun fl s' => R (.ok (.ret (match fl with | .ret v => v | _ => .none))) s')
        (fun e s' => wpAny (model prog w) (A.deeper (envOfC qual scope s.heap.objs.size f cdv)) (leaving (envOfC qual scope s.heap.objs.size f cdv) e) (fun _ s'' => R (.error e) s'') (fun e' s'' => R (.error e') s'') s') s₁)
    (hco : scope.isCoroutine = false) (hgen : scope.isGenerator = false) (hk : scope.kind = .function) : codeAny (model prog w) A (.call (.ref f) args) R s := by
  refine codeAny_call_function hroom (X _ _ ho) rfl hco hgen rfl (codeRec_of X hcd) (hbind _ _ _ _ ?_)
  refine wpAny_newFunctionEnv_cells hk (kindsX hkind _) fun env he s₁ x => ?_
  subst he
  exact ⟨hlim.keeps x.toInCall.keep, codeAny_func (h s₁ x)⟩

/-- C(..): dict at size, instance at size + 1, then __init__ -/
theorem make_obj {R : Result → Shared → Prop} {C fI : Addr} {rest : List Value} {kw : List (Str × Value)}
    (X : K.In s.heap) (hm : makesIn K C = true) (hi : findIn K (.ref C) "__init__" = some (some (.ref fI))) (hf : isFn K (.ref fI) = true)
    (h : codeAny (model prog w) (A.under (.builtin "type.__call__" ⟨.ref C :: rest, kw⟩)) (.call (.ref fI) ⟨.ref (s.heap.objs.size + 1) :: rest, kw⟩) (InitBack (s.heap.objs.size + 1) R)
      { s with heap := (s.heap.push emptyDict).push (instObj C s.heap.objs.size) }) : codeAny (model prog w) A (.call (.ref C) ⟨rest, kw⟩) R s := by
  obtain ⟨hh, g, d, t, os⟩ := s
  exact make_core (makes_of X hm) (looks_findIn X hi) (fun self => bind_fn X self (beq_iff_eq.mp hf)) (.inl rfl) h

/-- x.name where the instance's dict holds the name and the class does not -/
theorem get_field {x C : Addr} {ox : Obj} {es : List DictEntry} {n : Nat} {name : Str} {expr : Bool} {v : Value} {Q : Value → Shared → Prop}
    (X : K.In s.heap) (I : PySem.W.InstAt s.heap x ox C (some (dictOf es n))) (hg : plainGet K C name = true) (hh : hasDictIn K C = true) (ha : findIn K (.ref C) name = some none)
    (hl : getL name es = some (some v)) (hv : handedIn v = true) (h : Q v { s with toks := s.toks + 1 }) : wpAny (model prog w) A (getAttr (.ref x) name expr) Q E s :=
  get_value X I (plainGet_of hg).1 (findObj_own hh ha rfl hl) hv h

/-- x.m(..): the method found in the class -/
theorem get_method {x C f : Addr} {ox : Obj} {es : List DictEntry} {n : Nat} {name : Str} {pl : Sem Bool} {Q : Value × List Value → Shared → Prop}
    (X : K.In s.heap) (I : PySem.W.InstAt s.heap x ox C (some (dictOf es n))) (hg : plainGet K C name = true) (hf : findIn K (.ref C) name = some (some (.ref f))) (ht : isFn K (.ref f) = true)
    (hl : getL name es = some none) (h : Q (.ref f, [.ref x]) s) : wpAny (model prog w) A (getMethod (.ref x) name pl) Q E s :=
  method_fn X I (plainGet_of hg).1 (plainGet_of hg).2 hf (beq_iff_eq.mp ht) (by show (lookIn name (dictOf es n)).map _ = _; rw [lookIn_dict, hl]; rfl) h

/-! the whole heap as the ledger: makes every rule that writes through a ledger a rule over any heap -/
def noObjs (h : Heap) : Heap := { h with objs := #[] }
theorem noObjs_get (h : Heap) (b : Addr) : (noObjs h).get? b = none := by
  cases e : (noObjs h).get? b with
  | none => rfl
  | some o => exact absurd (Heap.lt_size e) (Nat.not_lt_zero _)
def ledger (h : Heap) (L d : Addr) : List (Addr × Obj) := (List.range h.objs.size).filterMap fun a => if a = L ∨ a = d then none else (h.get? a).map fun o => (a, o)
theorem mem_ledger {h : Heap} {L d a : Addr} {o : Obj} : (a, o) ∈ ledger h L d ↔ a ≠ L ∧ a ≠ d ∧ h.get? a = some o := by
  unfold ledger
  rw [List.mem_filterMap]
  constructor
  · rintro ⟨b, _, e⟩
    split at e
    · cases e
    · rename_i hb
      obtain ⟨o', ho, e'⟩ := Option.map_eq_some_iff.mp e
      cases e'
      exact ⟨fun q => hb (.inl q), fun q => hb (.inr q), ho⟩
  · rintro ⟨n1, n2, ho⟩
    refine ⟨a, List.mem_range.mpr (Heap.lt_size ho), ?_⟩
    rw [if_neg (show ¬ (a = L ∨ a = d) from fun q => q.elim n1 n2), ho] <;> rfl
theorem news_ledger {h : Heap} {L d : Addr} {od : Obj} (hne : d ≠ L) (ho : h.get? d = some od) : News (noObjs h) L h ([] ++ (d, od) :: ledger h L d) := by
  rintro ⟨a, o⟩ hp
  rcases List.mem_cons.mp hp with e | hp
  · cases e
    exact ⟨ho, hne, noObjs_get _ _⟩
  · obtain ⟨n1, n2, e⟩ := mem_ledger.mp hp
    exact ⟨e, n1, noObjs_get _ _⟩
theorem fr_all {h : Heap} {L : Addr} {m : Str → Option Value} (n : h.Ns L m) : Fr (noObjs h) L h m :=
  ⟨n, fun b o e => (by rw [noObjs_get] at e; cases e), Nat.zero_le _⟩
/-- Upd of the head entry (for append_K, setItem_K ..) -/
theorem upd_ledger {h : Heap} {L d : Addr} {o o' : Obj} : Upd d o o' ((d, o) :: ledger h L d) ((d, o') :: ledger h L d) :=
  .head fun ⟨_, _⟩ hp => (mem_ledger.mp hp).2.1

/-- x.name = v over any heap: L is any namespace of the heap (the frame's, say): its map stays, its object is not told; all else but the dict stays -/
theorem set_field {x C dx L : Addr} {ox : Obj} {m : Str → Option Value} {es es' : List DictEntry} {n n' : Nat} {name : Str} {v : Value} {Q : Unit → Shared → Prop}
    (X : K.In s.heap) (I : PySem.W.InstAt s.heap x ox C (some (dictOf es n))) (hd : ox.dict = some dx) (hL : s.heap.Ns L m) (hne : dx ≠ L)
    (hs : findIn K (.ref C) "__setattr__" = some (some (.builtin "object.__setattr__"))) (hp : plainOver K C = true) (ht : takerIn K C name = some none) (hh : hasDictIn K C = true) (hl : (getL name es).isSome = true)
    (e : (putL name (PyData.keyHash w.params name) (.str name (s.toks + 1)) v es, putN name es n) = (es', n')) (hz : es'.length ≤ 1000)
    (h : ∀ h' : Heap, h'.Ns L m → h'.get? dx = some (dictOf es' n') → (∀ b o, b ≠ dx → b ≠ L → s.heap.get? b = some o → h'.get? b = some o) → Q () { s with heap := h', toks := s.toks + 2 }) :
    wpAny (model prog w) A (setAttr (.ref x) name v) Q E s := by
  obtain ⟨e1, e2⟩ := Prod.mk.inj e
  have hdx : s.heap.get? dx = some (dictOf es n) := by
    have := I.dict
    rw [hd] at this
    exact this
  refine set_plain X I hs (osa_dict (s := { s with toks := s.toks + 1 }) (h₀ := noObjs s.heap) (L := L) (m := m) (od := dictOf es n) (od' := dictOf es' n') (es := es') (n := n') (pre := []) (post := ledger s.heap L dx)
    (fr_all hL) (news_ledger hne hdx) X I hd hp ht hh hl (fun _ q => nomatch q) (fun ⟨_, _⟩ q => (mem_ledger.mp q).2.1) (by rw [putName_dict, e1, e2]) rfl hz fun h' F' N' => ?_)
  exact h h' F'.ns (N'.get (List.Mem.head _)) fun b o n1 n2 ho => N'.get (List.Mem.tail _ (mem_ledger.mpr ⟨n2, n1, ho⟩))
end
end Att

namespace L2
open PySem PySem.Spec PyProof.Rows

theorem vals_ints : ∀ {vs : List Value} {ns : List Int}, IntsAre vs ns → Vals (ns.map V.int) vs
  | _, _, .nil => .nil
  | _, _, .cons n t h => .cons ⟨t, rfl⟩ (vals_ints h)

/-- nothing is tracked but the script, known to the object (or it is an object of the module) -/
def Only (H : Hp) : Prop := ∀ b, H b = none ∨ ∃ o xs, H b = some (.frz o (.lst xs))

/-- THE HEAD: the law's promise, at the heap behind the top. F, the promise of the law's def, may use that base is part of the heap (so K.In base, base.Ns mainGlobals mg stand in Mod) -/
theorem law_call {P : Program} {w : World} {K : PySem.W.Frag} {mg mb : Str → Option Value} {CX : CXT} {k : Nat} {fa a : Addr} {fd : FuncData} {x : Str} {sp : Sp} {s₁ : Shared} {vs : List Value} {ns : List Int}
    (KX : K.In s₁.heap) (hns : s₁.heap.Ns mainGlobals mg) (hb : s₁.heap.Ns builtinsNs mb) (hbb : ∀ x : Str, x ≠ "__name__" → mb x = bootBuiltins x) (hlim : s₁.heap.NoLimit) (hg : s₁.gens = #[])
    (ha : s₁.heap.get? a = some { cls := .type "list", data := .seq vs.toArray }) (hi : IntsAre vs ns) (hl : ns.length ≤ sizeLine) (hr : Room k callerA)
    (F : ∀ base : Heap, K.In base → base.Ns mainGlobals mg → FnOk P w K mg base CX k fa fd [x] sp) (hbind : ∀ (s : Shared) (u : Value), BindsTo s fd ⟨[u], []⟩ [(x, u)])
    (hsp : ∀ H : Hp, Only H → SqL K H a (ns.map V.int) → sp [.ref a] H (fun v _ => v = .bl true) fun _ _ _ => False)
    (hCX : ∀ H e s', CX [] H s₁ (fun _ _ _ => False) e s' → False) :
    codeAny (model P w) callerA (.call (.ref fa) ⟨[.ref a], []⟩) (fun r s' => r = .ok (.ret (.bool true)) ∧ OldK s₁.heap s'.heap ∧ s'.os = s₁.os ∧ AllBare s'.gens) s₁ := by
  have rv := vals_ints hi
  have lenV := hi.length
  -- from an abstract heap in which nothing but the script may be tracked
  have core : ∀ H : Hp, Only H → SqL K H a (ns.map V.int) → HOk P w H s₁.heap → (∀ b, H b ≠ none → b = a) → (H a ≠ none → K.lookup a = none) →
      codeAny (model P w) callerA (.call (.ref fa) ⟨[.ref a], []⟩) (fun r s' => r = .ok (.ret (.bool true)) ∧ OldK s₁.heap s'.heap ∧ s'.os = s₁.os ∧ AllBare s'.gens) s₁ := by
    intro H hO hS hok hA hK
    have base_of : ∀ {b : Addr} {o : Obj}, s₁.heap.get? b = some o → H b = none → (hidT s₁.heap H).get? b = some o := fun e n => hidT_get e n
    have noA : ∀ {b : Addr} {o : Obj} {es : Array DictEntry} {ep : Nat}, s₁.heap.get? b = some o → o.data = .dict es ep → H b = none := fun {b o es ep} e d => by
      cases q : H b with
      | none => rfl
      | some u =>
        have e' : b = a := hA b (by rw [q]; simp)
        subst e'
        rw [ha] at e; cases e
        have d' : Data.seq vs.toArray _ = Data.dict es ep := d
        cases d'
    have nsK : ∀ {b : Addr} {m : Str → Option Value}, s₁.heap.Ns b m → (hidT s₁.heap H).Ns b m := fun {b m} ⟨o, es, ep, e, d, r⟩ => ⟨o, es, ep, base_of e (noA e d), d, r⟩
    have hKb : K.In (hidT s₁.heap H) := fun b o e => base_of (KX b o e) (by
      cases q : H b with
      | none => rfl
      | some u =>
        have e' : b = a := hA b (by rw [q]; simp)
        subst e'
        rw [hK (by rw [q]; simp)] at e; cases e)
    have hM : Mod K mg (hidT s₁.heap H) := ⟨hKb, nsK hns, ⟨mb, nsK hb, hbb⟩, let ⟨mc, h1, h2⟩ := hlim; ⟨mc, nsK h1, h2⟩⟩
    have e0 : Env0 P w K mg (hidT s₁.heap H) callerA [] s₁ H := ⟨rfl, hM, fun b o e => of_hidT e, Nat.le_of_eq (hidT_size _ _), trivial, fun b hb => absurd (show b ∈ ([] : List Addr) from hb) (by simp), hok, .of_eq hg⟩
    refine codeAny_mono ((F _ hKb (nsK hns)).run callerA [] s₁ H ⟨[.ref a], []⟩ [.ref a] [.ref a] _ _ hr e0 (hbind s₁ (.ref a)) (.cons rfl .nil) (hsp H hO hS)) fun r s' h => ?_
    cases r with
    | error e => exact (hCX H e s' h).elim
    | ok fl =>
      cases fl with
      | next => exact False.elim h
      | brk => exact False.elim h
      | cont => exact False.elim h
      | ret u =>
        obtain ⟨v, H', os, bare, un, hok', r', q⟩ := h
        have q' : v = .bl true := q
        subst q'
        obtain rfl : u = Value.bool true := r'
        refine ⟨rfl, OldK.of_keep fun b o e => ?_, os, bare⟩
        cases q : H b with
        | none => exact un.keep b o e q (by intro z; exact absurd (show b ∈ ([] : List Addr) from z) (by simp)) (by simp)
        | some u =>
          rcases hO b with z | ⟨ob, xs, z⟩
          · rw [q] at z; cases z
          · have z2 := un.frzs b ob _ z
            obtain ⟨e1, _⟩ := hok b _ z
            obtain ⟨e2, _⟩ := hok' b _ z2
            rw [e] at e1; cases e1
            exact e2
  cases hk : K.lookup a with
  | some o =>
    -- the script is one of the module's own objects
    have e := KX a o hk
    rw [ha] at e
    cases e
    refine core (fun _ => none) (fun _ => .inl rfl) (.inr ⟨_, vs.toArray, _, hk, rfl, rfl, rfl, by rw [List.size_toArray, lenV]; exact hl, by simpa using rv⟩) (fun b u z => by have z' : (none : Option HO) = some u := z; cases z') (fun b z => absurd rfl z) fun z => absurd rfl z
  | none =>
    refine core (fun b => if b = a then some (.frz { cls := .type "list", data := .seq vs.toArray } (.lst (ns.map V.int))) else none) (fun b => ?_) (.inl (.inr ⟨{ cls := .type "list", data := .seq vs.toArray }, if_pos rfl⟩)) (fun b u z => ?_) (fun b z => ?_) fun _ => hk
    · by_cases hb : b = a
      · exact .inr ⟨_, _, if_pos hb⟩
      · exact .inl (if_neg hb)
    · by_cases hb : b = a
      · have z' := (if_pos hb).symm.trans z
        cases z'
        subst hb
        exact ⟨ha, by rw [List.length_map]; exact hl, vs, _, rv, ha⟩
      · have z' := (if_neg hb).symm.trans z
        cases z'
    · by_cases hb : b = a
      · exact hb
      · exact absurd (if_neg hb) z
end L2

namespace L2
open PySem PySem.Spec PyProof.Rows

abbrev KOf {K : PySem.W.Frag} {h : Heap} (_ : K.In h) : PySem.W.Frag := K

/-- the goal that k_head leaves (case hc), from the law's promise. F gives the function object fd (K's own) once, then the promise over every base -/
theorem walk_of {l : PySem.W.OpenLaw} {n k : Nat} {q : Program} {loose : List Str} {XP : (Str → Option Value) → Heap → Prop} {YP : World → Heap → Prop} {d : DefRec} {K : Params → PySem.W.Frag} {CX : World → CXT} {sp : World → Sp} {x : Str}
    (hn : l.most = some n) (hn2 : n ≤ sizeLine) (hdf : d.params.defaults = []) (hr : Room k callerA)
    (hY : ∀ (w : World) (h : Heap), YP w h → (K w.params).In h)
    (F : ∀ (w : World) (mg : Str → Option Value) (fa : Addr) (h : Heap), (K w.params).In h → h.Ns mainGlobals mg → mg d.name = some (.ref fa) →
      ∃ fd : FuncData, (∀ (s : Shared) (u : Value), BindsTo s fd ⟨[u], []⟩ [(x, u)]) ∧
        ∀ base : Heap, (K w.params).In base → base.Ns mainGlobals mg → FnOk l.prog w (K w.params) mg base (CX w) k fa fd [x] (sp w))
    (hsp : ∀ (w : World) (H : Hp) (a : Addr) (ns : List Int), ns.length ≤ n → Only H → SqL (K w.params) H a (ns.map V.int) → sp w [.ref a] H (fun v _ => v = .bl true) fun _ _ _ => False)
    (hCX : ∀ (w : World) (H : Hp) (s : Shared) (e : Value) (s' : Shared), CX w [] H s (fun _ _ _ => False) e s' → False) :
    PySem.W.WalkO q loose XP YP l.row.toRowW d [] (fun f vs => PySem.call f vs) := by
  refine Att.attach_call hn hdf fun w s₀ s₁ mg mb fa o pm cd doc a vs ns G Y ho hd hcd hmg hobj hints hlen hg => ?_
  have KX := hY w _ Y
  obtain ⟨fd, hb, hF⟩ := F w mg fa _ KX G.T.g hmg
  exact law_call KX G.T.g G.T.b G.T.builtins G.T.nolimit hg hobj hints (Nat.le_trans hlen hn2) hr hF hb (fun H hO hS => hsp w H a ns hlen hO hS) fun H e s' => hCX w H s₁ e s'
/-- the same where the promise hangs on the written part alone: (sp := My.sp_law), no hole under a binder -/
theorem walk_ofK {l : PySem.W.OpenLaw} {n k : Nat} {q : Program} {loose : List Str} {XP : (Str → Option Value) → Heap → Prop} {YP : World → Heap → Prop} {d : DefRec} {K : Params → PySem.W.Frag} {CX : CXT} {sp : PySem.W.Frag → Sp} {x : Str}
    (hn : l.most = some n) (hn2 : n ≤ sizeLine) (hdf : d.params.defaults = []) (hr : Room k callerA)
    (hY : ∀ (w : World) (h : Heap), YP w h → (K w.params).In h)
    (F : ∀ (w : World) (mg : Str → Option Value) (fa : Addr) (h : Heap), (K w.params).In h → h.Ns mainGlobals mg → mg d.name = some (.ref fa) →
      ∃ fd : FuncData, (∀ (s : Shared) (u : Value), BindsTo s fd ⟨[u], []⟩ [(x, u)]) ∧
        ∀ base : Heap, (K w.params).In base → base.Ns mainGlobals mg → FnOk l.prog w (K w.params) mg base CX k fa fd [x] (sp (K w.params)))
    (hsp : ∀ (K : PySem.W.Frag) (H : Hp) (a : Addr) (ns : List Int), ns.length ≤ n → Only H → SqL K H a (ns.map V.int) → sp K [.ref a] H (fun v _ => v = .bl true) fun _ _ _ => False)
    (hCX : ∀ (H : Hp) (s : Shared) (e : Value) (s' : Shared), CX [] H s (fun _ _ _ => False) e s' → False) :
    PySem.W.WalkO q loose XP YP l.row.toRowW d [] (fun f vs => PySem.call f vs) :=
  walk_of (K := K) (CX := fun _ => CX) (sp := fun w => sp (K w.params)) hn hn2 hdf hr hY F (fun w H a ns h1 h2 h3 => hsp (K w.params) H a ns h1 h2 h3) fun _ H s e s' => hCX H s e s'
end L2

/- THE LAST THEOREM (shape; LID, My.* are yours):
   My.Adr: a structure of the addresses that your layer names (classes, functions); My.Txt K t: a structure (Prop) of the equations over K;
   My.txt_mk : {K} {implicit addresses ..} (e1 : nsIn K mainGlobals "law" = some (some (.ref f))) (e2 : K.lookup f = some ⟨oc, od, .func (fnOf "law" "law" params body scope dV kV doc pm an cdv ct), sl⟩) (e3 : codeIn K cdv "law" = true) .. : ∃ t, My.Txt K t

set_option maxRecDepth 100000 in
set_option maxHeartbeats 0 in
theorem PySem.Challenge.cw_LID_holds : PySem.Challenge.rw_LID.Holds := by
  w_on; o_law; k_head; (case hw => w_witness2)
  k_fill
  refine L2.walk_of (l := PySem.Challenge.rw_LID) (n := 63) (k := 40) (x := "script") (CX := fun w => ..) (sp := fun _ => My.sp_law) rfl (by decide) rfl ⟨rfl, by decide, by decide⟩ (fun w h Y => PySem.W.kIn_of Y) ?F ?S ?C
  case F =>
    intro w mg fa h KX G hmg
    have T : ∃ t, My.Txt (L2.KOf KX) t := by
      dsimp only [L2.KOf]                          -- K must stand as «<heap const> w.params» for k_is
      refine' My.txt_mk ?e1 ?e2 ?e3 ..
      (case e1 => PySem.W.k_is)                    -- in the order: a name -> its address -> its object -> its parts
      (case e2 => PySem.W.k_is)
      ..
    obtain ⟨t, T⟩ := T
    have e0 := hmg.symm.trans (PySem.W.mg_of KX G T.law)
    cases e0                                       -- fa is the law's own address
    exact ⟨_, fun s u => .of_eq rfl, fun base kb nb => My.law_fn T kb nb⟩     -- if «.of_eq rfl» comes too early: refine' ⟨_, ?b, fun base kb nb => My.law_fn T kb nb⟩; exact fun s u => .of_eq rfl
  case S => exact fun w H a ns hl hO hS => ..
  case C => exact ..
(the tactic k_is has no namespace: write k_is) -/

/-! SHORT WORDS over the layer: a def of the text, its body, what a loop and a test want. -/
namespace L2
open PySem PySem.Spec PyProof.Rows

/-! ### the text by places -/
/-- the j-th statement of a class's body -/
def inClass (s : Stmt) (j : Nat) : Stmt := match s with
  | .ClassDef _ _ _ body _ _ _ _ _ _ _ => body.getD j (.Pass ⟨0, 0, 0, 0⟩)
  | _ => .Pass ⟨0, 0, 0, 0⟩
def defArgs (s : Stmt) : Arguments := match s with
  | .FunctionDef _ a _ _ _ _ _ _ _ _ => a
  | _ => { posonlyargs := [], args := [], vararg := none, kwonlyargs := [], kw_defaults := [], kwarg := none, defaults := [] }
def defBody (s : Stmt) : List Stmt := match s with
  | .FunctionDef _ _ b _ _ _ _ _ _ _ => b
  | _ => []
def defScope (s : Stmt) : Scope := match s with
  | .FunctionDef _ _ _ _ _ _ sc _ _ _ => sc
  | _ => { kind := .function, names := [], isGenerator := false, isCoroutine := false }

/-! ### no exception leaves a def -/
abbrev CX0 : CXT := fun _ _ _ _ _ _ => False
abbrev E0 : XK := fun _ _ _ => False
theorem pass0 {X : Cx} : Passes CX0 X E0 := fun _ _ _ _ _ _ _ h => h.elim

/-! ### a def (or method) of the text as it stands behind the top -/
structure Fun (K : PySem.W.Frag) (x qual : Str) (st : Stmt) (f : Addr) (fd : FuncData) : Prop where
  ex : ∃ (oc : Value) (od : Option Addr) (kV doc pm : Value) (an : Option Addr) (cdv ct : Value) (osl : Array (Option Value)),
    fd = PySem.W.fnOf x qual (defArgs st) (defBody st) (defScope st) .none kV doc pm an cdv ct ∧ K.lookup f = some ⟨oc, od, .func fd, osl⟩ ∧ PySem.W.codeIn K cdv qual = true
  kp : PySem.W.keepIn K (.ref f) = true
section
variable {P : Program} {w : World} {K : PySem.W.Frag} {mg : Str → Option Value} {base : Heap}
/-- THE RULE for a def: its body as a term of rules, and the reading of that term -/
theorem Fun.ok {x qual : Str} {st : Stmt} {f : Addr} {fd : FuncData} {N ps : List Str} {k : Nat} {sp : Sp} (F : Fun K x qual st f fd) (S : FnScope N ps (defScope st)) (len : ∀ vs H Q E, sp vs H Q E → vs.length = ps.length)
    (hbody : ∀ (cdv : Value) (A : Around) (outer : List Env) (s : Shared) (H : Hp) (vs : List V) (Q : VK) (E : XK), Room k (A.deeper (envOfC qual (defScope st) s.heap.objs.size f cdv)) → sp vs H Q E →
      ∃ t, PSs (cxOf CX0 P w K mg base N qual (defScope st) f cdv A outer s H E).nox (defBody st) t ∧ t { nx := fun _ H' => Q .non H', rt := Q } (start N vs) H) : FnOk P w K mg base CX0 (k + 1) f fd ps sp := by
  obtain ⟨oc, od, kV, doc, pm, an, cdv, ct, osl, rfl, lk, hcd⟩ := F.ex
  refine fn_of lk hcd S len fun A outer s H vs Q E hr hsp => ?_
  obtain ⟨t, h, q⟩ := hbody cdv A outer s H vs Q E hr hsp
  exact ⟨t, h.nox, q⟩
/-- how its arguments bind (no defaults): h is «fun _ _ _ _ _ _ us hl => match us, hl with | [_, _], _ => rfl», one _ a parameter -/
theorem Fun.binds {x qual : Str} {st : Stmt} {f : Addr} {fd : FuncData} {ps : List Str} (F : Fun K x qual st f fd)
    (h : ∀ (kV doc pm : Value) (an : Option Addr) (cdv ct : Value) (us : List Value), us.length = ps.length → bindArgs (PySem.W.fnOf x qual (defArgs st) (defBody st) (defScope st) .none kV doc pm an cdv ct) ⟨us, []⟩ = pure (ps.zip us)) : Binds K fd ps [] := by
  obtain ⟨oc, od, kV, doc, pm, an, cdv, ct, osl, rfl, lk, hcd⟩ := F.ex
  exact .all (h kV doc pm an cdv ct)
theorem fun_mk {x qual : Str} {st : Stmt} {f : Addr} {oc : Value} {od an : Option Addr} {osl : Array (Option Value)} {kV doc pm cdv ct : Value} (l : K.lookup f = some ⟨oc, od, .func (PySem.W.fnOf x qual (defArgs st) (defBody st) (defScope st) .none kV doc pm an cdv ct), osl⟩)
    (c : PySem.W.codeIn K cdv qual = true) (k : PySem.W.keepIn K (.ref f) = true) : Fun K x qual st f (PySem.W.fnOf x qual (defArgs st) (defBody st) (defScope st) .none kV doc pm an cdv ct) := ⟨⟨oc, od, kV, doc, pm, an, cdv, ct, osl, rfl, l, c⟩, k⟩
end
theorem hu_of {A : Around} {k : Nat} (hr : Room k A) : A.units + 1 < cLine := Nat.lt_of_le_of_lt (Nat.add_le_add_left (by decide : 1 ≤ 64) _) hr.units
theorem small1000 {n : Nat} (h : n ≤ 1000) : n < sizeLine := Nat.lt_of_le_of_lt h (by decide)

/-! ### expressions in short: the name that stands in the i-th slot -/
section
variable {X : Cx}
theorem pv (i : Nat) {x : Str} {pos : Pos} (hN : X.N[i]? = some x := by rfl) (hv : Vis X.env.scope x := by first | exact Or.inl rfl | exact Or.inr (Or.inl rfl) | exact Or.inr (Or.inr rfl)) (hd : (x == ("__debug__" : Str)) = false := by decide)
    (hcd : (x == ("__classdict__" : Str)) = false := by decide) : PE X (.Name x pos) (tVar i) := pe_var hN hv hd hcd
end

/-! ### tests -/
theorem iteF {A B : Prop} (h : B) : if false = true then A else B := by
  rw [if_neg Bool.false_ne_true]
  exact h
theorem iteT {A B : Prop} (h : A) : if true = true then A else B := by
  rw [if_pos rfl]
  exact h
theorem ite2 {c A B : Prop} [Decidable c] (h1 : c → A) (h2 : ¬ c → B) : if c then A else B := by
  by_cases h : c
  · rw [if_pos h]
    exact h1 h
  · rw [if_neg h]
    exact h2 h
theorem iteNS {c A B : Prop} [Decidable c] (hc : c) (h : B) : if (!decide c) = true then A else B := by
  rw [decide_eq_true hc]
  exact iteF h

/-! ### heaps -/
/-- all that was tracked is as it was -/
def Same (H H' : Hp) : Prop := ∀ b o, H b = some o → H' b = some o
theorem Same.refl (H : Hp) : Same H H := fun _ _ h => h
theorem Same.trans {H H1 H2 : Hp} (a : Same H H1) (b : Same H1 H2) : Same H H2 := fun c o h => b c o (a c o h)
theorem Same.free {H H' : Hp} (e : Same H H') {l : Addr} (h : H' l = Option.none) : H l = Option.none := by
  cases q : H l with
  | none => rfl
  | some o =>
    rw [e l o q] at h
    cases h
theorem Same.seq {K : PySem.W.Frag} {H H' : Hp} {a : Addr} {xs : List V} (e : Same H H') (h : SqL K H a xs) : SqL K H' a xs := by
  rcases h with (h | ⟨o, h⟩) | h
  · exact .inl (.inl (e _ _ h))
  · exact .inl (.inr ⟨o, e _ _ h⟩)
  · exact .inr h

end L2

namespace L2
open PySem PySem.Spec PyProof.Rows

/-! ### lists of pairs as tables -/
section
variable {κ : Type} [DecidableEq κ]
def valV (kvs : List (κ × V)) (k : κ) : Option V := (kvs.find? fun kv => decide (kv.1 = k)).map (·.2)
/-- in its place, or at the end -/
def putK (kvs : List (κ × V)) (k : κ) (v : V) : List (κ × V) :=
  if (kvs.any fun kv => decide (kv.1 = k)) = true then kvs.map (fun kv => if kv.1 = k then (kv.1, v) else kv) else kvs ++ [(k, v)]
def dropK (kvs : List (κ × V)) (k : κ) : List (κ × V) := kvs.filter fun kv => decide (kv.1 ≠ k)

theorem valV_nil {k : κ} : valV ([] : List (κ × V)) k = none := rfl
theorem valV_pos {p : κ × V} {r : List (κ × V)} {k : κ} (e : p.1 = k) : valV (p :: r) k = some p.2 := by simp [valV, List.find?_cons, e]
theorem valV_neg {p : κ × V} {r : List (κ × V)} {k : κ} (e : ¬ p.1 = k) : valV (p :: r) k = valV r k := by simp [valV, List.find?_cons, e]
theorem valV_any (k : κ) : ∀ kvs : List (κ × V), (kvs.any fun kv => decide (kv.1 = k)) = (valV kvs k).isSome
  | [] => rfl
  | p :: r => by
    rw [List.any_cons]
    by_cases e : p.1 = k
    · simp only [valV_pos e, decide_eq_true e, Bool.true_or, Option.isSome_some]
    · rw [valV_neg e, decide_eq_false e, Bool.false_or]; exact valV_any k r
theorem valV_map (k j : κ) (y : V) : ∀ kvs : List (κ × V), valV (kvs.map fun kv => if kv.1 = k then (kv.1, y) else kv) j = (valV kvs j).map fun x => if j = k then y else x
  | [] => rfl
  | p :: r => by
    have ih := valV_map k j y r
    rw [List.map_cons]
    by_cases h : p.1 = k
    · rw [if_pos h]
      by_cases e : p.1 = j
      · rw [valV_pos (p := (p.1, y)) e, valV_pos e, Option.map_some, if_pos (e.symm.trans h)]
      · rw [valV_neg (p := (p.1, y)) e, valV_neg e, ih]
    · rw [if_neg h]
      by_cases e : p.1 = j
      · rw [valV_pos (p := p) e, valV_pos e, Option.map_some, if_neg (fun z => h (e.trans z))]
      · rw [valV_neg (p := p) e, valV_neg e, ih]
theorem valV_snoc (k j : κ) (y : V) : ∀ kvs : List (κ × V), valV kvs k = none → valV (kvs ++ [(k, y)]) j = if j = k then some y else valV kvs j
  | [], _ => by
    by_cases e : k = j
    · rw [if_pos e.symm]; exact valV_pos (p := (k, y)) e
    · rw [if_neg (fun z => e z.symm)]; exact valV_neg (p := (k, y)) e
  | p :: r, hn => by
    rw [List.cons_append]
    have hk : ¬ p.1 = k := fun z => by rw [valV_pos z] at hn; cases hn
    rw [valV_neg hk] at hn
    have ih := valV_snoc k j y r hn
    by_cases e : p.1 = j
    · rw [valV_pos e, valV_pos e, if_neg (fun z => hk (e.trans z))]
    · rw [valV_neg e, valV_neg e, ih]
theorem valV_put (kvs : List (κ × V)) (k j : κ) (y : V) : valV (putK kvs k y) j = if j = k then some y else valV kvs j := by
  unfold putK
  by_cases a : (kvs.any fun kv => decide (kv.1 = k)) = true
  · rw [if_pos a, valV_map]
    rw [valV_any] at a
    by_cases e : j = k
    · obtain ⟨x, hx⟩ := Option.isSome_iff_exists.mp a
      rw [if_pos e, e, hx, Option.map_some, if_pos rfl]
    · rw [if_neg e]
      cases valV kvs j with
      | none => rfl
      | some x => rw [Option.map_some, if_neg e]
  · rw [if_neg a]
    refine valV_snoc k j y kvs ?_
    rw [valV_any] at a
    cases q : valV kvs k with
    | none => rfl
    | some x => rw [q] at a; exact (a rfl).elim
theorem length_putK (kvs : List (κ × V)) (k : κ) (v : V) : (putK kvs k v).length ≤ kvs.length + 1 := by
  unfold putK
  split
  · rw [List.length_map]; omega
  · rw [List.length_append, List.length_cons, List.length_nil]; omega
theorem putK_new {kvs : List (κ × V)} {k : κ} (v : V) (h : valV kvs k = none) : putK kvs k v = kvs ++ [(k, v)] := by
  unfold putK
  rw [valV_any, h]
  exact if_neg (by decide)

theorem RelO.isSome_eq {o : Option V} {u : Option Value} (r : RelO o u) : o.isSome = u.isSome := by
  cases o with
  | none => cases u with
    | none => rfl
    | some _ => exact (show False from r).elim
  | some _ => cases u with
    | none => exact (show False from r).elim
    | some _ => rfl
theorem RelO.getD {o : Option V} {u : Option Value} {d : V} {d' : Value} (r : RelO o u) (rd : RelV d d') : RelV (o.getD d) (u.getD d') := by
  cases o with
  | none => cases u with
    | none => exact rd
    | some _ => exact (show False from r).elim
  | some _ => cases u with
    | none => exact (show False from r).elim
    | some _ => exact r

/-- raw tables of the same keys -/
theorem KV.val {kvs : List (κ × V)} {vs : List (κ × Value)} (r : KV kvs vs) (k : κ) : RelO (valV kvs k) (valueAt vs k) := by
  unfold KV at r
  induction r with
  | nil => exact True.intro
  | @cons p q ps qs h t ih =>
    obtain ⟨h1, h2⟩ := h
    by_cases e : p.1 = k
    · have e' : q.1 = k := h1.symm.trans e
      have b : valueAt (q :: qs) k = some q.2 := by simp [valueAt, List.find?_cons, e']
      rw [valV_pos e, b]; exact h2
    · have e' : ¬ q.1 = k := fun z => e (h1.trans z)
      have b : valueAt (q :: qs) k = valueAt qs k := by simp [valueAt, List.find?_cons, e']
      rw [valV_neg e, b]; exact ih
theorem KV.any {kvs : List (κ × V)} {vs : List (κ × Value)} (r : KV kvs vs) (k : κ) : (kvs.any fun kv => decide (kv.1 = k)) = vs.any fun kv => decide (kv.1 = k) := by
  unfold KV at r
  induction r with
  | nil => rfl
  | cons h t ih => rw [List.any_cons, List.any_cons, ih, h.1]
theorem KV.repl {kvs : List (κ × V)} {vs : List (κ × Value)} (r : KV kvs vs) (k : κ) {y : V} {u : Value} (ry : RelV y u) :
    KV (kvs.map fun kv => if kv.1 = k then (kv.1, y) else kv) (vs.map fun kv => if kv.1 = k then (kv.1, u) else kv) := by
  unfold KV at r ⊢
  induction r with
  | nil => exact .nil
  | @cons p q ps qs h t ih =>
    rw [List.map_cons, List.map_cons]
    refine .cons ?_ ih
    obtain ⟨h1, h2⟩ := h
    by_cases e : p.1 = k
    · rw [if_pos e, if_pos (h1.symm.trans e)]; exact ⟨h1, ry⟩
    · rw [if_neg e, if_neg (fun z => e (h1.trans z))]; exact ⟨h1, h2⟩
theorem KV.put {kvs : List (κ × V)} {vs : List (κ × Value)} (r : KV kvs vs) (k : κ) {y : V} {u : Value} (ry : RelV y u) : KV (putK kvs k y) (stored vs k u) := by
  unfold putK stored
  rw [r.any k]
  by_cases e : (vs.any fun kv => decide (kv.1 = k)) = true
  · rw [if_pos e, if_pos e]; exact r.repl k ry
  · rw [if_neg e, if_neg e]; exact Paired.snoc r ⟨rfl, ry⟩
theorem KV.drop {kvs : List (κ × V)} {vs : List (κ × Value)} (r : KV kvs vs) (k : κ) : KV (dropK kvs k) (without vs k) := by
  unfold KV at r ⊢
  unfold dropK without
  induction r with
  | nil => exact .nil
  | @cons p q ps qs h t ih =>
    obtain ⟨h1, h2⟩ := h
    rw [List.filter_cons, List.filter_cons]
    by_cases e : p.1 = k
    · have a : ¬ decide (p.1 ≠ k) = true := by simp [e]
      have b : ¬ decide (q.1 ≠ k) = true := by simp [h1.symm.trans e]
      rw [if_neg a, if_neg b]; exact ih
    · have e' : ¬ q.1 = k := fun z => e (h1.trans z)
      have a : decide (p.1 ≠ k) = true := by simp [e]
      have b : decide (q.1 ≠ k) = true := by simp [e']
      rw [if_pos a, if_pos b]; exact .cons ⟨h1, h2⟩ ih
theorem KV.keys {kvs : List (κ × V)} {vs : List (κ × Value)} (r : KV kvs vs) : kvs.map (·.1) = vs.map (·.1) := by
  unfold KV at r
  induction r with
  | nil => rfl
  | cons h t ih => rw [List.map_cons, List.map_cons, ih, h.1]
theorem KV.length {kvs : List (κ × V)} {vs : List (κ × Value)} (r : KV kvs vs) : kvs.length = vs.length := Paired.length r
theorem dropK_le (kvs : List (κ × V)) (k : κ) : (dropK kvs k).length ≤ kvs.length := List.length_filter_le _ _
end


/-! ### a tracked dict, its keys ints and texts or tuples of these -/
theorem kV_is {P : Program} {w : World} {k : Key} {u : Value} (r : RelV (kV k) u) : (mixKind P w).is k u = true := by
  cases k with
  | inl i => obtain ⟨t, e⟩ := (show ∃ t, u = Value.int i t from r); subst e; exact mixKind_int P w i t
  | inr x => obtain ⟨t, e⟩ := (show ∃ t, u = Value.str x t from r); subst e; exact mixKind_str P w x t
theorem kV_inj {a b : Key} (e : kV a = kV b) : a = b := by
  cases a with
  | inl i => cases b with
    | inl j => have e' : V.int i = V.int j := e; injection e' with e'; rw [e']
    | inr y => exact nomatch (show V.int i = V.str y from e)
  | inr x => cases b with
    | inl j => exact nomatch (show V.str x = V.int j from e)
    | inr y => have e' : V.str x = V.str y := e; injection e' with e'; rw [e']
theorem kVs_inj : ∀ {a b : List Key}, a.map kV = b.map kV → a = b
  | [], [], _ => rfl
  | [], _ :: _, e => by simp at e
  | _ :: _, [], e => by simp at e
  | x :: xs, y :: ys, e => by
    rw [List.map_cons, List.map_cons] at e
    injection e with e1 e2
    rw [kV_inj e1, kVs_inj e2]
theorem items_are {P : Program} {w : World} : ∀ {ks : List Key} {us : List Value}, Vals (ks.map kV) us → ItemsAre (mixKind P w) ks us
  | [], _, r => by rw [List.map_nil] at r; cases r; exact .nil
  | k :: ks, _, r => by
    rw [List.map_cons] at r
    cases r with
    | cons h t => exact .cons (kV_is h) (items_are t)

/-- raw entries of a dict with tuple keys -/
abbrev KT (H : Hp) : List (List Key × V) → List (List Key × Addr × Value) → Prop := Paired fun p q => p.1 = q.1 ∧ H q.2.1 = some (.tup (p.1.map kV)) ∧ RelV p.2 q.2.2
theorem KT.val {H : Hp} {kvs : List (List Key × V)} {xs : List (List Key × Addr × Value)} (r : KT H kvs xs) (k : List Key) : RelO (valV kvs k) ((atKey xs k).map (·.2)) := by
  induction r with
  | nil => exact True.intro
  | @cons p q ps qs h t ih =>
    obtain ⟨h1, _, h2⟩ := h
    by_cases e : p.1 = k
    · have e' : q.1 = k := h1.symm.trans e
      have b : atKey (q :: qs) k = some q.2 := by simp [atKey, List.find?_cons, e']
      rw [valV_pos e, b]; exact h2
    · have e' : ¬ q.1 = k := fun z => e (h1.trans z)
      have b : atKey (q :: qs) k = atKey qs k := by simp [atKey, List.find?_cons, e']
      rw [valV_neg e, b]; exact ih
theorem KT.repl {H : Hp} {kvs : List (List Key × V)} {xs : List (List Key × Addr × Value)} (r : KT H kvs xs) (k : List Key) {y : V} {u : Value} (ry : RelV y u) :
    KT H (kvs.map fun kv => if kv.1 = k then (kv.1, y) else kv) (xs.map (putAt k u)) := by
  induction r with
  | nil => exact .nil
  | @cons p q ps qs h t ih =>
    rw [List.map_cons, List.map_cons]
    refine .cons ?_ ih
    obtain ⟨h1, h2, h3⟩ := h
    unfold putAt
    by_cases e : p.1 = k
    · rw [if_pos e, if_pos (h1.symm.trans e)]; exact ⟨h1, h2, ry⟩
    · rw [if_neg e, if_neg (fun z => e (h1.trans z))]; exact ⟨h1, h2, h3⟩
theorem KT.put {H : Hp} {kvs : List (List Key × V)} {xs : List (List Key × Addr × Value)} (r : KT H kvs xs) (k : List Key) {b : Addr} {y : V} {u : Value} (hb : H b = some (.tup (k.map kV))) (ry : RelV y u) :
    KT H (putK kvs k y) (storedH xs k b u) := by
  have e : (kvs.any fun kv => decide (kv.1 = k)) = (atKey xs k).isSome := by
    rw [valV_any, (r.val k).isSome_eq, Option.isSome_map]
  unfold putK storedH
  rw [e]
  by_cases q : (atKey xs k).isSome = true
  · rw [if_pos q, if_pos q]; exact r.repl k ry
  · rw [if_neg q, if_neg q]; exact Paired.snoc r ⟨rfl, hb, ry⟩
theorem KT.keeps {H H' : Hp} {kvs : List (List Key × V)} {xs : List (List Key × Addr × Value)} (r : KT H kvs xs) (ht : ∀ b ys, H b = some (.tup ys) → H' b = some (.tup ys)) : KT H' kvs xs :=
  Paired.mapP r fun _ _ z => ⟨z.1, ht _ _ z.2.1, z.2.2⟩

section
variable {P : Program} {w : World} {H : Hp} {h : Heap} {a : Addr}
theorem rd_of {u : HO} (ok : HOk P w H h) (e : Rd H a u) : ObjOk P w H h a u := e.ok ok
theorem dk_rd {kvs : List (Key × V)} (ok : HOk P w H h) (e : Rd H a (.dK kvs)) : kvs.length ≤ sizeLine ∧ (a == sysModules) = false ∧ ∃ vs, KV kvs vs ∧ h.DictOf (mixKind P w) a vs :=
  show ObjOk P w H h a (.dK kvs) from rd_of ok e
theorem dk_of {kvs : List (Key × V)} (ok : HOk P w H h) (e : H a = some (.dK kvs)) : kvs.length ≤ sizeLine ∧ (a == sysModules) = false ∧ ∃ vs, KV kvs vs ∧ h.DictOf (mixKind P w) a vs := dk_rd ok (.inl e)
/-- a tracked tuple of ints and texts is a key -/
theorem key_of {ks : List Key} (ok : HOk P w H h) (e : H a = some (.tup (ks.map kV))) : (tupleKind (mixKind P w)).is h ks a := by
  obtain ⟨_, its, r, o, h1, h2, n, h3⟩ := (show ObjOk P w H h a (.tup (ks.map kV)) from ok a _ e)
  exact ⟨o, its.toArray, n, h1, h2, h3, by simpa using items_are r⟩
theorem dt_rd {kvs : List (List Key × V)} (ok : HOk P w H h) (e : Rd H a (.dT kvs)) : kvs.length ≤ sizeLine ∧ (a == sysModules) = false ∧
    ∃ xs, KT H kvs xs ∧ h.DictOfH (tupleKind (mixKind P w)) a xs := by
  obtain ⟨z, y, xs, r, o, es, ep, h1, h2, h3, h4, h5⟩ := (show ObjOk P w H h a (.dT kvs) from rd_of ok e)
  refine ⟨z, y, xs, r, o, es, ep, h1, h2, h3, h4, fun x hx => ?_, h5⟩
  have all : ∀ {l : List (List Key × V)} {m : List (List Key × Addr × Value)}, KT H l m → ∀ x ∈ m, (tupleKind (mixKind P w)).is h x.1 x.2.1 := by
    intro l m q
    induction q with
    | nil => intro x hx; exact nomatch hx
    | @cons p q ps qs hq t ih =>
      intro x hx
      rcases List.mem_cons.mp hx with e | hx
      · subst e
        exact key_of ok (by rw [← hq.1]; exact hq.2.1)
      · exact ih x hx
  exact all r x hx
theorem dt_of {kvs : List (List Key × V)} (ok : HOk P w H h) (e : H a = some (.dT kvs)) : kvs.length ≤ sizeLine ∧ (a == sysModules) = false ∧
    ∃ xs, KT H kvs xs ∧ h.DictOfH (tupleKind (mixKind P w)) a xs := dt_rd ok (.inl e)
end

/-- what the dict at a holds at the key y -/
def DGet (H : Hp) (a : Addr) (y : V) (r : Option V) : Prop :=
  (∃ kvs k, Rd H a (.dK kvs) ∧ y = kV k ∧ r = valV kvs k) ∨ ∃ kvs k b, Rd H a (.dT kvs) ∧ y = .ref b ∧ H b = some (.tup (k.map kV)) ∧ r = valV kvs k
/-- the heap behind a[y] = v -/
def DPut (H : Hp) (a : Addr) (y v : V) (H' : Hp) : Prop :=
  (∃ kvs k, H a = some (.dK kvs) ∧ y = kV k ∧ kvs.length < sizeLine ∧ H' = upd H a (.dK (putK kvs k v))) ∨
  ∃ kvs k b, H a = some (.dT kvs) ∧ y = .ref b ∧ H b = some (.tup (k.map kV)) ∧ kvs.length < sizeLine ∧ H' = upd H a (.dT (putK kvs k v))
theorem DGet.k {H : Hp} {a : Addr} {kvs : List (Key × V)} {k : Key} (e : H a = some (.dK kvs)) : DGet H a (kV k) (valV kvs k) := .inl ⟨kvs, k, .inl e, rfl, rfl⟩
theorem DGet.t {H : Hp} {a b : Addr} {kvs : List (List Key × V)} {k : List Key} (e : H a = some (.dT kvs)) (eb : H b = some (.tup (k.map kV))) : DGet H a (.ref b) (valV kvs k) := .inr ⟨kvs, k, b, .inl e, rfl, eb, rfl⟩
theorem DPut.k {H : Hp} {a : Addr} {kvs : List (Key × V)} {k : Key} {v : V} (e : H a = some (.dK kvs)) (hl : kvs.length < sizeLine) : DPut H a (kV k) v (upd H a (.dK (putK kvs k v))) := .inl ⟨kvs, k, e, rfl, hl, rfl⟩
theorem DPut.t {H : Hp} {a b : Addr} {kvs : List (List Key × V)} {k : List Key} {v : V} (e : H a = some (.dT kvs)) (eb : H b = some (.tup (k.map kV))) (hl : kvs.length < sizeLine) :
    DPut H a (.ref b) v (upd H a (.dT (putK kvs k v))) := .inr ⟨kvs, k, b, e, rfl, eb, hl, rfl⟩


section
variable {X : Cx} {pins : List (Addr × Obj)} {σ : St} {H : Hp} {s : Shared} {a : Addr} {y v : V} {u r : Value} {o : Option V} {A : Around} {E : Value → Shared → Prop}

theorem Inv.big (I : Inv X pins σ H s) : sysModules < s.heap.objs.size := by
  have h : mainGlobals < s.heap.objs.size := (I.mod.glob.keeps I.bk).lt
  exact Nat.lt_trans (by decide) h

/-- d[y], there -/
theorem d_getItem {Q : Value → Shared → Prop} (hu : A.units + 1 < cLine) (I : Inv X pins σ H s) (g : DGet H a y (some v)) (ry : RelV y u) (h : ∀ w' s', Inv X pins σ H s' → RelV v w' → Q w' s') :
    wpAny (model X.prog X.w) A (getItem (.ref a) u) Q E s := by
  rcases g with ⟨kvs, k, e, ey, l⟩ | ⟨kvs, k, b, e, ey, eb, l⟩
  · subst ey
    obtain ⟨z, hd, vs, rel, dd⟩ := dk_rd I.hok e
    obtain ⟨w', hw, rw'⟩ := RelO.some_of (v := v) (o := valueAt vs k) (by rw [l]; exact rel.val k)
    exact wpAny_getItem_of (kV_is ry) dd.mapOf hw (h w' _ (I.tok _) rw')
  · subst ey
    cases (show u = Value.ref b from ry)
    obtain ⟨z, hd, xs, rel, dd⟩ := dt_rd I.hok e
    obtain ⟨w', hw, rw'⟩ := RelO.some_of (v := v) (o := (atKey xs k).map (·.2)) (by rw [l]; exact rel.val k)
    obtain ⟨p, hp, hp2⟩ := Option.map_eq_some_iff.mp hw
    refine wpAny_getItem_heap (tupleKind_room_in1 hu) (key_of I.hok eb) dd hp ?_
    rw [hp2]
    exact h w' _ (I.tok _) rw'
/-- y in d -/
theorem d_in {Q : Value → Shared → Prop} (hu : A.units + 1 < cLine) (I : Inv X pins σ H s) (g : DGet H a y o) (ry : RelV y u) (h : ∀ s', Inv X pins σ H s' → Q (.bool o.isSome) s') :
    wpAny (model X.prog X.w) A (compareOp .In u (.ref a)) Q E s := by
  rcases g with ⟨kvs, k, e, ey, l⟩ | ⟨kvs, k, b, e, ey, eb, l⟩
  · subst ey
    obtain ⟨z, hd, vs, rel, dd⟩ := dk_rd I.hok e
    refine wpAny_in_of (kV_is ry) hd dd.mapOf ?_
    rw [← (rel.val k).isSome_eq, ← l]
    exact h _ (I.tok _)
  · subst ey
    cases (show u = Value.ref b from ry)
    obtain ⟨z, hd, xs, rel, dd⟩ := dt_rd I.hok e
    refine wpAny_in_heap (tupleKind_room_in1 hu) (key_of I.hok eb) hd dd ?_
    have q := (rel.val k).isSome_eq
    rw [Option.isSome_map] at q
    rw [← q, ← l]
    exact h _ (I.tok _)
theorem d_notIn {Q : Value → Shared → Prop} (hu : A.units + 1 < cLine) (I : Inv X pins σ H s) (g : DGet H a y o) (ry : RelV y u) (h : ∀ s', Inv X pins σ H s' → Q (.bool (!o.isSome)) s') :
    wpAny (model X.prog X.w) A (compareOp .NotIn u (.ref a)) Q E s := by
  rcases g with ⟨kvs, k, e, ey, l⟩ | ⟨kvs, k, b, e, ey, eb, l⟩
  · subst ey
    obtain ⟨z, hd, vs, rel, dd⟩ := dk_rd I.hok e
    refine wpAny_notIn_of (kV_is ry) hd dd.mapOf ?_
    rw [← (rel.val k).isSome_eq, ← l]
    exact h _ (I.tok _)
  · subst ey
    cases (show u = Value.ref b from ry)
    obtain ⟨z, hd, xs, rel, dd⟩ := dt_rd I.hok e
    refine wpAny_notIn_heap (tupleKind_room_in1 hu) (key_of I.hok eb) hd dd ?_
    have q := (rel.val k).isSome_eq
    rw [Option.isSome_map] at q
    rw [← q, ← l]
    exact h _ (I.tok _)
/-- a dict's object is replaced -/
theorem d_write {h' : Heap} {t' : Nat} {ob : HO} (I : Inv X pins σ H s) (mu : Mut (H a)) (hs : Heap.SameBut a s.heap h') (he : ∃ q, h'.get? a = some q) (new : ObjOk X.prog X.w (upd H a ob) h' a ob) :
    Inv X pins σ (upd H a ob) { s with heap := h', toks := t' } :=
  I.write (x := a) (e := a) mu (.inl rfl) (fun b q hb z => (hs.2 b hb).trans z) he new
theorem dk_new {P : Program} {w : World} {H' : Hp} {h' : Heap} {kvs : List (Key × V)} {vs : List (Key × Value)} (z : kvs.length ≤ sizeLine) (hd : (a == sysModules) = false) (rel : KV kvs vs) (dd : h'.DictOf (mixKind P w) a vs) :
    ObjOk P w H' h' a (.dK kvs) := ⟨z, hd, vs, rel, dd⟩
/-- d[y] = v -/
theorem d_setItem {H' : Hp} {Q : Unit → Shared → Prop} (hu : A.units + 1 < cLine) (I : Inv X pins σ H s) (g : DPut H a y v H') (ry : RelV y u) (rv : RelV v r) (h : ∀ s', Inv X pins σ H' s' → Q () s') :
    wpAny (model X.prog X.w) A (setItem (.ref a) u r) Q E s := by
  rcases g with ⟨kvs, k, e, ey, l, eH⟩ | ⟨kvs, k, b, e, ey, eb, l, eH⟩
  · subst ey eH
    obtain ⟨z, hd, vs, rel, dd⟩ := dk_of I.hok e
    have hz : vs.length ≤ sizeLine := by rw [← rel.length]; exact z
    have hl : (putK kvs k v).length ≤ sizeLine := by have := length_putK kvs k v; omega
    refine wpAny_setItem_pairs (hsz := hz) (kV_is ry) dd fun h' dd' hs => h _ ?_
    have he : ∃ q, h'.get? a = some q := let ⟨q, _, _, hq, _⟩ := dd'; ⟨q, hq⟩
    exact d_write I (by rw [e]; exact True.intro) hs he (dk_new hl hd (rel.put k rv) dd')
  · subst ey eH
    cases (show u = Value.ref b from ry)
    obtain ⟨z, hd, xs, rel, dd⟩ := dt_of I.hok e
    have hz : xs.length ≤ sizeLine := by rw [← Paired.length rel]; exact z
    have hl : (putK kvs k v).length ≤ sizeLine := by have := length_putK kvs k v; omega
    refine wpAny_setItem_heap (hsz := hz) (tupleKind_room_in1 hu) (key_of I.hok eb) dd fun h' dd' hs => h _ ?_
    obtain ⟨q, es, ep, hq, h2, h3, h4, _, h5⟩ := dd'
    refine d_write I (by rw [e]; exact True.intro) hs ⟨q, hq⟩ ⟨hl, hd, _, (rel.put k eb rv).keeps fun c ys ec => ?_, q, es, ep, hq, h2, h3, h4, h5⟩
    rw [upd_ne (ne_of ec e (fun z => nomatch z))]
    exact ec
end

section
variable {X : Cx} {pins : List (Addr × Obj)} {σ : St} {H : Hp} {s : Shared} {a : Addr} {kvs : List (Key × V)} {k : Key} {u : Value} {A : Around} {E : Value → Shared → Prop}
/-- del d[k] -/
theorem d_delItem {Q : Unit → Shared → Prop} (I : Inv X pins σ H s) (e : H a = some (.dK kvs)) (ry : RelV (kV k) u) (l : (valV kvs k).isSome = true) (h : ∀ s', Inv X pins σ (upd H a (.dK (dropK kvs k))) s' → Q () s') :
    wpAny (model X.prog X.w) A (delItem (.ref a) u) Q E s := by
  obtain ⟨z, hd, vs, rel, dd⟩ := dk_of I.hok e
  refine wpAny_delItem_slot dd.typeIs (by decide) PySem.F.slot_dict_delitem
    (call_meetsIn PySem.F.slot_dict_delitem dd.typeIs PySem.F.entry_dict_delitem (PySem.F.args_dict_delitem_2 _ _) (meets_dict_delitem_pairs (mixKind X.prog X.w) a (kV_is ry)) ⟨vs, dd, by rw [← rel.length]; exact z, by rw [← (rel.val k).isSome_eq]; exact l, fun h' dd' hs => h _ ?_⟩)
  have he : ∃ q, h'.get? a = some q := let ⟨q, _, _, hq, _⟩ := dd'; ⟨q, hq⟩
  exact d_write I (by rw [e]; exact True.intro) hs he (dk_new (Nat.le_trans (dropK_le kvs k) z) hd (rel.drop k) dd')
/-- d.pop(k[, x]), there -/
theorem d_pop {v : V} {more : List Value} {Q : Value → Shared → Prop} (I : Inv X pins σ H s) (e : H a = some (.dK kvs)) (ry : RelV (kV k) u) (l : valV kvs k = some v) (hm : more = [] ∨ ∃ x, more = [x])
    (h : ∀ w' s', Inv X pins σ (upd H a (.dK (dropK kvs k))) s' → RelV v w' → Q w' s') : wpAny (model X.prog X.w) A (call (.builtin "dict.pop") (.ref a :: u :: more)) Q E s := by
  obtain ⟨z, hd, vs, rel, dd⟩ := dk_of I.hok e
  obtain ⟨w', hw, rw'⟩ := RelO.some_of (v := v) (o := valueAt vs k) (by rw [← l]; exact rel.val k)
  have hp : (keyPart u).isSome = true := by
    cases k with
    | inl i => obtain ⟨t, q⟩ := (show ∃ t, u = Value.int i t from ry); subst q; rfl
    | inr x => obtain ⟨t, q⟩ := (show ∃ t, u = Value.str x t from ry); subst q; rfl
  have ha : argsOk "dict.pop" ⟨.ref a :: u :: more, []⟩ := by
    rcases hm with q | ⟨x, q⟩
    · subst q; exact PySem.F.args_dict_pop_2 _ _
    · subst q; exact PySem.F.args_dict_pop_3 _ _ _
  refine call_meetsIn PySem.F.slot_dict_pop dd.typeIs PySem.F.entry_dict_pop ha (meets_dict_pop_there (mixKind X.prog X.w) a (kV_is ry) more hm hp)
    ⟨vs, w', dd, by rw [← rel.length]; exact z, hw, fun h' dd' hs => h w' _ ?_ rw'⟩
  have he : ∃ q, h'.get? a = some q := let ⟨q, _, _, hq, _⟩ := dd'; ⟨q, hq⟩
  exact d_write I (by rw [e]; exact True.intro) hs he (dk_new (Nat.le_trans (dropK_le kvs k) z) hd (rel.drop k) dd')
/-- d.pop(k, x), not there -/
theorem d_popD {r : Value} {Q : Value → Shared → Prop} (I : Inv X pins σ H s) (e : H a = some (.dK kvs)) (ry : RelV (kV k) u) (l : valV kvs k = none) (h : ∀ s', Inv X pins σ H s' → Q r s') :
    wpAny (model X.prog X.w) A (call (.builtin "dict.pop") [.ref a, u, r]) Q E s := by
  obtain ⟨z, hd, vs, rel, dd⟩ := dk_of I.hok e
  have hn : valueAt vs k = none := RelO.none_of (by rw [← l]; exact rel.val k)
  have hp : (keyPart u).isSome = true := by
    cases k with
    | inl i => obtain ⟨t, q⟩ := (show ∃ t, u = Value.int i t from ry); subst q; rfl
    | inr x => obtain ⟨t, q⟩ := (show ∃ t, u = Value.str x t from ry); subst q; rfl
  exact call_meetsIn PySem.F.slot_dict_pop dd.typeIs PySem.F.entry_dict_pop (PySem.F.args_dict_pop_3 _ _ _) (meets_dict_pop_default (mixKind X.prog X.w) a (kV_is ry) hd hp r) ⟨vs, dd, hn, h _ (I.tok _)⟩
/-- d.clear() -/
theorem d_clear {Q : Value → Shared → Prop} (I : Inv X pins σ H s) (e : H a = some (.dK kvs)) (h : ∀ s', Inv X pins σ (upd H a (.dK [])) s' → Q .none s') : wpAny (model X.prog X.w) A (call (.builtin "dict.clear") [.ref a]) Q E s := by
  obtain ⟨z, hd, vs, rel, dd⟩ := dk_of I.hok e
  refine call_meetsIn PySem.F.slot_dict_clear dd.typeIs PySem.F.entry_dict_clear (PySem.F.args_dict_clear_1 _) (meets_dict_clear (mixKind X.prog X.w) a) ⟨vs, dd, by rw [← rel.length]; exact z, fun h' dd' hs => h _ ?_⟩
  have he : ∃ q, h'.get? a = some q := let ⟨q, _, _, hq, _⟩ := dd'; ⟨q, hq⟩
  exact d_write (t' := s.toks) I (by rw [e]; exact True.intro) hs he (dk_new (Nat.zero_le _) hd .nil dd')
/-- len(d) -/
theorem d_len {Q : Value → Shared → Prop} (I : Inv X pins σ H s) (e : Rd H a (.dK kvs)) (h : ∀ t s', Inv X pins σ H s' → Q (.int kvs.length t) s') : wpAny (model X.prog X.w) A (call (.builtin "len") [.ref a]) Q E s := by
  obtain ⟨z, hd, vs, rel, dd⟩ := dk_rd I.hok e
  refine call_len_dict hd dd (by rw [← rel.length]; rw [sizeLine_eq] at z; omega) ?_
  rw [← rel.length]
  exact h _ _ (I.tok _)
/-- if d -/
theorem d_truth {Q : Bool → Shared → Prop} (I : Inv X pins σ H s) (e : Rd H a (.dK kvs)) (h : ∀ s', Inv X pins σ H s' → Q (!kvs.isEmpty) s') : wpAny (model X.prog X.w) A (truthy (.ref a)) Q E s := by
  obtain ⟨z, hd, vs, rel, dd⟩ := dk_rd I.hok e
  refine wpAny_truthy_dict hd dd (by rw [← rel.length]; rw [sizeLine_eq] at z; omega) ?_
  have q : kvs.isEmpty = vs.isEmpty := by cases rel <;> rfl
  rw [← q]
  exact h _ (I.tok _)
end


/-! ### readings and rules -/
/-- the element of a subscription, not a slice -/
def NoSl (i : Expr) : Prop := ∀ ov iv, subscripted i false ov iv = operate [ov, iv] (getItem ov iv)
theorem subD_of {prog : Program} {w : World} {A : Around} {E : Value → Shared → Prop} {s : Shared} {env : Env} {value slice : Expr} {pos : Pos} {T id : String} {Q : Value → Shared → Prop}
    (hl : typeLookup (.type T) "__getitem__" = pure (some (.builtin id))) (hs : NoSl slice)
    (h : wpAny (model prog w) A (eval value env) (fun o s₁ => wpAny (model prog w) A (eval slice env) (fun i s₂ => s₂.TypeIs o T ∧ wpAny (model prog w) A (getItem o i) Q E s₂) E s₁) E s) :
    wpAny (model prog w) A (eval (.Subscript value slice pos) env) Q E s := by
  refine Subscript_ (wpAny_mono h (fun o s₁ h₁ => wpAny_mono h₁ (fun i s₂ h₂ => ?_) fun _ _ x => x) fun _ _ x => x)
  obtain ⟨hT, h₂⟩ := h₂
  unfold subscriptTail
  refine wpAny_bind ?_
  rw [getitemInPython_of_ne hT.not_modules]
  refine wpAny_bind (wpAny_specialOf hT hl ?_)
  have fin : wpAny (model prog w) A (subscripted slice false o i) (fun r s₃ => wpAny (model prog w) A (letTemporaryGo value o r >>= fun _ => pure r) Q E s₃) E s₂ := by
    rw [hs o i]
    exact wpAny_operating (wpAny_mono h₂ (fun r s₃ h₃ => wpAny_bind (wpAny_letTemporaryGo (wpAny_pure h₃))) fun _ _ x => x)
  first
    | exact wpAny_pure (wpAny_bind fin)
    | exact wpAny_bind (wpAny_pure (wpAny_bind fin))
    | exact wpAny_bind fin

theorem dict_typeIs {X : Cx} {pins : List (Addr × Obj)} {σ : St} {H : Hp} {s : Shared} {a : Addr} {y : V} {o : Option V} (I : Inv X pins σ H s) (g : DGet H a y o) : s.TypeIs (.ref a) "dict" := by
  rcases g with ⟨kvs, k, e, _, _⟩ | ⟨kvs, k, b, e, _, _, _⟩
  · obtain ⟨_, _, vs, _, dd⟩ := dk_rd I.hok e
    exact dd.typeIs
  · obtain ⟨_, _, xs, _, dd⟩ := dt_rd I.hok e
    exact dd.typeIs
theorem dict_noDict {X : Cx} {pins : List (Addr × Obj)} {σ : St} {H : Hp} {s : Shared} {a : Addr} {y : V} {o : Option V} (I : Inv X pins σ H s) (g : DGet H a y o) :
    ∀ b, Value.ref a = .ref b → ∃ ob, s.heap.get? b = some ob ∧ ob.dict = none := fun b q => by
  cases q
  rcases g with ⟨kvs, k, e, _, _⟩ | ⟨kvs, k, b, e, _, _, _⟩
  · obtain ⟨_, _, vs, _, ob, _, _, h1, h2, _⟩ := dk_rd I.hok e
    exact ⟨ob, h1, h2.2.1⟩
  · obtain ⟨_, _, xs, _, ob, _, _, h1, h2, _⟩ := dt_rd I.hok e
    exact ⟨ob, h1, h2.2.1⟩

/-- d[y] -/
def tDGet (td ty : TE) : TE := fun σ H Q => td σ H fun x H1 => ty σ H1 fun y H2 => ∃ a v, x = .ref a ∧ DGet H2 a y (some v) ∧ Q v H2
/-- y in d, y not in d -/
def tDIn (ty td : TE) : TE := fun σ H Q => ty σ H fun y H1 => td σ H1 fun x H2 => ∃ a o, x = .ref a ∧ DGet H2 a y o ∧ Q (.bl o.isSome) H2
def tDNotIn (ty td : TE) : TE := fun σ H Q => ty σ H fun y H1 => td σ H1 fun x H2 => ∃ a o, x = .ref a ∧ DGet H2 a y o ∧ Q (.bl (!o.isSome)) H2
/-- d[y] = v -/
def sDPut (td ty tv : TE) : TS := fun D σ H => tv σ H fun v H1 => td σ H1 fun x H2 => ty σ H2 fun y H3 => ∃ a H4, x = .ref a ∧ DPut H3 a y v H4 ∧ D.nx σ H4
/-- d[y] op= v -/
def sDAug (td ty tv : TE) (rd : V → V → Hp → VK → Prop) : TS := fun D σ H => td σ H fun x H1 => ty σ H1 fun y H2 => ∃ a v, x = .ref a ∧ DGet H2 a y (some v) ∧
  tv σ H2 fun y2 H3 => rd v y2 H3 fun z H4 => ∃ H5, DPut H4 a y z H5 ∧ D.nx σ H5
/-- del d[y] -/
def sDDel (td ty : TE) : TS := fun D σ H => td σ H fun x H1 => ty σ H1 fun y H2 => ∃ a kvs k, x = .ref a ∧ H2 a = some (.dK kvs) ∧ y = kV k ∧ (valV kvs k).isSome = true ∧ D.nx σ (upd H2 a (.dK (dropK kvs k)))

section
variable {X : Cx} {o i e value : Expr} {pos pos' tpos : Pos} {td ty tv : TE}
theorem pe_dget (hu : X.A.units + 1 < cLine) (ho : PE X o td) (hi : PE X i ty) (hs : NoSl i) : PE X (.Subscript o i pos) (tDGet td ty) := by
  intro pins s σ H Q I h
  refine subD_of PySem.F.slot_dict_getitem.lookup hs (thn (ho pins s σ H _ I h) fun u s1 ⟨x, H1, I1, rx, q1⟩ => thn (hi pins s1 σ H1 _ I1 q1) fun iv s2 ⟨y, H2, I2, ry, a, v, ex, g, q2⟩ => ?_)
  subst ex
  obtain rfl : u = Value.ref a := rx
  exact ⟨dict_typeIs I2 g, d_getItem hu I2 g ry fun w' s3 I3 rw' => ⟨v, H2, I3, rw', q2⟩⟩
theorem pc_din (hu : X.A.units + 1 < cLine) (hi : PE X i ty) (ho : PE X o td) : PC X .In i o (tDIn ty td) := by
  intro pins s σ H Q I h
  refine thn (hi pins s σ H _ I h) fun iv s1 ⟨y, H1, I1, ry, q1⟩ => thn (ho pins s1 σ H1 _ I1 q1) fun u s2 ⟨x, H2, I2, rx, a, ov, ex, g, q2⟩ => ?_
  subst ex
  obtain rfl : u = Value.ref a := rx
  exact d_in hu I2 g ry fun s3 I3 => ⟨.bl ov.isSome, H2, I3, rfl, q2⟩
theorem pc_dnotin (hu : X.A.units + 1 < cLine) (hi : PE X i ty) (ho : PE X o td) : PC X .NotIn i o (tDNotIn ty td) := by
  intro pins s σ H Q I h
  refine thn (hi pins s σ H _ I h) fun iv s1 ⟨y, H1, I1, ry, q1⟩ => thn (ho pins s1 σ H1 _ I1 q1) fun u s2 ⟨x, H2, I2, rx, a, ov, ex, g, q2⟩ => ?_
  subst ex
  obtain rfl : u = Value.ref a := rx
  exact d_notIn hu I2 g ry fun s3 I3 => ⟨.bl (!ov.isSome), H2, I3, rfl, q2⟩
theorem ps_dput (hu : X.A.units + 1 < cLine) (ho : PE X o td) (hi : PE X i ty) (hv : PE X value tv) (hs : swapsWith value (some (.Subscript o i pos')) pos.line X.env = pure false) :
    PS X (.Assign [.Subscript o i pos'] value pos) (sDPut td ty tv) := by
  intro pins s σ H D I h
  refine wpAny_Assign_Subscript (thn (hv pins s σ H _ I h) fun r s1 ⟨v, H1, I1, rv, q1⟩ => thn (ho pins s1 σ H1 _ I1 q1) fun u s2 ⟨x, H2, I2, rx, q2⟩ => thn (hi pins s2 σ H2 _ I2 q2) fun iv s3 ⟨y, H3, I3, ry, a, H4, ex, g, q3⟩ => ?_) hs
  subst ex
  obtain rfl : u = Value.ref a := rx
  exact d_setItem hu I3 g ry rv fun s4 I4 => ⟨σ, H4, I4, q3⟩
theorem ps_daug {op : Operator} {rd : V → V → Hp → VK → Prop} (hu : X.A.units + 1 < cLine) (ho : PE X o td) (hi : PE X i ty) (hv : PE X value tv) (hop : InOp X op rd)
    (ha : ∀ ov iv new, augStore i ov iv new = (do holding [new, ov, iv] (setItem ov iv new); release [new, ov, iv] []; pure .next)) : PS X (.AugAssign (.Subscript o i tpos) op value pos) (sDAug td ty tv rd) := by
  intro pins s σ H D I h
  refine wpAny_AugAssign_SubscriptAny (thn (ho pins s σ H _ I h) fun u s1 ⟨x, H1, I1, rx, q1⟩ => thn (hi pins s1 σ H1 _ I1 q1) fun iv s2 ⟨y, H2, I2, ry, a, v, ex, g, q2⟩ => ?_) ha
  subst ex
  obtain rfl : u = Value.ref a := rx
  refine d_getItem hu I2 g ry fun w' s3 I3 rw' => thn (hv pins s3 σ H2 _ I3 q2) fun w2 s4 ⟨y2, H3, I4, ry2, q3⟩ => thn (hop pins s4 σ H3 v y2 w' w2 _ I4 rw' ry2 q3) fun w3 s5 ⟨z, H4, I5, rz, H5, g5, q4⟩ => ?_
  exact d_setItem hu I5 g5 ry rz fun s6 I6 => ⟨σ, H5, I6, q4⟩
theorem ps_ddel (ho : PE X o td) (hi : PE X i ty) : PS X (.Delete [.Subscript o i tpos] pos) (sDDel td ty) := by
  intro pins s σ H D I h
  refine wpAny_Delete (wpAny_deleteEach_cons (wpAny_delete_Subscript (thn (ho pins s σ H _ I h) fun u s1 ⟨x, H1, I1, rx, q1⟩ => thn (hi pins s1 σ H1 _ I1 q1) fun iv s2 ⟨y, H2, I2, ry, a, kvs, k, ex, e, ey, l, q2⟩ => ?_)))
  subst ex ey
  obtain rfl : u = Value.ref a := rx
  exact d_delItem I2 e ry l fun s3 I3 => wpAny_deleteEach_nil ⟨σ, _, I3, q2⟩
end


/-! ### displays -/
theorem dk_empty {P : Program} {w : World} {H : Hp} (h : Heap) (hb : sysModules < h.objs.size) : ObjOk P w H (h.push { cls := .type "dict", data := .dict #[] }) h.objs.size (.dK []) :=
  ⟨Nat.zero_le _, beq_eq_false_iff_ne.mpr (Ne.symm (Nat.ne_of_lt hb)), [], .nil, Heap.DictOf.new h⟩
theorem dt_empty {P : Program} {w : World} {H : Hp} (h : Heap) (hb : sysModules < h.objs.size) : ObjOk P w H (h.push { cls := .type "dict", data := .dict #[] }) h.objs.size (.dT []) :=
  ⟨Nat.zero_le _, beq_eq_false_iff_ne.mpr (Ne.symm (Nat.ne_of_lt hb)), [], .nil, _, #[], 0, Heap.get?_push_size _ rfl, ⟨rfl, rfl, rfl⟩, rfl, rfl, List.nodup_nil⟩
/-- {}, to be a dict of the kind that is wanted -/
def tDNewK : TE := fun _ H Q => ∀ p, H p = none → Q (.ref p) (upd H p (.dK []))
def tDNewT : TE := fun _ H Q => ∀ p, H p = none → Q (.ref p) (upd H p (.dT []))
section
variable {X : Cx} {pos : Pos}
theorem pe_dnewK : PE X (.Dict [] [] pos) tDNewK := fun pins s σ H Q I h =>
  wpAny_Dict_empty ⟨.ref s.heap.objs.size, _, I.laid (a := s.heap.objs.size) (o := .dK []) (t' := s.toks) (fun _ _ q => Heap.get?_push_of_some _ q) (Nat.le_refl _) (dk_empty s.heap I.big), rfl, h _ (I.hok.fresh (Nat.le_refl _))⟩
theorem pe_dnewT : PE X (.Dict [] [] pos) tDNewT := fun pins s σ H Q I h =>
  wpAny_Dict_empty ⟨.ref s.heap.objs.size, _, I.laid (a := s.heap.objs.size) (o := .dT []) (t' := s.toks) (fun _ _ q => Heap.get?_push_of_some _ q) (Nat.le_refl _) (dt_empty s.heap I.big), rfl, h _ (I.hok.fresh (Nat.le_refl _))⟩
end

/-- the pairs of a display, from the left -/
def tPairs : List (TE × TE) → St → Hp → (List (V × V) → Hp → Prop) → Prop
  | [], _, H, Q => Q [] H
  | (tk, tv) :: r, σ, H, Q => tk σ H fun x H1 => tv σ H1 fun y H2 => tPairs r σ H2 fun ps H3 => Q ((x, y) :: ps) H3
abbrev VV : List (V × V) → List (Value × Value) → Prop := Paired fun p q => RelV p.1 q.1 ∧ RelV p.2 q.2
def PPs (X : Cx) (pos : Pos) (keys : List (Option Expr)) (values : List Expr) (trs : List (TE × TE)) : Prop :=
  ∀ (pins : List (Addr × Obj)) (s : Shared) (σ : St) (H : Hp) (Q : List (V × V) → Hp → Prop), Inv X pins σ H s → tPairs trs σ H Q →
    wpAny (model X.prog X.w) X.A (evalPairs (pairTrees keys values X.env pos)) (fun vs s' => ∃ ps H', Inv X pins σ H' s' ∧ VV ps vs ∧ Q ps H') X.xe s
theorem pps_nil {X : Cx} {pos : Pos} : PPs X pos [] [] [] := fun pins s σ H Q I h => pairTrees_nil_walk ⟨[], H, I, .nil, h⟩
theorem pps_cons {X : Cx} {pos : Pos} {k v : Expr} {ks : List (Option Expr)} {vs : List Expr} {tk tv : TE} {trs : List (TE × TE)} (hk : PE X k tk) (hv : PE X v tv) (hr : PPs X pos ks vs trs) :
    PPs X pos (some k :: ks) (v :: vs) ((tk, tv) :: trs) := fun pins s σ H Q I h =>
  pairTrees_cons_walk (thn (hk pins s σ H _ I h) fun u s1 ⟨x, H1, I1, rx, q1⟩ => thn (hv pins s1 σ H1 _ I1 q1) fun w2 s2 ⟨y, H2, I2, ry, q2⟩ =>
    thn (hr pins s2 σ H2 _ I2 q2) fun ws s3 ⟨ps, H3, I3, rel, q3⟩ => ⟨(x, y) :: ps, H3, I3, .cons ⟨rx, ry⟩ rel, q3⟩)

def mergeK (kvs more : List (Key × V)) : List (Key × V) := more.foldl (fun acc kv => putK acc kv.1 kv.2) kvs
theorem KV.merge : ∀ {more : List (Key × V)} {rs : List (Key × Value)} {kvs : List (Key × V)} {vs : List (Key × Value)}, KV more rs → KV kvs vs → KV (mergeK kvs more) (merged vs rs) := by
  intro more rs kvs vs r
  unfold KV at r
  induction r generalizing kvs vs with
  | nil => intro q; exact q
  | @cons p q ps qs h t ih =>
    intro r0
    have e : KV (putK kvs p.1 p.2) (stored vs q.1 q.2) := by
      have := r0.put p.1 h.2
      rw [← h.1]; exact this
    exact ih e
theorem length_mergeK : ∀ (more kvs : List (Key × V)), (mergeK kvs more).length ≤ kvs.length + more.length
  | [], kvs => by show kvs.length ≤ kvs.length + 0; omega
  | p :: r, kvs => by
    have h1 := length_mergeK r (putK kvs p.1 p.2)
    have h2 := length_putK kvs p.1 p.2
    show (mergeK (putK kvs p.1 p.2) r).length ≤ _
    rw [List.length_cons]; omega
theorem carries_of {P : Program} {w : World} : ∀ {kvs : List (Key × V)} {ws : List (Value × Value)}, VV (kvs.map fun kv => (kV kv.1, kv.2)) ws → ∃ rs, Carries (mixKind P w) ws rs ∧ KV kvs rs
  | [], _, r => by rw [List.map_nil] at r; cases r; exact ⟨[], True.intro, .nil⟩
  | p :: kvs, _, r => by
    rw [List.map_cons] at r
    cases r with
    | @cons a b as bs h t =>
      obtain ⟨rs, c, q⟩ := carries_of (P := P) (w := w) t
      obtain ⟨b1, b2⟩ := b
      exact ⟨(p.1, b2) :: rs, ⟨kV_is h.1, rfl, c⟩, .cons ⟨rfl, h.2⟩ q⟩
/-- {k: v, ..} with keys ints and texts; the new dict stands empty while the pairs are made -/
def tDisp (trs : List (TE × TE)) : TE := fun σ H Q => ∀ p, H p = none → tPairs trs σ (upd H p (.dK [])) fun ps H2 => H2 p = some (.dK []) ∧ ∃ kvs : List (Key × V), ps = kvs.map (fun kv => (kV kv.1, kv.2)) ∧ kvs.length ≤ 15 ∧ Q (.ref p) (upd H2 p (.dK (mergeK [] kvs)))
theorem pe_disp {X : Cx} {pos : Pos} {keys : List (Option Expr)} {values : List Expr} {trs : List (TE × TE)} (h : PPs X pos keys values trs) (hall : keys.all (·.isSome) = true) (hl : keys.length = values.length) (h0 : keys ≠ [])
    (h15 : keys.length ≤ 15) : PE X (.Dict keys values pos) (tDisp trs) := by
  intro pins s σ H Q I q
  have hn := I.hok.fresh (Nat.le_refl s.heap.objs.size)
  have I1 := I.laid (a := s.heap.objs.size) (o := .dK []) (h' := s.heap.push { cls := .type "dict", data := .dict #[] }) (t' := s.toks) (fun _ _ q => Heap.get?_push_of_some _ q) (Nat.le_refl _) (dk_empty s.heap I.big)
  refine wpAny_Dict_walk (knd := mixKind X.prog X.w) hall hl h0 h15 (thn (h pins _ σ _ _ I1 (q _ hn)) fun ws s2 ⟨ps, H2, I2, rel, e, kvs, ep, lk, q2⟩ => ?_)
  subst ep
  obtain ⟨rs, c, rk⟩ := carries_of (P := X.prog) (w := X.w) rel
  obtain ⟨z, hd, vs0, r0, dd⟩ := dk_of I2.hok e
  cases r0
  refine ⟨rs, c, dd, fun h' dd' hs => ⟨.ref s.heap.objs.size, _, ?_, rfl, q2⟩⟩
  have hz : (mergeK [] kvs).length ≤ sizeLine := by
    have h1 := length_mergeK kvs []
    rw [List.length_nil] at h1
    rw [sizeLine_eq]; omega
  have he : ∃ q, h'.get? s.heap.objs.size = some q := let ⟨q, _, _, hq, _⟩ := dd'; ⟨q, hq⟩
  exact d_write I2 (by rw [e]; exact True.intro) hs he (dk_new hz hd (rk.merge .nil) dd')


/-! ### methods -/
/-- a method call o.m(e) of a built-in, with one argument: what must be seen of the text -/
structure M1 (X : Cx) (o : Expr) (m : Str) (apos : Pos) (e : Expr) (cpos : Pos) : Prop where
  base : attributeBase o m X.env (eval o X.env) = eval o X.env
  few : ((backTo cpos (starEach [e] X.env)).all (fun x => !x.1) && (backToKw cpos (keywordEach [] X.env)).all (fun x => x.1.isSome)
    && decide (([e] : List Expr).length + ([] : List Keyword).length + (if ([] : List Keyword).isEmpty then 0 else 1) < 30)) = true
  line : (apos.endLine == cpos.line) = true
  trees : backTo cpos (starEach [e] X.env) = [(false, eval e X.env)]
structure M2 (X : Cx) (o : Expr) (m : Str) (apos : Pos) (e f : Expr) (cpos : Pos) : Prop where
  base : attributeBase o m X.env (eval o X.env) = eval o X.env
  few : ((backTo cpos (starEach [e, f] X.env)).all (fun x => !x.1) && (backToKw cpos (keywordEach [] X.env)).all (fun x => x.1.isSome)
    && decide (([e, f] : List Expr).length + ([] : List Keyword).length + (if ([] : List Keyword).isEmpty then 0 else 1) < 30)) = true
  line : (apos.endLine == cpos.line) = true
  trees : backTo cpos (starEach [e, f] X.env) = [(false, eval e X.env), (false, eval f X.env)]

/-- a is a dict, whatever its keys -/
def IsD (H : Hp) (a : Addr) : Prop := (∃ kvs, Rd H a (.dK kvs)) ∨ ∃ kvs, Rd H a (.dT kvs)
theorem isD_at {X : Cx} {pins : List (Addr × Obj)} {σ : St} {H : Hp} {s : Shared} {a : Addr} (I : Inv X pins σ H s) (d : IsD H a) :
    s.TypeIs (.ref a) "dict" ∧ (∀ b, Value.ref a = .ref b → ∃ ob, s.heap.get? b = some ob ∧ ob.dict = none) ∧ (a == sysModules) = false := by
  rcases d with ⟨kvs, e⟩ | ⟨kvs, e⟩
  · obtain ⟨_, hd, vs, _, dd⟩ := dk_rd I.hok e
    refine ⟨dd.typeIs, fun b q => ?_, hd⟩
    cases q
    obtain ⟨ob, _, _, h1, h2, _⟩ := dd
    exact ⟨ob, h1, h2.2.1⟩
  · obtain ⟨_, hd, xs, _, dd⟩ := dt_rd I.hok e
    refine ⟨dd.typeIs, fun b q => ?_, hd⟩
    cases q
    obtain ⟨ob, _, _, h1, h2, _⟩ := dd
    exact ⟨ob, h1, h2.2.1⟩

section
variable {X : Cx} {pins : List (Addr × Obj)} {σ : St} {H : Hp} {s : Shared} {a : Addr} {y d : V} {u r : Value} {o : Option V} {A : Around} {E : Value → Shared → Prop}
/-- d.get(y) -/
theorem d_get1 {Q : Value → Shared → Prop} (hu : A.units + 1 < cLine) (I : Inv X pins σ H s) (g : DGet H a y o) (ry : RelV y u) (h : ∀ w' s', Inv X pins σ H s' → RelV (o.getD .non) w' → Q w' s') :
    wpAny (model X.prog X.w) A (call (.builtin "dict.get") [.ref a, u]) Q E s := by
  rcases g with ⟨kvs, k, e, ey, l⟩ | ⟨kvs, k, b, e, ey, eb, l⟩
  · subst ey
    obtain ⟨z, hd, vs, rel, dd⟩ := dk_rd I.hok e
    refine call_meetsIn PySem.F.slot_dict_get dd.typeIs PySem.F.entry_dict_get (PySem.F.args_dict_get_2 _ _) (meets_dict_get (mixKind X.prog X.w) a (kV_is ry) hd) ⟨_, dd.mapOf, h _ _ (I.tok _) ?_⟩
    rw [l]
    exact (rel.val k).getD rfl
  · subst ey
    cases (show u = Value.ref b from ry)
    obtain ⟨z, hd, xs, rel, dd⟩ := dt_rd I.hok e
    refine call_meetsIn PySem.F.slot_dict_get dd.typeIs PySem.F.entry_dict_get (PySem.F.args_dict_get_2 _ _) (meetsH_dict_get (tupleKind (mixKind X.prog X.w)) a b hd) ⟨tupleKind_room_in1 hu, k, xs, key_of I.hok eb, dd, h _ _ (I.tok _) ?_⟩
    rw [l]
    exact (rel.val k).getD rfl
/-- d.get(y, x) -/
theorem d_get2 {Q : Value → Shared → Prop} (hu : A.units + 1 < cLine) (I : Inv X pins σ H s) (g : DGet H a y o) (ry : RelV y u) (rd : RelV d r) (h : ∀ w' s', Inv X pins σ H s' → RelV (o.getD d) w' → Q w' s') :
    wpAny (model X.prog X.w) A (call (.builtin "dict.get") [.ref a, u, r]) Q E s := by
  rcases g with ⟨kvs, k, e, ey, l⟩ | ⟨kvs, k, b, e, ey, eb, l⟩
  · subst ey
    obtain ⟨z, hd, vs, rel, dd⟩ := dk_rd I.hok e
    refine call_meetsIn PySem.F.slot_dict_get dd.typeIs PySem.F.entry_dict_get (PySem.F.args_dict_get_3 _ _ _) (meets_dict_get_default (mixKind X.prog X.w) a (kV_is ry) hd r) ⟨_, dd.mapOf, h _ _ (I.tok _) ?_⟩
    rw [l]
    exact (rel.val k).getD rd
  · subst ey
    cases (show u = Value.ref b from ry)
    obtain ⟨z, hd, xs, rel, dd⟩ := dt_rd I.hok e
    refine call_meetsIn PySem.F.slot_dict_get dd.typeIs PySem.F.entry_dict_get (PySem.F.args_dict_get_3 _ _ _) (meetsH_dict_get_default (tupleKind (mixKind X.prog X.w)) a b hd r) ⟨tupleKind_room_in1 hu, k, xs, key_of I.hok eb, dd, h _ _ (I.tok _) ?_⟩
    rw [l]
    exact (rel.val k).getD rd
end

def tDGet1 (td ty : TE) : TE := fun σ H Q => td σ H fun x H1 => ∃ a, x = .ref a ∧ IsD H1 a ∧ ty σ H1 fun y H2 => ∃ o, DGet H2 a y o ∧ Q (o.getD .non) H2
def tDGet2 (td ty tx : TE) : TE := fun σ H Q => td σ H fun x H1 => ∃ a, x = .ref a ∧ IsD H1 a ∧ ty σ H1 fun y H2 => tx σ H2 fun z H3 => ∃ o, DGet H3 a y o ∧ Q (o.getD z) H3
/-- d.pop(k): there; d.pop(k, x): there or not -/
def tDPop1 (td ty : TE) : TE := fun σ H Q => td σ H fun x H1 => ∃ a, x = .ref a ∧ IsD H1 a ∧ ty σ H1 fun y H2 => ∃ kvs k v, H2 a = some (.dK kvs) ∧ y = kV k ∧ valV kvs k = some v ∧ Q v (upd H2 a (.dK (dropK kvs k)))
def tDPop2 (td ty tx : TE) : TE := fun σ H Q => td σ H fun x H1 => ∃ a, x = .ref a ∧ IsD H1 a ∧ ty σ H1 fun y H2 => tx σ H2 fun z H3 => ∃ kvs k, H3 a = some (.dK kvs) ∧ y = kV k ∧
  (∀ v, valV kvs k = some v → Q v (upd H3 a (.dK (dropK kvs k)))) ∧ (valV kvs k = none → Q z H3)
section
variable {X : Cx} {o e f : Expr} {apos cpos : Pos} {td ty tx : TE}
theorem pe_dget1 (hu : X.A.units + 1 < cLine) (ho : PE X o td) (he : PE X e ty) (m : M1 X o "get" apos e cpos) : PE X (.Call (.Attribute o "get" apos) [e] [] cpos) (tDGet1 td ty) := by
  intro pins s σ H Q I h
  refine wpAny_Call_method m.base m.few m.line PySem.F.plainAttrs_dict PySem.F.slot_dict_get PySem.F.type_dict_get (thn (ho pins s σ H _ I h) fun u s1 ⟨x, H1, I1, rx, a, ex, d, q1⟩ => ?_)
  subst ex
  obtain rfl : u = Value.ref a := rx
  obtain ⟨t1, t2, _⟩ := isD_at I1 d
  refine ⟨t1, t2, ?_⟩
  rw [m.trees]
  refine Calls.callWith_builtin rfl (Calls.evalArgs_plain (Calls.spliced_cons (thn (he pins s1 σ H1 _ I1 q1) fun iv s2 ⟨y, H2, I2, ry, ov, g, q2⟩ => Calls.spliced_nil ?_)))
  exact d_get1 hu I2 g ry fun w' s3 I3 rw' => ⟨_, H2, I3, rw', q2⟩
theorem pe_dget2 (hu : X.A.units + 1 < cLine) (ho : PE X o td) (he : PE X e ty) (hf : PE X f tx) (m : M2 X o "get" apos e f cpos) : PE X (.Call (.Attribute o "get" apos) [e, f] [] cpos) (tDGet2 td ty tx) := by
  intro pins s σ H Q I h
  refine wpAny_Call_method m.base m.few m.line PySem.F.plainAttrs_dict PySem.F.slot_dict_get PySem.F.type_dict_get (thn (ho pins s σ H _ I h) fun u s1 ⟨x, H1, I1, rx, a, ex, d, q1⟩ => ?_)
  subst ex
  obtain rfl : u = Value.ref a := rx
  obtain ⟨t1, t2, _⟩ := isD_at I1 d
  refine ⟨t1, t2, ?_⟩
  rw [m.trees]
  refine Calls.callWith_builtin rfl (Calls.evalArgs_plain (Calls.spliced_cons (thn (he pins s1 σ H1 _ I1 q1) fun iv s2 ⟨y, H2, I2, ry, q2⟩ =>
    Calls.spliced_cons (thn (hf pins s2 σ H2 _ I2 q2) fun fv s3 ⟨z, H3, I3, rz, ov, g, q3⟩ => Calls.spliced_nil ?_))))
  exact d_get2 hu I3 g ry rz fun w' s4 I4 rw' => ⟨_, H3, I4, rw', q3⟩
theorem pe_dpop1 (ho : PE X o td) (he : PE X e ty) (m : M1 X o "pop" apos e cpos) : PE X (.Call (.Attribute o "pop" apos) [e] [] cpos) (tDPop1 td ty) := by
  intro pins s σ H Q I h
  refine wpAny_Call_method m.base m.few m.line PySem.F.plainAttrs_dict PySem.F.slot_dict_pop PySem.F.type_dict_pop (thn (ho pins s σ H _ I h) fun u s1 ⟨x, H1, I1, rx, a, ex, d, q1⟩ => ?_)
  subst ex
  obtain rfl : u = Value.ref a := rx
  obtain ⟨t1, t2, _⟩ := isD_at I1 d
  refine ⟨t1, t2, ?_⟩
  rw [m.trees]
  refine Calls.callWith_builtin rfl (Calls.evalArgs_plain (Calls.spliced_cons (thn (he pins s1 σ H1 _ I1 q1) fun iv s2 ⟨y, H2, I2, ry, kvs, k, v, ea, ey, l, q2⟩ => Calls.spliced_nil ?_)))
  subst ey
  exact d_pop I2 ea ry l (.inl rfl) fun w' s3 I3 rw' => ⟨v, _, I3, rw', q2⟩
theorem pe_dpop2 (ho : PE X o td) (he : PE X e ty) (hf : PE X f tx) (m : M2 X o "pop" apos e f cpos) : PE X (.Call (.Attribute o "pop" apos) [e, f] [] cpos) (tDPop2 td ty tx) := by
  intro pins s σ H Q I h
  refine wpAny_Call_method m.base m.few m.line PySem.F.plainAttrs_dict PySem.F.slot_dict_pop PySem.F.type_dict_pop (thn (ho pins s σ H _ I h) fun u s1 ⟨x, H1, I1, rx, a, ex, d, q1⟩ => ?_)
  subst ex
  obtain rfl : u = Value.ref a := rx
  obtain ⟨t1, t2, _⟩ := isD_at I1 d
  refine ⟨t1, t2, ?_⟩
  rw [m.trees]
  refine Calls.callWith_builtin rfl (Calls.evalArgs_plain (Calls.spliced_cons (thn (he pins s1 σ H1 _ I1 q1) fun iv s2 ⟨y, H2, I2, ry, q2⟩ =>
    Calls.spliced_cons (thn (hf pins s2 σ H2 _ I2 q2) fun fv s3 ⟨z, H3, I3, rz, kvs, k, ea, ey, q3, q4⟩ => Calls.spliced_nil ?_))))
  subst ey
  cases l : valV kvs k with
  | some v => exact d_pop I3 ea ry l (.inr ⟨fv, rfl⟩) fun w' s4 I4 rw' => ⟨v, _, I4, rw', q3 v l⟩
  | none => exact d_popD I3 ea ry l fun s4 I4 => ⟨z, H3, I4, rz, q4 l⟩
end

/-! ### dict(d): a copy -/
section
variable {X : Cx} {pins : List (Addr × Obj)} {σ : St} {H : Hp} {s : Shared} {a : Addr} {kvs : List (Key × V)} {A : Around} {E : Value → Shared → Prop}
theorem d_copyOf {Q : Value → Shared → Prop} (I : Inv X pins σ H s) (e : Rd H a (.dK kvs)) (h : ∀ p s', H p = none → Inv X pins σ (upd H p (.dK kvs)) s' → Q (.ref p) s') : wpAny (model X.prog X.w) A (call (.type "dict") [.ref a]) Q E s := by
  obtain ⟨z, hd, vs, rel, dd⟩ := dk_rd I.hok e
  refine kt_call_dict hd dd (by rw [← rel.length]; exact z) fun h' dd' hs => ?_
  refine h _ _ (I.hok.fresh (Nat.le_refl _)) (I.laid (a := s.heap.objs.size) (o := .dK kvs) (t' := s.toks) (fun b q hq => ?_) (Nat.le_refl _) (dk_new z (beq_eq_false_iff_ne.mpr (Ne.symm (Nat.ne_of_lt I.big))) rel dd'))
  exact (hs.2 b (Nat.ne_of_lt (Heap.lt_size hq))).trans (Heap.get?_push_of_some _ hq)
end


section
variable {X : Cx} {pins : List (Addr × Obj)} {σ : St} {H : Hp} {s : Shared} {a : Addr} {y : V} {u : Value} {A : Around} {E : Value → Shared → Prop}
/-- d[y], not there: a KeyError -/
theorem d_missing {Q : Value → Shared → Prop} (hu : A.units + 1 < cLine) (hh : A.handled = none) (I : Inv X pins σ H s) (g : DGet H a y none) (ry : RelV y u)
    (h : ∀ h' e t', Heap.NewExc s.heap h' e "KeyError" → E (.ref e) { s with heap := h', toks := t' }) : wpAny (model X.prog X.w) A (getItem (.ref a) u) Q E s := by
  rcases g with ⟨kvs, k, e, ey, l⟩ | ⟨kvs, k, b, e, ey, eb, l⟩
  · subst ey
    obtain ⟨z, hd, vs, rel, dd⟩ := dk_rd I.hok e
    have hn : valueAt vs k = none := RelO.none_of (by rw [l]; exact rel.val k)
    exact wpAny_getItem_missing_of (kV_is ry) hd hh dd.mapOf hn fun h' ex ne => h h' ex _ ne
  · subst ey
    cases (show u = Value.ref b from ry)
    obtain ⟨z, hd, xs, rel, dd⟩ := dt_rd I.hok e
    have hn : (atKey xs k).map (·.2) = none := RelO.none_of (by rw [l]; exact rel.val k)
    exact wpAny_getItem_missing_heap (tupleKind_room_in1 hu) (key_of I.hok eb) hd hh dd (Option.map_eq_none_iff.mp hn) fun h' ex ne => h h' ex _ ne
end
end L2
namespace L2
open PySem PySem.Spec PyProof.Rows
section
variable {κ : Type} [DecidableEq κ]
theorem valV_not {kvs : List (κ × V)} {k : κ} (h : valV kvs k = none) : ¬ k ∈ kvs.map (·.1) := by
  intro m
  obtain ⟨p, hp, e⟩ := List.mem_map.mp m
  have q : (kvs.any fun kv => decide (kv.1 = k)) = true := List.any_eq_true.mpr ⟨p, hp, decide_eq_true e⟩
  rw [valV_any, h] at q
  exact absurd q (by simp)
theorem valV_in {kvs : List (κ × V)} {k : κ} {v : V} (h : valV kvs k = some v) : k ∈ kvs.map (·.1) := by
  have q : (kvs.any fun kv => decide (kv.1 = k)) = true := by
    rw [valV_any, h]
    all_goals rfl
  obtain ⟨p, hp, e⟩ := List.any_eq_true.mp q
  exact List.mem_map.mpr ⟨p, hp, of_decide_eq_true e⟩
theorem nd_snoc : ∀ {l : List κ} {k : κ}, l.Nodup → ¬ k ∈ l → (l ++ [k]).Nodup
  | [], k, _, _ => by simp
  | a :: r, k, h, hk => by
    obtain ⟨h1, h2⟩ := List.nodup_cons.mp h
    show (a :: (r ++ [k])).Nodup
    refine List.nodup_cons.mpr ⟨fun m => ?_, nd_snoc h2 fun m => hk (List.mem_cons.mpr (Or.inr m))⟩
    rcases List.mem_append.mp m with q | q
    · exact h1 q
    · exact hk (List.mem_cons.mpr (Or.inl (List.mem_singleton.mp q).symm))
theorem nd_putK {kvs : List (κ × V)} {k : κ} (v : V) (hn : (kvs.map (·.1)).Nodup) (h : valV kvs k = none) : ((putK kvs k v).map (·.1)).Nodup := by
  rw [putK_new v h, List.map_append]
  exact nd_snoc hn (valV_not h)
theorem dropK_pos {p : κ × V} {r : List (κ × V)} {k : κ} (e : p.1 = k) : dropK (p :: r) k = dropK r k := by
  unfold dropK
  rw [List.filter_cons, if_neg (by simp [e])]
theorem dropK_neg {p : κ × V} {r : List (κ × V)} {k : κ} (e : ¬ p.1 = k) : dropK (p :: r) k = p :: dropK r k := by
  unfold dropK
  rw [List.filter_cons, if_pos (by simp [e])]
theorem dropK_no : ∀ {kvs : List (κ × V)} {k : κ}, ¬ k ∈ kvs.map (·.1) → dropK kvs k = kvs
  | [], _, _ => rfl
  | p :: r, k, h => by
    have h' : ¬ k ∈ r.map (·.1) := fun m => by
      obtain ⟨q, hq, e⟩ := List.mem_map.mp m
      exact h (List.mem_map.mpr ⟨q, List.mem_cons.mpr (Or.inr hq), e⟩)
    rw [dropK_neg fun e => h (List.mem_map.mpr ⟨p, List.mem_cons.mpr (Or.inl rfl), e⟩), dropK_no h']
theorem dropK_mem {kvs : List (κ × V)} {k : κ} {p : κ × V} (h : p ∈ dropK kvs k) : p ∈ kvs := (List.mem_filter.mp h).1
theorem nd_dropK : ∀ {kvs : List (κ × V)} {k : κ}, (kvs.map (·.1)).Nodup → ((dropK kvs k).map (·.1)).Nodup
  | [], _, _ => List.nodup_nil
  | p :: r, k, h => by
    have h : (p.1 :: r.map (·.1)).Nodup := h
    obtain ⟨h1, h2⟩ := List.nodup_cons.mp h
    by_cases e : p.1 = k
    · rw [dropK_pos e]
      exact nd_dropK h2
    · rw [dropK_neg e]
      show (p.1 :: (dropK r k).map (·.1)).Nodup
      refine List.nodup_cons.mpr ⟨fun m => h1 ?_, nd_dropK h2⟩
      obtain ⟨q, hq, eq⟩ := List.mem_map.mp m
      exact List.mem_map.mpr ⟨q, dropK_mem hq, eq⟩
theorem dropK_len : ∀ {kvs : List (κ × V)} {k : κ}, (kvs.map (·.1)).Nodup → k ∈ kvs.map (·.1) → (dropK kvs k).length + 1 = kvs.length
  | [], _, _, m => by simp at m
  | p :: r, k, h, m => by
    have h : (p.1 :: r.map (·.1)).Nodup := h
    have m : k = p.1 ∨ k ∈ r.map (·.1) := List.mem_cons.mp m
    obtain ⟨h1, h2⟩ := List.nodup_cons.mp h
    by_cases e : p.1 = k
    · subst e
      rw [dropK_pos rfl, dropK_no h1]
      all_goals rfl
    · have m' : k ∈ r.map (·.1) := m.resolve_left fun z => e z.symm
      have q := dropK_len h2 m'
      rw [dropK_neg e, List.length_cons, List.length_cons]
      omega
end
section
variable {X : Cx}
theorem call_lenD : CallR X (.builtin "len") (fun xs H Q => ∃ a kvs, xs = [V.ref a] ∧ H a = some (.dK kvs) ∧ Q (.int kvs.length) H) := by
  intro pins s σ H xs us Q I r h
  obtain ⟨a, kvs, rfl, ha, q⟩ := h
  obtain ⟨u, rfl, ru⟩ := vals1 r
  cases ru
  exact d_len I (.inl ha) fun t s' I' => ⟨.int kvs.length, H, I', ⟨t, rfl⟩, q⟩
end
end L2

namespace L2
open PySem PySem.Spec PyProof.Rows

/-! ### a comprehension's block -/
/-- the closure that a block takes -/
def closL (cells : List (Str × Addr)) : List (Str × NameKind) → List (Str × Addr) → List (Str × Addr)
  | [], cs => cs
  | (n, k) :: r, cs => closL cells r (if k = .free then (n, (cells.lookup n).getD 0) :: cs else cs)
theorem closureFor_eq {scope : Scope} {env : Env} (h : ∀ x ∈ scope.names, x.2 = .free → ∃ c, env.cells.lookup x.1 = some c) : closureFor scope env = pure (closL env.cells scope.names []) := by
  have go : ∀ (l : List (Str × NameKind)) (cs : List (Str × Addr)), (∀ x ∈ l, x.2 = .free → ∃ c, env.cells.lookup x.1 = some c) →
      (forIn l cs fun (x : Str × NameKind) (r : List (Str × Addr)) => match x with | (name, kind) => if (kind == NameKind.free) = true then do let a ← cellOf env name; pure (ForInStep.yield ((name, a) :: r)) else pure (ForInStep.yield r) : Sem (List (Str × Addr))) = pure (closL env.cells l cs) := by
    intro l
    induction l with
    | nil => intro cs _; rfl
    | cons x r ih =>
      intro cs hx
      obtain ⟨n, k⟩ := x
      have hr := fun y hy => hx y (List.mem_cons_of_mem _ hy)
      rw [List.forIn_cons]
      by_cases hk : k = .free
      · subst hk
        obtain ⟨c, hc⟩ := hx (n, .free) List.mem_cons_self rfl
        have hc' : List.lookup n env.cells = some c := hc
        have e1 : cellOf env n = pure c := by unfold cellOf; rw [hc']
        simp only [beq_self_eq_true, if_true, e1, pure_bind]
        rw [ih _ hr]
        show _ = pure (closL env.cells r (if NameKind.free = .free then (n, (env.cells.lookup n).getD 0) :: cs else cs))
        rw [if_pos rfl, hc']
        rfl
      · have hb : (k == NameKind.free) = false := by simpa using hk
        simp only [hb, Bool.false_eq_true, if_false, pure_bind]
        rw [ih _ hr]
        show _ = pure (closL env.cells r (if k = .free then (n, (env.cells.lookup n).getD 0) :: cs else cs))
        rw [if_neg hk]
  exact (congrArg (fun (m : Sem (List (Str × Addr))) => m >>= fun s => pure s) (go scope.names [] h)).trans rfl
theorem closL_mem {cells : List (Str × Addr)} {x : Str} {c : Addr} : ∀ (l : List (Str × NameKind)) (cs : List (Str × Addr)), (closL cells l cs).lookup x = some c → cs.lookup x = some c ∨ (x, NameKind.free) ∈ l ∧ c = (cells.lookup x).getD 0
  | [], _, h => .inl h
  | (n, k) :: r, cs, h => by
    unfold closL at h
    rcases closL_mem r _ h with q | ⟨q, e⟩
    · by_cases hk : k = .free
      · rw [if_pos hk] at q
        rw [List.lookup_cons] at q
        by_cases hx : x = n
        · subst hx
          rw [beq_self_eq_true] at q
          subst hk
          exact .inr ⟨List.mem_cons_self, (Option.some.inj q).symm⟩
        · have hb : (x == n) = false := by simpa using hx
          rw [hb] at q
          exact .inl q
      · rw [if_neg hk] at q
        exact .inl q
    · exact .inr ⟨List.mem_cons_of_mem _ q, e⟩
theorem closL_has {cells : List (Str × Addr)} {x : Str} : ∀ (l : List (Str × NameKind)) (cs : List (Str × Addr)), ((x, NameKind.free) ∈ l ∨ (cs.lookup x).isSome) → ((closL cells l cs).lookup x).isSome
  | [], cs, h => by
    rcases h with h | h
    · cases h
    · exact h
  | (n, k) :: r, cs, h => by
    unfold closL
    refine closL_has r _ ?_
    by_cases hk : k = .free
    · rw [if_pos hk, List.lookup_cons]
      by_cases hx : x = n
      · subst hx
        rw [beq_self_eq_true]
        exact .inr rfl
      · have hb : (x == n) = false := by simpa using hx
        rw [hb]
        rcases h with h | h
        · rcases List.mem_cons.mp h with e | e
          · cases e; exact absurd rfl hx
          · exact .inl e
        · exact .inr h
    · rw [if_neg hk]
      rcases h with h | h
      · rcases List.mem_cons.mp h with e | e
        · cases e; exact absurd rfl hk
        · exact .inl e
      · exact .inr h

theorem lookup_mem' {α β : Type} [BEq α] [LawfulBEq α] {x : α} {v : β} : ∀ {l : List (α × β)}, l.lookup x = some v → (x, v) ∈ l
  | [], h => by simp at h
  | (n, k) :: r, h => by
    rw [List.lookup_cons] at h
    by_cases e : x = n
    · subst e; rw [beq_self_eq_true] at h; cases h; exact List.mem_cons_self
    · have hb : (x == n) = false := by simpa using e
      rw [hb] at h
      exact List.mem_cons_of_mem _ (lookup_mem' h)
theorem relabel_free {env : Env} {x : Str} : ∀ {names : List (Str × NameKind)} {k' : NameKind}, (∀ y ∈ names, y.2 ≠ .cell) →
    (names.map fun (n, k) => if (k == NameKind.free && env.scope.kind == .function && env.kindOf n == some .cell) then (n, NameKind.cell) else (n, k)).lookup x = some k' → (k' = .cell ∨ k' = .free) → names.lookup x = some .free
  | [], _, _, h, _ => by simp at h
  | (n, k) :: r, k', hc, h, hk' => by
    have ih := @relabel_free env x r k' (fun y hy => hc y (List.mem_cons_of_mem _ hy))
    have hk := hc (n, k) List.mem_cons_self
    have h : List.lookup x ((if (k == NameKind.free && env.scope.kind == .function && env.kindOf n == some .cell) = true then (n, NameKind.cell) else (n, k)) :: _) = some k' := h
    by_cases hx : x = n
    · subst hx
      rw [List.lookup_cons, beq_self_eq_true]
      by_cases q : (k == NameKind.free && env.scope.kind == .function && env.kindOf x == some .cell) = true
      · simp only [Bool.and_eq_true, beq_iff_eq] at q
        show some k = some .free
        rw [q.1.1]
      · rw [if_neg q, List.lookup_cons, beq_self_eq_true] at h
        have h : some k = some k' := h
        cases h
        rcases hk' with e | e
        · exact absurd e hk
        · show some k = some .free
          rw [e]
    · have hb : (x == n) = false := by simpa using hx
      rw [List.lookup_cons, hb]
      by_cases q : (k == NameKind.free && env.scope.kind == .function && env.kindOf n == some .cell) = true
      · rw [if_pos q, List.lookup_cons, hb] at h
        exact ih h hk'
      · rw [if_neg q, List.lookup_cons, hb] at h
        exact ih h hk'
theorem relabel_of_free {env : Env} {x : Str} : ∀ {names : List (Str × NameKind)}, names.lookup x = some .free →
    (names.map fun (n, k) => if (k == NameKind.free && env.scope.kind == .function && env.kindOf n == some .cell) then (n, NameKind.cell) else (n, k)).lookup x = some .cell ∨
    (names.map fun (n, k) => if (k == NameKind.free && env.scope.kind == .function && env.kindOf n == some .cell) then (n, NameKind.cell) else (n, k)).lookup x = some .free
  | [], h => by simp at h
  | (n, k) :: r, h => by
    have ih := @relabel_of_free env x r
    show List.lookup x ((if (k == NameKind.free && env.scope.kind == .function && env.kindOf n == some .cell) = true then (n, NameKind.cell) else (n, k)) :: _) = _ ∨ List.lookup x ((if (k == NameKind.free && env.scope.kind == .function && env.kindOf n == some .cell) = true then (n, NameKind.cell) else (n, k)) :: _) = _
    by_cases hx : x = n
    · subst hx
      rw [List.lookup_cons, beq_self_eq_true] at h
      have h : some k = some .free := h
      cases h
      by_cases q : (NameKind.free == NameKind.free && env.scope.kind == .function && env.kindOf x == some .cell) = true
      · rw [if_pos q, List.lookup_cons, beq_self_eq_true]; exact .inl rfl
      · rw [if_neg q, List.lookup_cons, beq_self_eq_true]; exact .inr rfl
    · have hb : (x == n) = false := by simpa using hx
      rw [List.lookup_cons, hb] at h
      by_cases q : (k == NameKind.free && env.scope.kind == .function && env.kindOf n == some .cell) = true
      · rw [if_pos q, List.lookup_cons, hb]; exact ih h
      · rw [if_neg q, List.lookup_cons, hb]; exact ih h

def srcOk (N : List Str) (names : List (Str × NameKind)) : List (Option Nat) → List Str → Bool
  | [], [] => true
  | none :: r, _ :: n => srcOk N names r n
  | some i :: r, x :: n => N[i]? == some x && names.lookup x == some .free && srcOk N names r n
  | _, _ => false
theorem srcOk_len {N : List Str} {names : List (Str × NameKind)} : ∀ {src : List (Option Nat)} {n : List Str}, srcOk N names src n = true → src.length = n.length
  | [], [], _ => rfl
  | none :: r, _ :: n, h => by simp [srcOk_len (src := r) (n := n) h]
  | some i :: r, x :: n, h => by
    simp only [srcOk, Bool.and_eq_true] at h
    simp [srcOk_len (src := r) (n := n) h.2]
  | [], _ :: _, h => by simp [srcOk] at h
  | none :: _, [], h => by simp [srcOk] at h
  | some _ :: _, [], h => by simp [srcOk] at h
theorem srcOk_get {N : List Str} {names : List (Str × NameKind)} : ∀ {src : List (Option Nat)} {n : List Str} {j i : Nat} {x : Str}, srcOk N names src n = true → src[j]? = some (some i) → n[j]? = some x → N[i]? = some x ∧ names.lookup x = some .free
  | [], _, _, _, _, _, h, _ => by simp at h
  | _ :: _, [], _, _, _, _, _, h => by simp at h
  | none :: r, _ :: n, 0, _, _, _, h, _ => by simp at h
  | none :: r, _ :: n, j + 1, _, _, h, h1, h2 => srcOk_get (src := r) (n := n) (j := j) h (by simpa using h1) (by simpa using h2)
  | some k :: r, y :: n, 0, i, x, h, h1, h2 => by
    simp at h1 h2
    subst h1 h2
    simp only [srcOk, Bool.and_eq_true, beq_iff_eq] at h
    exact h.1
  | some _ :: r, _ :: n, j + 1, _, _, h, h1, h2 => by
    simp only [srcOk, Bool.and_eq_true] at h
    exact srcOk_get (src := r) (n := n) (j := j) h.2 (by simpa using h1) (by simpa using h2)

/-- what a block's scope is to be: its own names are local, the others free and cells outside -/
structure CompSc (X : Cx) (scope : Scope) (N' : List Str) (src : List (Option Nat)) : Prop where
  kind : scope.kind = .function
  cell : ∀ y ∈ scope.names, y.2 ≠ .cell
  names : ∀ y ∈ scope.names, y.2 = .local → scope.names.lookup y.1 = some .local
  free : ∀ y ∈ scope.names, y.2 = .free → (X.env.scope.names.lookup y.1 = some .cell ∨ X.env.scope.names.lookup y.1 = some .free)
  nd : N'.Nodup
  map : srcOk X.N scope.names src N' = true

def stC (src : List (Option Nat)) (σ : St) : St := src.map fun o => o.bind fun i => (σ[i]?).join
/-- the context of a block -/
def blk (X : Cx) (scope : Scope) (N' : List Str) (C : Addr) (s₂ : Shared) (H₂ : Hp) (fp : List Addr) : Cx :=
  { X with N := N', s₀ := s₂, H₀ := H₂, env := compEnvC scope (closL X.env.cells scope.names []) C X.env, outer := X.stack, stack := X.stack, ex := fp, fn := fun _ => false, pn := [], xe := fun _ _ => False }

section
variable {X : Cx} {pins : List (Addr × Obj)} {σ : St} {H : Hp} {s : Shared} {scope : Scope} {N' : List Str} {src : List (Option Nat)}
theorem CompSc.cells (S : CompSc X scope N' src) (I : Inv X pins σ H s) : ∀ x ∈ scope.names, x.2 = .free → ∃ c, X.env.cells.lookup x.1 = some c := fun x hx hk => I.ok.has x.1 (S.free x hx hk)
theorem CompSc.cl (S : CompSc X scope N' src) (I : Inv X pins σ H s) {x : Str} {c : Addr} (h : (closL X.env.cells scope.names []).lookup x = some c) : X.env.cells.lookup x = some c := by
  rcases closL_mem _ _ h with q | ⟨q, e⟩
  · simp at q
  · obtain ⟨d, hd⟩ := S.cells I (x, .free) q rfl
    have hd : X.env.cells.lookup x = some d := hd
    rw [hd] at e
    rw [hd, e]; rfl
theorem CompSc.clHas (S : CompSc X scope N' src) (I : Inv X pins σ H s) {x : Str} (h : scope.names.lookup x = some .free) : ∃ c, (closL X.env.cells scope.names []).lookup x = some c ∧ X.env.cells.lookup x = some c := by
  have q := closL_has (cells := X.env.cells) (x := x) scope.names [] (.inl (lookup_mem' h))
  obtain ⟨c, hc⟩ := Option.isSome_iff_exists.mp q
  exact ⟨c, hc, S.cl I hc⟩
theorem CompSc.ok (S : CompSc X scope N' src) (I : Inv X pins σ H s) {fp : List Addr} {C : Addr} (hf : ∀ b ∈ fp, FpOk X pins H b) (hlt : ∀ b ∈ fp, b < s.heap.objs.size) (hC : s.heap.objs.size ≤ C) : (blk X scope N' C s H fp).Ok where
  mod := I.mod
  kind := S.kind
  glob := I.ok.glob
  blt := I.ok.blt
  above := hC
  inj := fun x y c h1 h2 => I.ok.inj x y c (S.cl I h1) (S.cl I h2)
  has := fun x hx => by
    have q : scope.names.lookup x = some .free := by
      rcases hx with h | h
      · exact relabel_free S.cell h (.inl rfl)
      · exact relabel_free S.cell h (.inr rfl)
    obtain ⟨c, hc, _⟩ := S.clHas I q
    exact ⟨c, hc⟩
  cab := fun x c h _ => by cases h
  hd := I.ok.hd
  frames := I.ok.frames
  stk := .inl rfl
  exf := fun b hb => ⟨Nat.ne_of_lt (Nat.lt_of_lt_of_le (hlt b hb) hC), fun x c e => (hf b hb).2.2.2.2.1 x c (S.cl I e)⟩
  bs := I.bs
  bsz := Nat.le_trans I.ok.bsz I.sz
  noex := fun b o e hb => by
    rcases (hf b hb).2.2.2.1 with z | z
    · exact I.ok.noex b o e z
    · exact absurd (Nat.lt_of_lt_of_le (Heap.lt_size e) (Nat.le_trans I.ok.bsz z)) (Nat.lt_irrefl _)
  exfs := fun b hb z => by
    rcases List.mem_cons.mp (I.stkSub b z) with e | e
    · exact (hf b hb).2.1 e
    · exact (hf b hb).2.2.1 e
  funs := I.stack
  frf := I.stkFree
theorem CompSc.start (S : CompSc X scope N' src) (I : Inv X pins σ H s) {fp : List Addr} {C : Addr} {h' : Heap} {tk : Nat} {m : Str → Option Value} {pl : List (Addr × Obj)} (hf : ∀ b ∈ fp, FpOk X pins H b) (hlt : ∀ b ∈ fp, b < s.heap.objs.size) (hC : s.heap.objs.size ≤ C)
    (old : ∀ b o, s.heap.get? b = some o → h'.get? b = some o) (hns : h'.Ns C m)
    (hpl : ∀ p ∈ pl, h'.get? p.1 = some p.2 ∧ s.heap.objs.size ≤ p.1 ∧ p.1 ≠ C ∧ ∀ v, p.2.data ≠ .cell v) :
    Inv (blk X scope N' C s H fp) pl (stC src σ) H { s with heap := h', toks := tk } where
  ok := S.ok I hf hlt hC
  os := rfl
  bare := I.bare
  base := Un.kept old
  loc := by
    obtain ⟨m0, hn0, hl0⟩ := I.loc
    refine ⟨m, hns, fun j x v h1 h2 h3 => ?_⟩
    have h2 : (src.map fun o => o.bind fun i => (σ[i]?).join)[j]? = some (some v) := h2
    rw [List.getElem?_map] at h2
    cases e : src[j]? with
    | none => rw [e] at h2; cases h2
    | some o =>
      rw [e] at h2
      cases o with
      | none => cases h2
      | some i =>
        have h2 : some ((σ[i]?).join) = some (some v) := h2
        obtain ⟨e1, e2⟩ := srcOk_get S.map e h1
        have hv : σ[i]? = some (some v) := by
          cases q : σ[i]? with
          | none => rw [q] at h2; cases h2
          | some w => rw [q] at h2; cases w with
            | none => cases h2
            | some w => cases h2; rfl
        have hfr := S.free (x, .free) (lookup_mem' e2) rfl
        obtain ⟨u, r, l⟩ := hl0 i x v e1 hv (.inr hfr)
        refine ⟨u, r, .inr ⟨relabel_of_free e2, ?_⟩⟩
        obtain ⟨c, hc, hc'⟩ := S.clHas I e2
        refine ⟨c, hc, ?_⟩
        rcases l with ⟨k, _⟩ | ⟨_, c', hc2, hcell⟩
        · have k : X.env.scope.names.lookup x = some .local := k
          have hfr : X.env.scope.names.lookup x = some .cell ∨ X.env.scope.names.lookup x = some .free := hfr
          rw [k] at hfr
          rcases hfr with z | z <;> cases z
        · rw [hc'] at hc2; cases hc2
          obtain ⟨o, ho, hd⟩ := hcell
          exact ⟨o, old _ _ ho, hd⟩
  cell := fun x c e => by
    obtain ⟨v, o, ho, hd⟩ := I.cell x c (S.cl I e)
    exact ⟨v, o, old _ _ ho, hd⟩
  free := I.hok.fresh hC
  freeC := fun x c e => I.freeC x c (S.cl I e)
  pin := fun p hp => by
    obtain ⟨a, b, c, d⟩ := hpl p (by simpa [blk] using hp)
    refine ⟨a, I.hok.fresh b, c, fun z => ?_, d⟩
    rcases List.mem_cons.mp (I.stkSub _ z) with e | e
    · exact absurd (Nat.lt_of_lt_of_le I.lt (by rw [← e]; exact b)) (Nat.lt_irrefl _)
    · exact I.nofs b e
  hok := I.hok.kept old
  len := by
    show (src.map _).length = N'.length
    rw [List.length_map]
    exact srcOk_len S.map
end
end L2

namespace L2
open PySem PySem.Spec PyProof.Rows

/-! ### one turn of a comprehension: something is drawn and stored, then the tests are asked, then something is laid -/
/-- the tests of a block, one after another while they hold -/
def testsOf (ifs : List Expr) (env : Env) : Sem Bool := forIn ifs true fun c (b : Bool) => if b = true then isTrue c env (eval c env) >>= fun b => pure (.yield b) else pure (.yield b)
section
variable (M : Model) (A : Around) (env : Env) (E : Value → Shared → Prop)
def Drawn (it : Value) (tg : Expr) (stop go : Shared → Prop) (s : Shared) : Prop :=
  wpAny M A (pyNext it) (fun r t => r.elim (stop t) fun v => wpAny M A (letOwnedTupleGo tg it v) (fun _ t => wpAny M A (assign tg env v) (fun _ => go) E t) E t) E s
def Laid (ifs : List Expr) (lay : Sem Unit) (nxt : Shared → Prop) (s : Shared) : Prop :=
  wpAny M A (testsOf ifs env) (fun ok t => if ok = true then wpAny M A lay (fun _ => nxt) E t else nxt t) E s
end
def turnOf (p : Pos) (it : Value) (tg : Expr) (env : Env) (k : Sem PySem.Fin) : Sem PySem.Fin := standAt p >>= fun _ => pyNext it >>= fun r => match r with
  | none => pure (.done .next)
  | some v => letOwnedTupleGo tg it v >>= fun _ => assign tg env v >>= fun _ => k
def layOn (ifs : List Expr) (lay : Sem Unit) (env : Env) (c : Code) : Sem PySem.Fin := testsOf ifs env >>= fun ok => if ok = true then lay >>= fun _ => again c else again c
def layElt (elt : Expr) (acc : Value) (env : Env) : Sem Unit := eval elt env >>= fun x => call (.builtin "list.append") [acc, x] >>= fun _ => pure ()
section
variable {M : Model} {A : Around} {env : Env} {E : Value → Shared → Prop} {it : Value} {tg : Expr} {s : Shared}
theorem Drawn.mono {stop go stop' go' : Shared → Prop} (h : Drawn M A env E it tg stop go s) (h1 : ∀ t, stop t → stop' t) (h2 : ∀ t, go t → go' t) : Drawn M A env E it tg stop' go' s :=
  thn h fun r t q => by
    cases r
    · exact h1 t q
    · exact thn q fun _ _ q => thn q fun _ t q => h2 t q
theorem Drawn.run {p : Pos} {k : Sem PySem.Fin} {Q : PySem.Fin → Shared → Prop} (h : Drawn M A env E it tg (Q (.done .next)) (fun t => wpAny M A k Q E t) s) : wpAny M A (turnOf p it tg env k) Q E s := by
  unfold turnOf
  refine wpAny_bind (wpAny_standAt (wpAny_bind (thn h fun r t q => ?_)))
  cases r
  · exact wpAny_pure q
  · exact wpAny_bind (thn q fun _ _ q => wpAny_bind q)
theorem Laid.run {ifs : List Expr} {lay : Sem Unit} {c : Code} {Q : PySem.Fin → Shared → Prop} (h : Laid M A env E ifs lay (Q (.again c)) s) : wpAny M A (layOn ifs lay env c) Q E s := by
  unfold layOn
  refine wpAny_bind (thn h fun ok t q => ?_)
  cases ok
  · exact wpAny_pure q
  · exact wpAny_bind (thn q fun _ _ q => wpAny_pure q)
end
theorem turn_one (elt tg iter : Expr) (ifs : List Expr) (scope : Scope) (pos : Pos) (it acc : Value) (env : Env) :
    compTurn (.ListComp elt [⟨tg, iter, ifs, 0⟩] scope pos) 0 it acc env = turnOf iter.pos it tg env (layOn ifs (layElt elt acc env) env (.compLoop (.ListComp elt [⟨tg, iter, ifs, 0⟩] scope pos) 0 it acc env)) := rfl
section
variable {prog : Program} {w : World} {A : Around} {R : Result → Shared → Prop} {s : Shared} {elt tg : Expr} {gens : List Comprehension} {scope : Scope} {pos : Pos} {d : Nat} {it acc : Value} {env : Env} {p : Pos} {k : Sem PySem.Fin}
/-- what a raise within a block comes to -/
abbrev XN (prog : Program) (w : World) (A : Around) (env : Env) (R : Result → Shared → Prop) : Value → Shared → Prop := notedBy (model prog w) A env fun x t => R (.error x) t
theorem loop_turns (hb : compTurn (.ListComp elt gens scope pos) d it acc env = turnOf p it tg env k) (I : Nat → Shared → Prop)
    (turn : ∀ n s, I n s → Drawn (model prog w) A env (XN prog w A env R) it tg (R (.ok .next)) (fun t => wpAny (model prog w) A k (fun f t => f = .again (.compLoop (.ListComp elt gens scope pos) d it acc env) ∧ ∃ m, m < n ∧ I m t) (XN prog w A env R) t) s)
    (n : Nat) (h : I n s) : codeAny (model prog w) A (.compLoop (.ListComp elt gens scope pos) d it acc env) R s := by
  apply codeAny_loop rfl I _ n h
  intro n s i
  have q := turn n s i
  change wpAny _ A (Sem.onRaise (compTurn (.ListComp elt gens scope pos) d it acc env) _) _ _ s
  rw [hb]
  apply wpAny_noted
  apply Drawn.run
  exact q.mono (fun _ z => z) fun t z => thn z fun f t ⟨hf, m⟩ => by subst hf; exact ⟨rfl, m⟩
end

/-- a block's tests -/
def PTs (X : Cx) (ifs : List Expr) (t : TT) : Prop :=
  ∀ (pins : List (Addr × Obj)) (s : Shared) (σ : St) (H : Hp) (Q : Bool → Hp → Prop), Inv X pins σ H s → t σ H Q → wpAny (model X.prog X.w) X.A (testsOf ifs X.env) (TP X pins σ Q) X.xe s
def tYes : TT := fun _ H Q => Q true H
theorem pts_nil {X : Cx} : PTs X [] tYes := fun _ _ _ H _ I h => wpAny_tests_nil ⟨H, I, h⟩
theorem pts_one {X : Cx} {c : Expr} {t : TT} (h : PT X c t) : PTs X [c] t := fun pins s σ H Q I q => wpAny_tests_one (h pins s σ H Q I q)

/-- the word of a comprehension: turn, measure, what was laid so far, the block's names, the heap -/
abbrev CW := Nat → Nat → List V → St → Hp → Prop
/-- the list that a block lays out, as an object -/
abbrev laidObj (items : Array Value) (n : Nat) : Obj := { cls := .type "list", data := .seq items n }

section
variable {Y : Cx} {pins : List (Addr × Obj)} {D it : Addr} {fp : List Addr} {tn : Nat → Heap → Prop} {J : It} {W : CW} {Fin : List V → St → Hp → Prop} {R : Result → Shared → Prop} {tg : Expr} {g : TG} {Nx : Nat → Nat → List V → St → Hp → Prop}
/-- between two turns -/
def Betw (Y : Cx) (pins : List (Addr × Obj)) (D : Addr) (fp : List Addr) (tn : Nat → Heap → Prop) (W : CW) (n : Nat) (s : Shared) : Prop :=
  ∃ i σ H acc items, Inv Y pins σ H s ∧ tn i s.heap ∧ (∀ b ∈ fp, H b = none) ∧ H D = none ∧ s.heap.PlainList D items ∧ Vals acc items.toList ∧ acc.length ≤ sizeLine ∧ W i n acc σ H
/-- in the midst of a turn, behind the store: the list is pinned as it is, and so is (by more) the iterator -/
structure Mid (Y : Cx) (pins : List (Addr × Obj)) (D : Addr) (fp : List Addr) (tn : Nat → Heap → Prop) (i : Nat) (acc : List V) (more : List (Addr × Obj)) (items : Array Value) (n : Nat) : Prop where
  vals : Vals acc items.toList
  len : acc.length ≤ sizeLine
  own : ∀ p ∈ more, p.1 ∈ fp
  back : ∀ {pl : List (Addr × Obj)} {σ : St} {H : Hp} {s : Shared}, (∀ p ∈ more, p ∈ pl) → Inv Y pl σ H s → tn i s.heap ∧ ∀ b ∈ fp, H b = none
/-- what holds of the list's place and of the iterator's whatever comes -/
structure Place (Y : Cx) (pins : List (Addr × Obj)) (D : Addr) (fp : List Addr) : Prop where
  off : D ∉ fp
  list : ∀ H : Hp, H D = none → FpOk Y pins H D
  iter : ∀ H : Hp, (∀ b ∈ fp, H b = none) → ∀ b ∈ fp, FpOk Y pins H b
theorem pin_in {a : Addr × Obj} {pn pins more : List (Addr × Obj)} : a ∈ pn ++ (pins ++ a :: more) := by simp
theorem Place.pin {σ : St} {H : Hp} {s : Shared} {items : Array Value} {n : Nat} (P : Place Y pins D fp) (I : Inv Y pins σ H s) (hD : H D = none) (ho : s.heap.get? D = some (laidObj items n)) : Inv Y (pins ++ [(D, laidObj items n)]) σ H s := by
  refine I.pins_of fun p hp => ?_
  simp only [List.mem_append, List.mem_singleton] at hp
  rcases hp with hp | rfl
  · exact I.pin p (List.mem_append_right _ hp)
  · have f := P.list H hD
    exact ⟨ho, f.1, f.2.1, f.2.2.1, fun _ z => nomatch z⟩
theorem Place.more {items : Array Value} {n : Nat} (P : Place Y pins D fp) (H : Hp) (hn : ∀ b ∈ fp, H b = none) (b : Addr) (hb : b ∈ fp) : FpOk Y (pins ++ [(D, laidObj items n)]) H b := by
  have f := P.iter H hn b hb
  refine ⟨f.1, f.2.1, f.2.2.1, f.2.2.2.1, f.2.2.2.2.1, fun p hp z => ?_⟩
  rw [← List.append_assoc, List.mem_append, List.mem_singleton] at hp
  rcases hp with hp | rfl
  · exact f.2.2.2.2.2 p hp z
  · exact P.off (show D ∈ fp from (show D = b from z) ▸ hb)
/-- behind a turn the list is as it was -/
theorem Mid.list {i : Nat} {acc : List V} {more : List (Addr × Obj)} {items : Array Value} {n : Nat} {σ : St} {H : Hp} {s : Shared} (I : Inv Y (pins ++ (D, laidObj items n) :: more) σ H s) : H D = none ∧ s.heap.get? D = some (laidObj items n) ∧ Inv Y pins σ H s := by
  have q := I.pin (D, laidObj items n) pin_in
  exact ⟨q.2.1, q.1, I.pins_of fun p hp => I.pin p (by simp [hp])⟩
theorem draw_turn (hc : Y.calm = true) (hx : ∀ e s, ¬ Y.xe e s) (T : Turn Y.prog Y.w Y.K tg J fp it tn) (P : Place Y pins D fp) (hg : PG Y tg g)
    (turn : ∀ i m acc σ H, W i m acc σ H → (J.stop i H ∧ Fin acc σ H) ∨ (J.go i H ∧ ∀ x H', J.yld i H x H' → g x σ H' (Nx i m acc)))
    (hR : ∀ s σ H acc items, Inv Y pins σ H s → H D = none → s.heap.PlainList D items → Vals acc items.toList → acc.length ≤ sizeLine → Fin acc σ H → R (.ok .next) s)
    (n : Nat) (s : Shared) (B : Betw Y pins D fp tn W n s) {E : Value → Shared → Prop} :
    Drawn (model Y.prog Y.w) Y.A Y.env E (.ref it) tg (R (.ok .next))
      (fun t => ∃ i acc items k more σ H, Mid Y pins D fp tn (i + 1) acc more items k ∧ Inv Y (pins ++ (D, laidObj items k) :: more) σ H t ∧ Nx i n acc σ H) s := by
  obtain ⟨i, σ, H, acc, items, I, st, fr, fD, ⟨k, ho⟩, rv, hz, w⟩ := B
  have Ip := P.pin I fD ho
  rcases turn i n acc σ H w with ⟨stop, fin⟩ | ⟨go, step⟩
  · refine thn (T.done Y rfl rfl rfl hc i _ s σ H _ Ip (P.more H fr) st stop) fun r t ⟨hr, It⟩ => ?_
    subst hr
    obtain ⟨l1, l2, l3⟩ := Mid.list (i := i) (acc := acc) It
    exact hR t σ H acc items l3 l1 ⟨k, l2⟩ rv hz fin
  · refine thn (T.item Y rfl rfl rfl hc i _ s σ H _ Ip (P.more H fr) st go) fun r t ⟨u, hr, q⟩ => ?_
    subst hr
    refine thn q fun _ t1 ⟨x, H1, I1, r1, y1, st1, fr1⟩ => ?_
    have I1p := I1.pinned (P.more H1 fr1) (T.obj _ _ st1)
    rw [List.append_assoc] at I1p
    refine wpAny_mono (hg _ t1 σ H1 x u _ I1p r1 (step x H1 y1)) (fun _ t2 ⟨σ2, H2, I2, q2⟩ => ?_) fun e t z => (hx e t z).elim
    refine ⟨i, acc, items, k, pinsAt fp t1.heap, σ2, H2, ⟨rv, hz, fun p hp => (of_pinsAt hp).1, fun {pl σ3 H3 s3} sub I3 => ?_⟩, I2, q2⟩
    have at3 : ∀ b ∈ fp, ∀ o, t1.heap.get? b = some o → s3.heap.get? b = some o ∧ H3 b = none := fun b hb o e => by
      have z := I3.pin (b, o) (List.mem_append_right _ (sub _ (mem_pinsAt hb e)))
      exact ⟨z.1, z.2.1⟩
    refine ⟨T.keep _ _ _ st1 fun b hb o e => (at3 b hb o e).1, fun b hb => ?_⟩
    obtain ⟨o, e, _⟩ := T.obj _ _ st1 b hb
    exact (at3 b hb o e).2
/-- the tests, and what is laid -/
theorem lay_turn {ifs : List Expr} {elt : Expr} {tt : TT} {te : TE} {i n k : Nat} {acc : List V} {more : List (Addr × Obj)} {items : Array Value} {σ : St} {H : Hp} {t : Shared} {E : Value → Shared → Prop} (hx : ∀ e s, ¬ Y.xe e s) (P : Place Y pins D fp) (T : Turn Y.prog Y.w Y.K tg J fp it tn) (ht : PTs Y ifs tt) (he : PE Y elt te)
    (B : Mid Y pins D fp tn (i + 1) acc more items k) (I : Inv Y (pins ++ (D, laidObj items k) :: more) σ H t)
    (q : tt σ H fun b H3 => if b = true then te σ H3 fun y H4 => acc.length < sizeLine ∧ ∃ m', m' < n ∧ W (i + 1) m' (acc ++ [y]) σ H4 else ∃ m', m' < n ∧ W (i + 1) m' acc σ H3) :
    Laid (model Y.prog Y.w) Y.A Y.env E ifs (layElt elt (.ref D) Y.env) (fun t => ∃ m, m < n ∧ Betw Y pins D fp tn W m t) t := by
  refine wpAny_mono (ht _ t σ H _ I q) (fun ok t1 ⟨H1, I1, q1⟩ => ?_) fun e t z => (hx e t z).elim
  cases ok
  · rw [if_neg Bool.false_ne_true] at q1 ⊢
    obtain ⟨m, hm, w⟩ := q1
    obtain ⟨b1, b2⟩ := B.back (fun p hp => by simp [hp]) I1
    obtain ⟨l1, l2, l3⟩ := Mid.list (i := i) (acc := acc) I1
    exact ⟨m, hm, i + 1, σ, H1, acc, items, l3, b1, b2, l1, ⟨k, l2⟩, B.vals, B.len, w⟩
  · rw [if_pos rfl] at q1 ⊢
    refine wpAny_bind (wpAny_mono (he _ t1 σ H1 _ I1 q1) (fun y t2 ⟨yv, H2, I2, r2, hl, m, hm, w⟩ => ?_) fun e t z => (hx e t z).elim)
    obtain ⟨b1, b2⟩ := B.back (fun p hp => by simp [hp]) I2
    obtain ⟨l1, l2, l3⟩ := Mid.list (i := i) (acc := acc) I2
    have small : items.size ≤ sizeLine := by rw [← Array.length_toList, ← B.vals.length]; exact B.len
    refine wpAny_bind (wpAny_list_append_plain (hsz := small) ⟨k, l2⟩ fun h3 p3 s3 => wpAny_pure ?_)
    have f := P.list H2 l1
    have far : ∀ b o, b ≠ D → t2.heap.get? b = some o → h3.get? b = some o := fun b o hb e => s3.extBut b o hb e
    refine ⟨m, hm, i + 1, σ, H2, acc ++ [yv], items.push y, l3.turned (t' := t2.toks) far f.1 f.2.1 f.2.2.2.1 f.2.2.2.2.1 f.2.2.2.2.2, T.keep _ _ _ b1 fun b hb o e => far b o (fun z => P.off (z ▸ hb)) e, b2, l1, p3, ?_, ?_, w⟩
    · rw [Array.toList_push]
      exact B.vals.append (.cons r2 .nil)
    · rw [List.length_append]
      exact hl
end

def CTurn (J : It) (g : TG) (tt : TT) (te : TE) (Fin : List V → Hp → Prop) (W : CW) : Prop := ∀ i m acc σ H, W i m acc σ H →
  (J.stop i H ∧ Fin acc H) ∨
  (J.go i H ∧ ∀ x H', J.yld i H x H' → g x σ H' fun σ2 H2 => tt σ2 H2 fun b H3 =>
    if b = true then te σ2 H3 fun y H4 => acc.length < sizeLine ∧ ∃ m', m' < m ∧ W (i + 1) m' (acc ++ [y]) σ2 H4 else ∃ m', m' < m ∧ W (i + 1) m' acc σ2 H3)
def tComp (src : List (Option Nat)) (wi : TI) (g : TG) (tt : TT) (te : TE) : TE := fun σ H Q => wi σ H fun J H1 => ∃ W : CW, (∃ m, W 0 m [] (stC src σ) H1) ∧ CTurn J g tt te (fun acc H => ∀ p, H p = none → Q (.ref p) (upd H p (.lst acc))) W

section
variable {X : Cx} {scope : Scope} {N' : List Str} {src : List (Option Nat)} {pins : List (Addr × Obj)} {σ : St} {H₂ : Hp} {s₂ : Shared} {fp : List Addr} {it : Addr} {tn : Nat → Heap → Prop} {J : It} {tg : Expr}
/-- behind the block -/
theorem blk_out {pl : List (Addr × Obj)} {σc : St} {H' : Hp} {s' : Shared} {C D : Addr} {acc : List V} {items : Array Value} (I2 : Inv X pins σ H₂ s₂) (hf : ∀ b ∈ fp, FpOk X pins H₂ b)
    (I' : Inv (blk X scope N' C s₂ H₂ fp) pl σc H' s') (hD : s₂.heap.objs.size ≤ D) (hDn : H' D = none) (hz : acc.length ≤ sizeLine) (r : Vals acc items.toList) (hp : s'.heap.PlainList D items) : Inv X pins σ (upd H' D (.lst acc)) s' := by
  have u := I'.base
  have neD : ∀ b o, s₂.heap.get? b = some o → b ≠ D := fun b o e => Nat.ne_of_lt (Nat.lt_of_lt_of_le (Heap.lt_size e) hD)
  have neT : ∀ b o, H' b = some o → b ≠ D := fun b o e z => by rw [z, hDn] at e; cases e
  refine I2.call' (ch := fp) I'.os ⟨u.keep, u.slot, fun b o e n hx => ?_, u.there, fun b xs e => ?_, fun b o xs e => ?_, fun b ps e => ?_⟩ (fun b o e => ?_) I'.bare fun b hb => ?_
  · rw [upd_ne (neD b o e)]; exact u.free b o e n hx
  · have q := u.tups b xs e
    rw [upd_ne (neT b _ q)]; exact q
  · have q := u.frzs b o xs e
    rw [upd_ne (neT b _ q)]; exact q
  · obtain ⟨more, q⟩ := u.tbls b ps e
    exact ⟨more, by rw [upd_ne (neT b _ q)]; exact q⟩
  · by_cases hb : b = D
    · subst hb
      rw [upd_same] at e
      cases e
      obtain ⟨n, ho⟩ := hp
      exact ⟨hz, items.toList, n, r, by simpa using ho⟩
    · rw [upd_ne hb] at e
      exact (I'.hok b o e).stay (fun _ _ _ q => q) (fun c q => by rw [upd_ne (neT c _ q)]; exact q) fun c xs q => by rw [upd_ne (neT c _ q)]; exact q
  · obtain ⟨f0, f1, f2, f3, f4, f5⟩ := hf b hb
    exact ⟨f3, f1, f4, f5⟩

/-- the block as it begins: its list at D, its names at C -/
structure Begun (X : Cx) (scope : Scope) (N' : List Str) (src : List (Option Nat)) (s₂ : Shared) (H₂ : Hp) (σ : St) (fp : List Addr) (tn : Nat → Heap → Prop) (D C : Addr) (t : Shared) : Prop where
  at_ : s₂.heap.objs.size = D
  le : s₂.heap.objs.size ≤ C
  ne : D ≠ C
  place : Place (blk X scope N' C s₂ H₂ fp) [] D fp
  betw : ∀ W : CW, (∃ m, W 0 m [] (stC src σ) H₂) → ∃ m, Betw (blk X scope N' C s₂ H₂ fp) [] D fp tn W m t
  turn : tn 0 t.heap
/-- a heap to which one thing was added and then one more, this one filled -/
theorem two_more {h h' : Heap} {o o' : Obj} (ho : o.isFreed = false) (hs : Heap.SameBut (h.push o).objs.size ((h.push o).push o') h') : (∀ b x, h.get? b = some x → h'.get? b = some x) ∧ h'.get? h.objs.size = some o := by
  have key : ∀ b x, (h.push o).get? b = some x → h'.get? b = some x := fun b x e => hs.extBut b x (Nat.ne_of_lt (Heap.lt_size e)) (Heap.get?_push_of_some o' e)
  exact ⟨fun b x e => key b x (Heap.get?_push_of_some o e), key _ _ (Heap.get?_push_size h ho)⟩
theorem begin_block {gens : List Comprehension} {elt iter : Expr} {ifs : List Expr} {pos : Pos} {RR : Value → Addr → Result → Shared → Prop} {E : Value → Shared → Prop} (S : CompSc X scope N' src) (I2 : Inv X pins σ H₂ s₂) (T : Turn X.prog X.w X.K tg J fp it tn) (st2 : tn 0 s₂.heap) (hf : ∀ b ∈ fp, FpOk X pins H₂ b)
    (k : ∀ D C t, Begun X scope N' src s₂ H₂ σ fp tn D C t → codeAny (model X.prog X.w) X.A (.compLoop (.ListComp elt (⟨tg, iter, ifs, 0⟩ :: gens) scope pos) 0 (.ref it) (.ref D) (blk X scope N' C s₂ H₂ fp).env) (RR (.ref D) C) t) :
    wpAny (model X.prog X.w) X.A (newList []) (fun acc s₃ => wpAny (model X.prog X.w) X.A (newFunctionEnv scope X.env.globals (closL X.env.cells scope.names []) [] X.env.qual none .none (some X.env)) (fun cenv s₄ =>
      codeAny (model X.prog X.w) X.A (.compStart (.ListComp elt (⟨tg, iter, ifs, 0⟩ :: gens) scope pos) 0 (.ref it) acc { cenv with scope := relabel scope X.env }) (RR acc cenv.locals) s₄) E s₃) E s₂ := by
  refine wpAny_newObj_type ?_
  refine wpAny_newFunctionEnv S.cell (fun _ z => nomatch z) (fun h₁ ns sb => ?_) S.kind
  obtain ⟨old, new⟩ := two_more rfl sb
  have sz : (s₂.heap.push { cls := .type "list", dict := none, data := .seq ([] : List Value).toArray }).objs.size = s₂.heap.objs.size + 1 := Heap.size_push ..
  dsimp only at ns old new ⊢
  rw [sz] at ns ⊢
  have lt : ∀ b ∈ fp, b < s₂.heap.objs.size := fun b hb => let ⟨_, e, _⟩ := T.obj 0 _ st2 b hb; Heap.lt_size e
  have st1 : tn 0 h₁ := T.keep _ _ _ st2 fun b _ o e => old b o e
  have off : s₂.heap.objs.size ∉ fp := fun z => Nat.lt_irrefl _ (lt _ z)
  have I1 := S.start (tk := s₂.toks + ([] : List (Str × Value)).length) (pl := []) I2 hf lt (Nat.le_succ _) old ns (fun _ z => nomatch z)
  have pl : Place (blk X scope N' (s₂.heap.objs.size + 1) s₂ H₂ fp) [] s₂.heap.objs.size fp := by
    refine ⟨off, fun H hn => ?_, fun H hn b hb => ?_⟩
    · have f := I2.fpOk (Nat.le_refl _) hn
      refine ⟨hn, Nat.ne_of_lt (Nat.lt_succ_self _), fun z => ?_, .inr (Nat.le_refl _), fun x c e => f.2.2.2.2.1 x c (S.cl I2 e), fun _ z => nomatch z⟩
      exact (List.mem_cons.mp (I2.stkSub _ z)).elim f.2.1 f.2.2.1
    · exact ⟨hn b hb, Nat.ne_of_lt (Nat.lt_succ_of_lt (lt b hb)), I1.ok.exfs b hb, .inl hb, fun x c e => (hf b hb).2.2.2.2.1 x c (S.cl I2 e), fun _ z => nomatch z⟩
  have bg : Begun X scope N' src s₂ H₂ σ fp tn s₂.heap.objs.size (s₂.heap.objs.size + 1) { s₂ with heap := h₁, toks := s₂.toks + ([] : List (Str × Value)).length } :=
    ⟨rfl, Nat.le_succ _, Nat.ne_of_lt (Nat.lt_succ_self _), pl, fun W ⟨m, w⟩ => ⟨m, 0, _, H₂, [], #[], I1, st1, fun b hb => (hf b hb).1, I2.hok.fresh (Nat.le_refl _), ⟨_, new⟩, .nil, Nat.zero_le _, w⟩, st1⟩
  have go := k _ _ _ bg
  exact codeAny_compStart_list go (T.self _ 0 _ _ _ st1 go)
/-- where a block ends, the outer context has its list -/
theorem Begun.out {D C : Addr} {t s : Shared} {H' : Hp} {acc : List V} {items : Array Value} {σc : St} (B : Begun X scope N' src s₂ H₂ σ fp tn D C t) (I2 : Inv X pins σ H₂ s₂) (hf : ∀ b ∈ fp, FpOk X pins H₂ b) (I : Inv (blk X scope N' C s₂ H₂ fp) [] σc H' s) (hD : H' D = none) (hp : s.heap.PlainList D items) (r : Vals acc items.toList) (hz : acc.length ≤ sizeLine) :
    H' C = none ∧ (∃ m, s.heap.Ns C m) ∧ Inv X pins σ (upd H' D (.lst acc)) s :=
  ⟨I.free, ⟨_, I.loc.choose_spec.1⟩, blk_out I2 hf I (Nat.le_of_eq B.at_) hD hz r hp⟩
variable {elt iter : Expr} {ifs : List Expr} {pos : Pos} {g : TG} {tt : TT} {te : TE}
theorem comp_block {W : CW} {Fin : List V → Hp → Prop} {RR : Value → Addr → Result → Shared → Prop} {E : Value → Shared → Prop}
    (hc : X.calm = true) (S : CompSc X scope N' src) (I2 : Inv X pins σ H₂ s₂) (T : Turn X.prog X.w X.K tg J fp it tn) (st2 : tn 0 s₂.heap) (hf : ∀ b ∈ fp, FpOk X pins H₂ b)
    (hg : ∀ C, PG (blk X scope N' C s₂ H₂ fp) tg g) (ht : ∀ C, PTs (blk X scope N' C s₂ H₂ fp) ifs tt) (he : ∀ C, PE (blk X scope N' C s₂ H₂ fp) elt te)
    (w0 : ∃ m, W 0 m [] (stC src σ) H₂) (turn : CTurn J g tt te Fin W)
    (hRR : ∀ D C s' H' acc, s₂.heap.objs.size ≤ C → H' C = none → D ≠ C → (∃ m, s'.heap.Ns C m) → Inv X pins σ (upd H' D (.lst acc)) s' → H' D = none → Fin acc H' → RR (.ref D) C (.ok .next) s') :
    wpAny (model X.prog X.w) X.A (newList []) (fun acc s₃ => wpAny (model X.prog X.w) X.A (newFunctionEnv scope X.env.globals (closL X.env.cells scope.names []) [] X.env.qual none .none (some X.env)) (fun cenv s₄ =>
      codeAny (model X.prog X.w) X.A (.compStart (.ListComp elt [⟨tg, iter, ifs, 0⟩] scope pos) 0 (.ref it) acc { cenv with scope := relabel scope X.env }) (RR acc cenv.locals) s₄) E s₃) E s₂ := by
  refine begin_block S I2 T st2 hf fun D C t B => ?_
  obtain ⟨m, b⟩ := B.betw W w0
  refine loop_turns (turn_one ..) (Betw (blk X scope N' C s₂ H₂ fp) [] D fp tn W) (fun n s b => ?_) m b
  refine (draw_turn (Y := blk X scope N' C s₂ H₂ fp) hc (fun _ _ z => z) T B.place (hg C) turn (fun s σc H acc items I hD hp r hz fin => ?_) n s b).mono (fun _ z => z) ?_
  · obtain ⟨o1, o2, o3⟩ := B.out I2 hf I hD hp r hz
    exact hRR D C s H acc B.le o1 B.ne o2 o3 hD fin
  · rintro t ⟨i, acc, items, k, more, σ3, H3, mid, I3, q3⟩
    exact Laid.run (thn (lay_turn (W := W) (fun _ _ z => z) B.place T (ht C) (he C) mid I3 q3) fun ok t q => by
      cases ok
      · exact ⟨rfl, q⟩
      · exact thn q fun _ _ q => ⟨rfl, q⟩)
/-- what is told at a block's end, where the value goes on -/
theorem end_none {Q : VK} {D C : Addr} {s' : Shared} {H' : Hp} {acc : List V} (I2 : Inv X pins σ H₂ s₂) (hC : s₂.heap.objs.size ≤ C) (hCn : H' C = none) (hDC : D ≠ C) (hns : ∃ m, s'.heap.Ns C m) (I' : Inv X pins σ (upd H' D (.lst acc)) s') (q : Q (.ref D) (upd H' D (.lst acc))) :
    compPost (model X.prog X.w) X.A X.xe none (EP X pins σ Q) (.ref D) C (.ok .next) s' := by
  obtain ⟨m, hn⟩ := hns
  have f := I2.fpOk (H' := upd H' D (.lst acc)) hC (by rw [upd_ne (Ne.symm hDC)]; exact hCn)
  exact ⟨m, hn, fun h' hs' => ⟨.ref D, _, I'.turned (t' := s'.toks) (fun b o hb e => hs'.extBut b o hb e) f.1 f.2.1 f.2.2.2.1 f.2.2.2.2.1 f.2.2.2.2.2, rfl, q⟩⟩
/-- and where it is stored under a name -/
theorem end_name {D' : Ends} {D C : Addr} {s' : Shared} {H' : Hp} {acc : List V} {i : Nat} {y : Str} {py : Pos} (hN : X.N.Nodup) (hiy : X.N[i]? = some y) (hy : X.env.scope.names.lookup y = some .local) (I2 : Inv X pins σ H₂ s₂) (hC : s₂.heap.objs.size ≤ C) (hCn : H' C = none) (hDC : D ≠ C) (hns : ∃ m, s'.heap.Ns C m) (I' : Inv X pins σ (upd H' D (.lst acc)) s') (q : D'.nx (σ.set i (some (.ref D))) (upd H' D (.lst acc))) :
    compPost (model X.prog X.w) X.A X.xe (some (assign (.Name y py) X.env)) (fun _ s' => SP X pins D' .next s') (.ref D) C (.ok .next) s' := by
  obtain ⟨m, hn⟩ := hns
  have f := I2.fpOk (H' := upd H' D (.lst acc)) hC (by rw [upd_ne (Ne.symm hDC)]; exact hCn)
  refine wpAny_assign_Name (store_ok2 I' hN hiy (.inl hy) (v := .ref D) rfl (fun t It ⟨a, sb, ha⟩ => ?_) (.inr hy))
  have ne : C ≠ a := ha.elim (fun e => e ▸ f.2.1) fun e z => f.2.2.2.2.1 y a e z.symm
  exact ⟨m, hn.sameBut sb ne, fun h' hs' => ⟨_, _, It.turned (t' := t.toks) (fun b o hb e => hs'.extBut b o hb e) f.1 f.2.1 f.2.2.2.1 f.2.2.2.2.1 f.2.2.2.2.2, q⟩⟩

/-- the store of a comprehension under a name, read as the comprehension with that use -/
theorem used_name {gens : List Comprehension} {y : Str} {py spos : Pos} {Q : Flow → Shared → Prop} {s : Shared} (hsw : swapsWith (.ListComp elt gens scope pos) (some (.Name y py)) spos.line X.env = pure true)
    (h : wpAny (model X.prog X.w) X.A (comprehension (.ListComp elt gens scope pos) scope X.env (firstIterPos gens pos) (newList []) (firstAsync gens) (firstIter gens X.env) (some (assign (.Name y py) X.env))) (fun _ => Q .next) X.xe s) :
    wpAny (model X.prog X.w) X.A (exec (.Assign [.Name y py] (.ListComp elt gens scope pos) spos) X.env) Q X.xe s := by
  have u : wpAny (model X.prog X.w) X.A (evalThenUse (.ListComp elt gens scope pos) X.env (assign (.Name y py) X.env)) (fun _ => Q .next) X.xe s := wpAny_bind (thn h fun _ _ q => wpAny_pure q)
  exact (exec_Assign_Name_used y py _ spos hsw) ▸ wpAny_bind (wpAny_standAt (wpAny_bind (thn u fun _ _ q => wpAny_pure q)))
/-- a comprehension whose first iterable is at hand: what it does, whatever is done with the value -/
theorem comp_free {gens : List Comprehension} {wi : TI} {use : Option (Value → Sem Unit)} {Q : Value → Shared → Prop} {s : Shared} {H : Hp} {K : It → Hp → Prop} {ps : Pos} (S : CompSc X scope N' src) (hi : PI X tg iter wi) (hs : ∀ x, foldedSetIterable iter X.env x = pure x) (I : Inv X pins σ H s) (h : wi σ H K)
    (k : ∀ s₂ H₂ it fp tn J, Inv X pins σ H₂ s₂ → Turn X.prog X.w X.K tg J fp it tn → tn 0 s₂.heap → (∀ b ∈ fp, FpOk X pins H₂ b) → K J H₂ →
      wpAny (model X.prog X.w) X.A (newList []) (fun acc s₃ => wpAny (model X.prog X.w) X.A (newFunctionEnv scope X.env.globals (closL X.env.cells scope.names []) [] X.env.qual none .none (some X.env)) (fun cenv s₄ =>
        codeAny (model X.prog X.w) X.A (.compStart (.ListComp elt (⟨tg, iter, ifs, 0⟩ :: gens) scope pos) 0 (.ref it) acc { cenv with scope := relabel scope X.env }) (compPost (model X.prog X.w) X.A X.xe use Q acc cenv.locals) s₄) X.xe s₃) X.xe s₂) :
    wpAny (model X.prog X.w) X.A (comprehension (.ListComp elt (⟨tg, iter, ifs, 0⟩ :: gens) scope pos) scope X.env ps (newList []) false (eval iter X.env) use) Q X.xe s := by
  refine wpAny_comprehension_free rfl hs (closureFor_eq (S.cells I)) S.kind S.names (thn (hi pins s σ H K I h) fun _ _ q => thn q ?_)
  rintro _ s₂ ⟨it, fp, tn, J, H₂, rfl, I2, T, st, f, q⟩
  exact k s₂ H₂ it fp tn J I2 T st f q
theorem pe_comp {wi : TI} (hc : X.calm = true) (S : CompSc X scope N' src) (hi : PI X tg iter wi) (hg : ∀ C s H fp, PG (blk X scope N' C s H fp) tg g) (ht : ∀ C s H fp, PTs (blk X scope N' C s H fp) ifs tt) (he : ∀ C s H fp, PE (blk X scope N' C s H fp) elt te)
    (hs : ∀ x, foldedSetIterable iter X.env x = pure x := by intro _; rfl) : PE X (.ListComp elt [⟨tg, iter, ifs, 0⟩] scope pos) (tComp src wi g tt te) := by
  intro pins s σ H Q I h
  rw [eval_ListComp]
  refine comp_free S hi hs I h fun s₂ H₂ it fp tn J I2 T st f ⟨W, w0, turn⟩ => ?_
  exact comp_block hc S I2 T st f (fun C => hg C s₂ H₂ fp) (fun C => ht C s₂ H₂ fp) (fun C => he C s₂ H₂ fp) w0 turn fun D C s' H' acc a1 a2 a3 a4 a5 a6 fin => end_none I2 a1 a2 a3 a4 a5 (fin D a6)
/-- y = [..], where the store is exchanged with the block's end -/
theorem ps_comp {wi : TI} {i : Nat} {y : Str} {py spos : Pos} (hN : X.N.Nodup) (hiy : X.N[i]? = some y) (hy : X.env.scope.names.lookup y = some .local) (hsw : swapsWith (.ListComp elt [⟨tg, iter, ifs, 0⟩] scope pos) (some (.Name y py)) spos.line X.env = pure true)
    (hc : X.calm = true) (S : CompSc X scope N' src) (hi : PI X tg iter wi) (hg : ∀ C s H fp, PG (blk X scope N' C s H fp) tg g) (ht : ∀ C s H fp, PTs (blk X scope N' C s H fp) ifs tt) (he : ∀ C s H fp, PE (blk X scope N' C s H fp) elt te)
    (hs : ∀ x, foldedSetIterable iter X.env x = pure x := by intro _; rfl) : PS X (.Assign [.Name y py] (.ListComp elt [⟨tg, iter, ifs, 0⟩] scope pos) spos) (tAsg (tComp src wi g tt te) (gName i)) := by
  intro pins s σ H D I h
  refine used_name hsw ?_
  refine comp_free S hi hs I h fun s₂ H₂ it fp tn J I2 T st f ⟨W, w0, turn⟩ => ?_
  exact comp_block hc S I2 T st f (fun C => hg C s₂ H₂ fp) (fun C => ht C s₂ H₂ fp) (fun C => he C s₂ H₂ fp) w0 turn fun D C s' H' acc a1 a2 a3 a4 a5 a6 fin => end_name hN hiy hy I2 a1 a2 a3 a4 a5 (fin D a6)
end
end L2

namespace L2
open PySem PySem.Spec PyProof.Rows

def nodupB : List Str → Bool
  | [] => true
  | x :: r => !r.contains x && nodupB r
theorem nodupB_ok : ∀ {l : List Str}, nodupB l = true → l.Nodup
  | [], _ => List.nodup_nil
  | x :: r, h => by
    simp only [nodupB, Bool.and_eq_true, Bool.not_eq_true', List.contains_eq_mem, decide_eq_false_iff_not] at h
    exact List.nodup_cons.mpr ⟨h.1, nodupB_ok h.2⟩
def compB (N : List Str) (names : List (Str × NameKind)) (scope : Scope) (N' : List Str) (src : List (Option Nat)) : Bool :=
  decide (scope.kind = .function) && scope.names.all (fun y => decide (y.2 ≠ .cell)) && scope.names.all (fun y => decide (y.2 ≠ .local) || decide (scope.names.lookup y.1 = some .local)) &&
  scope.names.all (fun y => decide (y.2 ≠ .free) || (decide (names.lookup y.1 = some .cell) || decide (names.lookup y.1 = some .free))) && nodupB N' && srcOk N scope.names src N'
theorem CompSc.by {X : Cx} {N : List Str} {names : List (Str × NameKind)} {scope : Scope} {N' : List Str} {src : List (Option Nat)} (h : compB N names scope N' src = true) (hN : X.N = N) (hE : X.env.scope.names = names) : CompSc X scope N' src := by
  subst hN hE
  simp only [compB, Bool.and_eq_true, List.all_eq_true, Bool.or_eq_true, decide_eq_true_eq] at h
  obtain ⟨⟨⟨⟨⟨h1, h2⟩, h3⟩, h4⟩, h5⟩, h6⟩ := h
  exact ⟨h1, h2, fun y hy hk => (h3 y hy).resolve_left fun z => z hk, fun y hy hk => (h4 y hy).resolve_left fun z => z hk, nodupB_ok h5, h6⟩
theorem srcOk_mono {N : List Str} {names : List (Str × NameKind)} : ∀ {src : List (Option Nat)} {n : List Str}, srcOk [] names src n = true → srcOk N names src n = true
  | [], [], _ => rfl
  | none :: r, _ :: n, h => srcOk_mono (src := r) (n := n) h
  | some i :: r, x :: n, h => by simp [srcOk] at h
  | [], _ :: _, h => by simp [srcOk] at h
  | none :: _, [], h => by simp [srcOk] at h
  | some _ :: _, [], h => by simp [srcOk] at h
/-- a block that takes no names from outside -/
theorem CompSc.by0 {X : Cx} {scope : Scope} {N' : List Str} {src : List (Option Nat)} (h : compB [] [] scope N' src = true) : CompSc X scope N' src := by
  simp only [compB, Bool.and_eq_true, List.all_eq_true, Bool.or_eq_true, decide_eq_true_eq] at h
  obtain ⟨⟨⟨⟨⟨h1, h2⟩, h3⟩, h4⟩, h5⟩, h6⟩ := h
  refine ⟨h1, h2, fun y hy hk => (h3 y hy).resolve_left fun z => z hk, fun y hy hk => ?_, nodupB_ok h5, srcOk_mono h6⟩
  rcases (h4 y hy).resolve_left fun z => z hk with z | z <;> cases z

/-- a def of the text that may be called -/
def Own (P : Program) (w : World) (K : PySem.W.Frag) (mg : Str → Option Value) (base : Heap) (CX : CXT) (k : Nat) (x : Str) (sp : Sp) : Prop :=
  ∃ f fd ps, FnOk P w K mg base CX k f fd ps sp ∧ mg x = some (.ref f) ∧ PySem.W.keepIn K (.ref f) = true ∧ Binds K fd ps []
section
variable {X : Cx} {CX : CXT} {k : Nat} {sp : Sp} {E : XK} {x : Str} {p pos : Pos} {e : Expr} {es : List Expr} {t : TA}
theorem pe_own (O : Own X.prog X.w X.K X.mg X.base CX k x sp) (hr : Room k X.A) (hx : Passes CX X E) (hg : Gl X x) (ha : PA X (e :: es) t) (hdb : (x == ("__debug__" : Str)) = false := by decide)
    (he : starEach (e :: es) X.env = (false, eval e X.env) :: starEach es X.env := by rfl) (hpl : (backTo pos (starEach es X.env)).any (·.1) = false := by rfl) : PE X (.Call (.Name x p) (e :: es) [] pos) (tCall sp [] E t) := by
  obtain ⟨f, fd, ps, F, hm, hk, hb⟩ := O
  exact pe_call F hr hg hm hk hb .nil hx ha hdb he hpl
theorem pe_globC {v : V} (hm : ∃ u, X.mg x = some u ∧ RelV v u) (hg : Gl X x) (hd : (x == ("__debug__" : Str)) = false := by decide) : PE X (.Name x pos) (tC v) := by
  obtain ⟨u, h, r⟩ := hm
  exact pe_glob hg h r hd
end

/-- a method of the class at C -/
def OwnM (P : Program) (w : World) (K : PySem.W.Frag) (mg : Str → Option Value) (base : Heap) (CX : CXT) (k : Nat) (C : Addr) (m : Str) (sp : Sp) : Prop :=
  ∃ f fd ps, FnOk P w K mg base CX k f fd ps sp ∧ Meth K C m f ∧ Binds K fd ps [] ∧ Cls K C
end L2

namespace L2
open PySem PySem.Spec PyProof.Rows
section
variable {X : Cx}
/-! ### plain values by functions -/
def ixV (H : Hp) : V → V → Option V
  | .ref p, .int i => match H p with
    | some (.lst xs) => atI xs i
    | some (.tup xs) => atI xs i
    | some (.frz _ (.lst xs)) => atI xs i
    | _ => none
  | .str z, .int i => if z.length ≤ sizeLine then (atI z.cps.toList i).map fun c => .str ⟨#[c]⟩ else none
  | _, _ => none
theorem ix_F : IxR X (fun x y H Q => ∃ v, ixV H x y = some v ∧ Q v H) := by
  intro value slice pins s σ H x y v u Q I rx ry h hs
  obtain ⟨z, e, q⟩ := h
  refine ix_seq value slice pins s σ H x y v u Q I rx ry ?_ hs
  cases x with
  | ref p =>
    cases y with
    | int i =>
      unfold ixV at e
      dsimp only at e
      split at e
      · rename_i xs hp; exact .inl ⟨p, xs, i, z, rfl, rfl, SqL.of hp, e, q⟩
      · rename_i xs hp; exact .inr (.inl ⟨p, xs, i, z, rfl, rfl, SqT.of hp, e, q⟩)
      · rename_i o xs hp; exact .inl ⟨p, xs, i, z, rfl, rfl, .inl (.inr ⟨o, hp⟩), e, q⟩
      · cases e
    | _ => cases e
  | str t =>
    cases y with
    | int i =>
      unfold ixV at e
      dsimp only at e
      split at e
      · rename_i hz
        cases ea : atI t.cps.toList i with
        | none => rw [ea] at e; cases e
        | some c =>
          rw [ea] at e
          cases e
          exact .inr (.inr ⟨t, i, c, rfl, rfl, hz, ea, q⟩)
      · cases e
    | _ => cases e
  | _ => cases e
def lenV (H : Hp) : V → Option Nat
  | .ref p => match H p with
    | some (.lst xs) => some xs.length
    | some (.tup xs) => some xs.length
    | some (.frz _ (.lst xs)) => some xs.length
    | some (.dK kvs) => some kvs.length
    | _ => none
  | .str z => if z.length ≤ sizeLine then some z.length else none
  | _ => none
theorem CallR.or' {f : Value} {r r' : List V → Hp → VK → Prop} (h : CallR X f r) (h' : CallR X f r') : CallR X f (fun xs H Q => r xs H Q ∨ r' xs H Q) := by
  intro pins s σ H xs us Q I rs q
  rcases q with q | q
  · exact h pins s σ H xs us Q I rs q
  · exact h' pins s σ H xs us Q I rs q
theorem CallR.imp {f : Value} {r r' : List V → Hp → VK → Prop} (h : CallR X f r) (i : ∀ xs H Q, r' xs H Q → r xs H Q) : CallR X f r' := fun pins s σ H xs us Q I rs q => h pins s σ H xs us Q I rs (i _ _ _ q)
theorem OpR.imp {f : Value → Value → Sem Value} {r r' : R2} (h : OpR X f r) (i : ∀ x y H Q, r' x y H Q → r x y H Q) : OpR X f r' := fun pins s σ H x y v u Q I rx ry q => h pins s σ H x y v u Q I rx ry (i _ _ _ _ q)
def r1 (f : Hp → V → Option V) : List V → Hp → VK → Prop := fun xs H Q => ∃ x v, xs = [x] ∧ f H x = some v ∧ Q v H
theorem call_lenF : CallR X (.builtin "len") (r1 fun H x => (lenV H x).map fun n => .int n) := by
  refine ((call_len_seq.or' call_len_str).or' call_lenD).imp fun xs H Q h => ?_
  obtain ⟨x, v, rfl, e, q⟩ := h
  cases x with
  | ref p =>
    unfold lenV at e
    dsimp only at e
    split at e
    · rename_i xs hp; cases e; exact .inl (.inl ⟨p, xs, rfl, .inl (SqL.of hp), q⟩)
    · rename_i xs hp; cases e; exact .inl (.inl ⟨p, xs, rfl, .inr (SqT.of hp), q⟩)
    · rename_i o xs hp; cases e; exact .inl (.inl ⟨p, xs, rfl, .inl (.inl (.inr ⟨o, hp⟩)), q⟩)
    · rename_i kvs hp; cases e; exact .inr ⟨p, kvs, rfl, hp, q⟩
    · cases e
  | str z =>
    unfold lenV at e
    dsimp only at e
    split at e
    · rename_i hz; cases e; exact .inl (.inr ⟨z, rfl, hz, q⟩)
    · cases e
  | _ => cases e
def intV : V → Option V
  | .int i => some (.int i)
  | .bl k => some (.int (if k then 1 else 0))
  | _ => none
theorem call_intF : CallR X (.type "int") (r1 fun _ x => intV x) := by
  refine call_int1.imp fun xs H Q h => ?_
  obtain ⟨x, v, rfl, e, q⟩ := h
  cases x with
  | int i => cases e; exact .inl ⟨i, rfl, q⟩
  | bl k => cases e; exact .inr ⟨k, rfl, q⟩
  | _ => cases e
/-- + : numbers, texts; lists, tuples -/
def addV : V → V → Option V
  | .int i, .int j => some (.int (i + j))
  | .str i, .str j => if i.length + j.length ≤ sizeLine then some (.str (i ++ j)) else none
  | _, _ => none
def catO (H : Hp) : V → V → Option HO
  | .ref a, .ref b => match H a, H b with
    | some (.lst xs), some (.lst ys) => if xs.length + ys.length ≤ sizeLine then some (.lst (xs ++ ys)) else none
    | some (.tup xs), some (.tup ys) => if xs.length + ys.length ≤ sizeLine ∧ xs ≠ [] ∧ ys ≠ [] then some (.tup (xs ++ ys)) else none
    | _, _ => none
  | _, _ => none
def rAddF : R2 := fun x y H Q => (∃ v, addV x y = some v ∧ Q v H) ∨ (∃ o, catO H x y = some o ∧ ∀ p, H p = none → Q (.ref p) (upd H p o))
theorem op_AddF : OpR X (binaryOp .Add) rAddF := by
  refine ((op_add.or op_add_str).or (op_cat.or op_catT)).imp fun x y H Q h => ?_
  rcases h with ⟨v, e, q⟩ | ⟨o, e, q⟩
  · cases x with
    | int i => cases y with
      | int j => cases e; exact .inl (.inl ⟨i, j, rfl, rfl, q⟩)
      | _ => cases e
    | str i => cases y with
      | str j =>
        unfold addV at e
        dsimp only at e
        split at e
        · rename_i hz; cases e; exact .inl (.inr ⟨i, j, rfl, rfl, hz, q⟩)
        · cases e
      | _ => cases e
    | _ => cases e
  · cases x with
    | ref a => cases y with
      | ref b =>
        unfold catO at e
        dsimp only at e
        split at e
        · rename_i xs ys ha hb
          split at e
          · rename_i hz; cases e; exact .inr (.inl ⟨a, b, xs, ys, rfl, rfl, ha, hb, hz, q⟩)
          · cases e
        · rename_i xs ys ha hb
          split at e
          · rename_i hz; cases e; exact .inr (.inr ⟨a, b, xs, ys, rfl, rfl, SqT.of ha, SqT.of hb, hz.2.1, hz.1, fun w => absurd w hz.2.2, fun _ => q⟩)
          · cases e
        · cases e
      | _ => cases e
    | _ => cases e
end
end L2

namespace L2
open PySem PySem.Spec PyProof.Rows

/-! ### data: a value with all that it holds -/
inductive D where
  | non | bl (b : Bool) | int (i : Int) | str (x : Str) | tup (xs : List D) | lst (xs : List D)
mutual
def Rep (H : Hp) : D → V → Prop
  | .non, v => v = .non
  | .bl b, v => v = .bl b
  | .int i, v => v = .int i
  | .str x, v => v = .str x
  | .tup ds, v => ∃ a vs, v = .ref a ∧ H a = some (.tup vs) ∧ Reps H ds vs
  | .lst ds, v => ∃ a vs, v = .ref a ∧ H a = some (.lst vs) ∧ Reps H ds vs
def Reps (H : Hp) : List D → List V → Prop
  | [], vs => vs = []
  | d :: ds, vs => ∃ v r, vs = v :: r ∧ Rep H d v ∧ Reps H ds r
end
mutual
theorem Rep.same {H H' : Hp} (s : Same H H') : ∀ {d : D} {v : V}, Rep H d v → Rep H' d v
  | .non, _, h => h
  | .bl _, _, h => h
  | .int _, _, h => h
  | .str _, _, h => h
  | .tup _, _, ⟨a, vs, e, h, r⟩ => ⟨a, vs, e, s _ _ h, Reps.same s r⟩
  | .lst _, _, ⟨a, vs, e, h, r⟩ => ⟨a, vs, e, s _ _ h, Reps.same s r⟩
theorem Reps.same {H H' : Hp} (s : Same H H') : ∀ {ds : List D} {vs : List V}, Reps H ds vs → Reps H' ds vs
  | [], _, h => h
  | _ :: _, _, ⟨v, r, e, h, q⟩ => ⟨v, r, e, Rep.same s h, Reps.same s q⟩
end
theorem Reps.length {H : Hp} : ∀ {ds : List D} {vs : List V}, Reps H ds vs → vs.length = ds.length
  | [], _, h => by cases h; rfl
  | _ :: _, _, ⟨v, r, e, _, q⟩ => by subst e; simp [Reps.length q]
theorem Reps.append {H : Hp} : ∀ {ds es : List D} {vs ws : List V}, Reps H ds vs → Reps H es ws → Reps H (ds ++ es) (vs ++ ws)
  | [], _, _, _, h, k => by cases h; exact k
  | _ :: _, _, _, _, ⟨v, r, e, h, q⟩, k => by subst e; exact ⟨v, r ++ _, rfl, h, Reps.append q k⟩
theorem Reps.get {H : Hp} : ∀ {ds : List D} {vs : List V} {i : Nat} {v : V}, Reps H ds vs → vs[i]? = some v → ∃ d, ds[i]? = some d ∧ Rep H d v
  | [], _, _, _, h, e => by cases h; simp at e
  | d :: _, _, 0, _, ⟨v, r, e, h, q⟩, k => by subst e; simp at k; subst k; exact ⟨d, rfl, h⟩
  | _ :: _, _, i + 1, _, ⟨v, r, e, h, q⟩, k => by subst e; simp at k; obtain ⟨d, h1, h2⟩ := Reps.get q k; exact ⟨d, by simpa using h1, h2⟩
theorem Reps.get' {H : Hp} : ∀ {ds : List D} {vs : List V} {i : Nat} {d : D}, Reps H ds vs → ds[i]? = some d → ∃ v, vs[i]? = some v ∧ Rep H d v
  | [], _, _, _, _, e => by simp at e
  | d :: _, _, 0, _, ⟨v, r, e, h, q⟩, k => by subst e; simp at k; subst k; exact ⟨v, rfl, h⟩
  | _ :: _, _, i + 1, _, ⟨v, r, e, h, q⟩, k => by subst e; simp at k; obtain ⟨w, h1, h2⟩ := Reps.get' q k; exact ⟨w, by simpa using h1, h2⟩
/-! ### equality -/
mutual
def eqD : D → D → Bool
  | .non, .non => true
  | .bl a, .bl b => a == b
  | .bl a, .int b => (if a then 1 else 0) == b
  | .int a, .bl b => a == (if b then 1 else 0)
  | .int a, .int b => a == b
  | .str a, .str b => a == b
  | .tup xs, .tup ys => eqDs xs ys
  | .lst xs, .lst ys => eqDs xs ys
  | _, _ => false
def eqDs : List D → List D → Bool
  | [], [] => true
  | x :: xs, y :: ys => eqD x y && eqDs xs ys
  | _, _ => false
end
mutual
def depD : D → Nat
  | .tup xs => depDs xs + 1
  | .lst xs => depDs xs + 1
  | _ => 0
def depDs : List D → Nat
  | [] => 0
  | x :: xs => max (depD x) (depDs xs)
end
end L2

namespace L2
open PySem PySem.Spec PyProof.Rows PySem.SeqAt
mutual
theorem Rep.inj {H : Hp} : ∀ {d e : D} {v : V}, Rep H d v → Rep H e v → d = e
  | .non, e, v, h, k => by cases h; cases e <;> first | rfl | (exact absurd k (by simp [Rep])) | (obtain ⟨_, _, z, _⟩ := k; cases z)
  | .bl b, e, v, h, k => by cases h; cases e <;> first | (cases k; rfl) | (exact absurd k (by simp [Rep])) | (obtain ⟨_, _, z, _⟩ := k; cases z)
  | .int b, e, v, h, k => by cases h; cases e <;> first | (cases k; rfl) | (exact absurd k (by simp [Rep])) | (obtain ⟨_, _, z, _⟩ := k; cases z)
  | .str b, e, v, h, k => by cases h; cases e <;> first | (cases k; rfl) | (exact absurd k (by simp [Rep])) | (obtain ⟨_, _, z, _⟩ := k; cases z)
  | .tup ds, e, v, ⟨a, vs, h1, h2, h3⟩, k => by
    subst h1
    cases e with
    | tup es =>
      obtain ⟨b, ws, k1, k2, k3⟩ := k
      cases k1
      rw [h2] at k2
      cases k2
      rw [Reps.inj h3 k3]
    | lst es =>
      obtain ⟨b, ws, k1, k2, k3⟩ := k
      cases k1
      rw [h2] at k2
      cases k2
    | _ => exact absurd k (by simp [Rep])
  | .lst ds, e, v, ⟨a, vs, h1, h2, h3⟩, k => by
    subst h1
    cases e with
    | lst es =>
      obtain ⟨b, ws, k1, k2, k3⟩ := k
      cases k1
      rw [h2] at k2
      cases k2
      rw [Reps.inj h3 k3]
    | tup es =>
      obtain ⟨b, ws, k1, k2, k3⟩ := k
      cases k1
      rw [h2] at k2
      cases k2
    | _ => exact absurd k (by simp [Rep])
theorem Reps.inj {H : Hp} : ∀ {ds es : List D} {vs : List V}, Reps H ds vs → Reps H es vs → ds = es
  | [], [], _, _, _ => rfl
  | [], e :: es, _, h, k => by cases h; obtain ⟨_, _, z, _⟩ := k; cases z
  | d :: ds, [], _, h, k => by cases k; obtain ⟨_, _, z, _⟩ := h; cases z
  | d :: ds, e :: es, _, ⟨v, r, h1, h2, h3⟩, ⟨w, q, k1, k2, k3⟩ => by
    subst h1
    cases k1
    rw [Rep.inj h2 k2, Reps.inj h3 k3]
end
mutual
theorem eqD_refl : ∀ d : D, eqD d d = true
  | .non => rfl
  | .bl b => by simp [eqD]
  | .int b => by simp [eqD]
  | .str b => by simp [eqD]
  | .tup xs => by rw [eqD]; exact eqDs_refl xs
  | .lst xs => by rw [eqD]; exact eqDs_refl xs
theorem eqDs_refl : ∀ ds : List D, eqDs ds ds = true
  | [] => rfl
  | d :: ds => by rw [eqDs, eqD_refl d, eqDs_refl ds]; rfl
end
theorem all_range_succ (n : Nat) (f : Nat → Bool) : (List.range (n + 1)).all f = (f 0 && (List.range n).all fun j => f (j + 1)) := by
  have e := List.range_succ_eq_map (n := n); rw [e, List.all_cons, List.all_map]
  rfl
theorem eqDs_all : ∀ ds es : List D, eqDs ds es = ((List.range (min ds.length es.length)).all (fun j => eqD (ds.getD j .non) (es.getD j .non)) && ds.length == es.length)
  | [], [] => rfl
  | [], e :: es => by simp [eqDs]
  | d :: ds, [] => by simp [eqDs]
  | d :: ds, e :: es => by
    rw [eqDs, eqDs_all ds es]
    have e1 : min (d :: ds).length (e :: es).length = min ds.length es.length + 1 := by simp only [List.length_cons]; omega
    rw [e1, all_range_succ]
    simp only [List.getD_cons_zero, List.getD_cons_succ, List.length_cons]
    rw [Bool.and_assoc]
    congr 2
    rw [Bool.eq_iff_iff]; simp
section
variable {P : Program} {w : World} {H : Hp} {s : Shared}
theorem hok_list (ok : HOk P w H s.heap) {a : Addr} {vs : List V} (h : H a = some (.lst vs)) : ∃ its : List Value, Vals vs its ∧ s.heap.IsList a its.toArray := by
  obtain ⟨_, its, n, r, e⟩ := ok a _ h
  exact ⟨its, r, ⟨_, e, rfl, n, rfl⟩⟩
theorem hok_tup (ok : HOk P w H s.heap) {a : Addr} {vs : List V} (h : H a = some (.tup vs)) : ∃ its : List Value, Vals vs its ∧ s.heap.IsTuple a its.toArray := by
  obtain ⟨_, its, r, e⟩ := ok a _ h
  exact ⟨its, r, e⟩
theorem in1_units (A : Around) : A.in1.units = A.units + 1 := rfl
def Shp (u : Value) : Prop := u = .none ∨ (∃ b, u = .bool b) ∨ (∃ i t, u = .int i t) ∨ (∃ x t, u = .str x t) ∨ ∃ a, u = .ref a
theorem shp_of {H : Hp} {d : D} {v : V} {u : Value} (h : Rep H d v) (r : RelV v u) : Shp u := by
  cases d with
  | non => cases h; exact .inl r
  | bl b => cases h; exact .inr (.inl ⟨b, r⟩)
  | int i => cases h; obtain ⟨t, e⟩ := r; exact .inr (.inr (.inl ⟨i, t, e⟩))
  | str x => cases h; obtain ⟨t, e⟩ := r; exact .inr (.inr (.inr (.inl ⟨x, t, e⟩)))
  | tup ds => obtain ⟨a, vs, e, _⟩ := h; subst e; exact .inr (.inr (.inr (.inr ⟨a, r⟩)))
  | lst ds => obtain ⟨a, vs, e, _⟩ := h; subst e; exact .inr (.inr (.inr (.inr ⟨a, r⟩)))
theorem eqAt_of {A : Around} {s : Shared} {u u' : Value} {b : Bool} (hu : Shp u) (hu' : Shp u') (hs : u ≠ u') (q : RcAt A s u u' b) : EqAt A s u u' b := by
  intro prog w E Q hq
  unfold eqBool
  refine wpAny_holding ?_
  refine wpAny_ite_split (fun hab => absurd (eq_of_beq hab) hs) (fun _ => ?_)
  have q' := q prog w E (fun v s' => wpAny (model prog w) A (truthOfDropped v) Q E s') (wpAny_truthy_bool hq)
  rcases hu with rfl | ⟨_, rfl⟩ | ⟨_, _, rfl⟩ | ⟨_, _, rfl⟩ | ⟨_, rfl⟩ <;> rcases hu' with rfl | ⟨_, rfl⟩ | ⟨_, _, rfl⟩ | ⟨_, _, rfl⟩ | ⟨_, rfl⟩ <;> exact wpAny_bind q'
mutual
theorem rcAtD (ok : HOk P w H s.heap) : ∀ (d e : D) (A : Around) (v v' : V) (u u' : Value), Rep H d v → Rep H e v' → RelV v u → RelV v' u' → A.units + depD d < cLine → RcAt A s u u' (eqD d e)
  | .tup ds, e, A, v, v', u, u', ⟨a, vs, h1, h2, h3⟩, k, r, r', hu => by
    subst h1; cases r
    obtain ⟨its, rv, hl⟩ := hok_tup ok h2
    rw [depD] at hu
    cases e with
    | tup es =>
      obtain ⟨b, ws, k1, k2, k3⟩ := k
      subst k1; cases r'
      obtain ⟨its2, rv2, hl2⟩ := hok_tup ok k2
      have q := RcAt.tuples (A := A) hl hl2 (by omega) (e := fun j => eqD (ds.getD j .non) (es.getD j .non)) fun j h1 h2 => by
        have := eqAtDs ok ds es A.in1 vs ws its its2 h3 k3 rv rv2 (by rw [in1_units]; omega) j (by simpa using h1) (by simpa using h2)
        simpa using this
      have e1 : its.toArray.size = ds.length := by rw [List.size_toArray, ← rv.length, h3.length]
      have e2 : its2.toArray.size = es.length := by rw [List.size_toArray, ← rv2.length, k3.length]
      rw [e1, e2, ← eqDs_all] at q
      exact q
    | lst es =>
      obtain ⟨b, ws, k1, k2, k3⟩ := k
      subst k1; cases r'
      obtain ⟨its2, rv2, hl2⟩ := hok_list ok k2
      exact RcAt.tuple_list hl hl2 (by omega)
    | non => cases k; cases r'; exact RcAt.tuple_none hl (by omega)
    | bl c => cases k; cases r'; exact RcAt.tuple_bool c hl (by omega)
    | int c => cases k; obtain ⟨t, rfl⟩ := r'; exact RcAt.tuple_int c t hl (by omega)
    | str c => cases k; obtain ⟨t, rfl⟩ := r'; exact RcAt.tuple_str c t hl (by omega)
  | .lst ds, e, A, v, v', u, u', ⟨a, vs, h1, h2, h3⟩, k, r, r', hu => by
    subst h1; cases r
    obtain ⟨its, rv, hl⟩ := hok_list ok h2
    rw [depD] at hu
    cases e with
    | lst es =>
      obtain ⟨b, ws, k1, k2, k3⟩ := k
      subst k1; cases r'
      obtain ⟨its2, rv2, hl2⟩ := hok_list ok k2
      have e1 : its.toArray.size = ds.length := by rw [List.size_toArray, ← rv.length, h3.length]
      have e2 : its2.toArray.size = es.length := by rw [List.size_toArray, ← rv2.length, k3.length]
      by_cases hz : its.toArray.size = its2.toArray.size
      · have q := RcAt.lists (A := A) hl hl2 hz (by omega) (e := fun j => eqD (ds.getD j .non) (es.getD j .non)) fun j h1 h2 => by
          have := eqAtDs ok ds es A.in1 vs ws its its2 h3 k3 rv rv2 (by rw [in1_units]; omega) j (by simpa using h1) (by simpa using h2)
          simpa using this
        have e3 : ds.length = es.length := by rw [← e1, ← e2]; exact hz
        have e4 : eqD (.lst ds) (.lst es) = (List.range its.toArray.size).all fun j => eqD (ds.getD j .non) (es.getD j .non) := by
          rw [eqD, eqDs_all, e3, Nat.min_self, e1, e3]; simp
        rw [e4]
        exact q
      · have q := RcAt.lists_lengths (A := A) hl hl2 (by simpa using hz) (by omega)
        have e4 : eqD (.lst ds) (.lst es) = false := by
          rw [eqD, eqDs_all]
          have : (ds.length == es.length) = false := by rw [← e1, ← e2]; simpa using hz
          rw [this, Bool.and_false]
        rw [e4]
        exact q
    | tup es =>
      obtain ⟨b, ws, k1, k2, k3⟩ := k
      subst k1; cases r'
      obtain ⟨its2, rv2, hl2⟩ := hok_tup ok k2
      exact RcAt.list_tuple hl hl2 (by omega)
    | non => cases k; cases r'; exact RcAt.list_none hl (by omega)
    | bl c => cases k; cases r'; exact RcAt.list_bool c hl (by omega)
    | int c => cases k; obtain ⟨t, rfl⟩ := r'; exact RcAt.list_int c t hl (by omega)
    | str c => cases k; obtain ⟨t, rfl⟩ := r'; exact RcAt.list_str c t hl (by omega)
  | .non, e, A, v, v', u, u', h, k, r, r', hu => by
    cases h; cases r
    cases e with
    | non => cases k; cases r'; exact RcAt.none_none
    | bl c => cases k; cases r'; exact RcAt.none_bool c
    | int c => cases k; obtain ⟨t, rfl⟩ := r'; exact RcAt.none_int c t
    | str c => cases k; obtain ⟨t, rfl⟩ := r'; exact RcAt.none_str c t
    | lst es => obtain ⟨b, ws, k1, k2, k3⟩ := k; subst k1; cases r'; obtain ⟨its2, _, hl2⟩ := hok_list ok k2; exact RcAt.none_list hl2 (by omega)
    | tup es => obtain ⟨b, ws, k1, k2, k3⟩ := k; subst k1; cases r'; obtain ⟨its2, _, hl2⟩ := hok_tup ok k2; exact RcAt.none_tuple hl2 (by omega)
  | .bl x, e, A, v, v', u, u', h, k, r, r', hu => by
    cases h; cases r
    cases e with
    | non => cases k; cases r'; exact RcAt.bool_none x
    | bl c => cases k; cases r'; exact RcAt.bool_bool x c
    | int c => cases k; obtain ⟨t, rfl⟩ := r'; exact RcAt.bool_int x c t
    | str c => cases k; obtain ⟨t, rfl⟩ := r'; exact RcAt.bool_str x c t
    | lst es => obtain ⟨b, ws, k1, k2, k3⟩ := k; subst k1; cases r'; obtain ⟨its2, _, hl2⟩ := hok_list ok k2; exact RcAt.bool_list x hl2 (by omega)
    | tup es => obtain ⟨b, ws, k1, k2, k3⟩ := k; subst k1; cases r'; obtain ⟨its2, _, hl2⟩ := hok_tup ok k2; exact RcAt.bool_tuple x hl2 (by omega)
  | .int x, e, A, v, v', u, u', h, k, r, r', hu => by
    cases h; obtain ⟨tx, rfl⟩ := r
    cases e with
    | non => cases k; cases r'; exact RcAt.int_none x tx
    | bl c => cases k; cases r'; exact RcAt.int_bool x tx c
    | int c => cases k; obtain ⟨t, rfl⟩ := r'; exact RcAt.int_int x tx c t
    | str c => cases k; obtain ⟨t, rfl⟩ := r'; exact RcAt.int_str x tx c t
    | lst es => obtain ⟨b, ws, k1, k2, k3⟩ := k; subst k1; cases r'; obtain ⟨its2, _, hl2⟩ := hok_list ok k2; exact RcAt.int_list x tx hl2 (by omega)
    | tup es => obtain ⟨b, ws, k1, k2, k3⟩ := k; subst k1; cases r'; obtain ⟨its2, _, hl2⟩ := hok_tup ok k2; exact RcAt.int_tuple x tx hl2 (by omega)
  | .str x, e, A, v, v', u, u', h, k, r, r', hu => by
    cases h; obtain ⟨tx, rfl⟩ := r
    cases e with
    | non => cases k; cases r'; exact RcAt.str_none x tx
    | bl c => cases k; cases r'; exact RcAt.str_bool x tx c
    | int c => cases k; obtain ⟨t, rfl⟩ := r'; exact RcAt.str_int x tx c t
    | str c => cases k; obtain ⟨t, rfl⟩ := r'; exact RcAt.str_str x tx c t
    | lst es => obtain ⟨b, ws, k1, k2, k3⟩ := k; subst k1; cases r'; obtain ⟨its2, _, hl2⟩ := hok_list ok k2; exact RcAt.str_list x tx hl2 (by omega)
    | tup es => obtain ⟨b, ws, k1, k2, k3⟩ := k; subst k1; cases r'; obtain ⟨its2, _, hl2⟩ := hok_tup ok k2; exact RcAt.str_tuple x tx hl2 (by omega)
termination_by d => (sizeOf d, 0)
theorem eqAtD (ok : HOk P w H s.heap) : ∀ (d e : D) (A : Around) (v v' : V) (u u' : Value), Rep H d v → Rep H e v' → RelV v u → RelV v' u' → A.units + depD d < cLine → EqAt A s u u' (eqD d e) := by
  intro d e A v v' u u' h k r r' hu
  by_cases hs : u = u'
  · subst hs
    have e1 : v = v' := r.inj r'
    subst e1
    have e2 := Rep.inj h k
    subst e2
    rw [eqD_refl]
    exact EqAt.same u
  · have q := rcAtD ok d e A v v' u u' h k r r' hu
    exact eqAt_of (shp_of h r) (shp_of k r') hs q
termination_by d => (sizeOf d, 1)
theorem eqAtDs (ok : HOk P w H s.heap) : ∀ (ds es : List D) (A : Around) (vs ws : List V) (us us' : List Value), Reps H ds vs → Reps H es ws → Vals vs us → Vals ws us' → A.units + depDs ds < cLine →
    ∀ j (h1 : j < us.length) (h2 : j < us'.length), EqAt A s us[j] us'[j] (eqD (ds.getD j .non) (es.getD j .non))
  | [], es, A, vs, ws, us, us', h, k, r, r', hu, j, h1, h2 => by cases h; cases r; simp at h1
  | d :: ds, [], A, vs, ws, us, us', h, k, r, r', hu, j, h1, h2 => by cases k; cases r'; simp at h2
  | d :: ds, e :: es, A, vs, ws, us, us', ⟨v, vr, q1, q2, q3⟩, ⟨y, wr, p1, p2, p3⟩, r, r', hu, j, h1, h2 => by
    subst q1 p1
    rw [depDs] at hu
    cases r with
    | cons r1 r2 =>
      cases r' with
      | cons r1' r2' =>
        cases j with
        | zero => exact eqAtD ok d e A v y _ _ q2 p2 r1 r1' (by omega)
        | succ j =>
          have := eqAtDs ok ds es A vr wr _ _ q3 p3 r2 r2' (by omega) j (by simpa using h1) (by simpa using h2)
          simpa using this
termination_by ds => (sizeOf ds, 0)
end
end
section
variable {X : Cx}
def rEqD : R2 := fun x y H Q => ∃ d e, Rep H d x ∧ Rep H e y ∧ depD d ≤ 60 ∧ Q (.bl (eqD d e)) H
def rNeD : R2 := fun x y H Q => ∃ d e, Rep H d x ∧ Rep H e y ∧ depD d ≤ 60 ∧ Q (.bl (!eqD d e)) H
theorem op_EqF (hu : X.A.units + 64 < cLine) : OpR X (compareOp .Eq) rEqD := by
  intro pins s σ H x y v u Q I rx ry h
  obtain ⟨d, e, hd, he, hz, q⟩ := h
  exact rcAtD I.hok d e X.A x y v u hd he rx ry (by omega) X.prog X.w X.xe _ ⟨.bl _, H, I, rfl, q⟩
end
end L2

namespace L2
open PySem PySem.Spec PyProof.Rows PySem.SeqAt
section
variable {P : Program} {w : World} {H : Hp} {s : Shared}
theorem rcNeAtD (ok : HOk P w H s.heap) : ∀ (d e : D) (A : Around) (v v' : V) (u u' : Value), Rep H d v → Rep H e v' → RelV v u → RelV v' u' → A.units + depD d < cLine → RcNeAt A s u u' (!eqD d e)
  | .tup ds, e, A, v, v', u, u', ⟨a, vs, h1, h2, h3⟩, k, r, r', hu => by
    subst h1; cases r
    obtain ⟨its, rv, hl⟩ := hok_tup ok h2
    rw [depD] at hu
    cases e with
    | tup es =>
      obtain ⟨b, ws, k1, k2, k3⟩ := k
      subst k1; cases r'
      obtain ⟨its2, rv2, hl2⟩ := hok_tup ok k2
      have q := RcNeAt.tuples (A := A) hl hl2 (by omega) (e := fun j => eqD (ds.getD j .non) (es.getD j .non)) fun j h1 h2 => by
        have := eqAtDs ok ds es A.in1 vs ws its its2 h3 k3 rv rv2 (by rw [in1_units]; omega) j (by simpa using h1) (by simpa using h2)
        simpa using this
      have e1 : its.toArray.size = ds.length := by rw [List.size_toArray, ← rv.length, h3.length]
      have e2 : its2.toArray.size = es.length := by rw [List.size_toArray, ← rv2.length, k3.length]
      rw [e1, e2, ← eqDs_all] at q
      exact q
    | lst es =>
      obtain ⟨b, ws, k1, k2, k3⟩ := k
      subst k1; cases r'
      obtain ⟨its2, rv2, hl2⟩ := hok_list ok k2
      exact RcNeAt.tuple_list hl hl2 (by omega)
    | non => cases k; cases r'; exact RcNeAt.tuple_none hl (by omega)
    | bl c => cases k; cases r'; exact RcNeAt.tuple_bool c hl (by omega)
    | int c => cases k; obtain ⟨t, rfl⟩ := r'; exact RcNeAt.tuple_int c t hl (by omega)
    | str c => cases k; obtain ⟨t, rfl⟩ := r'; exact RcNeAt.tuple_str c t hl (by omega)
  | .lst ds, e, A, v, v', u, u', ⟨a, vs, h1, h2, h3⟩, k, r, r', hu => by
    subst h1; cases r
    obtain ⟨its, rv, hl⟩ := hok_list ok h2
    rw [depD] at hu
    cases e with
    | lst es =>
      obtain ⟨b, ws, k1, k2, k3⟩ := k
      subst k1; cases r'
      obtain ⟨its2, rv2, hl2⟩ := hok_list ok k2
      have e1 : its.toArray.size = ds.length := by rw [List.size_toArray, ← rv.length, h3.length]
      have e2 : its2.toArray.size = es.length := by rw [List.size_toArray, ← rv2.length, k3.length]
      by_cases hz : its.toArray.size = its2.toArray.size
      · have q := RcNeAt.lists (A := A) hl hl2 hz (by omega) (e := fun j => eqD (ds.getD j .non) (es.getD j .non)) fun j h1 h2 => by
          have := eqAtDs ok ds es A.in1 vs ws its its2 h3 k3 rv rv2 (by rw [in1_units]; omega) j (by simpa using h1) (by simpa using h2)
          simpa using this
        have e3 : ds.length = es.length := by rw [← e1, ← e2]; exact hz
        have e4 : eqD (.lst ds) (.lst es) = (List.range its.toArray.size).all fun j => eqD (ds.getD j .non) (es.getD j .non) := by
          rw [eqD, eqDs_all, e3, Nat.min_self, e1, e3]; simp
        rw [e4]
        exact q
      · have q := RcNeAt.lists_lengths (A := A) hl hl2 (by simpa using hz) (by omega)
        have e4 : eqD (.lst ds) (.lst es) = false := by
          rw [eqD, eqDs_all]
          have : (ds.length == es.length) = false := by rw [← e1, ← e2]; simpa using hz
          rw [this, Bool.and_false]
        rw [e4]
        exact q
    | tup es =>
      obtain ⟨b, ws, k1, k2, k3⟩ := k
      subst k1; cases r'
      obtain ⟨its2, rv2, hl2⟩ := hok_tup ok k2
      exact RcNeAt.list_tuple hl hl2 (by omega)
    | non => cases k; cases r'; exact RcNeAt.list_none hl (by omega)
    | bl c => cases k; cases r'; exact RcNeAt.list_bool c hl (by omega)
    | int c => cases k; obtain ⟨t, rfl⟩ := r'; exact RcNeAt.list_int c t hl (by omega)
    | str c => cases k; obtain ⟨t, rfl⟩ := r'; exact RcNeAt.list_str c t hl (by omega)
  | .non, e, A, v, v', u, u', h, k, r, r', hu => by
    cases h; cases r
    cases e with
    | non => cases k; cases r'; exact RcNeAt.none_none
    | bl c => cases k; cases r'; exact RcNeAt.none_bool c
    | int c => cases k; obtain ⟨t, rfl⟩ := r'; exact RcNeAt.none_int c t
    | str c => cases k; obtain ⟨t, rfl⟩ := r'; exact RcNeAt.none_str c t
    | lst es => obtain ⟨b, ws, k1, k2, k3⟩ := k; subst k1; cases r'; obtain ⟨its2, _, hl2⟩ := hok_list ok k2; exact RcNeAt.none_list hl2 (by omega)
    | tup es => obtain ⟨b, ws, k1, k2, k3⟩ := k; subst k1; cases r'; obtain ⟨its2, _, hl2⟩ := hok_tup ok k2; exact RcNeAt.none_tuple hl2 (by omega)
  | .bl x, e, A, v, v', u, u', h, k, r, r', hu => by
    cases h; cases r
    cases e with
    | non => cases k; cases r'; exact RcNeAt.bool_none x
    | bl c => cases k; cases r'; exact RcNeAt.bool_bool x c
    | int c => cases k; obtain ⟨t, rfl⟩ := r'; exact RcNeAt.bool_int x c t
    | str c => cases k; obtain ⟨t, rfl⟩ := r'; exact RcNeAt.bool_str x c t
    | lst es => obtain ⟨b, ws, k1, k2, k3⟩ := k; subst k1; cases r'; obtain ⟨its2, _, hl2⟩ := hok_list ok k2; exact RcNeAt.bool_list x hl2 (by omega)
    | tup es => obtain ⟨b, ws, k1, k2, k3⟩ := k; subst k1; cases r'; obtain ⟨its2, _, hl2⟩ := hok_tup ok k2; exact RcNeAt.bool_tuple x hl2 (by omega)
  | .int x, e, A, v, v', u, u', h, k, r, r', hu => by
    cases h; obtain ⟨tx, rfl⟩ := r
    cases e with
    | non => cases k; cases r'; exact RcNeAt.int_none x tx
    | bl c => cases k; cases r'; exact RcNeAt.int_bool x tx c
    | int c => cases k; obtain ⟨t, rfl⟩ := r'; exact RcNeAt.int_int x tx c t
    | str c => cases k; obtain ⟨t, rfl⟩ := r'; exact RcNeAt.int_str x tx c t
    | lst es => obtain ⟨b, ws, k1, k2, k3⟩ := k; subst k1; cases r'; obtain ⟨its2, _, hl2⟩ := hok_list ok k2; exact RcNeAt.int_list x tx hl2 (by omega)
    | tup es => obtain ⟨b, ws, k1, k2, k3⟩ := k; subst k1; cases r'; obtain ⟨its2, _, hl2⟩ := hok_tup ok k2; exact RcNeAt.int_tuple x tx hl2 (by omega)
  | .str x, e, A, v, v', u, u', h, k, r, r', hu => by
    cases h; obtain ⟨tx, rfl⟩ := r
    cases e with
    | non => cases k; cases r'; exact RcNeAt.str_none x tx
    | bl c => cases k; cases r'; exact RcNeAt.str_bool x tx c
    | int c => cases k; obtain ⟨t, rfl⟩ := r'; exact RcNeAt.str_int x tx c t
    | str c => cases k; obtain ⟨t, rfl⟩ := r'; exact RcNeAt.str_str x tx c t
    | lst es => obtain ⟨b, ws, k1, k2, k3⟩ := k; subst k1; cases r'; obtain ⟨its2, _, hl2⟩ := hok_list ok k2; exact RcNeAt.str_list x tx hl2 (by omega)
    | tup es => obtain ⟨b, ws, k1, k2, k3⟩ := k; subst k1; cases r'; obtain ⟨its2, _, hl2⟩ := hok_tup ok k2; exact RcNeAt.str_tuple x tx hl2 (by omega)
end
section
variable {X : Cx}
theorem op_NeF (hu : X.A.units + 64 < cLine) : OpR X (compareOp .NotEq) rNeD := by
  intro pins s σ H x y v u Q I rx ry h
  obtain ⟨d, e, hd, he, hz, q⟩ := h
  exact rcNeAtD I.hok d e X.A x y v u hd he rx ry (by omega) X.prog X.w X.xe _ ⟨.bl _, H, I, rfl, q⟩
def inD (d : D) (ds : List D) : Bool := ds.any fun e => eqD e d
def rInD (neg : Bool) : R2 := fun x y H Q => ∃ d ds, Rep H d x ∧ (Rep H (.lst ds) y ∨ Rep H (.tup ds) y) ∧ depDs ds ≤ 60 ∧ Q (.bl (if neg then !inD d ds else inD d ds)) H
open Classical in
noncomputable def datOf (H : Hp) (y : Value) : D := if h : ∃ d v, absV y = some v ∧ Rep H d v then h.choose else .non
theorem datOf_eq {H : Hp} {d : D} {v : V} {y : Value} (r : RelV v y) (h : Rep H d v) : datOf H y = d := by
  have e : ∃ d v, absV y = some v ∧ Rep H d v := ⟨d, v, r.abs, h⟩
  unfold datOf
  rw [dif_pos e]
  obtain ⟨v', h1, h2⟩ := e.choose_spec
  rw [r.abs] at h1
  cases h1
  exact Rep.inj h2 h
theorem in_all {P : Program} {w : World} {H : Hp} {s : Shared} (ok : HOk P w H s.heap) {A : Around} {d : D} {v : V} {u : Value} (h : Rep H d v) (r : RelV v u) : ∀ (ds : List D) (vs : List V) (us : List Value), Reps H ds vs → Vals vs us → A.units + depDs ds < cLine →
    (∀ y ∈ us, EqAt A s y u (eqD (datOf H y) d)) ∧ us.any (fun y => eqD (datOf H y) d) = inD d ds
  | [], vs, us, h1, r1, _ => by cases h1; cases r1; exact ⟨by simp, rfl⟩
  | e :: ds, vs, us, h1, r1, hu => by
    obtain ⟨v1, vr, q1, q2, q3⟩ := h1
    subst q1
    rw [depDs] at hu
    cases r1 with
    | @cons _ u1 _ ur r1 r2 =>
      obtain ⟨hf, hs⟩ := in_all ok (A := A) h r ds vr ur q3 r2 (by omega)
      have hd := eqAtD ok e d A v1 v u1 u q2 h r1 r (by omega)
      have e1 := datOf_eq r1 q2
      refine ⟨fun y hy => ?_, ?_⟩
      · rcases List.mem_cons.mp hy with z | z
        · subst z; rw [e1]; exact hd
        · exact hf y z
      · rw [List.any_cons, e1, hs]; rfl
theorem op_InF (hu : X.A.units + 64 < cLine) : OpR X (compareOp .In) (fun x y H Q => rInD false x y H Q ∨ ∃ i j, x = .str i ∧ y = .str j ∧ Q (.bl (!(Builtin.Str.occurrences j i 0 j.length 1).isEmpty)) H) := by
  refine OpR.or ?_ op_in_str
  intro pins s σ H x y v u Q I rx ry h
  obtain ⟨d, ds, hd, hy, hz, q⟩ := h
  have q : Q (.bl (inD d ds)) H := q
  rcases hy with ⟨a, vs, e, ha, hr⟩ | ⟨a, vs, e, ha, hr⟩
  · subst e; cases ry
    obtain ⟨its, rv, hl⟩ := hok_list I.hok ha
    obtain ⟨h1, h2⟩ := in_all I.hok (A := X.A.in1) hd rx ds vs its hr rv (by rw [in1_units]; omega)
    refine in_listAt (fun y => eqD (datOf H y) d) hl (fun y hy => h1 y (by simpa using hy)) ?_
    refine ⟨.bl (inD d ds), H, I, ?_, q⟩
    show _ = Value.bool _
    rw [← h2]; simp
  · subst e; cases ry
    obtain ⟨its, rv, hl⟩ := hok_tup I.hok ha
    obtain ⟨h1, h2⟩ := in_all I.hok (A := X.A.in1) hd rx ds vs its hr rv (by rw [in1_units]; omega)
    refine in_tupleAt (fun y => eqD (datOf H y) d) hl (fun y hy => h1 y (by simpa using hy)) ?_
    refine ⟨.bl (inD d ds), H, I, ?_, q⟩
    show _ = Value.bool _
    rw [← h2]; simp
theorem op_NotInF (hu : X.A.units + 64 < cLine) : OpR X (compareOp .NotIn) (fun x y H Q => rInD true x y H Q ∨ ∃ i j, x = .str i ∧ y = .str j ∧ Q (.bl (!(!(Builtin.Str.occurrences j i 0 j.length 1).isEmpty))) H) := by
  refine OpR.or ?_ op_notIn_str
  intro pins s σ H x y v u Q I rx ry h
  obtain ⟨d, ds, hd, hy, hz, q⟩ := h
  have q : Q (.bl (!inD d ds)) H := q
  rcases hy with ⟨a, vs, e, ha, hr⟩ | ⟨a, vs, e, ha, hr⟩
  · subst e; cases ry
    obtain ⟨its, rv, hl⟩ := hok_list I.hok ha
    obtain ⟨h1, h2⟩ := in_all I.hok (A := X.A.in1) hd rx ds vs its hr rv (by rw [in1_units]; omega)
    refine notIn_listAt (fun y => eqD (datOf H y) d) hl (fun y hy => h1 y (by simpa using hy)) ?_
    refine ⟨.bl (!inD d ds), H, I, ?_, q⟩
    show _ = Value.bool _
    rw [← h2]; simp
  · subst e; cases ry
    obtain ⟨its, rv, hl⟩ := hok_tup I.hok ha
    obtain ⟨h1, h2⟩ := in_all I.hok (A := X.A.in1) hd rx ds vs its hr rv (by rw [in1_units]; omega)
    refine notIn_tupleAt (fun y => eqD (datOf H y) d) hl (fun y hy => h1 y (by simpa using hy)) ?_
    refine ⟨.bl (!inD d ds), H, I, ?_, q⟩
    show _ = Value.bool _
    rw [← h2]; simp
end
end L2

namespace L2
open PySem PySem.Spec PyProof.Rows
section
variable {X : Cx} {pins : List (Addr × Obj)} {σ : St} {H : Hp} {s : Shared}
/-! ### isinstance against built-in types -/
def tyN (H : Hp) : V → Option String
  | .non => some "NoneType"
  | .bl _ => some "bool"
  | .int _ => some "int"
  | .str _ => some "str"
  | .ref p => match H p with
    | some (.lst _) => some "list"
    | some (.tup _) => some "tuple"
    | some (.dK _) => some "dict"
    | _ => none
  | _ => none
def okT (c : String) : Bool := c == "str" || c == "int" || c == "bool" || c == "list" || c == "tuple" || c == "dict"
def subT (t c : String) : Bool := t == c || (t == "bool" && c == "int")
def tysV : List V → Option (List String)
  | [] => some []
  | .ty n :: r => (tysV r).map (n :: ·)
  | _ :: _ => none
def clsV (H : Hp) : V → Option (List String)
  | .ty n => some [n]
  | .ref p => match H p with
    | some (.tup vs) => tysV vs
    | _ => none
  | _ => none
def isV (H : Hp) (x c : V) : Option Bool := match tyN H x, clsV H c with
  | some t, some cs => if cs.all okT then some (cs.any (subT t)) else none
  | _, _ => none
theorem kx_of {x : V} {u : Value} {t : String} (I : Inv X pins σ H s) (rx : RelV x u) (e : tyN H x = some t) :
    ∃ HH : Heap → Prop, PySem.W.KitX X.K u (.type t) HH ∧ HH s.heap ∧ u ≠ .builtin "__main__.__loader__#opaque" := by
  cases x with
  | non => cases e; cases rx; exact ⟨_, PySem.W.kitx_none, True.intro, fun z => nomatch z⟩
  | bl b => cases e; cases rx; exact ⟨_, PySem.W.kitx_bool, True.intro, fun z => nomatch z⟩
  | int i => cases e; obtain ⟨t, rfl⟩ := rx; exact ⟨_, PySem.W.kitx_int, True.intro, fun z => nomatch z⟩
  | str i => cases e; obtain ⟨t, rfl⟩ := rx; exact ⟨_, PySem.W.kitx_str, True.intro, fun z => nomatch z⟩
  | ref p =>
    cases rx
    unfold tyN at e
    dsimp only at e
    split at e
    · rename_i xs hp; cases e
      obtain ⟨_, _, n, _, h1⟩ := (show ObjOk X.prog X.w H s.heap p (.lst xs) from I.hok p _ hp)
      exact ⟨_, PySem.W.kitx_list, ⟨_, h1, rfl⟩, fun z => nomatch z⟩
    · rename_i xs hp; cases e
      obtain ⟨_, _, _, o, h1, h2, _⟩ := (show ObjOk X.prog X.w H s.heap p (.tup xs) from I.hok p _ hp)
      exact ⟨_, PySem.W.kitx_tuple, ⟨o, h1, h2⟩, fun z => nomatch z⟩
    · rename_i kvs hp; cases e
      obtain ⟨_, _, vs, _, o, es, ep, h1, h2, _⟩ := (show ObjOk X.prog X.w H s.heap p (.dK kvs) from I.hok p _ hp)
      exact ⟨_, PySem.W.kitx_dict, ⟨o, h1, h2.1⟩, fun z => nomatch z⟩
    · cases e
  | _ => cases e
theorem tyN_in {x : V} {t : String} (e : tyN H x = some t) : t = "NoneType" ∨ t = "bool" ∨ t = "int" ∨ t = "str" ∨ t = "list" ∨ t = "tuple" ∨ t = "dict" := by
  cases x with
  | non => cases e; simp
  | bl b => cases e; simp
  | int i => cases e; simp
  | str i => cases e; simp
  | ref p =>
    unfold tyN at e
    dsimp only at e
    split at e <;> cases e <;> simp
  | _ => cases e
theorem okT_in {c : String} (e : okT c = true) : c = "str" ∨ c = "int" ∨ c = "bool" ∨ c = "list" ∨ c = "tuple" ∨ c = "dict" := by
  simp only [okT, Bool.or_eq_true, beq_iff_eq] at e
  rcases e with ((((e | e) | e) | e) | e) | e <;> simp [e]
theorem kit_tab {K : PySem.W.Frag} {x : V} {t c : String} (e : tyN H x = some t) (hc : okT c = true) : PySem.W.kitOne K (.type t) (.type c) = some (subT t c) := by
  rcases tyN_in e with rfl | rfl | rfl | rfl | rfl | rfl | rfl <;> rcases okT_in hc with rfl | rfl | rfl | rfl | rfl | rfl <;> with_unfolding_all rfl
theorem kit_any {K : PySem.W.Frag} {x : V} {t : String} (e : tyN H x = some t) : ∀ {cs : List String}, cs.all okT = true → PySem.W.kitAny K (.type t) (cs.map Value.type) = some (cs.any (subT t))
  | [], _ => rfl
  | c :: r, h => by
    replace h := Bool.and_eq_true_iff.mp (List.all_cons ▸ h)
    rw [List.map_cons]
    unfold PySem.W.kitAny
    rw [kit_tab e h.1]
    cases q : subT t c with
    | true => simp [q]
    | false => simp only [List.any_cons, q, Bool.false_or]; exact kit_any e h.2
theorem tysV_vals : ∀ {vs : List V} {cs : List String} {us : List Value}, tysV vs = some cs → Vals vs us → us = cs.map Value.type
  | [], cs, us, h, r => by cases h; cases r; rfl
  | .ty n :: vs, cs, us, h, r => by
    unfold tysV at h
    cases e : tysV vs with
    | none => rw [e] at h; cases h
    | some c2 =>
      rw [e] at h
      cases h
      cases r with
      | cons r1 r2 =>
        cases r1
        rw [List.map_cons, tysV_vals e r2]
  | .non :: _, _, _, h, _ => by cases h
  | .bl _ :: _, _, _, h, _ => by cases h
  | .int _ :: _, _, _, h, _ => by cases h
  | .str _ :: _, _, _, h, _ => by cases h
  | .byt _ :: _, _, _, h, _ => by cases h
  | .flt _ :: _, _, _, h, _ => by cases h
  | .ref _ :: _, _, _, h, _ => by cases h
def rIs : List V → Hp → VK → Prop := fun xs H Q => ∃ x c b, xs = [x, c] ∧ isV H x c = some b ∧ Q (.bl b) H
theorem call_isinstanceF : CallR X (.builtin "isinstance") rIs := by
  intro pins s σ H xs us Q I r h
  obtain ⟨x, c, b, rfl, e, q⟩ := h
  cases r with
  | cons rx r2 =>
    cases r2 with
    | cons rc r3 =>
      cases r3
      unfold isV at e
      split at e
      · rename_i t cs et ec
        split at e
        · rename_i hcs
          cases e
          obtain ⟨HH, Z, hh, hne⟩ := kx_of I rx et
          have fin : ∀ tk, EP X pins σ Q (.bool (cs.any (subT t))) { s with toks := tk } := fun tk => ⟨.bl _, H, I.tok tk, rfl, q⟩
          cases c with
          | ty n =>
            cases rc
            cases ec
            have h1 : okT n = true := by simpa using hcs
            refine PySem.W.kia_one Z I.kIn hh (kit_tab et h1) hne ?_
            intro tk
            have := fin tk
            simpa using this
          | ref p =>
            cases rc
            unfold clsV at ec
            dsimp only at ec
            split at ec
            · rename_i vs hp
              obtain ⟨_, its, rv, o, h1, h2, n, h3⟩ := (show ObjOk X.prog X.w H s.heap p (.tup vs) from I.hok p _ hp)
              obtain ⟨cl, dd, dt, sl⟩ := o
              cases h2
              cases h3
              have e1 := tysV_vals ec rv
              subst e1
              exact PySem.W.kia_tup Z I.kIn hh h1 (kit_any et hcs) hne fin
            · cases ec
          | _ => cases ec
        · cases e
      · cases e
/-! ### list(..), tuple(..) -/
def seqV (H : Hp) : V → Option (List V)
  | .ref p => match H p with
    | some (.lst xs) => some xs
    | some (.tup xs) => some xs
    | _ => none
  | _ => none
theorem call_listF : CallR X (.type "list") (fun xs H Q => ∃ x ys, xs = [x] ∧ seqV H x = some ys ∧ ∀ l, H l = none → Q (.ref l) (upd H l (.lst ys))) := by
  refine call_list_of.imp fun xs H Q h => ?_
  obtain ⟨x, ys, rfl, e, q⟩ := h
  cases x with
  | ref p =>
    unfold seqV at e
    dsimp only at e
    split at e
    · rename_i zs hp; cases e; exact ⟨p, _, rfl, .inl (SqL.of hp), q⟩
    · rename_i zs hp; cases e; exact ⟨p, _, rfl, .inr (SqT.of hp), q⟩
    · cases e
  | _ => cases e
theorem call_tupleF : CallR X (.type "tuple") (fun xs H Q => ∃ p, xs = [.ref p] ∧ ((∃ ys, H p = some (.lst ys) ∧ ∀ l, H l = none → Q (.ref l) (upd H l (.tup ys))) ∨ (∃ ys, H p = some (.tup ys) ∧ Q (.ref p) H))) := by
  refine call_tuple_of.imp fun xs H Q h => ?_
  obtain ⟨p, rfl, ⟨ys, hp, q⟩ | ⟨ys, hp, q⟩⟩ := h
  · exact ⟨p, ys, rfl, .inl ⟨SqL.of hp, q⟩⟩
  · exact ⟨p, ys, rfl, .inr ⟨SqT.of hp, q⟩⟩
theorem call_absF : CallR X (.builtin "abs") (fun xs H Q => ∃ i, xs = [.int i] ∧ Q (.int (if i < 0 then -i else i)) H) := call_abs
/-! ### slices -/
def rSlF : V → Option Int → Option Int → Hp → VK → Prop := fun x lo hi H Q => ∃ a, x = .ref a ∧
  ((∃ xs, H a = some (.lst xs) ∧ ∀ p, H p = none → Q (.ref p) (upd H p (.lst (cutV xs lo hi)))) ∨
   (∃ xs, H a = some (.tup xs) ∧ ¬ (HT.sIx xs.length 0 lo = 0 ∧ HT.sIx xs.length xs.length hi = xs.length) ∧ ∀ p, H p = none → Q (.ref p) (upd H p (.tup (cutV xs lo hi)))))
theorem sl_any : SlR X rSlF := by
  intro pins s σ H x v vl vu lo hi sl Q I rx hs pl pu h
  obtain ⟨a, rfl, ⟨xs, ha, q⟩ | ⟨xs, ha, hw, q⟩⟩ := h
  · exact sl_list pins s σ H _ v vl vu lo hi sl Q I rx hs pl pu ⟨a, xs, rfl, SqL.of ha, q⟩
  · exact sl_tup pins s σ H _ v vl vu lo hi sl Q I rx hs pl pu ⟨a, xs, rfl, SqT.of ha, hw, q⟩
end
end L2

namespace L2
open PySem PySem.Spec PyProof.Rows
/-! ### loops as one word each, so that a rewriting leaves them whole -/
def ForB (J : It) (g : TG) (tb : TS) (D : Ends) (σ : St) (H1 : Hp) : Prop := ∃ W : Nat → Nat → St → Hp → Prop, (∃ m, W 0 m σ H1) ∧ ∀ i m σ H, W i m σ H →
  (J.stop i H ∧ D.nx σ H) ∨ (J.go i H ∧ ∃ N : St → Hp → Prop, (∀ σ' H', N σ' H' → ∃ m', m' < m ∧ W (i + 1) m' σ' H') ∧ ∀ x H', J.yld i H x H' → g x σ H' fun σ2 H2 => tb { D with nx := N, ct := N, bk := D.nx } σ2 H2)
theorem tFor_eq {wi : TI} {g : TG} {tb : TS} {D : Ends} {σ : St} {H : Hp} : tFor wi g tb D σ H = wi σ H fun J H1 => ForB J g tb D σ H1 := rfl
def CompB (J : It) (g : TG) (tt : TT) (te : TE) (Q : VK) (σ : St) (H1 : Hp) : Prop := ∃ W : CW, (∃ m, W 0 m [] σ H1) ∧ CTurn J g tt te (fun acc H => ∀ p, H p = none → Q (.ref p) (upd H p (.lst acc))) W
theorem tComp_eq {src : List (Option Nat)} {wi : TI} {g : TG} {tt : TT} {te : TE} {σ : St} {H : Hp} {Q : VK} : tComp src wi g tt te σ H Q = wi σ H fun J H1 => CompB J g tt te Q (stC src σ) H1 := rfl
section
variable {X : Cx} {tg : Expr}
def iAny (K : PySem.W.Frag) (tl : TE) : TI := fun σ H R => tl σ H fun x H1 => ∃ a, x = .ref a ∧ ((∃ xs, H1 a = some (.lst xs) ∧ R (Itl K a) H1) ∨ (∃ xs, H1 a = some (.tup xs) ∧ R (Itt K a) H1))
theorem pi_any {l : Expr} {tl : TE} (hl : PE X l tl) : PI X tg l (iAny X.K tl) := by
  intro pins s σ H R I h
  refine thn (hl pins s σ H _ I h) fun v s1 ⟨x, H1, I1, r1, q1⟩ => ?_
  obtain ⟨a, e, q⟩ := q1
  subst e
  cases r1
  rcases q with ⟨xs, hq, q⟩ | ⟨xs, hq, q⟩
  · obtain ⟨its, rv, p, hz⟩ := I1.list (SqL.of hq)
    refine wpAny_pyIter_list p.isList ?_
    refine ⟨s1.heap.objs.size, [s1.heap.objs.size], _, _, H1, rfl, I1.kept (t' := s1.toks) fun b o e => Heap.get?_push_of_some _ e, turn_list a _, ⟨_, Heap.get?_push_size _ rfl, rfl, rfl⟩, fun b hb => ?_, q⟩
    have e : b = s1.heap.objs.size := by simpa using hb
    subst e
    exact I1.fpOk (Nat.le_refl _) (I1.hok.fresh (Nat.le_refl _))
  · obtain ⟨its, rv, p, hz⟩ := I1.tuple (SqT.of hq)
    refine wpAny_pyIter_tuple (show s1.heap.IsTuple a its.toArray from p) ?_
    refine ⟨s1.heap.objs.size, [s1.heap.objs.size], _, _, H1, rfl, I1.kept (t' := s1.toks) fun b o e => Heap.get?_push_of_some _ e, turn_tuple a _, ⟨_, Heap.get?_push_size _ rfl, rfl, rfl⟩, fun b hb => ?_, q⟩
    have e : b = s1.heap.objs.size := by simpa using hb
    subst e
    exact I1.fpOk (Nat.le_refl _) (I1.hok.fresh (Nat.le_refl _))
end
section
variable {g : TG} {tb : TS} {D : Ends} {σ : St} {H : Hp} {tt : TT} {te : TE} {Q : VK} {K : PySem.W.Frag}
theorem forB_range {lo : Int} {n : Nat} (Pv : Nat → St → Hp → Prop) (h0 : Pv 0 σ H)
    (hs : ∀ i σ H, i < n → Pv i σ H → g (.int (lo + i)) σ H fun σ2 H2 => tb { D with nx := Pv (i + 1), ct := Pv (i + 1), bk := D.nx } σ2 H2) (hd : ∀ σ H, Pv n σ H → D.nx σ H) : ForB (Itr lo n) g tb D σ H := for_range Pv h0 hs hd
theorem forB_list {a : Addr} (xs : List V) (Pv : Nat → St → Hp → Prop) (h0 : Pv 0 σ H) (hl : ∀ i σ H, i ≤ xs.length → Pv i σ H → H a = some (.lst xs))
    (hs : ∀ i x σ H, xs[i]? = some x → Pv i σ H → g x σ H fun σ2 H2 => tb { D with nx := Pv (i + 1), ct := Pv (i + 1), bk := D.nx } σ2 H2) (hd : ∀ σ H, Pv xs.length σ H → D.nx σ H) : ForB (Itl K a) g tb D σ H :=
  for_list Pv h0 (fun i σ H hi p => SqL.of (hl i σ H hi p)) hs hd
theorem forB_tup {a : Addr} (xs : List V) (Pv : Nat → St → Hp → Prop) (h0 : Pv 0 σ H) (hl : ∀ i σ H, i ≤ xs.length → Pv i σ H → H a = some (.tup xs))
    (hs : ∀ i x σ H, xs[i]? = some x → Pv i σ H → g x σ H fun σ2 H2 => tb { D with nx := Pv (i + 1), ct := Pv (i + 1), bk := D.nx } σ2 H2) (hd : ∀ σ H, Pv xs.length σ H → D.nx σ H) : ForB (Itt K a) g tb D σ H :=
  for_tup Pv h0 (fun i σ H hi p => SqT.of (hl i σ H hi p)) hs hd
/-- a turn of a comprehension reaches Pv -/
def CStep (g : TG) (tt : TT) (te : TE) (x : V) (acc : List V) (σ : St) (H : Hp) (N : List V → St → Hp → Prop) : Prop :=
  g x σ H fun σ2 H2 => tt σ2 H2 fun b H3 => if b = true then te σ2 H3 fun y H4 => acc.length < sizeLine ∧ N (acc ++ [y]) σ2 H4 else N acc σ2 H3

theorem compB_of {J : It} {n : Nat} (Pv : Nat → List V → St → Hp → Prop) (h0 : Pv 0 [] σ H)
    (hs : ∀ i acc σ H, i < n → Pv i acc σ H → J.go i H ∧ ∀ x H', J.yld i H x H' → CStep g tt te x acc σ H' (Pv (i + 1)))
    (hd : ∀ acc σ H, Pv n acc σ H → J.stop n H ∧ ∀ p, H p = none → Q (.ref p) (upd H p (.lst acc))) : CompB J g tt te Q σ H := by
  refine ⟨fun i m acc σ H => m = n - i ∧ i ≤ n ∧ Pv i acc σ H, ⟨n, by simp, Nat.zero_le _, h0⟩, ?_⟩
  rintro i m acc σ H ⟨rfl, hi, p⟩
  by_cases hlt : i < n
  · obtain ⟨go, step⟩ := hs i acc σ H hlt p
    refine .inr ⟨go, fun x H' y => ?_⟩
    have e : ∀ acc σ H, (∃ m', m' < n - i ∧ m' = n - (i + 1) ∧ i + 1 ≤ n ∧ Pv (i + 1) acc σ H) = Pv (i + 1) acc σ H := fun acc σ H => propext ⟨fun ⟨_, _, _, _, q⟩ => q, fun q => ⟨n - (i + 1), by omega, rfl, hlt, q⟩⟩
    simp only [e]
    exact step x H' y
  · have e : i = n := by omega
    subst e
    obtain ⟨a, b⟩ := hd acc σ H p
    exact .inl ⟨a, b⟩
theorem compB_range {lo : Int} {n : Nat} (Pv : Nat → List V → St → Hp → Prop) (h0 : Pv 0 [] σ H) (hs : ∀ i acc σ H, i < n → Pv i acc σ H → CStep g tt te (.int (lo + i)) acc σ H (Pv (i + 1)))
    (hd : ∀ acc σ H, Pv n acc σ H → ∀ p, H p = none → Q (.ref p) (upd H p (.lst acc))) : CompB (Itr lo n) g tt te Q σ H :=
  compB_of Pv h0 (fun i acc σ H hi p => ⟨hi, fun x H' y => by obtain ⟨rfl, rfl⟩ := y; exact hs i acc σ _ hi p⟩) fun acc σ H p => ⟨Nat.le_refl _, hd acc σ H p⟩
theorem compB_list {a : Addr} (xs : List V) (Pv : Nat → List V → St → Hp → Prop) (h0 : Pv 0 [] σ H) (hl : ∀ i acc σ H, i ≤ xs.length → Pv i acc σ H → H a = some (.lst xs))
    (hs : ∀ i x acc σ H, xs[i]? = some x → Pv i acc σ H → CStep g tt te x acc σ H (Pv (i + 1))) (hd : ∀ acc σ H, Pv xs.length acc σ H → ∀ p, H p = none → Q (.ref p) (upd H p (.lst acc))) : CompB (Itl K a) g tt te Q σ H :=
  compB_of (n := xs.length) Pv h0 (fun i acc σ H hi p => ⟨⟨xs, xs[i], SqL.of (hl i acc σ H (Nat.le_of_lt hi) p), by simp [hi]⟩, fun x H' y => by obtain ⟨rfl, y⟩ := y; exact hs i x acc σ _ (y xs (SqL.of (hl i acc σ _ (Nat.le_of_lt hi) p))) p⟩)
    fun acc σ H p => ⟨⟨xs, SqL.of (hl _ acc σ H (Nat.le_refl _) p), Nat.le_refl _⟩, hd acc σ H p⟩
theorem compB_tup {a : Addr} (xs : List V) (Pv : Nat → List V → St → Hp → Prop) (h0 : Pv 0 [] σ H) (hl : ∀ i acc σ H, i ≤ xs.length → Pv i acc σ H → H a = some (.tup xs))
    (hs : ∀ i x acc σ H, xs[i]? = some x → Pv i acc σ H → CStep g tt te x acc σ H (Pv (i + 1))) (hd : ∀ acc σ H, Pv xs.length acc σ H → ∀ p, H p = none → Q (.ref p) (upd H p (.lst acc))) : CompB (Itt K a) g tt te Q σ H :=
  compB_of (n := xs.length) Pv h0 (fun i acc σ H hi p => ⟨⟨xs, xs[i], SqT.of (hl i acc σ H (Nat.le_of_lt hi) p), by simp [hi]⟩, fun x H' y => by obtain ⟨rfl, y⟩ := y; exact hs i x acc σ _ (y xs (SqT.of (hl i acc σ _ (Nat.le_of_lt hi) p))) p⟩)
    fun acc σ H p => ⟨⟨xs, SqT.of (hl _ acc σ H (Nat.le_refl _) p), Nat.le_refl _⟩, hd acc σ H p⟩
/-- while, the test's reading told at once: b by the state -/
theorem whileB {c : TT} (Pv : St → Hp → Prop) (μ : St → Hp → Nat) (h0 : Pv σ H)
    (hs : ∀ σ H, Pv σ H → ∃ b : Bool, (∀ R : Bool → Hp → Prop, R b H → c σ H R) ∧ (b = true → tb { D with nx := fun σ' H' => Pv σ' H' ∧ μ σ' H' < μ σ H, ct := fun σ' H' => Pv σ' H' ∧ μ σ' H' < μ σ H, bk := D.nx } σ H) ∧ (b = false → D.nx σ H)) : tWhile c tb D σ H := by
  refine ⟨fun m σ H => m = μ σ H ∧ Pv σ H, ⟨_, rfl, h0⟩, ?_⟩
  rintro m σ H ⟨rfl, p⟩
  obtain ⟨b, hc, ht, hf⟩ := hs σ H p
  refine hc _ ?_
  cases b with
  | true => exact ⟨_, fun σ' H' ⟨p', l⟩ => ⟨_, l, rfl, p'⟩, ht rfl⟩
  | false => exact hf rfl
/-! ### places -/
theorem ixN_lt {n : Nat} {i : Int} (h0 : 0 ≤ i) (h1 : i < n) : ixN n i = some i.toNat := by unfold ixN; rw [if_pos h0, if_pos h1]
theorem atI_lt {α : Type} {xs : List α} {i : Int} (h0 : 0 ≤ i) (h1 : i < xs.length) : atI xs i = xs[i.toNat]? := by unfold atI; rw [ixN_lt h0 h1]; rfl
theorem atI_zero {α : Type} {a : α} {xs : List α} : atI (a :: xs) 0 = some a := by rw [atI_lt (by decide) (by simp only [List.length_cons]; omega)]; rfl
theorem atI_one {α : Type} {a b : α} {xs : List α} : atI (a :: b :: xs) 1 = some b := by rw [atI_lt (by decide) (by simp only [List.length_cons]; omega)]; rfl
theorem ixN_zero {n : Nat} : ixN (n + 1) 0 = some 0 := by rw [ixN_lt (by decide) (by omega)]; rfl
theorem ixN_one {n : Nat} : ixN (n + 1 + 1) 1 = some 1 := by rw [ixN_lt (by decide) (by omega)]; rfl
theorem atI_neg1 {α : Type} {xs : List α} {a : α} : atI (xs ++ [a]) (-1) = some a := atI_last xs a
end
/-! ### heaps -/
theorem Same.upd {H : Hp} {a : Addr} {o : HO} (h : H a = none) : Same H (upd H a o) := fun b u e => by rw [upd_ne (ne_of_none e h)]; exact e
/-- all but the one at p is as it was -/
def But (p : Addr) (H H' : Hp) : Prop := ∀ b o, b ≠ p → H b = some o → H' b = some o
theorem But.refl (p : Addr) (H : Hp) : But p H H := fun _ _ _ h => h
theorem But.trans {p : Addr} {H H1 H2 : Hp} (a : But p H H1) (b : But p H1 H2) : But p H H2 := fun c o n h => b c o n (a c o n h)
theorem But.upd (p : Addr) (H : Hp) (o : HO) : But p H (upd H p o) := fun c u n h => by rw [upd_ne n]; exact h
theorem But.new {p a : Addr} {H : Hp} {o : HO} (h : H a = none) : But p H (L2.upd H a o) := fun c u n e => by rw [upd_ne (ne_of_none e h)]; exact e
theorem Same.but {p : Addr} {H H' : Hp} (s : Same H H') : But p H H' := fun b o _ h => s b o h
mutual
/-- data that does not reach the one at p is kept -/
def NoP (H : Hp) (p : Addr) : D → V → Prop
  | .tup ds, v => ∃ a vs, v = .ref a ∧ a ≠ p ∧ H a = some (.tup vs) ∧ NoPs H p ds vs
  | .lst ds, v => ∃ a vs, v = .ref a ∧ a ≠ p ∧ H a = some (.lst vs) ∧ NoPs H p ds vs
  | d, v => Rep H d v
def NoPs (H : Hp) (p : Addr) : List D → List V → Prop
  | [], vs => vs = []
  | d :: ds, vs => ∃ v r, vs = v :: r ∧ NoP H p d v ∧ NoPs H p ds r
end
end L2

namespace L2
open PySem PySem.Spec PyProof.Rows PyProof.Rows.LSm
/-! ### all, any, sum over a list; min, max of two -/
section
variable {X : Cx}
theorem boolsAre_of : ∀ {bs : List Bool} {us : List Value}, Vals (bs.map V.bl) us → BoolsAre us bs
  | [], _, r => by cases r; exact .nil
  | b :: bs, _, r => by
    cases r with
    | cons r1 r2 => cases r1; exact .cons b (boolsAre_of r2)
/-- a walk over a list of bools: n of them, and which one is true; d stands behind the end -/
theorem iter_bools {prog : Program} {w : World} {A : Around} {E : Value → Shared → Prop} {s : Shared} {p : Addr} {its : List Value} {bs : List Bool} (d : Bool) {K : Bool → Shared → Prop} {fold : Nat → (Nat → Bool) → Bool} (hh : A.handled = none) (at_ : s.heap.IsList p its.toArray) (are : BoolsAre its bs)
    (k : ∀ h' tk, (∀ b x, s.heap.get? b = some x → h'.get? b = some x) → K (fold bs.length fun i => (bs[i]?).getD d) { s with heap := h', toks := tk }) :
    wpAny (model prog w) A (pyIter (.ref p)) (fun it t => ∃ I fp wr n P St tr, it = .ref I ∧ Walks prog w A I fp wr n P St ∧ St 0 t.heap ∧ TruthOf prog w A P tr ∧
      ∀ h' tk, (∀ b x, b ∉ wr → t.heap.get? b = some x → h'.get? b = some x) → K (fold n tr) { t with heap := h', toks := tk }) E s := by
  have ne : p ≠ s.heap.objs.size := let ⟨_, e, _⟩ := id at_; Nat.ne_of_lt (Heap.lt_size e)
  have truth : TruthOf prog w A (fun i v => its.toArray[i]? = some v) fun i => (bs[i]?).getD d := by
    intro i v t Q X hv hQ
    obtain ⟨b, is, rfl⟩ := LSm.BoolsAre.get are i v (by simpa using hv)
    have hQ : Q ((bs[i]?).getD d) t := hQ
    rw [is] at hQ
    exact wpAny_truthy_bool hQ
  have len : its.toArray.size = bs.length := (List.size_toArray ..).trans (LSm.BoolsAre.length are)
  refine wpAny_pyIter_list at_ ⟨_, _, _, _, _, _, _, rfl, Walks.list hh s.heap.objs.size p ne its.toArray, ?_, truth, fun h' tk hk => ?_⟩
  · exact And.intro ⟨_, Heap.get?_push_size _ rfl, rfl, rfl⟩ (at_.push _)
  · rw [len]
    exact k h' tk (LSm.kept_iter hk)
def rAll : List V → Hp → VK → Prop := fun xs H Q => ∃ (p : Addr) (bs : List Bool), xs = [.ref p] ∧ H p = some (.lst (bs.map V.bl)) ∧ Q (.bl (bs.all id)) H
def rAny : List V → Hp → VK → Prop := fun xs H Q => ∃ (p : Addr) (bs : List Bool), xs = [.ref p] ∧ H p = some (.lst (bs.map V.bl)) ∧ Q (.bl (bs.any id)) H
def rSum : List V → Hp → VK → Prop := fun xs H Q => ∃ (p : Addr) (ns : List Int), xs = [.ref p] ∧ H p = some (.lst (ns.map V.int)) ∧ Q (.int ns.sum) H
/-- all and any, of a list of bools -/
theorem call_bools (hc : X.calm = true) {nm : String} {fold : Nat → (Nat → Bool) → Bool} {says : List Bool → Bool} (d : Bool) (is : ∀ bs : List Bool, fold bs.length (fun i => (bs[i]?).getD d) = says bs)
    (ask : ∀ {s : Shared} {x : Value} {Q E : Value → Shared → Prop}, wpAny (model X.prog X.w) X.A.in1 (pyIter x) (fun it t => ∃ I fp wr n P St tr, it = .ref I ∧ Walks X.prog X.w X.A.in1 I fp wr n P St ∧ St 0 t.heap ∧ TruthOf X.prog X.w X.A.in1 P tr ∧
      ∀ h' tk, (∀ b x, b ∉ wr → t.heap.get? b = some x → h'.get? b = some x) → Q (.bool (fold n tr)) { t with heap := h', toks := tk }) E s → wpAny (model X.prog X.w) X.A (call (.builtin nm) [x]) Q E s) :
    CallR X (.builtin nm) fun xs H Q => ∃ (p : Addr) (bs : List Bool), xs = [.ref p] ∧ H p = some (.lst (bs.map V.bl)) ∧ Q (.bl (says bs)) H := by
  rintro pins s σ H _ us Q I r ⟨p, bs, rfl, hp, q⟩
  obtain ⟨u, rfl, e⟩ := vals1 r
  cases e
  obtain ⟨its, rv, pl, _⟩ := I.list (SqL.of hp)
  refine ask (iter_bools (K := fun b t => EP X pins σ Q (.bool b) t) d (show X.A.in1.handled = none from I.ok.hd hc) pl.isList (boolsAre_of rv) fun h' tk hk => ?_)
  rw [is bs]
  exact ⟨.bl (says bs), H, I.kept (t' := tk) hk, rfl, q⟩
theorem call_allF (hc : X.calm = true) : CallR X (.builtin "all") rAll := call_bools hc true LSm.range_all call_all_walk
theorem call_anyF (hc : X.calm = true) : CallR X (.builtin "any") rAny := call_bools hc false LSm.range_any call_any_walk
theorem call_sumF (hc : X.calm = true) : CallR X (.builtin "sum") rSum := by
  intro pins s σ H xs us Q I r h
  obtain ⟨p, ns, rfl, hp, q⟩ := h
  obtain ⟨u, rfl, e⟩ := vals1 r
  cases e
  obtain ⟨its, rv, pl, hz⟩ := I.list (SqL.of hp)
  have hi : IntsAre its ns := intsAre_of rv
  obtain ⟨ys, hx⟩ := hi.allInts.items
  have hl' : s.heap.IsList p (intItems ys) := hx ▸ pl.isList
  refine sum_intListG (I.ok.hd hc) hl' fun h' tk t' hk => ?_
  have e1 : ns = ys.toList.map (·.1) := by
    rw [← nums_intItems, ← hx]
    exact (show numsOf its.toArray.toList = ns from hi.numsOf).symm
  have e2 : preSum (numAt ys) ys.size = ns.sum := by
    have all : (ys.toList.map (·.1)).take ys.size = ys.toList.map (·.1) := List.take_of_length_le (by simp)
    rw [e1, ← all, ← preSum_eq]
  rw [e2]
  exact ⟨.int ns.sum, H, I.kept (t' := tk) hk, ⟨t', rfl⟩, q⟩
theorem call_maxF (hc : X.calm = true) : CallR X (.builtin "max") (fun xs H Q => ∃ i j, xs = [.int i, .int j] ∧ Q (.int (if j > i then j else i)) H) := call_max2 hc
theorem call_minF (hc : X.calm = true) : CallR X (.builtin "min") (fun xs H Q => ∃ i j, xs = [.int i, .int j] ∧ Q (.int (if j < i then j else i)) H) := call_min2 hc
end
end L2

namespace L2
open PySem PySem.Spec PyProof.Rows
/-! ### zip of two lists, taken apart at once -/
section
variable {X : Cx} {pins : List (Addr × Obj)} {σ : St} {H : Hp} {s : Shared} {h' : Heap}
theorem Inv.turnedL {t' : Nat} {ch : List Addr} (I : Inv X pins σ H s) (k : ∀ b o, b ∉ ch → s.heap.get? b = some o → h'.get? b = some o) (hf : ∀ b ∈ ch, FpOk X pins H b) : Inv X pins σ H { s with heap := h', toks := t' } := by
  have nit : ∀ b u, H b = some u → b ∉ ch := fun b u e z => by rw [(hf b z).1] at e; cases e
  have hL : X.env.locals ∉ ch := fun z => (hf _ z).2.1 rfl
  refine I.step (g' := s.gens) (d' := s.drawn) (ch := ch) (fun b hb => ?_) (fun b o _ _ hc e _ => k b o hc e) (fun b o _ _ hc e _ => ⟨o.slots, k b o hc e⟩) (fun _ _ _ _ n => n)
    (fun b o hc e => ⟨o, k b o hc e⟩) (fun _ _ e => e) (fun _ _ _ e => e) (fun b ps e => ⟨#[], by rw [e]; simp⟩) (fun m hm => ?_) (fun b u e => ?_) I.bare
  · obtain ⟨f0, f1, f2, f3, f4, f5⟩ := hf b hb
    exact ⟨f3, f1, f4, f5⟩
  · obtain ⟨o, es, ep, ho, r⟩ := hm
    exact ⟨o, es, ep, k _ o hL ho, r⟩
  · refine (I.hok b u e).stay (fun c v hc q => k c v ?_ q) (fun _ q => q) fun _ _ q => q
    rcases hc with z | z
    · rw [z]; exact nit b u e
    · exact nit c _ z
theorem Inv.turnedLaid {t' : Nat} {ch : List Addr} {T : Addr} {o : HO} (I : Inv X pins σ H s) (k : ∀ b o, b ∉ ch → s.heap.get? b = some o → h'.get? b = some o) (hf : ∀ b ∈ ch, FpOk X pins H b)
    (hp : s.heap.objs.size ≤ T) (new : ObjOk X.prog X.w (upd H T o) h' T o) : Inv X pins σ (upd H T o) { s with heap := h', toks := t' } := by
  have hn : H T = none := I.hok.fresh hp
  have nit : ∀ b u, H b = some u → b ∉ ch := fun b u e z => by rw [(hf b z).1] at e; cases e
  have hL : X.env.locals ∉ ch := fun z => (hf _ z).2.1 rfl
  have lt : ∀ b ob, s.heap.get? b = some ob → b ≠ T := fun b ob e => Nat.ne_of_lt (Nat.lt_of_lt_of_le (Heap.lt_size e) hp)
  refine I.step (g' := s.gens) (d' := s.drawn) (ch := ch) (fun b hb => ?_) (fun b o _ _ hc e _ => k b o hc e) (fun b o _ _ hc e _ => ⟨o.slots, k b o hc e⟩) (fun b ob _ e n => by rw [upd_ne (lt b ob e)]; exact n)
    (fun b o hc e => ⟨o, k b o hc e⟩) (fun b xs e => by rw [upd_ne (ne_of_none e hn)]; exact e) (fun b _ _ e => by rw [upd_ne (ne_of_none e hn)]; exact e) (fun b ps e => ⟨#[], by rw [upd_ne (ne_of_none e hn), e]; simp⟩) (fun m hm => ?_) (fun b u e => ?_) I.bare
  · obtain ⟨f0, f1, f2, f3, f4, f5⟩ := hf b hb
    exact ⟨f3, f1, f4, f5⟩
  · obtain ⟨o, es, ep, ho, r⟩ := hm
    exact ⟨o, es, ep, k _ o hL ho, r⟩
  · by_cases hb : b = T
    · subst hb
      rw [upd_same] at e
      cases e
      exact new
    · rw [upd_ne hb] at e
      refine (I.hok b u e).stay (fun c v hc q => k c v ?_ q) (fun c q => by rw [upd_ne (ne_of_none q hn)]; exact q) fun c xs q => by rw [upd_ne (ne_of_none q hn)]; exact q
      rcases hc with z | z
      · rw [z]; exact nit b u e
      · exact nit c _ z
end
def Itz (K : PySem.W.Frag) (a b : Addr) : It :=
  ⟨fun i H => ∃ xs ys x y, SqL K H a xs ∧ SqL K H b ys ∧ xs[i]? = some x ∧ ys[i]? = some y,
   fun i H z H' => ∃ T x y, z = .ref T ∧ H T = none ∧ H' = upd H T (.tup [x, y]) ∧ ∀ xs ys, SqL K H a xs → SqL K H b ys → xs[i]? = some x ∧ ys[i]? = some y,
   fun i H => ∃ xs ys, SqL K H a xs ∧ SqL K H b ys ∧ (xs.length ≤ i ∨ ys.length ≤ i)⟩
structure ZipAt (z TI TO i1 i2 : Addr) : Prop where
  TIz : TI ≠ z
  TOz : TO ≠ z
  i1z : i1 ≠ z
  i2z : i2 ≠ z
  TITO : TI ≠ TO
  TIi1 : TI ≠ i1
  TIi2 : TI ≠ i2
  TOi1 : TO ≠ i1
  TOi2 : TO ≠ i2
  i12 : i1 ≠ i2
theorem list_ne {h : Heap} {l b : Addr} {xs : Array Value} {o : Obj} (hl : h.IsList l xs) (e : h.get? b = some o) (c : o.cls ≠ .type "list") : l ≠ b := fun z => by
  obtain ⟨ob, ho, hc, _⟩ := hl
  subst z
  rw [ho] at e
  cases e
  exact c hc
theorem ZipAt.apart {h : Heap} {z TI TO i1 i2 l1 l2 : Addr} {xs ys : Array Value} {a b : Value} (D : ZipAt z TI TO i1 i2) (hz : IsZip h z TI TO .none) (hTO : IsPair h TO a b) {k1 k2 : Nat} (h1 : h.IsListIter i1 l1 k1) (h2 : h.IsListIter i2 l2 k2)
    (hl1 : h.IsList l1 xs) (hl2 : h.IsList l2 ys) : ZipApart z TI TO i1 i2 l1 l2 := by
  obtain ⟨o1, e1, c1, _⟩ := id h1
  obtain ⟨o2, e2, c2, _⟩ := id h2
  have n1 : o1.cls ≠ .type "list" := by rw [c1]; decide
  have n2 : o2.cls ≠ .type "list" := by rw [c2]; decide
  exact ⟨D.TIz, D.TOz, D.i1z, D.i2z, D.TITO, D.TIi1, D.TIi2, D.TOi1, D.TOi2, D.i12, list_ne hl1 hz (show Value.type "zip" ≠ .type "list" by decide), list_ne hl1 hTO (show Value.type "tuple" ≠ .type "list" by decide), list_ne hl1 e1 n1, list_ne hl1 e2 n2,
    list_ne hl2 hz (show Value.type "zip" ≠ .type "list" by decide), list_ne hl2 hTO (show Value.type "tuple" ≠ .type "list" by decide), list_ne hl2 e1 n1, list_ne hl2 e2 n2⟩
theorem turn_zip {P : Program} {w : World} {K : PySem.W.Frag} {elts : List Expr} {tk0} {tpos : Pos} (a b z TI TO i1 i2 : Addr) (D : ZipAt z TI TO i1 i2) :
    Turn P w K (.Tuple elts tk0 tpos) (Itz K a b) [z, TI, TO, i1, i2] z (fun i h => IsZip h z TI TO .none ∧ IsPair h TI (.ref i1) (.ref i2) ∧ (∃ u v, IsPair h TO u v) ∧ h.IsListIter i1 a i ∧ h.IsListIter i2 b i) where
  mem := by simp
  obj := fun i h st c hc => by
    obtain ⟨hz, hTI, ⟨u, v, hTO⟩, ⟨o1, e1, c1, d1⟩, ⟨o2, e2, c2, d2⟩⟩ := st
    simp only [List.mem_cons, List.not_mem_nil, or_false] at hc
    rcases hc with rfl | rfl | rfl | rfl | rfl
    · exact ⟨_, hz, fun v z => by cases z⟩
    · exact ⟨_, hTI, fun v z => by cases z⟩
    · exact ⟨_, hTO, fun v z => by cases z⟩
    · exact ⟨_, e1, fun v z => by rw [d1] at z; cases z⟩
    · exact ⟨_, e2, fun v z => by rw [d2] at z; cases z⟩
  keep := fun i h h' st k => by
    obtain ⟨hz, hTI, ⟨u, v, hTO⟩, h1, h2⟩ := st
    exact ⟨k z (by simp) _ hz, k TI (by simp) _ hTI, ⟨u, v, k TO (by simp) _ hTO⟩, h1.at fun o e => k i1 (by simp) o e, h2.at fun o e => k i2 (by simp) o e⟩
  item := by
    intro X hP hw hK hc i pins s σ H E I hf st hg
    subst hP hw hK
    obtain ⟨xs, ys, x, y, hxs, hys, hx, hy⟩ := hg
    obtain ⟨its, rv, p, hz1⟩ := I.list hxs
    obtain ⟨its2, rv2, p2, hz2⟩ := I.list hys
    obtain ⟨u, hu, ru⟩ := rv.get hx
    obtain ⟨v, hv, rv'⟩ := rv2.get hy
    obtain ⟨hz, hTI, ⟨a0, b0, hTO⟩, h1, h2⟩ := st
    have D' := D.apart hz hTO h1 h2 p.isList p2.isList
    refine wpAny_pyNext_zip_item D' hz hTI hTO h1 h2 p.isList p2.isList (x := u) (y := v) (by simpa using hu) (by simpa using hv) fun h' a1 a2 a3 a4 a5 a6 hk => ?_
    refine ⟨_, rfl, wpAny_letOwnedTupleGo_zip (s := { s with heap := h' }) a1 fun h2' hz' hs' => ?_⟩
    have lt : ∀ {c : Addr} {o : Obj}, s.heap.get? c = some o → s.heap.objs.size ≠ c := fun e z => Nat.lt_irrefl _ (z ▸ Heap.lt_size e)
    have pr : IsPair h2' s.heap.objs.size u v := hs'.extBut _ _ (lt hz) a5
    have nT : ∀ c ∈ [z, TI, TO, i1, i2], c ≠ s.heap.objs.size := fun c hc => by
      simp only [List.mem_cons, List.not_mem_nil, or_false] at hc
      rcases hc with rfl | rfl | rfl | rfl | rfl
      · exact (lt hz).symm
      · exact (lt hTI).symm
      · exact (lt hTO).symm
      · obtain ⟨_, e, _⟩ := h1; exact (lt e).symm
      · obtain ⟨_, e, _⟩ := h2; exact (lt e).symm
    have I1 : Inv X pins σ (upd H s.heap.objs.size (.tup [x, y])) { s with heap := h2' } := I.turnedLaid (t' := s.toks) (ch := [z, TI, TO, i1, i2]) (fun c o hc e => hs'.extBut _ _ (fun q => hc (by simp [q])) (hk c o (fun q => hc (by simp [q])) (fun q => hc (by simp [q])) (fun q => hc (by simp [q])) (fun q => hc (by simp [q])) e)) hf (Nat.le_refl _)
      ⟨by show 2 ≤ sizeLine; decide, [u, v], .cons ru (.cons rv' .nil), ⟨_, pr, rfl, _, rfl⟩⟩
    refine ⟨.ref s.heap.objs.size, _, I1, rfl, ⟨s.heap.objs.size, x, y, rfl, I.hok.fresh (Nat.le_refl _), rfl, fun xs' ys' q1 q2 => ?_⟩, ⟨hz', hs'.extBut _ _ D.TIz (hk _ _ D.TIz D.TITO D.TIi1 D.TIi2 hTI), ⟨u, v, hs'.extBut _ _ D.TOz a2⟩, a3.extBut hs'.extBut D.i1z, a4.extBut hs'.extBut D.i2z⟩, fun c hc => ?_⟩
    · rw [I.list_inj q1 hxs, I.list_inj q2 hys]; exact ⟨hx, hy⟩
    · rw [upd_ne (nT c hc)]; exact (hf c hc).1
  done := by
    intro X hP hw hK hc i pins s σ H E I hf st hg
    subst hP hw hK
    obtain ⟨xs, ys, hxs, hys, hd⟩ := hg
    obtain ⟨its, rv, p, hz1⟩ := I.list hxs
    obtain ⟨its2, rv2, p2, hz2⟩ := I.list hys
    obtain ⟨hz, hTI, ⟨a0, b0, hTO⟩, h1, h2⟩ := st
    have D' := D.apart hz hTO h1 h2 p.isList p2.isList
    have l1 := rv.length
    have l2 := rv2.length
    refine wpAny_pyNext_zip_end (I.ok.hd hc) D' hz hTI hTO h1 h2 p.isList p2.isList (hd.elim (fun q => .inl (by simp; omega)) fun q => .inr (by simp; omega)) fun h' hk => ⟨rfl, ?_⟩
    exact I.turnedL (t' := s.toks) (ch := [z, TI, TO, i1, i2]) (fun c o hc e => hk c o (fun q => hc (by simp [q])) (fun q => hc (by simp [q])) (fun q => hc (by simp [q])) (fun q => hc (by simp [q])) e) hf
  self := fun _ _ _ _ _ st h => wpAny_pyIter_zip st.1 h
section
variable {X : Cx} {elts : List Expr} {tk0 : _} {tpos : Pos}
def iZip (K : PySem.W.Frag) (ta : TA) : TI := fun σ H R => ta σ H fun vs H1 => ∃ a b, vs = [.ref a, .ref b] ∧ (∃ xs, SqL K H1 a xs) ∧ (∃ ys, SqL K H1 b ys) ∧ R (Itz K a b) H1
theorem pi_zip {a b : Expr} {ta : TA} {p pos : Pos} (hg : Gl X "zip") (hm : X.mg "zip" = none) (ha : PA X [a, b] ta) (hs : starEach [a, b] X.env = [(false, eval a X.env), (false, eval b X.env)] := by rfl) (hs2 : starEach [b] X.env = [(false, eval b X.env)] := by rfl) :
    PI X (.Tuple elts tk0 tpos) (.Call (.Name "zip" p) [a, b] [] pos) (iZip X.K ta) := by
  intro pins s σ H R I h
  refine Call_ (ld_blt I hg hm boot_zip (PyProof.Rows.callWith_type1 (thn (ha pos pins s σ H _ I h) fun us s1 ⟨vs, H1, I1, r1, q1⟩ => ?_) (by rw [hs, hs2]) (by rw [hs2]; rfl)))
  obtain ⟨l1, l2, e, ⟨xs, hx⟩, ⟨ys, hy⟩, q⟩ := q1
  subst e
  obtain ⟨u1, u2, rfl, e1, e2⟩ := vals2 r1
  cases e1
  cases e2
  obtain ⟨its, rv, p1, hz1⟩ := I1.list hx
  obtain ⟨its2, rv2, p2, hz2⟩ := I1.list hy
  refine call_zip_2 p1.isList p2.isList fun h' a1 a2 a3 a4 a5 a6 hk => ?_
  refine wpAny_pyIter_zip (s := { s1 with heap := h' }) a1 ?_
  have lt : ∀ c, s1.heap.objs.size ≤ c → FpOk X pins H1 c := fun c hc => I1.fpOk hc (I1.hok.fresh hc)
  have D : ZipAt (s1.heap.objs.size + 4) (s1.heap.objs.size + 2) (s1.heap.objs.size + 3) s1.heap.objs.size (s1.heap.objs.size + 1) := by
    constructor <;> (intro z; have z : (_ : Nat) = _ := z; omega)
  refine ⟨_, [_, _, _, _, _], _, _, H1, rfl, I1.kept (t' := s1.toks) hk, turn_zip l1 l2 _ _ _ _ _ D, ⟨a1, a2, ⟨_, _, a3⟩, a4, a5⟩, fun c hc => ?_, q⟩
  simp only [List.mem_cons, List.not_mem_nil, or_false] at hc
  refine lt c ?_
  rcases hc with rfl | rfl | rfl | rfl | rfl
  · exact Nat.le_add_right _ _
  · exact Nat.le_add_right _ _
  · exact Nat.le_add_right _ _
  · exact Nat.le_refl _
  · exact Nat.le_add_right _ _
end
end L2

namespace L2
open PySem PySem.Spec PyProof.Rows
/-! ### a comprehension of two fors -/
/-- what the outer turn does behind its store: the inner walk is begun and run -/
def walkIn (i2 : Expr) (e : Expr) (acc : Value) (env : Env) (k : Sem PySem.Fin) : Sem PySem.Fin :=
  eval i2 env >>= fun x => standAt i2.pos >>= fun _ => foldedSetIterable i2 env x >>= fun x => holding [x] (pyIter x) >>= fun v => runOwn (.compStart e 1 v acc env) env >>= fun _ => k
theorem turn_out (elt t1 i1 t2 i2 : Expr) (ifs : List Expr) (scope : Scope) (pos : Pos) (it acc : Value) (env : Env) :
    compTurn (.ListComp elt [⟨t1, i1, [], 0⟩, ⟨t2, i2, ifs, 0⟩] scope pos) 0 it acc env =
      turnOf i1.pos it t1 env (walkIn i2 (.ListComp elt [⟨t1, i1, [], 0⟩, ⟨t2, i2, ifs, 0⟩] scope pos) acc env (again (.compLoop (.ListComp elt [⟨t1, i1, [], 0⟩, ⟨t2, i2, ifs, 0⟩] scope pos) 0 it acc env))) := rfl
theorem turn_in (elt t1 i1 t2 i2 : Expr) (ifs : List Expr) (scope : Scope) (pos : Pos) (it acc : Value) (env : Env) :
    compTurn (.ListComp elt [⟨t1, i1, [], 0⟩, ⟨t2, i2, ifs, 0⟩] scope pos) 1 it acc env =
      turnOf i2.pos it t2 env (layOn ifs (layElt elt acc env) env (.compLoop (.ListComp elt [⟨t1, i1, [], 0⟩, ⟨t2, i2, ifs, 0⟩] scope pos) 1 it acc env)) := rfl
section
variable {prog : Program} {w : World} {A : Around} {R : Result → Shared → Prop} {E : Value → Shared → Prop} {s : Shared} {i2 e : Expr} {acc : Value} {env : Env}
theorem walkIn_run {k : Sem PySem.Fin} {Q : PySem.Fin → Shared → Prop} (hs : ∀ x, foldedSetIterable i2 env x = pure x)
    (h : wpAny (model prog w) A (eval i2 env) (fun x t => wpAny (model prog w) A (pyIter x) (fun v t => wpAny (model prog w) A (runOwn (.compStart e 1 v acc env) env) (fun _ t => wpAny (model prog w) A k Q E t) E t) E t) E s) :
    wpAny (model prog w) A (walkIn i2 e acc env k) Q E s := by
  unfold walkIn
  refine wpAny_bind (thn h fun x t q => wpAny_bind (wpAny_standAt (wpAny_bind ?_)))
  rw [hs x]
  exact wpAny_pure (wpAny_bind (wpAny_holding (thn q fun v t q => wpAny_bind q)))
/-- the inner walk is begun: whether or not its iterator is asked for itself once more -/
theorem start_in {elt t1 i1 t2 : Expr} {ifs : List Expr} {scope : Scope} {pos : Pos} {it : Value}
    (h0 : codeAny (model prog w) A (.compLoop (.ListComp elt [⟨t1, i1, [], 0⟩, ⟨t2, i2, ifs, 0⟩] scope pos) 1 it acc env) R s)
    (self : ∀ (Q : Value → Shared → Prop) (E : Value → Shared → Prop), Q it s → wpAny (model prog w) A (pyIter it) Q E s) :
    codeAny (model prog w) A (.compStart (.ListComp elt [⟨t1, i1, [], 0⟩, ⟨t2, i2, ifs, 0⟩] scope pos) 1 it acc env) R s := by
  have den : wpAny (model prog w) A (compStart (.ListComp elt [⟨t1, i1, [], 0⟩, ⟨t2, i2, ifs, 0⟩] scope pos) 1 it acc env)
      (fun f t => f = .again (.compLoop (.ListComp elt [⟨t1, i1, [], 0⟩, ⟨t2, i2, ifs, 0⟩] scope pos) 1 it acc env) ∧ t = s) (XN prog w A env R) s := by
    unfold compStart
    dsimp only [clausesOf, List.getElem?_cons_succ, List.getElem?_cons_zero, Option.elim]
    change wpAny (model prog w) A (bind ask _) _ (XN prog w A env R) s
    apply wpAny_bind
    apply wpAny_askSetting
    by_cases z : (model prog w).w.params.followText "comprehension-iter-twice" = true
    · rw [if_pos z]; exact wpAny_pure ⟨rfl, rfl⟩
    · rw [if_neg z]
      exact wpAny_bind (wpAny_rule (wpAny_bind (wpAny_standAt (wpAny_bind (self _ _ (wpAny_pure ⟨rfl, rfl⟩))))))
  apply codeAny_of_tree
  apply wpAny_notedAt
  refine thn den ?_
  rintro _ _ ⟨rfl, rfl⟩
  exact ⟨rfl, h0⟩
end
def CTurnS (J : It) (g : TG) (tt : TT) (te : TE) (Fin : List V → St → Hp → Prop) (W : CW) : Prop := ∀ i m acc σ H, W i m acc σ H →
  (J.stop i H ∧ Fin acc σ H) ∨
  (J.go i H ∧ ∀ x H', J.yld i H x H' → g x σ H' fun σ2 H2 => tt σ2 H2 fun b H3 =>
    if b = true then te σ2 H3 fun y H4 => acc.length < sizeLine ∧ ∃ m', m' < m ∧ W (i + 1) m' (acc ++ [y]) σ2 H4 else ∃ m', m' < m ∧ W (i + 1) m' acc σ2 H3)
/-- the inner walk as one word -/
def InB (J : It) (g : TG) (tt : TT) (te : TE) (Fin : List V → St → Hp → Prop) (acc : List V) (σ : St) (H : Hp) : Prop := ∃ W : CW, (∃ m, W 0 m acc σ H) ∧ CTurnS J g tt te Fin W
def CompB2 (J : It) (g1 : TG) (wi2 : TI) (g2 : TG) (tt : TT) (te : TE) (Q : VK) (σ : St) (H1 : Hp) : Prop := ∃ W : CW, (∃ m, W 0 m [] σ H1) ∧ ∀ i m acc σ H, W i m acc σ H →
  (J.stop i H ∧ ∀ p, H p = none → Q (.ref p) (upd H p (.lst acc))) ∨
  (J.go i H ∧ ∀ x H', J.yld i H x H' → g1 x σ H' fun σ2 H2 => wi2 σ2 H2 fun J2 H3 => InB J2 g2 tt te (fun acc' σ' H4 => ∃ m', m' < m ∧ W (i + 1) m' acc' σ' H4) acc σ2 H3)
def tComp2 (src : List (Option Nat)) (wi : TI) (g1 : TG) (wi2 : TI) (g2 : TG) (tt : TT) (te : TE) : TE := fun σ H Q => wi σ H fun J H1 => CompB2 J g1 wi2 g2 tt te Q (stC src σ) H1
section
variable {Y : Cx} {elt t1 i1 t2 i2 : Expr} {ifs : List Expr} {scope : Scope} {pos : Pos} {pins : List (Addr × Obj)} {D it2 : Addr} {fp2 : List Addr} {tn2 : Nat → Heap → Prop} {J2 : It} {W2 : CW} {Fin : List V → St → Hp → Prop} {R : Result → Shared → Prop} {g : TG} {tt : TT} {te : TE}
/-- the inner walk, run from anywhere between two of its turns -/
theorem inner (hc : Y.calm = true) (hx : ∀ e s, ¬ Y.xe e s) (T : Turn Y.prog Y.w Y.K t2 J2 fp2 it2 tn2) (P : Place Y pins D fp2) (hg : PG Y t2 g) (ht : PTs Y ifs tt) (he : PE Y elt te) (turn : CTurnS J2 g tt te Fin W2)
    (hR : ∀ s σ H acc items, Inv Y pins σ H s → H D = none → s.heap.PlainList D items → Vals acc items.toList → acc.length ≤ sizeLine → Fin acc σ H → R (.ok .next) s) {m : Nat} {s : Shared} (b : Betw Y pins D fp2 tn2 W2 m s) :
    codeAny (model Y.prog Y.w) Y.A (.compLoop (.ListComp elt [⟨t1, i1, [], 0⟩, ⟨t2, i2, ifs, 0⟩] scope pos) 1 (.ref it2) (.ref D) Y.env) R s := by
  refine loop_turns (turn_in ..) (Betw Y pins D fp2 tn2 W2) (fun n s b => ?_) m b
  refine (draw_turn hc hx T P hg turn hR n s b).mono (fun _ z => z) ?_
  rintro t ⟨i, acc, items, k, more, σ3, H3, mid, I3, q3⟩
  exact Laid.run (thn (lay_turn (W := W2) hx P T ht he mid I3 q3) fun ok t q => by
    cases ok
    · exact ⟨rfl, q⟩
    · exact thn q fun _ _ q => ⟨rfl, q⟩)
/-- the outer turn behind its store: the inner walk's own place, with the outer iterator pinned beside -/
theorem walk_turn {it : Addr} {fp : List Addr} {tn : Nat → Heap → Prop} {W : CW} {wi2 : TI} {i n k : Nat} {acc : List V} {more : List (Addr × Obj)} {items : Array Value} {σ : St} {H : Hp} {t : Shared} (hc : Y.calm = true) (hx : ∀ e s, ¬ Y.xe e s) (P : Place Y [] D fp) (hi : PI Y t2 i2 wi2) (hs : ∀ x, foldedSetIterable i2 Y.env x = pure x)
    (hg : PG Y t2 g) (ht : PTs Y ifs tt) (he : PE Y elt te) (B : Mid Y [] D fp tn (i + 1) acc more items k) (I : Inv Y ([] ++ (D, laidObj items k) :: more) σ H t)
    (q : wi2 σ H fun J2 H3 => InB J2 g tt te (fun acc' σ' H4 => ∃ m', m' < n ∧ W (i + 1) m' acc' σ' H4) acc σ H3) :
    wpAny (model Y.prog Y.w) Y.A (walkIn i2 (.ListComp elt [⟨t1, i1, [], 0⟩, ⟨t2, i2, ifs, 0⟩] scope pos) (.ref D) Y.env (again (.compLoop (.ListComp elt [⟨t1, i1, [], 0⟩, ⟨t2, i2, ifs, 0⟩] scope pos) 0 (.ref it) (.ref D) Y.env)))
      (fun f t => f = .again (.compLoop (.ListComp elt [⟨t1, i1, [], 0⟩, ⟨t2, i2, ifs, 0⟩] scope pos) 0 (.ref it) (.ref D) Y.env) ∧ ∃ m, m < n ∧ Betw Y [] D fp tn W m t) (XN Y.prog Y.w Y.A Y.env R) t := by
  apply walkIn_run hs
  refine wpAny_mono (hi _ t σ H _ I q) (fun xv t1' q1 => wpAny_mono q1 ?_ fun e t z => (hx e t z).elim) fun e t z => (hx e t z).elim
  rintro _ t3 ⟨it2, fp2, tn2, J2, H3, rfl, I3, T2, st3, f3, W2, ⟨m2, w2⟩, turn2⟩
  refine wpAny_runOwn ?_
  have sub : ∀ p ∈ more, p ∈ Y.pn ++ ([] ++ (D, laidObj items k) :: more) := fun p hp => by simp [hp]
  have P2 : Place Y more D fp2 := by
    refine ⟨fun z => (f3 D z).2.2.2.2.2 (D, laidObj items k) pin_in rfl, fun H hn => ?_, fun H hn b hb => ?_⟩
    · have f := P.list H hn
      refine ⟨f.1, f.2.1, f.2.2.1, f.2.2.2.1, f.2.2.2.2.1, fun p hp z => ?_⟩
      rcases List.mem_append.mp hp with own | h
      · exact f.2.2.2.2.2 p (List.mem_append_left _ own) z
      · exact P.off (z ▸ B.own p h)
    · have f := f3 b hb
      exact ⟨hn b hb, f.2.1, f.2.2.1, f.2.2.2.1, f.2.2.2.2.1, fun p hp => f.2.2.2.2.2 p ((List.mem_append.mp hp).elim (fun h => List.mem_append_left _ h) (sub p))⟩
  obtain ⟨l1, l2, l3⟩ := Mid.list (pins := []) (i := i) (acc := acc) I3
  have start : Betw Y more D fp2 tn2 W2 m2 t3 := ⟨0, σ, H3, acc, items, I3.pins_of fun p hp => I3.pin p (sub p hp), st3, fun b hb => (f3 b hb).1, l1, ⟨k, l2⟩, B.vals, B.len, w2⟩
  have lp := inner (elt := elt) (t1 := t1) (i1 := i1) (i2 := i2) (scope := scope) (pos := pos) (R := fun r t => match r with
      | .ok _ => wpAny (model Y.prog Y.w) Y.A (again (.compLoop (.ListComp elt [⟨t1, i1, [], 0⟩, ⟨t2, i2, ifs, 0⟩] scope pos) 0 (.ref it) (.ref D) Y.env)) (fun f t => f = .again (.compLoop (.ListComp elt [⟨t1, i1, [], 0⟩, ⟨t2, i2, ifs, 0⟩] scope pos) 0 (.ref it) (.ref D) Y.env) ∧ ∃ m, m < n ∧ Betw Y [] D fp tn W m t) (XN Y.prog Y.w Y.A Y.env R) t
      | .error e => cameBackBy (model Y.prog Y.w) Y.A Y.env (XN Y.prog Y.w Y.A Y.env R) e t) hc hx T2 P2 hg ht he turn2 (fun s σ' H' acc' items' I' hD' pl' rv' hz' ⟨m', hm', w'⟩ => ?_) start
  · exact start_in lp fun Q E q => T2.self _ 0 _ _ _ st3 q
  · refine wpAny_pure ⟨rfl, m', hm', i + 1, σ', H', acc', items', I'.pins_of (fun _ z => nomatch z), ?_⟩
    obtain ⟨b1, b2⟩ := B.back (fun p hp => hp) I'
    exact ⟨b1, b2, hD', pl', rv', hz', w'⟩
end
end L2

namespace L2
open PySem PySem.Spec PyProof.Rows
section
variable {X : Cx} {scope : Scope} {N' : List Str} {src : List (Option Nat)} {elt tg iter t2 i2 : Expr} {ifs : List Expr} {pos : Pos} {g1 g2 : TG} {tt : TT} {te : TE} {wi2 : TI}
theorem comp_block2 {pins : List (Addr × Obj)} {σ : St} {H₂ : Hp} {s₂ : Shared} {fp : List Addr} {it : Addr} {tn : Nat → Heap → Prop} {J : It} {W : CW} {Fin : List V → Hp → Prop} {RR : Value → Addr → Result → Shared → Prop} {E : Value → Shared → Prop}
    (hc : X.calm = true) (S : CompSc X scope N' src) (I2 : Inv X pins σ H₂ s₂) (T : Turn X.prog X.w X.K tg J fp it tn) (st2 : tn 0 s₂.heap) (hf : ∀ b ∈ fp, FpOk X pins H₂ b)
    (hg : ∀ C, PG (blk X scope N' C s₂ H₂ fp) tg g1) (hi2 : ∀ C, PI (blk X scope N' C s₂ H₂ fp) t2 i2 wi2) (hs2 : ∀ C x, foldedSetIterable i2 (blk X scope N' C s₂ H₂ fp).env x = pure x)
    (hg2 : ∀ C, PG (blk X scope N' C s₂ H₂ fp) t2 g2) (ht : ∀ C, PTs (blk X scope N' C s₂ H₂ fp) ifs tt) (he : ∀ C, PE (blk X scope N' C s₂ H₂ fp) elt te)
    (w0 : ∃ m, W 0 m [] (stC src σ) H₂) (turn : ∀ i m acc σ H, W i m acc σ H → (J.stop i H ∧ Fin acc H) ∨
      (J.go i H ∧ ∀ x H', J.yld i H x H' → g1 x σ H' fun σ2 H2 => wi2 σ2 H2 fun J2 H3 => InB J2 g2 tt te (fun acc' σ' H4 => ∃ m', m' < m ∧ W (i + 1) m' acc' σ' H4) acc σ2 H3))
    (hRR : ∀ D C s' H' acc, s₂.heap.objs.size ≤ C → H' C = none → D ≠ C → (∃ m, s'.heap.Ns C m) → Inv X pins σ (upd H' D (.lst acc)) s' → H' D = none → Fin acc H' → RR (.ref D) C (.ok .next) s') :
    wpAny (model X.prog X.w) X.A (newList []) (fun acc s₃ => wpAny (model X.prog X.w) X.A (newFunctionEnv scope X.env.globals (closL X.env.cells scope.names []) [] X.env.qual none .none (some X.env)) (fun cenv s₄ =>
      codeAny (model X.prog X.w) X.A (.compStart (.ListComp elt [⟨tg, iter, [], 0⟩, ⟨t2, i2, ifs, 0⟩] scope pos) 0 (.ref it) acc { cenv with scope := relabel scope X.env }) (RR acc cenv.locals) s₄) E s₃) E s₂ := by
  refine begin_block S I2 T st2 hf fun D C t B => ?_
  obtain ⟨m, b⟩ := B.betw W w0
  refine loop_turns (turn_out ..) (Betw (blk X scope N' C s₂ H₂ fp) [] D fp tn W) (fun n s b => ?_) m b
  refine (draw_turn (Y := blk X scope N' C s₂ H₂ fp) (Fin := fun acc _ H => Fin acc H) hc (fun _ _ z => z) T B.place (hg C) turn (fun s σc H acc items I hD hp r hz fin => ?_) n s b).mono (fun _ z => z) ?_
  · obtain ⟨o1, o2, o3⟩ := B.out I2 hf I hD hp r hz
    exact hRR D C s H acc B.le o1 B.ne o2 o3 hD fin
  · rintro t ⟨i, acc, items, k, more, σ3, H3, mid, I3, q3⟩
    exact walk_turn (Y := blk X scope N' C s₂ H₂ fp) (W := W) hc (fun _ _ z => z) B.place (hi2 C) (hs2 C) (hg2 C) (ht C) (he C) mid I3 q3
theorem pe_comp2 {wi : TI} (hc : X.calm = true) (S : CompSc X scope N' src) (hi : PI X tg iter wi) (hg : ∀ C s H fp, PG (blk X scope N' C s H fp) tg g1) (hi2 : ∀ C s H fp, PI (blk X scope N' C s H fp) t2 i2 wi2)
    (hg2 : ∀ C s H fp, PG (blk X scope N' C s H fp) t2 g2) (ht : ∀ C s H fp, PTs (blk X scope N' C s H fp) ifs tt) (he : ∀ C s H fp, PE (blk X scope N' C s H fp) elt te)
    (hs : ∀ x, foldedSetIterable iter X.env x = pure x := by intro _; rfl) (hs2 : ∀ C s H fp x, foldedSetIterable i2 (blk X scope N' C s H fp).env x = pure x := by intro _ _ _ _ _; rfl) : PE X (.ListComp elt [⟨tg, iter, [], 0⟩, ⟨t2, i2, ifs, 0⟩] scope pos) (tComp2 src wi g1 wi2 g2 tt te) := by
  intro pins s σ H Q I h
  rw [eval_ListComp]
  refine comp_free S hi hs I h fun s₂ H₂ it fp tn J I2 T st f ⟨W, w0, turn⟩ => ?_
  exact comp_block2 hc S I2 T st f (fun C => hg C s₂ H₂ fp) (fun C => hi2 C s₂ H₂ fp) (fun C => hs2 C s₂ H₂ fp) (fun C => hg2 C s₂ H₂ fp) (fun C => ht C s₂ H₂ fp) (fun C => he C s₂ H₂ fp) w0 turn fun D C s' H' acc a1 a2 a3 a4 a5 a6 fin => end_none I2 a1 a2 a3 a4 a5 (fin D a6)
theorem ps_comp2 {wi : TI} {i : Nat} {y : Str} {py spos : Pos} (hN : X.N.Nodup) (hiy : X.N[i]? = some y) (hy : X.env.scope.names.lookup y = some .local) (hsw : swapsWith (.ListComp elt [⟨tg, iter, [], 0⟩, ⟨t2, i2, ifs, 0⟩] scope pos) (some (.Name y py)) spos.line X.env = pure true)
    (hc : X.calm = true) (S : CompSc X scope N' src) (hi : PI X tg iter wi) (hg : ∀ C s H fp, PG (blk X scope N' C s H fp) tg g1) (hi2 : ∀ C s H fp, PI (blk X scope N' C s H fp) t2 i2 wi2)
    (hg2 : ∀ C s H fp, PG (blk X scope N' C s H fp) t2 g2) (ht : ∀ C s H fp, PTs (blk X scope N' C s H fp) ifs tt) (he : ∀ C s H fp, PE (blk X scope N' C s H fp) elt te)
    (hs : ∀ x, foldedSetIterable iter X.env x = pure x := by intro _; rfl) (hs2 : ∀ C s H fp x, foldedSetIterable i2 (blk X scope N' C s H fp).env x = pure x := by intro _ _ _ _ _; rfl) : PS X (.Assign [.Name y py] (.ListComp elt [⟨tg, iter, [], 0⟩, ⟨t2, i2, ifs, 0⟩] scope pos) spos) (tAsg (tComp2 src wi g1 wi2 g2 tt te) (gName i)) := by
  intro pins s σ H D I h
  refine used_name hsw (comp_free S hi hs I h fun s₂ H₂ it fp tn J I2 T st f ⟨W, w0, turn⟩ => ?_)
  exact comp_block2 hc S I2 T st f (fun C => hg C s₂ H₂ fp) (fun C => hi2 C s₂ H₂ fp) (fun C => hs2 C s₂ H₂ fp) (fun C => hg2 C s₂ H₂ fp) (fun C => ht C s₂ H₂ fp) (fun C => he C s₂ H₂ fp) w0 turn fun D C s' H' acc a1 a2 a3 a4 a5 a6 fin => end_name hN hiy hy I2 a1 a2 a3 a4 a5 (fin D a6)
end
end L2

namespace L2
open PySem PySem.Spec PyProof.Rows
open PySem.AutoSeq1 (wpAny_loadPart')
open PySem.MeetsSeq PySem.MeetsSeq2 PySem.MeetsSeq3
/-! ### list < list, of ints: told along what is left of both -/
/-- from a place on, a list has these ints -/
def From (items : Array Value) (i : Nat) (ns : List Int) : Prop := i ≤ items.size ∧ IntsAre (items.toList.drop i) ns
theorem From.end_ {items : Array Value} {i : Nat} (h : From items i []) : items.size = i ∧ items[i]? = none := by
  obtain ⟨h1, h2⟩ := h
  have e := h2.length
  rw [List.length_drop, Array.length_toList, List.length_nil] at e
  exact ⟨by omega, Array.getElem?_eq_none (by omega)⟩
theorem From.next {items : Array Value} {i : Nat} {a : Int} {ns : List Int} (h : From items i (a :: ns)) : i < items.size ∧ (∃ t, items[i]? = some (.int a t)) ∧ From items (i + 1) ns := by
  obtain ⟨h1, h2⟩ := h
  generalize e : items.toList.drop i = us at h2
  cases h2 with
  | cons _ t r =>
    have lt : i < items.toList.length := by
      have z := congrArg List.length e
      rw [List.length_drop, List.length_cons] at z
      omega
    rw [List.drop_eq_getElem_cons lt] at e
    injection e with e1 e2
    rw [Array.length_toList] at lt
    refine ⟨lt, ⟨t, ?_⟩, lt, e2 ▸ r⟩
    rw [Array.getElem?_eq_getElem lt, ← e1]
    rfl
/-- what is told of two lists that are there -/
abbrev LtSays (l b : Addr) (ol ob : Obj) (xs ys : List Int) : PySem.Spec := fun _ R s => s.heap.get? l = some ol ∧ s.heap.get? b = some ob ∧ R (.ok (.ret (.bool (HT.lexLt xs ys)))) s
abbrev ltAsk (l b : Addr) (i : Nat) : Args := ⟨[.ref l, .ref b, rawInt i, rawInt 0], []⟩
theorem lt_asked {l b : Addr} {ol ob : Obj} {xs ys : List Int} {i : Nat} {prog : Program} {w : World} {A : Around} {R : Result → Shared → Prop} {s : Shared} (m : Meets (Builtin.«list.__eq__.loop» (ltAsk l b i)) (LtSays l b ol ob xs ys)) (h : LtSays l b ol ob xs ys A R s) :
    (Code.builtin "list.__eq__.loop" (ltAsk l b i)).quiet = true ∧ codeAny (model prog w) A (.builtin "list.__eq__.loop" (ltAsk l b i)) R s := by
  refine ⟨plainId_quiet plain_eq_loop (ltAsk l b i), codeAny_builtin entry_eq_loop ?_⟩
  have u := A.under_plainId plain_eq_loop (ltAsk l b i)
  rw [u]
  exact m prog w A R s h
theorem lt_from (l b : Addr) (us vs : Array Value) (n k : Nat) (du dv : Option Addr) (su sv : Array (Option Value)) : ∀ (xs ys : List Int) (i : Nat), From us i xs → From vs i ys →
    Meets (Builtin.«list.__eq__.loop» (ltAsk l b i)) (LtSays l b { cls := .type "list", dict := du, data := .seq us n, slots := su } { cls := .type "list", dict := dv, data := .seq vs k, slots := sv } xs ys)
  | [], ys, i, f, g => by
    rintro prog w A R ⟨hp, ge, d, tk, os⟩ ⟨atL, atB, h⟩
    obtain ⟨z, no⟩ := f.end_
    have says : HT.lexLt [] ys = decide (us.size < vs.size) := by
      cases ys with
      | nil => exact (decide_eq_false (by rw [z, (g.end_).1]; exact Nat.lt_irrefl _)).symm
      | cons y r => exact (decide_eq_true (by rw [z]; exact (g.next).1)).symm
    rw [says] at h
    wp_walk using wpAny_loadPart' atL, wpAny_loadPart' atB
    rw [show ((i : Nat) : Int).toNat = i from rfl, no]
    cases vs[i]? <;> wp_walk using wpAny_loadPart' atL, wpAny_loadPart' atB <;> exact h
  | x :: xs, [], i, f, g => by
    rintro prog w A R ⟨hp, ge, d, tk, os⟩ ⟨atL, atB, h⟩
    obtain ⟨z, no⟩ := g.end_
    obtain ⟨lt, ⟨t, is⟩, _⟩ := f.next
    have says : HT.lexLt (x :: xs) [] = decide (us.size < vs.size) := (decide_eq_false (by omega)).symm
    rw [says] at h
    wp_walk using wpAny_loadPart' atL, wpAny_loadPart' atB
    rw [show ((i : Nat) : Int).toNat = i from rfl, no, is]
    wp_walk using wpAny_loadPart' atL, wpAny_loadPart' atB
    exact h
  | x :: xs, y :: ys, i, f, g => by
    have go := lt_from l b us vs n k du dv su sv xs ys (i + 1) (f.next).2.2 (g.next).2.2
    rintro prog w A R ⟨hp, ge, d, tk, os⟩ ⟨atL, atB, h⟩
    obtain ⟨_, ⟨t, isU⟩, _⟩ := f.next
    obtain ⟨_, ⟨t', isV⟩, _⟩ := g.next
    wp_walk using wpAny_loadPart' atL, wpAny_loadPart' atB
    rw [show ((i : Nat) : Int).toNat = i from rfl, isU, isV]
    obtain ⟨e, asked, iff⟩ := HT.eqAt_int A.in1 ⟨hp, ge, d, tk, os⟩ x t y t'
    refine wpAny_bind (asked prog w _ _ ?_)
    by_cases xy : x = y
    · rw [HT.lexLt_cons, if_pos xy] at h
      rw [iff.mpr xy]
      wp_walk
      exact lt_asked go ⟨atL, atB, h⟩
    · rw [HT.lexLt_cons, if_neg xy] at h
      have e0 : e = false := by cases e with | false => rfl | true => exact absurd (iff.mp rfl) xy
      subst e0
      have less := HT.rcLt_int A.in1 ⟨hp, ge, d, tk, os⟩ x t y t' prog w
      wp_walk using wpAny_loadPart' atL, wpAny_loadPart' atB
      rw [isU, isV]
      wp_walk using less
      exact h
theorem list_lt_ints (l b : Addr) (us vs : Array Value) (n k : Nat) (du dv : Option Addr) (su sv : Array (Option Value)) (xs ys : List Int) (hi : IntsAre us.toList xs) (hj : IntsAre vs.toList ys) :
    Meets (Builtin.«list.__lt__» ⟨[.ref l, .ref b], []⟩) (LtSays l b { cls := .type "list", dict := du, data := .seq us n, slots := su } { cls := .type "list", dict := dv, data := .seq vs k, slots := sv } xs ys) := by
  have go := lt_from l b us vs n k du dv su sv xs ys 0 ⟨Nat.zero_le _, hi⟩ ⟨Nat.zero_le _, hj⟩
  rintro prog w A R ⟨hp, ge, d, tk, os⟩ ⟨atL, atB, h⟩
  have kind := AutoSeq1.sub_list_list
  wp_walk using wpAny_loadPart' atL, wpAny_loadPart' atB
  exact lt_asked go ⟨atL, atB, h⟩
section
variable {prog : Program} {w : World} {A : Around} {E : Value → Shared → Prop} {s : Shared}
theorem lt_listInts {l b : Addr} {items items2 : Array Value} {ns ms : List Int} {Q : Value → Shared → Prop} (hl : s.heap.IsList l items) (hb : s.heap.IsList b items2) (hi : IntsAre items.toList ns) (hj : IntsAre items2.toList ms)
    (hu : A.units < cLine) (h : Q (.bool (HT.lexLt ns ms)) s) : wpAny (model prog w) A (compareOp .Lt (.ref l) (.ref b)) Q E s := by
  obtain ⟨⟨cls, dd, data, sl⟩, ho, hc, n, hd⟩ := id hl
  obtain ⟨⟨cls2, dd2, data2, sl2⟩, ho2, hc2, n2, hd2⟩ := id hb
  simp only at hc hd hc2 hd2
  subst hc hd hc2 hd2
  exact richCompare_meets_room (op := .Lt) ⟨_, ho, rfl⟩ ⟨_, ho2, rfl⟩ PySem.F.slot_list_lt PySem.F.entry_list_lt (PySem.F.args_list_lt_2 _ _) (list_lt_ints l b items items2 n n2 dd dd2 sl sl2 ns ms hi hj)
    ⟨ho, ho2, show Value.bool (HT.lexLt ns ms) ≠ Value.notImplemented ∧ Q (.bool (HT.lexLt ns ms)) s from ⟨(fun x => nomatch x), h⟩⟩ hu
end
section
variable {X : Cx}
def rLtL : R2 := fun x y H Q => ∃ a b ns ms, x = .ref a ∧ y = .ref b ∧ H a = some (.lst (ns.map V.int)) ∧ H b = some (.lst (ms.map V.int)) ∧ Q (.bl (HT.lexLt ns ms)) H
theorem op_ltL (hu : X.A.units < cLine) : OpR X (compareOp .Lt) rLtL := by
  intro pins s σ H x y v u Q I rx ry h
  obtain ⟨a, b, ns, ms, rfl, rfl, ha, hb, q⟩ := h
  cases rx
  cases ry
  obtain ⟨its, r1, p1, _⟩ := I.list (SqL.of ha)
  obtain ⟨its2, r2, p2, _⟩ := I.list (SqL.of hb)
  have i1 : IntsAre its.toArray.toList ns := intsAre_of r1
  have i2 : IntsAre its2.toArray.toList ms := intsAre_of r2
  exact lt_listInts p1.isList p2.isList i1 i2 hu ⟨.bl (HT.lexLt ns ms), H, I, rfl, q⟩
end
end L2

namespace L2
open PySem PySem.Spec PyProof.Rows
section
variable {X : Cx} {pos : Pos}
/-- a pair of local names -/
theorem pg_pair {i j : Nat} {x y : Str} {px py : Pos} {k : _} (hc : X.calm = true) (hN : X.N.Nodup) (hi : X.N[i]? = some x) (hj : X.N[j]? = some y) (hx : X.env.scope.names.lookup x = some .local) (hy : X.env.scope.names.lookup y = some .local) :
    PG X (.Tuple [.Name x px, .Name y py] k pos) (gTup X.K 2 (gCons (gName i) (gCons (gName j) gNil))) :=
  pg_tup hc (pgs_cons (pg_name hN hi (.inl hx) (.inr hx)) (pgs_cons (pg_name hN hj (.inl hy) (.inr hy)) pgs_nil))
end
section
variable {g g1 g2 : TG} {tb : TS} {D : Ends} {σ : St} {H : Hp} {tt : TT} {te : TE} {Q : VK} {K : PySem.W.Frag} {wi2 : TI} {acc : List V} {Fin : List V → St → Hp → Prop}
theorem compB_zip {a b : Addr} (xs ys : List V) (Pv : Nat → List V → St → Hp → Prop) (h0 : Pv 0 [] σ H) (hl : ∀ i acc σ H, i ≤ min xs.length ys.length → Pv i acc σ H → H a = some (.lst xs) ∧ H b = some (.lst ys))
    (hs : ∀ i x y T acc σ H, xs[i]? = some x → ys[i]? = some y → Pv i acc σ H → H T = none → CStep g tt te (.ref T) acc σ (upd H T (.tup [x, y])) (Pv (i + 1)))
    (hd : ∀ acc σ H, Pv (min xs.length ys.length) acc σ H → ∀ p, H p = none → Q (.ref p) (upd H p (.lst acc))) : CompB (Itz K a b) g tt te Q σ H := by
  refine compB_of (n := min xs.length ys.length) Pv h0 (fun i acc σ H hi p => ?_) fun acc σ H p => ?_
  · obtain ⟨e1, e2⟩ := hl i acc σ H (Nat.le_of_lt hi) p
    have l1 : i < xs.length := Nat.lt_of_lt_of_le hi (Nat.min_le_left _ _)
    have l2 : i < ys.length := Nat.lt_of_lt_of_le hi (Nat.min_le_right _ _)
    refine ⟨⟨xs, ys, xs[i], ys[i], SqL.of e1, SqL.of e2, by simp [l1], by simp [l2]⟩, fun z H' y => ?_⟩
    obtain ⟨T, x, y, rfl, hT, rfl, q⟩ := y
    obtain ⟨q1, q2⟩ := q xs ys (SqL.of e1) (SqL.of e2)
    exact hs i x y T acc σ H q1 q2 p hT
  · obtain ⟨e1, e2⟩ := hl _ acc σ H (Nat.le_refl _) p
    exact ⟨⟨xs, ys, SqL.of e1, SqL.of e2, by omega⟩, hd acc σ H p⟩
theorem inB_range {lo : Int} {n : Nat} (Pv : Nat → List V → St → Hp → Prop) (h0 : Pv 0 acc σ H) (hs : ∀ i acc σ H, i < n → Pv i acc σ H → CStep g tt te (.int (lo + i)) acc σ H (Pv (i + 1)))
    (hd : ∀ acc σ H, Pv n acc σ H → Fin acc σ H) : InB (Itr lo n) g tt te Fin acc σ H := by
  refine ⟨fun i m acc σ H => m = n - i ∧ i ≤ n ∧ Pv i acc σ H, ⟨n, by simp, Nat.zero_le _, h0⟩, ?_⟩
  rintro i m acc σ H ⟨rfl, hi, p⟩
  by_cases hlt : i < n
  · refine .inr ⟨hlt, fun x H' y => ?_⟩
    obtain ⟨rfl, rfl⟩ := y
    have e : ∀ acc σ H, (∃ m', m' < n - i ∧ m' = n - (i + 1) ∧ i + 1 ≤ n ∧ Pv (i + 1) acc σ H) = Pv (i + 1) acc σ H := fun acc σ H => propext ⟨fun ⟨_, _, _, _, q⟩ => q, fun q => ⟨n - (i + 1), by omega, rfl, hlt, q⟩⟩
    simp only [e]
    exact hs i acc σ _ hlt p
  · have e : i = n := by omega
    subst e
    exact .inl ⟨Nat.le_refl _, hd acc σ H p⟩
theorem compB2_list {a : Addr} (xs : List V) (Pv : Nat → List V → St → Hp → Prop) (h0 : Pv 0 [] σ H) (hl : ∀ i acc σ H, i ≤ xs.length → Pv i acc σ H → H a = some (.lst xs))
    (hs : ∀ i x acc σ H, xs[i]? = some x → Pv i acc σ H → g1 x σ H fun σ2 H2 => wi2 σ2 H2 fun J2 H3 => InB J2 g2 tt te (Pv (i + 1)) acc σ2 H3)
    (hd : ∀ acc σ H, Pv xs.length acc σ H → ∀ p, H p = none → Q (.ref p) (upd H p (.lst acc))) : CompB2 (Itl K a) g1 wi2 g2 tt te Q σ H := by
  refine ⟨fun i m acc σ H => m = xs.length - i ∧ i ≤ xs.length ∧ Pv i acc σ H, ⟨xs.length, by simp, Nat.zero_le _, h0⟩, ?_⟩
  rintro i m acc σ H ⟨rfl, hi, p⟩
  have el := SqL.of (K := K) (hl i acc σ H hi p)
  by_cases hlt : i < xs.length
  · refine .inr ⟨⟨xs, xs[i], el, by simp [hlt]⟩, fun x H' y => ?_⟩
    obtain ⟨rfl, y⟩ := y
    have e : (fun acc σ H => ∃ m', m' < xs.length - i ∧ m' = xs.length - (i + 1) ∧ i + 1 ≤ xs.length ∧ Pv (i + 1) acc σ H) = Pv (i + 1) := by
      funext acc σ H
      exact propext ⟨fun ⟨_, _, _, _, q⟩ => q, fun q => ⟨xs.length - (i + 1), by omega, rfl, hlt, q⟩⟩
    rw [e]
    exact hs i x acc σ _ (y xs el) p
  · have e : i = xs.length := by omega
    subst e
    exact .inl ⟨⟨xs, el, Nat.le_refl _⟩, hd acc σ H p⟩
theorem tComp2_eq {src : List (Option Nat)} {wi : TI} {σ : St} {H : Hp} {Q : VK} : tComp2 src wi g1 wi2 g2 tt te σ H Q = wi σ H fun J H1 => CompB2 J g1 wi2 g2 tt te Q (stC src σ) H1 := rfl
end
section
variable {X : Cx}
/-- <: numbers, texts, lists of numbers -/
theorem op_LtF (hu : X.A.units + 64 < cLine) : OpR X (compareOp .Lt) (fun x y H Q => (rI0 (fun i j => .bl (decide (i < j))) x y H Q ∨ (∃ i j, x = .str i ∧ y = .str j ∧ Q (.bl (decide (i.cps.toList < j.cps.toList))) H)) ∨ rLtL x y H Q) :=
  (op_lt.or op_lt_str).or (op_ltL (by omega))
end
end L2

namespace L2
open PySem PySem.Spec PyProof.Rows
/-! ### rewriting rows for readings -/
section
variable {H : Hp} {a p : Addr} {xs : List V} {Q : VK} {K : PySem.W.Frag}
theorem rIs_eq {x c : V} : rIs [x, c] H Q = ∃ b, isV H x c = some b ∧ Q (.bl b) H := propext ⟨fun ⟨x', c', b, e, h, q⟩ => by cases e; exact ⟨b, h, q⟩, fun ⟨b, h, q⟩ => ⟨x, c, b, rfl, h, q⟩⟩
theorem truV_bl {b k : Bool} : TruV K (.bl b) H k = (k = b) := rfl
theorem isV_ii {n : Int} : isV H (.int n) (.ty "int") = some true := rfl
theorem isV_ib {n : Int} : isV H (.int n) (.ty "bool") = some false := rfl
theorem isV_is {n : Int} : isV H (.int n) (.ty "str") = some false := rfl
theorem isV_il {n : Int} : isV H (.int n) (.ty "list") = some false := rfl
theorem isV_bb {n : Bool} : isV H (.bl n) (.ty "bool") = some true := rfl
theorem isV_ll (h : H a = some (.lst xs)) : isV H (.ref a) (.ty "list") = some true := by unfold isV tyN; simp only [h]; rfl
theorem isV_tl (h : H a = some (.tup xs)) : isV H (.ref a) (.ty "list") = some false := by unfold isV tyN; simp only [h]; rfl
theorem isV_l2 (h : H a = some (.lst xs)) (h2 : H p = some (.tup [.ty "list", .ty "tuple"])) : isV H (.ref a) (.ref p) = some true := by unfold isV tyN clsV; simp only [h, h2]; rfl
theorem isV_t2 (h : H a = some (.tup xs)) (h2 : H p = some (.tup [.ty "list", .ty "tuple"])) : isV H (.ref a) (.ref p) = some true := by unfold isV tyN clsV; simp only [h, h2]; rfl
theorem lenV_l (h : H a = some (.lst xs)) : lenV H (.ref a) = some xs.length := by unfold lenV; simp only [h]
theorem lenV_t (h : H a = some (.tup xs)) : lenV H (.ref a) = some xs.length := by unfold lenV; simp only [h]
theorem seqV_l (h : H a = some (.lst xs)) : seqV H (.ref a) = some xs := by unfold seqV; simp only [h]
theorem seqV_t (h : H a = some (.tup xs)) : seqV H (.ref a) = some xs := by unfold seqV; simp only [h]
theorem ixV_l {i : Int} (h : H a = some (.lst xs)) : ixV H (.ref a) (.int i) = atI xs i := by unfold ixV; simp only [h]
theorem ixV_t {i : Int} (h : H a = some (.tup xs)) : ixV H (.ref a) (.int i) = atI xs i := by unfold ixV; simp only [h]
theorem upd_at {b : Addr} {o : HO} (h : b ≠ a) : upd H a o b = H b := upd_ne h
end
section
/-- a walk over a list or a tuple that stays, as one rule -/
def SeqV (H : Hp) (a : Addr) (xs : List V) : Prop := H a = some (.lst xs) ∨ H a = some (.tup xs)
theorem SeqV.same {H H' : Hp} {a : Addr} {xs : List V} (h : SeqV H a xs) (s : Same H H') : SeqV H' a xs := h.elim (fun e => .inl (s _ _ e)) fun e => .inr (s _ _ e)
def iSeq (tl : TE) (K : PySem.W.Frag) : TI := iAny K tl
variable {g : TG} {tt : TT} {te : TE} {Q : VK} {K : PySem.W.Frag} {σ : St} {H : Hp}
def SqC (K : PySem.W.Frag) (a : Addr) (F : It → Prop) (H : Hp) : Prop := (∃ xs, H a = some (.lst xs)) ∧ F (Itl K a) ∨ (∃ xs, H a = some (.tup xs)) ∧ F (Itt K a)
theorem compB_seq {a : Addr} (xs : List V) (Pv : Nat → List V → St → Hp → Prop) (h0 : Pv 0 [] σ H) (hs0 : SeqV H a xs) (hl : ∀ i acc σ H', i ≤ xs.length → Pv i acc σ H' → Same H H')
    (hs : ∀ i x acc σ H, xs[i]? = some x → Pv i acc σ H → CStep g tt te x acc σ H (Pv (i + 1))) (hd : ∀ acc σ H, Pv xs.length acc σ H → ∀ p, H p = none → Q (.ref p) (upd H p (.lst acc))) :
    (∃ x, H a = some (.lst x)) ∧ CompB (Itl K a) g tt te Q σ H ∨ (∃ x, H a = some (.tup x)) ∧ CompB (Itt K a) g tt te Q σ H := by
  rcases hs0 with e | e
  · exact .inl ⟨⟨xs, e⟩, compB_list xs Pv h0 (fun i acc σ H' hi p => hl i acc σ H' hi p _ _ e) hs hd⟩
  · exact .inr ⟨⟨xs, e⟩, compB_tup xs Pv h0 (fun i acc σ H' hi p => hl i acc σ H' hi p _ _ e) hs hd⟩
variable {tb : TS} {D : Ends}
theorem forB_seq {a : Addr} (xs : List V) (Pv : Nat → St → Hp → Prop) (h0 : Pv 0 σ H) (hs0 : SeqV H a xs) (hl : ∀ i σ H', i ≤ xs.length → Pv i σ H' → Same H H')
    (hs : ∀ i x σ H, xs[i]? = some x → Pv i σ H → g x σ H fun σ2 H2 => tb { D with nx := Pv (i + 1), ct := Pv (i + 1), bk := D.nx } σ2 H2) (hd : ∀ σ H, Pv xs.length σ H → D.nx σ H) :
    (∃ x, H a = some (.lst x)) ∧ ForB (Itl K a) g tb D σ H ∨ (∃ x, H a = some (.tup x)) ∧ ForB (Itt K a) g tb D σ H := by
  rcases hs0 with e | e
  · exact .inl ⟨⟨xs, e⟩, forB_list xs Pv h0 (fun i σ H' hi p => hl i σ H' hi p _ _ e) hs hd⟩
  · exact .inr ⟨⟨xs, e⟩, forB_tup xs Pv h0 (fun i σ H' hi p => hl i σ H' hi p _ _ e) hs hd⟩
end
/-! ### the same rules, the text's fragment named from outside (a block's context is not to be seen in a reading) -/
section
variable {X : Cx} {pos : Pos} {tg : Expr}
theorem pg_pairK (K : PySem.W.Frag) (hK : X.K = K) {i j : Nat} {x y : Str} {px py : Pos} {k : _} (hc : X.calm = true) (hN : X.N.Nodup) (hi : X.N[i]? = some x) (hj : X.N[j]? = some y) (hx : X.env.scope.names.lookup x = some .local) (hy : X.env.scope.names.lookup y = some .local) :
    PG X (.Tuple [.Name x px, .Name y py] k pos) (gTup K 2 (gCons (gName i) (gCons (gName j) gNil))) := by subst hK; exact pg_pair hc hN hi hj hx hy
theorem pi_anyK (K : PySem.W.Frag) (hK : X.K = K) {l : Expr} {tl : TE} (hl : PE X l tl) : PI X tg l (iAny K tl) := by subst hK; exact pi_any hl
theorem pi_zipK (K : PySem.W.Frag) (hK : X.K = K) {elts : List Expr} {tk0 : _} {tpos : Pos} {a b : Expr} {ta : TA} {p pos : Pos} (hg : Gl X "zip") (hm : X.mg "zip" = none) (ha : PA X [a, b] ta) (hs : starEach [a, b] X.env = [(false, eval a X.env), (false, eval b X.env)] := by rfl) (hs2 : starEach [b] X.env = [(false, eval b X.env)] := by rfl) :
    PI X (.Tuple elts tk0 tpos) (.Call (.Name "zip" p) [a, b] [] pos) (iZip K ta) := by subst hK; exact pi_zip hg hm ha hs hs2
def tTruth (K : PySem.W.Frag) (ta : TE) : TT := fun σ H Q => ta σ H fun x H1 => ∃ k, TruV K x H1 k ∧ Q k H1
theorem pt_truthK (K : PySem.W.Frag) (hK : X.K = K) {a : Expr} {ta : TE} (ha : PE X a ta) (he : ∀ whole, isTrue a X.env whole = (do let v ← whole; standAt a.pos; holding [v] (truthy v))) : PT X a (tTruth K ta) := by subst hK; exact pt_truth ha he
end
/-! ### list or tuple alike -/
def ItOf (K : PySem.W.Frag) (a : Addr) (xs : List V) (J : It) (H : Hp) : Prop := (J = Itl K a ∧ H a = some (.lst xs)) ∨ (J = Itt K a ∧ H a = some (.tup xs))
def iSq (K : PySem.W.Frag) (tl : TE) : TI := fun σ H R => tl σ H fun x H1 => ∃ a xs, x = .ref a ∧ SeqV H1 a xs ∧ ∀ J, ItOf K a xs J H1 → R J H1
section
variable {X : Cx} {tg : Expr}
theorem pi_sqK (K : PySem.W.Frag) (hK : X.K = K) {l : Expr} {tl : TE} (hl : PE X l tl) : PI X tg l (iSq K tl) := by
  subst hK
  intro pins s σ H R I h
  refine thn (hl pins s σ H _ I h) fun v s1 ⟨x, H1, I1, r1, q1⟩ => ?_
  obtain ⟨a, xs, e, hs, q⟩ := q1
  subst e
  cases r1
  rcases hs with hq | hq
  · obtain ⟨its, rv, p, hz⟩ := I1.list (SqL.of hq)
    refine wpAny_pyIter_list p.isList ?_
    refine ⟨s1.heap.objs.size, [s1.heap.objs.size], _, _, H1, rfl, I1.kept (t' := s1.toks) fun b o e => Heap.get?_push_of_some _ e, turn_list a _, ⟨_, Heap.get?_push_size _ rfl, rfl, rfl⟩, fun b hb => ?_, q _ (.inl ⟨rfl, hq⟩)⟩
    have e : b = s1.heap.objs.size := by simpa using hb
    subst e
    exact I1.fpOk (Nat.le_refl _) (I1.hok.fresh (Nat.le_refl _))
  · obtain ⟨its, rv, p, hz⟩ := I1.tuple (SqT.of hq)
    refine wpAny_pyIter_tuple (show s1.heap.IsTuple a its.toArray from p) ?_
    refine ⟨s1.heap.objs.size, [s1.heap.objs.size], _, _, H1, rfl, I1.kept (t' := s1.toks) fun b o e => Heap.get?_push_of_some _ e, turn_tuple a _, ⟨_, Heap.get?_push_size _ rfl, rfl, rfl⟩, fun b hb => ?_, q _ (.inr ⟨rfl, hq⟩)⟩
    have e : b = s1.heap.objs.size := by simpa using hb
    subst e
    exact I1.fpOk (Nat.le_refl _) (I1.hok.fresh (Nat.le_refl _))
end
section
variable {g g1 g2 : TG} {tb : TS} {D : Ends} {σ : St} {H : Hp} {tt : TT} {te : TE} {Q : VK} {K : PySem.W.Frag} {wi2 : TI} {J : It} {a : Addr} {xs : List V}
theorem ItOf.seq (h : ItOf K a xs J H) : SeqV H a xs := h.elim (fun e => .inl e.2) fun e => .inr e.2
theorem forB_sq (hJ : ItOf K a xs J H) (Pv : Nat → St → Hp → Prop) (h0 : Pv 0 σ H) (hl : ∀ i σ H', i ≤ xs.length → Pv i σ H' → H' a = H a)
    (hs : ∀ i x σ H, xs[i]? = some x → Pv i σ H → g x σ H fun σ2 H2 => tb { D with nx := Pv (i + 1), ct := Pv (i + 1), bk := D.nx } σ2 H2) (hd : ∀ σ H, Pv xs.length σ H → D.nx σ H) : ForB J g tb D σ H := by
  rcases hJ with ⟨rfl, e⟩ | ⟨rfl, e⟩
  · exact forB_list xs Pv h0 (fun i σ H' hi p => (hl i σ H' hi p).trans e) hs hd
  · exact forB_tup xs Pv h0 (fun i σ H' hi p => (hl i σ H' hi p).trans e) hs hd
theorem compB_sq (hJ : ItOf K a xs J H) (Pv : Nat → List V → St → Hp → Prop) (h0 : Pv 0 [] σ H) (hl : ∀ i acc σ H', i ≤ xs.length → Pv i acc σ H' → H' a = H a)
    (hs : ∀ i x acc σ H, xs[i]? = some x → Pv i acc σ H → CStep g tt te x acc σ H (Pv (i + 1))) (hd : ∀ acc σ H, Pv xs.length acc σ H → ∀ p, H p = none → Q (.ref p) (upd H p (.lst acc))) : CompB J g tt te Q σ H := by
  rcases hJ with ⟨rfl, e⟩ | ⟨rfl, e⟩
  · exact compB_list xs Pv h0 (fun i acc σ H' hi p => (hl i acc σ H' hi p).trans e) hs hd
  · exact compB_tup xs Pv h0 (fun i acc σ H' hi p => (hl i acc σ H' hi p).trans e) hs hd
theorem compB2_tup {a : Addr} (xs : List V) (Pv : Nat → List V → St → Hp → Prop) (h0 : Pv 0 [] σ H) (hl : ∀ i acc σ H, i ≤ xs.length → Pv i acc σ H → H a = some (.tup xs))
    (hs : ∀ i x acc σ H, xs[i]? = some x → Pv i acc σ H → g1 x σ H fun σ2 H2 => wi2 σ2 H2 fun J2 H3 => InB J2 g2 tt te (Pv (i + 1)) acc σ2 H3)
    (hd : ∀ acc σ H, Pv xs.length acc σ H → ∀ p, H p = none → Q (.ref p) (upd H p (.lst acc))) : CompB2 (Itt K a) g1 wi2 g2 tt te Q σ H := by
  refine ⟨fun i m acc σ H => m = xs.length - i ∧ i ≤ xs.length ∧ Pv i acc σ H, ⟨xs.length, by simp, Nat.zero_le _, h0⟩, ?_⟩
  rintro i m acc σ H ⟨rfl, hi, p⟩
  have el := SqT.of (K := K) (hl i acc σ H hi p)
  by_cases hlt : i < xs.length
  · refine .inr ⟨⟨xs, xs[i], el, by simp [hlt]⟩, fun x H' y => ?_⟩
    obtain ⟨rfl, y⟩ := y
    have e : (fun acc σ H => ∃ m', m' < xs.length - i ∧ m' = xs.length - (i + 1) ∧ i + 1 ≤ xs.length ∧ Pv (i + 1) acc σ H) = Pv (i + 1) := by
      funext acc σ H
      exact propext ⟨fun ⟨_, _, _, _, q⟩ => q, fun q => ⟨xs.length - (i + 1), by omega, rfl, hlt, q⟩⟩
    rw [e]
    exact hs i x acc σ _ (y xs el) p
  · have e : i = xs.length := by omega
    subst e
    exact .inl ⟨⟨xs, el, Nat.le_refl _⟩, hd acc σ H p⟩
theorem compB2_sq (hJ : ItOf K a xs J H) (Pv : Nat → List V → St → Hp → Prop) (h0 : Pv 0 [] σ H) (hl : ∀ i acc σ H', i ≤ xs.length → Pv i acc σ H' → H' a = H a)
    (hs : ∀ i x acc σ H, xs[i]? = some x → Pv i acc σ H → g1 x σ H fun σ2 H2 => wi2 σ2 H2 fun J2 H3 => InB J2 g2 tt te (Pv (i + 1)) acc σ2 H3)
    (hd : ∀ acc σ H, Pv xs.length acc σ H → ∀ p, H p = none → Q (.ref p) (upd H p (.lst acc))) : CompB2 J g1 wi2 g2 tt te Q σ H := by
  rcases hJ with ⟨rfl, e⟩ | ⟨rfl, e⟩
  · exact compB2_list xs Pv h0 (fun i acc σ H' hi p => (hl i acc σ H' hi p).trans e) hs hd
  · exact compB2_tup xs Pv h0 (fun i acc σ H' hi p => (hl i acc σ H' hi p).trans e) hs hd
end
/-- a slice of a list or a tuple (not the whole of a tuple) -/
def rSlU : V → Option Int → Option Int → Hp → VK → Prop := fun x lo hi H Q => ∃ a xs, x = .ref a ∧ SeqV H a xs ∧ ((∃ ys, H a = some (.tup ys)) → ¬ (HT.sIx xs.length 0 lo = 0 ∧ HT.sIx xs.length xs.length hi = xs.length)) ∧
  ∀ p o, H p = none → (o = .lst (cutV xs lo hi) ∧ H a = some (.lst xs) ∨ o = .tup (cutV xs lo hi) ∧ H a = some (.tup xs)) → Q (.ref p) (upd H p o)
theorem sl_uni {X : Cx} : SlR X rSlU := by
  intro pins s σ H x v vl vu lo hi sl Q I rx hs pl pu h
  obtain ⟨a, xs, rfl, ha | ha, hw, q⟩ := h
  · exact sl_list pins s σ H _ v vl vu lo hi sl Q I rx hs pl pu ⟨a, xs, rfl, SqL.of ha, fun p hp => q p _ hp (.inl ⟨rfl, ha⟩)⟩
  · exact sl_tup pins s σ H _ v vl vu lo hi sl Q I rx hs pl pu ⟨a, xs, rfl, SqT.of ha, hw ⟨_, ha⟩, fun p hp => q p _ hp (.inr ⟨rfl, ha⟩)⟩
/-! ### == and != of plain values, as rewriting rows -/
section
variable {H : Hp} {Q : VK}
theorem rEqD_ii {i j : Int} : rEqD (.int i) (.int j) H Q = Q (.bl (decide (i = j))) H := by
  have e : eqD (.int i) (.int j) = decide (i = j) := by show (i == j) = _; rw [Bool.eq_iff_iff]; simp
  refine propext ⟨fun ⟨d, e', h1, h2, _, q⟩ => ?_, fun q => ⟨.int i, .int j, rfl, rfl, Nat.zero_le _, by rw [e]; exact q⟩⟩
  have d1 : d = .int i := Rep.inj h1 (show Rep H (.int i) (.int i) from rfl)
  have d2 : e' = .int j := Rep.inj h2 (show Rep H (.int j) (.int j) from rfl)
  rw [d1, d2, e] at q
  exact q
theorem rNeD_ii {i j : Int} : rNeD (.int i) (.int j) H Q = Q (.bl (!decide (i = j))) H := by
  have e : eqD (.int i) (.int j) = decide (i = j) := by show (i == j) = _; rw [Bool.eq_iff_iff]; simp
  refine propext ⟨fun ⟨d, e', h1, h2, _, q⟩ => ?_, fun q => ⟨.int i, .int j, rfl, rfl, Nat.zero_le _, by rw [e]; exact q⟩⟩
  have d1 : d = .int i := Rep.inj h1 (show Rep H (.int i) (.int i) from rfl)
  have d2 : e' = .int j := Rep.inj h2 (show Rep H (.int j) (.int j) from rfl)
  rw [d1, d2, e] at q
  exact q
theorem rEqD_ss {i j : Str} : rEqD (.str i) (.str j) H Q = Q (.bl (decide (i = j))) H := by
  have e : eqD (.str i) (.str j) = decide (i = j) := by show (i == j) = _; rw [Bool.eq_iff_iff]; simp
  refine propext ⟨fun ⟨d, e', h1, h2, _, q⟩ => ?_, fun q => ⟨.str i, .str j, rfl, rfl, Nat.zero_le _, by rw [e]; exact q⟩⟩
  have d1 : d = .str i := Rep.inj h1 (show Rep H (.str i) (.str i) from rfl)
  have d2 : e' = .str j := Rep.inj h2 (show Rep H (.str j) (.str j) from rfl)
  rw [d1, d2, e] at q
  exact q
theorem rNeD_ss {i j : Str} : rNeD (.str i) (.str j) H Q = Q (.bl (!decide (i = j))) H := by
  have e : eqD (.str i) (.str j) = decide (i = j) := by show (i == j) = _; rw [Bool.eq_iff_iff]; simp
  refine propext ⟨fun ⟨d, e', h1, h2, _, q⟩ => ?_, fun q => ⟨.str i, .str j, rfl, rfl, Nat.zero_le _, by rw [e]; exact q⟩⟩
  have d1 : d = .str i := Rep.inj h1 (show Rep H (.str i) (.str i) from rfl)
  have d2 : e' = .str j := Rep.inj h2 (show Rep H (.str j) (.str j) from rfl)
  rw [d1, d2, e] at q
  exact q
theorem catO_ll {a b : Addr} {xs ys : List V} (ha : H a = some (.lst xs)) (hb : H b = some (.lst ys)) (hz : xs.length + ys.length ≤ sizeLine) : catO H (.ref a) (.ref b) = some (.lst (xs ++ ys)) := by
  unfold catO
  simp only [ha, hb]
  rw [if_pos hz]
theorem catO_i {i : Int} {y : V} : catO H (.int i) y = none := by cases y <;> rfl
theorem catO_s {i : Str} {y : V} : catO H (.str i) y = none := by cases y <;> rfl
theorem addV_rr {a b : Addr} : addV (.ref a) (.ref b) = none := rfl
end
theorem sIx_last (n d : Nat) : HT.sIx (n + 1) d (some (-1)) = n := by
  show (if (-1 : Int) < 0 then ((-1 : Int) + ((n + 1 : Nat) : Int)).toNat else min (-1 : Int).toNat (n + 1)) = n
  rw [if_pos (by decide)]
  omega
theorem cut_last (xs : List V) (x : V) : cutV (xs ++ [x]) none (some (-1)) = xs := by
  have e1 : (xs ++ [x]).length = xs.length + 1 := by simp
  unfold cutV
  rw [e1, sIx_last, HT.sIx_none, List.drop_zero, Nat.sub_zero, List.take_left' rfl]
/-- tuple(..) of a list or a tuple, one way on -/
def rTupU : List V → Hp → VK → Prop := fun xs H Q => ∃ p ys, xs = [.ref p] ∧ SeqV H p ys ∧ ∀ l H', (H p = some (.tup ys) ∧ l = p ∧ H' = H ∨ H p = some (.lst ys) ∧ H l = none ∧ H' = upd H l (.tup ys)) → Q (.ref l) H'
theorem call_tupleU {X : Cx} : CallR X (.type "tuple") rTupU := by
  refine call_tuple_of.imp fun xs H Q h => ?_
  obtain ⟨p, ys, rfl, hp | hp, q⟩ := h
  · exact ⟨p, ys, rfl, .inl ⟨SqL.of hp, fun l hl => q l _ (.inr ⟨hp, hl, rfl⟩)⟩⟩
  · exact ⟨p, ys, rfl, .inr ⟨SqT.of hp, q p _ (.inl ⟨hp, rfl, rfl⟩)⟩⟩
end L2

namespace L2
open PySem PySem.Spec PyProof.Rows
/-! ### an exception in flight: what is kept -/
section
variable {P : Program} {w : World} {fs : List Addr} {H H' : Hp} {h h1 h2 B : Heap}
theorem Un.fly (u : Un fs [] H H' h h1) (kB : ∀ b o, B.get? b = some o → h1.get? b = some o ∧ h2.get? b = some o) (cov : ∀ b o, h.get? b = some o → b ∉ fs → ∃ o', B.get? b = some o')
    (sl : ∀ b ∈ fs, ∀ o, h1.get? b = some o → ∃ s2, h2.get? b = some { o with slots := s2 }) : Un fs [] H H' h h2 where
  keep := fun b o e n hb hx => by
    have q := u.keep b o e n hb hx
    obtain ⟨o', e'⟩ := cov b o e hb
    obtain ⟨k1, k2⟩ := kB b o' e'
    rw [q] at k1; cases k1
    exact k2
  slot := fun b o e n hb hx => by
    obtain ⟨s1, q⟩ := u.slot b o e n hb hx
    obtain ⟨s2, q2⟩ := sl b hb _ q
    exact ⟨s2, q2⟩
  free := u.free
  there := fun b o e hx => by
    obtain ⟨o1, q⟩ := u.there b o e hx
    by_cases hb : b ∈ fs
    · obtain ⟨s2, q2⟩ := sl b hb _ q
      exact ⟨_, q2⟩
    · obtain ⟨o', e'⟩ := cov b o e hb
      exact ⟨o', (kB b o' e').2⟩
  tups := u.tups
  frzs := u.frzs
  tbls := u.tbls
theorem HOk.fly (hok : HOk P w H' h1) (kB : ∀ b o, B.get? b = some o → h1.get? b = some o ∧ h2.get? b = some o) (covH : ∀ b u, H' b = some u → ∃ o', B.get? b = some o') : HOk P w H' h2 := fun a o e =>
  (hok a o e).stay (fun b u hb q => by
    obtain ⟨o', e'⟩ : ∃ o', B.get? b = some o' := by
      rcases hb with z | z
      · rw [z]; exact covH a o e
      · exact covH b _ z
    obtain ⟨k1, k2⟩ := kB b o' e'
    rw [q] at k1; cases k1
    exact k2) (fun _ q => q) fun _ _ q => q
theorem ObjOk.there {a : Addr} {o : HO} (x : ObjOk P w H h a o) : ∃ ob, h.get? a = some ob := by
  cases o with
  | lst xs => obtain ⟨_, _, _, _, e⟩ := x; exact ⟨_, e⟩
  | tup xs => obtain ⟨_, _, _, ob, e, _⟩ := x; exact ⟨_, e⟩
  | dK kvs => obtain ⟨_, _, _, _, o, _, _, e, _⟩ := x; exact ⟨_, e⟩
  | dT kvs => obtain ⟨_, _, _, _, o, _, _, e, _⟩ := x; exact ⟨_, e⟩
  | set S n => obtain ⟨o, _, _, _, e, _⟩ := x; exact ⟨_, e⟩
  | ins C dx fs => obtain ⟨_, _, _, e, _⟩ := x; exact ⟨_, e⟩
  | own y => exact x
  | xd fs => obtain ⟨_, ⟨_, _, _, e, _⟩, _⟩ := x; exact ⟨_, e⟩
  | rng lo hi => obtain ⟨_, _, _, e⟩ := x; exact ⟨_, e⟩
  | frz ob u => obtain ⟨e, _⟩ := x; exact ⟨_, e⟩
  | tbl ps => exact ⟨_, (show h.get? a = some _ from x)⟩
  | met f y => exact ⟨_, (show h.get? a = some _ from x)⟩
  | ext φ => obtain ⟨_, e, _⟩ := x; exact e
theorem slots_of {l : List Env} (F : h1.FunFrames B l) (u : h1.UpToSlots h2) : ∀ b ∈ frs l, ∀ o, h1.get? b = some o → ∃ s2, h2.get? b = some { o with slots := s2 } := fun b hb o e => by
  obtain ⟨_, o', e', d⟩ := F.mem hb
  rw [e] at e'; cases e'
  exact u b o e d
end
/-- how an own exception lies behind a call -/
def CX1 (P : Program) (w : World) : CXT := fun outer H s E e s' => ∃ (ea C : Addr) (a0 : Value) (B : Heap) (H' : Hp), e = .ref ea ∧ Heap.FlyingW B outer ea (.ref C) a0 s'.heap ∧ Un (frs outer) [] H H' s.heap s'.heap ∧ HOk P w H' s'.heap ∧ s'.os = s.os ∧ AllBare s'.gens ∧
  (∀ b o, s.heap.get? b = some o → b ∉ frs outer → ∃ o', B.get? b = some o') ∧ (∀ b u, H' b = some u → ∃ o', B.get? b = some o') ∧ E (.ref C) none H'
def Throws (X : Cx) (E : XK) : Prop := ∀ (pins : List (Addr × Obj)) (σ : St) (H : Hp) (s : Shared) (h' : Heap) (e C : Addr) (us : List Value), Inv X pins σ H s → Heap.MadeExcOf s.heap h' e (.ref C) us → E (.ref C) none H → X.xe (.ref e) { s with heap := h' }
section
variable {P : Program} {w : World} {K : PySem.W.Frag} {mg : Str → Option Value} {base : Heap} {N : List Str} {qual : Str} {scope : Scope} {f : Addr} {cd : Value} {A : Around} {outer : List Env} {s0 : Shared} {H0 : Hp} {E : XK}
theorem frs_cons {env : Env} {l : List Env} {L : Addr} (h : env.frame = some L) : frs (env :: l) = L :: frs l := by unfold frs; rw [List.filterMap_cons, h]
theorem throws_cx : Throws (cxOf (CX1 P w) P w K mg base N qual scope f cd A outer s0 H0 E) E := by
  intro pins σ H s h' e C us I hx hE
  have hin : ∀ env ∈ (envOfC qual scope s0.heap.objs.size f cd :: outer), ∀ b, env.frame = some b → b ∈ frs (envOfC qual scope s0.heap.objs.size f cd :: outer) := fun env he b hb => List.mem_filterMap.mpr ⟨env, he, hb⟩
  have ff := PySem.W.funFrames_hide I.stack hin
  have hfr : frs (envOfC qual scope s0.heap.objs.size f cd :: outer) = s0.heap.objs.size :: frs outer := frs_cons rfl
  refine wpAny_leaves_madeW (base := PySem.W.hideAll s.heap (frs (envOfC qual scope s0.heap.objs.size f cd :: outer))) (h := s.heap) I.ok.frames rfl (fun b o q => PySem.W.of_hideAll _ q) ff hx fun h2 t hfl _ _ sm => ?_
  have kB : ∀ b o, (PySem.W.hideAll s.heap (frs (envOfC qual scope s0.heap.objs.size f cd :: outer))).get? b = some o → s.heap.get? b = some o ∧ h2.get? b = some o := fun b o q => ⟨PySem.W.of_hideAll _ q, hfl.1 b o q⟩
  have cov : ∀ b o, s.heap.get? b = some o → b ∉ frs (envOfC qual scope s0.heap.objs.size f cd :: outer) → (PySem.W.hideAll s.heap (frs (envOfC qual scope s0.heap.objs.size f cd :: outer))).get? b = some o := fun b o q n => PySem.W.hideAll_get _ q n
  have sl : s.heap.UpToSlots h2 := (Heap.UpToSlots.of_keeps hx.keeps).trans sm
  have covH : ∀ b u, H b = some u → ∃ o', (PySem.W.hideAll s.heap (frs (envOfC qual scope s0.heap.objs.size f cd :: outer))).get? b = some o' := fun b u q => by
    have nf : b ∉ frs (envOfC qual scope s0.heap.objs.size f cd :: outer) := fun z => by have := I.stkFree b z; rw [q] at this; cases this
    obtain ⟨o, ho⟩ := ObjOk.there (I.hok b u q)
    exact ⟨o, cov b o ho nf⟩
  refine ⟨e, C, .ref t, _, H, rfl, hfl, ?_, I.hok.fly kB covH, I.os, I.bare, ?_, covH, hE⟩
  · refine I.base.fly kB (fun b o q n => ?_) (fun b hb o q => slots_of ff sl b (by show b ∈ frs (envOfC qual scope s0.heap.objs.size f cd :: outer); rw [hfr]; exact List.mem_cons_of_mem _ hb) o q)
    obtain ⟨o1, q1⟩ := I.base.there b o q (by simp [cxOf])
    refine ⟨o1, cov b o1 q1 ?_⟩
    rw [hfr]
    intro z
    rcases List.mem_cons.mp z with z | z
    · exact absurd (Heap.lt_size q) (by rw [z]; exact Nat.lt_irrefl _)
    · exact n z
  · intro b o q n
    obtain ⟨o1, q1⟩ := I.base.there b o q (by simp [cxOf])
    refine ⟨o1, cov b o1 q1 ?_⟩
    rw [hfr]
    intro z
    rcases List.mem_cons.mp z with z | z
    · exact absurd (Heap.lt_size q) (by rw [z]; exact Nat.lt_irrefl _)
    · exact n z
theorem passes_cx : Passes (CX1 P w) (cxOf (CX1 P w) P w K mg base N qual scope f cd A outer s0 H0 E) E := by
  intro pins σ H s e s' I cx
  obtain ⟨ea, C, a0, B, H', rfl, hfl, un, hok, os, bare, cov, covH, hE⟩ := cx
  have hfr : frs (envOfC qual scope s0.heap.objs.size f cd :: outer) = s0.heap.objs.size :: frs outer := frs_cons rfl
  have I' := I.call' (ch := []) os un hok bare fun b z => absurd z (by simp)
  refine wpAny_leaves_onW I.ok.frames rfl hfl fun h2 hfl2 sm => ?_
  have kB : ∀ b o, B.get? b = some o → s'.heap.get? b = some o ∧ h2.get? b = some o := fun b o q => ⟨hfl.1 b o q, hfl2.1 b o q⟩
  have cov2 : ∀ b o, s0.heap.get? b = some o → b ∉ frs outer → ∃ o', B.get? b = some o' := fun b o q n => by
    obtain ⟨o1, q1⟩ := I.base.there b o q (by simp [cxOf])
    refine cov b o1 q1 ?_
    show b ∉ frs (envOfC qual scope s0.heap.objs.size f cd :: outer)
    rw [hfr]
    intro z
    rcases List.mem_cons.mp z with z | z
    · exact absurd (Heap.lt_size q) (by rw [z]; exact Nat.lt_irrefl _)
    · exact n z
  refine ⟨ea, C, a0, B, H', rfl, hfl2, ?_, hok.fly kB covH, I'.os, bare, cov2, covH, hE⟩
  exact I'.base.fly kB cov2 fun b hb o q => slots_of hfl.2.2.1 sm b (by show b ∈ frs (envOfC qual scope s0.heap.objs.size f cd :: outer); rw [hfr]; exact List.mem_cons_of_mem _ hb) o q
end
/-! ### raise, of an own class under ValueError -/
def veTail : List Value := [.type "ValueError", .type "Exception", .type "BaseException", .type "object"]
def ExcIn (K : PySem.W.Frag) (C : Addr) : Prop := PySem.W.excIn K C veTail "ValueError.__new__" = true
theorem exc_obj {K : PySem.W.Frag} {h : Heap} {C : Addr} {bmB : List Value} {newId : String} (X : K.In h) (q : PySem.W.excIn K C bmB newId = true) :
    ∃ (bm : List Value) (N : Addr) (nm qn : Str) (bs : List Value) (hd : Bool) (sn : List Str) (sub : List Value) (ab : Bool) (col : Option Bool) (dd : Option Addr) (k0 k1 k2 k3 k5 : Option Value) (mN : Str → Option Value),
      h.get? C = some (excClassObj nm qn C N bs bm hd sn sub ab col dd k0 k1 k2 k3 k5 newId) ∧ h.Ns N mN ∧ mN "__init__" = none ∧ OwnTail h bmB bm := by
  -- the class is looked up once; what else it might be is ruled out by q
  cases found : K.lookup C with
  | none => simp [PySem.W.excIn, found] at q
  | some o =>
    have here := X _ _ found
    unfold PySem.W.excIn at q
    rw [found] at q
    revert q
    split
    next dict cd slots same =>
      cases same
      cases cd with
      | mk nm bases mro ns qn hasDict slotNames subs abs coll del =>
        split
        next C2 rest a b c d new f isMro isSlots =>
          intro q
          repeat rw [Bool.and_eq_true] at q
          obtain ⟨⟨⟨⟨⟨q1, q2⟩, q3⟩, q4⟩, q5⟩, q6⟩ := q
          have e1 := eq_of_beq q1
          have e2 := eq_of_beq q2
          have e3 : del = false := by cases del with | false => rfl | true => cases q3
          have e4 : slots = [a, b, c, d, some (.builtin new), f].toArray := by rw [← isSlots]
          have e5 : mro = .ref C2 :: rest := isMro
          rw [e1] at e5
          rw [e2] at e4
          subst e3 e4 e5
          exact ⟨rest, ns, nm, qn, bases, hasDict, slotNames, subs, abs, coll, dict, a, b, c, d, f, _, here, .of_isNs (PySem.W.isNs_of_in X q5), PySem.W.nsMap_none_of_in X q5 (eq_of_beq q6), PySem.W.tail_of_in X q4⟩
        next => exact fun z => nomatch z
    next => exact fun z => nomatch z
section
variable {X : Cx} {x : Str} {C : Addr} {np cpos pos : Pos} {e : Expr} {ta : TA} {E : XK}
def tRaise (C : Addr) (E : XK) (ta : TA) : TS := fun _ σ H => ta σ H fun vs H1 => vs.length ≤ 1000 ∧ E (.ref C) none H1
theorem ps_raise (hc : X.calm = true) (hT : Throws X E) (hg : Gl X x) (hm : X.mg x = some (.ref C)) (q : ExcIn X.K C) (ha : PA X [e] ta) (hdb : (x == ("__debug__" : Str)) = false := by decide)
    (he : starEach [e] X.env = (false, eval e X.env) :: starEach [] X.env := by rfl) (hpl : (backTo cpos (starEach [] X.env)).any (·.1) = false := by rfl) : PS X (.Raise (some (.Call (.Name x np) [e] [] cpos)) none pos) (tRaise C E ta) := by
  intro pins s σ H D I h
  obtain ⟨bm, N, nm, qn, bs, hdct, sn, sub, ab, col, dd, k0, k1, k2, k3, k5, mN, hC, hN, hni, TL⟩ := exc_obj I.ok.mod.kin q
  refine wpAny_Raise_call_subU (C := C) (nm := nm) (q := qn) (N := N) (bs := bs) (bm := bm) (hdct := hdct) (sn := sn) (sub := sub) (ab := ab) (col := col) (dd := dd) (k0 := k0) (k1 := k1) (k2 := k2) (k3 := k3) (k5 := k5)
    PySem.F.excBase_ValueError (by decide +kernel) PySem.F.excBase_ValueError (mN := mN) (TL.hasType (by decide +kernel)) (I.ok.hd hc) (by rw [he]; show (false || (backTo cpos (starEach [] X.env)).any (·.1)) = false; rw [hpl]; rfl) hni (ld_glob I hg hm ⟨rfl, ?_⟩ hdb)
  have hp := ha cpos pins s σ H _ I h
  rw [he] at hp ⊢
  refine Calls.evalArgs_plain (wpAny_mono hp (fun vs s₂ h₂ => ?_) fun _ _ y => y)
  obtain ⟨vv, H1, I1, rv, hl, hE⟩ := h₂
  refine ⟨rfl, ?_, I1.bk _ _ hC, hN.keeps I1.bk, TL.keeps I1.bk, fun h' e' hm' => hT pins σ H1 s₂ h' e' C vs I1 hm' hE⟩
  have z : vs.length ≤ 1000 := by rw [← rv.length]; exact hl
  exact Nat.le_trans z (by decide)
end
/-- a def that may raise -/
theorem Fun.okE {P : Program} {w : World} {K : PySem.W.Frag} {mg : Str → Option Value} {base : Heap} {x qual : Str} {st : Stmt} {f : Addr} {fd : FuncData} {N ps : List Str} {k : Nat} {sp : Sp} (F : Fun K x qual st f fd) (S : FnScope N ps (defScope st)) (len : ∀ vs H Q E, sp vs H Q E → vs.length = ps.length)
    (hbody : ∀ (cdv : Value) (A : Around) (outer : List Env) (s : Shared) (H : Hp) (vs : List V) (Q : VK) (E : XK), Room k (A.deeper (envOfC qual (defScope st) s.heap.objs.size f cdv)) → sp vs H Q E →
      ∃ t, PSs (cxOf (CX1 P w) P w K mg base N qual (defScope st) f cdv A outer s H E) (defBody st) t ∧ t { nx := fun _ H' => Q .non H', rt := Q } (start N vs) H) : FnOk P w K mg base (CX1 P w) (k + 1) f fd ps sp := by
  obtain ⟨oc, od, kV, doc, pm, an, cdv, ct, osl, rfl, lk, hcd⟩ := F.ex
  exact fn_of lk hcd S len fun A outer s H vs Q E hr hsp => hbody cdv A outer s H vs Q E hr hsp
/-! ### try .. except, one own class, no name -/
abbrev Cx.mk1 (X : Cx) (e : Value) : Cx := { X with A := X.A.mark (some e), calm := false, xe := fun _ _ => False }
abbrev Cx.tr (X : Cx) (pn : List (Addr × Obj)) (E : Value → Shared → Prop) : Cx := { X with pn := pn, xe := E }
section
variable {X : Cx} {pins : List (Addr × Obj)} {σ : St} {H : Hp} {s : Shared} {e : Value}
theorem Cx.Ok.mk1 (ok : X.Ok) (e : Value) : (X.mk1 e).Ok :=
  ⟨ok.mod, ok.kind, ok.glob, ok.blt, ok.above, ok.inj, ok.has, ok.cab, fun h => Bool.noConfusion h, ok.frames, ok.stk, ok.exf, ok.bs, ok.bsz, ok.noex, ok.exfs, ok.funs, ok.frf⟩
theorem Cx.Ok.tr (ok : X.Ok) (pn : List (Addr × Obj)) (E : Value → Shared → Prop) : (X.tr pn E).Ok :=
  ⟨ok.mod, ok.kind, ok.glob, ok.blt, ok.above, ok.inj, ok.has, ok.cab, ok.hd, ok.frames, ok.stk, ok.exf, ok.bs, ok.bsz, ok.noex, ok.exfs, ok.funs, ok.frf⟩
theorem Inv.mk1 (I : Inv X pins σ H s) (e : Value) : Inv (X.mk1 e) pins σ H s := ⟨I.ok.mk1 e, I.os, I.bare, I.base, I.loc, I.cell, I.free, I.freeC, I.pin, I.hok, I.len⟩
theorem Inv.unmk1 (ok : X.Ok) (I : Inv (X.mk1 e) pins σ H s) : Inv X pins σ H s := ⟨ok, I.os, I.bare, I.base, I.loc, I.cell, I.free, I.freeC, I.pin, I.hok, I.len⟩
theorem Inv.tr (I : Inv X pins σ H s) (E : Value → Shared → Prop) : Inv (X.tr (X.pn ++ pins) E) [] σ H s := ⟨I.ok.tr _ E, I.os, I.bare, I.base, I.loc, I.cell, I.free, I.freeC, fun p hp => I.pin p (by simpa using hp), I.hok, I.len⟩
theorem Inv.untr {E : Value → Shared → Prop} {pl : List (Addr × Obj)} (ok : X.Ok) (I : Inv (X.tr (X.pn ++ pins) E) pl σ H s) : Inv X pins σ H s := ⟨ok, I.os, I.bare, I.base, I.loc, I.cell, I.free, I.freeC, fun p hp => I.pin p (List.mem_append_left _ hp), I.hok, I.len⟩
theorem SP.unmk1 {D : Ends} {f : Flow} {s' : Shared} (ok : X.Ok) (h : SP (X.mk1 e) pins D f s') : SP X pins D f s' := by
  cases f with
  | next => obtain ⟨σ, H, I, q⟩ := h; exact ⟨σ, H, I.unmk1 ok, q⟩
  | brk => obtain ⟨σ, H, I, q⟩ := h; exact ⟨σ, H, I.unmk1 ok, q⟩
  | cont => obtain ⟨σ, H, I, q⟩ := h; exact ⟨σ, H, I.unmk1 ok, q⟩
  | ret v => obtain ⟨x, σ, H, I, r, q⟩ := h; exact ⟨x, σ, H, I.unmk1 ok, r, q⟩
theorem SP.untr {D : Ends} {f : Flow} {s' : Shared} {E : Value → Shared → Prop} {pl : List (Addr × Obj)} (ok : X.Ok) (h : SP (X.tr (X.pn ++ pins) E) pl D f s') : SP X pins D f s' := by
  cases f with
  | next => obtain ⟨σ, H, I, q⟩ := h; exact ⟨σ, H, I.untr ok, q⟩
  | brk => obtain ⟨σ, H, I, q⟩ := h; exact ⟨σ, H, I.untr ok, q⟩
  | cont => obtain ⟨σ, H, I, q⟩ := h; exact ⟨σ, H, I.untr ok, q⟩
  | ret v => obtain ⟨x, σ, H, I, r, q⟩ := h; exact ⟨x, σ, H, I.untr ok, r, q⟩
end
section
variable {X : Cx} {x : Str} {C : Addr} {np hp pos : Pos} {EX : XK} {b0 : Stmt} {suite body : List Stmt} {tb th : TS}
theorem catch_own {pins : List (Addr × Obj)} {σ : St} {H : Hp} {s s1 : Shared} {e : Value} {D : Ends} (hst : X.stack = X.env :: X.outer ∧ X.env.frame = some X.env.locals) (hg : Gl X x) (hm : X.mg x = some (.ref C)) (q : ExcIn X.K C)
    (hh : ∀ e, PSs (X.mk1 e) (b0 :: suite) th) (hEX : ∀ cls d H', EX cls d H' → cls = .ref C) (I : Inv X pins σ H s) (cx : CX1 X.prog X.w X.stack H s EX e s1) (hx : ∀ cls d H', EX cls d H' → th D σ H') (hdb : (x == ("__debug__" : Str)) = false) :
    wpAny (model X.prog X.w) X.A (noteFrame e X.env) (fun _ s₂ => wpAny (model X.prog X.w) X.A (setFlight e none) (fun _ s₃ => wpAny (model X.prog X.w) X.A (handleBy e X.env [.ExceptHandler (some (.Name x np)) none (b0 :: suite) hp]) (SP X pins D) X.xe s₃) X.xe s₂) X.xe s1 := by
  obtain ⟨ea, C', a0, B, H', rfl, hfl, un, hok, os, bare, cov, covH, hE⟩ := cx
  have eC := hEX _ _ _ hE
  cases eC
  have hfr : X.A.frames = some (X.env :: X.outer) := by rw [← hst.1]; exact I.ok.frames
  rw [hst.1] at hfl
  have I6 : ∀ h6, Heap.FlyingW B (X.env :: X.outer) ea (.ref C) a0 h6 → s1.heap.UpToSlots h6 → Inv X pins σ H' { s1 with heap := h6 } := fun h6 fl sm => by
    have kB : ∀ b o, B.get? b = some o → s1.heap.get? b = some o ∧ h6.get? b = some o := fun b o z => ⟨hfl.1 b o z, fl.1 b o z⟩
    refine I.call' (s' := { s1 with heap := h6 }) (ch := []) os (un.fly kB cov fun b hb o z => slots_of hfl.2.2.1 sm b (by rw [← hst.1]; exact hb) o z) (hok.fly kB covH) bare fun b z => absurd z (by simp)
  refine wpAny_looks_onW hfr hst.2 hfl fun h4 held4 sm4 => ?_
  refine wpAny_landsW held4 fun h5 fl5 sm5 => ?_
  have J5 := (I6 h5 fl5 (sm4.trans sm5)).mk1 (.ref ea)
  obtain ⟨ob, hob, hobc⟩ := fl5.there
  refine wpAny_handleBy_cons (codeAny_handlers_test (ld_glob J5 hg hm ?_ hdb)) (by intro z; cases z)
  obtain ⟨bm, N, nm, qn, bs, hdct, sn, sub, ab, col, dd, k0, k1, k2, k3, k5, mN, hC, hN, hni, TL⟩ := exc_obj J5.kIn q
  refine wpAny_excMatches_sub_self hC hob hobc (TL.hasType (by decide +kernel)) (codeAny_handlers_suite ?_)
  refine lands_againW fl5 fun h6 fl6 sm6 => ?_
  have I6' := I6 h6 fl6 ((sm4.trans sm5).trans sm6)
  refine wpAny_mono (hh (.ref ea) pins _ σ H' D (I6'.mk1 (.ref ea)) (hx _ _ _ hE)) (fun f s2 h2 => ?_) fun _ _ z => False.elim z
  exact SP.unmk1 I.ok h2
def tTry (tb : TS) (EX : XK) (th : TS) : TS := fun D σ H => tb D σ H ∧ ∀ cls d σ' H', EX cls d H' → th D σ' H'
theorem ps_try (EX : XK) (hst : X.stack = X.env :: X.outer ∧ X.env.frame = some X.env.locals) (hg : Gl X x) (hm : X.mg x = some (.ref C)) (q : ExcIn X.K C) (hEX : ∀ cls d H', EX cls d H' → cls = .ref C)
    (hb : ∀ pn Ew, Passes (CX1 X.prog X.w) (X.tr pn Ew) EX → PSs (X.tr pn Ew) body tb) (hh : ∀ e, PSs (X.mk1 e) (b0 :: suite) th) (hdb : (x == ("__debug__" : Str)) = false := by decide) :
    PS X (.Try body [.ExceptHandler (some (.Name x np)) none (b0 :: suite) hp] [] [] pos) (tTry tb EX th) := by
  intro pins s σ H D I h
  obtain ⟨hbd, hx⟩ := h
  refine wpAny_Try_except ?_
  have hP : Passes (CX1 X.prog X.w) (X.tr (X.pn ++ pins) fun e s₁ => wpAny (model X.prog X.w) X.A (noteFrame e X.env) (fun _ s₂ => wpAny (model X.prog X.w) X.A (setFlight e none) (fun _ s₃ => wpAny (model X.prog X.w) X.A (handleBy e X.env [.ExceptHandler (some (.Name x np)) none (b0 :: suite) hp]) (SP X pins D) X.xe s₃) X.xe s₂) X.xe s₁) EX := by
    intro pl σ1 H1 s1 e s2 I1 cx
    exact catch_own hst hg hm q hh hEX (I1.untr I.ok) cx (fun cls d H' z => hx cls d σ1 H' z) hdb
  refine wpAny_mono (hb _ _ hP [] s σ H D (I.tr _) hbd) (fun f s1 h1 => ?_) fun _ _ z => z
  have h2 := SP.untr I.ok h1
  cases f with
  | next => exact wpAny_execs_nil h2
  | brk => exact h2
  | cont => exact h2
  | ret v => exact h2
end
end L2

namespace L2
open PySem PySem.Spec PyProof.Rows
/-! ### enumerate of a list, taken apart at once -/
def Ite (K : PySem.W.Frag) (a : Addr) : It :=
  ⟨fun i H => ∃ xs x, SqL K H a xs ∧ xs[i]? = some x, fun i H z H' => ∃ T x, z = .ref T ∧ H T = none ∧ H' = upd H T (.tup [.int i, x]) ∧ ∀ xs, SqL K H a xs → xs[i]? = some x, fun i H => ∃ xs, SqL K H a xs ∧ xs.length ≤ i⟩
theorem turn_enum {P : Program} {w : World} {K : PySem.W.Frag} {elts : List Expr} {tk0} {tpos : Pos} (a e it : Addr) (D : e ≠ it) :
    Turn P w K (.Tuple elts tk0 tpos) (Ite K a) [e, it] e (fun i h => (∃ old, IsEnum h e it i old) ∧ h.IsListIter it a i) where
  mem := by simp
  obj := fun i h st c hc => by
    obtain ⟨⟨old, he⟩, ⟨o1, e1, c1, d1⟩⟩ := st
    simp only [List.mem_cons, List.not_mem_nil, or_false] at hc
    rcases hc with rfl | rfl
    · exact ⟨_, he, fun v z => by cases z⟩
    · exact ⟨_, e1, fun v z => by rw [d1] at z; cases z⟩
  keep := fun i h h' st k => by
    obtain ⟨⟨old, he⟩, h1⟩ := st
    exact ⟨⟨old, k e (by simp) _ he⟩, h1.at fun o z => k it (by simp) o z⟩
  item := by
    intro X hP hw hK hc i pins s σ H E I hf st hg
    subst hP hw hK
    obtain ⟨xs, x, hxs, hx⟩ := hg
    obtain ⟨its, rv, p, hz1⟩ := I.list hxs
    obtain ⟨u, hu, ru⟩ := rv.get hx
    obtain ⟨⟨old, he⟩, h1⟩ := st
    refine wpAny_pyNext_enum_item he h1 p.isList (x := u) (by simpa using hu) D fun h' a1 a2 a3 a4 hk => ?_
    refine ⟨_, rfl, wpAny_letOwnedTupleGo_enum (s := { s with heap := h', toks := s.toks + 1 }) a1 fun h2' hz' hs' => ?_⟩
    have lt : ∀ {c : Addr} {o : Obj}, s.heap.get? c = some o → s.heap.objs.size ≠ c := fun e z => Nat.lt_irrefl _ (z ▸ Heap.lt_size e)
    have pr := hs'.extBut _ _ (lt he) a3
    have nT : ∀ c ∈ [e, it], c ≠ s.heap.objs.size := fun c hc => by
      simp only [List.mem_cons, List.not_mem_nil, or_false] at hc
      rcases hc with rfl | rfl
      · exact (lt he).symm
      · obtain ⟨_, z, _⟩ := h1; exact (lt z).symm
    have I1 : Inv X pins σ (upd H s.heap.objs.size (.tup [.int i, x])) { s with heap := h2', toks := s.toks + 1 } := I.turnedLaid (t' := s.toks + 1) (ch := [e, it]) (fun c o hc z => hs'.extBut _ _ (fun q => hc (by simp [q])) (hk c o (fun q => hc (by simp [q])) (fun q => hc (by simp [q])) z)) hf (Nat.le_refl _)
      ⟨by show 2 ≤ sizeLine; decide, [_, u], .cons ⟨_, rfl⟩ (.cons ru .nil), ⟨_, pr, rfl, _, rfl⟩⟩
    refine ⟨.ref s.heap.objs.size, _, I1, rfl, ⟨s.heap.objs.size, x, rfl, I.hok.fresh (Nat.le_refl _), rfl, fun xs' q1 => ?_⟩, ⟨⟨u, ?_⟩, a2.extBut hs'.extBut D.symm⟩, fun c hc => ?_⟩
    · rw [I.list_inj q1 hxs]; exact hx
    · have e2 : ((i + 1 : Nat) : Int) = (i : Int) + 1 := by omega
      rw [e2]; exact hz'
    · rw [upd_ne (nT c hc)]; exact (hf c hc).1
  done := by
    intro X hP hw hK hc i pins s σ H E I hf st hg
    subst hP hw hK
    obtain ⟨xs, hxs, hd⟩ := hg
    obtain ⟨its, rv, p, hz1⟩ := I.list hxs
    obtain ⟨⟨old, he⟩, h1⟩ := st
    have l1 := rv.length
    refine wpAny_pyNext_enum_end (I.ok.hd hc) he h1 p.isList (by simp; omega) fun h' hk => ⟨rfl, ?_⟩
    exact I.turnedL (t' := s.toks) (ch := [e, it]) (fun c o hc z => hk c o (fun q => hc (by simp [q])) z) hf
  self := fun _ _ _ _ _ st h => wpAny_pyIter_enum st.1.choose_spec h
def iEnum (K : PySem.W.Frag) (ta : TA) : TI := fun σ H R => ta σ H fun vs H1 => ∃ a, vs = [.ref a] ∧ (∃ xs, SqL K H1 a xs) ∧ R (Ite K a) H1
section
variable {X : Cx} {elts : List Expr} {tk0 : _} {tpos : Pos}
theorem pi_enumerate {a : Expr} {ta : TA} {p pos : Pos} (hg : Gl X "enumerate") (hm : X.mg "enumerate" = none) (ha : PA X [a] ta) (hs : starEach [a] X.env = [(false, eval a X.env)] := by rfl) :
    PI X (.Tuple elts tk0 tpos) (.Call (.Name "enumerate" p) [a] [] pos) (iEnum X.K ta) := by
  intro pins s σ H R I h
  refine Call_ (ld_blt I hg hm boot_enumerate (PyProof.Rows.callWith_type1 (thn (ha pos pins s σ H _ I h) fun us s1 ⟨vs, H1, I1, r1, q1⟩ => ?_) hs rfl))
  obtain ⟨l1, e, ⟨xs, hx⟩, q⟩ := q1
  subst e
  obtain ⟨u1, rfl, e1⟩ := vals1 r1
  cases e1
  obtain ⟨its, rv, p1, hz1⟩ := I1.list hx
  refine call_enumerate_list p1.isList fun h' a1 a2 a3 hk => ?_
  refine wpAny_pyIter_enum (s := { s1 with heap := h' }) a1 ?_
  have lt : ∀ c, s1.heap.objs.size ≤ c → FpOk X pins H1 c := fun c hc => I1.fpOk hc (I1.hok.fresh hc)
  refine ⟨_, [_, _], _, _, H1, rfl, I1.kept (t' := s1.toks) hk, turn_enum l1 _ _ (by intro z; have z : (_ : Nat) = _ := z; omega), ⟨⟨_, a1⟩, a2⟩, fun c hc => ?_, q⟩
  simp only [List.mem_cons, List.not_mem_nil, or_false] at hc
  refine lt c ?_
  rcases hc with rfl | rfl
  · exact Nat.le_add_right _ _
  · exact Nat.le_refl _
theorem pi_enumerateK (K : PySem.W.Frag) (hK : X.K = K) {a : Expr} {ta : TA} {p pos : Pos} (hg : Gl X "enumerate") (hm : X.mg "enumerate" = none) (ha : PA X [a] ta) (hs : starEach [a] X.env = [(false, eval a X.env)] := by rfl) :
    PI X (.Tuple elts tk0 tpos) (.Call (.Name "enumerate" p) [a] [] pos) (iEnum K ta) := by subst hK; exact pi_enumerate hg hm ha hs
end
section
variable {g : TG} {tb : TS} {D : Ends} {σ : St} {H : Hp} {tt : TT} {te : TE} {Q : VK} {K : PySem.W.Frag}
theorem forB_enum {a : Addr} (xs : List V) (Pv : Nat → St → Hp → Prop) (h0 : Pv 0 σ H) (hl : ∀ i σ H, i ≤ xs.length → Pv i σ H → H a = some (.lst xs))
    (hs : ∀ i x T σ H, xs[i]? = some x → Pv i σ H → H T = none → g (.ref T) σ (upd H T (.tup [.int i, x])) fun σ2 H2 => tb { D with nx := Pv (i + 1), ct := Pv (i + 1), bk := D.nx } σ2 H2) (hd : ∀ σ H, Pv xs.length σ H → D.nx σ H) : ForB (Ite K a) g tb D σ H := by
  refine ⟨fun i m σ H => m = xs.length - i ∧ i ≤ xs.length ∧ Pv i σ H, ⟨xs.length, by simp, Nat.zero_le _, h0⟩, ?_⟩
  rintro i m σ H ⟨rfl, hi, p⟩
  have el := SqL.of (K := K) (hl i σ H hi p)
  by_cases hlt : i < xs.length
  · refine .inr ⟨⟨xs, xs[i], el, by simp [hlt]⟩, Pv (i + 1), fun σ' H' q => ⟨xs.length - (i + 1), by omega, rfl, hlt, q⟩, fun z H' y => ?_⟩
    obtain ⟨T, x, rfl, hT, rfl, q⟩ := y
    exact hs i x T σ H (q xs el) p hT
  · have e : i = xs.length := by omega
    subst e
    exact .inl ⟨⟨xs, el, Nat.le_refl _⟩, hd σ H p⟩
end
end L2

namespace L2
open PySem PySem.Spec PyProof.Rows
/-! ### zip of two, each a list or a tuple -/
def SqIt (h : Heap) (i a : Addr) (k : Nat) : Prop := h.IsListIter i a k ∨ h.IsTupleIter i a k
def IsSq (h : Heap) (a : Addr) (xs : Array Value) : Prop := ∃ o n, h.get? a = some o ∧ o.data = .seq xs n
theorem SqIt.at {h h' : Heap} {i a : Addr} {k : Nat} (x : SqIt h i a k) (e : ∀ o, h.get? i = some o → h'.get? i = some o) : SqIt h' i a k := x.elim (fun y => .inl (y.at e)) fun y => .inr (y.at e)
theorem IsSq.at {h h' : Heap} {a : Addr} {xs : Array Value} (x : IsSq h a xs) (e : ∀ o, h.get? a = some o → h'.get? a = some o) : IsSq h' a xs := by obtain ⟨o, n, ho, hd⟩ := x; exact ⟨o, n, e o ho, hd⟩
theorem SqIt.obj {h : Heap} {i a : Addr} {k : Nat} (x : SqIt h i a k) : ∃ o, h.get? i = some o ∧ o.data = .fields #[.ref a, .int k 0] := by
  rcases x with ⟨o, e, _, d⟩ | ⟨o, e, _, d⟩
  · exact ⟨o, e, d⟩
  · exact ⟨o, e, d⟩
section
variable {prog : Program} {w : World} {A : Around} {E : Value → Shared → Prop} {s : Shared} {it l : Addr} {i : Nat} {items : Array Value}
/-- an iterator of a builtin kind is asked by its kind's own next -/
theorem nextOf_by {T id : String} {b : Builtin} {Q : Value → Shared → Prop} (kind : s.TypeIs (.ref it) T) (slot : Slot T "__next__" id) (entry : entryFor table id = some b) (args : argsOk id ⟨[.ref it], []⟩)
    (h : wpAny (model prog w) A.in1 (b ⟨[.ref it], []⟩) (fun f t => ∃ v, f = .done (.ret v) ∧ Q v t) E s) : wpAny (model prog w) A (Builtin.SmallTypes.nextOf (.ref it)) Q E s := by
  have asked : wpAny (model prog w) A (callSpecial? (.ref it) "__next__") (fun r t => ∃ v, r = some v ∧ Q v t) E s :=
    wpAny_callSpecial?_slot kind slot (wpAny_call_entry slot kind entry (thn h fun f t ⟨v, e, q⟩ => ⟨v, e, v, rfl, q⟩) args)
  refine wpAny_bind (thn asked ?_)
  rintro _ t ⟨v, rfl, q⟩
  exact wpAny_pure q
/-- what such an iterator holds, as it is asked for -/
structure Rising (prog : Program) (w : World) (A : Around) (E : Value → Shared → Prop) (s : Shared) (it l : Addr) (i : Nat) (items : Array Value) : Prop where
  seq : ∀ (Q : Value → Shared → Prop), Q (.ref l) s → wpAny (model prog w) A (field (.ref it) 0) Q E s
  place : ∀ (Q : Value → Shared → Prop), Q (.int i 0) s → wpAny (model prog w) A (field (.ref it) 1) Q E s
  items : ∀ (Q : Option (Array Value) → Shared → Prop), Q (some items) s → wpAny (model prog w) A (seqItems? (.ref l)) Q E s
  set : ∀ (k : Nat) (v : Value) (Q : Unit → Shared → Prop), k < 2 → Q () { s with heap := s.heap.update it (Obj.mapFields (·.setIfInBounds k v)) } → wpAny (model prog w) A (setField (.ref it) k v) Q E s
theorem Rising.of {o : Obj} (ho : s.heap.get? it = some o) (hd : o.data = .fields #[.ref l, .int i 0]) (hl : IsSq s.heap l items) : Rising prog w A E s it l i items := by
  obtain ⟨ol, nl, hol, hdl⟩ := hl
  exact ⟨fun _ h => wpAny_field ho hd rfl h, fun _ h => wpAny_field ho hd rfl h, fun _ h => wpAny_seqItems hol hdl h, fun k v _ hk h => wpAny_setField ho hd hk h⟩
abbrev isRising (b : Builtin) : Prop := b = Builtin.«list_iterator.__next__» ∨ b = Builtin.«tuple_iterator.__next__»
theorem rising_item {b : Builtin} {x : Value} {Q : Value → Shared → Prop} (hb : isRising b) (R : Rising prog w A E s it l i items) (hx : items[i]? = some x)
    (hQ : Q x { s with heap := s.heap.update it (Obj.mapFields (·.setIfInBounds 1 (rawInt (i + 1)))) }) : wpAny (model prog w) A (b ⟨[.ref it], []⟩) (fun f t => ∃ v, f = .done (.ret v) ∧ Q v t) E s := by
  have r0 := R.seq
  have r1 := R.place
  have r2 := R.items
  have r3 := fun Q h => R.set 1 (rawInt (i + 1)) Q (by decide) h
  rcases hb with rfl | rfl
  all_goals
    wp_walk using r0, r1, r2, r3
    rw [Int.toNat_natCast, hx]
    wp_walk using r0, r1, r2, r3
    exact ⟨x, rfl, hQ⟩
theorem rising_end {b : Builtin} {Q : PySem.Fin → Shared → Prop} (hh : A.handled = none) (hb : isRising b) (R : Rising prog w A E s it l i items) (hx : items[i]? = none)
    (hE : ∀ h' e, Heap.ExtBut it s.heap h' → (∃ o, h'.get? e = some o ∧ o.cls = .type "StopIteration") → E (.ref e) { s with heap := h' }) : wpAny (model prog w) A (b ⟨[.ref it], []⟩) Q E s := by
  have r0 := R.seq
  have r1 := R.place
  have r2 := R.items
  have r3 := fun Q h => R.set 0 .none Q (by decide) h
  rcases hb with rfl | rfl
  all_goals
    wp_walk using r0, r1, r2, r3
    rw [Int.toNat_natCast, hx]
    wp_walk using r0, r1, r2, r3
    exact wpAny_raiseNew_none hh (hE _ _ (((Heap.SameBut.update ..).extBut.push _).push _) ⟨_, Heap.get?_push_size _ rfl, rfl⟩)
theorem nx_item {x : Value} {Q : Value → Shared → Prop} (hit : SqIt s.heap it l i) (hl : IsSq s.heap l items) (hx : items[i]? = some x) (hQ : ∀ h', SqIt h' it l (i + 1) → Heap.SameBut it s.heap h' → Q x { s with heap := h' }) : wpAny (model prog w) A (Builtin.SmallTypes.nextOf (.ref it)) Q E s := by
  obtain ⟨o, ho, hd⟩ := hit.obj
  have new : (s.heap.update it (Obj.mapFields (·.setIfInBounds 1 (rawInt (i + 1))))).get? it = some (o.mapFields (·.setIfInBounds 1 (rawInt (i + 1)))) := Heap.get?_update_self _ ho (Obj.isFreed_of_fields (Obj.data_mapFields hd _))
  have data : (o.mapFields (·.setIfInBounds 1 (rawInt (i + 1)))).data = .fields #[.ref l, .int (i + 1 : Nat) 0] := by rw [Obj.data_mapFields hd]; simp [rawInt]
  have cls : (o.mapFields (·.setIfInBounds 1 (rawInt (i + 1)))).cls = o.cls := Obj.cls_mapFields ..
  have same : Heap.SameBut it s.heap (s.heap.update it (Obj.mapFields (·.setIfInBounds 1 (rawInt (i + 1))))) := Heap.SameBut.update ..
  rcases hit with li | tu
  · obtain ⟨o', ho', hc, _⟩ := id li
    rw [ho] at ho'; cases ho'
    exact nextOf_by li.typeIs slot_listiter_next entry_listiter_next (args_listiter_next _) (rising_item (.inl rfl) (Rising.of ho hd hl) hx (hQ _ (.inl ⟨_, new, cls.trans hc, data⟩) same))
  · obtain ⟨o', ho', hc, _⟩ := id tu
    rw [ho] at ho'; cases ho'
    exact nextOf_by tu.typeIs PySem.F.slot_tuple_iterator_next PySem.F.entry_tuple_iterator_next (PySem.F.args_tuple_iterator_next_1 _) (rising_item (.inr rfl) (Rising.of ho hd hl) hx (hQ _ (.inr ⟨_, new, cls.trans hc, data⟩) same))
theorem nx_end {Q : Value → Shared → Prop} (hh : A.handled = none) (hit : SqIt s.heap it l i) (hl : IsSq s.heap l items) (hx : items[i]? = none)
    (hE : ∀ h' e, Heap.ExtBut it s.heap h' → (∃ o, h'.get? e = some o ∧ o.cls = .type "StopIteration") → E (.ref e) { s with heap := h' }) : wpAny (model prog w) A (Builtin.SmallTypes.nextOf (.ref it)) Q E s := by
  obtain ⟨o, ho, hd⟩ := hit.obj
  have no : A.in1.handled = none := hh
  rcases hit with li | tu
  · exact nextOf_by li.typeIs slot_listiter_next entry_listiter_next (args_listiter_next _) (rising_end no (.inl rfl) (Rising.of ho hd hl) hx hE)
  · exact nextOf_by tu.typeIs PySem.F.slot_tuple_iterator_next PySem.F.entry_tuple_iterator_next (PySem.F.args_tuple_iterator_next_1 _) (rising_end no (.inr rfl) (Rising.of ho hd hl) hx hE)
end
/-- the two walked lie apart from the zip's own five -/
structure ZApart (z TI TO i1 i2 l1 l2 : Addr) : Prop extends ZipAt z TI TO i1 i2 where
  n1 : l1 ∉ [z, TO, i1, i2]
  n2 : l2 ∉ [z, TO, i1, i2]
/-- how a zip of two stands, seen from the heap that it began with -/
structure ZS (h0 : Heap) (z TI TO i1 i2 l1 l2 : Addr) (xs ys : Array Value) (h : Heap) (f a b : Value) (k1 k2 : Nat) : Prop where
  ap : ZApart z TI TO i1 i2 l1 l2
  zip : IsZip h z TI TO f
  tin : IsPair h TI (.ref i1) (.ref i2)
  tout : IsPair h TO a b
  one : SqIt h i1 l1 k1
  two : SqIt h i2 l2 k2
  src1 : IsSq h l1 xs
  src2 : IsSq h l2 ys
  far : ∀ c o, c ∉ [z, TO, i1, i2] → h0.get? c = some o → h.get? c = some o
section
variable {prog : Program} {w : World} {A : Around} {E : Value → Shared → Prop} {s : Shared} {z TI TO i1 i2 l1 l2 : Addr} {k1 k2 : Nat} {xs ys : Array Value} {f a b : Value} {h0 h h' : Heap}
theorem off4 {c : Addr} (hc : c ∉ [z, TO, i1, i2]) : c ≠ z ∧ c ≠ TO ∧ c ≠ i1 ∧ c ≠ i2 := by simpa using hc
/-- the zip itself is changed -/
theorem ZS.self (Z : ZS h0 z TI TO i1 i2 l1 l2 xs ys h f a b k1 k2) (e : Heap.ExtBut z h h') {f' : Value} (hz : IsZip h' z TI TO f') : ZS h0 z TI TO i1 i2 l1 l2 xs ys h' f' a b k1 k2 :=
  ⟨Z.ap, hz, e _ _ Z.ap.TIz Z.tin, e _ _ Z.ap.TOz Z.tout, Z.one.at fun o => e _ o Z.ap.i1z, Z.two.at fun o => e _ o Z.ap.i2z, Z.src1.at fun o => e _ o (off4 Z.ap.n1).1, Z.src2.at fun o => e _ o (off4 Z.ap.n2).1, fun c o hc q => e c o (off4 hc).1 (Z.far c o hc q)⟩
/-- its own tuple is -/
theorem ZS.out (Z : ZS h0 z TI TO i1 i2 l1 l2 xs ys h f a b k1 k2) (e : Heap.ExtBut TO h h') {a' b' : Value} (ht : IsPair h' TO a' b') : ZS h0 z TI TO i1 i2 l1 l2 xs ys h' f a' b' k1 k2 :=
  ⟨Z.ap, e _ _ Z.ap.TOz.symm Z.zip, e _ _ Z.ap.TITO Z.tin, ht, Z.one.at fun o => e _ o Z.ap.TOi1.symm, Z.two.at fun o => e _ o Z.ap.TOi2.symm, Z.src1.at fun o => e _ o (off4 Z.ap.n1).2.1, Z.src2.at fun o => e _ o (off4 Z.ap.n2).2.1, fun c o hc q => e c o (off4 hc).2.1 (Z.far c o hc q)⟩
/-- the first iterator goes on, or the second -/
theorem ZS.on1 (Z : ZS h0 z TI TO i1 i2 l1 l2 xs ys h f a b k1 k2) (e : Heap.ExtBut i1 h h') {k : Nat} (hi : SqIt h' i1 l1 k) : ZS h0 z TI TO i1 i2 l1 l2 xs ys h' f a b k k2 :=
  ⟨Z.ap, e _ _ Z.ap.i1z.symm Z.zip, e _ _ Z.ap.TIi1 Z.tin, e _ _ Z.ap.TOi1 Z.tout, hi, Z.two.at fun o => e _ o Z.ap.i12.symm, Z.src1.at fun o => e _ o (off4 Z.ap.n1).2.2.1, Z.src2.at fun o => e _ o (off4 Z.ap.n2).2.2.1, fun c o hc q => e c o (off4 hc).2.2.1 (Z.far c o hc q)⟩
theorem ZS.on2 (Z : ZS h0 z TI TO i1 i2 l1 l2 xs ys h f a b k1 k2) (e : Heap.ExtBut i2 h h') {k : Nat} (hi : SqIt h' i2 l2 k) : ZS h0 z TI TO i1 i2 l1 l2 xs ys h' f a b k1 k :=
  ⟨Z.ap, e _ _ Z.ap.i2z.symm Z.zip, e _ _ Z.ap.TIi2 Z.tin, e _ _ Z.ap.TOi2 Z.tout, Z.one.at fun o => e _ o Z.ap.i12, hi, Z.src1.at fun o => e _ o (off4 Z.ap.n1).2.2.2, Z.src2.at fun o => e _ o (off4 Z.ap.n2).2.2.2, fun c o hc q => e c o (off4 hc).2.2.2 (Z.far c o hc q)⟩
/-- the same with something new beside -/
theorem ZS.push (Z : ZS h0 z TI TO i1 i2 l1 l2 xs ys h f a b k1 k2) (o : Obj) : ZS h0 z TI TO i1 i2 l1 l2 xs ys (h.push o) f a b k1 k2 := by
  have e : ∀ c x, h.get? c = some x → (h.push o).get? c = some x := fun c x q => Heap.get?_push_of_some o q
  exact ⟨Z.ap, e _ _ Z.zip, e _ _ Z.tin, e _ _ Z.tout, Z.one.at (e _), Z.two.at (e _), Z.src1.at (e _), Z.src2.at (e _), fun c x hc q => e c x (Z.far c x hc q)⟩
/-- what is asked of a zip, as it stands -/
structure ZF (prog : Program) (w : World) (A : Around) (E : Value → Shared → Prop) (s : Shared) (z TI TO i1 i2 : Addr) (f a b : Value) : Prop where
  f0 : ∀ (Q : Value → Shared → Prop), Q f s → wpAny (model prog w) A (field (.ref z) 0) Q E s
  f2 : ∀ (Q : Value → Shared → Prop), Q (.bool false) s → wpAny (model prog w) A (field (.ref z) 2) Q E s
  f3 : ∀ (Q : Value → Shared → Prop), Q (.ref TI) s → wpAny (model prog w) A (field (.ref z) 3) Q E s
  f4 : ∀ (Q : Value → Shared → Prop), Q (.ref TO) s → wpAny (model prog w) A (field (.ref z) 4) Q E s
  ins : ∀ (Q : Option (Array Value) → Shared → Prop), Q (some #[.ref i1, .ref i2]) s → wpAny (model prog w) A (seqItems? (.ref TI)) Q E s
  outs : ∀ (Q : Option (Array Value) → Shared → Prop), Q (some #[a, b]) s → wpAny (model prog w) A (seqItems? (.ref TO)) Q E s
  set : ∀ (v : Value) (Q : Unit → Shared → Prop), (∀ h', IsZip h' z TI TO v → Heap.SameBut z s.heap h' → Q () { s with heap := h' }) → wpAny (model prog w) A (setField (.ref z) 0 v) Q E s
  put : ∀ (k : Nat) (v : Value) (Q : Unit → Shared → Prop), (∀ h', IsPair h' TO (if k = 0 then v else a) (if k = 1 then v else b) → Heap.SameBut TO s.heap h' → Q () { s with heap := h' }) → k < 2 → wpAny (model prog w) A (updateSeq TO (·.setIfInBounds k v)) Q E s
theorem ZS.asked (Z : ZS h0 z TI TO i1 i2 l1 l2 xs ys s.heap f a b k1 k2) : ZF prog w A E s z TI TO i1 i2 f a b := by
  refine ⟨fun _ q => wpAny_field Z.zip rfl rfl q, fun _ q => wpAny_field Z.zip rfl rfl q, fun _ q => wpAny_field Z.zip rfl rfl q, fun _ q => wpAny_field Z.zip rfl rfl q, fun _ q => wpAny_seqItems Z.tin rfl q, fun _ q => wpAny_seqItems Z.tout rfl q, fun v _ q => ?_, fun k v _ q hk => ?_⟩
  · exact wpAny_setField_rec Z.zip (by simp) fun h' e sb => q h' e sb
  · refine wpAny_updateSeq_pair Z.tout fun h' e sb => q h' ?_ sb
    match k, hk with
    | 0, _ => exact e
    | 1, _ => exact e
/-- what is still to be drawn, and how the zip stands then -/
abbrev ZRest (h0 : Heap) (z TI TO i1 i2 l1 l2 : Addr) (xs ys : Array Value) (a b : Value) (k1 k2 : Nat) (h : Heap) : List (Value × Nat) → Prop
  | [] => ∃ x y, xs[k1]? = some x ∧ ys[k2]? = some y ∧ ZS h0 z TI TO i1 i2 l1 l2 xs ys h .ellipsis x y (k1 + 1) (k2 + 1)
  | [p] => p = (.ref i2, 1) ∧ ∃ x, xs[k1]? = some x ∧ ZS h0 z TI TO i1 i2 l1 l2 xs ys h .ellipsis x b (k1 + 1) k2
  | [p, q] => p = (.ref i1, 0) ∧ q = (.ref i2, 1) ∧ ZS h0 z TI TO i1 i2 l1 l2 xs ys h .ellipsis a b k1 k2
  | _ => False
abbrev IsStop (h : Heap) (e : Addr) : Prop := ∃ o, h.get? e = some o ∧ o.cls = .type "StopIteration"
/-- one of the two is drawn from; where it is at its end the zip lets its tuple go -/
theorem zip_draws {draw : Sem (Option Value)} {i l : Addr} {k : Nat} {items : Array Value} {Q : Option Value → Shared → Prop} (hd : draw = (Builtin.SmallTypes.nextOf (.ref i) >>= fun v => pure (some v))) (hh : A.handled = none) (it : SqIt s.heap i l k) (src : IsSq s.heap l items) (hz : IsZip s.heap z TI TO .ellipsis) (iz : i ≠ z)
    (item : ∀ v h', items[k]? = some v → SqIt h' i l (k + 1) → Heap.SameBut i s.heap h' → Q (some v) { s with heap := h' })
    (stop : items[k]? = none → ∀ h' h2 e, Heap.ExtBut i s.heap h' → Heap.SameBut z h' h2 → IsStop h2 e → E (.ref e) { s with heap := h2 }) :
    wpAny (model prog w) A (draw.onRaise fun _ => setField (.ref z) 0 .none) Q E s := by
  subst hd
  refine wpAny_onRaise (wpAny_bind ?_)
  cases e : items[k]? with
  | some v => exact nx_item it src e fun h' a1 a2 => wpAny_pure (item v h' e a1 a2)
  | none =>
    refine nx_end hh it src e fun h' x ext ⟨o, ho, hc⟩ => ?_
    have zip := ext z _ iz.symm hz
    have ne : x ≠ z := fun q => by
      rw [q, zip] at ho
      cases ho
      exact absurd (show Value.type "zip" = .type "StopIteration" from hc) (by decide)
    exact wpAny_setField_rec zip (by simp) fun h2 _ sb => stop e h' h2 x ext sb ⟨o, sb.extBut x o ne ho, hc⟩
theorem zip2_next {Q : Value → Shared → Prop} (hh : A.handled = none) (Z : ZS s.heap z TI TO i1 i2 l1 l2 xs ys s.heap .none a b k1 k2)
    (item : ∀ x y h', xs[k1]? = some x → ys[k2]? = some y → ZS s.heap z TI TO i1 i2 l1 l2 xs ys h' (rawInt s.heap.objs.size) x y (k1 + 1) (k2 + 1) → IsPair h' s.heap.objs.size x y → h'.objs.size = s.heap.objs.size + 1 → Q (.ref s.heap.objs.size) { s with heap := h' })
    (stop : (xs[k1]? = none ∨ ys[k2]? = none) → ∀ h' e, (∀ c o, c ∉ [z, TO, i1, i2] → s.heap.get? c = some o → h'.get? c = some o) → IsStop h' e → E (.ref e) { s with heap := h' }) :
    wpAny (model prog w) A (Builtin.«zip.__next__» ⟨[.ref z], []⟩) (fun f t => ∃ v, f = .done (.ret v) ∧ Q v t) E s := by
  have F := Z.asked (prog := prog) (w := w) (A := A) (E := E)
  have g0 := F.f0; have g2 := F.f2; have g3 := F.f3; have g4 := F.f4; have gi := F.ins
  have gs := F.set .ellipsis
  obtain ⟨h, g, d, tk, os⟩ := s
  dsimp only at Z item stop
  wp_walk using g0, g2, g3, g4, gi, gs
  intro h1 hz1 sb1
  have Z1 := Z.self sb1.extBut hz1
  have size1 : h1.objs.size = h.objs.size := sb1.1
  clear F g0 g2 g3 g4 gi gs
  wp_walk using wpAny_forIn_list _ (fun rest r t => r = ((none : Option PySem.Fin), ()) ∧ ∃ h', t = ⟨h', g, d, tk, os⟩ ∧ h'.objs.size = h.objs.size ∧ ZRest h z TI TO i1 i2 l1 l2 xs ys a b k1 k2 h' rest) _
  case turn =>
    rintro p rest r t ⟨rfl, h2, rfl, size2, zr⟩
    match rest, zr with
    | [], ⟨e, x, hx, Z2⟩ =>
      subst e
      refine wpAny_bind (zip_draws rfl hh Z2.two Z2.src2 Z2.zip Z2.ap.i2z (fun v h3 hv i3 sb3 => ?_) fun no h3 h4 e ext sb4 st => ?_)
      · have Z3 := Z2.on2 sb3.extBut i3
        refine wpAny_bind (wpAny_seqItems Z3.tout rfl (wpAny_bind (wpAny_updateSeq_pair Z3.tout fun h4 p4 sb4 => wpAny_bind (wpAny_letGo (wpAny_pure ?_)))))
        exact ⟨rfl, h4, rfl, by rw [sb4.1, sb3.1]; exact size2, x, v, hx, hv, Z3.out sb4.extBut p4⟩
      · exact stop (.inr no) h4 e (fun c o hc q => sb4.extBut c o (off4 hc).1 (ext c o (off4 hc).2.2.2 (Z2.far c o hc q))) st
    | [q], ⟨e1, e2, Z2⟩ =>
      subst e1 e2
      refine wpAny_bind (zip_draws rfl hh Z2.one Z2.src1 Z2.zip Z2.ap.i1z (fun v h3 hv i3 sb3 => ?_) fun no h3 h4 e ext sb4 st => ?_)
      · have Z3 := Z2.on1 sb3.extBut i3
        refine wpAny_bind (wpAny_seqItems Z3.tout rfl (wpAny_bind (wpAny_updateSeq_pair Z3.tout fun h4 p4 sb4 => wpAny_bind (wpAny_letGo (wpAny_pure ?_)))))
        exact ⟨rfl, h4, rfl, by rw [sb4.1, sb3.1]; exact size2, rfl, v, hv, Z3.out sb4.extBut p4⟩
      · exact stop (.inl no) h4 e (fun c o hc q => sb4.extBut c o (off4 hc).1 (ext c o (off4 hc).2.2.1 (Z2.far c o hc q))) st
    | _ :: _ :: _, zr => exact zr.elim
  case fin =>
    rintro r t ⟨rfl, h2, rfl, size2, x, y, hx, hy, Z2⟩
    refine wpAny_bind (wpAny_seqItems Z2.tout rfl (wpAny_bind (wpAny_newTuple ?_)))
    have Z3 := Z2.push { cls := .type "tuple", data := .seq #[x, y] }
    refine wpAny_bind (wpAny_bind (wpAny_setField_rec Z3.zip (by simp) fun h4 z4 sb4 => wpAny_setField_rec z4 (by simp) fun h5 z5 sb5 => wpAny_pure ⟨_, rfl, ?_⟩))
    have size5 : h5.objs.size = h.objs.size + 1 := by rw [sb5.1, sb4.1, Heap.size_push, size2]
    have new : z ≠ h2.objs.size := Nat.ne_of_lt (Heap.lt_size Z2.zip)
    have pair : IsPair h5 h2.objs.size x y := sb5.extBut _ _ new.symm (sb4.extBut _ _ new.symm (Heap.get?_push_size _ rfl))
    have Z5 := (Z3.self sb4.extBut (f' := rawInt h2.objs.size) z4).self sb5.extBut (f' := rawInt h2.objs.size) z5
    rw [size2] at pair Z5 ⊢
    exact item x y h5 hx hy Z5 pair size5
  case h => exact ⟨rfl, h1, rfl, size1, rfl, rfl, Z1⟩
/-- the loop's own next, of a builtin kind: what it gives, or the end of it -/
theorem pyNext_by {it : Addr} {T id : String} {b : Builtin} {Q : Option Value → Shared → Prop} (kind : s.TypeIs (.ref it) T) (slot : Slot T "__next__" id) (entry : entryFor table id = some b) (args : argsOk id ⟨[.ref it], []⟩)
    (h : wpAny (model prog w) A.in1 (b ⟨[.ref it], []⟩) (fun f t => ∃ v, f = .done (.ret v) ∧ Q (some v) t) (fun x t => ∃ e, x = .ref e ∧ IsStop t.heap e ∧ Q none t) s) : wpAny (model prog w) A (pyNext (.ref it)) Q E s := by
  have asked : wpAny (model prog w) A (callSpecial? (.ref it) "__next__") (fun r t => ∃ v, r = some v ∧ Q (some v) t) (fun x t => ∃ e, x = .ref e ∧ IsStop t.heap e ∧ Q none t) s :=
    wpAny_callSpecial?_slot kind slot (wpAny_call_entry slot kind entry (thn h fun f t ⟨v, e, q⟩ => ⟨v, e, v, rfl, q⟩) args)
  refine wpAny_bind (wpAny_attempt (wpAny_mono asked ?_ ?_))
  · rintro _ t ⟨v, rfl, q⟩
    exact wpAny_pure q
  · rintro _ t ⟨e, rfl, ⟨o, ho, hc⟩, q⟩
    exact wpAny_bind (wpAny_isInstance ⟨o, ho, hc⟩ isSubtype_stop (wpAny_pure q))
theorem next_zip2 {Q : Option Value → Shared → Prop} (hh : A.handled = none) (Z : ZS s.heap z TI TO i1 i2 l1 l2 xs ys s.heap .none a b k1 k2)
    (item : ∀ x y h', xs[k1]? = some x → ys[k2]? = some y → ZS s.heap z TI TO i1 i2 l1 l2 xs ys h' (rawInt s.heap.objs.size) x y (k1 + 1) (k2 + 1) → IsPair h' s.heap.objs.size x y → h'.objs.size = s.heap.objs.size + 1 → Q (some (.ref s.heap.objs.size)) { s with heap := h' })
    (stop : (xs[k1]? = none ∨ ys[k2]? = none) → ∀ h', (∀ c o, c ∉ [z, TO, i1, i2] → s.heap.get? c = some o → h'.get? c = some o) → Q none { s with heap := h' }) : wpAny (model prog w) A (pyNext (.ref z)) Q E s :=
  pyNext_by (b := Builtin.«zip.__next__») ⟨_, Z.zip, rfl⟩ PySem.F.slot_zip_next PySem.F.entry_zip_next (PySem.F.args_zip_next_1 _) (zip2_next (Q := fun v t => Q (some v) t) hh Z item fun no h' e far st => ⟨e, rfl, st, stop no h' far⟩)
end
def SqK (h : Heap) (l : Addr) (nm : String) : Prop := (∃ xs, h.IsList l xs ∧ nm = "list_iterator") ∨ (∃ xs, h.IsTuple l xs ∧ nm = "tuple_iterator")
theorem SqK.push {h : Heap} {l : Addr} {nm : String} {o : Obj} (x : SqK h l nm) : SqK (h.push o) l nm := by
  rcases x with ⟨xs, y, e⟩ | ⟨xs, y, e⟩
  · exact .inl ⟨xs, y.push _, e⟩
  · exact .inr ⟨xs, y.push _, e⟩
theorem iterSq {prog : Program} {w : World} {A : Around} {E : Value → Shared → Prop} {s : Shared} {l : Addr} {nm : String} {Q : Value → Shared → Prop} (x : SqK s.heap l nm)
    (h : Q (.ref s.heap.objs.size) { s with heap := s.heap.push { cls := .type nm, data := .fields #[.ref l, .int 0 0] } }) : wpAny (model prog w) A (pyIter (.ref l)) Q E s := by
  rcases x with ⟨xs, y, rfl⟩ | ⟨xs, y, rfl⟩
  · exact wpAny_pyIter_list y h
  · exact wpAny_pyIter_tuple y h
/-- a zip is made: five new things -/
theorem call_zip2 {prog : Program} {w : World} {A : Around} {E : Value → Shared → Prop} {s : Shared} {l1 l2 : Addr} {n1 n2 : String} {Q : Value → Shared → Prop} (a1 : SqK s.heap l1 n1) (a2 : SqK s.heap l2 n2)
    (k : ∀ h' z TI TO i1 i2, ZipAt z TI TO i1 i2 → (∀ c ∈ [z, TI, TO, i1, i2], s.heap.objs.size ≤ c) → IsZip h' z TI TO .none → IsPair h' TI (.ref i1) (.ref i2) → IsPair h' TO .none .none → SqIt h' i1 l1 0 → SqIt h' i2 l2 0 → (∀ c o, s.heap.get? c = some o → h'.get? c = some o) → Q (.ref z) { s with heap := h' }) : wpAny (model prog w) A (call (.type "zip") [.ref l1, .ref l2]) Q E s := by
  have made : Meets (Builtin.«zip.__new__» ⟨[.type "zip", .ref l1, .ref l2], []⟩) (fun _ R t => SqK t.heap l1 n1 ∧ SqK t.heap l2 n2 ∧ ∀ i1 i2 TI TO z h1 h2 h3 h4, i1 = t.heap.objs.size → h1 = t.heap.push { cls := .type n1, data := .fields #[.ref l1, .int 0 0] } →
      i2 = h1.objs.size → h2 = h1.push { cls := .type n2, data := .fields #[.ref l2, .int 0 0] } → TI = h2.objs.size → h3 = h2.push { cls := .type "tuple", data := .seq #[.ref i1, .ref i2] } → TO = h3.objs.size → h4 = h3.push { cls := .type "tuple", data := .seq #[.none, .none] } → z = h4.objs.size →
      R (.ok (.ret (.ref z))) { t with heap := h4.push { cls := .type "zip", data := .fields #[.none, .bool false, .bool false, .ref TI, .ref TO] } }) := by
    refine .of_wp fun prog w A R t ⟨b1, b2, q⟩ => ?_
    have isZip := sub_zip
    obtain ⟨h, g, d, tk, os⟩ := t
    have r1 := fun (Q : Value → Shared → Prop) q => iterSq (prog := prog) (w := w) (A := A.in1) (E := fun e s' => R (.error e) s') (Q := Q) b1 q
    have r2 := fun (Q : Value → Shared → Prop) q => iterSq (prog := prog) (w := w) (A := A.in1) (E := fun e s' => R (.error e) s') (Q := Q) (s := ⟨h.push { cls := .type n1, data := .fields #[.ref l1, .int 0 0] }, g, d, tk, os⟩) (SqK.push b2) q
    wp_walk using r1, r2
    exact ⟨_, rfl, q _ _ _ _ _ _ _ _ _ rfl rfl rfl rfl rfl rfl rfl rfl rfl⟩
  refine callType_new PySem.F.called_zip (by decide) (PySem.F.typeCall_zip_2 _ _) (PySem.F.newCall_zip_2 _ _) (fun obj => PySem.F.args_object_init_3 obj _ _) PySem.F.entry_zip_new made ⟨a1, a2, ?_⟩
  intro i1 i2 TI TO z h1 h2 h3 h4 e1 d1 e2 d2 e3 d3 e4 d4 e5
  have s1 : h1.objs.size = s.heap.objs.size + 1 := by rw [d1, Heap.size_push]
  have s2 : h2.objs.size = s.heap.objs.size + 2 := by rw [d2, Heap.size_push, s1]
  have s3 : h3.objs.size = s.heap.objs.size + 3 := by rw [d3, Heap.size_push, s2]
  have s4 : h4.objs.size = s.heap.objs.size + 4 := by rw [d4, Heap.size_push, s3]
  have up1 : ∀ c o, s.heap.get? c = some o → h1.get? c = some o := fun c o q => by rw [d1]; exact Heap.get?_push_of_some _ q
  have up2 : ∀ c o, h1.get? c = some o → h2.get? c = some o := fun c o q => by rw [d2]; exact Heap.get?_push_of_some _ q
  have up3 : ∀ c o, h2.get? c = some o → h3.get? c = some o := fun c o q => by rw [d3]; exact Heap.get?_push_of_some _ q
  have up4 : ∀ c o, h3.get? c = some o → h4.get? c = some o := fun c o q => by rw [d4]; exact Heap.get?_push_of_some _ q
  have p1 : h1.get? i1 = some { cls := .type n1, data := .fields #[.ref l1, .int 0 0] } := by rw [e1, d1]; exact Heap.get?_push_size _ rfl
  have p2 : h2.get? i2 = some { cls := .type n2, data := .fields #[.ref l2, .int 0 0] } := by rw [e2, d2]; exact Heap.get?_push_size _ rfl
  have p3 : h3.get? TI = some { cls := .type "tuple", data := .seq #[.ref i1, .ref i2] } := by rw [e3, d3]; exact Heap.get?_push_size _ rfl
  have p4 : h4.get? TO = some { cls := .type "tuple", data := .seq #[.none, .none] } := by rw [e4, d4]; exact Heap.get?_push_size _ rfl
  have at5 : ∀ c o, h4.get? c = some o → (h4.push { cls := .type "zip", data := .fields #[.none, .bool false, .bool false, .ref TI, .ref TO] }).get? c = some o := fun c o q => Heap.get?_push_of_some _ q
  have p5 : IsZip (h4.push { cls := .type "zip", data := .fields #[.none, .bool false, .bool false, .ref TI, .ref TO] }) z TI TO .none := by rw [e5]; exact Heap.get?_push_size _ rfl
  have sq : ∀ {l i : Addr} {nm : String} {h : Heap}, SqK s.heap l nm → h.get? i = some { cls := .type nm, data := .fields #[.ref l, .int 0 0] } → SqIt h i l 0 := fun a e => by
    rcases a with ⟨_, _, rfl⟩ | ⟨_, _, rfl⟩
    · exact .inl ⟨_, e, rfl, rfl⟩
    · exact .inr ⟨_, e, rfl, rfl⟩
  have D : ZipAt z TI TO i1 i2 := by constructor <;> (intro q; have q : (_ : Nat) = _ := q; omega)
  refine ⟨⟨_, p5, rfl⟩, k _ z TI TO i1 i2 D (fun c hc => ?_) p5 (at5 _ _ (up4 _ _ p3)) (at5 _ _ p4) (sq a1 (at5 _ _ (up4 _ _ (up3 _ _ (up2 _ _ p1))))) (sq a2 (at5 _ _ (up4 _ _ (up3 _ _ p2)))) fun c o q => at5 _ _ (up4 _ _ (up3 _ _ (up2 _ _ (up1 _ _ q))))⟩
  simp only [List.mem_cons, List.not_mem_nil, or_false] at hc
  rcases hc with q | q | q | q | q <;> (rw [q]; show (_ : Nat) ≤ _; omega)
/-! the walk -/
def Itz2 (a b : Addr) : It :=
  ⟨fun i H => ∃ xs ys x y, SeqV H a xs ∧ SeqV H b ys ∧ xs[i]? = some x ∧ ys[i]? = some y,
   fun i H z H' => ∃ T x y, z = .ref T ∧ H T = none ∧ H' = upd H T (.tup [x, y]) ∧ ∀ xs ys, SeqV H a xs → SeqV H b ys → xs[i]? = some x ∧ ys[i]? = some y,
   fun i H => ∃ xs ys, SeqV H a xs ∧ SeqV H b ys ∧ (xs.length ≤ i ∨ ys.length ≤ i)⟩
theorem SeqV.inj {H : Hp} {a : Addr} {xs ys : List V} (h : SeqV H a xs) (k : SeqV H a ys) : xs = ys := by
  rcases h with h | h <;> rcases k with k | k <;> rw [h] at k <;> cases k <;> rfl
theorem Inv.sq {X : Cx} {pins : List (Addr × Obj)} {σ : St} {H : Hp} {s : Shared} {a : Addr} {xs : List V} (I : Inv X pins σ H s) (h : SeqV H a xs) : ∃ its : List Value, Vals xs its ∧ IsSq s.heap a its.toArray ∧ ∃ nm, SqK s.heap a nm := by
  rcases h with h | h
  · obtain ⟨its, rv, p, _⟩ := I.list (SqL.of h)
    obtain ⟨o, e, c, n, d⟩ := p.isList
    exact ⟨its, rv, ⟨o, n, e, d⟩, _, .inl ⟨_, p.isList, rfl⟩⟩
  · obtain ⟨its, rv, p, _⟩ := I.tuple (SqT.of h)
    have p' : s.heap.IsTuple a its.toArray := p
    obtain ⟨o, e, c, n, d⟩ := id p'
    exact ⟨its, rv, ⟨o, n, e, d⟩, _, .inr ⟨_, p', rfl⟩⟩
theorem SeqV.some {H : Hp} {a : Addr} {xs : List V} (h : SeqV H a xs) : ∃ o, H a = some o := h.elim (fun e => ⟨_, e⟩) fun e => ⟨_, e⟩
/-- the zip as it stands in a context: its sources are what the context says of them -/
theorem zs_of {X : Cx} {pins : List (Addr × Obj)} {σ : St} {H : Hp} {s : Shared} {a b z TI TO i1 i2 : Addr} {i : Nat} {xs ys : List V} (I : Inv X pins σ H s) (hf : ∀ c ∈ [z, TI, TO, i1, i2], FpOk X pins H c) (D : ZipAt z TI TO i1 i2)
    (st : IsZip s.heap z TI TO .none ∧ IsPair s.heap TI (.ref i1) (.ref i2) ∧ (∃ u v, IsPair s.heap TO u v) ∧ SqIt s.heap i1 a i ∧ SqIt s.heap i2 b i) (hxs : SeqV H a xs) (hys : SeqV H b ys) :
    ∃ its : List Value, Vals xs its ∧ IsSq s.heap a its.toArray ∧ (∃ its2 : List Value, Vals ys its2 ∧ IsSq s.heap b its2.toArray) ∧ ∀ its2 : List Value, (Vals ys its2 ∧ IsSq s.heap b its2.toArray) → ∃ u v, ZS s.heap z TI TO i1 i2 a b its.toArray its2.toArray s.heap .none u v i i := by
  obtain ⟨its, rv, p, _⟩ := I.sq hxs
  obtain ⟨its2, rv2, p2, _⟩ := I.sq hys
  obtain ⟨hz, hTI, ⟨u, v, hTO⟩, h1, h2⟩ := st
  have off : ∀ {c : Addr} {zs : List V}, SeqV H c zs → c ∉ [z, TO, i1, i2] := fun {c zs} q hm => by
    obtain ⟨o, e⟩ := q.some
    rw [(hf c (by simp at hm ⊢; rcases hm with r | r | r | r <;> simp [r])).1] at e
    cases e
  exact ⟨its, rv, p, ⟨its2, rv2, p2⟩, fun its3 q3 => ⟨u, v, { toZipAt := D, n1 := off hxs, n2 := off hys }, hz, hTI, hTO, h1, h2, p, q3.2, fun _ _ _ e => e⟩⟩
theorem turn_zip2 {P : Program} {w : World} {K : PySem.W.Frag} {elts : List Expr} {tk0} {tpos : Pos} (a b z TI TO i1 i2 : Addr) (D : ZipAt z TI TO i1 i2) :
    Turn P w K (.Tuple elts tk0 tpos) (Itz2 a b) [z, TI, TO, i1, i2] z (fun i h => IsZip h z TI TO .none ∧ IsPair h TI (.ref i1) (.ref i2) ∧ (∃ u v, IsPair h TO u v) ∧ SqIt h i1 a i ∧ SqIt h i2 b i) where
  mem := by simp
  obj := fun i h st c hc => by
    obtain ⟨hz, hTI, ⟨u, v, hTO⟩, h1, h2⟩ := st
    obtain ⟨o1, e1, d1⟩ := h1.obj
    obtain ⟨o2, e2, d2⟩ := h2.obj
    simp only [List.mem_cons, List.not_mem_nil, or_false] at hc
    rcases hc with rfl | rfl | rfl | rfl | rfl
    · exact ⟨_, hz, fun v z => by cases z⟩
    · exact ⟨_, hTI, fun v z => by cases z⟩
    · exact ⟨_, hTO, fun v z => by cases z⟩
    · exact ⟨_, e1, fun v z => by rw [d1] at z; cases z⟩
    · exact ⟨_, e2, fun v z => by rw [d2] at z; cases z⟩
  keep := fun i h h' st k => by
    obtain ⟨hz, hTI, ⟨u, v, hTO⟩, h1, h2⟩ := st
    exact ⟨k z (by simp) _ hz, k TI (by simp) _ hTI, ⟨u, v, k TO (by simp) _ hTO⟩, h1.at fun o e => k i1 (by simp) o e, h2.at fun o e => k i2 (by simp) o e⟩
  item := by
    intro X hP hw hK hc i pins s σ H E I hf st ⟨xs, ys, x, y, hxs, hys, hx, hy⟩
    subst hP hw hK
    obtain ⟨its, rv, p, p', Z⟩ := zs_of I hf D st hxs hys
    obtain ⟨its2, rv2⟩ := p'
    obtain ⟨u0, v0, Z⟩ := Z its2 rv2
    refine next_zip2 (I.ok.hd hc) Z (fun u v h' hu hv Z' pr size => ?_) fun no => ?_
    · obtain ⟨u', hu', ru⟩ := rv.get hx
      obtain ⟨v', hv', rw'⟩ := rv2.1.get hy
      rw [show its.toArray[i]? = its[i]? from by simp] at hu
      rw [show its2.toArray[i]? = its2[i]? from by simp] at hv
      rw [hu'] at hu
      rw [hv'] at hv
      cases hu
      cases hv
      refine ⟨_, rfl, wpAny_letOwnedTupleGo_zip (s := { s with heap := h' }) Z'.zip fun h2 hz2 sb2 => ?_⟩
      have Z2 := Z'.self sb2.extBut hz2
      have new : z ≠ s.heap.objs.size := Nat.ne_of_lt (Heap.lt_size Z.zip)
      have pr2 : IsPair h2 s.heap.objs.size u v := sb2.extBut _ _ new.symm pr
      have far : ∀ c o, c ∉ [z, TI, TO, i1, i2] → s.heap.get? c = some o → h2.get? c = some o := fun c o hc e => Z2.far c o (fun q => hc (by simp at q ⊢; rcases q with r | r | r | r <;> simp [r])) e
      have I2 : Inv X pins σ (upd H s.heap.objs.size (.tup [x, y])) { s with heap := h2 } := I.turnedLaid (t' := s.toks) (ch := [z, TI, TO, i1, i2]) far hf (Nat.le_refl _) ⟨by show 2 ≤ sizeLine; decide, [u, v], .cons ru (.cons rw' .nil), ⟨_, pr2, rfl, _, rfl⟩⟩
      refine ⟨.ref s.heap.objs.size, _, I2, rfl, ⟨s.heap.objs.size, x, y, rfl, I.hok.fresh (Nat.le_refl _), rfl, fun xs' ys' q1 q2 => ?_⟩, ⟨Z2.zip, Z2.tin, ⟨u, v, Z2.tout⟩, Z2.one, Z2.two⟩, fun c hc => ?_⟩
      · rw [q1.inj hxs, q2.inj hys]; exact ⟨hx, hy⟩
      · have live : ∃ o, s.heap.get? c = some o := by
          simp only [List.mem_cons, List.not_mem_nil, or_false] at hc
          rcases hc with rfl | rfl | rfl | rfl | rfl
          · exact ⟨_, Z.zip⟩
          · exact ⟨_, Z.tin⟩
          · exact ⟨_, Z.tout⟩
          · obtain ⟨o, e, _⟩ := Z.one.obj; exact ⟨o, e⟩
          · obtain ⟨o, e, _⟩ := Z.two.obj; exact ⟨o, e⟩
        obtain ⟨o, e⟩ := live
        rw [upd_ne (Nat.ne_of_lt (Heap.lt_size e))]; exact (hf c hc).1
    · obtain ⟨u', hu', _⟩ := rv.get hx
      obtain ⟨v', hv', _⟩ := rv2.1.get hy
      rcases no with q | q
      · rw [show its.toArray[i]? = its[i]? from by simp, hu'] at q; cases q
      · rw [show its2.toArray[i]? = its2[i]? from by simp, hv'] at q; cases q
  done := by
    intro X hP hw hK hc i pins s σ H E I hf st ⟨xs, ys, hxs, hys, hd⟩
    subst hP hw hK
    obtain ⟨its, rv, p, p', Z⟩ := zs_of I hf D st hxs hys
    obtain ⟨its2, rv2⟩ := p'
    obtain ⟨u0, v0, Z⟩ := Z its2 rv2
    have e1 := rv.length
    have e2 := rv2.1.length
    refine next_zip2 (I.ok.hd hc) Z (fun u v h' hu hv _ _ _ => ?_) fun _ h' far => ⟨rfl, ?_⟩
    · obtain ⟨q1, _⟩ := Array.getElem?_eq_some_iff.mp hu
      obtain ⟨q2, _⟩ := Array.getElem?_eq_some_iff.mp hv
      rw [List.size_toArray] at q1 q2
      omega
    · exact I.turnedL (t' := s.toks) (ch := [z, TI, TO, i1, i2]) (fun c o hc e => far c o (fun q => hc (by simp at q ⊢; rcases q with r | r | r | r <;> simp [r])) e) hf
  self := fun _ _ _ _ _ st h => wpAny_pyIter_zip st.1 h
def iZip2 (ta : TA) : TI := fun σ H R => ta σ H fun vs H1 => ∃ a b xs ys, vs = [.ref a, .ref b] ∧ SeqV H1 a xs ∧ SeqV H1 b ys ∧ R (Itz2 a b) H1
theorem pi_zip2 {X : Cx} {elts : List Expr} {tk0 : _} {tpos : Pos} {a b : Expr} {ta : TA} {p pos : Pos} (hg : Gl X "zip") (hm : X.mg "zip" = none) (ha : PA X [a, b] ta) (hs : starEach [a, b] X.env = [(false, eval a X.env), (false, eval b X.env)] := by rfl) (hs2 : starEach [b] X.env = [(false, eval b X.env)] := by rfl) :
    PI X (.Tuple elts tk0 tpos) (.Call (.Name "zip" p) [a, b] [] pos) (iZip2 ta) := by
  intro pins s σ H R I h
  refine Call_ (ld_blt I hg hm boot_zip (PyProof.Rows.callWith_type1 (thn (ha pos pins s σ H _ I h) fun us s1 ⟨vs, H1, I1, r1, q1⟩ => ?_) (by rw [hs, hs2]) (by rw [hs2]; rfl)))
  obtain ⟨l1, l2, xs, ys, e, hx, hy, q⟩ := q1
  subst e
  obtain ⟨u1, u2, rfl, e1, e2⟩ := vals2 r1
  cases e1
  cases e2
  obtain ⟨its, rv, p1, nm1, k1⟩ := I1.sq hx
  obtain ⟨its2, rv2, p2, nm2, k2⟩ := I1.sq hy
  refine call_zip2 k1 k2 fun h' z TI TO i1 i2 D new a1 a2 a3 a4 a5 hk => ?_
  refine wpAny_pyIter_zip (s := { s1 with heap := h' }) a1 ?_
  exact ⟨z, [z, TI, TO, i1, i2], _, _, H1, rfl, I1.kept (t' := s1.toks) hk, turn_zip2 l1 l2 z TI TO i1 i2 D, ⟨a1, a2, ⟨_, _, a3⟩, a4, a5⟩, fun c hc => I1.fpOk (new c hc) (I1.hok.fresh (new c hc)), q⟩
theorem compB_zip2 {g : TG} {tt : TT} {te : TE} {Q : VK} {σ : St} {H : Hp} {a b : Addr} (xs ys : List V) (Pv : Nat → List V → St → Hp → Prop) (h0 : Pv 0 [] σ H) (hl : ∀ i acc σ H, i ≤ min xs.length ys.length → Pv i acc σ H → SeqV H a xs ∧ SeqV H b ys)
    (hs : ∀ i x y T acc σ H, xs[i]? = some x → ys[i]? = some y → Pv i acc σ H → H T = none → CStep g tt te (.ref T) acc σ (upd H T (.tup [x, y])) (Pv (i + 1)))
    (hd : ∀ acc σ H, Pv (min xs.length ys.length) acc σ H → ∀ p, H p = none → Q (.ref p) (upd H p (.lst acc))) : CompB (Itz2 a b) g tt te Q σ H := by
  refine compB_of (n := min xs.length ys.length) Pv h0 (fun i acc σ H hi p => ?_) fun acc σ H p => ?_
  · obtain ⟨e1, e2⟩ := hl i acc σ H (Nat.le_of_lt hi) p
    have l1 : i < xs.length := Nat.lt_of_lt_of_le hi (Nat.min_le_left _ _)
    have l2 : i < ys.length := Nat.lt_of_lt_of_le hi (Nat.min_le_right _ _)
    refine ⟨⟨xs, ys, xs[i], ys[i], e1, e2, by simp [l1], by simp [l2]⟩, fun z H' y => ?_⟩
    obtain ⟨T, x, y, rfl, hT, rfl, q⟩ := y
    obtain ⟨q1, q2⟩ := q xs ys e1 e2
    exact hs i x y T acc σ H q1 q2 p hT
  · obtain ⟨e1, e2⟩ := hl _ acc σ H (Nat.le_refl _) p
    exact ⟨⟨xs, ys, e1, e2, by omega⟩, hd acc σ H p⟩
theorem rNeD_bb {H : Hp} {Q : VK} {i j : Bool} : rNeD (.bl i) (.bl j) H Q = Q (.bl (!decide (i = j))) H := by
  have e : eqD (.bl i) (.bl j) = decide (i = j) := by cases i <;> cases j <;> rfl
  refine propext ⟨fun ⟨d, e', h1, h2, _, q⟩ => ?_, fun q => ⟨.bl i, .bl j, rfl, rfl, Nat.zero_le _, by rw [e]; exact q⟩⟩
  have d1 : d = .bl i := Rep.inj h1 (show Rep H (.bl i) (.bl i) from rfl)
  have d2 : e' = .bl j := Rep.inj h2 (show Rep H (.bl j) (.bl j) from rfl)
  rw [d1, d2, e] at q
  exact q
theorem rEqD_bb {H : Hp} {Q : VK} {i j : Bool} : rEqD (.bl i) (.bl j) H Q = Q (.bl (decide (i = j))) H := by
  have e : eqD (.bl i) (.bl j) = decide (i = j) := by cases i <;> cases j <;> rfl
  refine propext ⟨fun ⟨d, e', h1, h2, _, q⟩ => ?_, fun q => ⟨.bl i, .bl j, rfl, rfl, Nat.zero_le _, by rw [e]; exact q⟩⟩
  have d1 : d = .bl i := Rep.inj h1 (show Rep H (.bl i) (.bl i) from rfl)
  have d2 : e' = .bl j := Rep.inj h2 (show Rep H (.bl j) (.bl j) from rfl)
  rw [d1, d2, e] at q
  exact q
end L2

namespace L2
open PySem PySem.Spec PyProof.Rows
/-! ### an exception of an own class, as a thing: its class is told -/
/-- of such a class it is known how __class__ is found -/
def ExcCls (K : PySem.W.Frag) (D : Addr) : Bool :=
  (PySem.W.findIn K (.ref D) "__getattribute__" == some (some (.builtin "BaseException.__getattribute__"))) && (PySem.W.findIn K (.ref D) "__getattr__" == some none) && (PySem.W.mroIn K D (.type "BaseException") == some true) && (PySem.W.findIn K (.ref D) "__class__" == some (some (.builtin "object.__class__"))) && (PySem.W.specialIn K (.builtin "object.__class__") "__get__" == some (some (.builtin "getset_descriptor.__get__"))) &&
  (PySem.W.takesIn K (.builtin "object.__class__") == some true) && (PySem.W.mroIn K D (.type "object") == some true)
def ExcAt (e C : Addr) (h : Heap) : Prop := ∃ o, h.get? e = some o ∧ o.cls = .ref C
section
variable {K : PySem.W.Frag} {M : Model} {h : Heap} {e C : Addr}
theorem ExcAt.type (x : ExcAt e C h) : PySem.W.Looks M h (typeOf (.ref e)) (.ref C) := by
  obtain ⟨o, ho, hc⟩ := x
  exact hc ▸ (PySem.W.Looks.ld ho).andThen .now
end
section
variable {prog : Program} {w : World} {A : Around} {E : Value → Shared → Prop} {s : Shared} {K : PySem.W.Frag} {e C : Addr}
/-- what is known of the class, as it is looked up -/
structure ClsLooks (M : Model) (h : Heap) (e C : Addr) : Prop where
  ty : PySem.W.Looks M h (typeOf (.ref e)) (.ref C)
  ga : PySem.W.Looks M h (typeLookup (.ref C) "__getattribute__") (some (.builtin "BaseException.__getattribute__"))
  hook : PySem.W.Looks M h (typeLookup (.ref C) "__getattr__") none
  attr : PySem.W.Looks M h (Builtin.ObjectAttr.find (.ref e) (.ref C) "__class__") (.bind (.builtin "getset_descriptor.__get__") (.builtin "object.__class__"))
  sub : PySem.W.Looks M h (isSubtype (.ref C) (.type "object")) true
  base : PySem.W.Looks M h (isSubtype (.ref C) (.type "BaseException")) true
theorem ClsLooks.of {M : Model} {h : Heap} (kn : ExcCls K C = true) (X : K.In h) (x : ExcAt e C h) : ClsLooks M h e C := by
  simp only [ExcCls, Bool.and_eq_true, beq_iff_eq] at kn
  obtain ⟨⟨⟨⟨⟨⟨g1, g2⟩, g3⟩, k3⟩, k4⟩, k5⟩, k6⟩ := kn
  refine ⟨x.type, PySem.W.looks_findIn X g1, PySem.W.looks_findIn X g2, ?_, PySem.W.looks_mroIn X k6, PySem.W.looks_mroIn X g3⟩
  have data : PySem.W.Looks M h (Builtin.ObjectAttr.dataDescriptor? (some (.builtin "object.__class__")) (some (.builtin "getset_descriptor.__get__"))) (some (.builtin "getset_descriptor.__get__", .builtin "object.__class__")) := (PySem.W.looks_takesIn X k5).andThen .now
  exact (PySem.W.looks_findIn X k3).andThen ((PySem.W.looks_specialIn X k4).andThen (data.andThen (PySem.W.Looks.tag .now)))
/-- the getter of __class__ -/
theorem cls_got {R : Result → Shared → Prop} {tp : Value} (L : ClsLooks (model prog w) s.heap e C) (q : R (.ok (.ret (.ref C))) s) : codeAny (model prog w) A (.call (.builtin "getset_descriptor.__get__") ⟨[.builtin "object.__class__", .ref e, tp], []⟩) R s := by
  have ty := L.ty
  have sub := L.sub
  obtain ⟨h, g, d, t, os⟩ := s
  refine codeAny_call_builtin PySem.W.KF.slot_gs.plain PySem.W.KF.entry_gs (PySem.W.KF.slot_gs.check _ _ _ _ _ _ _ _ PySem.W.KF.type_class (PySem.W.KF.args_gs _ _ _) ?_)
  have got := PySem.W.dga_obj (.builtin "object.__class__") tp e
  have own := PySem.W.KF.owner_class
  refine wpAny_bind ?_
  rw [got]
  refine wpAny_pure ?_
  have inst : PySem.W.Looks (model prog w) h (isInstance (.ref e) (.type "object")) true := ty.andThen sub
  have chk : PySem.W.Looks (model prog w) h (Builtin.Getset_descriptor.descrCheckInstance (.builtin "object.__class__") (.ref e)) () := by
    unfold Builtin.Getset_descriptor.descrCheckInstance Builtin.Getset_descriptor.descrNameAndClass
    dsimp only
    rw [own]
    exact inst.andThen .now
  refine wpAny_bind (chk.at ?_)
  refine wpAny_pure ⟨Code.quiet_builtin _ (by decide +kernel), codeAny_builtin PySem.W.KF.entry_class ?_⟩
  have shown : PySem.W.Looks (model prog w) h (shownTypeOf (.ref e)) (.ref C) := ty.andThen .now
  exact wpAny_bind (shown.at (wpAny_pure q))
/-- its kind's own way to an attribute, asked for __class__ -/
theorem ga_called {R : Result → Shared → Prop} {tk : Tok} (L : ClsLooks (model prog w) s.heap e C) (q : R (.ok (.ret (.ref C))) s) : codeAny (model prog w) A (.call (.builtin "BaseException.__getattribute__") ⟨[.ref e, .str "__class__" tk], []⟩) R s := by
  have kind : builtinKind "BaseException.__getattribute__" = some .slot := by decide +kernel
  have split : splitId "BaseException.__getattribute__" = some ("BaseException", "__getattribute__") := by decide +kernel
  have few := PySem.F.args_bexc_ga (.ref e) (.str "__class__" tk)
  have ty := L.ty
  have attr := L.attr
  have inst : PySem.W.Looks (model prog w) s.heap (isInstance (.ref e) (.type "BaseException")) true := L.ty.andThen L.base
  have got := fun {A : Around} {R : Result → Shared → Prop} (q : R (.ok (.ret (.ref C))) s) => cls_got (A := A) (tp := .ref C) L q
  obtain ⟨h, g, d, t, os⟩ := s
  refine codeAny_call_builtin PySem.F.excAttr_ValueError.ga.plain PySem.F.entry_bexc_ga ?_
  simp only [checkBuiltinCall, kind, split]
  repeat (first | with_reducible refine PySem.W.Looks.at inst ?_ | with_reducible refine PySem.W.Looks.at ty ?_ | with_reducible refine PySem.W.Looks.at attr ?_ | wp_step)
  exact got (wpAny_pure q)
/-- isinstance asks it for its class where it is of none of them -/
theorem exc_class {Q : Option Value → Shared → Prop} (L : ClsLooks (model prog w) s.heap e C) (q : Q (some (.ref C)) { s with toks := s.toks + 1 }) : wpAny (model prog w) A (getAttr? (.ref e) "__class__") Q E s := by
  have ty := L.ty
  have ga := L.ga
  have hook := L.hook
  have bound := PySem.F.excAttr_ValueError.ga.bind (.ref e)
  have other : (Value.builtin "BaseException.__getattribute__" == Value.builtin "object.__getattribute__") = false := by decide +kernel
  have by_ : (onTheHeap (Value.ref C) && Value.builtin "BaseException.__getattribute__" == Value.builtin "object.__getattribute__") = false := by rw [other]; rfl
  have own : ClsLooks (model prog w) ({ s with toks := s.toks + 1 } : Shared).heap e C := ⟨L.ty, L.ga, L.hook, L.attr, L.sub, L.base⟩
  have called := fun {A : Around} {R : Result → Shared → Prop} (q : R (.ok (.ret (.ref C))) { s with toks := s.toks + 1 }) => ga_called (A := A) (tk := s.toks) own q
  obtain ⟨h, g, d, t, os⟩ := s
  unfold getAttr?
  unfold getAttrBy? getAttrBy
  refine wpAny_bind (wpAny_mkText (wpAny_bind (wpAny_attempt (wpAny_holding (wpAny_bind (ty.at (wpAny_bind (ga.at ?_))))))))
  dsimp only
  rw [by_, if_neg Bool.false_ne_true]
  unfold getAttrByItsOwn hookBefore
  unfold callGetattribute boundAndCalled
  rw [if_pos (show onTheHeap (Value.ref C) = true from rfl)]
  refine wpAny_bind (hook.at (wpAny_bind (wpAny_attempt (wpAny_holding ?_))))
  rw [if_neg (by decide)]
  refine wpAny_bind (wpAny_of_eq bound (wpAny_call (called ?_)))
  exact wpAny_pure (wpAny_pure q)
end
/-- a class that is caught, or asked for -/
def CatchCls (K : PySem.W.Frag) (D : Addr) : Bool := (PySem.W.kitCls K (.ref D) (.ref D)).isSome && (PySem.W.subIn K (.ref D) (.type "BaseException") == some true)
section
variable {K : PySem.W.Frag} {M : Model} {h : Heap} {e C D : Addr}
theorem catch_type (kn : CatchCls K D = true) (X : K.In h) : PySem.W.Looks M h (typeOf (.ref D)) (.type "type") ∧ PySem.W.Looks M h (isType (.ref D)) true ∧ PySem.W.Looks M h (isExcClass (.ref D)) true := by
  simp only [CatchCls, Bool.and_eq_true, beq_iff_eq] at kn
  obtain ⟨v, hv⟩ := Option.isSome_iff_exists.mp kn.1
  obtain ⟨a, b, _⟩ := PySem.W.kit_cls (M := M) X hv
  exact ⟨a, b, b.andThen (PySem.W.looks_subIn X kn.2)⟩
theorem catch_noTuple (kn : CatchCls K D = true) (X : K.In h) {tp : Addr} {o : Obj} (ht : h.get? tp = some o) (hc : o.cls = .type "tuple") : (Value.ref D == .ref tp) = false := by
  simp only [CatchCls, Bool.and_eq_true, beq_iff_eq] at kn
  obtain ⟨v, hv⟩ := Option.isSome_iff_exists.mp kn.1
  unfold PySem.W.kitCls at hv
  dsimp only at hv
  split at hv
  · rename_i z
    have z2 := (Bool.and_eq_true_iff.mp z).2
    cases q : (Value.ref D == .ref tp) with
    | false => rfl
    | true =>
    have same := Value.ref.inj (eq_of_beq q)
    subst same
    obtain ⟨o', ho', hc'⟩ := Option.map_eq_some_iff.mp (show (K.lookup D).map (·.cls) = some (.type "type") from beq_iff_eq.mp z2)
    have same := (X _ _ ho').symm.trans ht
    cases same
    rw [hc] at hc'
    exact absurd hc' (by decide)
  · cases hv
theorem kitx_exc (kn : ExcCls K C = true) (kc : CatchCls K C = true) : PySem.W.KitX K (.ref e) (.ref C) (ExcAt e C) where
  ty := fun _ _ _ p => p.type
  it := fun _ _ X _ => (catch_type kc X).2.1
  ne := fun h tp dd its n sl X ht => catch_noTuple kc X ht rfl
  ca := fun X p q => exc_class (ClsLooks.of kn X p) q
end
/-- except D, where the exception is of a class under D -/
theorem exc_matches {prog : Program} {w : World} {A : Around} {E : Value → Shared → Prop} {s : Shared} {K : PySem.W.Frag} {e C D : Addr} {Q : Bool → Shared → Prop} (kd : CatchCls K D = true) (ks : PySem.W.subIn K (.ref C) (.ref D) = some true) (X : K.In s.heap) (x : ExcAt e C s.heap) (q : Q true s) :
    wpAny (model prog w) A (excMatches (.ref e) (.ref D)) Q E s := by
  obtain ⟨t1, t2, t3⟩ := catch_type (M := model prog w) kd X
  have noTup : PySem.W.Looks (model prog w) s.heap (isInstance (.ref D) (.type "tuple")) false := t1.andThen (PySem.W.Looks.of_pure tc_notTuple)
  have ty := x.type (M := model prog w)
  have sub := PySem.W.looks_subIn (M := model prog w) X ks
  clear t1 t2
  obtain ⟨h, g, d, tk, os⟩ := s
  unfold excMatches
  repeat lk
  exact q
/-! ### isinstance of such an exception -/
def clsU : V → Value
  | .ty n => .type n
  | .ref D => .ref D
  | _ => .none
def isCls : V → Bool
  | .ty _ => true
  | .ref _ => true
  | _ => false
theorem clsU_rel : ∀ {c : V} {u : Value}, isCls c = true → RelV c u → u = clsU c
  | .ty _, _, _, r => by cases r; rfl
  | .ref _, _, _, r => by cases r; rfl
  | .non, _, h, _ | .bl _, _, h, _ | .int _, _, h, _ | .str _, _, h, _ | .byt _, _, h, _ | .flt _, _, h, _ => nomatch h
theorem clsU_vals : ∀ {cs : List V} {us : List Value}, (∀ c ∈ cs, isCls c = true) → Vals cs us → us = cs.map clsU
  | [], _, _, .nil => rfl
  | c :: cs, _, h, .cons r t => by rw [List.map_cons, clsU_rel (h c List.mem_cons_self) r, clsU_vals (fun c q => h c (List.mem_cons_of_mem _ q)) t]
/-- what isinstance says of an exception of the class at C -/
def saysCls (K : PySem.W.Frag) (H : Hp) (C : Addr) (c : V) (b : Bool) : Prop :=
  (isCls c = true ∧ PySem.W.kitOne K (.ref C) (clsU c) = some b) ∨ ∃ p cs, c = .ref p ∧ H p = some (.tup cs) ∧ (∀ c ∈ cs, isCls c = true) ∧ PySem.W.kitAny K (.ref C) (cs.map clsU) = some b
def rIsX (K : PySem.W.Frag) : List V → Hp → VK → Prop := fun xs H Q => ∃ e C c b, xs = [.ref e, c] ∧ H e = some (.ext (ExcAt e C)) ∧ ExcCls K C = true ∧ CatchCls K C = true ∧ saysCls K H C c b ∧ Q (.bl b) H
theorem call_isX {X : Cx} : CallR X (.builtin "isinstance") (rIsX X.K) := by
  rintro pins s σ H _ us Q I r ⟨e, C, c, b, rfl, he, kn, kc, says, q⟩
  cases r with
  | cons re r2 =>
    cases r2 with
    | cons rc r3 =>
      cases r3
      cases re
      have at_ : ExcAt e C s.heap := (show ObjOk X.prog X.w H s.heap e (.ext (ExcAt e C)) from I.hok e _ he).1
      have fin : ∀ tk, EP X pins σ Q (.bool b) { s with toks := tk } := fun tk => ⟨.bl b, H, I.tok tk, rfl, q⟩
      rcases says with ⟨ic, k⟩ | ⟨p, cs, rfl, hp, ic, k⟩
      · rw [clsU_rel ic rc]
        exact PySem.W.kia_one (kitx_exc kn kc) I.kIn at_ k (fun z => nomatch z) fin
      · cases rc
        obtain ⟨_, its, rv, o, ho, hc, n, hd⟩ := (show ObjOk X.prog X.w H s.heap p (.tup cs) from I.hok p _ hp)
        obtain ⟨ocls, odict, odata, oslots⟩ := o
        dsimp only at hc hd
        subst hc hd
        exact PySem.W.kia_tup (kitx_exc kn kc) I.kIn at_ ho (by rw [clsU_vals ic rv]; exact k) (fun z => nomatch z) fin
/-! ### try .. except D as n: .., where the suite returns -/
section
variable {X : Cx} {pins : List (Addr × Obj)} {σ : St} {H : Hp} {s : Shared}
/-- the names are let go of, all of them -/
theorem Inv.forget {h' : Heap} {t' : Nat} {m' : Str → Option Value} (I : Inv X pins σ H s) (hn : h'.Ns X.env.locals m') (sb : Heap.SameBut X.env.locals s.heap h') : Inv X pins (List.replicate X.N.length none) H { s with heap := h', toks := t' } := by
  have k : ∀ b o, b ≠ X.env.locals → s.heap.get? b = some o → h'.get? b = some o := fun b o hb e => sb.extBut b o hb e
  have old : ∀ b o, X.s₀.heap.get? b = some o → b ≠ X.env.locals := fun b o e => Nat.ne_of_lt (Nat.lt_of_lt_of_le (Heap.lt_size e) I.ok.above)
  have tracked : ∀ b u, H b = some u → b ≠ X.env.locals := fun b u e z => by rw [z, I.free] at e; cases e
  refine ⟨I.ok, I.os, I.bare, ⟨fun b o e n hb hx => k b o (old b o e) (I.base.keep b o e n hb hx), fun b o e n hb hx => ?_, I.base.free, fun b o e hx => ?_, I.base.tups, I.base.frzs, I.base.tbls⟩, ⟨m', hn, fun j y v e1 e2 => ?_⟩, fun x c e => ?_, I.free, I.freeC, fun p hp => ?_, fun a o e => ?_, by simp⟩
  · obtain ⟨sl, q⟩ := I.base.slot b o e n hb hx
    exact ⟨sl, k b _ (old b o e) q⟩
  · obtain ⟨o', q⟩ := I.base.there b o e hx
    exact ⟨o', k b o' (old b o e) q⟩
  · rw [List.getElem?_replicate] at e2
    split at e2 <;> cases e2
  · obtain ⟨v, o, ho, hd⟩ := I.cell x c e
    exact ⟨v, o, k c o (I.cne x c e) ho, hd⟩
  · obtain ⟨a, b, c, d⟩ := I.pin p hp
    exact ⟨k _ _ c a, b, c, d⟩
  · refine (I.hok a o e).stay (fun b u hb q => k b u ?_ q) (fun _ q => q) fun _ _ q => q
    rcases hb with z | z
    · rw [z]; exact tracked a o e
    · exact tracked b _ z
/-- an exception that nothing knew of before is known from now on -/
theorem Inv.know {e C : Addr} (I : Inv X pins σ H s) (x : ExcAt e C s.heap) (hH : H e = none) (h0 : X.s₀.heap.get? e = none) (hL : e ≠ X.env.locals) (hcell : ∀ n c, X.env.cells.lookup n = some c → c ≠ e) (hpin : ∀ p ∈ X.pn ++ pins, p.1 ≠ e) : Inv X pins σ (upd H e (.ext (ExcAt e C))) s := by
  have ne : ∀ b u, H b = some u → b ≠ e := fun b u q z => by rw [z, hH] at q; cases q
  have ne0 : ∀ b o, X.s₀.heap.get? b = some o → b ≠ e := fun b o q z => by rw [z, h0] at q; cases q
  refine ⟨I.ok, I.os, I.bare, ⟨fun b o q n hb hx => I.base.keep b o q n hb hx, fun b o q n hb hx => I.base.slot b o q n hb hx, fun b o q n hx => ?_, I.base.there, fun b xs q => ?_, fun b o u q => ?_, fun b ps q => ?_⟩, I.loc, I.cell, ?_, fun n c q => ?_, fun p hp => ?_, fun a o q => ?_, I.len⟩
  · rw [upd_ne (ne0 b o q)]; exact I.base.free b o q n hx
  · have z := I.base.tups b xs q
    rw [upd_ne (ne b _ z)]; exact z
  · have z := I.base.frzs b o u q
    rw [upd_ne (ne b _ z)]; exact z
  · obtain ⟨more, z⟩ := I.base.tbls b ps q
    exact ⟨more, by rw [upd_ne (ne b _ z)]; exact z⟩
  · rw [upd_ne (Ne.symm hL)]; exact I.free
  · rw [upd_ne (hcell n c q)]; exact I.freeC n c q
  · obtain ⟨a, b, c⟩ := I.pin p hp
    exact ⟨a, by rw [upd_ne (hpin p hp)]; exact b, c⟩
  · by_cases z : a = e
    · subst z
      rw [upd_same] at q
      cases q
      obtain ⟨ob, ho, _⟩ := id x
      refine ⟨x, ⟨ob, ho⟩, fun h1 h2 ⟨o1, e1, c1⟩ keep => ⟨o1, keep o1 e1, c1⟩⟩
    · rw [upd_ne z] at q
      exact (I.hok a o q).stay (fun _ _ _ w => w) (fun b w => by rw [upd_ne (ne b _ w)]; exact w) fun b xs w => by rw [upd_ne (ne b _ w)]; exact w
end
section
variable {X : Cx} {x n : Str} {D : Addr} {i : Nat} {np hp pos : Pos} {EX : XK} {b0 : Stmt} {suite body : List Stmt} {tb th : TS}
/-- what is wanted behind the suite: it returns -/
abbrev asEnds (D : Ends) : Ends := { nx := fun _ _ => False, rt := D.rt }
theorem catch_as {pins : List (Addr × Obj)} {σ : St} {H : Hp} {s s1 : Shared} {e : Value} {W : Ends} (hst : X.stack = X.env :: X.outer ∧ X.env.frame = some X.env.locals) (hex : X.ex = []) (hN : X.N.Nodup) (hi : X.N[i]? = some n) (hn : X.env.scope.names.lookup n = some .local) (hg : Gl X x) (hm : X.mg x = some (.ref D)) (kd : CatchCls X.K D = true)
    (hh : ∀ e, PSs (X.mk1 e) (b0 :: suite) th) (hEX : ∀ cls d H', EX cls d H' → ∃ C, cls = .ref C ∧ PySem.W.subIn X.K (.ref C) (.ref D) = some true) (I : Inv X pins σ H s) (cx : CX1 X.prog X.w X.stack H s EX e s1)
    (hx : ∀ C d H' ea, EX (.ref C) d H' → H' ea = none → th (asEnds W) (σ.set i (some (.ref ea))) (upd H' ea (.ext (ExcAt ea C)))) (hdb : (x == ("__debug__" : Str)) = false) :
    wpAny (model X.prog X.w) X.A (noteFrame e X.env) (fun _ s₂ => wpAny (model X.prog X.w) X.A (setFlight e none) (fun _ s₃ => wpAny (model X.prog X.w) X.A (handleBy e X.env [.ExceptHandler (some (.Name x np)) (some n) (b0 :: suite) hp]) (SP X pins W) X.xe s₃) X.xe s₂) X.xe s1 := by
  obtain ⟨ea, C, a0, B, H', rfl, hfl, un, hok, os, bare, cov, covH, hE⟩ := cx
  have ks : PySem.W.subIn X.K (.ref C) (.ref D) = some true := by
    obtain ⟨C2, e2, k2⟩ := hEX _ _ _ hE
    cases e2
    exact k2
  have hfr : X.A.frames = some (X.env :: X.outer) := by rw [← hst.1]; exact I.ok.frames
  rw [hst.1] at hfl
  have I6 : ∀ h6, Heap.FlyingW B (X.env :: X.outer) ea (.ref C) a0 h6 → s1.heap.UpToSlots h6 → Inv X pins σ H' { s1 with heap := h6 } := fun h6 fl sm => by
    have kB : ∀ b o, B.get? b = some o → s1.heap.get? b = some o ∧ h6.get? b = some o := fun b o z => ⟨hfl.1 b o z, fl.1 b o z⟩
    refine I.call' (s' := { s1 with heap := h6 }) (ch := []) os (un.fly kB cov fun b hb o z => slots_of hfl.2.2.1 sm b (by rw [← hst.1]; exact hb) o z) (hok.fly kB covH) bare fun b z => absurd z (by simp)
  -- the exception is new
  have nB : B.get? ea = none := hfl.2.1
  have nFr : ea ∉ frs X.stack := fun z => by
    rw [hst.1] at z
    obtain ⟨_, o, ho, nf⟩ := hfl.2.2.1.mem z
    obtain ⟨oe, vs, _, _, _, he, _, hd, _⟩ := hfl.2.2.2
    rw [ho] at he; cases he
    exact nf vs hd
  have nS : s.heap.get? ea = none := by
    cases q : s.heap.get? ea with
    | none => rfl
    | some o =>
      obtain ⟨o', z⟩ := cov ea o q nFr
      rw [nB] at z; cases z
  have nH : H' ea = none := by
    cases q : H' ea with
    | none => rfl
    | some u =>
      obtain ⟨o', z⟩ := covH ea u q
      rw [nB] at z; cases z
  have n0 : X.s₀.heap.get? ea = none := by
    cases q : X.s₀.heap.get? ea with
    | none => rfl
    | some o =>
      obtain ⟨o', z⟩ := I.base.there ea o q (by rw [hex]; simp)
      rw [nS] at z; cases z
  have nL : ea ≠ X.env.locals := fun z => by
    obtain ⟨m, ⟨o, _, _, ho, _⟩, _⟩ := I.loc
    rw [← z, nS] at ho; cases ho
  have nC : ∀ y c, X.env.cells.lookup y = some c → c ≠ ea := fun y c q z => by
    obtain ⟨v, o, ho, _⟩ := I.cell y c q
    rw [z, nS] at ho; cases ho
  have nP : ∀ p ∈ X.pn ++ pins, p.1 ≠ ea := fun p hp z => by
    have q := (I.pin p hp).1
    rw [z, nS] at q; cases q
  refine wpAny_looks_onW hfr hst.2 hfl fun h4 held4 sm4 => ?_
  refine wpAny_landsW held4 fun h5 fl5 sm5 => ?_
  have J5 := (I6 h5 fl5 (sm4.trans sm5)).mk1 (.ref ea)
  refine wpAny_handleBy_cons (codeAny_handlers_test (ld_glob J5 hg hm ?_ hdb)) (by intro z; cases z)
  refine exc_matches kd ks J5.kIn fl5.there (codeAny_handlers_suite_as ?_)
  refine lands_againW fl5 fun h6 fl6 sm6 => ?_
  have I7 := ((I6 h6 fl6 ((sm4.trans sm5).trans sm6)).know (C := C) fl6.there nH n0 nL nC nP)
  refine store_ok I7 hN hi (.inl hn) (v := .ref ea) rfl (fun s8 I8 => ?_) (.inr hn)
  refine wpAny_mono (hh (.ref ea) pins s8 _ _ (asEnds W) (I8.mk1 (.ref ea)) (hx C none H' ea hE nH)) (fun f s9 h9 => ?_) fun _ _ z => False.elim z
  have h9 := SP.unmk1 I.ok h9
  cases f with
  | next => obtain ⟨_, _, _, q⟩ := h9; exact q.elim
  | brk => obtain ⟨_, _, _, q⟩ := h9; exact q.elim
  | cont => obtain ⟨_, _, _, q⟩ := h9; exact q.elim
  | ret v =>
    obtain ⟨y, σ9, H9, I9, r9, q9⟩ := h9
    obtain ⟨m9, hn9, _⟩ := id I9.loc
    refine wpAny_nameGoes hn hn9 (by rw [I9.ok.kind]; rfl) fun h10 m10 hn10 sb10 => ?_
    exact ⟨y, _, H9, I9.forget hn10 sb10, r9, q9⟩
def tTryAs (tb : TS) (EX : XK) (i : Nat) (th : TS) : TS := fun W σ H => tb W σ H ∧ ∀ (C : Addr) (d : Option Addr) (σ' : St) (H' : Hp) (ea : Addr), EX (.ref C) d H' → H' ea = none → i < σ'.length → th (asEnds W) (σ'.set i (some (.ref ea))) (upd H' ea (.ext (ExcAt ea C)))
theorem ps_tryAs (EX : XK) (hst : X.stack = X.env :: X.outer ∧ X.env.frame = some X.env.locals) (hex : X.ex = []) (hN : X.N.Nodup) (hi : X.N[i]? = some n) (hn : X.env.scope.names.lookup n = some .local) (hg : Gl X x) (hm : X.mg x = some (.ref D)) (kd : CatchCls X.K D = true)
    (hEX : ∀ cls d H', EX cls d H' → ∃ C, cls = .ref C ∧ PySem.W.subIn X.K (.ref C) (.ref D) = some true) (hb : ∀ pn Ew, Passes (CX1 X.prog X.w) (X.tr pn Ew) EX → PSs (X.tr pn Ew) body tb) (hh : ∀ e, PSs (X.mk1 e) (b0 :: suite) th) (hdb : (x == ("__debug__" : Str)) = false := by decide) :
    PS X (.Try body [.ExceptHandler (some (.Name x np)) (some n) (b0 :: suite) hp] [] [] pos) (tTryAs tb EX i th) := by
  rintro pins s σ H W I ⟨hbd, hx⟩
  refine wpAny_Try_except ?_
  have hP : Passes (CX1 X.prog X.w) (X.tr (X.pn ++ pins) fun e s₁ => wpAny (model X.prog X.w) X.A (noteFrame e X.env) (fun _ s₂ => wpAny (model X.prog X.w) X.A (setFlight e none) (fun _ s₃ => wpAny (model X.prog X.w) X.A (handleBy e X.env [.ExceptHandler (some (.Name x np)) (some n) (b0 :: suite) hp]) (SP X pins W) X.xe s₃) X.xe s₂) X.xe s₁) EX := fun pl σ1 H1 s1 e s2 I1 cx =>
    catch_as hst hex hN hi hn hg hm kd hh hEX (I1.untr I.ok) cx (fun C d H' ea z nz => hx C d σ1 H' ea z nz (by have e := I1.len; have e : σ1.length = X.N.length := e; rw [e]; exact (List.getElem?_eq_some_iff.mp hi).1)) hdb
  refine wpAny_mono (hb _ _ hP [] s σ H W (I.tr _) hbd) (fun f s1 h1 => ?_) fun _ _ z => z
  have h2 := SP.untr I.ok h1
  cases f with
  | next => exact wpAny_execs_nil h2
  | _ => exact h2
end
end L2

namespace L2
open PySem PySem.Spec PyProof.Rows
/-! ### a def that is called within an except suite: nothing is said of what is handled -/
structure RoomH (k : Nat) (A : Around) : Prop where
  dp : A.depth + 3 * k + 5 < recursionLimit
  un : A.units + 16 * k + 200 < cLine
theorem RoomH.mono {j k : Nat} {A : Around} (r : RoomH k A) (h : j ≤ k) : RoomH j A := ⟨by have := r.dp; omega, by have := r.un; omega⟩
theorem RoomH.deeper {k : Nat} {A : Around} (r : RoomH (k + 1) A) (env : Env) : RoomH k (A.deeper env) :=
  ⟨by have := r.dp; show A.depth + 1 + 3 * k + 5 < _; omega, by have := r.un; show A.units + 3 + 16 * k + 200 < _; omega⟩
theorem RoomH.units {k : Nat} {A : Around} (r : RoomH k A) : A.units + 64 < cLine := by have := r.un; omega
theorem Room.handling {k : Nat} {A : Around} (r : Room k A) (e : Value) : RoomH k (A.mark (some e)) := ⟨r.dp, r.un⟩
theorem Room.h {k : Nat} {A : Around} (r : Room k A) : RoomH k A := ⟨r.dp, r.un⟩
structure FnOkH (P : Program) (w : World) (K : PySem.W.Frag) (mg : Str → Option Value) (base : Heap) (CX : CXT) (k : Nat) (f : Addr) (fd : FuncData) (ps : List Str) (sp : Sp) : Prop where
  len : ∀ vs H Q E, sp vs H Q E → vs.length = ps.length
  run : ∀ (A : Around) (outer : List Env) (s : Shared) (H : Hp) (args : Args) (us : List Value) (vs : List V) (Q : VK) (E : XK), RoomH k A → Env0 P w K mg base A outer s H → BindsTo s fd args (ps.zip us) → Vals vs us → sp vs H Q E →
    codeAny (model P w) A (.call (.ref f) args) (CR CX outer P w H s Q E) s
abbrev Cx.rough (X : Cx) : Cx := { X with calm := false }
theorem Inv.rough {X Y : Cx} {pins : List (Addr × Obj)} {σ : St} {H : Hp} {s : Shared} {A : Around} (I : Inv X pins σ H s) (e : Y = { X with calm := false, A := A, xe := Y.xe }) (hA : A.frames = X.A.frames) : Inv Y pins σ H s := by
  rw [e]
  have ok := I.ok
  exact ⟨⟨ok.mod, ok.kind, ok.glob, ok.blt, ok.above, ok.inj, ok.has, ok.cab, fun h => Bool.noConfusion h, hA.trans ok.frames, ok.stk, ok.exf, ok.bs, ok.bsz, ok.noex, ok.exfs, ok.funs, ok.frf⟩, I.os, I.bare, I.base, I.loc, I.cell, I.free, I.freeC, I.pin, I.hok, I.len⟩
section
variable {P : Program} {w : World} {K : PySem.W.Frag} {mg : Str → Option Value} {base : Heap}
/-- a def that raises nothing, called whatever is handled -/
theorem Fun.okH {x qual : Str} {st : Stmt} {f : Addr} {fd : FuncData} {N ps : List Str} {k : Nat} {sp : Sp} (F : Fun K x qual st f fd) (S : FnScope N ps (defScope st)) (len : ∀ vs H Q E, sp vs H Q E → vs.length = ps.length)
    (hbody : ∀ (cdv : Value) (A : Around) (outer : List Env) (s : Shared) (H : Hp) (vs : List V) (Q : VK) (E : XK), RoomH k (A.deeper (envOfC qual (defScope st) s.heap.objs.size f cdv)) → sp vs H Q E →
      ∃ t, PSs (cxOf CX0 P w K mg base N qual (defScope st) f cdv A outer s H E).rough.nox (defBody st) t ∧ t { nx := fun _ H' => Q .non H', rt := Q } (start N vs) H) : FnOkH P w K mg base CX0 (k + 1) f fd ps sp := by
  obtain ⟨oc, od, kV, doc, pm, an, cdv, ct, osl, rfl, lk, hcd⟩ := F.ex
  refine ⟨len, fun A outer s H args us vs Q E hr e0 hb r hsp => ?_⟩
  have hl := len _ _ _ _ hsp
  have KX : K.In s.heap := e0.mod.kin.keeps fun b o e => (e0.bs b o e).1
  have lim : s.heap.NoLimit := e0.mod.nolimit.keeps fun b o e => (e0.bs b o e).1
  have hkind : ∀ y ∈ ps.zip us, (defScope st).names.lookup y.1 = some .local ∨ ((defScope st).names.lookup y.1 = some .cell ∧ ((cellsFrom (s.heap.objs.size + 1) (defScope st).names []).lookup y.1).isSome = true) := fun ⟨n, v⟩ hy => by
    rcases S.par n (List.of_mem_zip hy).1 with q | q
    · exact .inl q
    · exact .inr ⟨q, PySem.W.cellsFrom_some _ _ _ (.inl q)⟩
  refine codeAny_call_function (by have := hr.dp; omega) (KX _ _ lk) rfl S.co S.gen rfl (PySem.W.codeRec_of KX hcd) (hb _ _ _ _ ?_)
  refine wpAny_newFunctionEnv_cells S.kind hkind fun env he s1 x => ?_
  subst he
  refine ⟨lim.keeps x.toInCall.keep, codeAny_func ?_⟩
  obtain ⟨t, ht, hq⟩ := hbody cdv A outer s H vs Q E (hr.deeper _) hsp
  have e0' : Env0 P w K mg base { A with handled := none } outer s H := ⟨e0.frames, e0.mod, e0.bs, e0.bsz, e0.funs, e0.frf, e0.hok, e0.bare⟩
  have I0 := inv_start (CX := CX0) (E := E) (qual := qual) (f := f) (cd := cdv) S rfl e0' hl r x
  have I : Inv (cxOf CX0 P w K mg base N qual (defScope st) f cdv A outer s H E).rough [] (start N vs) H s1 := I0.rough (A := A.deeper (envOfC qual (defScope st) s.heap.objs.size f cdv)) rfl rfl
  refine wpAny_mono (ht.nox [] s1 (start N vs) H _ I hq) (fun fl s' hs => ?_) fun e s' hs => hs
  have fin : ∀ {σ' : St} {H' : Hp} {v : V} {u : Value}, Inv (cxOf CX0 P w K mg base N qual (defScope st) f cdv A outer s H E).rough [] σ' H' s' → RelV v u → Q v H' → CE outer P w H s Q u s' :=
    fun {σ' H' v u} J rv q => ⟨v, H', J.os, J.bare, J.base, J.hok, rv, q⟩
  cases fl with
  | ret u =>
    obtain ⟨v, σ', H', J, rv, q⟩ := hs
    exact fin J rv q
  | next =>
    obtain ⟨σ', H', J, q⟩ := hs
    exact fin (v := V.non) (u := Value.none) J rfl q
  | brk =>
    obtain ⟨_, _, _, q⟩ := hs
    exact False.elim q
  | cont =>
    obtain ⟨_, _, _, q⟩ := hs
    exact False.elim q
end
def OwnH (P : Program) (w : World) (K : PySem.W.Frag) (mg : Str → Option Value) (base : Heap) (CX : CXT) (k : Nat) (x : Str) (sp : Sp) : Prop :=
  ∃ f fd ps, FnOkH P w K mg base CX k f fd ps sp ∧ mg x = some (.ref f) ∧ PySem.W.keepIn K (.ref f) = true ∧ Binds K fd ps []
section
variable {X : Cx} {k : Nat} {sp : Sp} {x : Str} {p pos : Pos} {e : Expr} {es : List Expr} {t : TA}
theorem pe_ownH (O : OwnH X.prog X.w X.K X.mg X.base CX0 k x sp) (hr : RoomH k X.A) (hg : Gl X x) (ha : PA X (e :: es) t) (hdb : (x == ("__debug__" : Str)) = false := by decide)
    (he : starEach (e :: es) X.env = (false, eval e X.env) :: starEach es X.env := by rfl) (hpl : (backTo pos (starEach es X.env)).any (·.1) = false := by rfl) : PE X (.Call (.Name x p) (e :: es) [] pos) (tCall sp [] E0 t) := by
  obtain ⟨f, fd, ps, F, hm, hk, hb⟩ := O
  intro pins s σ H Q I h
  refine wpAny_Call_Name_kw (ld_glob I hg hm ?_ hdb)
  refine PySem.W.callWith_K (h₀ := X.base) I.ok.mod.kin hk (thn (ha pos pins s σ H _ I h) fun us s1 ⟨vs, H1, I1, r, q⟩ => ⟨I1.kIn, ?_⟩) he hpl
  have hl : (us ++ []).length = ps.length := by rw [List.append_nil, ← r.length, ← F.len _ _ _ _ q, List.append_nil]
  refine wpAny_call (codeAny_mono (F.run X.A X.stack s1 H1 ⟨us, []⟩ (us ++ []) (vs ++ []) Q E0 hr I1.env0 (hb s1 us I1.kIn hl) (r.append .nil) q) fun r s' hq => ?_)
  cases r with
  | error e => exact hq.elim
  | ok fl =>
    cases fl with
    | ret u => exact I1.after hq
    | _ => exact False.elim hq
end
/-- f"..{n}", n an int: some text; that it is short enough is seen at the place -/
def tFs (tv : TE) : TE := fun σ H Q => tv σ H fun y H1 => ∃ n : Int, y = .int n ∧ (decide (n.natAbs.log2 < 1920) && decide ((Str.ofString (toString n)).length ≤ 1000)) = true ∧ ∀ t, Q (.str t) H1
theorem pe_fs {X : Cx} {x : Str} {v : Expr} {j : Nat} {cp p pos : Pos} {tv : TE} (hv : PE X v tv) (short : decide (x.length ≤ 1000) = true := by decide +kernel) : PE X (.JoinedStr [.Constant (.str x) j cp, .FormattedValue v (-1) none p] pos) (tFs tv) := by
  intro pins s σ H Q I h
  have big : 2000 ≤ sizeLine := by decide
  have e0 : (Str.empty ++ x).length = x.length := by rw [strLen_append]; exact Nat.zero_add _
  refine PyProof.Rows.JoinedStr_many (PyProof.Rows.joinParts_cons (thn (pe_str (x := x) pins s σ H (fun u H1 => u = .str x ∧ H1 = H) I ⟨rfl, rfl⟩) ?_))
  rintro u s1 ⟨_, H1, I1, r1, rfl, rfl⟩
  obtain ⟨t1, rfl⟩ := r1
  have hx : x.length ≤ 1000 := of_decide_eq_true short
  have body : wpAny (model X.prog X.w) X.A (joinParts (Str.empty ++ x) (evalEach [.FormattedValue v (-1) none p] X.env)) (EP X pins σ Q) X.xe s1 := by
    refine PyProof.Rows.joinParts_cons (PyProof.Rows.FormattedValue_plain (thn (hv pins s1 σ H1 _ I1 h) ?_))
    rintro u s2 ⟨_, H2, I2, r2, n, rfl, hn, q⟩
    obtain ⟨t2, rfl⟩ := r2
    simp only [Bool.and_eq_true, decide_eq_true_eq] at hn
    have fits : ((Str.empty ++ x) ++ Str.ofString (toString n)).length ≤ sizeLine := by rw [strLen_append, e0]; omega
    exact PyProof.Rows.formatField_int_small hn.1 ⟨fits, PyProof.Rows.joinParts_nil ⟨.str _, H2, I2.tok _, ⟨_, rfl⟩, q _⟩ fits⟩
  exact ⟨by rw [e0]; omega, body⟩
/-- isinstance of an exception, the fragment named from outside -/
theorem call_isXK {X : Cx} (K : PySem.W.Frag) (hK : X.K = K) : CallR X (.builtin "isinstance") (rIsX K) := by subst hK; exact call_isX
theorem rIsX_of {K : PySem.W.Frag} {H : Hp} {e C : Addr} {c : V} {b : Bool} {Q : VK} (he : H e = some (.ext (ExcAt e C))) (k : ExcCls K C = true ∧ CatchCls K C = true) (says : saysCls K H C c b) (q : Q (.bl b) H) : rIsX K [.ref e, c] H Q := ⟨e, C, c, b, rfl, he, k.1, k.2, says, q⟩
/-- {k: v} -/
theorem pe_disp1 {X : Cx} {k v : Expr} {pos : Pos} {tk tv : TE} (hk : PE X k tk) (hv : PE X v tv) : PE X (.Dict [some k] [v] pos) (tDisp [(tk, tv)]) := pe_disp (pps_cons hk hv pps_nil) rfl rfl (List.cons_ne_nil _ _) (show 1 ≤ 15 by decide)
/-- dicts among arguments: the rows of what they are split into, seen once -/
theorem star_dict {ks : List (Option Expr)} {vs es : List Expr} {p : Pos} {env : Env} : starEach (.Dict ks vs p :: es) env = (false, eval (.Dict ks vs p) env) :: starEach es env := by rw [starEach]; exact fun _ _ z => nomatch z
theorem pa_dnew {X : Cx} {es : List Expr} {p : Pos} {t : TA} (h : PA X es t) : PA X (.Dict [] [] p :: es) (tCons tDNewK t) := pa_cons pe_dnewK h star_dict
theorem pa_disp1 {X : Cx} {k v : Expr} {es : List Expr} {p : Pos} {tk tv : TE} {t : TA} (hk : PE X k tk) (hv : PE X v tv) (h : PA X es t) : PA X (.Dict [some k] [v] p :: es) (tCons (tDisp [(tk, tv)]) t) := pa_cons (pe_disp1 hk hv) h star_dict
theorem star_const {c : Const} {j : Nat} {es : List Expr} {p : Pos} {env : Env} : starEach (.Constant c j p :: es) env = (false, eval (.Constant c j p) env) :: starEach es env := by rw [starEach]; exact fun _ _ z => nomatch z
theorem pa_k {X : Cx} {c : Const} {j : Nat} {p : Pos} {es : List Expr} {te : TE} {t : TA} (h : PE X (.Constant c j p) te) (hr : PA X es t) : PA X (.Constant c j p :: es) (tCons te t) := pa_cons h hr star_const
end L2

namespace L2
open PySem
theorem ixV_ref {H : Hp} {p : Addr} {i : Int} : ixV H (.ref p) (.int i) = (match H p with
    | some (.lst xs) => atI xs i
    | some (.tup xs) => atI xs i
    | some (.frz _ (.lst xs)) => atI xs i
    | _ => none) := rfl
theorem tyL {K : PySem.W.Frag} {H : Hp} {p : Addr} {xs : List V} (h : H p = some (.lst xs)) : tyV K "list" (.ref p) H := .inl ⟨rfl, xs, SqL.of h⟩
def del (H : Hp) (p : Addr) : Hp := fun b => if b = p then none else H b
theorem del_some {H : Hp} {p b : Addr} {o : HO} (h : H b = some o) (n : b ≠ p) : del H p b = some o := by unfold del; rw [if_neg n]; exact h
theorem del_get {H : Hp} {p b : Addr} {o : HO} (h : del H p b = some o) : H b = some o ∧ b ≠ p := by
  unfold del at h
  by_cases e : b = p
  · rw [if_pos e] at h; cases h
  · rw [if_neg e] at h; exact ⟨h, e⟩
theorem del_same (H : Hp) (p : Addr) : Same (del H p) H := fun b o h => (del_get h).1
theorem rep_del {H : Hp} {p : Addr} {d : D} {v : V} (h : Rep (del H p) d v) : Rep H d v := h.same (del_same H p)
theorem reps_snoc {H : Hp} {ds : List D} {vs : List V} {d : D} {v : V} (h : Reps H ds vs) (k : Rep H d v) : Reps H (ds ++ [d]) (vs ++ [v]) := h.append ⟨v, [], rfl, k, rfl⟩
theorem But.del {p : Addr} {H H' : Hp} (b : But p H H') : Same (del H p) (del H' p) := fun c o h => by
  obtain ⟨h1, h2⟩ := del_get h
  exact del_some (b c o h2 h1) h2
end L2

namespace Lw
open PySem L2
local macro_rules | `(tactic| walk_at "rd") => `(tactic| simp only [L2.start, List.map_cons, List.map_nil, List.length_cons, List.length_nil, Nat.reduceAdd, Nat.reduceSub, Nat.zero_add, List.replicate_succ, List.replicate_zero, List.cons_append, List.nil_append, List.set_cons_zero, List.set_cons_succ,
  tSeq, tIfS, tTest, tOp, tVar, tC, rI0, tAsg, gName, gSub, rI, tRet, tNext, rSetL, rAddF, rRep, tCB, r1, tCons, tNil, tDrop, tAnd, tOr, tNot, tIf, tLst, tTup, tCall, tFor_eq, tComp_eq, tComp2_eq, iRng1, iRng2, iAny, iSq, iZip, iZip2, iEnum, tRaise, tTry, tTryAs, tFs, tDNewK, tDisp, tPairs, rLtL, rAll, rAny, rSum, tUn, rU, gTup, gCons, gNil, tBM, tBM0, rAppend, rPop, rPopAt, rExtend, tSl, tNoPart, tPart, rSlF, rSlU, rTupU, gSub, CStep, tYes, stC, List.map_cons, Option.bind_some, Option.bind_none, Option.join_some, tAndV, tOrV, tNotV,
  tNever, not_true_eq_false, not_false_eq_true, tChain, tTruth, rIs_eq, truV_bl, isV_ii, isV_ib, isV_ll, lenV_l, lenV_t, seqV_l, seqV_t, ixV_l, ixV_t, if_true, if_false, Bool.not_true, Bool.not_false, Bool.false_eq_true, Option.bind_eq_bind, Option.pure_def, rEqD_ii, rNeD_ii, rEqD_bb, rNeD_bb, isV_bb, rEqD_ss, rNeD_ss, Int.zero_add, catO_i, catO_s, addV, intV, atI_zero, atI_one, ixN_zero, ixN_one, upd_same, upd_upd, Option.map_some, Option.map_none,
  List.getElem?_cons_zero, List.getElem?_cons_succ, Option.some.injEq, V.int.injEq, V.ref.injEq, V.bl.injEq, V.str.injEq, HO.lst.injEq, List.cons.injEq, and_true, true_and, exists_eq_left, exists_eq_left', exists_eq_right, exists_eq_right', exists_and_left, exists_and_right, exists_const, reduceCtorEq, false_and, and_false, exists_false, or_false, false_or, decide_eq_true_eq, ite_eq_left_iff, Bool.not_eq_true, Bool.not_eq_eq_eq_not, decide_eq_false_iff_not, decide_true, decide_false, *])
def top (i : Nat) : Stmt := PySem.Challenge.pw_likefill_k46_counts_refused.main.body.getD i (.Pass ⟨0, 0, 0, 0⟩)
abbrev s_is_whole : Stmt := top 8
def N_is_whole : List Str := ["thing"]
def P_is_whole : List Str := ["thing"]
theorem sc_is_whole : FnScope N_is_whole P_is_whole (defScope s_is_whole) := ⟨rfl, rfl, rfl, by decide +kernel, rfl, by decide +kernel, by decide +kernel⟩
abbrev s_is_counts : Stmt := top 12
def N_is_counts : List Str := ["thing", "least"]
def P_is_counts : List Str := ["thing", "least"]
theorem sc_is_counts : FnScope N_is_counts P_is_counts (defScope s_is_counts) := ⟨rfl, rfl, rfl, by decide +kernel, rfl, by decide +kernel, by decide +kernel⟩
abbrev s_check_equation : Stmt := top 13
def N_check_equation : List Str := ["left", "right"]
def P_check_equation : List Str := ["left", "right"]
theorem sc_check_equation : FnScope N_check_equation P_check_equation (defScope s_check_equation) := ⟨rfl, rfl, rfl, by decide +kernel, rfl, by decide +kernel, by decide +kernel⟩
abbrev s_check_row : Stmt := top 14
def N_check_row : List Str := ["left", "right", "row"]
def P_check_row : List Str := ["left", "right", "row"]
theorem sc_check_row : FnScope N_check_row P_check_row (defScope s_check_row) := ⟨rfl, rfl, rfl, by decide +kernel, rfl, by decide +kernel, by decide +kernel⟩
abbrev s_holds : Stmt := top 18
def N_holds : List Str := ["left", "right", "row"]
def P_holds : List Str := ["left", "right", "row"]
theorem sc_holds : FnScope N_holds P_holds (defScope s_holds) := ⟨rfl, rfl, rfl, by decide +kernel, rfl, by decide +kernel, by decide +kernel⟩
abbrev s_least_rows : Stmt := top 19
def N_least_rows : List Str := ["left", "right", "sizes"]
def P_least_rows : List Str := ["left", "right"]
theorem sc_least_rows : FnScope N_least_rows P_least_rows (defScope s_least_rows) := ⟨rfl, rfl, rfl, by decide +kernel, rfl, by decide +kernel, by decide +kernel⟩
abbrev s_made_of : Stmt := top 20
def N_made_of : List Str := ["left", "right", "row", "rest", "counts", "least", "many"]
def P_made_of : List Str := ["left", "right", "row"]
theorem sc_made_of : FnScope N_made_of P_made_of (defScope s_made_of) := ⟨rfl, rfl, rfl, by decide +kernel, rfl, by decide +kernel, by decide +kernel⟩
abbrev s_shares : Stmt := top 26
def N_shares : List Str := ["left", "whole", "begun", "size", "last"]
def P_shares : List Str := ["left", "whole"]
theorem sc_shares : FnScope N_shares P_shares (defScope s_shares) := ⟨rfl, rfl, rfl, by decide +kernel, rfl, by decide +kernel, by decide +kernel⟩
abbrev s__law_at : Stmt := top 28
def N__law_at : List Str := ["_law_script", "_law_k"]
def P__law_at : List Str := ["_law_script", "_law_k"]
theorem sc__law_at : FnScope N__law_at P__law_at (defScope s__law_at) := ⟨rfl, rfl, rfl, by decide +kernel, rfl, by decide +kernel, by decide +kernel⟩
abbrev s__law_pot : Stmt := top 29
def N__law_pot : List Str := ["_law_cell"]
def P__law_pot : List Str := ["_law_cell"]
theorem sc__law_pot : FnScope N__law_pot P__law_pot (defScope s__law_pot) := ⟨rfl, rfl, rfl, by decide +kernel, rfl, by decide +kernel, by decide +kernel⟩
abbrev s__law_take : Stmt := top 30
def N__law_take : List Str := ["_law_pot_here", "_law_many", "_law_digit"]
def P__law_take : List Str := ["_law_pot_here", "_law_many"]
theorem sc__law_take : FnScope N__law_take P__law_take (defScope s__law_take) := ⟨rfl, rfl, rfl, by decide +kernel, rfl, by decide +kernel, by decide +kernel⟩
abbrev s__law_counts : Stmt := top 31
def N__law_counts : List Str := ["_law_pot_here"]
def P__law_counts : List Str := ["_law_pot_here"]
theorem sc__law_counts : FnScope N__law_counts P__law_counts (defScope s__law_counts) := ⟨rfl, rfl, rfl, by decide +kernel, rfl, by decide +kernel, by decide +kernel⟩
abbrev s__law_thing : Stmt := top 32
def N__law_thing : List Str := ["_law_pot_here"]
def P__law_thing : List Str := ["_law_pot_here"]
theorem sc__law_thing : FnScope N__law_thing P__law_thing (defScope s__law_thing) := ⟨rfl, rfl, rfl, by decide +kernel, rfl, by decide +kernel, by decide +kernel⟩
abbrev s__law_bad_count : Stmt := top 33
def N__law_bad_count : List Str := ["_law_pot_here"]
def P__law_bad_count : List Str := ["_law_pot_here"]
theorem sc__law_bad_count : FnScope N__law_bad_count P__law_bad_count (defScope s__law_bad_count) := ⟨rfl, rfl, rfl, by decide +kernel, rfl, by decide +kernel, by decide +kernel⟩
abbrev s__law_put : Stmt := top 34
def N__law_put : List Str := ["_law_pot_here", "_law_row", "_law_thing_here", "_law_place"]
def P__law_put : List Str := ["_law_pot_here", "_law_row", "_law_thing_here"]
theorem sc__law_put : FnScope N__law_put P__law_put (defScope s__law_put) := ⟨rfl, rfl, rfl, by decide +kernel, rfl, by decide +kernel, by decide +kernel⟩
abbrev s__law_bad_counts : Stmt := top 35
def N__law_bad_counts : List Str := ["_law_pot_here", "_law_way"]
def P__law_bad_counts : List Str := ["_law_pot_here"]
theorem sc__law_bad_counts : FnScope N__law_bad_counts P__law_bad_counts (defScope s__law_bad_counts) := ⟨rfl, rfl, rfl, by decide +kernel, rfl, by decide +kernel, by decide +kernel⟩
abbrev s__law_bad_sides : Stmt := top 36
def N__law_bad_sides : List Str := ["_law_pot_here", "_law_way"]
def P__law_bad_sides : List Str := ["_law_pot_here"]
theorem sc__law_bad_sides : FnScope N__law_bad_sides P__law_bad_sides (defScope s__law_bad_sides) := ⟨rfl, rfl, rfl, by decide +kernel, rfl, by decide +kernel, by decide +kernel⟩
abbrev s__law_bad_row : Stmt := top 37
def N__law_bad_row : List Str := ["_law_pot_here", "_law_size", "_law_way", "_law_bad", "_law_place"]
def P__law_bad_row : List Str := ["_law_pot_here", "_law_size"]
theorem sc__law_bad_row : FnScope N__law_bad_row P__law_bad_row (defScope s__law_bad_row) := ⟨rfl, rfl, rfl, by decide +kernel, rfl, by decide +kernel, by decide +kernel⟩
abbrev s__law_kinds : Stmt := top 38
def N__law_kinds : List Str := ["_law_error", "_law_some"]
def P__law_kinds : List Str := ["_law_error"]
theorem sc__law_kinds : FnScope N__law_kinds P__law_kinds (defScope s__law_kinds) := ⟨rfl, rfl, rfl, by decide +kernel, rfl, by decide +kernel, by decide +kernel⟩
abbrev s__law_of_rows : Stmt := top 39
def N__law_of_rows : List Str := ["_law_way", "_law_left", "_law_right", "_law_row", "e"]
def P__law_of_rows : List Str := ["_law_way", "_law_left", "_law_right", "_law_row"]
theorem sc__law_of_rows : FnScope N__law_of_rows P__law_of_rows (defScope s__law_of_rows) := ⟨rfl, rfl, rfl, by decide +kernel, rfl, by decide +kernel, by decide +kernel⟩
abbrev s__law_of_shares : Stmt := top 40
def N__law_of_shares : List Str := ["_law_left", "_law_whole", "e"]
def P__law_of_shares : List Str := ["_law_left", "_law_whole"]
theorem sc__law_of_shares : FnScope N__law_of_shares P__law_of_shares (defScope s__law_of_shares) := ⟨rfl, rfl, rfl, by decide +kernel, rfl, by decide +kernel, by decide +kernel⟩
abbrev s_law : Stmt := top 41
def N_law : List Str := ["_law_script", "_law_pot_here", "_law_no_counts", "_law_no_row", "_law_left", "_law_right", "_law_way", "_law_row", "_law_bad"]
def P_law : List Str := ["_law_script"]
theorem sc_law : FnScope N_law P_law (defScope s_law) := ⟨rfl, rfl, rfl, by decide +kernel, rfl, by decide +kernel, by decide +kernel⟩
structure Txt (mg : Str → Option Value) : Prop where
  n_len : mg "len" = none
  n_range : mg "range" = none
  n_int : mg "int" = none
  n_bool : mg "bool" = none
  n_list : mg "list" = none
  n_tuple : mg "tuple" = none
  n_isinstance : mg "isinstance" = none
  n_all : mg "all" = none
  n_max : mg "max" = none
  n_ValueError : mg "ValueError" = none
  c_MOST_COUNTS : ∃ u, mg "MOST_COUNTS" = some u ∧ RelV (.int 4) u
  c_GREATEST_COUNT : ∃ u, mg "GREATEST_COUNT" = some u ∧ RelV (.int 4) u
  c_GREATEST_WHOLE : ∃ u, mg "GREATEST_WHOLE" = some u ∧ RelV (.int 24) u
section
variable {P : Program} {w : World} {K : PySem.W.Frag} {mg : Str → Option Value} {base : Heap}
def spAt (K : PySem.W.Frag) : Sp := fun vs H Q _ => ∃ (a : Addr) (k : Int) (ns : List Int), vs = [.ref a, .int k] ∧ SqL K H a (ns.map V.int) ∧ 0 ≤ k ∧ k ≤ 1000 ∧ ∀ n, Q (.int n) H
theorem ok_at {f : Addr} {fd : FuncData} (F : Fun K "_law_at" "_law_at" s__law_at f fd) (T : Txt mg) : FnOk P w K mg base CX0 1 f fd P__law_at (spAt K) := by
  refine F.ok sc__law_at (fun vs H Q E h => ?_) (fun cdv A outer s H vs Q E hr h => ?_)
  · obtain ⟨a, k, ns, rfl, _⟩ := h
    rfl
  · obtain ⟨a, k, ns, rfl, ha, h0, h1, q⟩ := h
    have hu := hr.units
    refine ⟨_, (pss_cons (ps_if (pt_cmpR (op_LtF hu) (pv 1) (pe_callB call_len_seq rfl T.n_len rfl (pa_cons (pv 0) pa_nil)) (nomark _)) (pss_one (ps_ret (pe_ix ix_seq (pv 0) (pv 1) (fun _ _ => rfl)))) pss_nil)
      (pss_one (ps_ret pe_int))), ?_⟩
    refine ⟨_, rfl, _, rfl, a, _, rfl, .inl ha, .inl (.inl ⟨_, _, rfl, rfl, _, rfl, ?_⟩)⟩
    refine ite2 (fun c => ?_) (fun c => ?_)
    · have c : k < ((ns.map V.int).length : Int) := by simpa using c
      have hl : k.toNat < ns.length := by rw [List.length_map] at c; omega
      refine ⟨_, rfl, _, rfl, .inl ⟨a, _, k, .int (ns[k.toNat]), rfl, rfl, ha, ?_, q _⟩⟩
      rw [atI_lt h0 c]
      simp [hl]
    · exact q 0
def spPot : Sp := fun vs H Q _ => ∃ n : Int, vs = [.int n] ∧ ∀ p x y, H p = none → Q (.ref p) (upd H p (.lst [.int x, .int y]))
theorem ok_pot {f : Addr} {fd : FuncData} (F : Fun K "_law_pot" "_law_pot" s__law_pot f fd) (T : Txt mg) : FnOk P w K mg base CX0 1 f fd P__law_pot spPot := by
  refine F.ok sc__law_pot (fun vs H Q E h => ?_) (fun cdv A outer s H vs Q E hr h => ?_)
  · obtain ⟨n, rfl, _⟩ := h
    rfl
  · obtain ⟨n, rfl, q⟩ := h
    refine ⟨_, (pss_one (ps_ret (pe_lst (pa_cons (pe_callB (call_maxF rfl) rfl T.n_max rfl (pa_cons pe_int (pa_cons (pe_op op_sub (pv 0) (pe_op op_pow pe_int pe_int)) pa_nil))) (pa_cons (pe_op op_mod (pe_op op_AddF (pe_op (op_mul.or op_rep) (pe_op op_mod (pv 0) pe_int) pe_int) pe_int) pe_int) pa_nil))))), ?_⟩
    simp only [N__law_pot]
    clear F T hr
    walk_at "rd"
    have e1 : CPow 10 18 := ⟨by decide, by decide, by decide⟩
    have e3 : ∀ i : Int, CMul i 48271 := fun i => .inr (by decide)
    exact ⟨e1, _, _, ⟨rfl, rfl⟩, by decide, e3 _, by decide, by decide, fun p hp => q p _ _ hp⟩
def IsPot (H : Hp) (p : Addr) : Prop := ∃ a b : Int, H p = some (.lst [.int a, .int b])
def spTake : Sp := fun vs H Q _ => ∃ p n, vs = [.ref p, .int n] ∧ IsPot H p ∧ 0 < n ∧ n < 1073741824 ∧ ∀ d a b, 0 ≤ d → d < n → Q (.int d) (upd H p (.lst [.int a, .int b]))
theorem ok_take {f : Addr} {fd : FuncData} (F : Fun K "_law_take" "_law_take" s__law_take f fd) (T : Txt mg) : FnOk P w K mg base CX0 1 f fd P__law_take spTake := by
  refine F.ok sc__law_take (fun vs H Q E h => ?_) (fun cdv A outer s H vs Q E hr h => ?_)
  · obtain ⟨p, n, rfl, _⟩ := h
    rfl
  · obtain ⟨p, n, rfl, ⟨a, b, hp⟩, h0, h1, k⟩ := h
    refine ⟨_, (pss_cons (ps_if (pt_cmpR op_gt (pe_ix ix_F (pv 0) pe_int (fun _ _ => rfl)) pe_int (nomark _)) (pss_cons (ps_set (i := 2) sc__law_take.nd rfl (Or.inl rfl) (pe_op op_mod (pe_ix ix_F (pv 0) pe_int (fun _ _ => rfl)) (pv 1)))
      (pss_cons (ps_asg (pe_op op_fdiv (pe_ix ix_F (pv 0) pe_int (fun _ _ => rfl)) (pv 1)) (pg_sub (pv 0) pe_int set_list))
      (pss_one (ps_ret (pv 2))))) pss_nil)
      (pss_cons (ps_asg (pe_op op_mod (pe_op op_AddF (pe_op (op_mul.or op_rep) (pe_ix ix_F (pv 0) pe_int (fun _ _ => rfl)) pe_int) pe_int) pe_int) (pg_sub (pv 0) pe_int set_list))
      (pss_one (ps_ret (pe_op op_mod (pe_op op_fdiv (pe_op op_mod (pe_op (op_mul.or op_rep) (pe_ix ix_F (pv 0) pe_int (fun _ _ => rfl)) (pe_ix ix_F (pv 0) pe_int (fun _ _ => rfl))) pe_int) pe_int) (pv 1)))))), ?_⟩
    simp only [N__law_take]
    clear hr F T
    walk_at "rd"
    split
    · exact ⟨⟨h0, h1⟩, k _ _ _ (Int.emod_nonneg _ (by omega)) (Int.emod_lt_of_pos _ h0)⟩
    · have e3 : ∀ i : Int, CMul i 39373 := fun i => .inr (by decide)
      have b1 := Int.emod_nonneg (b * 39373 + 7919) (b := 2147483629) (by decide)
      have b2 := Int.emod_lt_of_pos (b * 39373 + 7919) (b := 2147483629) (by decide)
      have e4 : CMul ((b * 39373 + 7919) % 2147483629) ((b * 39373 + 7919) % 2147483629) := .inl ⟨by omega, by omega⟩
      exact ⟨e3 _, by decide, e4, by decide, ⟨by decide, by decide⟩, k _ _ _ (Int.emod_nonneg _ (by omega)) (Int.emod_lt_of_pos _ h0)⟩
/-- what is known of a value: its type -/
def Known (H : Hp) (x : V) : Prop := ∃ t, tyN H x = some t
def wholeV : V → Bool
  | .int _ => true
  | _ => false
theorem isV_int {H : Hp} {x : V} (h : Known H x) : ∃ b c : Bool, isV H x (.ty "int") = some b ∧ isV H x (.ty "bool") = some c ∧ (b && !c) = wholeV x := by
  obtain ⟨t, e⟩ := h
  have say : ∀ n : String, okT n = true → isV H x (.ty n) = some (subT t n) := fun n hn => by
    unfold isV
    rw [e]
    simp [clsV, hn]
  refine ⟨_, _, say "int" rfl, say "bool" rfl, ?_⟩
  cases x with
  | ref p =>
    unfold tyN at e
    dsimp only at e
    split at e <;> cases e <;> rfl
  | _ => cases e <;> rfl
def spWhole : Sp := fun vs H Q _ => ∃ x : V, vs = [x] ∧ Known H x ∧ Q (.bl (wholeV x)) H
theorem ok_whole {f : Addr} {fd : FuncData} (F : Fun K "is_whole" "is_whole" s_is_whole f fd) (T : Txt mg) : FnOk P w K mg base CX0 1 f fd P_is_whole spWhole := by
  refine F.ok sc_is_whole (fun vs H Q E h => ?_) (fun cdv A outer s H vs Q E hr h => ?_)
  · obtain ⟨x, rfl, _⟩ := h
    rfl
  · obtain ⟨x, rfl, kn, q⟩ := h
    obtain ⟨b, c, e1, e2, e3⟩ := isV_int kn
    refine ⟨_, (pss_one (ps_ret (pe_and (pe_callB call_isinstanceF rfl T.n_isinstance rfl (pa_cons (pv 0) (pa_cons (pe_bltn (v := V.ty "int") rfl T.n_int rfl rfl) pa_nil))) (pe_one (pe_not (pe_callB call_isinstanceF rfl T.n_isinstance rfl (pa_cons (pv 0) (pa_cons (pe_bltn (v := V.ty "bool") rfl T.n_bool rfl rfl) pa_nil)))))))), ?_⟩
    simp only [N_is_whole]
    clear hr F T
    rw [← e3] at q
    clear e3
    walk_at "rd"
    cases b <;> simpa using q
/-- a thing that is looked over: a list or a tuple of these, or something else -/
inductive Thing (H : Hp) : V → Option (List V) → Prop
  | seq {a : Addr} {xs : List V} (h : SeqV H a xs) (k : ∀ x ∈ xs, Known H x) (l : xs.length ≤ 1000) : Thing H (.ref a) (some xs)
  | other {v : V} {t : String} (h : tyN H v = some t) (n1 : t ≠ "list") (n2 : t ≠ "tuple") : Thing H v none
def good : V → Bool
  | .int n => decide (1 ≤ n) && decide (n ≤ 4)
  | _ => false
theorem good_int (n : Int) : good (.int n) = (decide (1 ≤ n) && decide (n ≤ 4)) := rfl
def countsR (k : Int) : Option (List V) → Bool
  | none => false
  | some xs => decide (k ≤ xs.length) && decide (xs.length ≤ 4) && xs.all good
theorem tyN_same {H H' : Hp} {v : V} {t : String} (s : Same H H') (h : tyN H v = some t) : tyN H' v = some t := by
  cases v with
  | ref p =>
    unfold tyN at h ⊢
    dsimp only at h ⊢
    split at h <;> first
      | (rename_i xs e; rw [s _ _ e]; exact h)
      | cases h
  | _ => exact h
theorem Known.same {H H' : Hp} {v : V} (s : Same H H') (h : Known H v) : Known H' v := by obtain ⟨t, e⟩ := h; exact ⟨t, tyN_same s e⟩
theorem Thing.same {H H' : Hp} {v : V} {r : Option (List V)} (s : Same H H') (h : Thing H v r) : Thing H' v r := by
  cases h with
  | seq h k l => exact .seq (SeqV.same h s) (fun x hx => (k x hx).same s) l
  | other h n1 n2 => exact .other (tyN_same s h) n1 n2
theorem isV_lt {H : Hp} {v : V} {t : String} {p : Addr} (h : tyN H v = some t) (hp : H p = some (.tup [.ty "list", .ty "tuple"])) : isV H v (.ref p) = some (decide (t = "list") || decide (t = "tuple")) := by
  unfold isV
  rw [h]
  have e : clsV H (.ref p) = some ["list", "tuple"] := by unfold clsV; dsimp only; rw [hp]; rfl
  rw [e]
  rcases tyN_in h with rfl | rfl | rfl | rfl | rfl | rfl | rfl <;> rfl
theorem seq_ty {H : Hp} {a : Addr} {xs : List V} (h : SeqV H a xs) : ∃ t, tyN H (.ref a) = some t ∧ (t = "list" ∨ t = "tuple") := by
  rcases h with e | e
  · exact ⟨"list", by unfold tyN; dsimp only; rw [e], .inl rfl⟩
  · exact ⟨"tuple", by unfold tyN; dsimp only; rw [e], .inr rfl⟩
theorem seq_isV {H : Hp} {a p : Addr} {xs : List V} (h : SeqV H a xs) (hp : H p = some (.tup [.ty "list", .ty "tuple"])) : isV H (.ref a) (.ref p) = some true := by
  obtain ⟨t, e, z⟩ := seq_ty h
  rw [isV_lt e hp]
  rcases z with rfl | rfl <;> rfl
theorem seq_len {H : Hp} {a : Addr} {xs : List V} (h : SeqV H a xs) : lenV H (.ref a) = some xs.length := by
  rcases h with e | e
  · rw [lenV_l e]
  · rw [lenV_t e]
theorem countsR_some (k : Int) (xs : List V) : countsR k (some xs) = (decide (k ≤ xs.length) && decide (xs.length ≤ 4) && xs.all good) := rfl
def spCounts : Sp := fun vs H Q _ => ∃ (v : V) (r : Option (List V)) (k : Int), vs = [v, .int k] ∧ Thing H v r ∧ ∀ H', Same H H' → Q (.bl (countsR k r)) H'
def AllG (f : V → Bool) (xs : List V) (H1 : Hp) (i : Nat) (acc : List V) (σ : St) (H' : Hp) : Prop := H' = H1 ∧ acc = ((xs.take i).map f).map V.bl ∧ ∃ o, σ = [o]
theorem take_snoc {xs : List V} {i : Nat} {x : V} (f : V → Bool) (h : xs[i]? = some x) : ((xs.take i).map f).map V.bl ++ [V.bl (f x)] = ((xs.take (i + 1)).map f).map V.bl := by
  rw [List.take_add_one, h, List.map_append, List.map_append]
  rfl
theorem all_take (f : V → Bool) (xs : List V) : ((xs.take xs.length).map f).all id = xs.all f := by rw [List.take_length, List.all_map]; rfl
theorem ok_counts {f : Addr} {fd : FuncData} (F : Fun K "is_counts" "is_counts" s_is_counts f fd) (T : Txt mg) (O_is_whole : Own P w K mg base CX0 1 "is_whole" spWhole) : FnOk P w K mg base CX0 2 f fd P_is_counts spCounts := by
  refine F.ok sc_is_counts (fun vs H Q E h => ?_) (fun cdv A outer s H vs Q E hr h => ?_)
  · obtain ⟨v, r, k, rfl, _⟩ := h
    rfl
  · obtain ⟨v, r, k, rfl, th, q⟩ := h
    refine ⟨_, (pss_cons (ps_if (PW.pt (pw_or (pt_not (pt_truthK K rfl (pe_callB call_isinstanceF rfl T.n_isinstance rfl (pa_cons (pv 0) (pa_cons (pe_tup (pa_cons (pe_bltn (v := V.ty "list") rfl T.n_list rfl rfl) (pa_cons (pe_bltn (v := V.ty "tuple") rfl T.n_tuple rfl rfl) pa_nil))) pa_nil))) (fun _ => rfl))) (pw_or1 (pt_not (pt_chain op_le op_le (pv 1) (pe_callB call_lenF rfl T.n_len rfl (pa_cons (pv 0) pa_nil)) (pe_globC T.c_MOST_COUNTS rfl)))))) (pss_one (ps_ret pe_bl)) pss_nil)
      (pss_one (ps_ret (pe_callB (call_allF rfl) rfl T.n_all rfl (pa_cons (pe_comp rfl (CompSc.by (N := N_is_counts) (names := (defScope s_is_counts).names) (N' := ["count"]) (src := [none]) (by decide +kernel) rfl rfl) (pi_sqK K rfl (pv 0)) (fun _ _ _ _ => (pg_name (i := 0) (show List.Nodup (["count"] : List Str) by decide +kernel) rfl (Or.inl rfl))) (fun _ _ _ _ => pts_nil) (fun _ _ _ _ => (pe_and (pe_own O_is_whole (hr.mono (by decide)) pass0 rfl (pa_cons (pv 0) pa_nil)) (pe_one (pe_chain op_le op_le pe_int (pv 0) (pe_globC T.c_GREATEST_COUNT rfl)))))) pa_nil))))), ?_⟩
    simp only [N_is_counts]
    clear hr F T O_is_whole
    have hq := q
    clear q
    walk_at "rd"
    refine ⟨by decide, fun p hp => ?_⟩
    have sm : Same H (upd H p (.tup [.ty "list", .ty "tuple"])) := Same.upd hp
    have th1 := th.same sm
    have hp1 : (upd H p (.tup [.ty "list", .ty "tuple"])) p = some (.tup [.ty "list", .ty "tuple"]) := upd_same
    generalize upd H p (.tup [.ty "list", .ty "tuple"]) = H1 at sm th1 hp1 ⊢
    clear th hp
    cases th1 with
    | other e n1 n2 =>
      have isv := isV_lt e hp1
      rw [decide_eq_false n1, decide_eq_false n2, Bool.or_self] at isv
      have q1 : Q (.bl false) H1 := hq H1 sm
      clear hq e sm hp1
      walk_at "rd"
    | @seq a xs sq kn hl =>
      have isv := seq_isV sq hp1
      have len := seq_len sq
      clear hp1
      have keep := And.intro hq (And.intro sm (And.intro kn (And.intro sq hl)))
      clear hq sm kn sq hl
      walk_at "rd"
      obtain ⟨hq, sm, kn, sq, hl⟩ := keep
      by_cases c1 : k ≤ (xs.length : Int)
      · rw [if_pos c1]
        by_cases c2 : (xs.length : Int) ≤ 4
        · rw [if_neg (not_not_intro c2)]
          refine ⟨xs, sq, fun J hJ => compB_sq hJ (AllG good xs H1) ⟨rfl, by simp, _, rfl⟩ (fun i acc σ H' _ h => by rw [h.1]) ?_ ?_⟩
          · rintro i x acc σ H' hx ⟨rfl, rfl, o, rfl⟩
            have kx := kn x (List.mem_of_getElem? hx)
            have hi : i < xs.length := (List.getElem?_eq_some_iff.mp hx).1
            have small : (List.map V.bl (List.map good (List.take i xs))).length < sizeLine := by
              rw [List.length_map, List.length_map, List.length_take]
              exact Nat.lt_of_lt_of_le (m := 1001) (by omega) (by decide)
            have nxt := take_snoc good hx
            have fin : ∀ b : Bool, b = good x → (List.map V.bl (List.map good (List.take i xs))).length < sizeLine ∧ AllG good xs H' (i + 1) (List.map V.bl (List.map good (List.take i xs)) ++ [V.bl b]) [some x] H' := fun b hb => by
              subst hb
              exact ⟨small, rfl, nxt, _, rfl⟩
            generalize List.map V.bl (List.map good (List.take i xs)) = acc at fin
            clear nxt hJ sq isv len hq sm kn c1 c2
            walk_at "rd"
            refine ⟨x, rfl, kx, _, rfl, ?_⟩
            cases x with
            | int n =>
              rw [if_pos (show wholeV (.int n) = true from rfl)]
              refine ⟨n, rfl, ?_⟩
              by_cases n1 : 1 ≤ n
              · rw [if_pos n1]
                exact ⟨n, rfl, (fin _ (by rw [good_int, decide_eq_true n1, Bool.true_and])).2⟩
              · rw [if_neg n1]
                exact (fin _ (by rw [good_int, decide_eq_false n1, Bool.false_and])).2
            | _ => exact (fin false rfl).2
          · rintro acc σ H' ⟨rfl, rfl, o, rfl⟩ p hp
            refine ⟨_, rfl, _, upd_same, ?_⟩
            rw [all_take]
            have e : countsR k (some xs) = xs.all good := by
              have c2' : xs.length ≤ 4 := by omega
              rw [countsR_some]
              rw [decide_eq_true c1, decide_eq_true c2', Bool.true_and, Bool.true_and]
            rw [← e]
            exact hq _ (sm.trans (Same.upd hp))
        · rw [if_pos c2]
          have e : countsR k (some xs) = false := by
            have c2' : ¬ xs.length ≤ 4 := by omega
            rw [countsR_some]
            rw [decide_eq_false c2', Bool.and_false, Bool.false_and]
          rw [← e]
          exact hq _ sm
      · rw [if_neg c1]
        have e : countsR k (some xs) = false := by
          rw [countsR_some]
          rw [decide_eq_false c1, Bool.false_and, Bool.false_and]
        rw [← e]
        exact hq _ sm
/-- the equation that is refused -/
def eqBad (l r : Option (List V)) : Prop := countsR 0 l = false ∨ countsR 0 r = false ∨ (l = some [] ∧ r = some [])
def eqGood (ls rs : List V) : Prop := countsR 0 (some ls) = true ∧ countsR 0 (some rs) = true ∧ 0 < ls.length + rs.length
/-- C: the class of what is refused -/
def spEqn (C : Addr) : Sp := fun vs H Q E => ∃ (a b : V) (l r : Option (List V)), vs = [a, b] ∧ Thing H a l ∧ Thing H b r ∧
  ((eqBad l r ∧ ∀ H', Same H H' → E (.ref C) none H') ∨ (∃ ls rs, l = some ls ∧ r = some rs ∧ eqGood ls rs ∧ ∀ H', Same H H' → Q .non H'))
theorem thing_len {H : Hp} {v : V} {xs : List V} (h : Thing H v (some xs)) : lenV H v = some xs.length := by cases h with | seq h _ _ => exact seq_len h
theorem ok_eqn {C f : Addr} {fd : FuncData} (F : Fun K "check_equation" "check_equation" s_check_equation f fd) (T : Txt mg) (hm_NoCounts : mg "NoCounts" = some (.ref C)) (hx_NoCounts : ExcIn K C) (O_is_counts : Own P w K mg base CX0 2 "is_counts" spCounts) : FnOk P w K mg base (CX1 P w) 3 f fd P_check_equation (spEqn C) := by
  refine F.okE sc_check_equation (fun vs H Q E h => ?_) (fun cdv A outer s H vs Q E hr h => ?_)
  · obtain ⟨a, b, l, r, rfl, _⟩ := h
    rfl
  · obtain ⟨a, b, l, r, rfl, ha, hb, q⟩ := h
    have hu := hr.units
    refine ⟨_, (pss_one (ps_if (PW.pt (pw_or (pt_not (pt_truthK K rfl (pe_own O_is_counts (hr.mono (by decide)) pass0 rfl (pa_cons (pv 0) (pa_cons pe_int pa_nil))) (fun _ => rfl))) (pw_or (pt_not (pt_truthK K rfl (pe_own O_is_counts (hr.mono (by decide)) pass0 rfl (pa_cons (pv 1) (pa_cons pe_int pa_nil))) (fun _ => rfl))) (pw_or1 (pt_cmpR (op_EqF hu) (pe_op op_AddF (pe_callB call_lenF rfl T.n_len rfl (pa_cons (pv 0) pa_nil)) (pe_callB call_lenF rfl T.n_len rfl (pa_cons (pv 1) pa_nil))) pe_int (nomark _)))))) (pss_one (ps_raise rfl throws_cx rfl hm_NoCounts hx_NoCounts (pa_cons pe_str pa_nil))) pss_nil)), ?_⟩
    simp only [N_check_equation]
    clear hr F T hu O_is_counts hm_NoCounts hx_NoCounts
    have hq := q
    clear q
    walk_at "rd"
    refine ⟨a, l, 0, rfl, ha, fun H1 s1 => ⟨_, rfl, ?_⟩⟩
    have refused : ∀ H', Same H H' → (eqBad l r) → (1 ≤ 1000 ∧ E (Value.ref C) none H') := fun H' s' bad => by
      rcases hq with ⟨_, hE⟩ | ⟨ls, rs, rfl, rfl, g, _⟩
      · exact ⟨by decide, hE _ s'⟩
      · rcases bad with z | z | ⟨z1, z2⟩
        · rw [g.1] at z; cases z
        · rw [g.2.1] at z; cases z
        · cases z1; cases z2
          exact absurd g.2.2 (by decide)
    by_cases c1 : countsR 0 l = false
    · rw [if_pos c1]
      exact refused H1 s1 (.inl c1)
    · rw [if_neg c1]
      refine ⟨b, r, 0, rfl, hb.same s1, fun H2 s2 => ⟨_, rfl, ?_⟩⟩
      by_cases c2 : countsR 0 r = false
      · rw [if_pos c2]
        exact refused H2 (s1.trans s2) (.inr (.inl c2))
      · rw [if_neg c2]
        cases l with
        | none => exact absurd rfl c1
        | some ls =>
          cases r with
          | none => exact absurd rfl c2
          | some rs =>
            have e1 := thing_len (ha.same (s1.trans s2))
            have e2 := thing_len (hb.same (s1.trans s2))
            refine ⟨_, by rw [e1]; rfl, _, by rw [e2]; rfl, .inl ⟨_, rfl, ?_⟩⟩
            rw [rEqD_ii]
            refine ⟨_, rfl, ?_⟩
            by_cases c3 : (ls.length : Int) + rs.length = 0
            · rw [if_pos (decide_eq_true c3)]
              refine refused H2 (s1.trans s2) (.inr (.inr ⟨?_, ?_⟩))
              · rw [List.length_eq_zero_iff.mp (show ls.length = 0 by omega)]
              · rw [List.length_eq_zero_iff.mp (show rs.length = 0 by omega)]
            · rw [if_neg (by rw [decide_eq_true_eq]; exact c3)]
              rcases hq with ⟨bad, _⟩ | ⟨ls', rs', z1, z2, g, hQ⟩
              · rcases bad with z | z | ⟨z1, z2⟩
                · exact absurd z c1
                · exact absurd z c2
                · cases z1; cases z2
                  exact absurd rfl c3
              · exact hQ _ (s1.trans s2)
def good0 : V → Bool
  | .int n => decide (0 ≤ n)
  | _ => false
theorem good0_int (n : Int) : good0 (.int n) = decide (0 ≤ n) := rfl
def rowR (n : Nat) : Option (List V) → Bool
  | none => false
  | some xs => decide (xs.length = n) && xs.all good0
theorem rowR_some (n : Nat) (xs : List V) : rowR n (some xs) = (decide (xs.length = n) && xs.all good0) := rfl
/-- a row that is none -/
def spRow (C : Addr) : Sp := fun vs H Q E => ∃ (a b v : V) (ls rs : List V) (r : Option (List V)), vs = [a, b, v] ∧ Thing H a (some ls) ∧ Thing H b (some rs) ∧ Thing H v r ∧ rowR (ls.length + rs.length) r = false ∧ ∀ H', Same H H' → E (.ref C) none H'
theorem ok_row {C f : Addr} {fd : FuncData} (F : Fun K "check_row" "check_row" s_check_row f fd) (T : Txt mg) (hm_NoRow : mg "NoRow" = some (.ref C)) (hx_NoRow : ExcIn K C) (O_is_whole : Own P w K mg base CX0 1 "is_whole" spWhole) : FnOk P w K mg base (CX1 P w) 2 f fd P_check_row (spRow C) := by
  refine F.okE sc_check_row (fun vs H Q E h => ?_) (fun cdv A outer s H vs Q E hr h => ?_)
  · obtain ⟨a, b, v, ls, rs, r, rfl, _⟩ := h
    rfl
  · obtain ⟨a, b, v, ls, rs, r, rfl, ha, hb, hv, bad, q⟩ := h
    have hu := hr.units
    refine ⟨_, (pss_cons (ps_if (PW.pt (pw_or (pt_not (pt_truthK K rfl (pe_callB call_isinstanceF rfl T.n_isinstance rfl (pa_cons (pv 2) (pa_cons (pe_tup (pa_cons (pe_bltn (v := V.ty "list") rfl T.n_list rfl rfl) (pa_cons (pe_bltn (v := V.ty "tuple") rfl T.n_tuple rfl rfl) pa_nil))) pa_nil))) (fun _ => rfl))) (pw_or1 (pt_cmpR (op_NeF hu) (pe_callB call_lenF rfl T.n_len rfl (pa_cons (pv 2) pa_nil)) (pe_op op_AddF (pe_callB call_lenF rfl T.n_len rfl (pa_cons (pv 0) pa_nil)) (pe_callB call_lenF rfl T.n_len rfl (pa_cons (pv 1) pa_nil))) (nomark _))))) (pss_one (ps_raise rfl throws_cx rfl hm_NoRow hx_NoRow (pa_cons pe_str pa_nil))) pss_nil)
      (pss_one (ps_if (pt_not (pt_truthK K rfl (pe_callB (call_allF rfl) rfl T.n_all rfl (pa_cons (pe_comp rfl (CompSc.by (N := N_check_row) (names := (defScope s_check_row).names) (N' := ["number"]) (src := [none]) (by decide +kernel) rfl rfl) (pi_sqK K rfl (pv 2)) (fun _ _ _ _ => (pg_name (i := 0) (show List.Nodup (["number"] : List Str) by decide +kernel) rfl (Or.inl rfl))) (fun _ _ _ _ => pts_nil) (fun _ _ _ _ => (pe_and (pe_own O_is_whole (hr.mono (by decide)) pass0 rfl (pa_cons (pv 0) pa_nil)) (pe_one (pe_cmpR op_ge (pv 0) pe_int (nomark _)))))) pa_nil)) (fun _ => rfl))) (pss_one (ps_raise rfl throws_cx rfl hm_NoRow hx_NoRow (pa_cons pe_str pa_nil))) pss_nil))), ?_⟩
    simp only [N_check_row]
    clear hr F T hu O_is_whole hm_NoRow hx_NoRow
    have hq := q
    clear q
    walk_at "rd"
    refine ⟨by decide, fun p hp => ?_⟩
    have sm : Same H (upd H p (.tup [.ty "list", .ty "tuple"])) := Same.upd hp
    have hv1 := hv.same sm
    have e1 := thing_len (ha.same sm)
    have e2 := thing_len (hb.same sm)
    have hp1 : (upd H p (.tup [.ty "list", .ty "tuple"])) p = some (.tup [.ty "list", .ty "tuple"]) := upd_same
    generalize upd H p (.tup [.ty "list", .ty "tuple"]) = H1 at sm hv1 hp1 e1 e2 ⊢
    clear hv hp ha hb
    have no := hq H1 sm
    cases hv1 with
    | other e n1 n2 =>
      have isv := isV_lt e hp1
      rw [decide_eq_false n1, decide_eq_false n2, Bool.or_self] at isv
      clear hq e sm hp1 bad
      walk_at "rd"
      decide
    | @seq c xs sq kn hl =>
      have isv := seq_isV sq hp1
      have len := seq_len sq
      clear hp1
      have keep := And.intro bad (And.intro hq (And.intro sm (And.intro kn (And.intro sq (And.intro hl no)))))
      clear hq sm kn sq hl no bad
      walk_at "rd"
      obtain ⟨bad, hq, sm, kn, sq, hl, no⟩ := keep
      by_cases c1 : (xs.length : Int) = (ls.length : Int) + rs.length
      · refine ⟨false, by rw [decide_eq_true c1]; rfl, ?_⟩
        rw [if_neg Bool.false_ne_true]
        refine ⟨xs, sq, fun J hJ => compB_sq hJ (AllG good0 xs H1) ⟨rfl, by simp, _, rfl⟩ (fun i acc σ H' _ h => by rw [h.1]) ?_ ?_⟩
        · rintro i x acc σ H' hx ⟨rfl, rfl, o, rfl⟩
          have kx := kn x (List.mem_of_getElem? hx)
          have hi : i < xs.length := (List.getElem?_eq_some_iff.mp hx).1
          have small : (List.map V.bl (List.map good0 (List.take i xs))).length < sizeLine := by
            rw [List.length_map, List.length_map, List.length_take]
            exact Nat.lt_of_lt_of_le (m := 1001) (by omega) (by decide)
          have nxt := take_snoc good0 hx
          have fin : ∀ b : Bool, b = good0 x → (List.map V.bl (List.map good0 (List.take i xs))).length < sizeLine ∧ AllG good0 xs H' (i + 1) (List.map V.bl (List.map good0 (List.take i xs)) ++ [V.bl b]) [some x] H' := fun b hb => by
            subst hb
            exact ⟨small, rfl, nxt, _, rfl⟩
          generalize List.map V.bl (List.map good0 (List.take i xs)) = acc at fin
          clear nxt hJ sq isv len hq sm kn c1 bad no e1 e2
          walk_at "rd"
          refine ⟨x, rfl, kx, _, rfl, ?_⟩
          cases x with
          | int n =>
            rw [if_pos (show wholeV (.int n) = true from rfl)]
            exact ⟨n, rfl, (fin _ (good0_int n).symm).2⟩
          | _ => exact (fin false rfl).2
        · rintro acc σ H' ⟨rfl, rfl, o, rfl⟩ p hp
          refine ⟨_, rfl, _, upd_same, ?_⟩
          rw [all_take]
          have e : xs.all good0 = false := by
            rw [rowR_some, decide_eq_true (show xs.length = ls.length + rs.length by omega), Bool.true_and] at bad
            exact bad
          rw [if_pos e]
          exact ⟨by decide, hq _ (sm.trans (Same.upd hp))⟩
      · refine ⟨true, by rw [decide_eq_false c1]; rfl, ?_⟩
        rw [if_pos rfl]
        decide
/-- an equation and a row of which one is refused: CN, CR are the classes -/
def Refused (CN CR : Addr) (l r row : Option (List V)) (H : Hp) (E : XK) : Prop :=
  (eqBad l r ∧ ∀ H', Same H H' → E (.ref CN) none H') ∨ (∃ ls rs, l = some ls ∧ r = some rs ∧ eqGood ls rs ∧ rowR (ls.length + rs.length) row = false ∧ ∀ H', Same H H' → E (.ref CR) none H')
def spHolds (CN CR : Addr) : Sp := fun vs H Q E => ∃ (a b v : V) (l r row : Option (List V)), vs = [a, b, v] ∧ Thing H a l ∧ Thing H b r ∧ Thing H v row ∧ Refused CN CR l r row H E
theorem ok_holds {CN CR f : Addr} {fd : FuncData} (F : Fun K "holds" "holds" s_holds f fd) (T : Txt mg) (O_check_equation : Own P w K mg base (CX1 P w) 3 "check_equation" (spEqn CN)) (O_check_row : Own P w K mg base (CX1 P w) 2 "check_row" (spRow CR)) : FnOk P w K mg base (CX1 P w) 4 f fd P_holds (spHolds CN CR) := by
  refine F.okE sc_holds (fun vs H Q E h => ?_) (fun cdv A outer s H vs Q E hr h => ?_)
  · obtain ⟨a, b, v, l, r, row, rfl, _⟩ := h
    rfl
  · obtain ⟨a, b, v, l, r, row, rfl, ha, hb, hv, bad⟩ := h
    have hu := hr.units
    refine ⟨_, (pss_cons (ps_expr (pe_own O_check_equation (hr.mono (by decide)) passes_cx rfl (pa_cons (pv 0) (pa_cons (pv 1) pa_nil))))
      (pss_cons (ps_expr (pe_own O_check_row (hr.mono (by decide)) passes_cx rfl (pa_cons (pv 0) (pa_cons (pv 1) (pa_cons (pv 2) pa_nil)))))
      pss_never)), ?_⟩
    simp only [N_holds]
    clear hr F T hu O_check_equation O_check_row
    walk_at "rd"
    rcases bad with ⟨bad, hE⟩ | ⟨ls, rs, rfl, rfl, g, nr, hE⟩
    · exact ⟨a, b, l, r, rfl, ha, hb, .inl ⟨bad, hE⟩⟩
    · exact ⟨a, b, _, _, rfl, ha, hb, .inr ⟨ls, rs, rfl, rfl, g, fun H1 s1 => ⟨a, b, v, ls, rs, row, rfl, ha.same s1, hb.same s1, hv.same s1, nr, fun H2 s2 => hE _ (s1.trans s2)⟩⟩⟩
theorem ok_made {CN CR f : Addr} {fd : FuncData} (F : Fun K "made_of" "made_of" s_made_of f fd) (T : Txt mg) (O_holds : Own P w K mg base (CX1 P w) 4 "holds" (spHolds CN CR)) : FnOk P w K mg base (CX1 P w) 5 f fd P_made_of (spHolds CN CR) := by
  refine F.okE sc_made_of (fun vs H Q E h => ?_) (fun cdv A outer s H vs Q E hr h => ?_)
  · obtain ⟨a, b, v, l, r, row, rfl, _⟩ := h
    rfl
  · have keep := h
    obtain ⟨a, b, v, l, r, row, rfl, _⟩ := h
    have hu := hr.units
    refine ⟨_, (pss_cons (ps_if (pt_not (pt_truthK K rfl (pe_own O_holds (hr.mono (by decide)) passes_cx rfl (pa_cons (pv 0) (pa_cons (pv 1) (pa_cons (pv 2) pa_nil)))) (fun _ => rfl))) (pss_one ps_never) pss_nil)
      pss_never), ?_⟩
    simp only [N_made_of]
    clear hr F T hu O_holds
    walk_at "rd"
    obtain ⟨a', b', v', l', r', row', e, k⟩ := keep
    cases e
    exact ⟨_, _, _, l', r', row', rfl, k⟩
/-- an equation that is refused -/
def spLeast (CN : Addr) : Sp := fun vs H Q E => ∃ (a b : V) (l r : Option (List V)), vs = [a, b] ∧ Thing H a l ∧ Thing H b r ∧ eqBad l r ∧ ∀ H', Same H H' → E (.ref CN) none H'
theorem ok_least {CN f : Addr} {fd : FuncData} (F : Fun K "least_rows" "least_rows" s_least_rows f fd) (T : Txt mg) (O_check_equation : Own P w K mg base (CX1 P w) 3 "check_equation" (spEqn CN)) : FnOk P w K mg base (CX1 P w) 4 f fd P_least_rows (spLeast CN) := by
  refine F.okE sc_least_rows (fun vs H Q E h => ?_) (fun cdv A outer s H vs Q E hr h => ?_)
  · obtain ⟨a, b, l, r, rfl, _⟩ := h
    rfl
  · obtain ⟨a, b, l, r, rfl, ha, hb, bad, hE⟩ := h
    have hu := hr.units
    refine ⟨_, (pss_cons (ps_expr (pe_own O_check_equation (hr.mono (by decide)) passes_cx rfl (pa_cons (pv 0) (pa_cons (pv 1) pa_nil))))
      pss_never), ?_⟩
    simp only [N_least_rows]
    clear hr F T hu O_check_equation
    walk_at "rd"
    exact ⟨a, b, l, r, rfl, ha, hb, .inl ⟨bad, hE⟩⟩
/-- shares that are refused: by the numbers, or by the whole -/
def wholeBad : V → Bool
  | .int n => decide (n < 0) || decide (24 < n)
  | _ => true
def spShares (CN : Addr) : Sp := fun vs H Q E => ∃ (a v : V) (l : Option (List V)), vs = [a, v] ∧ Thing H a l ∧ Known H v ∧ (countsR 1 l = false ∨ (countsR 1 l = true ∧ wholeBad v = true)) ∧ ∀ H', Same H H' → E (.ref CN) none H'
theorem ok_shares {C f : Addr} {fd : FuncData} (F : Fun K "shares" "shares" s_shares f fd) (T : Txt mg) (hm_NoCounts : mg "NoCounts" = some (.ref C)) (hx_NoCounts : ExcIn K C) (O_is_counts : Own P w K mg base CX0 2 "is_counts" spCounts) (O_is_whole : Own P w K mg base CX0 1 "is_whole" spWhole) : FnOk P w K mg base (CX1 P w) 3 f fd P_shares (spShares C) := by
  refine F.okE sc_shares (fun vs H Q E h => ?_) (fun cdv A outer s H vs Q E hr h => ?_)
  · obtain ⟨a, v, l, rfl, _⟩ := h
    rfl
  · obtain ⟨a, v, l, rfl, ha, kv, bad, hE⟩ := h
    have hu := hr.units
    refine ⟨_, (pss_cons (ps_if (pt_not (pt_truthK K rfl (pe_own O_is_counts (hr.mono (by decide)) pass0 rfl (pa_cons (pv 0) (pa_cons pe_int pa_nil))) (fun _ => rfl))) (pss_one (ps_raise rfl throws_cx rfl hm_NoCounts hx_NoCounts (pa_cons pe_str pa_nil))) pss_nil)
      (pss_cons (ps_if (PW.pt (pw_or (pt_not (pt_truthK K rfl (pe_own O_is_whole (hr.mono (by decide)) pass0 rfl (pa_cons (pv 1) pa_nil)) (fun _ => rfl))) (pw_or1 (pt_not (pt_chain op_le op_le pe_int (pv 1) (pe_globC T.c_GREATEST_WHOLE rfl)))))) (pss_one (ps_raise rfl throws_cx rfl hm_NoCounts hx_NoCounts (pa_cons (pe_fs (pe_globC T.c_GREATEST_WHOLE rfl)) pa_nil))) pss_nil)
      pss_never)), ?_⟩
    simp only [N_shares]
    clear hr F T hu O_is_counts O_is_whole hm_NoCounts hx_NoCounts
    walk_at "rd"
    refine ⟨a, l, 1, rfl, ha, fun H1 s1 => ⟨_, rfl, ?_⟩⟩
    have no : 1 ≤ 1000 ∧ E (Value.ref C) none H1 := ⟨by decide, hE _ s1⟩
    have fs : (decide ((Int.natAbs 24).log2 < 1920) && decide ((Str.ofString (toString (24 : Int))).length ≤ 1000)) = true := by decide +kernel
    by_cases c1 : countsR 1 l = false
    · rw [if_pos c1]
      exact no
    · rw [if_neg c1]
      refine ⟨v, rfl, kv.same s1, _, rfl, ?_⟩
      have wb : wholeBad v = true := by
        rcases bad with z | z
        · exact absurd z c1
        · exact z.2
      cases v with
      | int n =>
        rw [if_neg (show ¬ wholeV (.int n) = false from fun z => nomatch z)]
        refine ⟨n, rfl, ?_⟩
        by_cases n0 : 0 ≤ n
        · rw [if_pos n0]
          refine ⟨n, rfl, ?_⟩
          have n1 : ¬ n ≤ 24 := by
            have z : (decide (n < 0) || decide (24 < n)) = true := wb
            rw [decide_eq_false (by omega), Bool.false_or, decide_eq_true_eq] at z
            omega
          rw [if_pos n1]
          exact ⟨fs, fun _ => no⟩
        · rw [if_neg n0]
          exact ⟨fs, fun _ => no⟩
      | _ => exact ⟨fs, fun _ => no⟩
/-- the five kinds that are asked for, of an exception of the class CN or CR -/
structure Kinds (K : PySem.W.Frag) (CL CN CR CS CT CM : Addr) : Prop where
  cls : ∀ C ∈ [CN, CR], ExcCls K C = true ∧ CatchCls K C = true
  like : ∀ C ∈ [CN, CR], PySem.W.kitOne K (.ref C) (.ref CL) = some true ∧ PySem.W.kitOne K (.ref C) (.type "ValueError") = some true ∧ PySem.W.kitAny K (.ref C) [.ref CS, .ref CT, .ref CM] = some false
  n1 : PySem.W.kitOne K (.ref CN) (.ref CN) = some true
  n2 : PySem.W.kitOne K (.ref CN) (.ref CR) = some false
  r1 : PySem.W.kitOne K (.ref CR) (.ref CN) = some false
  r2 : PySem.W.kitOne K (.ref CR) (.ref CR) = some true
def kindsOf (row : Bool) : List V := [.bl true, .bl true, .bl !row, .bl row, .bl false]
def spKinds (CN CR : Addr) : Sp := fun vs H Q _ => ∃ (e : Addr) (row : Bool), vs = [.ref e] ∧ H e = some (.ext (ExcAt e (if row then CR else CN))) ∧ ∀ p H', H p = none → Same H H' → H' p = some (.lst (kindsOf row)) → Q (.ref p) H'
theorem ok_kinds {CL CN CR CS CT CM f : Addr} {fd : FuncData} (F : Fun K "_law_kinds" "_law_kinds" s__law_kinds f fd) (T : Txt mg) (k : Kinds K CL CN CR CS CT CM) (g_LikeError : ∃ u, mg "LikeError" = some u ∧ RelV (.ref CL) u) (g_NoCounts : ∃ u, mg "NoCounts" = some u ∧ RelV (.ref CN) u) (g_NoRow : ∃ u, mg "NoRow" = some u ∧ RelV (.ref CR) u)
    (g_NoSide : ∃ u, mg "NoSide" = some u ∧ RelV (.ref CS) u) (g_NoTerm : ∃ u, mg "NoTerm" = some u ∧ RelV (.ref CT) u) (g_TooMuch : ∃ u, mg "TooMuch" = some u ∧ RelV (.ref CM) u) : FnOkH P w K mg base CX0 1 f fd P__law_kinds (spKinds CN CR) := by
  refine F.okH sc__law_kinds (fun vs H Q E h => ?_) (fun cdv A outer s H vs Q E hr h => ?_)
  · obtain ⟨e, row, rfl, _⟩ := h
    rfl
  · obtain ⟨e, row, rfl, he, q⟩ := h
    have hu := hr.units
    refine ⟨_, (pss_cons (ps_set (i := 1) sc__law_kinds.nd rfl (Or.inl rfl) (pe_lst (pa_cons (pe_callB (call_isXK K rfl) rfl T.n_isinstance rfl (pa_cons (pv 0) (pa_cons (pe_globC g_LikeError rfl) pa_nil))) (pa_cons (pe_callB (call_isXK K rfl) rfl T.n_isinstance rfl (pa_cons (pv 0) (pa_cons (pe_bltn (v := V.ty "ValueError") rfl T.n_ValueError rfl rfl) pa_nil))) (pa_cons (pe_callB (call_isXK K rfl) rfl T.n_isinstance rfl (pa_cons (pv 0) (pa_cons (pe_globC g_NoCounts rfl) pa_nil))) pa_nil)))))
      (pss_one (ps_ret (pe_op op_AddF (pv 1) (pe_lst (pa_cons (pe_callB (call_isXK K rfl) rfl T.n_isinstance rfl (pa_cons (pv 0) (pa_cons (pe_globC g_NoRow rfl) pa_nil))) (pa_cons (pe_callB (call_isXK K rfl) rfl T.n_isinstance rfl (pa_cons (pv 0) (pa_cons (pe_tup (pa_cons (pe_globC g_NoSide rfl) (pa_cons (pe_globC g_NoTerm rfl) (pa_cons (pe_globC g_TooMuch rfl) pa_nil)))) pa_nil))) pa_nil))))))), ?_⟩
    simp only [N__law_kinds]
    clear hr F T hu g_LikeError g_NoCounts g_NoRow g_NoSide g_NoTerm g_TooMuch
    have keep := And.intro he (And.intro q k)
    clear he q k
    walk_at "rd"
    obtain ⟨he, q, k⟩ := keep
    generalize hC : (if row = true then CR else CN) = C at he
    have mem : C ∈ [CN, CR] := by subst hC; cases row <;> simp
    have kc := k.cls C mem
    obtain ⟨l1, l2, l3⟩ := k.like C mem
    have isN : PySem.W.kitOne K (.ref C) (.ref CN) = some (!row) := by subst hC; cases row; exact k.n1; exact k.r1
    have isR : PySem.W.kitOne K (.ref C) (.ref CR) = some row := by subst hC; cases row; exact k.n2; exact k.r2
    refine rIsX_of he kc (.inl ⟨rfl, l1⟩) (rIsX_of he kc (.inl ⟨rfl, l2⟩) (rIsX_of he kc (.inl ⟨rfl, isN⟩) ⟨by decide, fun p hp => ?_⟩))
    have he2 : (upd H p (HO.lst [V.bl true, V.bl true, V.bl !row])) e = some (.ext (ExcAt e C)) := by rw [upd_ne (ne_of_none he hp)]; exact he
    have s1 : Same H (upd H p (HO.lst [V.bl true, V.bl true, V.bl !row])) := Same.upd hp
    have a1 : (upd H p (HO.lst [V.bl true, V.bl true, V.bl !row])) p = some (HO.lst [V.bl true, V.bl true, V.bl !row]) := upd_same
    generalize upd H p (HO.lst [V.bl true, V.bl true, V.bl !row]) = H1 at he2 s1 a1 ⊢
    refine rIsX_of he2 kc (.inl ⟨rfl, isR⟩) ⟨by decide, fun p1 hp1 => ?_⟩
    have he3 : (upd H1 p1 (HO.tup [V.ref CS, V.ref CT, V.ref CM])) e = some (.ext (ExcAt e C)) := by rw [upd_ne (ne_of_none he2 hp1)]; exact he2
    have s2 : Same H1 (upd H1 p1 (HO.tup [V.ref CS, V.ref CT, V.ref CM])) := Same.upd hp1
    have a2 : (upd H1 p1 (HO.tup [V.ref CS, V.ref CT, V.ref CM])) p1 = some (HO.tup [V.ref CS, V.ref CT, V.ref CM]) := upd_same
    generalize upd H1 p1 (HO.tup [V.ref CS, V.ref CT, V.ref CM]) = H2 at he3 s2 a2 ⊢
    refine rIsX_of he3 kc (.inr ⟨p1, _, rfl, a2, by simp [isCls], l3⟩) ⟨by decide, fun p2 hp2 => ?_⟩
    have s3 : Same H2 (upd H2 p2 (HO.lst [V.bl row, V.bl false])) := Same.upd hp2
    have a3 : (upd H2 p2 (HO.lst [V.bl row, V.bl false])) p2 = some (HO.lst [V.bl row, V.bl false]) := upd_same
    generalize upd H2 p2 (HO.lst [V.bl row, V.bl false]) = H3 at s3 a3 ⊢
    have a1' := s3 _ _ (s2 _ _ a1)
    refine ⟨.lst (kindsOf row), ?_, fun p3 hp3 => q p3 _ ?_ (((s1.trans s2).trans s3).trans (Same.upd hp3)) upd_same⟩
    · exact catO_ll a1' a3 (show 3 + 2 ≤ sizeLine by decide)
    · cases z : H p3 with
      | none => rfl
      | some o => rw [((s1.trans s2).trans s3) _ _ z] at hp3; cases hp3
/-- what is told of a refusal: row, whether it is the row's -/
def spOfRows : Sp := fun vs H Q _ => ∃ (way : Int) (a b v : V) (l r row : Option (List V)) (kind : Bool), vs = [.int way, a, b, v] ∧ Thing H a l ∧ Thing H b r ∧ Thing H v row ∧
  ((kind = false ∧ eqBad l r) ∨ (kind = true ∧ (way = 0 ∨ way = 1) ∧ ∃ ls rs, l = some ls ∧ r = some rs ∧ eqGood ls rs ∧ rowR (ls.length + rs.length) row = false)) ∧ ∀ p H', H p = none → Same H H' → H' p = some (.lst (kindsOf kind)) → Q (.ref p) H'
theorem ok_ofRows {CL CN CR f : Addr} {fd : FuncData} (F : Fun K "_law_of_rows" "_law_of_rows" s__law_of_rows f fd) (T : Txt mg) (hm_LikeError : mg "LikeError" = some (.ref CL)) (hk_LikeError : CatchCls K CL = true) (hs : ∀ C ∈ [CN, CR], PySem.W.subIn K (.ref C) (.ref CL) = some true)
    (O_holds : Own P w K mg base (CX1 P w) 4 "holds" (spHolds CN CR)) (O_made_of : Own P w K mg base (CX1 P w) 5 "made_of" (spHolds CN CR)) (O_least_rows : Own P w K mg base (CX1 P w) 4 "least_rows" (spLeast CN)) (O__law_kinds : OwnH P w K mg base CX0 1 "_law_kinds" (spKinds CN CR)) : FnOk P w K mg base CX0 6 f fd P__law_of_rows spOfRows := by
  refine F.ok sc__law_of_rows (fun vs H Q E h => ?_) (fun cdv A outer s H vs Q E hr h => ?_)
  · obtain ⟨way, a, b, v, l, r, row, kind, rfl, _⟩ := h
    rfl
  · obtain ⟨way, a, b, v, l, r, row, kind, rfl, ha, hb, hv, bad, q⟩ := h
    have hu := hr.units
    let EX : XK := fun cls d H' => cls = .ref (if kind = true then CR else CN) ∧ Same H H'
    have hEX : ∀ cls d H', EX cls d H' → ∃ C, cls = .ref C ∧ PySem.W.subIn K (.ref C) (.ref CL) = some true := fun cls d H' z => ⟨_, z.1, hs _ (by cases kind <;> simp)⟩
    refine ⟨_, (pss_cons (ps_tryAs (i := 4) EX ⟨rfl, rfl⟩ rfl sc__law_of_rows.nd rfl rfl rfl hm_LikeError hk_LikeError hEX (fun pn Ew hP => (pss_one (ps_if (pt_cmpR (op_EqF hu) (pv 0) pe_int (nomark _)) (pss_one (ps_expr (pe_own O_holds (hr.mono (by decide)) hP rfl (pa_cons (pv 1) (pa_cons (pv 2) (pa_cons (pv 3) pa_nil)))))) (pss_one (ps_if (pt_cmpR (op_EqF hu) (pv 0) pe_int (nomark _)) (pss_one (ps_expr (pe_own O_made_of (hr.mono (by decide)) hP rfl (pa_cons (pv 1) (pa_cons (pv 2) (pa_cons (pv 3) pa_nil)))))) (pss_one (ps_expr (pe_own O_least_rows (hr.mono (by decide)) hP rfl (pa_cons (pv 1) (pa_cons (pv 2) pa_nil)))))))))) (fun e => (pss_one (ps_ret (pe_ownH O__law_kinds ((hr.mono (by decide)).handling _) rfl (pa_cons (pv 4) pa_nil))))))
      (pss_one (ps_ret (pe_lst pa_nil)))), ?_⟩
    simp only [N__law_of_rows]
    clear hr F T hu O_holds O_made_of O_least_rows O__law_kinds hm_LikeError hk_LikeError hEX hs
    have keep := And.intro ha (And.intro hb (And.intro hv (And.intro bad q)))
    clear ha hb hv bad q
    walk_at "rd"
    obtain ⟨ha, hb, hv, bad, q⟩ := keep
    refine ⟨?_, fun C d σ' H' ea hE hea hi => ⟨.ref ea, by rw [List.getElem?_set_self hi], ?_⟩⟩
    · have holds_ : (way = 0 ∨ way = 1 ∨ kind = false) → ∀ QQ : VK, spHolds CN CR [a, b, v] H QQ EX := fun hw QQ => by
        refine ⟨a, b, v, l, r, row, rfl, ha, hb, hv, ?_⟩
        rcases bad with ⟨rfl, bad⟩ | ⟨rfl, _, ls, rs, e1, e2, g, nr⟩
        · exact .inl ⟨bad, fun H' s' => ⟨rfl, s'⟩⟩
        · exact .inr ⟨ls, rs, e1, e2, g, nr, fun H' s' => ⟨rfl, s'⟩⟩
      by_cases w0 : way = 0
      · rw [if_pos w0]; exact holds_ (.inl w0) _
      · rw [if_neg w0]
        by_cases w1 : way = 1
        · rw [if_pos w1]; exact holds_ (.inr (.inl w1)) _
        · rw [if_neg w1]
          rcases bad with ⟨rfl, bad⟩ | ⟨_, z, _⟩
          · exact ⟨a, b, l, r, rfl, ha, hb, bad, fun H' s' => ⟨rfl, s'⟩⟩
          · exact absurd z (by omega)
    · obtain ⟨eC, sm⟩ := hE
      cases eC
      refine ⟨ea, kind, rfl, upd_same, fun p H2 hp s2 h2 => q p H2 ?_ (sm.trans ((Same.upd hea).trans s2)) h2⟩
      cases z : H p with
      | none => rfl
      | some o =>
        have z2 := (Same.upd hea (o := .ext (ExcAt ea (if kind = true then CR else CN)))) _ _ (sm _ _ z)
        rw [hp] at z2; cases z2
def spOfShares (CN : Addr) : Sp := fun vs H Q _ => ∃ (a v : V) (l : Option (List V)), vs = [a, v] ∧ Thing H a l ∧ Known H v ∧ (countsR 1 l = false ∨ (countsR 1 l = true ∧ wholeBad v = true)) ∧ ∀ p H', H p = none → Same H H' → H' p = some (.lst (kindsOf false)) → Q (.ref p) H'
theorem ok_ofShares {CL CN CR f : Addr} {fd : FuncData} (F : Fun K "_law_of_shares" "_law_of_shares" s__law_of_shares f fd) (T : Txt mg) (hm_LikeError : mg "LikeError" = some (.ref CL)) (hk_LikeError : CatchCls K CL = true) (hs : ∀ C ∈ [CN, CR], PySem.W.subIn K (.ref C) (.ref CL) = some true)
    (O_shares : Own P w K mg base (CX1 P w) 3 "shares" (spShares CN)) (O__law_kinds : OwnH P w K mg base CX0 1 "_law_kinds" (spKinds CN CR)) : FnOk P w K mg base CX0 4 f fd P__law_of_shares (spOfShares CN) := by
  refine F.ok sc__law_of_shares (fun vs H Q E h => ?_) (fun cdv A outer s H vs Q E hr h => ?_)
  · obtain ⟨a, v, l, rfl, _⟩ := h
    rfl
  · obtain ⟨a, v, l, rfl, ha, kv, bad, q⟩ := h
    have hu := hr.units
    let EX : XK := fun cls d H' => cls = .ref CN ∧ Same H H'
    have hEX : ∀ cls d H', EX cls d H' → ∃ C, cls = .ref C ∧ PySem.W.subIn K (.ref C) (.ref CL) = some true := fun cls d H' z => ⟨_, z.1, hs _ (by simp)⟩
    refine ⟨_, (pss_cons (ps_tryAs (i := 2) EX ⟨rfl, rfl⟩ rfl sc__law_of_shares.nd rfl rfl rfl hm_LikeError hk_LikeError hEX (fun pn Ew hP => (pss_one (ps_expr (pe_own O_shares (hr.mono (by decide)) hP rfl (pa_cons (pv 0) (pa_cons (pv 1) pa_nil)))))) (fun e => (pss_one (ps_ret (pe_ownH O__law_kinds ((hr.mono (by decide)).handling _) rfl (pa_cons (pv 2) pa_nil))))))
      (pss_one (ps_ret (pe_lst pa_nil)))), ?_⟩
    simp only [N__law_of_shares]
    clear hr F T hu O_shares O__law_kinds hm_LikeError hk_LikeError hEX hs
    have keep := And.intro ha (And.intro kv (And.intro bad q))
    clear ha kv bad q
    walk_at "rd"
    obtain ⟨ha, kv, bad, q⟩ := keep
    refine ⟨⟨a, v, l, rfl, ha, kv, bad, fun H' s' => ⟨rfl, s'⟩⟩, fun C d σ' H' ea hE hea hi => ⟨.ref ea, by rw [List.getElem?_set_self hi], ?_⟩⟩
    obtain ⟨eC, sm⟩ := hE
    cases eC
    refine ⟨ea, false, rfl, upd_same, fun p H2 hp s2 h2 => q p H2 ?_ (sm.trans ((Same.upd hea).trans s2)) h2⟩
    cases z : H p with
    | none => rfl
    | some o =>
      have z2 := (Same.upd hea (o := .ext (ExcAt ea CN))) _ _ (sm _ _ z)
      rw [hp] at z2; cases z2
def IntL (ns : List Int) : Prop := ns.length ≤ 4 ∧ ∀ n ∈ ns, 1 ≤ n ∧ n ≤ 4
def spCountsL : Sp := fun vs H Q _ => ∃ p : Addr, vs = [.ref p] ∧ IsPot H p ∧ ∀ (l : Addr) (ns : List Int) (H' : Hp), H l = none → H' l = some (.lst (ns.map V.int)) → But p H H' → IsPot H' p → IntL ns → Q (.ref l) H'
def CInv (p : Addr) (H : Hp) (i : Nat) (acc : List V) (σ : St) (H' : Hp) : Prop := ∃ (ns : List Int) (x y : Int) (o : Option V), acc = ns.map V.int ∧ ns.length = i ∧ (∀ n ∈ ns, 1 ≤ n ∧ n ≤ 4) ∧ H' = upd H p (.lst [.int x, .int y]) ∧ σ = [o, some (.ref p)]
theorem IsPot.but {p l : Addr} {H : Hp} {o : HO} (h : IsPot H p) (n : p ≠ l) : IsPot (upd H l o) p := by obtain ⟨x, y, e⟩ := h; exact ⟨x, y, by rw [upd_ne n]; exact e⟩
theorem IsPot.ne {p l : Addr} {H : Hp} (h : IsPot H p) (n : H l = none) : p ≠ l := by obtain ⟨x, y, e⟩ := h; exact ne_of_none e n
theorem ok_countsL {f : Addr} {fd : FuncData} (F : Fun K "_law_counts" "_law_counts" s__law_counts f fd) (T : Txt mg) (O__law_take : Own P w K mg base CX0 1 "_law_take" spTake) : FnOk P w K mg base CX0 2 f fd P__law_counts spCountsL := by
  refine F.ok sc__law_counts (fun vs H Q E h => ?_) (fun cdv A outer s H vs Q E hr h => ?_)
  · obtain ⟨p, rfl, _⟩ := h
    rfl
  · obtain ⟨p, rfl, hp, q⟩ := h
    refine ⟨_, (pss_one (ps_ret (pe_comp rfl (CompSc.by (N := N__law_counts) (names := (defScope s__law_counts).names) (N' := ["_law_k", "_law_pot_here"]) (src := [none, some 0]) (by decide +kernel) rfl rfl) (pi_range1 rfl T.n_range (pa_cons (pe_own O__law_take (hr.mono (by decide)) pass0 rfl (pa_cons (pv 0) (pa_cons pe_int pa_nil))) pa_nil)) (fun _ _ _ _ => (pg_name (i := 0) (show List.Nodup (["_law_k", "_law_pot_here"] : List Str) by decide +kernel) rfl (Or.inl rfl))) (fun _ _ _ _ => pts_nil) (fun _ _ _ _ => (pe_op op_AddF pe_int (pe_own O__law_take (hr.mono (by decide)) pass0 rfl (pa_cons (pv 1) (pa_cons pe_int pa_nil)))))))), ?_⟩
    simp only [N__law_counts]
    clear hr F T O__law_take
    have hq := q
    clear q
    walk_at "rd"
    refine ⟨p, 5, rfl, hp, by omega, by omega, fun d x1 y1 d0 d1 => ?_⟩
    walk_at "rd"
    refine ⟨by omega, by omega, ?_⟩
    refine compB_range (CInv p H) ⟨[], x1, y1, none, rfl, rfl, by simp, rfl, rfl⟩ ?_ ?_
    · rintro i acc σ H1 hi ⟨ns, x, y, o, rfl, hl, hn, rfl, rfl⟩
      clear hq hp
      walk_at "rd"
      refine ⟨p, 4, rfl, ⟨_, _, upd_same⟩, by decide, by decide, fun d x2 y2 d0 d1 => ?_⟩
      walk_at "rd"
      refine ⟨Nat.lt_of_le_of_lt (m := 10) (by rw [List.length_map]; omega) (by decide), ns ++ [1 + d], x2, y2, _, by simp, by simp [hl], fun m hm => ?_, rfl, rfl⟩
      rcases List.mem_append.mp hm with h | h
      · exact hn m h
      · rw [List.mem_singleton.mp h]; omega
    · rintro acc σ H1 ⟨ns, x2, y2, o, rfl, hl, hn, rfl, rfl⟩ c hc
      have hp1 : IsPot (upd H p (.lst [.int x2, .int y2])) p := ⟨x2, y2, upd_same⟩
      have npc := hp1.ne hc
      refine hq c ns _ ?_ upd_same ((But.upd p H _).trans (But.new hc)) (hp1.but npc) ⟨by omega, hn⟩
      rw [upd_ne npc.symm] at hc
      exact hc
/-- a thing beside the pot -/
def spThing : Sp := fun vs H Q _ => ∃ p : Addr, vs = [.ref p] ∧ IsPot H p ∧ ∀ (v : V) (H' : Hp), But p H H' → IsPot H' p → Thing (del H' p) v none → Q v H'
abbrev tEls : TA := tCons (tC (.int 7)) (tCons (tC (.str "123")) (tCons (tC .non) (tCons tDNewK (tCons (tC (.str "")) (tCons (tDisp [(tC (.int 1), tC (.int 2))]) (tCons (tC (.bl false)) (tCons (tC (.bl true)) tNil)))))))
theorem els {X : Cx} {p1 p2 p3 p4 p5 p6 p7 p8 p9 p10 : Pos} : PA X [.Constant (.int 7) 0 p1, .Constant (.str "123") 0 p2, .Constant .none 0 p3, .Dict [] [] p4, .Constant (.str "") 0 p5, .Dict [some (.Constant (.int 1) 0 p6)] [.Constant (.int 2) 0 p7] p8, .Constant (.bool false) 0 p9, .Constant (.bool true) 0 p10] tEls :=
  @pa_k _ _ _ _ _ _ _ pe_int (@pa_k _ _ _ _ _ _ _ pe_str (@pa_k _ _ _ _ _ _ _ pe_non (@pa_dnew _ _ _ _ (@pa_k _ _ _ _ _ _ _ pe_str (@pa_disp1 _ _ _ _ _ _ _ _ pe_int pe_int (@pa_k _ _ _ _ _ _ _ pe_bl (@pa_k _ _ _ _ _ _ _ pe_bl pa_nil)))))))
def rIxF : R2 := fun x y H Q => ∃ v, ixV H x y = some v ∧ Q v H
theorem gen_ix {X : Cx} {ix : Expr} {tI : TE} {e1 : Expr} {p' : Pos} {te : TE} (hl : PE X e1 te) (hi : PE X ix tI) (pl : PlainIx ix) : PE X (.Subscript e1 ix p') (tOp rIxF te tI) := pe_ix ix_F hl hi pl
theorem gen_lst {X : Cx} {es : List Expr} {p : Pos} {t : TA} (h : PA X es t) : PE X (.List es p) (tLst t) := pe_lst h
theorem lst_expr {X : Cx} {p p1 p2 p3 p4 p5 p6 p7 p8 p9 p10 : Pos} : PE X (.List [.Constant (.int 7) 0 p1, .Constant (.str "123") 0 p2, .Constant .none 0 p3, .Dict [] [] p4, .Constant (.str "") 0 p5, .Dict [some (.Constant (.int 1) 0 p6)] [.Constant (.int 2) 0 p7] p8, .Constant (.bool false) 0 p9, .Constant (.bool true) 0 p10] p) (tLst tEls) := by
  have h := @els X p1 p2 p3 p4 p5 p6 p7 p8 p9 p10
  revert h
  generalize ([.Constant (.int 7) 0 p1, .Constant (.str "123") 0 p2, .Constant .none 0 p3, .Dict [] [] p4, .Constant (.str "") 0 p5, .Dict [some (.Constant (.int 1) 0 p6)] [.Constant (.int 2) 0 p7] p8, .Constant (.bool false) 0 p9, .Constant (.bool true) 0 p10] : List Expr) = es
  intro h
  exact gen_lst h
theorem thing_expr {X : Cx} {p p' p1 p2 p3 p4 p5 p6 p7 p8 p9 p10 : Pos} {ix : Expr} {tI : TE} (hi : PE X ix tI) (pl : PlainIx ix) : PE X (.Subscript (.List [.Constant (.int 7) 0 p1, .Constant (.str "123") 0 p2, .Constant .none 0 p3, .Dict [] [] p4, .Constant (.str "") 0 p5, .Dict [some (.Constant (.int 1) 0 p6)] [.Constant (.int 2) 0 p7] p8, .Constant (.bool false) 0 p9, .Constant (.bool true) 0 p10] p) ix p') (tOp rIxF (tLst tEls) tI) := by
  have h := @lst_expr X p p1 p2 p3 p4 p5 p6 p7 p8 p9 p10
  revert h
  generalize (.List [.Constant (.int 7) 0 p1, .Constant (.str "123") 0 p2, .Constant .none 0 p3, .Dict [] [] p4, .Constant (.str "") 0 p5, .Dict [some (.Constant (.int 1) 0 p6)] [.Constant (.int 2) 0 p7] p8, .Constant (.bool false) 0 p9, .Constant (.bool true) 0 p10] p : Expr) = e
  intro h
  exact gen_ix h hi pl
theorem ok_thing {f : Addr} {fd : FuncData} (F : Fun K "_law_thing" "_law_thing" s__law_thing f fd) (T : Txt mg) (O__law_take : Own P w K mg base CX0 1 "_law_take" spTake) : FnOk P w K mg base CX0 2 f fd P__law_thing spThing := by
  refine F.ok sc__law_thing (fun vs H Q E h => ?_) (fun cdv A outer s H vs Q E hr h => ?_)
  · obtain ⟨p, rfl, _⟩ := h
    rfl
  · obtain ⟨p, rfl, hp, q⟩ := h
    refine ⟨tRet (tOp rIxF (tLst tEls) (tCall spTake [] E0 (tCons (tVar 0) (tCons (tC (.int 8)) tNil)))), ?_, ?_⟩
    · refine pss_one ?_
      refine ps_ret ?_
      refine @thing_expr _ _ _ _ _ _ _ _ _ _ _ _ _ _ _ ?_ ?_
      · exact (pe_own O__law_take (hr.mono (by decide)) pass0 rfl (pa_cons (pv 0) (pa_cons pe_int pa_nil)))
      · exact (fun _ _ => rfl)
    simp only [N__law_thing]
    clear hr F T O__law_take
    have keep := And.intro hp q
    clear hp q
    simp only [rIxF, tEls]
    walk_at "rd"
    obtain ⟨hp, q⟩ := keep
    intro a ha b hb
    refine ⟨[(.inl 1, .int 2)], rfl, by decide, by decide, fun c hc => ?_⟩
    have s1 : Same H (upd H a (HO.dK [])) := Same.upd ha
    have a1 : (upd H a (HO.dK [])) a = some (HO.dK []) := upd_same
    generalize upd H a (HO.dK []) = H1 at hb hc s1 a1 ⊢
    generalize mergeK [] [((.inl 1 : Key), V.int 2)] = kvs at hc ⊢
    have s2 : Same H1 (upd H1 b (HO.dK kvs)) := Same.upd hb
    have b2 : (upd H1 b (HO.dK kvs)) b = some (HO.dK kvs) := upd_same
    generalize upd H1 b (HO.dK kvs) = H2 at hc s2 b2 ⊢
    obtain ⟨x0, y0, pot⟩ := hp
    have na : a ≠ p := ne_of_none pot ha |>.symm
    have nb : b ≠ p := (ne_of_none (s1 _ _ pot) hb).symm
    have npc : p ≠ c := ne_of_none (s2 _ _ (s1 _ _ pot)) hc
    refine ⟨p, 8, rfl, ⟨x0, y0, by rw [upd_ne npc]; exact s2 _ _ (s1 _ _ pot)⟩, by decide, by decide, fun d x y d0 d1 => ?_⟩
    have lst : (upd (upd H2 c (HO.lst [V.int 7, V.str (Str.ofString "123"), V.non, V.ref a, V.str (Str.ofString ""), V.ref b, V.bl false, V.bl true])) p (HO.lst [V.int x, V.int y])) c = some (HO.lst [V.int 7, V.str (Str.ofString "123"), V.non, V.ref a, V.str (Str.ofString ""), V.ref b, V.bl false, V.bl true]) := by rw [upd_ne npc.symm, upd_same]
    have bt : But p H (upd (upd H2 c (HO.lst [V.int 7, V.str (Str.ofString "123"), V.non, V.ref a, V.str (Str.ofString ""), V.ref b, V.bl false, V.bl true])) p (HO.lst [V.int x, V.int y])) := fun e o n z => by rw [upd_ne n]; exact Same.upd hc _ _ (s2 _ _ (s1 _ _ z))
    have pt : IsPot (upd (upd H2 c (HO.lst [V.int 7, V.str (Str.ofString "123"), V.non, V.ref a, V.str (Str.ofString ""), V.ref b, V.bl false, V.bl true])) p (HO.lst [V.int x, V.int y])) p := ⟨x, y, upd_same⟩
    have at_ : ∀ e o, e ≠ p → H2 e = some o → del (upd (upd H2 c (HO.lst [V.int 7, V.str (Str.ofString "123"), V.non, V.ref a, V.str (Str.ofString ""), V.ref b, V.bl false, V.bl true])) p (HO.lst [V.int x, V.int y])) p e = some o := fun e o n z => del_some (by rw [upd_ne n]; exact Same.upd hc _ _ z) n
    generalize upd (upd H2 c (HO.lst [V.int 7, V.str (Str.ofString "123"), V.non, V.ref a, V.str (Str.ofString ""), V.ref b, V.bl false, V.bl true])) p (HO.lst [V.int x, V.int y]) = H3 at lst bt pt at_ ⊢
    have dict : ∀ e kvs, e ≠ p → H2 e = some (HO.dK kvs) → tyN (del H3 p) (.ref e) = some "dict" := fun e kvs n z => by
      have w := at_ e _ n z
      unfold tyN
      dsimp only
      rw [w]
    have plain : ∀ v t, tyN (del H3 p) v = some t → t ≠ "list" → t ≠ "tuple" → Q v H3 := fun v t e n1 n2 => q v H3 bt pt (.other e n1 n2)
    have cases8 : d = 0 ∨ d = 1 ∨ d = 2 ∨ d = 3 ∨ d = 4 ∨ d = 5 ∨ d = 6 ∨ d = 7 := by omega
    unfold rIxF
    rcases cases8 with rfl | rfl | rfl | rfl | rfl | rfl | rfl | rfl
    all_goals (dsimp only; rw [ixV_ref, lst])
    · exact ⟨_, rfl, plain _ "int" rfl (by decide) (by decide)⟩
    · exact ⟨_, rfl, plain _ "str" rfl (by decide) (by decide)⟩
    · exact ⟨_, rfl, plain _ "NoneType" rfl (by decide) (by decide)⟩
    · exact ⟨_, rfl, plain _ "dict" (dict a _ na (s2 _ _ a1)) (by decide) (by decide)⟩
    · exact ⟨_, rfl, plain _ "str" rfl (by decide) (by decide)⟩
    · exact ⟨_, rfl, plain _ "dict" (dict b _ nb b2) (by decide) (by decide)⟩
    · exact ⟨_, rfl, plain _ "bool" rfl (by decide) (by decide)⟩
    · exact ⟨_, rfl, plain _ "bool" rfl (by decide) (by decide)⟩
def spBadCount : Sp := fun vs H Q _ => ∃ p : Addr, vs = [.ref p] ∧ IsPot H p ∧ ∀ (v : V) (H' : Hp), But p H H' → IsPot H' p → Known (del H' p) v → good v = false → Q v H'
theorem ok_badCount {f : Addr} {fd : FuncData} (F : Fun K "_law_bad_count" "_law_bad_count" s__law_bad_count f fd) (T : Txt mg) (O__law_take : Own P w K mg base CX0 1 "_law_take" spTake) : FnOk P w K mg base CX0 2 f fd P__law_bad_count spBadCount := by
  refine F.ok sc__law_bad_count (fun vs H Q E h => ?_) (fun cdv A outer s H vs Q E hr h => ?_)
  · obtain ⟨p, rfl, _⟩ := h
    rfl
  · obtain ⟨p, rfl, hp, q⟩ := h
    refine ⟨_, (pss_one (ps_ret (pe_ix ix_F (pe_lst (pa_cons pe_int (pa_cons pe_int (pa_cons (pe_op op_sub (pe_un un_neg pe_int) (pe_own O__law_take (hr.mono (by decide)) pass0 rfl (pa_cons (pv 0) (pa_cons pe_int pa_nil)))) (pa_cons pe_bl (pa_cons pe_str (pa_cons pe_non (pa_cons (pe_op op_pow pe_int pe_int) (pa_cons (pe_lst (pa_cons pe_int pa_nil)) pa_nil))))))))) (pe_own O__law_take (hr.mono (by decide)) pass0 rfl (pa_cons (pv 0) (pa_cons pe_int pa_nil))) (fun _ _ => rfl)))), ?_⟩
    simp only [N__law_bad_count]
    clear hr F T O__law_take
    have keep := And.intro hp q
    clear hp q
    walk_at "rd"
    obtain ⟨hp, q⟩ := keep
    refine ⟨p, 9, rfl, hp, by decide, by decide, fun d0 x0 y0 d00 d01 => ⟨d0, rfl, ⟨by decide, by decide, by decide⟩, by decide, fun a ha => ⟨by decide, fun c hc => ?_⟩⟩⟩
    have pot : (upd H p (HO.lst [V.int x0, V.int y0])) p = some (HO.lst [V.int x0, V.int y0]) := upd_same
    have b0 : But p H (upd H p (HO.lst [V.int x0, V.int y0])) := But.upd p H _
    generalize upd H p (HO.lst [V.int x0, V.int y0]) = H1 at pot b0 ha hc ⊢
    have s2 : Same H1 (upd H1 a (HO.lst [V.int 1])) := Same.upd ha
    have a2 : (upd H1 a (HO.lst [V.int 1])) a = some (HO.lst [V.int 1]) := upd_same
    have na : a ≠ p := (ne_of_none pot ha).symm
    generalize upd H1 a (HO.lst [V.int 1]) = H2 at s2 a2 hc ⊢
    have npc : p ≠ c := ne_of_none (s2 _ _ pot) hc
    generalize hL : [V.int 0, V.int 5, V.int (-1 - d0), V.bl true, V.str (Str.ofString "2"), V.non, V.int (10 ^ Int.toNat 30), V.ref a] = L at hc ⊢
    refine ⟨p, 8, rfl, ⟨x0, y0, by rw [upd_ne npc]; exact s2 _ _ pot⟩, by decide, by decide, fun d x y d0' d1' => ?_⟩
    have lst : (upd (upd H2 c (HO.lst L)) p (HO.lst [V.int x, V.int y])) c = some (HO.lst L) := by rw [upd_ne npc.symm, upd_same]
    have bt : But p H (upd (upd H2 c (HO.lst L)) p (HO.lst [V.int x, V.int y])) := fun e o n z => by rw [upd_ne n]; exact Same.upd hc _ _ (s2 _ _ (b0 _ _ n z))
    have pt : IsPot (upd (upd H2 c (HO.lst L)) p (HO.lst [V.int x, V.int y])) p := ⟨x, y, upd_same⟩
    have la : del (upd (upd H2 c (HO.lst L)) p (HO.lst [V.int x, V.int y])) p a = some (HO.lst [V.int 1]) := del_some (by rw [upd_ne na]; exact Same.upd hc _ _ a2) na
    generalize upd (upd H2 c (HO.lst L)) p (HO.lst [V.int x, V.int y]) = H3 at lst bt pt la ⊢
    have ty : tyN (del H3 p) (.ref a) = some "list" := by
      unfold tyN
      dsimp only
      rw [la]
    have cases8 : d = 0 ∨ d = 1 ∨ d = 2 ∨ d = 3 ∨ d = 4 ∨ d = 5 ∨ d = 6 ∨ d = 7 := by omega
    subst hL
    rcases cases8 with rfl | rfl | rfl | rfl | rfl | rfl | rfl | rfl
    all_goals (dsimp only; rw [ixV_ref, lst])
    · exact ⟨_, rfl, q _ H3 bt pt ⟨"int", rfl⟩ rfl⟩
    · exact ⟨_, rfl, q _ H3 bt pt ⟨"int", rfl⟩ rfl⟩
    · exact ⟨_, rfl, q _ H3 bt pt ⟨"int", rfl⟩ (by rw [good_int, decide_eq_false (by omega), Bool.false_and])⟩
    · exact ⟨_, rfl, q _ H3 bt pt ⟨"bool", rfl⟩ rfl⟩
    · exact ⟨_, rfl, q _ H3 bt pt ⟨"str", rfl⟩ rfl⟩
    · exact ⟨_, rfl, q _ H3 bt pt ⟨"NoneType", rfl⟩ rfl⟩
    · exact ⟨_, rfl, q _ H3 bt pt ⟨"int", rfl⟩ (by rw [good_int]; decide)⟩
    · exact ⟨_, rfl, q _ H3 bt pt ⟨"list", ty⟩ rfl⟩
theorem cut_take (xs : List V) (n : Nat) : cutV xs none (some (n : Int)) = xs.take n := by
  unfold cutV
  rw [HT.sIx_none, HT.sIx_nat, List.drop_zero, Nat.sub_zero]
  exact List.take_eq_take_min.symm
theorem cut_drop (xs : List V) (n : Nat) : cutV xs (some (n : Int)) none = xs.drop n := by
  unfold cutV
  rw [HT.sIx_none, HT.sIx_nat]
  rcases Nat.le_total n xs.length with small | big
  · have all : ((xs.drop n).take (xs.length - n)) = xs.drop n := by rw [← List.length_drop]; exact List.take_length
    rw [Nat.min_eq_left small]
    exact all
  · simp [Nat.min_eq_right big, List.drop_eq_nil_of_le big]
/-- a thing put into a list -/
def spPut : Sp := fun vs H Q _ => ∃ (p a : Addr) (xs : List V) (x : V), vs = [.ref p, .ref a, x] ∧ IsPot H p ∧ a ≠ p ∧ H a = some (.lst xs) ∧ xs.length ≤ 100 ∧ ∀ (l : Addr) (k : Nat) (H' : Hp), But p H H' → IsPot H' p → l ≠ p → k ≤ xs.length → H' l = some (.lst (xs.take k ++ x :: xs.drop k)) → Q (.ref l) H'
theorem ok_put {f : Addr} {fd : FuncData} (F : Fun K "_law_put" "_law_put" s__law_put f fd) (T : Txt mg) (O__law_take : Own P w K mg base CX0 1 "_law_take" spTake) : FnOk P w K mg base CX0 2 f fd P__law_put spPut := by
  refine F.ok sc__law_put (fun vs H Q E h => ?_) (fun cdv A outer s H vs Q E hr h => ?_)
  · obtain ⟨p, a, xs, x, rfl, _⟩ := h
    rfl
  · obtain ⟨p, a, xs, x, rfl, hp, na, ha, hl, q⟩ := h
    refine ⟨_, (pss_cons (ps_set (i := 3) sc__law_put.nd rfl (Or.inl rfl) (pe_own O__law_take (hr.mono (by decide)) pass0 rfl (pa_cons (pv 0) (pa_cons (pe_op op_AddF (pe_callB call_lenF rfl T.n_len rfl (pa_cons (pv 1) pa_nil)) pe_int) pa_nil))))
      (pss_one (ps_ret (pe_op op_AddF (pe_op op_AddF (pe_slice sl_uni (pv 1) po_none (po_some (pv 3))) (pe_lst (pa_cons (pv 2) pa_nil))) (pe_slice sl_uni (pv 1) (po_some (pv 3)) po_none))))), ?_⟩
    simp only [N__law_put]
    clear hr F T O__law_take
    have len : lenV H (.ref a) = some xs.length := lenV_l ha
    have keep := And.intro hp (And.intro na (And.intro ha (And.intro hl q)))
    clear hp na ha hl q
    walk_at "rd"
    obtain ⟨hp, na, ha, hl, q⟩ := keep
    refine ⟨p, xs.length + 1, rfl, hp, by omega, by omega, fun d x1 y1 d0 d1 => ?_⟩
    obtain ⟨k, rfl⟩ : ∃ k : Nat, d = k := ⟨d.toNat, by omega⟩
    have pot : (upd H p (HO.lst [V.int x1, V.int y1])) p = some (HO.lst [V.int x1, V.int y1]) := upd_same
    have b0 : But p H (upd H p (HO.lst [V.int x1, V.int y1])) := But.upd p H _
    have ha1 : (upd H p (HO.lst [V.int x1, V.int y1])) a = some (.lst xs) := b0 _ _ na ha
    generalize upd H p (HO.lst [V.int x1, V.int y1]) = H1 at pot b0 ha1 ⊢
    refine ⟨k, rfl, xs, .inl ha1, fun ⟨ys, z⟩ => (by rw [ha1] at z; cases z), fun c o hc ho => ⟨by decide, fun e he => ?_⟩⟩
    have eo : o = .lst (xs.take k) := by
      rcases ho with ⟨z, _⟩ | ⟨_, z⟩
      · rw [z, cut_take]
      · rw [ha1] at z; cases z
    subst eo
    have s2 : Same H1 (upd H1 c (HO.lst (xs.take k))) := Same.upd hc
    have c2 : (upd H1 c (HO.lst (xs.take k))) c = some (HO.lst (xs.take k)) := upd_same
    generalize upd H1 c (HO.lst (xs.take k)) = H2 at he s2 c2 ⊢
    have s3 : Same H2 (upd H2 e (HO.lst [x])) := Same.upd he
    have e3 : (upd H2 e (HO.lst [x])) e = some (HO.lst [x]) := upd_same
    generalize upd H2 e (HO.lst [x]) = H3 at s3 e3 ⊢
    have small : ∀ n : Nat, n ≤ 1000 → n ≤ sizeLine := fun n h => Nat.le_trans h (by decide)
    refine ⟨_, catO_ll (s3 _ _ c2) e3 (small _ (by rw [List.length_take]; simp; omega)), fun g hg => ?_⟩
    have s4 : Same H3 (upd H3 g (HO.lst (xs.take k ++ [x]))) := Same.upd hg
    have g4 : (upd H3 g (HO.lst (xs.take k ++ [x]))) g = some (HO.lst (xs.take k ++ [x])) := upd_same
    generalize upd H3 g (HO.lst (xs.take k ++ [x])) = H4 at s4 g4 ⊢
    have ha4 := s4 _ _ (s3 _ _ (s2 _ _ ha1))
    refine ⟨k, rfl, xs, .inl ha4, fun ⟨ys, z⟩ => (by rw [ha4] at z; cases z), fun i o2 hi ho2 => ?_⟩
    have eo2 : o2 = .lst (xs.drop k) := by
      rcases ho2 with ⟨z, _⟩ | ⟨_, z⟩
      · rw [z, cut_drop]
      · rw [ha4] at z; cases z
    subst eo2
    have s5 : Same H4 (upd H4 i (HO.lst (xs.drop k))) := Same.upd hi
    have i5 : (upd H4 i (HO.lst (xs.drop k))) i = some (HO.lst (xs.drop k)) := upd_same
    generalize upd H4 i (HO.lst (xs.drop k)) = H5 at s5 i5 ⊢
    refine ⟨_, catO_ll (s5 _ _ g4) i5 (small _ (by rw [List.length_append, List.length_take, List.length_drop]; simp; omega)), fun j hj => ?_⟩
    have s15 := ((s2.trans s3).trans s4).trans s5
    have nj : j ≠ p := (ne_of_none (s15 _ _ pot) hj).symm
    refine q j k _ (fun b o n z => Same.upd hj _ _ (s15 _ _ (b0 _ _ n z))) ⟨x1, y1, Same.upd hj _ _ (s15 _ _ pot)⟩ nj (by omega) ?_
    rw [upd_same, List.append_assoc]
    rfl
theorem del_same' {H H' : Hp} {p : Addr} (b : But p H H') : Same (del H p) (del H' p) := b.del
theorem ints_known (H : Hp) (ns : List Int) : ∀ x ∈ ns.map V.int, Known H x := fun x hx => by
  obtain ⟨n, _, rfl⟩ := List.mem_map.mp hx
  exact ⟨"int", rfl⟩
/-- numbers that are refused, beside the pot -/
def spBadCounts : Sp := fun vs H Q _ => ∃ p : Addr, vs = [.ref p] ∧ IsPot H p ∧ ∀ (v : V) (r : Option (List V)) (H' : Hp), But p H H' → IsPot H' p → Thing (del H' p) v r → countsR 0 r = false → countsR 1 r = false → Q v H'
theorem long_bad (xs : List V) (h : 5 ≤ xs.length) (k : Int) : countsR k (some xs) = false := by rw [countsR_some, decide_eq_false (show ¬ xs.length ≤ 4 by omega), Bool.and_false, Bool.false_and]
theorem one_bad {xs : List V} {x : V} (h : x ∈ xs) (b : good x = false) (k : Int) : countsR k (some xs) = false := by
  have e : xs.all good = false := by
    cases z : xs.all good with
    | false => rfl
    | true => rw [List.all_eq_true.mp z x h] at b; cases b
  rw [countsR_some, e, Bool.and_false]
theorem ok_badCounts {f : Addr} {fd : FuncData} (F : Fun K "_law_bad_counts" "_law_bad_counts" s__law_bad_counts f fd) (T : Txt mg) (O__law_take : Own P w K mg base CX0 1 "_law_take" spTake) (O__law_thing : Own P w K mg base CX0 2 "_law_thing" spThing) (O__law_put : Own P w K mg base CX0 2 "_law_put" spPut) (O__law_counts : Own P w K mg base CX0 2 "_law_counts" spCountsL) (O__law_bad_count : Own P w K mg base CX0 2 "_law_bad_count" spBadCount) : FnOk P w K mg base CX0 3 f fd P__law_bad_counts spBadCounts := by
  refine F.ok sc__law_bad_counts (fun vs H Q E h => ?_) (fun cdv A outer s H vs Q E hr h => ?_)
  · obtain ⟨p, rfl, _⟩ := h
    rfl
  · obtain ⟨p, rfl, hp, q⟩ := h
    have hu := hr.units
    refine ⟨_, (pss_cons (ps_set (i := 1) sc__law_bad_counts.nd rfl (Or.inl rfl) (pe_own O__law_take (hr.mono (by decide)) pass0 rfl (pa_cons (pv 0) (pa_cons pe_int pa_nil))))
      (pss_cons (ps_if (pt_cmpR (op_EqF hu) (pv 1) pe_int (nomark _)) (pss_one (ps_ret (pe_own O__law_thing (hr.mono (by decide)) pass0 rfl (pa_cons (pv 0) pa_nil)))) pss_nil)
      (pss_cons (ps_if (pt_cmpR (op_EqF hu) (pv 1) pe_int (nomark _)) (pss_one (ps_ret (pe_comp rfl (CompSc.by (N := N__law_bad_counts) (names := (defScope s__law_bad_counts).names) (N' := ["_law_k", "_law_pot_here"]) (src := [none, some 0]) (by decide +kernel) rfl rfl) (pi_range1 rfl T.n_range (pa_cons (pe_op op_AddF pe_int (pe_own O__law_take (hr.mono (by decide)) pass0 rfl (pa_cons (pv 0) (pa_cons pe_int pa_nil)))) pa_nil)) (fun _ _ _ _ => (pg_name (i := 0) (show List.Nodup (["_law_k", "_law_pot_here"] : List Str) by decide +kernel) rfl (Or.inl rfl))) (fun _ _ _ _ => pts_nil) (fun _ _ _ _ => (pe_op op_AddF pe_int (pe_own O__law_take (hr.mono (by decide)) pass0 rfl (pa_cons (pv 1) (pa_cons pe_int pa_nil)))))))) pss_nil)
      (pss_one (ps_ret (pe_own O__law_put (hr.mono (by decide)) pass0 rfl (pa_cons (pv 0) (pa_cons (pe_slice sl_uni (pe_own O__law_counts (hr.mono (by decide)) pass0 rfl (pa_cons (pv 0) pa_nil)) po_none (po_some pe_int)) (pa_cons (pe_own O__law_bad_count (hr.mono (by decide)) pass0 rfl (pa_cons (pv 0) pa_nil)) pa_nil))))))))), ?_⟩
    simp only [N__law_bad_counts]
    clear hr F T hu O__law_take O__law_thing O__law_put O__law_counts O__law_bad_count
    have keep := And.intro hp q
    clear hp q
    walk_at "rd"
    obtain ⟨hp, q⟩ := keep
    refine ⟨p, 3, rfl, hp, by decide, by decide, fun d x1 y1 d0 d1 => ?_⟩
    have pot : (upd H p (HO.lst [V.int x1, V.int y1])) p = some (HO.lst [V.int x1, V.int y1]) := upd_same
    have b0 : But p H (upd H p (HO.lst [V.int x1, V.int y1])) := But.upd p H _
    generalize upd H p (HO.lst [V.int x1, V.int y1]) = H1 at pot b0 ⊢
    dsimp only
    rw [rEqD_ii]
    refine ⟨_, rfl, ?_⟩
    by_cases w0 : d = 0
    · rw [if_pos (decide_eq_true w0)]
      exact ⟨p, rfl, ⟨x1, y1, pot⟩, fun v H' b2 pt th => q v none H' (b0.trans b2) pt th rfl rfl⟩
    · rw [if_neg (by rw [decide_eq_true_eq]; exact w0), rEqD_ii]
      refine ⟨_, rfl, ?_⟩
      by_cases w1 : d = 1
      · rw [if_pos (decide_eq_true w1)]
        refine ⟨p, 3, rfl, ⟨x1, y1, pot⟩, by decide, by decide, fun d2 x2 y2 e0 e1 => ⟨.int (5 + d2), rfl, 5 + d2, rfl, by omega, by omega, ?_⟩⟩
        refine compB_range (CInv p H1) ⟨[], x2, y2, none, rfl, rfl, by simp, rfl, rfl⟩ ?_ ?_
        · rintro i acc σ H2 hi ⟨ns, x, y, o, rfl, hl, hn, rfl, rfl⟩
          clear q hp pot b0
          walk_at "rd"
          refine ⟨p, 4, rfl, ⟨_, _, upd_same⟩, by decide, by decide, fun d x2 y2 d0 d1 => ?_⟩
          walk_at "rd"
          refine ⟨Nat.lt_of_le_of_lt (m := 10) (by rw [List.length_map]; omega) (by decide), ns ++ [1 + d], x2, y2, _, by simp, by simp [hl], fun m hm => ?_, rfl, rfl⟩
          rcases List.mem_append.mp hm with h | h
          · exact hn m h
          · rw [List.mem_singleton.mp h]; omega
        · rintro acc σ H2 ⟨ns, x2, y2, o, rfl, hl, hn, rfl, rfl⟩ c hc
          have hp1 : IsPot (upd H1 p (.lst [.int x2, .int y2])) p := ⟨x2, y2, upd_same⟩
          have npc := hp1.ne hc
          have big : 5 ≤ (ns.map V.int).length := by rw [List.length_map]; omega
          refine q (.ref c) (some (ns.map V.int)) _ (b0.trans ((But.upd p H1 _).trans (But.new hc))) (hp1.but npc) (.seq (.inl (del_some upd_same npc.symm)) (ints_known _ ns) (by rw [List.length_map]; omega)) (long_bad _ big 0) (long_bad _ big 1)
      · rw [if_neg (by rw [decide_eq_true_eq]; exact w1)]
        refine ⟨p, rfl, ⟨x1, y1, pot⟩, fun l ns H2 hl h2 b2 pt2 il => ⟨l, rfl, ns.map V.int, .inl h2, fun ⟨ys, z⟩ => (by rw [h2] at z; cases z), fun c o hc ho => ?_⟩⟩
        have eo : o = .lst ((ns.map V.int).take 3) := by
          rcases ho with ⟨z, _⟩ | ⟨_, z⟩
          · rw [z]
            exact congrArg HO.lst (cut_take (ns.map V.int) 3)
          · rw [h2] at z; cases z
        subst eo
        have npc := pt2.ne hc
        refine ⟨p, rfl, pt2.but npc, fun x H3 b3 pt3 kn bad => ⟨p, c, _, x, rfl, pt3, npc.symm, b3 _ _ npc.symm upd_same, by rw [List.length_take]; omega, fun l2 k H4 b4 pt4 n2 hk h4 => ?_⟩⟩
        refine q (.ref l2) (some _) H4 (((b0.trans b2).trans (But.new hc)).trans (b3.trans b4)) pt4 (.seq (.inl (del_some h4 n2)) (fun y hy => ?_) ?_) (one_bad (List.mem_append_right _ List.mem_cons_self) bad 0) (one_bad (List.mem_append_right _ List.mem_cons_self) bad 1)
        · rcases List.mem_append.mp hy with z | z
          · exact ints_known _ ns y (List.mem_of_mem_take (List.mem_of_mem_take z))
          · rcases List.mem_cons.mp z with rfl | z
            · exact kn.same b4.del
            · exact ints_known _ ns y (List.mem_of_mem_take (List.mem_of_mem_drop z))
        · rw [List.length_append, List.length_cons, List.length_take, List.length_drop, List.length_take]
          omega
/-- two sides that are refused -/
def spBadSides : Sp := fun vs H Q _ => ∃ p : Addr, vs = [.ref p] ∧ IsPot H p ∧ ∀ (t : Addr) (a b : V) (l r : Option (List V)) (H' : Hp), But p H H' → IsPot H' p → t ≠ p → H' t = some (.tup [a, b]) → Thing (del H' p) a l → Thing (del H' p) b r → eqBad l r → Q (.ref t) H'
theorem ok_badSides {f : Addr} {fd : FuncData} (F : Fun K "_law_bad_sides" "_law_bad_sides" s__law_bad_sides f fd) (T : Txt mg) (O__law_take : Own P w K mg base CX0 1 "_law_take" spTake) (O__law_counts : Own P w K mg base CX0 2 "_law_counts" spCountsL) (O__law_bad_counts : Own P w K mg base CX0 3 "_law_bad_counts" spBadCounts) : FnOk P w K mg base CX0 4 f fd P__law_bad_sides spBadSides := by
  refine F.ok sc__law_bad_sides (fun vs H Q E h => ?_) (fun cdv A outer s H vs Q E hr h => ?_)
  · obtain ⟨p, rfl, _⟩ := h
    rfl
  · obtain ⟨p, rfl, hp, q⟩ := h
    have hu := hr.units
    refine ⟨_, (pss_cons (ps_set (i := 1) sc__law_bad_sides.nd rfl (Or.inl rfl) (pe_own O__law_take (hr.mono (by decide)) pass0 rfl (pa_cons (pv 0) (pa_cons pe_int pa_nil))))
      (pss_cons (ps_if (pt_cmpR (op_EqF hu) (pv 1) pe_int (nomark _)) (pss_one (ps_ret (pe_tup (pa_cons (pe_lst pa_nil) (pa_cons (pe_ix ix_F (pe_lst (pa_cons (pe_lst pa_nil) (pa_cons (pe_tup pa_nil) pa_nil))) (pe_own O__law_take (hr.mono (by decide)) pass0 rfl (pa_cons (pv 0) (pa_cons pe_int pa_nil))) (fun _ _ => rfl)) pa_nil))))) pss_nil)
      (pss_cons (ps_if (pt_cmpR (op_EqF hu) (pv 1) pe_int (nomark _)) (pss_one (ps_ret (pe_tup (pa_cons (pe_own O__law_bad_counts (hr.mono (by decide)) pass0 rfl (pa_cons (pv 0) pa_nil)) (pa_cons (pe_own O__law_bad_counts (hr.mono (by decide)) pass0 rfl (pa_cons (pv 0) pa_nil)) pa_nil))))) pss_nil)
      (pss_cons (ps_if (pt_cmpR (op_EqF hu) (pv 1) pe_int (nomark _)) (pss_one (ps_ret (pe_tup (pa_cons (pe_own O__law_counts (hr.mono (by decide)) pass0 rfl (pa_cons (pv 0) pa_nil)) (pa_cons (pe_own O__law_bad_counts (hr.mono (by decide)) pass0 rfl (pa_cons (pv 0) pa_nil)) pa_nil))))) pss_nil)
      (pss_one (ps_ret (pe_tup (pa_cons (pe_own O__law_bad_counts (hr.mono (by decide)) pass0 rfl (pa_cons (pv 0) pa_nil)) (pa_cons (pe_own O__law_counts (hr.mono (by decide)) pass0 rfl (pa_cons (pv 0) pa_nil)) pa_nil))))))))), ?_⟩
    simp only [N__law_bad_sides]
    clear hr F T hu O__law_take O__law_counts O__law_bad_counts
    have keep := And.intro hp q
    clear hp q
    walk_at "rd"
    obtain ⟨hp, q⟩ := keep
    refine ⟨p, 4, rfl, hp, by decide, by decide, fun d x1 y1 d0 d1 => ?_⟩
    have pot : (upd H p (HO.lst [V.int x1, V.int y1])) p = some (HO.lst [V.int x1, V.int y1]) := upd_same
    have b0 : But p H (upd H p (HO.lst [V.int x1, V.int y1])) := But.upd p H _
    generalize upd H p (HO.lst [V.int x1, V.int y1]) = H1 at pot b0 ⊢
    dsimp only
    rw [rEqD_ii]
    refine ⟨_, rfl, ?_⟩
    have fin : ∀ (a b : V) (l r : Option (List V)) (H5 : Hp), But p H H5 → IsPot H5 p → Thing (del H5 p) a l → Thing (del H5 p) b r → eqBad l r → 2 ≤ sizeLine ∧ ∀ t, H5 t = none → Q (.ref t) (upd H5 t (.tup [a, b])) := fun a b l r H5 bt pt ta tb bad =>
      ⟨by decide, fun t ht => q t a b l r _ (bt.trans (But.new ht)) (pt.but (pt.ne ht)) (pt.ne ht).symm upd_same (ta.same (But.new ht).del) (tb.same (But.new ht).del) bad⟩
    have cnt : ∀ {H5 : Hp} {l : Addr} {ns : List Int}, H5 l = some (.lst (ns.map V.int)) → l ≠ p → IntL ns → Thing (del H5 p) (.ref l) (some (ns.map V.int)) := fun {H5 l ns} h n il => .seq (.inl (del_some h n)) (ints_known _ ns) (by rw [List.length_map]; have := il.1; omega)
    by_cases w0 : d = 0
    · rw [if_pos (decide_eq_true w0)]
      refine ⟨by decide, fun a ha => ⟨by decide, fun b hb => ⟨by decide, fun c hc => ⟨by decide, fun e he => ?_⟩⟩⟩⟩
      have s2 : Same H1 (upd H1 a (HO.lst [])) := Same.upd ha
      have a2 : (upd H1 a (HO.lst [])) a = some (HO.lst []) := upd_same
      have na : a ≠ p := (ne_of_none pot ha).symm
      generalize upd H1 a (HO.lst []) = H2 at hb hc he s2 a2 ⊢
      have s3 : Same H2 (upd H2 b (HO.lst [])) := Same.upd hb
      have b3 : (upd H2 b (HO.lst [])) b = some (HO.lst []) := upd_same
      have nb : b ≠ p := (ne_of_none (s2 _ _ pot) hb).symm
      generalize upd H2 b (HO.lst []) = H3 at hc he s3 b3 ⊢
      have s4 : Same H3 (upd H3 c (HO.tup [])) := Same.upd hc
      have c4 : (upd H3 c (HO.tup [])) c = some (HO.tup []) := upd_same
      have nc : c ≠ p := (ne_of_none (s3 _ _ (s2 _ _ pot)) hc).symm
      generalize upd H3 c (HO.tup []) = H4 at he s4 c4 ⊢
      have pot4 := s4 _ _ (s3 _ _ (s2 _ _ pot))
      have ne : e ≠ p := (ne_of_none pot4 he).symm
      refine ⟨p, 2, rfl, ⟨x1, y1, by rw [upd_ne ne.symm]; exact pot4⟩, by decide, by decide, fun d2 x2 y2 e0 e1 => ?_⟩
      have lst : (upd (upd H4 e (HO.lst [V.ref b, V.ref c])) p (HO.lst [V.int x2, V.int y2])) e = some (HO.lst [V.ref b, V.ref c]) := by rw [upd_ne ne, upd_same]
      have bt : But p H4 (upd (upd H4 e (HO.lst [V.ref b, V.ref c])) p (HO.lst [V.int x2, V.int y2])) := (But.new he).trans (But.upd p _ _)
      have pt : IsPot (upd (upd H4 e (HO.lst [V.ref b, V.ref c])) p (HO.lst [V.int x2, V.int y2])) p := ⟨x2, y2, upd_same⟩
      generalize upd (upd H4 e (HO.lst [V.ref b, V.ref c])) p (HO.lst [V.int x2, V.int y2]) = H5 at lst bt pt ⊢
      have b14 : But p H1 H4 := fun x o n z => s4 _ _ (s3 _ _ (s2 _ _ z))
      have b5 : But p H H5 := b0.trans (b14.trans bt)
      have ta : Thing (del H5 p) (.ref a) (some []) := .seq (.inl (del_some (bt _ _ na (s4 _ _ (s3 _ _ a2))) na)) (by simp) (by simp)
      have tb : Thing (del H5 p) (.ref b) (some []) := .seq (.inl (del_some (bt _ _ nb (s4 _ _ b3)) nb)) (by simp) (by simp)
      have tc : Thing (del H5 p) (.ref c) (some []) := .seq (.inr (del_some (bt _ _ nc c4) nc)) (by simp) (by simp)
      dsimp only
      rw [ixV_ref, lst]
      have two : d2 = 0 ∨ d2 = 1 := by omega
      rcases two with rfl | rfl
      · exact ⟨_, rfl, fin _ _ _ _ H5 b5 pt ta tb (.inr (.inr ⟨rfl, rfl⟩))⟩
      · exact ⟨_, rfl, fin _ _ _ _ H5 b5 pt ta tc (.inr (.inr ⟨rfl, rfl⟩))⟩
    · rw [if_neg (by rw [decide_eq_true_eq]; exact w0), rEqD_ii]
      refine ⟨_, rfl, ?_⟩
      by_cases w1 : d = 1
      · rw [if_pos (decide_eq_true w1)]
        exact ⟨p, rfl, ⟨x1, y1, pot⟩, fun a l H2 b2 pt2 ta c0 _ => ⟨p, rfl, pt2, fun b r H3 b3 pt3 tb c1 _ => fin a b l r H3 ((b0.trans b2).trans b3) pt3 (ta.same b3.del) tb (.inl c0)⟩⟩
      · rw [if_neg (by rw [decide_eq_true_eq]; exact w1), rEqD_ii]
        refine ⟨_, rfl, ?_⟩
        by_cases w2 : d = 2
        · rw [if_pos (decide_eq_true w2)]
          refine ⟨p, rfl, ⟨x1, y1, pot⟩, fun l ns H2 hl h2 b2 pt2 il => ⟨p, rfl, pt2, fun b r H3 b3 pt3 tb c0 _ => ?_⟩⟩
          have nl : l ≠ p := (ne_of_none pot hl).symm
          exact fin (.ref l) b _ r H3 ((b0.trans b2).trans b3) pt3 ((cnt h2 nl il).same b3.del) tb (.inr (.inl c0))
        · rw [if_neg (by rw [decide_eq_true_eq]; exact w2)]
          refine ⟨p, rfl, ⟨x1, y1, pot⟩, fun a l H2 b2 pt2 ta c0 _ => ⟨p, rfl, pt2, fun m ns H3 hm h3 b3 pt3 il => ?_⟩⟩
          exact fin a (.ref m) l _ H3 ((b0.trans b2).trans b3) pt3 (ta.same b3.del) (cnt h3 (pt2.ne hm).symm il) (.inl c0)
/-- a row that is none, for so many -/
def spBadRow : Sp := fun vs H Q _ => ∃ (p : Addr) (n : Nat), vs = [.ref p, .int n] ∧ IsPot H p ∧ 1 ≤ n ∧ n ≤ 100 ∧ ∀ (v : V) (r : Option (List V)) (H' : Hp), But p H H' → IsPot H' p → Thing (del H' p) v r → rowR n r = false → Q v H'
theorem ok_badRow {f : Addr} {fd : FuncData} (F : Fun K "_law_bad_row" "_law_bad_row" s__law_bad_row f fd) (T : Txt mg) (O__law_take : Own P w K mg base CX0 1 "_law_take" spTake) (O__law_thing : Own P w K mg base CX0 2 "_law_thing" spThing) : FnOk P w K mg base CX0 3 f fd P__law_bad_row spBadRow := by
  refine F.ok sc__law_bad_row (fun vs H Q E h => ?_) (fun cdv A outer s H vs Q E hr h => ?_)
  · obtain ⟨p, n, rfl, _⟩ := h
    rfl
  · obtain ⟨p, n, rfl, hp, n1, n2, q⟩ := h
    have hu := hr.units
    refine ⟨_, (pss_cons (ps_set (i := 2) sc__law_bad_row.nd rfl (Or.inl rfl) (pe_own O__law_take (hr.mono (by decide)) pass0 rfl (pa_cons (pv 0) (pa_cons pe_int pa_nil))))
      (pss_cons (ps_if (pt_cmpR (op_EqF hu) (pv 2) pe_int (nomark _)) (pss_one (ps_ret (pe_own O__law_thing (hr.mono (by decide)) pass0 rfl (pa_cons (pv 0) pa_nil)))) pss_nil)
      (pss_cons (ps_if (pt_cmpR (op_EqF hu) (pv 2) pe_int (nomark _)) (pss_one (ps_ret (pe_op (op_mul.or op_rep) (pe_lst (pa_cons pe_int pa_nil)) (pe_op op_AddF (pe_op op_AddF (pv 1) pe_int) (pe_own O__law_take (hr.mono (by decide)) pass0 rfl (pa_cons (pv 0) (pa_cons pe_int pa_nil))))))) pss_nil)
      (pss_cons (ps_if (pt_cmpR (op_EqF hu) (pv 2) pe_int (nomark _)) (pss_one (ps_ret (pe_op (op_mul.or op_rep) (pe_lst (pa_cons pe_int pa_nil)) (pe_op op_sub (pv 1) pe_int)))) pss_nil)
      (pss_cons (ps_set (i := 3) sc__law_bad_row.nd rfl (Or.inl rfl) (pe_ix ix_F (pe_lst (pa_cons (pe_un un_neg pe_int) (pa_cons pe_bl (pa_cons pe_str (pa_cons pe_non (pa_cons (pe_tup pa_nil) (pa_cons (pe_un un_neg (pe_op op_pow pe_int pe_int)) (pa_cons (pe_lst (pa_cons pe_int pa_nil)) pa_nil)))))))) (pe_own O__law_take (hr.mono (by decide)) pass0 rfl (pa_cons (pv 0) (pa_cons pe_int pa_nil))) (fun _ _ => rfl)))
      (pss_cons (ps_set (i := 4) sc__law_bad_row.nd rfl (Or.inl rfl) (pe_own O__law_take (hr.mono (by decide)) pass0 rfl (pa_cons (pv 0) (pa_cons (pv 1) pa_nil))))
      (pss_one (ps_ret (pe_op op_AddF (pe_op op_AddF (pe_op (op_mul.or op_rep) (pe_lst (pa_cons pe_int pa_nil)) (pv 4)) (pe_lst (pa_cons (pv 3) pa_nil))) (pe_op (op_mul.or op_rep) (pe_lst (pa_cons pe_int pa_nil)) (pe_op op_sub (pe_op op_sub (pv 1) pe_int) (pv 4)))))))))))), ?_⟩
    simp only [N__law_bad_row]
    clear hr F T hu O__law_take O__law_thing
    have keep := And.intro hp (And.intro n1 (And.intro n2 q))
    clear hp q n1 n2
    walk_at "rd"
    obtain ⟨hp, n1, n2, q⟩ := keep
    refine ⟨p, 4, rfl, hp, by decide, by decide, fun d x1 y1 d0 d1 => ?_⟩
    have pot : (upd H p (HO.lst [V.int x1, V.int y1])) p = some (HO.lst [V.int x1, V.int y1]) := upd_same
    have b0 : But p H (upd H p (HO.lst [V.int x1, V.int y1])) := But.upd p H _
    generalize upd H p (HO.lst [V.int x1, V.int y1]) = H1 at pot b0 ⊢
    dsimp only
    rw [rEqD_ii]
    refine ⟨_, rfl, ?_⟩
    have fin : ∀ (c : Addr) (xs : List V) (H5 : Hp), But p H H5 → IsPot H5 p → H5 c = none → (∀ x ∈ xs, Known (del H5 p) x) → xs.length ≤ 1000 → rowR n (some xs) = false → Q (.ref c) (upd H5 c (.lst xs)) := fun c xs H5 bt pt hc kn hl bad =>
      q (.ref c) (some xs) _ (bt.trans (But.new hc)) (pt.but (pt.ne hc)) (.seq (.inl (del_some upd_same (pt.ne hc).symm)) (fun x hx => (kn x hx).same (But.new hc).del) hl) bad
    have zk : ∀ (H5 : Hp) (k : Nat), ∀ x ∈ List.replicate k (V.int 0), Known H5 x := fun H5 k x hx => by rw [List.eq_of_mem_replicate hx]; exact ⟨"int", rfl⟩
    have long : ∀ xs : List V, xs.length ≠ n → rowR n (some xs) = false := fun xs h => by rw [rowR_some, decide_eq_false h, Bool.false_and]
    have small : ∀ m : Nat, m ≤ 1000 → m ≤ sizeLine := fun m h => Nat.le_trans h (by decide)
    by_cases w0 : d = 0
    · rw [if_pos (decide_eq_true w0)]
      exact ⟨p, rfl, ⟨x1, y1, pot⟩, fun v H' b2 pt th => q v none H' (b0.trans b2) pt th rfl⟩
    · rw [if_neg (by rw [decide_eq_true_eq]; exact w0), rEqD_ii]
      refine ⟨_, rfl, ?_⟩
      by_cases w1 : d = 1
      · rw [if_pos (decide_eq_true w1)]
        refine ⟨by decide, fun a ha => ?_⟩
        have na : a ≠ p := (ne_of_none pot ha).symm
        refine ⟨p, 3, rfl, ⟨x1, y1, by rw [upd_ne na.symm]; exact pot⟩, by decide, by decide, fun d2 x2 y2 e0 e1 => ?_⟩
        refine ⟨.int (n + 1 + d2), rfl, n + 1 + d2, rfl, [.int 0], by rw [upd_ne na, upd_same], by omega, by omega, ?_, fun c hc => ?_⟩
        · exact small _ (by simp; omega)
        · rw [List.flatten_replicate_singleton]
          refine fin c _ _ (b0.trans ((But.new ha).trans (But.upd p _ _))) ⟨x2, y2, upd_same⟩ hc (zk _ _) ?_ (long _ ?_)
          · rw [List.length_replicate]; omega
          · rw [List.length_replicate]; omega
      · rw [if_neg (by rw [decide_eq_true_eq]; exact w1), rEqD_ii]
        refine ⟨_, rfl, ?_⟩
        by_cases w2 : d = 2
        · rw [if_pos (decide_eq_true w2)]
          refine ⟨by decide, fun a ha => ⟨by omega, by omega, small _ (by omega), fun c hc => ?_⟩⟩
          have na : a ≠ p := (ne_of_none pot ha).symm
          rw [List.flatten_replicate_singleton]
          refine fin c _ _ (b0.trans (But.new ha)) ⟨x1, y1, by rw [upd_ne na.symm]; exact pot⟩ hc (zk _ _) ?_ (long _ ?_)
          · rw [List.length_replicate]; omega
          · rw [List.length_replicate]; omega
        · rw [if_neg (by rw [decide_eq_true_eq]; exact w2)]
          refine ⟨by decide, fun a ha => ⟨⟨by decide, by decide, by decide⟩, by decide, fun b hb => ⟨by decide, fun c hc => ?_⟩⟩⟩
          have s2 : Same H1 (upd H1 a (HO.tup [])) := Same.upd ha
          have a2 : (upd H1 a (HO.tup [])) a = some (HO.tup []) := upd_same
          have na : a ≠ p := (ne_of_none pot ha).symm
          generalize upd H1 a (HO.tup []) = H2 at hb hc s2 a2 ⊢
          have s3 : Same H2 (upd H2 b (HO.lst [V.int 0])) := Same.upd hb
          have b3 : (upd H2 b (HO.lst [V.int 0])) b = some (HO.lst [V.int 0]) := upd_same
          have nb : b ≠ p := (ne_of_none (s2 _ _ pot) hb).symm
          generalize upd H2 b (HO.lst [V.int 0]) = H3 at hc s3 b3 ⊢
          have pot3 := s3 _ _ (s2 _ _ pot)
          have nc : c ≠ p := (ne_of_none pot3 hc).symm
          generalize hL : [V.int (-1), V.bl true, V.str (Str.ofString "0"), V.non, V.ref a, V.int (-10 ^ Int.toNat 30), V.ref b] = L at hc ⊢
          refine ⟨p, 7, rfl, ⟨x1, y1, by rw [upd_ne nc.symm]; exact pot3⟩, by decide, by decide, fun d2 x2 y2 e0 e1 => ?_⟩
          have lst : (upd (upd H3 c (HO.lst L)) p (HO.lst [V.int x2, V.int y2])) c = some (HO.lst L) := by rw [upd_ne nc, upd_same]
          have bt : But p H3 (upd (upd H3 c (HO.lst L)) p (HO.lst [V.int x2, V.int y2])) := (But.new hc).trans (But.upd p _ _)
          have pt : IsPot (upd (upd H3 c (HO.lst L)) p (HO.lst [V.int x2, V.int y2])) p := ⟨x2, y2, upd_same⟩
          generalize upd (upd H3 c (HO.lst L)) p (HO.lst [V.int x2, V.int y2]) = H4 at lst bt pt ⊢
          have b14 : But p H1 H4 := fun x o n z => bt _ _ n (s3 _ _ (s2 _ _ z))
          have bad : ∃ x, ixV H4 (V.ref c) (V.int d2) = some x ∧ Known (del H4 p) x ∧ good0 x = false := by
            have la : tyN (del H4 p) (.ref a) = some "tuple" := by
              unfold tyN
              dsimp only
              rw [del_some (bt _ _ na (s3 _ _ a2)) na]
            have lb : tyN (del H4 p) (.ref b) = some "list" := by
              unfold tyN
              dsimp only
              rw [del_some (bt _ _ nb b3) nb]
            have c7 : d2 = 0 ∨ d2 = 1 ∨ d2 = 2 ∨ d2 = 3 ∨ d2 = 4 ∨ d2 = 5 ∨ d2 = 6 := by omega
            subst hL
            rcases c7 with rfl | rfl | rfl | rfl | rfl | rfl | rfl
            all_goals rw [ixV_ref, lst]
            · exact ⟨_, rfl, ⟨"int", rfl⟩, rfl⟩
            · exact ⟨_, rfl, ⟨"bool", rfl⟩, rfl⟩
            · exact ⟨_, rfl, ⟨"str", rfl⟩, rfl⟩
            · exact ⟨_, rfl, ⟨"NoneType", rfl⟩, rfl⟩
            · exact ⟨_, rfl, ⟨"tuple", la⟩, rfl⟩
            · exact ⟨_, rfl, ⟨"int", rfl⟩, by rw [good0_int]; decide⟩
            · exact ⟨_, rfl, ⟨"list", lb⟩, rfl⟩
          obtain ⟨x, ix, kx, bx⟩ := bad
          dsimp only
          refine ⟨x, ix, p, n, rfl, pt, by omega, by omega, fun k x3 y3 k0 k1 => ?_⟩
          have b45 : But p H4 (upd H4 p (HO.lst [V.int x3, V.int y3])) := But.upd p H4 _
          have pt5 : IsPot (upd H4 p (HO.lst [V.int x3, V.int y3])) p := ⟨x3, y3, upd_same⟩
          generalize upd H4 p (HO.lst [V.int x3, V.int y3]) = H5 at b45 pt5 ⊢
          have kx5 := kx.same b45.del
          dsimp only
          refine ⟨by decide, fun e he => ⟨k, rfl, by omega, by omega, small _ (by omega), fun g hg => ⟨by decide, fun m hm => ?_⟩⟩⟩
          have s6 : Same H5 (upd H5 e (HO.lst [V.int 0])) := Same.upd he
          generalize upd H5 e (HO.lst [V.int 0]) = H6 at hg hm s6 ⊢
          rw [List.flatten_replicate_singleton] at hm ⊢
          have s7 : Same H6 (upd H6 g (HO.lst (List.replicate k.toNat (V.int 0)))) := Same.upd hg
          have g7 : (upd H6 g (HO.lst (List.replicate k.toNat (V.int 0)))) g = some (HO.lst (List.replicate k.toNat (V.int 0))) := upd_same
          generalize upd H6 g (HO.lst (List.replicate k.toNat (V.int 0))) = H7 at hm s7 g7 ⊢
          have s8 : Same H7 (upd H7 m (HO.lst [x])) := Same.upd hm
          have m8 : (upd H7 m (HO.lst [x])) m = some (HO.lst [x]) := upd_same
          generalize upd H7 m (HO.lst [x]) = H8 at s8 m8 ⊢
          refine ⟨_, catO_ll (s8 _ _ g7) m8 (small _ (by rw [List.length_replicate]; simp; omega)), fun r hr => ⟨by decide, fun u hu => ⟨k, rfl, by omega, by omega, small _ (by omega), fun v hv => ?_⟩⟩⟩
          have s9 : Same H8 (upd H8 r (HO.lst (List.replicate k.toNat (V.int 0) ++ [x]))) := Same.upd hr
          have r9 : (upd H8 r (HO.lst (List.replicate k.toNat (V.int 0) ++ [x]))) r = some (HO.lst (List.replicate k.toNat (V.int 0) ++ [x])) := upd_same
          generalize upd H8 r (HO.lst (List.replicate k.toNat (V.int 0) ++ [x])) = H9 at hu hv s9 r9 ⊢
          have s10 : Same H9 (upd H9 u (HO.lst [V.int 0])) := Same.upd hu
          generalize upd H9 u (HO.lst [V.int 0]) = H10 at hv s10 ⊢
          rw [List.flatten_replicate_singleton]
          have s11 : Same H10 (upd H10 v (HO.lst (List.replicate ((n : Int) - 1 - k).toNat (V.int 0)))) := Same.upd hv
          have v11 : (upd H10 v (HO.lst (List.replicate ((n : Int) - 1 - k).toNat (V.int 0)))) v = some (HO.lst (List.replicate ((n : Int) - 1 - k).toNat (V.int 0))) := upd_same
          generalize upd H10 v (HO.lst (List.replicate ((n : Int) - 1 - k).toNat (V.int 0))) = H11 at s11 v11 ⊢
          refine ⟨_, catO_ll (s11 _ _ (s10 _ _ r9)) v11 (small _ (by rw [List.length_append, List.length_replicate, List.length_replicate]; simp; omega)), fun z hz => ?_⟩
          have s511 : Same H5 H11 := ((((s6.trans s7).trans s8).trans s9).trans s10).trans s11
          have b511 : But p H5 H11 := fun i o _ w => s511 _ _ w
          refine fin z _ H11 (((b0.trans b14).trans b45).trans b511) (by obtain ⟨i, j, w⟩ := pt5; exact ⟨i, j, s511 _ _ w⟩) hz (fun y hy => ?_) ?_ ?_
          · rcases List.mem_append.mp hy with w | w
            · rcases List.mem_append.mp w with w | w
              · exact zk _ _ y w
              · rw [List.mem_singleton.mp w]; exact kx5.same b511.del
            · exact zk _ _ y w
          · rw [List.length_append, List.length_append, List.length_replicate, List.length_replicate]; simp; omega
          · have mem : x ∈ List.replicate k.toNat (V.int 0) ++ [x] ++ List.replicate ((n : Int) - 1 - k).toNat (V.int 0) := List.mem_append_left _ (List.mem_append_right _ List.mem_cons_self)
            have e : (List.replicate k.toNat (V.int 0) ++ [x] ++ List.replicate ((n : Int) - 1 - k).toNat (V.int 0)).all good0 = false := by
              cases w : (List.replicate k.toNat (V.int 0) ++ [x] ++ List.replicate ((n : Int) - 1 - k).toNat (V.int 0)).all good0 with
              | false => rfl
              | true => rw [List.all_eq_true.mp w x mem] at bx; cases bx
            rw [rowR_some, e, Bool.and_false]
theorem good_ints {ns : List Int} (h : IntL ns) (k : Int) (hk : k ≤ ns.length) : countsR k (some (ns.map V.int)) = true := by
  have e : (ns.map V.int).all good = true := List.all_eq_true.mpr fun x hx => by
    obtain ⟨n, hn, rfl⟩ := List.mem_map.mp hx
    have := h.2 n hn
    rw [good_int, decide_eq_true this.1, decide_eq_true this.2]; rfl
  have := h.1
  rw [countsR_some, e, decide_eq_true (by rw [List.length_map]; exact hk), decide_eq_true (by rw [List.length_map]; exact this)]; rfl
theorem kinds_rep {H : Hp} {z : Addr} {k : Bool} (h : H z = some (.lst (kindsOf k))) : Rep H (.lst [.bl true, .bl true, .bl !k, .bl k, .bl false]) (.ref z) :=
  ⟨z, kindsOf k, rfl, h, _, _, rfl, rfl, _, _, rfl, rfl, _, _, rfl, rfl, _, _, rfl, rfl, _, _, rfl, rfl, rfl⟩
theorem ne_kinds {H : Hp} {z c : Addr} {k : Bool} {Q : VK} (hz : H z = some (.lst (kindsOf k))) (hc : H c = some (.lst (kindsOf k))) (q : Q (.bl false) H) : rNeD (.ref z) (.ref c) H Q :=
  ⟨_, _, kinds_rep hz, kinds_rep hc, by cases k <;> decide, by rw [eqD_refl]; exact q⟩
theorem eq_kinds {H : Hp} {z c : Addr} {k : Bool} {Q : VK} (hz : H z = some (.lst (kindsOf k))) (hc : H c = some (.lst (kindsOf k))) (q : Q (.bl true) H) : rEqD (.ref z) (.ref c) H Q :=
  ⟨_, _, kinds_rep hz, kinds_rep hc, by cases k <;> decide, by rw [eqD_refl]; exact q⟩
theorem thing_all {H : Hp} {p : Addr} {v : V} {r : Option (List V)} (h : Thing (del H p) v r) : Thing H v r := h.same (del_same H p)
theorem known_all {H : Hp} {p : Addr} {v : V} (h : Known (del H p) v) : Known H v := h.same (del_same H p)
def LInv (a p c r : Addr) (va vb : V) (H3 : Hp) (i : Nat) (σ : St) (H' : Hp) : Prop := ∃ o6, σ = [some (.ref a), some (.ref p), some (.ref c), some (.ref r), some va, some vb, o6, none, none] ∧ But p H3 H' ∧ IsPot H' p
def spLaw (K : PySem.W.Frag) : Sp := fun vs H Q _ => ∃ (a : Addr) (ns : List Int), vs = [.ref a] ∧ SqL K H a (ns.map V.int) ∧ ns.length ≤ 63 ∧ ∀ H', Q (.bl true) H'
theorem ok_law {CN : Addr} {f : Addr} {fd : FuncData} (F : Fun K "law" "law" s_law f fd) (T : Txt mg) (O__law_at : Own P w K mg base CX0 1 "_law_at" (spAt K)) (O__law_pot : Own P w K mg base CX0 1 "_law_pot" spPot) (O__law_take : Own P w K mg base CX0 1 "_law_take" spTake) (O__law_counts : Own P w K mg base CX0 2 "_law_counts" spCountsL) (O__law_bad_counts : Own P w K mg base CX0 3 "_law_bad_counts" spBadCounts)
    (O__law_bad_sides : Own P w K mg base CX0 4 "_law_bad_sides" spBadSides) (O__law_bad_row : Own P w K mg base CX0 3 "_law_bad_row" spBadRow) (O__law_of_rows : Own P w K mg base CX0 6 "_law_of_rows" spOfRows) (O__law_of_shares : Own P w K mg base CX0 4 "_law_of_shares" (spOfShares CN)) : FnOk P w K mg base CX0 7 f fd P_law (spLaw K) := by
  refine F.ok sc_law (fun vs H Q E h => ?_) (fun cdv A outer s H vs Q E hr h => ?_)
  · obtain ⟨a, ns, rfl, _⟩ := h
    rfl
  · obtain ⟨a, ns, rfl, ha, hl, q⟩ := h
    have hu := hr.units
    refine ⟨_, (pss_cons (ps_set (i := 1) sc_law.nd rfl (Or.inl rfl) (pe_own O__law_pot (hr.mono (by decide)) pass0 rfl (pa_cons (pe_own O__law_at (hr.mono (by decide)) pass0 rfl (pa_cons (pv 0) (pa_cons pe_int pa_nil))) pa_nil)))
      (pss_cons (ps_set (i := 2) sc_law.nd rfl (Or.inl rfl) (pe_lst (pa_cons pe_bl (pa_cons pe_bl (pa_cons pe_bl (pa_cons pe_bl (pa_cons pe_bl pa_nil)))))))
      (pss_cons (ps_set (i := 3) sc_law.nd rfl (Or.inl rfl) (pe_lst (pa_cons pe_bl (pa_cons pe_bl (pa_cons pe_bl (pa_cons pe_bl (pa_cons pe_bl pa_nil)))))))
      (pss_cons (ps_asg (pe_own O__law_bad_sides (hr.mono (by decide)) pass0 rfl (pa_cons (pv 1) pa_nil)) (pg_pairK K rfl (i := 4) (j := 5) rfl sc_law.nd rfl rfl rfl rfl))
      (pss_cons (ps_for PassesOwn.never rfl (pi_sqK K rfl (pe_tup (pa_cons pe_int (pa_cons pe_int (pa_cons pe_int pa_nil))))) (pg_name (i := 6) sc_law.nd rfl (Or.inl rfl)) (pss_one (ps_if (pt_cmpR (op_NeF hu) (pe_own O__law_of_rows (hr.mono (by decide)) pass0 rfl (pa_cons (pv 6) (pa_cons (pv 4) (pa_cons (pv 5) (pa_cons (pe_own O__law_bad_row (hr.mono (by decide)) pass0 rfl (pa_cons (pv 1) (pa_cons pe_int pa_nil))) pa_nil))))) (pv 2) (nomark _)) (pss_one (ps_ret pe_bl)) pss_nil)))
      (pss_cons (ps_set (i := 4) sc_law.nd rfl (Or.inl rfl) (pe_op op_AddF (pe_lst (pa_cons (pe_op op_AddF pe_int (pe_own O__law_take (hr.mono (by decide)) pass0 rfl (pa_cons (pv 1) (pa_cons pe_int pa_nil)))) pa_nil)) (pe_slice sl_uni (pe_own O__law_counts (hr.mono (by decide)) pass0 rfl (pa_cons (pv 1) pa_nil)) po_none (po_some pe_int))))
      (pss_cons (ps_set (i := 5) sc_law.nd rfl (Or.inl rfl) (pe_own O__law_counts (hr.mono (by decide)) pass0 rfl (pa_cons (pv 1) pa_nil)))
      (pss_cons (ps_set (i := 7) sc_law.nd rfl (Or.inl rfl) (pe_own O__law_bad_row (hr.mono (by decide)) pass0 rfl (pa_cons (pv 1) (pa_cons (pe_op op_AddF (pe_callB call_lenF rfl T.n_len rfl (pa_cons (pv 4) pa_nil)) (pe_callB call_lenF rfl T.n_len rfl (pa_cons (pv 5) pa_nil))) pa_nil))))
      (pss_cons (ps_if (PW.pt (pw_or (pt_cmpR (op_NeF hu) (pe_own O__law_of_rows (hr.mono (by decide)) pass0 rfl (pa_cons pe_int (pa_cons (pv 4) (pa_cons (pv 5) (pa_cons (pv 7) pa_nil))))) (pv 3) (nomark _)) (pw_or1 (pt_cmpR (op_NeF hu) (pe_own O__law_of_rows (hr.mono (by decide)) pass0 rfl (pa_cons pe_int (pa_cons (pv 4) (pa_cons (pv 5) (pa_cons (pv 7) pa_nil))))) (pv 3) (nomark _))))) (pss_one (ps_ret pe_bl)) pss_nil)
      (pss_cons (ps_set (i := 8) sc_law.nd rfl (Or.inl rfl) (pe_ix ix_F (pe_lst (pa_cons pe_int (pa_cons (pe_un un_neg pe_int) (pa_cons pe_bl (pa_cons pe_str (pa_cons pe_non (pa_cons (pe_op op_pow pe_int pe_int) (pa_cons (pe_lst (pa_cons pe_int pa_nil)) pa_nil)))))))) (pe_own O__law_take (hr.mono (by decide)) pass0 rfl (pa_cons (pv 1) (pa_cons pe_int pa_nil))) (fun _ _ => rfl)))
      (pss_cons (ps_if (PW.pt (pw_or (pt_cmpR (op_NeF hu) (pe_own O__law_of_shares (hr.mono (by decide)) pass0 rfl (pa_cons (pv 4) (pa_cons (pv 8) pa_nil))) (pv 2) (nomark _)) (pw_or1 (pt_cmpR (op_NeF hu) (pe_own O__law_of_shares (hr.mono (by decide)) pass0 rfl (pa_cons (pe_lst pa_nil) (pa_cons (pe_own O__law_take (hr.mono (by decide)) pass0 rfl (pa_cons (pv 1) (pa_cons pe_int pa_nil))) pa_nil))) (pv 2) (nomark _))))) (pss_one (ps_ret pe_bl)) pss_nil)
      (pss_one (ps_ret (pe_cmpR (op_EqF hu) (pe_own O__law_of_shares (hr.mono (by decide)) pass0 rfl (pa_cons (pe_own O__law_bad_counts (hr.mono (by decide)) pass0 rfl (pa_cons (pv 1) pa_nil)) (pa_cons (pe_own O__law_take (hr.mono (by decide)) pass0 rfl (pa_cons (pv 1) (pa_cons pe_int pa_nil))) pa_nil))) (pv 2) (nomark _))))))))))))))), ?_⟩
    simp only [N_law]
    clear hr F T hu O__law_at O__law_pot O__law_take O__law_counts O__law_bad_counts O__law_bad_sides O__law_bad_row O__law_of_rows O__law_of_shares
    have keep := And.intro ha (And.intro hl q)
    clear ha hl q
    walk_at "rd"
    obtain ⟨ha, hl, q⟩ := keep
    refine ⟨a, 0, ns, rfl, ha, by decide, by decide, fun n => ⟨n, rfl, fun p x0 y0 hp => ?_⟩⟩
    dsimp only
    refine ⟨by decide, fun c hc => ⟨by decide, fun r hr => ?_⟩⟩
    have pot : (upd H p (HO.lst [V.int x0, V.int y0])) p = some (HO.lst [V.int x0, V.int y0]) := upd_same
    generalize upd H p (HO.lst [V.int x0, V.int y0]) = H1 at hc hr pot ⊢
    have nc : c ≠ p := (ne_of_none pot hc).symm
    have s2 : Same H1 (upd H1 c (HO.lst [V.bl true, V.bl true, V.bl true, V.bl false, V.bl false])) := Same.upd hc
    have c2 : (upd H1 c (HO.lst [V.bl true, V.bl true, V.bl true, V.bl false, V.bl false])) c = some (.lst (kindsOf false)) := upd_same
    generalize upd H1 c (HO.lst [V.bl true, V.bl true, V.bl true, V.bl false, V.bl false]) = H2 at hr s2 c2 ⊢
    have nr : r ≠ p := (ne_of_none (s2 _ _ pot) hr).symm
    have s3 : Same H2 (upd H2 r (HO.lst [V.bl true, V.bl true, V.bl false, V.bl true, V.bl false])) := Same.upd hr
    have r3 : (upd H2 r (HO.lst [V.bl true, V.bl true, V.bl false, V.bl true, V.bl false])) r = some (.lst (kindsOf true)) := upd_same
    generalize upd H2 r (HO.lst [V.bl true, V.bl true, V.bl false, V.bl true, V.bl false]) = H3 at s3 r3 ⊢
    refine ⟨p, rfl, ⟨x0, y0, s3 _ _ (s2 _ _ pot)⟩, fun t va vb l rr H4 b4 pt4 nt ht ta tb bad => ⟨t, rfl, [va, vb], SqT.of ht, rfl, va, [vb], rfl, vb, [], rfl, rfl, by decide, fun u hu => ⟨_, .inr upd_same, fun J hJ => ?_⟩⟩⟩
    have c4 := b4 _ _ nc (s3 _ _ c2)
    have r4 := b4 _ _ nr r3
    have nu : u ≠ p := (pt4.ne hu).symm
    have s5 : Same H4 (upd H4 u (HO.tup [V.int 0, V.int 1, V.int 2])) := Same.upd hu
    have u5 : (upd H4 u (HO.tup [V.int 0, V.int 1, V.int 2])) u = some (HO.tup [V.int 0, V.int 1, V.int 2]) := upd_same
    have ta5 := ta.same (But.new (o := HO.tup [V.int 0, V.int 1, V.int 2]) hu).del
    have tb5 := tb.same (But.new (o := HO.tup [V.int 0, V.int 1, V.int 2]) hu).del
    have pt5 := pt4.but (o := HO.tup [V.int 0, V.int 1, V.int 2]) nu.symm
    have c5 := s5 _ _ c4
    have r5 := s5 _ _ r4
    generalize upd H4 u (HO.tup [V.int 0, V.int 1, V.int 2]) = H5 at hJ u5 ta5 tb5 pt5 c5 r5 ⊢
    clear ta tb s5 pt4 c4 r4 b4 ht hu
    refine forB_sq hJ (LInv a p c r va vb H5) ⟨_, rfl, But.refl p H5, pt5⟩ ?_ ?_ ?_
    · rintro i σ H' _ ⟨o6, rfl, bt, pt⟩
      rw [bt _ _ nu u5, u5]
    · rintro i x σ H' hx ⟨o6, rfl, bt, pt⟩
      have way : ∃ w : Int, x = .int w := by
        match i, hx with
        | 0, hx => cases hx; exact ⟨_, rfl⟩
        | 1, hx => cases hx; exact ⟨_, rfl⟩
        | 2, hx => cases hx; exact ⟨_, rfl⟩
      obtain ⟨wy, rfl⟩ := way
      clear q hJ
      have keep := And.intro bt (And.intro pt (And.intro ta5 (And.intro tb5 (And.intro bad (And.intro c5 (And.intro r5 hx))))))
      clear bt pt ta5 tb5 bad c5 r5 hx u5 pt5 ha
      walk_at "rd"
      obtain ⟨bt, pt, ta5, tb5, bad, c5, r5, hx⟩ := keep
      refine ⟨p, 2, rfl, pt, by decide, by decide, fun v row H6 b6 pt6 tv _ => ⟨wy, va, vb, v, l, rr, row, false, rfl, thing_all ((ta5.same bt.del).same b6.del), thing_all ((tb5.same bt.del).same b6.del), thing_all tv, .inl ⟨rfl, bad⟩, fun z H7 hz s7 h7 => ?_⟩⟩
      refine ne_kinds h7 (s7 _ _ (b6 _ _ nc (bt _ _ nc c5))) ⟨false, rfl, ?_⟩
      rw [if_neg Bool.false_ne_true]
      exact ⟨_, rfl, bt.trans (b6.trans fun b o _ w => s7 _ _ w), by obtain ⟨i, j, w⟩ := pt6; exact ⟨i, j, s7 _ _ w⟩⟩
    · rintro σ H6 ⟨o6, rfl, bt, pt⟩
      have c6 := bt _ _ nc c5
      have r6 := bt _ _ nr r5
      clear hJ bt c5 r5 ta5 tb5 u5 pt5 nu nt bad s2 s3 c2 r3 pot hc hr ha
      have keep := And.intro c6 (And.intro r6 (And.intro pt q))
      clear c6 r6 pt q
      walk_at "rd"
      obtain ⟨c6, r6, pt, q⟩ := keep
      refine ⟨p, 4, rfl, pt, by decide, by decide, fun d x1 y1 d0 d1 => ⟨.int (1 + d), rfl, by decide, fun e he => ?_⟩⟩
      have b7 : But p H6 (upd H6 p (HO.lst [V.int x1, V.int y1])) := But.upd p H6 _
      have pt7 : (upd H6 p (HO.lst [V.int x1, V.int y1])) p = some (HO.lst [V.int x1, V.int y1]) := upd_same
      generalize upd H6 p (HO.lst [V.int x1, V.int y1]) = H7 at he b7 pt7 ⊢
      have ne : e ≠ p := (ne_of_none pt7 he).symm
      have b8 : But p H7 (upd H7 e (HO.lst [V.int (1 + d)])) := But.new he
      have e8 : (upd H7 e (HO.lst [V.int (1 + d)])) e = some (HO.lst [V.int (1 + d)]) := upd_same
      have pt8 : IsPot (upd H7 e (HO.lst [V.int (1 + d)])) p := ⟨x1, y1, by rw [upd_ne ne.symm]; exact pt7⟩
      generalize upd H7 e (HO.lst [V.int (1 + d)]) = H8 at b8 e8 pt8 ⊢
      refine ⟨p, rfl, pt8, fun m ms H9 hm h9 b9 pt9 il => ⟨m, rfl, ms.map V.int, .inl h9, fun ⟨ys, z⟩ => (by rw [h9] at z; cases z), fun g o hg ho => ?_⟩⟩
      have eo : o = .lst ((ms.take 3).map V.int) := by
        rcases ho with ⟨z, _⟩ | ⟨_, z⟩
        · rw [z, List.map_take]
          exact congrArg HO.lst (cut_take (ms.map V.int) 3)
        · rw [h9] at z; cases z
      subst eo
      have s10 : Same H9 (upd H9 g (HO.lst ((ms.take 3).map V.int))) := Same.upd hg
      have g10 : (upd H9 g (HO.lst ((ms.take 3).map V.int))) g = some (HO.lst ((ms.take 3).map V.int)) := upd_same
      generalize upd H9 g (HO.lst ((ms.take 3).map V.int)) = H10 at s10 g10 ⊢
      have len3 : (ms.take 3).length ≤ 3 := by rw [List.length_take]; omega
      refine ⟨_, catO_ll (s10 _ _ (b9 _ _ ne e8)) g10 (Nat.le_trans (m := 10) (by rw [List.length_map]; simp; omega) (by decide)), fun f1 hf => ?_⟩
      have eL : [V.int (1 + d)] ++ (ms.take 3).map V.int = ((1 + d) :: ms.take 3).map V.int := rfl
      rw [eL]
      have ilL : IntL ((1 + d) :: ms.take 3) := ⟨by rw [List.length_cons]; omega, fun y hy => by
        rcases List.mem_cons.mp hy with rfl | late
        · omega
        · exact il.2 y (List.mem_of_mem_take late)⟩
      have pos : 1 ≤ ((1 + d) :: ms.take 3).length := by simp
      generalize (1 + d) :: ms.take 3 = ls at ilL pos ⊢
      have s11 : Same H10 (upd H10 f1 (HO.lst (ls.map V.int))) := Same.upd hf
      have f11 : (upd H10 f1 (HO.lst (ls.map V.int))) f1 = some (HO.lst (ls.map V.int)) := upd_same
      have pt11 : IsPot (upd H10 f1 (HO.lst (ls.map V.int))) p := by obtain ⟨i, j, w⟩ := pt9; exact ⟨i, j, s11 _ _ (s10 _ _ w)⟩
      have nf : f1 ≠ p := by
        obtain ⟨i, j, w⟩ := pt9
        exact (ne_of_none (s10 _ _ w) hf).symm
      generalize upd H10 f1 (HO.lst (ls.map V.int)) = H11 at s11 f11 pt11 ⊢
      have b611 : But p H6 H11 := fun i o n w => s11 _ _ (s10 _ _ (b9 _ _ n (b8 _ _ n (b7 _ _ n w))))
      refine ⟨p, rfl, pt11, fun z zs H12 hz h12 b12 pt12 il2 => ?_⟩
      have nz : z ≠ p := (pt11.ne hz).symm
      have f12 := b12 _ _ nf f11
      refine ⟨_, by rw [lenV_l f12]; rfl, _, by rw [lenV_l h12]; rfl, .inl ⟨_, rfl, ?_⟩⟩
      have c12 := b12 _ _ nc (b611 _ _ nc c6)
      have r12 := b12 _ _ nr (b611 _ _ nr r6)
      refine ⟨p, (ls.map V.int).length + (zs.map V.int).length, by simp, pt12, by rw [List.length_map]; omega, by rw [List.length_map, List.length_map]; have := ilL.1; have := il2.1; omega, fun v row H13 b13 pt13 tv nrow => ?_⟩
      have tl : ∀ {HH : Hp}, HH f1 = some (.lst (ls.map V.int)) → Thing HH (.ref f1) (some (ls.map V.int)) := fun h => .seq (.inl h) (ints_known _ ls) (by rw [List.length_map]; have := ilL.1; omega)
      have tz : ∀ {HH : Hp}, HH z = some (.lst (zs.map V.int)) → Thing HH (.ref z) (some (zs.map V.int)) := fun h => .seq (.inl h) (ints_known _ zs) (by rw [List.length_map]; have := il2.1; omega)
      have good2 : eqGood (ls.map V.int) (zs.map V.int) := ⟨good_ints ilL 0 (by omega), good_ints il2 0 (by omega), by rw [List.length_map]; omega⟩
      have f13 := b13 _ _ nf f12
      have z13 := b13 _ _ nz h12
      have c13 := b13 _ _ nc c12
      have r13 := b13 _ _ nr r12
      refine ⟨0, .ref f1, .ref z, v, _, _, row, true, rfl, tl f13, tz z13, thing_all tv, .inr ⟨rfl, .inl rfl, _, _, rfl, rfl, good2, nrow⟩, fun k1 H14 hk1 s14 h14 => ?_⟩
      refine ne_kinds h14 (s14 _ _ r13) ⟨false, rfl, ?_⟩
      rw [if_neg Bool.false_ne_true]
      refine ⟨1, .ref f1, .ref z, v, _, _, row, true, rfl, tl (s14 _ _ f13), tz (s14 _ _ z13), (thing_all tv).same s14, .inr ⟨rfl, .inr rfl, _, _, rfl, rfl, good2, nrow⟩, fun k2 H15 hk2 s15 h15 => ?_⟩
      refine ne_kinds h15 (s15 _ _ (s14 _ _ r13)) ⟨false, rfl, ?_⟩
      rw [if_neg Bool.false_ne_true]
      have c15 := s15 _ _ (s14 _ _ c13)
      have f15 := s15 _ _ (s14 _ _ f13)
      have pt15 : IsPot H15 p := by obtain ⟨i, j, w⟩ := pt13; exact ⟨i, j, s15 _ _ (s14 _ _ w)⟩
      clear h15 hk2 s15 h14 hk1 s14 r13 z13 f13 c13 tz r12 c12 f12 nz b12 h12 hz b611 s11 f11 pt11 hf s10 g10 ho hg b9 h9 hm b8 e8 pt8 b7 pt7 he c6 r6 pt tv nrow b13 pt13 pt12
      refine ⟨⟨by decide, by decide, by decide⟩, by decide, fun b hb => ⟨by decide, fun w hw => ?_⟩⟩
      have s16 : Same H15 (upd H15 b (HO.lst [V.int 3])) := Same.upd hb
      have b16 : (upd H15 b (HO.lst [V.int 3])) b = some (HO.lst [V.int 3]) := upd_same
      have nb : b ≠ p := (pt15.ne hb).symm
      have pt16 : IsPot (upd H15 b (HO.lst [V.int 3])) p := pt15.but nb.symm
      generalize upd H15 b (HO.lst [V.int 3]) = H16 at hw s16 b16 pt16 ⊢
      have nw : w ≠ p := (pt16.ne hw).symm
      generalize hL : [V.int 25, V.int (-1), V.bl true, V.str (Str.ofString "7"), V.non, V.int (10 ^ Int.toNat 30), V.ref b] = L at ⊢
      refine ⟨p, 7, rfl, pt16.but nw.symm, by decide, by decide, fun d2 x2 y2 e0 e1 => ?_⟩
      have lst : (upd (upd H16 w (HO.lst L)) p (HO.lst [V.int x2, V.int y2])) w = some (HO.lst L) := by rw [upd_ne nw, upd_same]
      have bt : But p H16 (upd (upd H16 w (HO.lst L)) p (HO.lst [V.int x2, V.int y2])) := (But.new hw).trans (But.upd p _ _)
      have pt17 : IsPot (upd (upd H16 w (HO.lst L)) p (HO.lst [V.int x2, V.int y2])) p := ⟨x2, y2, upd_same⟩
      generalize upd (upd H16 w (HO.lst L)) p (HO.lst [V.int x2, V.int y2]) = H17 at lst bt pt17 ⊢
      have bad7 : ∃ x, ixV H17 (V.ref w) (V.int d2) = some x ∧ Known H17 x ∧ wholeBad x = true := by
        have lb : tyN H17 (.ref b) = some "list" := by
          unfold tyN
          dsimp only
          rw [bt _ _ nb b16]
        have c7 : d2 = 0 ∨ d2 = 1 ∨ d2 = 2 ∨ d2 = 3 ∨ d2 = 4 ∨ d2 = 5 ∨ d2 = 6 := by omega
        subst hL
        rcases c7 with rfl | rfl | rfl | rfl | rfl | rfl | rfl
        all_goals rw [ixV_ref, lst]
        · exact ⟨_, rfl, ⟨"int", rfl⟩, by decide⟩
        · exact ⟨_, rfl, ⟨"int", rfl⟩, by decide⟩
        · exact ⟨_, rfl, ⟨"bool", rfl⟩, rfl⟩
        · exact ⟨_, rfl, ⟨"str", rfl⟩, rfl⟩
        · exact ⟨_, rfl, ⟨"NoneType", rfl⟩, rfl⟩
        · exact ⟨_, rfl, ⟨"int", rfl⟩, by decide⟩
        · exact ⟨_, rfl, ⟨"list", lb⟩, rfl⟩
      obtain ⟨x, ix, kx, bx⟩ := bad7
      have c17 := bt _ _ nc (s16 _ _ c15)
      have f17 := bt _ _ nf (s16 _ _ f15)
      dsimp only
      refine ⟨x, ix, .ref f1, x, _, rfl, tl f17, kx, .inr ⟨good_ints ilL 1 (by omega), bx⟩, fun k3 H18 hk3 s18 h18 => ?_⟩
      refine ne_kinds h18 (s18 _ _ c17) ⟨false, rfl, ?_⟩
      rw [if_neg Bool.false_ne_true]
      have pt18 : IsPot H18 p := by obtain ⟨i, j, w⟩ := pt17; exact ⟨i, j, s18 _ _ w⟩
      refine ⟨by decide, fun y hy => ?_⟩
      have ny : y ≠ p := (pt18.ne hy).symm
      refine ⟨p, 25, rfl, pt18.but ny.symm, by decide, by decide, fun d3 x3 y3 g0 g1 => ?_⟩
      have y19 : (upd (upd H18 y (HO.lst [])) p (HO.lst [V.int x3, V.int y3])) y = some (HO.lst []) := by rw [upd_ne ny, upd_same]
      have b19 : But p H18 (upd (upd H18 y (HO.lst [])) p (HO.lst [V.int x3, V.int y3])) := (But.new hy).trans (But.upd p _ _)
      have pt19 : IsPot (upd (upd H18 y (HO.lst [])) p (HO.lst [V.int x3, V.int y3])) p := ⟨x3, y3, upd_same⟩
      generalize upd (upd H18 y (HO.lst [])) p (HO.lst [V.int x3, V.int y3]) = H19 at y19 b19 pt19 ⊢
      have c19 := b19 _ _ nc (s18 _ _ c17)
      refine ⟨.ref y, .int d3, some [], rfl, .seq (.inl y19) (by simp) (by simp), ⟨"int", rfl⟩, .inl rfl, fun k4 H20 hk4 s20 h20 => ?_⟩
      refine ne_kinds h20 (s20 _ _ c19) ⟨false, rfl, ?_⟩
      rw [if_neg Bool.false_ne_true]
      have pt20 : IsPot H20 p := by obtain ⟨i, j, w⟩ := pt19; exact ⟨i, j, s20 _ _ w⟩
      have c20 := s20 _ _ c19
      refine ⟨p, rfl, pt20, fun v2 r2 H21 b21 pt21 tv2 _ n1 => ⟨p, 25, rfl, pt21, by decide, by decide, fun d4 x4 y4 j0 j1 => ?_⟩⟩
      have c21 := b21 _ _ nc c20
      refine ⟨v2, .int d4, r2, rfl, thing_all (tv2.same (But.upd p H21 _).del), ⟨"int", rfl⟩, .inl n1, fun k5 H22 hk5 s22 h22 => ?_⟩
      exact eq_kinds h22 (s22 _ _ (But.upd p H21 _ _ _ nc c21)) (q _)
/-- all that is asked of the classes, as one word -/
def kindsB (K : PySem.W.Frag) (CL CN CR CS CT CM : Addr) : Bool :=
  ([CN, CR].all fun C => ExcCls K C && CatchCls K C && (PySem.W.kitOne K (.ref C) (.ref CL) == some true) && (PySem.W.kitOne K (.ref C) (.type "ValueError") == some true) && (PySem.W.kitAny K (.ref C) [.ref CS, .ref CT, .ref CM] == some false) && (PySem.W.subIn K (.ref C) (.ref CL) == some true)) &&
  (PySem.W.kitOne K (.ref CN) (.ref CN) == some true) && (PySem.W.kitOne K (.ref CN) (.ref CR) == some false) && (PySem.W.kitOne K (.ref CR) (.ref CN) == some false) && (PySem.W.kitOne K (.ref CR) (.ref CR) == some true)
theorem kinds_of {K : PySem.W.Frag} {CL CN CR CS CT CM : Addr} (h : kindsB K CL CN CR CS CT CM = true) : Kinds K CL CN CR CS CT CM ∧ ∀ C ∈ [CN, CR], PySem.W.subIn K (.ref C) (.ref CL) = some true := by
  simp only [kindsB, Bool.and_eq_true, beq_iff_eq] at h
  obtain ⟨⟨⟨⟨h0, h1⟩, h2⟩, h3⟩, h4⟩ := h
  have each : ∀ C ∈ [CN, CR], _ := fun C hC => List.all_eq_true.mp h0 C hC
  simp only [Bool.and_eq_true, beq_iff_eq] at each
  exact ⟨⟨fun C hC => ⟨(each C hC).1.1.1.1.1, (each C hC).1.1.1.1.2⟩, fun C hC => ⟨(each C hC).1.1.1.2, (each C hC).1.1.2, (each C hC).1.2⟩, h1, h2, h3, h4⟩, fun C hC => (each C hC).2⟩
end

theorem all_mk {l : PySem.W.OpenLaw} {w : World} {K : PySem.W.Frag} {h : Heap} {mg : Str → Option Value} {fa f1 f2 f3 f4 f5 f6 f7 f8 f9 f10 f11 f12 f13 f14 f15 f16 f17 f18 f19 f20 f21 f22 C_LikeError C_NoCounts C_NoRow C_NoSide C_NoTerm C_TooMuch : Addr} (X : K.In h) (G : h.Ns mainGlobals mg) (hfa : mg "law" = some (.ref fa))
    {od1 an1 od2 an2 od3 an3 od4 an4 od5 an5 od6 an6 od7 an7 od8 an8 od9 an9 od10 an10 od11 an11 od12 an12 od13 an13 od14 an14 od15 an15 od16 an16 od17 an17 od18 an18 od19 an19 od20 an20 od21 an21 od22 an22 : Option Addr} {sl1 sl2 sl3 sl4 sl5 sl6 sl7 sl8 sl9 sl10 sl11 sl12 sl13 sl14 sl15 sl16 sl17 sl18 sl19 sl20 sl21 sl22 : Array (Option Value)} {oc1 kV1 dc1 pm1 cd1 ct1 oc2 kV2 dc2 pm2 cd2 ct2 oc3 kV3 dc3 pm3 cd3 ct3 oc4 kV4 dc4 pm4 cd4 ct4 oc5 kV5 dc5 pm5 cd5 ct5 oc6 kV6 dc6 pm6 cd6 ct6 oc7 kV7 dc7 pm7 cd7 ct7 oc8 kV8 dc8 pm8 cd8 ct8 oc9 kV9 dc9 pm9 cd9 ct9 oc10 kV10 dc10 pm10 cd10 ct10 oc11 kV11 dc11 pm11 cd11 ct11 oc12 kV12 dc12 pm12 cd12 ct12 oc13 kV13 dc13 pm13 cd13 ct13 oc14 kV14 dc14 pm14 cd14 ct14 oc15 kV15 dc15 pm15 cd15 ct15 oc16 kV16 dc16 pm16 cd16 ct16 oc17 kV17 dc17 pm17 cd17 ct17 oc18 kV18 dc18 pm18 cd18 ct18 oc19 kV19 dc19 pm19 cd19 ct19 oc20 kV20 dc20 pm20 cd20 ct20 oc21 kV21 dc21 pm21 cd21 ct21 oc22 kV22 dc22 pm22 cd22 ct22 : Value} {tk0 tk1 tk2 : Tok}
    (a1 : PySem.W.nsIn K mainGlobals "is_whole" = some (some (.ref f1))) (l1 : K.lookup f1 = some ⟨oc1, od1, .func (PySem.W.fnOf "is_whole" "is_whole" (defArgs s_is_whole) (defBody s_is_whole) (defScope s_is_whole) .none kV1 dc1 pm1 an1 cd1 ct1), sl1⟩) (c1 : PySem.W.codeIn K cd1 "is_whole" = true) (k1 : PySem.W.keepIn K (.ref f1) = true)
    (a2 : PySem.W.nsIn K mainGlobals "is_counts" = some (some (.ref f2))) (l2 : K.lookup f2 = some ⟨oc2, od2, .func (PySem.W.fnOf "is_counts" "is_counts" (defArgs s_is_counts) (defBody s_is_counts) (defScope s_is_counts) .none kV2 dc2 pm2 an2 cd2 ct2), sl2⟩) (c2 : PySem.W.codeIn K cd2 "is_counts" = true) (k2 : PySem.W.keepIn K (.ref f2) = true)
    (a3 : PySem.W.nsIn K mainGlobals "check_equation" = some (some (.ref f3))) (l3 : K.lookup f3 = some ⟨oc3, od3, .func (PySem.W.fnOf "check_equation" "check_equation" (defArgs s_check_equation) (defBody s_check_equation) (defScope s_check_equation) .none kV3 dc3 pm3 an3 cd3 ct3), sl3⟩) (c3 : PySem.W.codeIn K cd3 "check_equation" = true) (k3 : PySem.W.keepIn K (.ref f3) = true)
    (a4 : PySem.W.nsIn K mainGlobals "check_row" = some (some (.ref f4))) (l4 : K.lookup f4 = some ⟨oc4, od4, .func (PySem.W.fnOf "check_row" "check_row" (defArgs s_check_row) (defBody s_check_row) (defScope s_check_row) .none kV4 dc4 pm4 an4 cd4 ct4), sl4⟩) (c4 : PySem.W.codeIn K cd4 "check_row" = true) (k4 : PySem.W.keepIn K (.ref f4) = true)
    (a5 : PySem.W.nsIn K mainGlobals "holds" = some (some (.ref f5))) (l5 : K.lookup f5 = some ⟨oc5, od5, .func (PySem.W.fnOf "holds" "holds" (defArgs s_holds) (defBody s_holds) (defScope s_holds) .none kV5 dc5 pm5 an5 cd5 ct5), sl5⟩) (c5 : PySem.W.codeIn K cd5 "holds" = true) (k5 : PySem.W.keepIn K (.ref f5) = true)
    (a6 : PySem.W.nsIn K mainGlobals "least_rows" = some (some (.ref f6))) (l6 : K.lookup f6 = some ⟨oc6, od6, .func (PySem.W.fnOf "least_rows" "least_rows" (defArgs s_least_rows) (defBody s_least_rows) (defScope s_least_rows) .none kV6 dc6 pm6 an6 cd6 ct6), sl6⟩) (c6 : PySem.W.codeIn K cd6 "least_rows" = true) (k6 : PySem.W.keepIn K (.ref f6) = true)
    (a7 : PySem.W.nsIn K mainGlobals "made_of" = some (some (.ref f7))) (l7 : K.lookup f7 = some ⟨oc7, od7, .func (PySem.W.fnOf "made_of" "made_of" (defArgs s_made_of) (defBody s_made_of) (defScope s_made_of) .none kV7 dc7 pm7 an7 cd7 ct7), sl7⟩) (c7 : PySem.W.codeIn K cd7 "made_of" = true) (k7 : PySem.W.keepIn K (.ref f7) = true)
    (a8 : PySem.W.nsIn K mainGlobals "shares" = some (some (.ref f8))) (l8 : K.lookup f8 = some ⟨oc8, od8, .func (PySem.W.fnOf "shares" "shares" (defArgs s_shares) (defBody s_shares) (defScope s_shares) .none kV8 dc8 pm8 an8 cd8 ct8), sl8⟩) (c8 : PySem.W.codeIn K cd8 "shares" = true) (k8 : PySem.W.keepIn K (.ref f8) = true)
    (a9 : PySem.W.nsIn K mainGlobals "_law_at" = some (some (.ref f9))) (l9 : K.lookup f9 = some ⟨oc9, od9, .func (PySem.W.fnOf "_law_at" "_law_at" (defArgs s__law_at) (defBody s__law_at) (defScope s__law_at) .none kV9 dc9 pm9 an9 cd9 ct9), sl9⟩) (c9 : PySem.W.codeIn K cd9 "_law_at" = true) (k9 : PySem.W.keepIn K (.ref f9) = true)
    (a10 : PySem.W.nsIn K mainGlobals "_law_pot" = some (some (.ref f10))) (l10 : K.lookup f10 = some ⟨oc10, od10, .func (PySem.W.fnOf "_law_pot" "_law_pot" (defArgs s__law_pot) (defBody s__law_pot) (defScope s__law_pot) .none kV10 dc10 pm10 an10 cd10 ct10), sl10⟩) (c10 : PySem.W.codeIn K cd10 "_law_pot" = true) (k10 : PySem.W.keepIn K (.ref f10) = true)
    (a11 : PySem.W.nsIn K mainGlobals "_law_take" = some (some (.ref f11))) (l11 : K.lookup f11 = some ⟨oc11, od11, .func (PySem.W.fnOf "_law_take" "_law_take" (defArgs s__law_take) (defBody s__law_take) (defScope s__law_take) .none kV11 dc11 pm11 an11 cd11 ct11), sl11⟩) (c11 : PySem.W.codeIn K cd11 "_law_take" = true) (k11 : PySem.W.keepIn K (.ref f11) = true)
    (a12 : PySem.W.nsIn K mainGlobals "_law_counts" = some (some (.ref f12))) (l12 : K.lookup f12 = some ⟨oc12, od12, .func (PySem.W.fnOf "_law_counts" "_law_counts" (defArgs s__law_counts) (defBody s__law_counts) (defScope s__law_counts) .none kV12 dc12 pm12 an12 cd12 ct12), sl12⟩) (c12 : PySem.W.codeIn K cd12 "_law_counts" = true) (k12 : PySem.W.keepIn K (.ref f12) = true)
    (a13 : PySem.W.nsIn K mainGlobals "_law_thing" = some (some (.ref f13))) (l13 : K.lookup f13 = some ⟨oc13, od13, .func (PySem.W.fnOf "_law_thing" "_law_thing" (defArgs s__law_thing) (defBody s__law_thing) (defScope s__law_thing) .none kV13 dc13 pm13 an13 cd13 ct13), sl13⟩) (c13 : PySem.W.codeIn K cd13 "_law_thing" = true) (k13 : PySem.W.keepIn K (.ref f13) = true)
    (a14 : PySem.W.nsIn K mainGlobals "_law_bad_count" = some (some (.ref f14))) (l14 : K.lookup f14 = some ⟨oc14, od14, .func (PySem.W.fnOf "_law_bad_count" "_law_bad_count" (defArgs s__law_bad_count) (defBody s__law_bad_count) (defScope s__law_bad_count) .none kV14 dc14 pm14 an14 cd14 ct14), sl14⟩) (c14 : PySem.W.codeIn K cd14 "_law_bad_count" = true) (k14 : PySem.W.keepIn K (.ref f14) = true)
    (a15 : PySem.W.nsIn K mainGlobals "_law_put" = some (some (.ref f15))) (l15 : K.lookup f15 = some ⟨oc15, od15, .func (PySem.W.fnOf "_law_put" "_law_put" (defArgs s__law_put) (defBody s__law_put) (defScope s__law_put) .none kV15 dc15 pm15 an15 cd15 ct15), sl15⟩) (c15 : PySem.W.codeIn K cd15 "_law_put" = true) (k15 : PySem.W.keepIn K (.ref f15) = true)
    (a16 : PySem.W.nsIn K mainGlobals "_law_bad_counts" = some (some (.ref f16))) (l16 : K.lookup f16 = some ⟨oc16, od16, .func (PySem.W.fnOf "_law_bad_counts" "_law_bad_counts" (defArgs s__law_bad_counts) (defBody s__law_bad_counts) (defScope s__law_bad_counts) .none kV16 dc16 pm16 an16 cd16 ct16), sl16⟩) (c16 : PySem.W.codeIn K cd16 "_law_bad_counts" = true) (k16 : PySem.W.keepIn K (.ref f16) = true)
    (a17 : PySem.W.nsIn K mainGlobals "_law_bad_sides" = some (some (.ref f17))) (l17 : K.lookup f17 = some ⟨oc17, od17, .func (PySem.W.fnOf "_law_bad_sides" "_law_bad_sides" (defArgs s__law_bad_sides) (defBody s__law_bad_sides) (defScope s__law_bad_sides) .none kV17 dc17 pm17 an17 cd17 ct17), sl17⟩) (c17 : PySem.W.codeIn K cd17 "_law_bad_sides" = true) (k17 : PySem.W.keepIn K (.ref f17) = true)
    (a18 : PySem.W.nsIn K mainGlobals "_law_bad_row" = some (some (.ref f18))) (l18 : K.lookup f18 = some ⟨oc18, od18, .func (PySem.W.fnOf "_law_bad_row" "_law_bad_row" (defArgs s__law_bad_row) (defBody s__law_bad_row) (defScope s__law_bad_row) .none kV18 dc18 pm18 an18 cd18 ct18), sl18⟩) (c18 : PySem.W.codeIn K cd18 "_law_bad_row" = true) (k18 : PySem.W.keepIn K (.ref f18) = true)
    (a19 : PySem.W.nsIn K mainGlobals "_law_kinds" = some (some (.ref f19))) (l19 : K.lookup f19 = some ⟨oc19, od19, .func (PySem.W.fnOf "_law_kinds" "_law_kinds" (defArgs s__law_kinds) (defBody s__law_kinds) (defScope s__law_kinds) .none kV19 dc19 pm19 an19 cd19 ct19), sl19⟩) (c19 : PySem.W.codeIn K cd19 "_law_kinds" = true) (k19 : PySem.W.keepIn K (.ref f19) = true)
    (a20 : PySem.W.nsIn K mainGlobals "_law_of_rows" = some (some (.ref f20))) (l20 : K.lookup f20 = some ⟨oc20, od20, .func (PySem.W.fnOf "_law_of_rows" "_law_of_rows" (defArgs s__law_of_rows) (defBody s__law_of_rows) (defScope s__law_of_rows) .none kV20 dc20 pm20 an20 cd20 ct20), sl20⟩) (c20 : PySem.W.codeIn K cd20 "_law_of_rows" = true) (k20 : PySem.W.keepIn K (.ref f20) = true)
    (a21 : PySem.W.nsIn K mainGlobals "_law_of_shares" = some (some (.ref f21))) (l21 : K.lookup f21 = some ⟨oc21, od21, .func (PySem.W.fnOf "_law_of_shares" "_law_of_shares" (defArgs s__law_of_shares) (defBody s__law_of_shares) (defScope s__law_of_shares) .none kV21 dc21 pm21 an21 cd21 ct21), sl21⟩) (c21 : PySem.W.codeIn K cd21 "_law_of_shares" = true) (k21 : PySem.W.keepIn K (.ref f21) = true)
    (a22 : PySem.W.nsIn K mainGlobals "law" = some (some (.ref f22))) (l22 : K.lookup f22 = some ⟨oc22, od22, .func (PySem.W.fnOf "law" "law" (defArgs s_law) (defBody s_law) (defScope s_law) .none kV22 dc22 pm22 an22 cd22 ct22), sl22⟩) (c22 : PySem.W.codeIn K cd22 "law" = true) (k22 : PySem.W.keepIn K (.ref f22) = true)
    (m0 : PySem.W.nsIn K mainGlobals "LikeError" = some (some (.ref C_LikeError)))
    (m1 : PySem.W.nsIn K mainGlobals "NoCounts" = some (some (.ref C_NoCounts))) (x1 : PySem.W.excIn K C_NoCounts [.type "ValueError", .type "Exception", .type "BaseException", .type "object"] "ValueError.__new__" = true)
    (m2 : PySem.W.nsIn K mainGlobals "NoRow" = some (some (.ref C_NoRow))) (x2 : PySem.W.excIn K C_NoRow [.type "ValueError", .type "Exception", .type "BaseException", .type "object"] "ValueError.__new__" = true)
    (m3 : PySem.W.nsIn K mainGlobals "NoSide" = some (some (.ref C_NoSide)))
    (m4 : PySem.W.nsIn K mainGlobals "NoTerm" = some (some (.ref C_NoTerm)))
    (m5 : PySem.W.nsIn K mainGlobals "TooMuch" = some (some (.ref C_TooMuch)))
    (y0 : CatchCls K C_LikeError = true)
    (y1 : kindsB K C_LikeError C_NoCounts C_NoRow C_NoSide C_NoTerm C_TooMuch = true)
    (v0 : PySem.W.nsIn K mainGlobals "MOST_COUNTS" = some (some (.int 4 tk0)))
    (v1 : PySem.W.nsIn K mainGlobals "GREATEST_COUNT" = some (some (.int 4 tk1)))
    (v2 : PySem.W.nsIn K mainGlobals "GREATEST_WHOLE" = some (some (.int 24 tk2)))
    (z0 : PySem.W.nsIn K mainGlobals "len" = some none) (z1 : PySem.W.nsIn K mainGlobals "range" = some none) (z2 : PySem.W.nsIn K mainGlobals "int" = some none) (z3 : PySem.W.nsIn K mainGlobals "bool" = some none) (z4 : PySem.W.nsIn K mainGlobals "list" = some none) (z5 : PySem.W.nsIn K mainGlobals "tuple" = some none) (z6 : PySem.W.nsIn K mainGlobals "isinstance" = some none) (z7 : PySem.W.nsIn K mainGlobals "all" = some none) (z8 : PySem.W.nsIn K mainGlobals "max" = some none) (z9 : PySem.W.nsIn K mainGlobals "ValueError" = some none) :
    ∃ fd : FuncData, (∀ (s : Shared) (v : Value), BindsTo s fd ⟨[v], []⟩ [("_law_script", v)]) ∧ ∀ base : Heap, K.In base → base.Ns mainGlobals mg → FnOk l.prog w K mg base CX0 7 fa fd ["_law_script"] (spLaw K) := by
  have e := hfa.symm.trans (PySem.W.mg_of X G a22)
  cases e
  have T : Txt mg := ⟨PySem.W.mg_none_of X G z0, PySem.W.mg_none_of X G z1, PySem.W.mg_none_of X G z2, PySem.W.mg_none_of X G z3, PySem.W.mg_none_of X G z4, PySem.W.mg_none_of X G z5, PySem.W.mg_none_of X G z6, PySem.W.mg_none_of X G z7, PySem.W.mg_none_of X G z8, PySem.W.mg_none_of X G z9, ⟨_, PySem.W.mg_of X G v0, ⟨_, rfl⟩⟩, ⟨_, PySem.W.mg_of X G v1, ⟨_, rfl⟩⟩, ⟨_, PySem.W.mg_of X G v2, ⟨_, rfl⟩⟩⟩
  have F1 := fun_mk (st := s_is_whole) l1 c1 k1
  have b1 := F1.binds (ps := P_is_whole) fun _ _ _ _ _ _ us hl => match us, hl with | [_], _ => rfl
  have F2 := fun_mk (st := s_is_counts) l2 c2 k2
  have b2 := F2.binds (ps := P_is_counts) fun _ _ _ _ _ _ us hl => match us, hl with | [_, _], _ => rfl
  have F3 := fun_mk (st := s_check_equation) l3 c3 k3
  have b3 := F3.binds (ps := P_check_equation) fun _ _ _ _ _ _ us hl => match us, hl with | [_, _], _ => rfl
  have F4 := fun_mk (st := s_check_row) l4 c4 k4
  have b4 := F4.binds (ps := P_check_row) fun _ _ _ _ _ _ us hl => match us, hl with | [_, _, _], _ => rfl
  have F5 := fun_mk (st := s_holds) l5 c5 k5
  have b5 := F5.binds (ps := P_holds) fun _ _ _ _ _ _ us hl => match us, hl with | [_, _, _], _ => rfl
  have F6 := fun_mk (st := s_least_rows) l6 c6 k6
  have b6 := F6.binds (ps := P_least_rows) fun _ _ _ _ _ _ us hl => match us, hl with | [_, _], _ => rfl
  have F7 := fun_mk (st := s_made_of) l7 c7 k7
  have b7 := F7.binds (ps := P_made_of) fun _ _ _ _ _ _ us hl => match us, hl with | [_, _, _], _ => rfl
  have F8 := fun_mk (st := s_shares) l8 c8 k8
  have b8 := F8.binds (ps := P_shares) fun _ _ _ _ _ _ us hl => match us, hl with | [_, _], _ => rfl
  have F9 := fun_mk (st := s__law_at) l9 c9 k9
  have b9 := F9.binds (ps := P__law_at) fun _ _ _ _ _ _ us hl => match us, hl with | [_, _], _ => rfl
  have F10 := fun_mk (st := s__law_pot) l10 c10 k10
  have b10 := F10.binds (ps := P__law_pot) fun _ _ _ _ _ _ us hl => match us, hl with | [_], _ => rfl
  have F11 := fun_mk (st := s__law_take) l11 c11 k11
  have b11 := F11.binds (ps := P__law_take) fun _ _ _ _ _ _ us hl => match us, hl with | [_, _], _ => rfl
  have F12 := fun_mk (st := s__law_counts) l12 c12 k12
  have b12 := F12.binds (ps := P__law_counts) fun _ _ _ _ _ _ us hl => match us, hl with | [_], _ => rfl
  have F13 := fun_mk (st := s__law_thing) l13 c13 k13
  have b13 := F13.binds (ps := P__law_thing) fun _ _ _ _ _ _ us hl => match us, hl with | [_], _ => rfl
  have F14 := fun_mk (st := s__law_bad_count) l14 c14 k14
  have b14 := F14.binds (ps := P__law_bad_count) fun _ _ _ _ _ _ us hl => match us, hl with | [_], _ => rfl
  have F15 := fun_mk (st := s__law_put) l15 c15 k15
  have b15 := F15.binds (ps := P__law_put) fun _ _ _ _ _ _ us hl => match us, hl with | [_, _, _], _ => rfl
  have F16 := fun_mk (st := s__law_bad_counts) l16 c16 k16
  have b16 := F16.binds (ps := P__law_bad_counts) fun _ _ _ _ _ _ us hl => match us, hl with | [_], _ => rfl
  have F17 := fun_mk (st := s__law_bad_sides) l17 c17 k17
  have b17 := F17.binds (ps := P__law_bad_sides) fun _ _ _ _ _ _ us hl => match us, hl with | [_], _ => rfl
  have F18 := fun_mk (st := s__law_bad_row) l18 c18 k18
  have b18 := F18.binds (ps := P__law_bad_row) fun _ _ _ _ _ _ us hl => match us, hl with | [_, _], _ => rfl
  have F19 := fun_mk (st := s__law_kinds) l19 c19 k19
  have b19 := F19.binds (ps := P__law_kinds) fun _ _ _ _ _ _ us hl => match us, hl with | [_], _ => rfl
  have F20 := fun_mk (st := s__law_of_rows) l20 c20 k20
  have b20 := F20.binds (ps := P__law_of_rows) fun _ _ _ _ _ _ us hl => match us, hl with | [_, _, _, _], _ => rfl
  have F21 := fun_mk (st := s__law_of_shares) l21 c21 k21
  have b21 := F21.binds (ps := P__law_of_shares) fun _ _ _ _ _ _ us hl => match us, hl with | [_, _], _ => rfl
  have F22 := fun_mk (st := s_law) l22 c22 k22
  have hm_LikeError := PySem.W.mg_of X G m0
  have g_LikeError : ∃ u, mg "LikeError" = some u ∧ RelV (.ref C_LikeError) u := ⟨_, hm_LikeError, rfl⟩
  have hm_NoCounts := PySem.W.mg_of X G m1
  have hx_NoCounts : ExcIn K C_NoCounts := x1
  have g_NoCounts : ∃ u, mg "NoCounts" = some u ∧ RelV (.ref C_NoCounts) u := ⟨_, hm_NoCounts, rfl⟩
  have hm_NoRow := PySem.W.mg_of X G m2
  have hx_NoRow : ExcIn K C_NoRow := x2
  have g_NoRow : ∃ u, mg "NoRow" = some u ∧ RelV (.ref C_NoRow) u := ⟨_, hm_NoRow, rfl⟩
  have hm_NoSide := PySem.W.mg_of X G m3
  have g_NoSide : ∃ u, mg "NoSide" = some u ∧ RelV (.ref C_NoSide) u := ⟨_, hm_NoSide, rfl⟩
  have hm_NoTerm := PySem.W.mg_of X G m4
  have g_NoTerm : ∃ u, mg "NoTerm" = some u ∧ RelV (.ref C_NoTerm) u := ⟨_, hm_NoTerm, rfl⟩
  have hm_TooMuch := PySem.W.mg_of X G m5
  have g_TooMuch : ∃ u, mg "TooMuch" = some u ∧ RelV (.ref C_TooMuch) u := ⟨_, hm_TooMuch, rfl⟩
  have hk_LikeError := y0
  have hkinds := y1
  have kd := kinds_of hkinds
  refine ⟨PySem.W.fnOf "law" "law" (defArgs s_law) (defBody s_law) (defScope s_law) .none kV22 dc22 pm22 an22 cd22 ct22, fun s v => .of_eq rfl, fun base _ _ => ?_⟩
  have O_is_whole : Own l.prog w K mg base CX0 1 "is_whole" spWhole := ⟨f1, _, _, ok_whole F1 T, PySem.W.mg_of X G a1, k1, b1⟩
  have O_is_counts : Own l.prog w K mg base CX0 2 "is_counts" spCounts := ⟨f2, _, _, ok_counts F2 T O_is_whole, PySem.W.mg_of X G a2, k2, b2⟩
  have O_check_equation : Own l.prog w K mg base (CX1 l.prog w) 3 "check_equation" (spEqn C_NoCounts) := ⟨f3, _, _, ok_eqn F3 T hm_NoCounts hx_NoCounts O_is_counts, PySem.W.mg_of X G a3, k3, b3⟩
  have O_check_row : Own l.prog w K mg base (CX1 l.prog w) 2 "check_row" (spRow C_NoRow) := ⟨f4, _, _, ok_row F4 T hm_NoRow hx_NoRow O_is_whole, PySem.W.mg_of X G a4, k4, b4⟩
  have O_holds : Own l.prog w K mg base (CX1 l.prog w) 4 "holds" (spHolds C_NoCounts C_NoRow) := ⟨f5, _, _, ok_holds F5 T O_check_equation O_check_row, PySem.W.mg_of X G a5, k5, b5⟩
  have O_least_rows : Own l.prog w K mg base (CX1 l.prog w) 4 "least_rows" (spLeast C_NoCounts) := ⟨f6, _, _, ok_least F6 T O_check_equation, PySem.W.mg_of X G a6, k6, b6⟩
  have O_made_of : Own l.prog w K mg base (CX1 l.prog w) 5 "made_of" (spHolds C_NoCounts C_NoRow) := ⟨f7, _, _, ok_made F7 T O_holds, PySem.W.mg_of X G a7, k7, b7⟩
  have O_shares : Own l.prog w K mg base (CX1 l.prog w) 3 "shares" (spShares C_NoCounts) := ⟨f8, _, _, ok_shares F8 T hm_NoCounts hx_NoCounts O_is_counts O_is_whole, PySem.W.mg_of X G a8, k8, b8⟩
  have O__law_at : Own l.prog w K mg base CX0 1 "_law_at" (spAt K) := ⟨f9, _, _, ok_at F9 T, PySem.W.mg_of X G a9, k9, b9⟩
  have O__law_pot : Own l.prog w K mg base CX0 1 "_law_pot" spPot := ⟨f10, _, _, ok_pot F10 T, PySem.W.mg_of X G a10, k10, b10⟩
  have O__law_take : Own l.prog w K mg base CX0 1 "_law_take" spTake := ⟨f11, _, _, ok_take F11 T, PySem.W.mg_of X G a11, k11, b11⟩
  have O__law_counts : Own l.prog w K mg base CX0 2 "_law_counts" spCountsL := ⟨f12, _, _, ok_countsL F12 T O__law_take, PySem.W.mg_of X G a12, k12, b12⟩
  have O__law_thing : Own l.prog w K mg base CX0 2 "_law_thing" spThing := ⟨f13, _, _, ok_thing F13 T O__law_take, PySem.W.mg_of X G a13, k13, b13⟩
  have O__law_bad_count : Own l.prog w K mg base CX0 2 "_law_bad_count" spBadCount := ⟨f14, _, _, ok_badCount F14 T O__law_take, PySem.W.mg_of X G a14, k14, b14⟩
  have O__law_put : Own l.prog w K mg base CX0 2 "_law_put" spPut := ⟨f15, _, _, ok_put F15 T O__law_take, PySem.W.mg_of X G a15, k15, b15⟩
  have O__law_bad_counts : Own l.prog w K mg base CX0 3 "_law_bad_counts" spBadCounts := ⟨f16, _, _, ok_badCounts F16 T O__law_take O__law_thing O__law_put O__law_counts O__law_bad_count, PySem.W.mg_of X G a16, k16, b16⟩
  have O__law_bad_sides : Own l.prog w K mg base CX0 4 "_law_bad_sides" spBadSides := ⟨f17, _, _, ok_badSides F17 T O__law_take O__law_counts O__law_bad_counts, PySem.W.mg_of X G a17, k17, b17⟩
  have O__law_bad_row : Own l.prog w K mg base CX0 3 "_law_bad_row" spBadRow := ⟨f18, _, _, ok_badRow F18 T O__law_take O__law_thing, PySem.W.mg_of X G a18, k18, b18⟩
  have O__law_kinds : OwnH l.prog w K mg base CX0 1 "_law_kinds" (spKinds C_NoCounts C_NoRow) := ⟨f19, _, _, ok_kinds F19 T kd.1 g_LikeError g_NoCounts g_NoRow g_NoSide g_NoTerm g_TooMuch, PySem.W.mg_of X G a19, k19, b19⟩
  have O__law_of_rows : Own l.prog w K mg base CX0 6 "_law_of_rows" spOfRows := ⟨f20, _, _, ok_ofRows F20 T hm_LikeError hk_LikeError kd.2 O_holds O_made_of O_least_rows O__law_kinds, PySem.W.mg_of X G a20, k20, b20⟩
  have O__law_of_shares : Own l.prog w K mg base CX0 4 "_law_of_shares" (spOfShares C_NoCounts) := ⟨f21, _, _, ok_ofShares F21 T hm_LikeError hk_LikeError kd.2 O_shares O__law_kinds, PySem.W.mg_of X G a21, k21, b21⟩
  exact ok_law F22 T O__law_at O__law_pot O__law_take O__law_counts O__law_bad_counts O__law_bad_sides O__law_bad_row O__law_of_rows O__law_of_shares
theorem walk {l : PySem.W.OpenLaw} {q : Program} {loose : List Str} {XP : (Str → Option Value) → Heap → Prop} {YP : World → Heap → Prop} {d : DefRec} {K : Params → PySem.W.Frag} (hn : l.most = some 63) (hdf : d.params.defaults = [])
    (hY : ∀ (w : World) (h : Heap), YP w h → (K w.params).In h)
    (F : ∀ (w : World) (mg : Str → Option Value) (fa : Addr) (h : Heap), (K w.params).In h → h.Ns mainGlobals mg → mg d.name = some (.ref fa) →
      ∃ fd : FuncData, (∀ (s : Shared) (u : Value), BindsTo s fd ⟨[u], []⟩ [("_law_script", u)]) ∧ ∀ base : Heap, (K w.params).In base → base.Ns mainGlobals mg → FnOk l.prog w (K w.params) mg base CX0 7 fa fd ["_law_script"] (spLaw (K w.params))) :
    PySem.W.WalkO q loose XP YP l.row.toRowW d [] (fun f vs => PySem.call f vs) :=
  L2.walk_of (n := 63) (k := 7) (x := "_law_script") (CX := fun _ => CX0) (sp := fun w => spLaw (K w.params)) hn (by decide) hdf ⟨rfl, by decide, by decide⟩ hY F (fun _ _ a ns hl _ hS => ⟨a, ns, rfl, hS, hl, fun _ => rfl⟩) fun _ _ _ _ _ z => z
end Lw
open PySem PySem.W PyProof.Rows
set_option maxRecDepth 100000 in
set_option maxHeartbeats 0 in
theorem PySem.Challenge.cw_likefill_k46_counts_refused_holds : PySem.Challenge.rw_likefill_k46_counts_refused.Holds := by
  w_on; o_law; k_head; (case hw => w_witness2)
  k_fill
  refine Lw.walk (l := PySem.Challenge.rw_likefill_k46_counts_refused) rfl rfl (fun w h Y => PySem.W.kIn_of Y) ?F
  case F =>
    intro w mg fa h KX G hmg
    refine' Lw.all_mk KX G hmg ?a1 ?l1 ?c1 ?k1 ?a2 ?l2 ?c2 ?k2 ?a3 ?l3 ?c3 ?k3 ?a4 ?l4 ?c4 ?k4 ?a5 ?l5 ?c5 ?k5 ?a6 ?l6 ?c6 ?k6 ?a7 ?l7 ?c7 ?k7 ?a8 ?l8 ?c8 ?k8 ?a9 ?l9 ?c9 ?k9 ?a10 ?l10 ?c10 ?k10 ?a11 ?l11 ?c11 ?k11 ?a12 ?l12 ?c12 ?k12 ?a13 ?l13 ?c13 ?k13 ?a14 ?l14 ?c14 ?k14 ?a15 ?l15 ?c15 ?k15 ?a16 ?l16 ?c16 ?k16 ?a17 ?l17 ?c17 ?k17 ?a18 ?l18 ?c18 ?k18 ?a19 ?l19 ?c19 ?k19 ?a20 ?l20 ?c20 ?k20 ?a21 ?l21 ?c21 ?k21 ?a22 ?l22 ?c22 ?k22 ?m0 ?m1 ?x1 ?m2 ?x2 ?m3 ?m4 ?m5 ?y0 ?y1 ?v0 ?v1 ?v2 ?z0 ?z1 ?z2 ?z3 ?z4 ?z5 ?z6 ?z7 ?z8 ?z9
    (case a1 => k_is); (case l1 => k_is); (case c1 => k_is); (case k1 => k_is); (case a2 => k_is); (case l2 => k_is); (case c2 => k_is); (case k2 => k_is)
    (case a3 => k_is); (case l3 => k_is); (case c3 => k_is); (case k3 => k_is); (case a4 => k_is); (case l4 => k_is); (case c4 => k_is); (case k4 => k_is)
    (case a5 => k_is); (case l5 => k_is); (case c5 => k_is); (case k5 => k_is); (case a6 => k_is); (case l6 => k_is); (case c6 => k_is); (case k6 => k_is)
    (case a7 => k_is); (case l7 => k_is); (case c7 => k_is); (case k7 => k_is); (case a8 => k_is); (case l8 => k_is); (case c8 => k_is); (case k8 => k_is)
    (case a9 => k_is); (case l9 => k_is); (case c9 => k_is); (case k9 => k_is); (case a10 => k_is); (case l10 => k_is); (case c10 => k_is); (case k10 => k_is)
    (case a11 => k_is); (case l11 => k_is); (case c11 => k_is); (case k11 => k_is); (case a12 => k_is); (case l12 => k_is); (case c12 => k_is); (case k12 => k_is)
    (case a13 => k_is); (case l13 => k_is); (case c13 => k_is); (case k13 => k_is); (case a14 => k_is); (case l14 => k_is); (case c14 => k_is); (case k14 => k_is)
    (case a15 => k_is); (case l15 => k_is); (case c15 => k_is); (case k15 => k_is); (case a16 => k_is); (case l16 => k_is); (case c16 => k_is); (case k16 => k_is)
    (case a17 => k_is); (case l17 => k_is); (case c17 => k_is); (case k17 => k_is); (case a18 => k_is); (case l18 => k_is); (case c18 => k_is); (case k18 => k_is)
    (case a19 => k_is); (case l19 => k_is); (case c19 => k_is); (case k19 => k_is); (case a20 => k_is); (case l20 => k_is); (case c20 => k_is); (case k20 => k_is)
    (case a21 => k_is); (case l21 => k_is); (case c21 => k_is); (case k21 => k_is); (case a22 => k_is); (case l22 => k_is); (case c22 => k_is); (case k22 => k_is)
    (case m0 => k_is); (case m1 => k_is); (case x1 => k_exc); (case m2 => k_is); (case x2 => k_exc); (case m3 => k_is); (case m4 => k_is); (case m5 => k_is)
    (case y0 => kernel_rfl); (case y1 => kernel_rfl); (case v0 => k_is); (case v1 => k_is); (case v2 => k_is); (case z0 => k_is); (case z1 => k_is); (case z2 => k_is)
    (case z3 => k_is); (case z4 => k_is); (case z5 => k_is); (case z6 => k_is); (case z7 => k_is); (case z8 => k_is); (case z9 => k_is)


import PyProof.Rows.All
import Wide.All
import OpenK.AllK
import Wide.FinOn
import Lean
import PyProof.EqAt
import PyProof.EqKinds
import PyProof.TupleCall
import PyProof.NeKinds
import KE.KNestM
import PyProof.Rows.StrWeight2
import KE.RegKIsAll
import PySem.Challenge.RW_stakebodies_k71_what_is_a_move
set_option Elab.async false
set_option linter.all false
set_option maxRecDepth 100000
set_option maxHeartbeats 4000000
/-! THE HAND LAYER, for ints, bools, texts, own classes, LISTS and tuples (index, slices, in, append, pop ..), calls, loops. Paste it whole ahead of your own text; what your proof does not reach may be deleted. -/
namespace L2
open PySem PySem.Spec PyProof.Rows

/-- a key: an int or a str -/
abbrev Key := Sum Int Str
def keyIs : Key → Value → Bool
  | .inl k, v => Value.isInt k v
  | .inr x, v => Value.isStrOf x v
def keyH (w : World) : Key → Int
  | .inl k => hashInt k
  | .inr x => hashStr w x
theorem keyIs_shape : ∀ {k : Key} {v : Value}, keyIs k v = true → (∃ i t, k = Sum.inl i ∧ v = Value.int i t) ∨ (∃ x t, k = Sum.inr x ∧ v = Value.str x t)
  | .inl i, v, h => by
    obtain ⟨t, e⟩ := Value.isInt_shape (k := i) (v := v) h
    exact .inl ⟨i, t, rfl, e⟩
  | .inr x, v, h => by
    obtain ⟨t, e⟩ := Value.isStrOf_shape (x := x) (v := v) h
    exact .inr ⟨x, t, rfl, e⟩
theorem keyIs_int (i : Int) (t : Tok) : keyIs (.inl i) (.int i t) = true := by simp [keyIs, Value.isInt]
theorem keyIs_str (x : Str) (t : Tok) : keyIs (.inr x) (.str x t) = true := by simp [keyIs, Value.isStrOf]
theorem key_ll (a b : Int) : decide ((Sum.inl a : Key) = Sum.inl b) = (a == b) := by
  by_cases e : a = b
  · subst e; simp
  · have h : ¬ (Sum.inl a : Key) = Sum.inl b := fun q => e (Sum.inl.inj q)
    rw [decide_eq_false h]
    exact (beq_eq_false_iff_ne.mpr e).symm
theorem key_rr (a b : Str) : decide ((Sum.inr a : Key) = Sum.inr b) = decide (a = b) := by
  by_cases e : a = b
  · subst e; simp
  · have h : ¬ (Sum.inr a : Key) = Sum.inr b := fun q => e (Sum.inr.inj q)
    rw [decide_eq_false h, decide_eq_false e]
theorem key_lr (a : Int) (b : Str) : decide ((Sum.inl a : Key) = Sum.inr b) = false := decide_eq_false (fun q => nomatch q)
theorem key_rl (a : Str) (b : Int) : decide ((Sum.inr a : Key) = Sum.inl b) = false := decide_eq_false (fun q => nomatch q)

def mixKind (prog : Program) (w : World) : PySem.KeyKind prog w Key where
  is := keyIs
  hash := keyH w
  inj := fun v a b ha hb => by
    rcases keyIs_shape ha with ⟨i, t, rfl, rfl⟩ | ⟨x, t, rfl, rfl⟩
    · rcases keyIs_shape hb with ⟨j, u, rfl, e⟩ | ⟨y, u, rfl, e⟩
      · injection e with e1 _; rw [e1]
      · exact nomatch e
    · rcases keyIs_shape hb with ⟨j, u, rfl, e⟩ | ⟨y, u, rfl, e⟩
      · exact nomatch e
      · injection e with e1 _; rw [e1]
  byValue := fun k v h => by
    rcases keyIs_shape h with ⟨i, t, rfl, rfl⟩ | ⟨x, t, rfl, rfl⟩ <;> rfl
  pyHash := fun hv h => by
    rcases keyIs_shape hv with ⟨i, t, rfl, rfl⟩ | ⟨x, t, rfl, rfl⟩
    · exact wpAny_pyHash_int h
    · exact wpAny_pyHash_str h
  eqBool := fun hu hv h => by
    rcases keyIs_shape hu with ⟨i, t, rfl, rfl⟩ | ⟨x, t, rfl, rfl⟩
    · rcases keyIs_shape hv with ⟨j, u, rfl, rfl⟩ | ⟨y, u, rfl, rfl⟩
      · rw [key_ll] at h; exact wpAny_eqBool_int h
      · rw [key_lr] at h; exact SeqAt.EqAt.int_str i t y u _ _ _ _ h
    · rcases keyIs_shape hv with ⟨j, u, rfl, rfl⟩ | ⟨y, u, rfl, rfl⟩
      · rw [key_rl] at h; exact SeqAt.EqAt.str_int x t j u _ _ _ _ h
      · rw [key_rr] at h; exact wpAny_eqBool_str h
  «strs» := fun k x t v h => by
    rcases keyIs_shape h with ⟨i, u, rfl, e⟩ | ⟨y, u, rfl, e⟩
    · exact nomatch e
    · injection e with e1 _
      subst e1
      cases v <;> rfl

theorem mixKind_is (prog : Program) (w : World) (k : Key) (v : Value) : (mixKind prog w).is k v = keyIs k v := rfl
theorem mixKind_int (prog : Program) (w : World) (i : Int) (t : Tok) : (mixKind prog w).is (.inl i) (.int i t) = true := keyIs_int i t
theorem mixKind_str (prog : Program) (w : World) (x : Str) (t : Tok) : (mixKind prog w).is (.inr x) (.str x t) = true := keyIs_str x t
end L2

namespace L2
open PySem PySem.Spec PyProof.Rows

/-- a value, without the heap -/
inductive V where
  | non | bl (b : Bool) | int (i : Int) | str (x : Str) | byt (b : Array UInt8) | flt (b : UInt64) | ref (a : Addr) | ty (n : String)
  deriving DecidableEq

def RelV : V → Value → Prop
  | .non, u => u = Value.none
  | .bl b, u => u = Value.bool b
  | .int i, u => ∃ t, u = Value.int i t
  | .str x, u => ∃ t, u = Value.str x t
  | .byt b, u => ∃ t, u = Value.bytes b t
  | .flt b, u => ∃ t, u = Value.float b t
  | .ref a, u => u = Value.ref a
  | .ty n, u => u = Value.type n

abbrev Vals : List V → List Value → Prop := Paired RelV
theorem Vals.length {xs : List V} {us : List Value} (r : Vals xs us) : xs.length = us.length := Paired.length r
theorem Vals.get : ∀ {xs : List V} {us : List Value} {i : Nat} {x : V}, Vals xs us → xs[i]? = some x → ∃ u, us[i]? = some u ∧ RelV x u
  | _, _, _, _, .nil, e => by simp at e
  | _, _, 0, _, .cons r _, e => by simp at e; subst e; exact ⟨_, rfl, r⟩
  | _, _, i + 1, x, .cons _ t, e => by
    obtain ⟨u, h1, h2⟩ := Vals.get (i := i) (x := x) t (by simpa using e)
    exact ⟨u, by simpa using h1, h2⟩
theorem Vals.set (r : RelV x u) : ∀ {xs : List V} {us : List Value} (i : Nat), Vals xs us → Vals (xs.set i x) (us.set i u)
  | _, _, _, .nil => .nil
  | _, _, 0, .cons _ t => .cons r t
  | _, _, i + 1, .cons q t => .cons q (Vals.set r i t)
theorem Vals.append : ∀ {xs ys : List V} {us ws : List Value}, Vals xs us → Vals ys ws → Vals (xs ++ ys) (us ++ ws)
  | _, _, _, _, .nil, s => s
  | _, _, _, _, .cons r t, s => .cons r (Vals.append t s)
theorem Vals.take : ∀ {xs : List V} {us : List Value} (n : Nat), Vals xs us → Vals (xs.take n) (us.take n)
  | _, _, 0, _ => .nil
  | _, _, _ + 1, .nil => .nil
  | _, _, n + 1, .cons r t => .cons r (Vals.take n t)
theorem Vals.drop : ∀ {xs : List V} {us : List Value} (n : Nat), Vals xs us → Vals (xs.drop n) (us.drop n)
  | _, _, 0, r => r
  | _, _, _ + 1, .nil => .nil
  | _, _, n + 1, .cons _ t => Vals.drop n t
theorem Vals.none_of : ∀ {xs : List V} {us : List Value} {i : Nat}, Vals xs us → xs[i]? = none → us[i]? = none := fun {xs us i} r e => by
  have h1 := r.length
  have h2 : xs.length ≤ i := List.getElem?_eq_none_iff.mp e
  exact List.getElem?_eq_none_iff.mpr (by lia)

def RelO : Option V → Option Value → Prop
  | some v, some u => RelV v u
  | none, none => True
  | _, _ => False
def KV {κ : Type} : List (κ × V) → List (κ × Value) → Prop := Paired fun (p : κ × V) (q : κ × Value) => p.1 = q.1 ∧ RelV p.2 q.2

/-- a key of a dict (00_mix): an int or a text -/
def kV : Key → V
  | .inl i => .int i
  | .inr x => .str x

/-- what stands at a tracked address -/
inductive HO where
  /-- a list -/
  | lst (xs : List V)
  /-- a tuple (never changes) -/
  | tup (xs : List V)
  /-- a dict whose keys are ints and texts; one whose keys are tuples of ints and texts (the empty one is both) -/
  | dK (kvs : List (Key × V)) | dT (kvs : List (List Key × V))
  /-- a set of ints: its members, its size -/
  | set (S : Int → Bool) (n : Nat)
  /-- an instance of the class at C, its dict at dx, its attributes -/
  | ins (C dx : Addr) (fs : List (Str × V))
  /-- the dict of the instance at x -/
  | own (x : Addr)
  /-- the dict of an exception -/
  | xd (fs : List (Str × V))
  /-- a bound method, f of x -/
  | met (f x : Addr)
  /-- a range object lo, lo + 1, .. below hi -/
  | rng (lo hi : Int)
  /-- a thing that is known to the object (the script; a dict while a loop walks it): read, never written while it is so -/
  | frz (o : Obj) (u : HO)
  /-- a code object's table -/
  | tbl (tb : List (Pos × Str))
  /-- any other thing, by what is true of its one object (a def of one's own: SetO a S n := HO.ext fun h => ..) -/
  | ext (φ : Heap → Prop)

abbrev Hp := Addr → Option HO
def upd (H : Hp) (a : Addr) (o : HO) : Hp := fun b => if b = a then some o else H b
theorem upd_same : upd H a o a = some o := by unfold upd; rw [if_pos rfl]
theorem upd_ne (h : b ≠ a) : upd H a o b = H b := by unfold upd; rw [if_neg h]
theorem upd_upd : upd (upd H a o) a u = upd H a u := by
  funext b; unfold upd; split <;> rfl
/-- two objects of different content stand apart -/
theorem ne_of {H : Hp} {a b : Addr} {o u : HO} (h : H a = some o) (h' : H b = some u) (d : o ≠ u) : a ≠ b := by
  intro e; subst e; rw [h] at h'; exact d (Option.some.inj h')
theorem ne_of_none {H : Hp} {a b : Addr} {o : HO} (h : H a = some o) (h' : H b = none) : a ≠ b := by
  intro e; subst e; rw [h] at h'; cases h'

section
variable (P : Program) (w : World)
def ObjOk (H : Hp) (h : Heap) (a : Addr) : HO → Prop
  | .lst xs => xs.length ≤ sizeLine ∧ ∃ (its : List Value) (n : Nat), Vals xs its ∧ h.get? a = some { cls := .type "list", data := .seq its.toArray n }
  | .tup xs => xs.length ≤ sizeLine ∧ ∃ its : List Value, Vals xs its ∧ IsTup h a its.toArray
  | .dK kvs => kvs.length ≤ sizeLine ∧ (a == sysModules) = false ∧ ∃ vs, KV kvs vs ∧ h.DictOf (mixKind P w) a vs
  | .dT kvs => kvs.length ≤ sizeLine ∧ (a == sysModules) = false ∧ ∃ xs : List (List Key × Addr × Value),
      Paired (fun (p : List Key × V) (q : List Key × Addr × Value) => p.1 = q.1 ∧ H q.2.1 = some (.tup (p.1.map kV)) ∧ RelV p.2 q.2.2) kvs xs ∧
      ∃ o es ep, h.get? a = some o ∧ o.ExactDict ∧ o.data = .dict es ep ∧ es.toList = xs.map (entryOfKey (tupleKind (mixKind P w))) ∧ (xs.map (·.1)).Nodup
  | .set S n => h.SetOf (intKind P w) a S n
  | .ins C dx fs => H dx = some (.own a) ∧ fs.length ≤ 1000 ∧ dx ≠ a ∧ h.get? a = some (PySem.W.instObj C dx) ∧
      ∃ mA, h.Ns1 dx mA ∧ (∀ f, RelO (fs.lookup f) (mA f)) ∧ PySem.Within mA (fs.map (·.1))
  | .own _ => ∃ o, h.get? a = some o
  | .xd fs => ∃ mA, h.Ns1 a mA ∧ ∀ f, RelO (fs.lookup f) (mA f)
  | .rng lo hi => ∃ t u v, h.get? a = some { cls := .type "range", data := .fields #[.int lo t, .int hi u, .int 1 v] }
  | .frz o u => h.get? a = some o ∧ ObjOk H h a u
  | .tbl tb => ∃ ps : Array Value, h.get? a = some { cls := .none, data := .fields ps } ∧ TriplesOk ps.toList ∧ ∀ p ∈ tb, codeAmong p.1 ps.toList = none ∨ ∃ c oc vs t, codeAmong p.1 ps.toList = some (.ref c) ∧ H c = some (.frz oc (.own c)) ∧ oc.data = .fields vs ∧ vs[1]? = some (.str p.2 t)
  | .met f x => h.get? a = some (PySem.W.methodObj (.ref f) (.ref x))
  | .ext φ => φ h ∧ (∃ o, h.get? a = some o) ∧ ∀ h1 h2 : Heap, φ h1 → (∀ o, h1.get? a = some o → h2.get? a = some o) → φ h2
/-- what is never changed -/
def Fixed : HO → Prop
  | .tup _ => True
  | .frz o _ => ∃ vs, o.data = .fields vs
  | _ => False
/-- the abstract heap is held -/
def HOk (H : Hp) (h : Heap) : Prop := ∀ a o, H a = some o → ObjOk P w H h a o
end

section
variable {P : Program} {w : World} {H H' : Hp} {h h' : Heap} {a : Addr} {o : HO}
theorem ObjOk.lt (x : ObjOk P w H h a o) : a < h.objs.size := by
  cases o with
  | lst xs => obtain ⟨_, _, _, _, e⟩ := x; exact Heap.lt_size e
  | tup xs => obtain ⟨_, _, _, p⟩ := x; exact p.lt
  | dK kvs => obtain ⟨_, _, _, _, o, _, _, e, _⟩ := x; exact Heap.lt_size e
  | dT kvs => obtain ⟨_, _, _, _, o, _, _, e, _⟩ := x; exact Heap.lt_size e
  | set S n => obtain ⟨o, _, _, _, e, _⟩ := x; exact Heap.lt_size e
  | ins C dx fs => obtain ⟨_, _, _, e, _⟩ := x; exact Heap.lt_size e
  | own y => obtain ⟨_, e⟩ := x; exact Heap.lt_size e
  | xd fs => obtain ⟨_, ⟨_, _, _, e, _⟩, _⟩ := x; exact Heap.lt_size e
  | rng lo hi => obtain ⟨_, _, _, e⟩ := x; exact Heap.lt_size e
  | frz ob u => obtain ⟨e, _⟩ := x; exact Heap.lt_size e
  | tbl tb => obtain ⟨_, e, _⟩ := x; exact Heap.lt_size e
  | met f y => exact Heap.lt_size (show h.get? a = some _ from x)
  | ext φ => obtain ⟨_, ⟨_, e⟩, _⟩ := x; exact Heap.lt_size e
theorem Paired.mapP {α β : Type} {F G : α → β → Prop} : ∀ {l₁ : List α} {l₂ : List β}, Paired F l₁ l₂ → (∀ a b, F a b → G a b) → Paired G l₁ l₂
  | _, _, .nil, _ => .nil
  | _, _, .cons r t, f => .cons (f _ _ r) (Paired.mapP t f)
theorem Paired.imp' {α β : Type} {F G : α → β → Prop} (f : ∀ a b, F a b → G a b) {l₁ : List α} {l₂ : List β} (r : Paired F l₁ l₂) : Paired G l₁ l₂ := Paired.mapP r f
/-- what an object's description leans on: its own object, its own dict, the tuples -/
theorem ObjOk.stay (x : ObjOk P w H h a o) (k : ∀ b u, (b = a ∨ H b = some (.own a)) → h.get? b = some u → h'.get? b = some u)
    (ho : ∀ b, H b = some (.own a) → H' b = some (.own a)) (ht : ∀ b u, Fixed u → H b = some u → H' b = some u) : ObjOk P w H' h' a o := by
  induction o with
  | lst xs => obtain ⟨z, its, n, r, e⟩ := x; exact ⟨z, its, n, r, k _ _ (.inl rfl) e⟩
  | tup xs => obtain ⟨z, its, r, ob, e, c⟩ := x; exact ⟨z, its, r, ob, k _ _ (.inl rfl) e, c⟩
  | dK kvs => obtain ⟨z, y, vs, r, ob, es, ep, e, c⟩ := x; exact ⟨z, y, vs, r, ob, es, ep, k _ _ (.inl rfl) e, c⟩
  | dT kvs =>
    obtain ⟨z, y, xs, r, ob, es, ep, e, c⟩ := x
    exact ⟨z, y, xs, Paired.mapP r fun p q z => ⟨z.1, ht _ _ trivial z.2.1, z.2.2⟩, ob, es, ep, k _ _ (.inl rfl) e, c⟩
  | set S n => obtain ⟨ob, es, ep, t, e, c⟩ := x; exact ⟨ob, es, ep, t, k _ _ (.inl rfl) e, c⟩
  | ins C dx fs =>
    obtain ⟨d, z, ne, e, mA, ⟨od, es, ep, e2, c⟩, r⟩ := x
    exact ⟨ho _ d, z, ne, k _ _ (.inl rfl) e, mA, ⟨od, es, ep, k _ _ (.inr d) e2, c⟩, r⟩
  | own y => obtain ⟨ob, e⟩ := x; exact ⟨ob, k _ _ (.inl rfl) e⟩
  | xd fs => obtain ⟨mA, ⟨od, es, ep, e, c⟩, r⟩ := x; exact ⟨mA, ⟨od, es, ep, k _ _ (.inl rfl) e, c⟩, r⟩
  | rng lo hi => obtain ⟨t, u, v, e⟩ := x; exact ⟨t, u, v, k _ _ (.inl rfl) e⟩
  | frz ob u ih => obtain ⟨e, q⟩ := x; exact ⟨k _ _ (.inl rfl) e, ih q⟩
  | tbl tb =>
    obtain ⟨ps, e, t, f⟩ := x
    exact ⟨ps, k a _ (.inl rfl) e, t, fun p hp => (f p hp).imp id fun ⟨c, oc, vs, t, e1, e2, e3⟩ => ⟨c, oc, vs, t, e1, ht _ _ ⟨vs, e3.1⟩ e2, e3⟩⟩
  | met f y =>
    have e : h.get? a = some (PySem.W.methodObj (.ref f) (.ref y)) := x
    show h'.get? a = some (PySem.W.methodObj (.ref f) (.ref y))
    exact k a _ (.inl rfl) e
  | ext φ => obtain ⟨p, ⟨o, e⟩, st⟩ := x; exact ⟨st _ _ p fun o q => k _ _ (.inl rfl) q, ⟨o, k _ _ (.inl rfl) e⟩, st⟩
theorem HOk.lt (x : HOk P w H h) (e : H a = some o) : a < h.objs.size := (x a o e).lt
theorem HOk.fresh (x : HOk P w H h) (e : h.objs.size ≤ a) : H a = none := by
  cases q : H a with
  | none => rfl
  | some u => exact absurd (Nat.lt_of_lt_of_le (x.lt q) e) (Nat.lt_irrefl _)
/-- every object of the heap is kept -/
theorem HOk.kept (x : HOk P w H h) (k : ∀ b u, h.get? b = some u → h'.get? b = some u) : HOk P w H h' := fun a o e =>
  (x a o e).stay (fun b u _ q => k b u q) (fun _ q => q) fun _ _ _ q => q
/-- a new object is laid and tracked -/
theorem HOk.laid (x : HOk P w H h) (k : ∀ b u, h.get? b = some u → h'.get? b = some u) (hp : h.objs.size ≤ a) (new : ObjOk P w (upd H a o) h' a o) : HOk P w (upd H a o) h' := fun b u e => by
  have hn := x.fresh hp
  by_cases hb : b = a
  · subst hb; rw [upd_same] at e; cases e; exact new
  · rw [upd_ne hb] at e
    exact (x b u e).stay (fun c v _ q => k c v q) (fun c q => by rw [upd_ne (ne_of_none q hn)]; exact q) fun c xs _ q => by rw [upd_ne (ne_of_none q hn)]; exact q
end

/-- what may be read as u: it is u, or a known u -/
def Rd (H : Hp) (a : Addr) (u : HO) : Prop := H a = some u ∨ ∃ o, H a = some (.frz o u)
theorem Rd.of (h : H a = some u) : Rd H a u := .inl h
theorem Rd.ok (r : Rd H a u) (x : HOk P w H h) : ObjOk P w H h a u := by
  rcases r with r | ⟨o, r⟩
  · exact x a u r
  · obtain ⟨_, q⟩ := x a _ r
    exact q
/-- what may be written -/
def Mut : Option HO → Prop
  | some (.lst _) => True
  | some (.dK _) => True
  | some (.dT _) => True
  | some (.set _ _) => True
  | some (.ins _ _ _) => True
  | some (.ext _) => True
  | _ => False
section
variable {P : Program} {w : World} {H : Hp} {h h' : Heap} {x e : Addr} {o' : HO}
/-- the object at e is changed: x itself, or the dict of the instance x -/
theorem HOk.write (ok : HOk P w H h) (mu : Mut (H x)) (he : e = x ∨ H e = some (.own x)) (k : ∀ b u, b ≠ e → h.get? b = some u → h'.get? b = some u) (heo : ∃ u, h'.get? e = some u)
    (new : ObjOk P w (upd H x o') h' x o') : HOk P w (upd H x o') h' := fun b u q => by
  have nown : ∀ c y, H c = some (.own y) → c ≠ x := fun c y r z => by subst z; rw [r] at mu; exact mu
  have ntup : ∀ c u, Fixed u → H c = some u → c ≠ x := fun c u f r z => by subst z; rw [r] at mu; cases u <;> first | exact mu | exact f
  by_cases hb : b = x
  · subst hb; rw [upd_same] at q; cases q; exact new
  · rw [upd_ne hb] at q
    by_cases hbe : b = e
    · have q' : H b = some (.own x) := by
        rcases he with z | z
        · exact absurd (hbe.trans z) hb
        · rw [hbe]; exact z
      rw [q] at q'; cases q'
      obtain ⟨v, hv⟩ := heo
      exact ⟨v, by rw [hbe]; exact hv⟩
    · refine (ok b u q).stay (fun c v hc r => k c v ?_ r) (fun c r => by rw [upd_ne (nown c b r)]; exact r) fun c xs f r => by rw [upd_ne (ntup c xs f r)]; exact r
      rcases hc with rfl | hc
      · exact hbe
      · rintro rfl
        rcases he with z | z
        · exact nown c b hc z
        · rw [hc] at z; cases z; exact hb rfl
end

/-! ### kept unless tracked; of the frames at fs (the callers') the slots may change (an exception that passes writes there); of the records at ex (iterators) nothing is said -/
structure Un (fs ex : List Addr) (H H' : Hp) (h h' : Heap) : Prop where
  keep : ∀ b o, h.get? b = some o → H b = none → b ∉ fs → b ∉ ex → h'.get? b = some o
  slot : ∀ b o, h.get? b = some o → H b = none → b ∈ fs → b ∉ ex → ∃ sl, h'.get? b = some { o with slots := sl }
  free : ∀ b o, h.get? b = some o → H b = none → b ∉ ex → H' b = none
  there : ∀ b o, h.get? b = some o → b ∉ ex → ∃ o', h'.get? b = some o'
  tups : ∀ b xs, H b = some (.tup xs) → H' b = some (.tup xs)
  frzs : ∀ b o u, H b = some (.frz o u) → H' b = some (.frz o u)
  tbls : ∀ b tb, H b = some (.tbl tb) → H' b = some (.tbl tb)
section
variable {fs fs' ex ex' : List Addr} {H H1 H2 : Hp} {h h1 h2 h' : Heap} {a x e : Addr} {o : HO}
theorem Un.any (u : Un fs ex H H1 h h1) (q : h.get? b = some ob) (n : H b = none) (hx : b ∉ ex) : ∃ sl, h1.get? b = some { ob with slots := sl } := by
  by_cases hb : b ∈ fs
  · exact u.slot b ob q n hb hx
  · exact ⟨ob.slots, u.keep b ob q n hb hx⟩
theorem Un.trans (a : Un fs ex H H1 h h1) (b : Un fs ex H1 H2 h1 h2) : Un fs ex H H2 h h2 where
  keep := fun c ob q n hc hx => b.keep c ob (a.keep c ob q n hc hx) (a.free c ob q n hx) hc hx
  slot := fun c ob q n hc hx => by
    obtain ⟨sl, e1⟩ := a.slot c ob q n hc hx
    obtain ⟨sl', e2⟩ := b.slot c _ e1 (a.free c ob q n hx) hc hx
    exact ⟨sl', e2⟩
  free := fun c ob q n hx => by
    obtain ⟨o', e1⟩ := a.there c ob q hx
    exact b.free c o' e1 (a.free c ob q n hx) hx
  there := fun c ob q hx => by
    obtain ⟨o', e1⟩ := a.there c ob q hx
    exact b.there c o' e1 hx
  tups := fun c xs q => b.tups c xs (a.tups c xs q)
  frzs := fun c ob xs q => b.frzs c ob xs (a.frzs c ob xs q)
  tbls := fun c ps q => b.tbls c ps (a.tbls c ps q)
theorem Un.kept (k : ∀ b u, h.get? b = some u → h'.get? b = some u) : Un fs ex H H h h' :=
  ⟨fun b ob q _ _ _ => k b ob q, fun b ob q _ _ _ => ⟨ob.slots, k b ob q⟩, fun _ _ _ n _ => n, fun b ob q _ => ⟨ob, k b ob q⟩, fun _ _ q => q, fun _ _ _ q => q, fun _ _ q => q⟩
theorem Un.refl : Un fs ex H H h h := Un.kept fun _ _ q => q
theorem Un.laid (k : ∀ b u, h.get? b = some u → h'.get? b = some u) (hp : h.objs.size ≤ a) (hn : H a = none) : Un fs ex H (upd H a o) h h' where
  keep := fun b u q _ _ _ => k b u q
  slot := fun b u q _ _ _ => ⟨u.slots, k b u q⟩
  free := fun b u q n _ => by rw [upd_ne (Nat.ne_of_lt (Nat.lt_of_lt_of_le (Heap.lt_size q) hp))]; exact n
  there := fun b u q _ => ⟨u, k b u q⟩
  tups := fun b xs q => by rw [upd_ne (ne_of_none q hn)]; exact q
  frzs := fun b u xs q => by rw [upd_ne (ne_of_none q hn)]; exact q
  tbls := fun b ps q => by rw [upd_ne (ne_of_none q hn)]; exact q
theorem Un.write (mu : Mut (H x)) (he : e = x ∨ H e = some (.own x)) (k : ∀ b u, b ≠ e → h.get? b = some u → h'.get? b = some u) (heo : ∃ u, h'.get? e = some u) : Un fs ex H (upd H x o) h h' := by
  have hx : ∀ b, H b = none → b ≠ x := fun b n z => by subst z; rw [n] at mu; exact mu
  have hb : ∀ b, H b = none → b ≠ e := fun b n z => by
    subst z
    rcases he with r | r
    · exact hx b n r
    · rw [n] at r; cases r
  have hm : ∀ b u, H b = some u → ¬ Mut (some u) → b ≠ x := fun b u q nm z => by subst z; rw [q] at mu; exact nm mu
  refine ⟨fun b u q n _ _ => k b u (hb b n) q, fun b u q n _ _ => ⟨u.slots, k b u (hb b n) q⟩, fun b u q n _ => by rw [upd_ne (hx b n)]; exact n, fun b u q _ => ?_,
    fun b xs q => by rw [upd_ne (hm b _ q fun z => z)]; exact q, fun b u xs q => by rw [upd_ne (hm b _ q fun z => z)]; exact q, fun b ps q => by rw [upd_ne (hm b _ q fun z => z)]; exact q⟩
  by_cases hbe : b = e
  · subst hbe; exact heo
  · exact ⟨u, k b u hbe q⟩
theorem Un.mono (u : Un fs ex H H1 h h1) (hs : ∀ b ∈ fs, b ∈ fs') (hx : ∀ b ∈ ex, b ∈ ex') : Un fs' ex' H H1 h h1 :=
  ⟨fun b ob q n hb he => u.keep b ob q n (fun z => hb (hs b z)) fun z => he (hx b z), fun _ _ q n _ he => u.any q n fun z => he (hx _ z), fun b ob q n he => u.free b ob q n fun z => he (hx b z), fun b ob q he => u.there b ob q fun z => he (hx b z), u.tups, u.frzs, u.tbls⟩
end

/-! ### the heap without what is tracked -/
def trk (h : Heap) (H : Hp) : List Addr := (List.range h.objs.size).filter fun a => (H a).isSome
def hidT (h : Heap) (H : Hp) : Heap := PySem.W.hideAll h (trk h H)
theorem hidT_size (h : Heap) (H : Hp) : (hidT h H).objs.size = h.objs.size := PySem.W.hideAll_size _ _
theorem hidT_get (e : h.get? b = some o) (n : H b = none) : (hidT h H).get? b = some o :=
  PySem.W.hideAll_get _ e fun hm => by
    have q : (H b).isSome = true := (List.mem_filter.mp hm).2
    rw [n] at q; simp at q
theorem of_hidT (e : (hidT h H).get? b = some o) : h.get? b = some o ∧ H b = none := by
  have e' : h.get? b = some o := PySem.W.of_hideAll (trk h H) e
  refine ⟨e', ?_⟩
  cases q : H b with
  | none => rfl
  | some x =>
    have hm : b ∈ trk h H := List.mem_filter.mpr ⟨List.mem_range.mpr (Heap.lt_size e'), by simp [q]⟩
    have z : (hidT h H).get? b = none := PySem.W.hideAll_none (trk h H) hm
    rw [z] at e; cases e

/-! ### OpenK's ledger, filled with every new object but one -/
def allNews (g h : Heap) (L : Addr) : List (Addr × Obj) := (List.range h.objs.size).filterMap fun a => if a = L ∨ (g.get? a).isSome = true then none else (h.get? a).map fun o => (a, o)
theorem mem_allNews (h1 : a ≠ L) (h2 : g.get? a = none) (h3 : h.get? a = some o) : (a, o) ∈ allNews g h L :=
  List.mem_filterMap.mpr ⟨a, List.mem_range.mpr (Heap.lt_size h3), by simp [h1, h2, h3]⟩
theorem of_mem_allNews (hp : p ∈ allNews g h L) : p.1 ≠ L ∧ g.get? p.1 = none ∧ h.get? p.1 = some p.2 := by
  obtain ⟨b, _, e⟩ := List.mem_filterMap.mp hp
  split at e
  · cases e
  · rename_i hn
    cases q : h.get? b with
    | none => rw [q] at e; simp at e
    | some u =>
      rw [q] at e
      simp only [Option.map_some, Option.some.injEq] at e
      subst e
      refine ⟨fun z => hn (.inl z), ?_, q⟩
      show g.get? b = none
      cases r : g.get? b with
      | none => rfl
      | some v => exact (hn (.inr (by simp [r]))).elim
def rest (g h : Heap) (L d : Addr) : List (Addr × Obj) := (allNews g h L).filter fun p => decide (p.1 ≠ d)
theorem rest_ne : ∀ p ∈ rest g h L d, p.1 ≠ d := fun p hp => of_decide_eq_true (List.mem_filter.mp hp).2
theorem mem_rest (h1 : a ≠ L) (h2 : g.get? a = none) (h3 : h.get? a = some o) (h4 : a ≠ d) : (a, o) ∈ rest g h L d :=
  List.mem_filter.mpr ⟨mem_allNews h1 h2 h3, decide_eq_true h4⟩
theorem news_all : News g L h (allNews g h L) := fun p hp => let ⟨a, b, c⟩ := of_mem_allNews hp; ⟨c, a, b⟩
theorem news_at (h1 : d ≠ L) (h2 : g.get? d = none) (h3 : h.get? d = some o) : News g L h ((d, o) :: rest g h L d) := fun p hp => by
  rcases List.mem_cons.mp hp with rfl | hp
  · exact ⟨h3, h1, h2⟩
  · exact news_all p (List.mem_filter.mp hp).1
/-- behind a rule that changed d alone: all else but the frame is kept -/
theorem kept_of_news (k : ∀ b o, g.get? b = some o → h.get? b = some o) (F : Fr g L h' m) (N : News g L h' (rest g h L d)) :
    ∀ b o, b ≠ L → b ≠ d → h.get? b = some o → h'.get? b = some o := fun b o h1 h2 e => by
  cases q : g.get? b with
  | some u =>
    have := k b u q
    rw [e] at this; cases this
    exact F.keep b _ q
  | none => exact (N (b, o) (mem_rest h1 q e h2)).1
end L2

namespace L2
open PySem PySem.Spec PyProof.Rows

/-- the module's facts, over the base: the heap at the law's entry without what is tracked there -/
structure Mod (K : PySem.W.Frag) (mg : Str → Option Value) (base : Heap) : Prop where
  kin : K.In base
  glob : base.Ns mainGlobals mg
  blt : ∃ mb, base.Ns builtinsNs mb ∧ ∀ x : Str, x ≠ "__name__" → mb x = bootBuiltins x
  nolimit : base.NoLimit

/-- the context: a def's body (or a comprehension's block) running. base: fixed through the whole law; s₀, H₀: the entry; outer: the frames whose slots others may change (a def's callers); stack: all frames that run;
   ex: iterators that were made ahead of the entry and are walked here (a comprehension's); fn: the names whose cells were made at the entry (a def: all; a comprehension's block: its own); calm: not within an except suite; pn: pins that every state bears; xe: what is wanted of an exception that leaves the code -/
structure Cx where
  prog : Program
  w : World
  K : PySem.W.Frag
  mg : Str → Option Value
  base : Heap
  A : Around
  N : List Str
  s₀ : Shared
  H₀ : Hp
  env : Env
  outer : List Env
  stack : List Env
  ex : List Addr
  fn : Str → Bool
  calm : Bool
  pn : List (Addr × Obj)
  xe : Value → Shared → Prop
/-- the callers' frames -/
def frs (l : List Env) : List Addr := l.filterMap (·.frame)
abbrev Cx.fs (X : Cx) : List Addr := frs X.outer

def Vis (sc : Scope) (x : Str) : Prop := sc.names.lookup x = some .local ∨ sc.names.lookup x = some .cell ∨ sc.names.lookup x = some .free
def Loc (sc : Scope) (x : Str) : Prop := sc.names.lookup x = some .local ∨ sc.names.lookup x = some .cell
def Look (env : Env) (h : Heap) (m : Str → Option Value) (x : Str) (u : Value) : Prop :=
  (env.kindOf x = some .local ∧ m x = some u) ∨ ((env.kindOf x = some .cell ∨ env.kindOf x = some .free) ∧ ∃ c, env.cells.lookup x = some c ∧ h.IsCell c (some u))

structure Cx.Ok (X : Cx) : Prop where
  mod : Mod X.K X.mg X.base
  kind : X.env.scope.kind = .function
  glob : X.env.globals = mainGlobals
  blt : X.env.builtins = builtinsNs
  above : X.s₀.heap.objs.size ≤ X.env.locals
  inj : ∀ x y c, X.env.cells.lookup x = some c → X.env.cells.lookup y = some c → x = y
  has : ∀ x, (X.env.kindOf x = some .cell ∨ X.env.kindOf x = some .free) → ∃ c, X.env.cells.lookup x = some c
  cab : ∀ x c, X.fn x = true → X.env.cells.lookup x = some c → X.s₀.heap.objs.size ≤ c
  hd : X.calm = true → X.A.handled = none
  frames : X.A.frames = some X.stack
  stk : X.stack = X.outer ∨ (X.stack = X.env :: X.outer ∧ X.env.frame = some X.env.locals)
  exf : ∀ b ∈ X.ex, b ≠ X.env.locals ∧ ∀ x c, X.env.cells.lookup x = some c → c ≠ b
  bs : ∀ b o, X.base.get? b = some o → X.s₀.heap.get? b = some o ∧ X.H₀ b = none
  bsz : X.base.objs.size ≤ X.s₀.heap.objs.size
  noex : ∀ b o, X.base.get? b = some o → b ∉ X.ex
  exfs : ∀ b ∈ X.ex, b ∉ X.fs
  funs : X.s₀.heap.FunFrames X.base X.outer
  frf : ∀ b ∈ X.fs, X.H₀ b = none

structure Inv (X : Cx) (pins : List (Addr × Obj)) (σ : List (Option V)) (H : Hp) (s : Shared) : Prop where
  ok : X.Ok
  os : s.os = X.s₀.os
  bare : AllBare s.gens
  base : Un X.fs X.ex X.H₀ H X.s₀.heap s.heap
  loc : ∃ m, s.heap.Ns X.env.locals m ∧ ∀ (i : Nat) (x : Str) (v : V), X.N[i]? = some x → σ[i]? = some (some v) → Vis X.env.scope x → ∃ u, RelV v u ∧ Look X.env s.heap m x u
  cell : ∀ x c, X.env.cells.lookup x = some c → ∃ v, s.heap.IsCell c v
  free : H X.env.locals = none
  freeC : ∀ x c, X.env.cells.lookup x = some c → H c = none
  pin : ∀ p ∈ X.pn ++ pins, s.heap.get? p.1 = some p.2 ∧ H p.1 = none ∧ p.1 ≠ X.env.locals ∧ p.1 ∉ X.fs ∧ ∀ v, p.2.data ≠ .cell v
  hok : HOk X.prog X.w H s.heap
  len : σ.length = X.N.length

section
variable {X : Cx} {pins : List (Addr × Obj)} {σ : List (Option V)} {H H' : Hp} {s : Shared} {h' : Heap}

theorem Cx.Ok.nofr (ok : X.Ok) (e : X.base.get? b = some o) : b ∉ X.fs := fun hb => by
  have := (ok.funs.mem hb).1
  rw [e] at this; cases this
theorem Inv.bs (I : Inv X pins σ H s) : ∀ b o, X.base.get? b = some o → s.heap.get? b = some o ∧ H b = none := fun b o e =>
  ⟨I.base.keep b o (I.ok.bs b o e).1 (I.ok.bs b o e).2 (I.ok.nofr e) (I.ok.noex b o e), I.base.free b o (I.ok.bs b o e).1 (I.ok.bs b o e).2 (I.ok.noex b o e)⟩
theorem Inv.bk (I : Inv X pins σ H s) : ∀ b o, X.base.get? b = some o → s.heap.get? b = some o := fun b o e => (I.bs b o e).1
theorem Inv.mod (I : Inv X pins σ H s) : Mod X.K X.mg X.base := I.ok.mod
theorem Inv.kIn (I : Inv X pins σ H s) : X.K.In s.heap := I.ok.mod.kin.keeps I.bk
theorem Inv.nolimit (I : Inv X pins σ H s) : s.heap.NoLimit := I.ok.mod.nolimit.keeps I.bk
/-- the frame over the base: for OpenK's rules (K.In X.base is I.mod.kin) -/
theorem Inv.fr (I : Inv X pins σ H s) : ∃ m, Fr X.base X.env.locals s.heap m :=
  let ⟨m, hn, _⟩ := I.loc
  ⟨m, hn, I.bk, Nat.le_trans I.ok.bsz I.ok.above⟩
theorem Inv.lt (I : Inv X pins σ H s) : X.env.locals < s.heap.objs.size := let ⟨_, hn, _⟩ := I.loc; hn.lt
theorem Inv.sz (I : Inv X pins σ H s) : X.s₀.heap.objs.size ≤ s.heap.objs.size := Nat.le_trans I.ok.above (Nat.le_of_lt I.lt)
theorem Inv.nofs (I : Inv X pins σ H s) (h : s.heap.objs.size ≤ a) : a ∉ X.fs := fun hb => by
  obtain ⟨_, o, ho, _⟩ := I.ok.funs.mem hb
  exact absurd (Nat.lt_of_lt_of_le (Heap.lt_size ho) (Nat.le_trans I.sz h)) (Nat.lt_irrefl _)
theorem Inv.cne (I : Inv X pins σ H s) : ∀ x c, X.env.cells.lookup x = some c → c ≠ X.env.locals := fun x c e z => by
  obtain ⟨v, o, ho, hd⟩ := I.cell x c e
  obtain ⟨m, ⟨o', es, ep, ho', hd', _⟩, _⟩ := I.loc
  rw [z, ho'] at ho; cases ho; rw [hd'] at hd; cases hd
theorem Inv.funs (I : Inv X pins σ H s) : s.heap.FunFrames X.base X.outer := by
  have all : ∀ (l : List Env), (∀ b ∈ frs l, b ∈ X.fs) → X.s₀.heap.FunFrames X.base l → s.heap.FunFrames X.base l := by
    intro l
    induction l with
    | nil => intro _ _; trivial
    | cons env r ih =>
      intro hs hl
      obtain ⟨hk, ⟨L, o, hf, hn, ho, hd⟩, hr⟩ := hl
      have hL : L ∈ X.fs := hs L (by unfold frs; rw [List.filterMap_cons, hf]; exact List.mem_cons_self)
      obtain ⟨sl, e⟩ := I.base.slot L o ho (I.ok.frf L hL) hL fun z => I.ok.exfs L z hL
      exact ⟨hk, ⟨L, _, hf, hn, e, hd⟩, ih (fun b hb => hs b (by unfold frs; rw [List.filterMap_cons, hf]; exact List.mem_cons_of_mem _ hb)) hr⟩
  exact all X.outer (fun _ hb => hb) I.ok.funs

/-- the frames that run, for a call -/
theorem Inv.stack (I : Inv X pins σ H s) : s.heap.FunFrames X.base X.stack := by
  rcases I.ok.stk with e | ⟨e, hf⟩
  · rw [e]; exact I.funs
  · rw [e]
    obtain ⟨m, hn, _⟩ := I.loc
    refine .cons (by rw [I.ok.kind]; decide) hf hn ?_ I.funs
    exact Heap.get?_none_of_le (Nat.le_trans I.ok.bsz I.ok.above)
theorem Inv.stkSub (I : Inv X pins σ H s) : ∀ b ∈ frs X.stack, b ∈ X.env.locals :: X.fs := fun b hb => by
  rcases I.ok.stk with e | ⟨e, hf⟩
  · rw [e] at hb; exact List.mem_cons_of_mem _ hb
  · rw [e] at hb
    unfold frs at hb
    rw [List.filterMap_cons, hf] at hb
    exact hb
theorem Inv.stkFree (I : Inv X pins σ H s) : ∀ b ∈ frs X.stack, H b = none := fun b hb => by
  rcases List.mem_cons.mp (I.stkSub b hb) with e | hb
  · rw [e]; exact I.free
  · obtain ⟨_, o, ho, _⟩ := I.ok.funs.mem hb
    exact I.base.free b o ho (I.ok.frf b hb) fun z => I.ok.exfs b z hb

/-- THE STEP: the untracked objects but the frame and the records at ch are kept (the callers' frames up to slots), the frame's map is kept, the new abstract heap is held -/
theorem Inv.step {g' : Array GenState} {t' : Nat} {d' : Drawn} {ch : List Addr} (I : Inv X pins σ H s)
    (hch : ∀ b ∈ ch, (b ∈ X.ex ∨ X.s₀.heap.objs.size ≤ b) ∧ b ≠ X.env.locals ∧ (∀ x c, X.env.cells.lookup x = some c → c ≠ b) ∧ ∀ p ∈ X.pn ++ pins, p.1 ≠ b)
    (keep : ∀ b o, b ≠ X.env.locals → b ∉ X.fs → b ∉ ch → s.heap.get? b = some o → H b = none → h'.get? b = some o)
    (slot : ∀ b o, b ≠ X.env.locals → b ∈ X.fs → b ∉ ch → s.heap.get? b = some o → H b = none → ∃ sl, h'.get? b = some { o with slots := sl }) (free : ∀ b o, b ∉ ch → s.heap.get? b = some o → H b = none → H' b = none)
    (there : ∀ b o, b ∉ ch → s.heap.get? b = some o → ∃ o', h'.get? b = some o')
    (tups : ∀ b xs, H b = some (.tup xs) → H' b = some (.tup xs)) (frzs : ∀ b o u, H b = some (.frz o u) → H' b = some (.frz o u)) (tbls : ∀ b tb, H b = some (.tbl tb) → H' b = some (.tbl tb))
    (ns : ∀ m, s.heap.Ns X.env.locals m → h'.Ns X.env.locals m) (hok : HOk X.prog X.w H' h') (hg : AllBare g') :
    Inv X pins σ H' { s with heap := h', gens := g', drawn := d', toks := t' } := by
  have neL : ∀ b o, X.s₀.heap.get? b = some o → b ≠ X.env.locals := fun b o e => Nat.ne_of_lt (Nat.lt_of_lt_of_le (Heap.lt_size e) I.ok.above)
  have neC : ∀ b o, X.s₀.heap.get? b = some o → b ∉ X.ex → b ∉ ch := fun b o e hx hb => by
    rcases (hch b hb).1 with z | z
    · exact hx z
    · exact absurd (Nat.lt_of_lt_of_le (Heap.lt_size e) z) (Nat.lt_irrefl _)
  have cellK : ∀ x c, X.env.cells.lookup x = some c → ∀ v, s.heap.IsCell c v → h'.IsCell c v := fun x c e v ⟨o, ho, hd⟩ => by
    have nch : c ∉ ch := fun z => (hch c z).2.2.1 x c e rfl
    by_cases hc : c ∈ X.fs
    · obtain ⟨sl, q⟩ := slot c o (I.cne x c e) hc nch ho (I.freeC x c e)
      exact ⟨_, q, hd⟩
    · exact ⟨o, keep c o (I.cne x c e) hc nch ho (I.freeC x c e), hd⟩
  refine ⟨I.ok, I.os, hg, ⟨fun b o e n hb hx => ?_, fun b o e n hb hx => ?_, fun b o e n hx => ?_, fun b o e hx => ?_, fun b xs e => tups b xs (I.base.tups b xs e), fun b o xs e => frzs b o xs (I.base.frzs b o xs e), fun b ps e => ?_⟩, ?_, fun x c e => ?_, ?_, fun x c e => ?_, fun p hp => ?_, hok, I.len⟩
  · exact keep b o (neL b o e) hb (neC b o e hx) (I.base.keep b o e n hb hx) (I.base.free b o e n hx)
  · obtain ⟨sl, e1⟩ := I.base.slot b o e n hb hx
    obtain ⟨sl', e2⟩ := slot b _ (neL b o e) hb (neC b o e hx) e1 (I.base.free b o e n hx)
    exact ⟨sl', e2⟩
  · obtain ⟨o', e1⟩ := I.base.there b o e hx
    exact free b o' (neC b o e hx) e1 (I.base.free b o e n hx)
  · obtain ⟨o', e1⟩ := I.base.there b o e hx
    exact there b o' (neC b o e hx) e1
  · exact tbls b ps (I.base.tbls b ps e)
  · obtain ⟨m, hn, hl⟩ := I.loc
    refine ⟨m, ns m hn, fun i x v e1 e2 e3 => ?_⟩
    obtain ⟨u, r, l⟩ := hl i x v e1 e2 e3
    refine ⟨u, r, ?_⟩
    rcases l with l | ⟨k, c, e, z⟩
    · exact .inl l
    · exact .inr ⟨k, c, e, cellK x c e _ z⟩
  · obtain ⟨v, z⟩ := I.cell x c e
    exact ⟨v, cellK x c e v z⟩
  · obtain ⟨m, ⟨o, _, _, ho, _⟩, _⟩ := I.loc
    exact free _ o (fun z => (hch _ z).2.1 rfl) ho I.free
  · obtain ⟨v, o, ho, hd⟩ := I.cell x c e
    exact free c o (fun z => (hch c z).2.2.1 x c e rfl) ho (I.freeC x c e)
  · obtain ⟨e, n, ne, nf, d⟩ := I.pin p hp
    have nch : p.1 ∉ ch := fun z => (hch p.1 z).2.2.2 p hp rfl
    exact ⟨keep p.1 p.2 ne nf nch e n, free p.1 p.2 nch e n, ne, nf, d⟩
/-- .. where the frame's own object is kept too -/
theorem Inv.un {t' : Nat} (I : Inv X pins σ H s) (u : Un X.fs [] H H' s.heap h') (hok : HOk X.prog X.w H' h') : Inv X pins σ H' { s with heap := h', toks := t' } := by
  obtain ⟨m, ⟨o, es, ep, ho, r⟩, _⟩ := id I.loc
  obtain ⟨sl, hL⟩ := u.any ho I.free (by simp)
  exact I.step (g' := s.gens) (d' := s.drawn) (ch := []) (fun _ z => nomatch z) (fun b o _ hb _ e n => u.keep b o e n hb (by simp)) (fun b o _ hb _ e n => u.slot b o e n hb (by simp)) (fun b o _ e n => u.free b o e n (by simp)) (fun b o _ e => u.there b o e (by simp)) u.tups u.frzs u.tbls (fun m' hm => by
    obtain ⟨o', es', ep', ho', r'⟩ := hm
    rw [ho] at ho'; cases ho'
    exact ⟨_, es', ep', hL, r'⟩) hok I.bare
/-- behind a call (or a comprehension's block): the slots of this frame may have changed too, the records at ch may have turned -/
theorem Inv.call {g' : Array GenState} {t' : Nat} {d' : Drawn} {ch : List Addr} (I : Inv X pins σ H s) (u : Un (frs X.stack) ch H H' s.heap h') (hok : HOk X.prog X.w H' h') (hg : AllBare g')
    (hch : ∀ b ∈ ch, (b ∈ X.ex ∨ X.s₀.heap.objs.size ≤ b) ∧ b ≠ X.env.locals ∧ (∀ x c, X.env.cells.lookup x = some c → c ≠ b) ∧ ∀ p ∈ X.pn ++ pins, p.1 ≠ b) :
    Inv X pins σ H' { s with heap := h', gens := g', drawn := d', toks := t' } := by
  obtain ⟨m, ⟨o, es, ep, ho, r⟩, _⟩ := id I.loc
  obtain ⟨sl, hL⟩ := u.any ho I.free fun z => (hch _ z).2.1 rfl
  exact I.step (ch := ch) hch (fun b o hL hb hc e n => u.keep b o e n (fun z => (List.mem_cons.mp (I.stkSub b z)).elim hL hb) hc) (fun b o _ _ hc e n => u.any e n hc) (fun b o hc e n => u.free b o e n hc) (fun b o hc e => u.there b o e hc) u.tups u.frzs u.tbls (fun m' hm => by
    obtain ⟨o', es', ep', ho', r'⟩ := hm
    rw [ho] at ho'; cases ho'
    exact ⟨_, es', ep', hL, r'⟩) hok hg
/-- an untracked record of ours (an iterator) has turned -/
theorem Inv.turned {t' : Nat} {it : Addr} (I : Inv X pins σ H s) (k : ∀ b o, b ≠ it → s.heap.get? b = some o → h'.get? b = some o) (hn : H it = none) (hL : it ≠ X.env.locals)
    (h1 : it ∈ X.ex ∨ X.s₀.heap.objs.size ≤ it) (h2 : ∀ x c, X.env.cells.lookup x = some c → c ≠ it) (h3 : ∀ p ∈ X.pn ++ pins, p.1 ≠ it) : Inv X pins σ H { s with heap := h', toks := t' } := by
  have nit : ∀ b u, H b = some u → b ≠ it := fun b u e z => by rw [z, hn] at e; cases e
  refine I.step (g' := s.gens) (d' := s.drawn) (ch := [it]) (fun b hb => ?_) (fun b o _ _ hc e _ => k b o (fun z => hc (by simp [z])) e) (fun b o _ _ hc e _ => ⟨o.slots, k b o (fun z => hc (by simp [z])) e⟩) (fun _ _ _ _ n => n)
    (fun b o hc e => ⟨o, k b o (fun z => hc (by simp [z])) e⟩) (fun _ _ e => e) (fun _ _ _ e => e) (fun _ _ e => e) (fun m hm => ?_) (fun b u e => ?_) I.bare
  · have e : b = it := by simpa using hb
    subst e
    exact ⟨h1, hL, h2, h3⟩
  · obtain ⟨o, es, ep, ho, r⟩ := hm
    exact ⟨o, es, ep, k _ o (Ne.symm hL) ho, r⟩
  · refine (I.hok b u e).stay (fun c v hc q => k c v ?_ q) (fun _ q => q) fun _ _ _ q => q
    rcases hc with z | z
    · rw [z]; exact nit b u e
    · exact nit c _ z
theorem Inv.tok (I : Inv X pins σ H s) (t : Nat) : Inv X pins σ H { s with toks := t } := I.un (h' := s.heap) (t' := t) Un.refl I.hok
/-- all objects kept -/
theorem Inv.kept (I : Inv X pins σ H s) (k : ∀ b u, s.heap.get? b = some u → h'.get? b = some u) : Inv X pins σ H { s with heap := h', toks := t' } := I.un (Un.kept k) (I.hok.kept k)
/-- a new object laid and tracked -/
theorem Inv.laid (I : Inv X pins σ H s) (k : ∀ b u, s.heap.get? b = some u → h'.get? b = some u) (hp : s.heap.objs.size ≤ a) (new : ObjOk X.prog X.w (upd H a o) h' a o) :
    Inv X pins σ (upd H a o) { s with heap := h', toks := t' } := I.un (Un.laid k hp (I.hok.fresh hp)) (I.hok.laid k hp new)
/-- an object written -/
theorem Inv.write (I : Inv X pins σ H s) (mu : Mut (H x)) (he : e = x ∨ H e = some (.own x)) (k : ∀ b u, b ≠ e → s.heap.get? b = some u → h'.get? b = some u) (heo : ∃ u, h'.get? e = some u) (new : ObjOk X.prog X.w (upd H x o) h' x o) : Inv X pins σ (upd H x o) { s with heap := h', toks := t' } := I.un (Un.write mu he k heo) (I.hok.write mu he k heo new)
/-- forgetting slots, pins -/
theorem Inv.weak (I : Inv X pins σ H s) (hl : σ'.length = σ.length) (w : ∀ (i : Nat) v, σ'[i]? = some (some v) → σ[i]? = some (some v)) : Inv X pins σ' H s :=
  ⟨I.ok, I.os, I.bare, I.base, let ⟨m, hn, hl'⟩ := I.loc; ⟨m, hn, fun i x v e1 e2 e3 => hl' i x v e1 (w i v e2) e3⟩, I.cell, I.free, I.freeC, I.pin, I.hok, hl.trans I.len⟩
theorem Inv.pins_of (I : Inv X pins σ H s) (h : ∀ p ∈ pins', s.heap.get? p.1 = some p.2 ∧ H p.1 = none ∧ p.1 ≠ X.env.locals ∧ p.1 ∉ X.fs ∧ ∀ v, p.2.data ≠ .cell v) : Inv X pins' σ H s :=
  ⟨I.ok, I.os, I.bare, I.base, I.loc, I.cell, I.free, I.freeC, fun p hp => (List.mem_append.mp hp).elim (fun z => I.pin p (List.mem_append_left _ z)) (h p), I.hok, I.len⟩

theorem nodup_ix {N : List Str} (hN : N.Nodup) {i j : Nat} {x : Str} (a : N[i]? = some x) (b : N[j]? = some x) : i = j := by
  obtain ⟨h1, e1⟩ := List.getElem?_eq_some_iff.mp a
  obtain ⟨h2, e2⟩ := List.getElem?_eq_some_iff.mp b
  exact (List.getElem_inj hN).mp (e1.trans e2.symm)

/-- a name is stored; what changed -/
theorem store_ok2 {M : Model} {A : Around} {E : Value → Shared → Prop} {i : Nat} {x : Str} {v : V} {u : Value} {Q : Unit → Shared → Prop} (I : Inv X pins σ H s) (hN : X.N.Nodup) (hi : X.N[i]? = some x) (hx : Loc X.env.scope x) (r : RelV v u)
    (h : ∀ s', Inv X pins (σ.set i (some v)) H s' → (∃ a, Heap.SameBut a s.heap s'.heap ∧ (a = X.env.locals ∨ X.env.cells.lookup x = some a)) → Q () s') (hf : X.fn x = true ∨ X.env.scope.names.lookup x = some .local := by first | exact .inl rfl | exact .inr rfl | assumption) : wpAny M A (storeName X.env x u) Q E s := by
  obtain ⟨m, hn, hl⟩ := id I.loc
  have hcls : (X.env.scope.kind == .class || (X.env.scope.kind == .module && X.env.locals != X.env.globals)) = false := by rw [I.ok.kind]; rfl
  have hiσ : i < σ.length := by rw [I.len]; exact (List.getElem?_eq_some_iff.mp hi).1
  have cne := I.cne
  have tracked : ∀ {a : Addr} {h' : Heap}, (∃ o, s.heap.get? a = some o ∧ H a = none) → Heap.SameBut a s.heap h' → HOk X.prog X.w H h' := fun {a h'} ha hs b ob e => by
    obtain ⟨_, _, hfree⟩ := ha
    refine (I.hok b ob e).stay (fun c w' hc q => (hs.2 c ?_).trans q) (fun _ q => q) fun _ _ _ q => q
    rintro rfl
    rcases hc with rfl | hc
    · rw [hfree] at e; cases e
    · rw [hfree] at hc; cases hc
  rcases hx with hk | hk
  · refine wpAny_storeName_local hk hn (fun h' hn' hs => ?_) hcls
    obtain ⟨oL, _, _, hoL, _⟩ := id hn
    refine h _ ⟨I.ok, I.os, I.bare, ⟨fun b o e n hb hx => ?_, fun b o e n hb hx => ?_, I.base.free, fun b o e hx => ?_, I.base.tups, I.base.frzs, I.base.tbls⟩, ⟨_, hn', fun j y v' e1 e2 e3 => ?_⟩, fun y c e => ?_, I.free, I.freeC, fun p hp => ?_, tracked ⟨oL, hoL, I.free⟩ hs, by simpa using I.len⟩ ⟨_, hs, .inl rfl⟩
    · exact (hs.2 b (Nat.ne_of_lt (Nat.lt_of_lt_of_le (Heap.lt_size e) I.ok.above))).trans (I.base.keep b o e n hb hx)
    · obtain ⟨sl, e1⟩ := I.base.slot b o e n hb hx
      exact ⟨sl, (hs.2 b (Nat.ne_of_lt (Nat.lt_of_lt_of_le (Heap.lt_size e) I.ok.above))).trans e1⟩
    · obtain ⟨o', e1⟩ := I.base.there b o e hx
      exact ⟨o', (hs.2 b (Nat.ne_of_lt (Nat.lt_of_lt_of_le (Heap.lt_size e) I.ok.above))).trans e1⟩
    · by_cases hj : j = i
      · subst hj
        rw [hi] at e1; cases e1
        rw [List.getElem?_set_self hiσ] at e2
        cases e2
        exact ⟨u, r, .inl ⟨hk, by simp⟩⟩
      · rw [List.getElem?_set_ne (Ne.symm hj)] at e2
        obtain ⟨u', r', q⟩ := hl j y v' e1 e2 e3
        refine ⟨u', r', ?_⟩
        rcases q with ⟨k, e⟩ | ⟨k, c, e, z⟩
        · refine .inl ⟨k, ?_⟩
          have : y ≠ x := fun e => hj (nodup_ix hN e1 (e ▸ hi))
          simp [this, e]
        · exact .inr ⟨k, c, e, z.sameBut hs (cne y c e)⟩
    · obtain ⟨w', z⟩ := I.cell y c e
      exact ⟨w', z.sameBut hs (cne y c e)⟩
    · obtain ⟨e, n, ne, nf, d⟩ := I.pin p hp
      exact ⟨(hs.2 p.1 ne).trans e, n, ne, nf, d⟩
  · have hfn : X.fn x = true := by
      rcases hf with z | z
      · exact z
      · rw [z] at hk; cases hk
    obtain ⟨c, hc⟩ := I.ok.has x (.inl hk)
    obtain ⟨w', z⟩ := I.cell x c hc
    refine wpAny_storeName_cell I.ok.kind hk hc z (fun h' hc' hs => ?_)
    obtain ⟨oc, hoc, hocd⟩ := id z
    refine h { s with heap := h' } ⟨I.ok, I.os, I.bare, ⟨fun b o e n hb hx => ?_, fun b o e n hb hx => ?_, I.base.free, fun b o e hx => ?_, I.base.tups, I.base.frzs, I.base.tbls⟩, ⟨m, hn.sameBut hs (Ne.symm (cne x c hc)), fun j y v' e1 e2 e3 => ?_⟩, fun y c' e => ?_, I.free, I.freeC, fun p hp => ?_, tracked ⟨oc, hoc, I.freeC x c hc⟩ hs, by simpa using I.len⟩ ⟨c, hs, .inr hc⟩
    · exact (hs.2 b (Nat.ne_of_lt (Nat.lt_of_lt_of_le (Heap.lt_size e) (I.ok.cab x c hfn hc)))).trans (I.base.keep b o e n hb hx)
    · obtain ⟨sl, e1⟩ := I.base.slot b o e n hb hx
      exact ⟨sl, (hs.2 b (Nat.ne_of_lt (Nat.lt_of_lt_of_le (Heap.lt_size e) (I.ok.cab x c hfn hc)))).trans e1⟩
    · obtain ⟨o', e1⟩ := I.base.there b o e hx
      exact ⟨o', (hs.2 b (Nat.ne_of_lt (Nat.lt_of_lt_of_le (Heap.lt_size e) (I.ok.cab x c hfn hc)))).trans e1⟩
    · by_cases hj : j = i
      · subst hj
        rw [hi] at e1; cases e1
        rw [List.getElem?_set_self hiσ] at e2
        cases e2
        exact ⟨u, r, .inr ⟨.inl hk, c, hc, hc'⟩⟩
      · rw [List.getElem?_set_ne (Ne.symm hj)] at e2
        obtain ⟨u', r', q⟩ := hl j y v' e1 e2 e3
        refine ⟨u', r', ?_⟩
        rcases q with q | ⟨k, c', e, z'⟩
        · exact .inl q
        · refine .inr ⟨k, c', e, z'.sameBut hs ?_⟩
          rintro rfl
          exact hj (nodup_ix hN e1 (I.ok.inj _ _ _ e hc ▸ hi))
    · by_cases hcc : c' = c
      · subst hcc; exact ⟨_, hc'⟩
      · obtain ⟨w2, z2⟩ := I.cell y c' e
        exact ⟨w2, z2.sameBut hs hcc⟩
    · obtain ⟨e, n, ne, nf, d⟩ := I.pin p hp
      refine ⟨(hs.2 p.1 ?_).trans e, n, ne, nf, d⟩
      intro q
      rw [q, hoc] at e
      have q' : oc = p.2 := Option.some.inj e
      exact d w' (by rw [← q']; exact hocd)
theorem store_ok {E : Value → Shared → Prop} {Q : Unit → Shared → Prop} (I : Inv X pins σ H s) (hN : X.N.Nodup) (hi : X.N[i]? = some x) (hx : Loc X.env.scope x) (r : RelV v u) (h : ∀ s', Inv X pins (σ.set i (some v)) H s' → Q () s') (hf : X.fn x = true ∨ X.env.scope.names.lookup x = some .local := by first | exact .inl rfl | exact .inr rfl | assumption) : wpAny M A (storeName X.env x u) Q E s :=
  store_ok2 I hN hi hx r (fun s' I' _ => h s' I') hf
/-- behind a call or a block, the state as it is -/
theorem Inv.call' (I : Inv X pins σ H s) (ho : s'.os = s.os) (u : Un (frs X.stack) ch H H' s.heap s'.heap) (hok : HOk X.prog X.w H' s'.heap) (hg : AllBare s'.gens) (hch : ∀ b ∈ ch, (b ∈ X.ex ∨ X.s₀.heap.objs.size ≤ b) ∧ b ≠ X.env.locals ∧ (∀ x c, X.env.cells.lookup x = some c → c ≠ b) ∧ ∀ p ∈ X.pn ++ pins, p.1 ≠ b) : Inv X pins σ H' s' := by
  obtain ⟨h', g', d', t', o'⟩ := s'
  have e : o' = s.os := ho
  subst e
  exact I.call (g' := g') (t' := t') (d' := d') u hok hg hch
end

/-! ### the judgements -/
/-- an exception: its class, its own dict's address (where it has one), the abstract heap behind it -/
abbrev XK := Value → Option Addr → Hp → Prop
abbrev St := List (Option V)
abbrev VK := V → Hp → Prop
/-- an expression's reading; a test's; an argument list's -/
abbrev TE := St → Hp → VK → Prop
abbrev TT := St → Hp → (Bool → Hp → Prop) → Prop
abbrev TA := St → Hp → (List V → Hp → Prop) → Prop
/-- what is wanted behind a statement -/
structure Ends where
  nx : St → Hp → Prop
  rt : VK
  bk : St → Hp → Prop := fun _ _ => False
  ct : St → Hp → Prop := fun _ _ => False
abbrev TS := Ends → St → Hp → Prop

def EP (X : Cx) (pins : List (Addr × Obj)) (σ : St) (Q : VK) (u : Value) (s' : Shared) : Prop := ∃ v H', Inv X pins σ H' s' ∧ RelV v u ∧ Q v H'
def TP (X : Cx) (pins : List (Addr × Obj)) (σ : St) (Q : Bool → Hp → Prop) (b : Bool) (s' : Shared) : Prop := ∃ H', Inv X pins σ H' s' ∧ Q b H'
def AP (X : Cx) (pins : List (Addr × Obj)) (σ : St) (Q : List V → Hp → Prop) (us : List Value) (s' : Shared) : Prop := ∃ vs H', Inv X pins σ H' s' ∧ Vals vs us ∧ Q vs H'
def SP (X : Cx) (pins : List (Addr × Obj)) (D : Ends) (f : Flow) (s' : Shared) : Prop :=
  match f with
  | .next => ∃ σ' H', Inv X pins σ' H' s' ∧ D.nx σ' H'
  | .brk => ∃ σ' H', Inv X pins σ' H' s' ∧ D.bk σ' H'
  | .cont => ∃ σ' H', Inv X pins σ' H' s' ∧ D.ct σ' H'
  | .ret u => ∃ v σ' H', Inv X pins σ' H' s' ∧ RelV v u ∧ D.rt v H'

def PE (X : Cx) (e : Expr) (t : TE) : Prop :=
  ∀ (pins : List (Addr × Obj)) (s : Shared) (σ : St) (H : Hp) (Q : VK), Inv X pins σ H s → t σ H Q → wpAny (model X.prog X.w) X.A (eval e X.env) (EP X pins σ Q) X.xe s
def PT (X : Cx) (e : Expr) (t : TT) : Prop :=
  ∀ (pins : List (Addr × Obj)) (s : Shared) (σ : St) (H : Hp) (Q : Bool → Hp → Prop), Inv X pins σ H s → t σ H Q → wpAny (model X.prog X.w) X.A (isTrue e X.env (eval e X.env)) (TP X pins σ Q) X.xe s
/-- a test whatever its 'whole' is (and, or) -/
def PW (X : Cx) (e : Expr) (t : TT) : Prop :=
  ∀ (whole : Sem Value) (pins : List (Addr × Obj)) (s : Shared) (σ : St) (H : Hp) (Q : Bool → Hp → Prop), Inv X pins σ H s → t σ H Q → wpAny (model X.prog X.w) X.A (isTrue e X.env whole) (TP X pins σ Q) X.xe s
theorem PW.pt (h : PW X e t) : PT X e t := h _
/-- an argument list (no star), from the left -/
def PA (X : Cx) (es : List Expr) (t : TA) : Prop :=
  ∀ (pos : Pos) (pins : List (Addr × Obj)) (s : Shared) (σ : St) (H : Hp) (Q : List V → Hp → Prop), Inv X pins σ H s → t σ H Q → wpAny (model X.prog X.w) X.A (spliced (backTo pos (starEach es X.env))) (AP X pins σ Q) X.xe s
def PS (X : Cx) (st : Stmt) (t : TS) : Prop :=
  ∀ (pins : List (Addr × Obj)) (s : Shared) (σ : St) (H : Hp) (D : Ends), Inv X pins σ H s → t D σ H → wpAny (model X.prog X.w) X.A (exec st X.env) (SP X pins D) X.xe s
def PSs (X : Cx) (st : List Stmt) (t : TS) : Prop :=
  ∀ (pins : List (Addr × Obj)) (s : Shared) (σ : St) (H : Hp) (D : Ends), Inv X pins σ H s → t D σ H → wpAny (model X.prog X.w) X.A (execs st X.env) (SP X pins D) X.xe s
/-- weaken the end -/
theorem thn {α : Type} {t : Sem α} {Q Q' : α → Shared → Prop} {M : Model} {A : Around} {E : Value → Shared → Prop} {s : Shared} (h : wpAny M A t Q E s) (hQ : ∀ a s, Q a s → Q' a s) : wpAny M A t Q' E s := wpAny_mono h hQ fun _ _ x => x
end L2

namespace L2
open PySem PySem.Spec PyProof.Rows
section
variable {X : Cx}

/-- two expressions in a row -/
theorem bin {a b : Expr} {ta tb : TE} (ha : PE X a ta) (hb : PE X b tb) {pins : List (Addr × Obj)} {s : Shared} {σ : St} {H : Hp} {R : V → V → Hp → Prop} (I : Inv X pins σ H s) (h : ta σ H fun x H1 => tb σ H1 fun y H2 => R x y H2)
    {α : Type} {Q : α → Shared → Prop} {f : Value → Value → Sem α}
    (hf : ∀ v u s2 x y H2, Inv X pins σ H2 s2 → RelV x v → RelV y u → R x y H2 → wpAny (model X.prog X.w) X.A (f v u) Q X.xe s2) :
    wpAny (model X.prog X.w) X.A (eval a X.env) (fun v s₁ => wpAny (model X.prog X.w) X.A (eval b X.env) (fun u s₂ => wpAny (model X.prog X.w) X.A (f v u) Q X.xe s₂) X.xe s₁) X.xe s := by
  refine thn (ha pins s σ H _ I h) fun v s1 ⟨x, H1, I1, r1, q1⟩ => ?_
  refine thn (hb pins s1 σ H1 _ I1 q1) fun u s2 ⟨y, H2, I2, r2, q2⟩ => ?_
  exact hf v u s2 x y H2 I2 r1 r2 q2

/-! ### names and constants -/
def tVar (i : Nat) : TE := fun σ H Q => ∃ v, σ[i]? = some (some v) ∧ Q v H
def tC (v : V) : TE := fun _ H Q => Q v H
theorem pe_var (hN : X.N[i]? = some x) (hv : Vis X.env.scope x) (hd : (x == ("__debug__" : Str)) = false := by decide) (hcd : (x == ("__classdict__" : Str)) = false := by decide) : PE X (.Name x pos) (tVar i) := by
  intro pins s σ H Q I h
  obtain ⟨v, e, h⟩ := h
  obtain ⟨m, hn, hl⟩ := I.loc
  obtain ⟨u, r, l⟩ := hl i x v hN e hv
  have fin : EP X pins σ Q u s := ⟨v, H, I, r, h⟩
  rcases l with ⟨hk, hm⟩ | ⟨hk, c, hc, hcell⟩
  · exact wpAny_Name (wpAny_loadName_local I.ok.kind hk hn hm fin) hd
  · rcases hk with hk | hk
    · exact wpAny_Name (wpAny_loadName_cell I.ok.kind hk hc hcell fin) hd
    · exact wpAny_Name (wpAny_loadName_free I.ok.kind hk hc hcell fin hcd) hd
theorem pe_int {i j pos} : PE X (.Constant (.int i) j pos) (tC (.int i)) := fun _ _ _ H _ I h => wpAny_Constant_int ⟨.int i, H, I.tok _, ⟨_, rfl⟩, h⟩
theorem pe_bl {b j pos} : PE X (.Constant (.bool b) j pos) (tC (.bl b)) := fun _ _ _ H _ I h => Constant_bool ⟨.bl b, H, I, rfl, h⟩
theorem pe_non {j pos} : PE X (.Constant .none j pos) (tC .non) := fun _ _ _ H _ I h => Constant_none ⟨.non, H, I, rfl, h⟩
theorem pe_str {x j pos} : PE X (.Constant (.str x) j pos) (tC (.str x)) := fun _ _ _ H _ I h => Calls.Constant_str ⟨.str x, H, I.tok _, ⟨_, rfl⟩, h⟩

/-- a global name of the def -/
def Gl (X : Cx) (x : Str) : Prop := X.env.kindOf x = some .globalImplicit
theorem ld_glob {E : Value → Shared → Prop} {Q : Value → Shared → Prop} (I : Inv X pins σ H s) (hg : Gl X x) (hm : X.mg x = some u) (h : Q u s) (hd : (x == ("__debug__" : Str)) = false := by decide) : wpAny (model X.prog X.w) X.A (eval (.Name x pos) X.env) Q E s :=
  Calls.Name_function_global I.ok.kind hg (Calls.loadGlobal_global (by rw [I.ok.glob]; exact I.mod.glob.keeps I.bk) hm h) hd
theorem ld_blt {E : Value → Shared → Prop} {Q : Value → Shared → Prop} (I : Inv X pins σ H s) (hg : Gl X x) (hm : X.mg x = none) (hv : bootBuiltins x = some u) (h : Q u s) (hn : x ≠ "__name__" := by decide) (hd : (x == ("__debug__" : Str)) = false := by decide) : wpAny (model X.prog X.w) X.A (eval (.Name x pos) X.env) Q E s := by
  obtain ⟨mb, h1, h2⟩ := I.mod.blt
  exact Calls.Name_function_global I.ok.kind hg (Calls.loadGlobal_builtin (by rw [I.ok.glob]; exact I.mod.glob.keeps I.bk) hm (by rw [I.ok.blt]; exact h1.keeps I.bk) ((h2 x hn).trans hv) h) hd
/-- a module's constant, a class, a function, as a value -/
theorem pe_glob (hg : Gl X x) (hm : X.mg x = some u) (r : RelV v u) (hd : (x == ("__debug__" : Str)) = false := by decide) : PE X (.Name x pos) (tC v) :=
  fun _ _ _ H _ I h => ld_glob I hg hm ⟨v, H, I, r, h⟩ hd
theorem pe_bltn (hg : Gl X x) (hm : X.mg x = none) (hv : bootBuiltins x = some u) (r : RelV v u) (hn : x ≠ "__name__" := by decide) (hd : (x == ("__debug__" : Str)) = false := by decide) : PE X (.Name x pos) (tC v) :=
  fun _ _ _ H _ I h => ld_blt I hg hm hv ⟨v, H, I, r, h⟩ hn hd

/-! ### arithmetic -/
/-- two ints -/
def t2I (ta tb : TE) (k : Int → Int → Hp → Prop) : St → Hp → Prop := fun σ H => ta σ H fun x H1 => tb σ H1 fun y H2 => ∃ i j, x = .int i ∧ y = .int j ∧ k i j H2
def tAdd (ta tb : TE) : TE := fun σ H Q => t2I ta tb (fun i j H2 => Q (.int (i + j)) H2) σ H
def tSub (ta tb : TE) : TE := fun σ H Q => t2I ta tb (fun i j H2 => Q (.int (i - j)) H2) σ H
/-- the left factor below 2^64 -/
def tMul (ta tb : TE) : TE := fun σ H Q => t2I ta tb (fun i j H2 => (-(2 ^ 64) < i ∧ i < 2 ^ 64) ∧ Q (.int (i * j)) H2) σ H
variable {a b : Expr} {ta tb : TE} {pos : Pos}
theorem pe_add (ha : PE X a ta) (hb : PE X b tb) : PE X (.BinOp a .Add b pos) (tAdd ta tb) := by
  intro pins s σ H Q I h
  refine wpAny_BinOp (bin ha hb I h fun v u s2 x y H2 I2 rx ry q => ?_)
  obtain ⟨i, j, rfl, rfl, q⟩ := q
  obtain ⟨t, rfl⟩ := rx
  obtain ⟨t', rfl⟩ := ry
  exact add_int ⟨.int _, H2, I2.tok _, ⟨_, rfl⟩, q⟩
theorem pe_sub (ha : PE X a ta) (hb : PE X b tb) : PE X (.BinOp a .Sub b pos) (tSub ta tb) := by
  intro pins s σ H Q I h
  refine wpAny_BinOp (bin ha hb I h fun v u s2 x y H2 I2 rx ry q => ?_)
  obtain ⟨i, j, rfl, rfl, q⟩ := q
  obtain ⟨t, rfl⟩ := rx
  obtain ⟨t', rfl⟩ := ry
  exact sub_int ⟨.int _, H2, I2.tok _, ⟨_, rfl⟩, q⟩
theorem pe_mul (ha : PE X a ta) (hb : PE X b tb) : PE X (.BinOp a .Mult b pos) (tMul ta tb) := by
  intro pins s σ H Q I h
  refine wpAny_BinOp (bin ha hb I h fun v u s2 x y H2 I2 rx ry q => ?_)
  obtain ⟨i, j, rfl, rfl, ⟨q1, q2⟩, q⟩ := q
  obtain ⟨t, rfl⟩ := rx
  obtain ⟨t', rfl⟩ := ry
  exact mul_int ⟨.int _, H2, I2.tok _, ⟨_, rfl⟩, q⟩ (.of_left (intBits_le_64 q1 q2))

/-! ### comparisons -/
def PC (X : Cx) (op : CmpOp) (a b : Expr) (t : TE) : Prop :=
  ∀ (pins : List (Addr × Obj)) (s : Shared) (σ : St) (H : Hp) (Q : VK), Inv X pins σ H s → t σ H Q →
    wpAny (model X.prog X.w) X.A (eval a X.env) (fun v s₁ => wpAny (model X.prog X.w) X.A (eval b X.env) (fun u s₂ => wpAny (model X.prog X.w) X.A (compareOp op v u) (EP X pins σ Q) X.xe s₂) X.xe s₁) X.xe s
theorem nobehind (b : Expr) (h : op ≠ .In) (h2 : op ≠ .NotIn) : behindInMarks op b = false := by
  have e1 : (op == CmpOp.In) = false := by cases op <;> first | rfl | exact absurd rfl h
  have e2 : (op == CmpOp.NotIn) = false := by cases op <;> first | rfl | exact absurd rfl h2
  cases b <;> simp [behindInMarks, e1, e2]
def tCmp (p : Int → Int → Bool) (ta tb : TE) : TE := fun σ H Q => t2I ta tb (fun i j H2 => Q (.bl (p i j)) H2) σ H
abbrev tLt : TE → TE → TE := tCmp fun i j => decide (i < j)
abbrev tLe : TE → TE → TE := tCmp fun i j => decide (i ≤ j)
abbrev tGt : TE → TE → TE := tCmp fun i j => decide (j < i)
abbrev tGe : TE → TE → TE := tCmp fun i j => decide (j ≤ i)
abbrev tEqI : TE → TE → TE := tCmp fun i j => decide (i = j)
abbrev tNeI : TE → TE → TE := tCmp fun i j => !decide (i = j)
/-- a comparison of two ints, by its rule -/
theorem pc_int (ha : PE X a ta) (hb : PE X b tb) (rule : ∀ (i j : Int) (t u : Tok) (Q : Value → Shared → Prop) (s : Shared), Q (.bool (p i j)) s → wpAny (model X.prog X.w) X.A (compareOp op (.int i t) (.int j u)) Q X.xe s) : PC X op a b (tCmp p ta tb) := by
  intro pins s σ H Q I h
  refine bin ha hb I h fun v u s2 x y H2 I2 rx ry q => ?_
  obtain ⟨i, j, rfl, rfl, q⟩ := q
  obtain ⟨t, rfl⟩ := rx
  obtain ⟨t', rfl⟩ := ry
  exact rule i j t t' _ s2 ⟨.bl _, H2, I2, rfl, q⟩
theorem pc_lt (ha : PE X a ta) (hb : PE X b tb) : PC X .Lt a b (tLt ta tb) := pc_int ha hb fun _ _ _ _ _ _ h => lt_int h
theorem pc_le (ha : PE X a ta) (hb : PE X b tb) : PC X .LtE a b (tLe ta tb) := pc_int ha hb fun _ _ _ _ _ _ h => le_int h
theorem pc_gt (ha : PE X a ta) (hb : PE X b tb) : PC X .Gt a b (tGt ta tb) := pc_int ha hb fun _ _ _ _ _ _ h => gt_int h
theorem pc_ge (ha : PE X a ta) (hb : PE X b tb) : PC X .GtE a b (tGe ta tb) := pc_int ha hb fun _ _ _ _ _ _ h => ge_int h
theorem pc_eqI (ha : PE X a ta) (hb : PE X b tb) : PC X .Eq a b (tEqI ta tb) := pc_int ha hb fun _ _ _ _ _ _ h => eq_int (by rw [Bool.beq_eq_decide_eq]; exact h)
theorem pc_neI (ha : PE X a ta) (hb : PE X b tb) : PC X .NotEq a b (tNeI ta tb) := pc_int ha hb fun _ _ _ _ _ _ h => ne_int (by rw [bne, Bool.beq_eq_decide_eq]; exact h)
/-- is None -/
def tIsN (ta : TE) : TE := fun σ H Q => ta σ H fun x H1 => Q (.bl (decide (x = .non))) H1
def tNotN (ta : TE) : TE := fun σ H Q => ta σ H fun x H1 => Q (.bl (!decide (x = .non))) H1
theorem RelV.none_iff (r : RelV x v) : (v == Value.none) = decide (x = .non) := by
  cases x with
  | non => cases r; rfl
  | bl _ => cases r; rfl
  | int _ => obtain ⟨t, rfl⟩ := r; rfl
  | str _ => obtain ⟨t, rfl⟩ := r; rfl
  | byt _ => obtain ⟨t, rfl⟩ := r; rfl
  | flt _ => obtain ⟨t, rfl⟩ := r; rfl
  | ref _ => cases r; rfl
  | ty _ => cases r; rfl
theorem pc_isN {j pos'} (ha : PE X a ta) : PC X .Is a (.Constant .none j pos') (tIsN ta) := by
  intro pins s σ H Q I h
  refine thn (ha pins s σ H _ I h) fun v s1 ⟨x, H1, I1, r1, q1⟩ => ?_
  exact Constant_none (is_none_gen ⟨.bl _, H1, I1, by rw [r1.none_iff]; rfl, q1⟩)
theorem pc_notN {j pos'} (ha : PE X a ta) : PC X .IsNot a (.Constant .none j pos') (tNotN ta) := by
  intro pins s σ H Q I h
  refine thn (ha pins s σ H _ I h) fun v s1 ⟨x, H1, I1, r1, q1⟩ => ?_
  exact Constant_none (isnot_none_gen ⟨.bl _, H1, I1, by rw [r1.none_iff]; rfl, q1⟩)
/-- a comparison as a value, as a test -/
def tB (t : TE) : TT := fun σ H Q => t σ H fun x H1 => ∃ c, x = .bl c ∧ Q c H1
theorem pe_cmp (h : PC X op a b t) (h1 : behindInMarks op b = false := by first | exact nobehind _ (by decide) (by decide) | rfl) : PE X (.Compare a [op] [b] pos) t := fun pins s σ H Q I hw => wpAny_Compare1 (h pins s σ H Q I hw) h1
theorem pt_cmp {op : CmpOp} {t : TE} (h : PC X op a b t) (h1 : behindInMarks op b = false := by first | exact nobehind _ (by decide) (by decide) | rfl) : PT X (.Compare a [op] [b] pos) (tB t) := by
  intro pins s σ H Q I hw
  refine wpAny_isTrue_Compare1 (thn (h pins s σ H _ I hw) fun v s1 h1 => thn h1 fun u s2 h2 => thn h2 fun c s3 ⟨x, H1, I1, r1, q1⟩ => ?_) h1
  obtain ⟨d, rfl, q⟩ := q1
  cases r1
  exact wpAny_truthy_bool ⟨H1, I1, q⟩
/-- an expression whose value is a bool, as a test -/
theorem pt_val {e : Expr} {t : TE} (h : PE X e t) (he : ∀ whole, isTrue e X.env whole = (do let v ← whole; standAt e.pos; holding [v] (truthy v)) := by intro _; rfl) : PT X e (tB t) := by
  intro pins s σ H Q I hw
  refine isTrue_plain (thn (h pins s σ H _ I hw) fun v s1 ⟨x, H1, I1, r1, q1⟩ => ?_) (he _)
  obtain ⟨d, rfl, q⟩ := q1
  cases r1
  exact wpAny_truthy_bool ⟨H1, I1, q⟩

/-! ### and, or, not -/
variable {tA tB' : TT} {rest : List Expr}
def tAnd (t u : TT) : TT := fun σ H Q => t σ H fun c H1 => if c = true then u σ H1 Q else Q false H1
def tOr (t u : TT) : TT := fun σ H Q => t σ H fun c H1 => if c = true then Q true H1 else u σ H1 Q
def tNot (t : TT) : TT := fun σ H Q => t σ H fun c H1 => Q (!c) H1
theorem pw_and1 (ha : PT X a tA) : PW X (.BoolOp .And [a] pos) tA := by
  intro wh pins s σ H Q I h
  refine isTrue_and (thn (ha pins s σ H Q I h) fun c s1 e => ?_)
  cases c with
  | true => exact isTrue_and_nil e
  | false => exact e
theorem pw_or1 (ha : PT X a tA) : PW X (.BoolOp .Or [a] pos) tA := by
  intro wh pins s σ H Q I h
  refine isTrue_or (thn (ha pins s σ H Q I h) fun c s1 e => ?_)
  cases c with
  | false => exact isTrue_or_nil e
  | true => exact e
theorem pw_and (ha : PT X a tA) (hb : PW X (.BoolOp .And (b :: rest) pos) tB') : PW X (.BoolOp .And (a :: b :: rest) pos) (tAnd tA tB') := by
  intro wh pins s σ H Q I h
  refine isTrue_and (thn (ha pins s σ H _ I h) fun c s1 ⟨H1, I1, q1⟩ => ?_)
  cases c with
  | true => exact hb wh pins s1 σ H1 Q I1 q1
  | false => exact ⟨H1, I1, q1⟩
theorem pw_or (ha : PT X a tA) (hb : PW X (.BoolOp .Or (b :: rest) pos) tB') : PW X (.BoolOp .Or (a :: b :: rest) pos) (tOr tA tB') := by
  intro wh pins s σ H Q I h
  refine isTrue_or (thn (ha pins s σ H _ I h) fun c s1 ⟨H1, I1, q1⟩ => ?_)
  cases c with
  | true => exact ⟨H1, I1, q1⟩
  | false => exact hb wh pins s1 σ H1 Q I1 q1
theorem pt_not (ha : PT X a tA) : PT X (.UnaryOp .Not a pos) (tNot tA) := by
  intro pins s σ H Q I h
  exact isTrue_not (ha pins s σ H (fun c H1 => Q (!c) H1) I h)
/-- .. as values (bools) -/
def tAndV (ta tb : TE) : TE := fun σ H Q => ta σ H fun x H1 => ∃ c, x = .bl c ∧ if c = true then tb σ H1 Q else Q (.bl false) H1
def tOrV (ta tb : TE) : TE := fun σ H Q => ta σ H fun x H1 => ∃ c, x = .bl c ∧ if c = true then Q (.bl true) H1 else tb σ H1 Q
def tNotV (ta : TE) : TE := fun σ H Q => ta σ H fun x H1 => ∃ c, x = .bl c ∧ Q (.bl (!c)) H1
theorem pe_one {op} (h : PE X a t) : PE X (.BoolOp op [a] pos) t := fun pins s σ H Q I hw => BoolOp_one (h pins s σ H Q I hw)
theorem pe_and (ha : PE X a ta) (hb : PE X (.BoolOp .And (b :: rest) pos) tb) : PE X (.BoolOp .And (a :: b :: rest) pos) (tAndV ta tb) := by
  intro pins s σ H Q I h
  refine BoolOp_and (thn (ha pins s σ H _ I h) fun v s1 ⟨x, H1, I1, r1, q1⟩ => ?_)
  obtain ⟨c, rfl, q1⟩ := q1
  cases r1
  refine wpAny_truthy_bool ?_
  cases c with
  | true => exact hb pins s1 σ H1 Q I1 q1
  | false => exact ⟨.bl false, H1, I1, rfl, q1⟩
theorem pe_or (ha : PE X a ta) (hb : PE X (.BoolOp .Or (b :: rest) pos) tb) : PE X (.BoolOp .Or (a :: b :: rest) pos) (tOrV ta tb) := by
  intro pins s σ H Q I h
  refine BoolOp_or (thn (ha pins s σ H _ I h) fun v s1 ⟨x, H1, I1, r1, q1⟩ => ?_)
  obtain ⟨c, rfl, q1⟩ := q1
  cases r1
  refine wpAny_truthy_bool ?_
  cases c with
  | false => exact hb pins s1 σ H1 Q I1 q1
  | true => exact ⟨.bl true, H1, I1, rfl, q1⟩
theorem pe_not (ha : PE X a ta) : PE X (.UnaryOp .Not a pos) (tNotV ta) := by
  intro pins s σ H Q I h
  refine UnaryOp_ (thn (ha pins s σ H _ I h) fun v s1 ⟨x, H1, I1, r1, q1⟩ => ?_)
  obtain ⟨c, rfl, q1⟩ := q1
  cases r1
  exact not_of (wpAny_truthy_bool ⟨.bl (!c), H1, I1, rfl, q1⟩)
/-- a if t else b -/
def tIf (t : TT) (ta tb : TE) : TE := fun σ H Q => t σ H fun c H1 => if c = true then ta σ H1 Q else tb σ H1 Q
theorem pe_ifExp {c : Expr} (hc : PT X c tA) (ha : PE X a ta) (hb : PE X b tb) : PE X (.IfExp c a b pos) (tIf tA ta tb) := by
  intro pins s σ H Q I h
  refine wpAny_IfExp (thn (hc pins s σ H _ I h) fun d s1 ⟨H1, I1, q1⟩ => ?_)
  cases d with
  | true => exact ha pins s1 σ H1 Q I1 q1
  | false => exact hb pins s1 σ H1 Q I1 q1
end
end L2

namespace L2
open PySem PySem.Spec PyProof.Rows

/-! ### a list, a tuple that is read: tracked, frozen, or an object of the module -/
def SqL (K : PySem.W.Frag) (H : Hp) (a : Addr) (xs : List V) : Prop :=
  Rd H a (.lst xs) ∨
    ∃ (o : Obj) (its : Array Value) (n : Nat), K.lookup a = some o ∧ o.cls = .type "list" ∧ o.dict = none ∧ o.data = .seq its n ∧ its.size ≤ sizeLine ∧ Vals xs its.toList
def SqT (K : PySem.W.Frag) (H : Hp) (a : Addr) (xs : List V) : Prop :=
  Rd H a (.tup xs) ∨
    ∃ (o : Obj) (its : Array Value) (n : Nat), K.lookup a = some o ∧ o.cls = .type "tuple" ∧ o.data = .seq its n ∧ its.size ≤ sizeLine ∧ Vals xs its.toList
def absV : Value → Option V
  | .none => some .non
  | .bool b => some (.bl b)
  | .int i _ => some (.int i)
  | .str x _ => some (.str x)
  | .bytes b _ => some (.byt b)
  | .float b _ => some (.flt b)
  | .ref a => some (.ref a)
  | .type n => some (.ty n)
  | _ => none
theorem RelV.abs (r : RelV x u) : absV u = some x := by
  cases x with
  | non => cases r; rfl
  | bl _ => cases r; rfl
  | int _ => obtain ⟨t, rfl⟩ := r; rfl
  | str _ => obtain ⟨t, rfl⟩ := r; rfl
  | byt _ => obtain ⟨t, rfl⟩ := r; rfl
  | flt _ => obtain ⟨t, rfl⟩ := r; rfl
  | ref _ => cases r; rfl
  | ty _ => cases r; rfl
theorem RelV.inj {x y : V} {u : Value} (r : RelV x u) (q : RelV y u) : x = y := Option.some.inj (r.abs.symm.trans q.abs)
theorem Vals.inj : ∀ {xs ys : List V} {us : List Value}, Vals xs us → Vals ys us → xs = ys
  | _, _, _, .nil, .nil => rfl
  | _, _, _, .cons r t, .cons r' t' => by rw [r.inj r', Vals.inj t t']
section
variable {X : Cx} {pins : List (Addr × Obj)} {σ : St} {H : Hp} {s : Shared} {a : Addr} {xs ys : List V}
theorem SqL.of {K : PySem.W.Frag} (h : H a = some (.lst xs)) : SqL K H a xs := .inl (.inl h)
theorem SqT.of {K : PySem.W.Frag} (h : H a = some (.tup xs)) : SqT K H a xs := .inl (.inl h)
theorem Inv.list (I : Inv X pins σ H s) (h : SqL X.K H a xs) : ∃ its : List Value, Vals xs its ∧ PlainL s.heap a its.toArray ∧ xs.length ≤ sizeLine := by
  rcases h with h | ⟨o, its, n, hk, hc, hd, hs, hz, r⟩
  · obtain ⟨z, its, n, r, e⟩ := h.ok I.hok
    exact ⟨its, r, ⟨_, n, e, rfl, rfl, rfl⟩, z⟩
  · refine ⟨its.toList, r, ⟨o, n, I.kIn a o hk, hc, hd, by simpa using hs⟩, ?_⟩
    have e := r.length
    simp only [Array.length_toList] at e
    lia
theorem Inv.tuple (I : Inv X pins σ H s) (h : SqT X.K H a xs) : ∃ its : List Value, Vals xs its ∧ IsTup s.heap a its.toArray ∧ xs.length ≤ sizeLine := by
  rcases h with h | ⟨o, its, n, hk, hc, hs, hz, r⟩
  · obtain ⟨z, its, r, p⟩ := h.ok I.hok
    exact ⟨its, r, p, z⟩
  · refine ⟨its.toList, r, ⟨o, I.kIn a o hk, hc, n, by simpa using hs⟩, ?_⟩
    have e := r.length
    simp only [Array.length_toList] at e
    lia
theorem Inv.list_inj (I : Inv X pins σ H s) (h : SqL X.K H a xs) (h' : SqL X.K H a ys) : xs = ys := by
  obtain ⟨its, r, ⟨o, n, e, _, _, d⟩, _⟩ := I.list h
  obtain ⟨its', r', ⟨o', n', e', _, _, d'⟩, _⟩ := I.list h'
  rw [e] at e'; cases e'
  rw [d] at d'
  injection d' with d1 _
  have : its = its' := by simpa using congrArg Array.toList d1
  subst this
  exact r.inj r'
theorem Inv.tuple_inj (I : Inv X pins σ H s) (h : SqT X.K H a xs) (h' : SqT X.K H a ys) : xs = ys := by
  obtain ⟨its, r, ⟨o, e, _, n, d⟩, _⟩ := I.tuple h
  obtain ⟨its', r', ⟨o', e', _, n', d'⟩, _⟩ := I.tuple h'
  rw [e] at e'; cases e'
  rw [d] at d'
  injection d' with d1 _
  have : its = its' := by simpa using congrArg Array.toList d1
  subst this
  exact r.inj r'
end

/-! ### another wish about exceptions -/
abbrev Cx.wish (X : Cx) (E : Value → Shared → Prop) : Cx := { X with xe := E }
/-- no exception leaves -/
abbrev Cx.nox (X : Cx) : Cx := X.wish fun _ _ => False
theorem Cx.Ok.wish {X : Cx} (ok : X.Ok) (E : Value → Shared → Prop) : (X.wish E).Ok :=
  ⟨ok.mod, ok.kind, ok.glob, ok.blt, ok.above, ok.inj, ok.has, ok.cab, ok.hd, ok.frames, ok.stk, ok.exf, ok.bs, ok.bsz, ok.noex, ok.exfs, ok.funs, ok.frf⟩
theorem Cx.Ok.unwish {X : Cx} {E : Value → Shared → Prop} (ok : (X.wish E).Ok) : X.Ok :=
  ⟨ok.mod, ok.kind, ok.glob, ok.blt, ok.above, ok.inj, ok.has, ok.cab, ok.hd, ok.frames, ok.stk, ok.exf, ok.bs, ok.bsz, ok.noex, ok.exfs, ok.funs, ok.frf⟩
section
variable {X : Cx} {pins : List (Addr × Obj)} {σ : St} {H : Hp} {s : Shared} {E : Value → Shared → Prop}
theorem Inv.wish (I : Inv X pins σ H s) (E : Value → Shared → Prop) : Inv (X.wish E) pins σ H s := ⟨I.ok.wish E, I.os, I.bare, I.base, I.loc, I.cell, I.free, I.freeC, I.pin, I.hok, I.len⟩
theorem Inv.unwish (I : Inv (X.wish E) pins σ H s) : Inv X pins σ H s := ⟨I.ok.unwish, I.os, I.bare, I.base, I.loc, I.cell, I.free, I.freeC, I.pin, I.hok, I.len⟩
theorem SP.unwish (h : SP (X.wish E) pins D f s') : SP X pins D f s' := by
  cases f with
  | next => obtain ⟨σ', H', I, q⟩ := h; exact ⟨σ', H', I.unwish, q⟩
  | brk => obtain ⟨σ', H', I, q⟩ := h; exact ⟨σ', H', I.unwish, q⟩
  | cont => obtain ⟨σ', H', I, q⟩ := h; exact ⟨σ', H', I.unwish, q⟩
  | ret u => obtain ⟨v, σ', H', I, r, q⟩ := h; exact ⟨v, σ', H', I.unwish, r, q⟩
theorem PE.nox (h : PE X.nox e t) : PE X e t := fun pins s σ H Q I hw =>
  wpAny_mono (h pins s σ H Q (I.wish _) hw) (fun _ _ ⟨v, H', I', r, q⟩ => ⟨v, H', I'.unwish, r, q⟩) fun _ _ z => False.elim z
theorem PT.nox (h : PT X.nox e t) : PT X e t := fun pins s σ H Q I hw =>
  wpAny_mono (h pins s σ H Q (I.wish _) hw) (fun _ _ ⟨H', I', q⟩ => ⟨H', I'.unwish, q⟩) fun _ _ z => False.elim z
theorem PSs.nox {st : List Stmt} {t : TS} (h : PSs X.nox st t) : PSs X st t := fun pins s σ H D I hw =>
  wpAny_mono (h pins s σ H D (I.wish _) hw) (fun _ _ q => q.unwish) fun _ _ z => False.elim z
end

/-! ### blocks and small statements -/
section
variable {X : Cx} {st : Stmt} {rest : List Stmt} {t u : TS} {e : Expr} {te : TE} {pos : Pos}
def tNext : TS := fun D σ H => D.nx σ H
def tSeq (t u : TS) : TS := fun D σ H => t { D with nx := u D } σ H
theorem pss_nil : PSs X [] tNext := fun _ _ σ H _ I h => wpAny_execs_nil ⟨σ, H, I, h⟩
theorem pss_cons (h1 : PS X st t) (h2 : PSs X rest u) : PSs X (st :: rest) (tSeq t u) := by
  intro pins s σ H D I h
  refine wpAny_execs_cons (thn (h1 pins s σ H { D with nx := u D } I h) fun f s1 q => ?_)
  cases f with
  | next =>
    obtain ⟨σ', H', I', q⟩ := q
    exact h2 pins s1 σ' H' D I' q
  | ret v => exact q
  | brk => exact q
  | cont => exact q
theorem pss_one (h1 : PS X st t) : PSs X [st] t := by
  intro pins s σ H D I h
  refine wpAny_execs_cons (thn (h1 pins s σ H D I h) fun f s1 q => ?_)
  cases f with
  | next => exact wpAny_execs_nil q
  | ret v => exact q
  | brk => exact q
  | cont => exact q
def tBreak : TS := fun D σ H => D.bk σ H
def tCont : TS := fun D σ H => D.ct σ H
theorem ps_pass : PS X (.Pass pos) tNext := fun _ _ σ H _ I h => wpAny_Pass ⟨σ, H, I, h⟩
theorem ps_break : PS X (.Break pos) tBreak := fun _ _ σ H _ I h => wpAny_Break ⟨σ, H, I, h⟩
theorem ps_continue : PS X (.Continue pos) tCont := fun _ _ σ H _ I h => wpAny_Continue ⟨σ, H, I, h⟩
/-- in a def's body nothing is shown -/
theorem Inv.quiet (I : Inv X pins σ H s) : interactive X.env = false := by simp [interactive, I.ok.kind]
/-- a docstring -/
theorem ps_doc {x j pos pos'} : PS X (.Expr (.Constant (.str x) j pos) pos') tNext := fun _ s σ H _ I h => wpAny_Expr (Calls.Constant_str (show SP X _ _ .next { s with toks := s.toks + 1 } from ⟨σ, H, I.tok _, h⟩)) I.quiet
/-- an expression whose value is dropped -/
def tDrop (te : TE) : TS := fun D σ H => te σ H fun _ H1 => D.nx σ H1
theorem ps_expr (he : PE X e te) (hs : swapsWith e none pos.line X.env = pure false := by rfl) : PS X (.Expr e pos) (tDrop te) := by
  intro pins s σ H D I h
  exact wpAny_Expr_any (thn (he pins s σ H _ I h) fun v s1 ⟨x, H1, I1, r1, q1⟩ => ⟨σ, H1, I1, q1⟩) I.quiet hs
def tRet (te : TE) : TS := fun D σ H => te σ H D.rt
theorem ps_ret (he : PE X e te) : PS X (.Return (some e) pos) (tRet te) := by
  intro pins s σ H D I h
  exact wpAny_Return_some (thn (he pins s σ H _ I h) fun v s1 ⟨x, H1, I1, r1, q1⟩ => ⟨x, σ, H1, I1, r1, q1⟩)
def tRetN : TS := fun D _ H => D.rt .non H
theorem ps_retN : PS X (.Return none pos) tRetN := fun _ _ σ H _ I h => wpAny_Return_none ⟨.non, σ, H, I, rfl, h⟩
def tIfS (c : TT) (t u : TS) : TS := fun D σ H => c σ H fun b H1 => if b = true then t D σ H1 else u D σ H1
theorem ps_if {c : Expr} {a b : List Stmt} {tc : TT} (hc : PT X c tc) (ha : PSs X a t) (hb : PSs X b u) : PS X (.If c a b pos) (tIfS tc t u) := by
  intro pins s σ H D I h
  refine wpAny_If (thn (hc pins s σ H _ I h) fun d s1 ⟨H1, I1, q1⟩ => ?_)
  cases d with
  | true => exact ha pins s1 σ H1 D I1 q1
  | false => exact hb pins s1 σ H1 D I1 q1
/-- code that the proof never comes to -/
def tNever : TS := fun _ _ _ => False
theorem ps_never : PS X st tNever := fun _ _ _ _ _ _ h => h.elim
theorem pss_never : PSs X sts tNever := fun _ _ _ _ _ _ h => h.elim
end

/-! ### targets -/
abbrev TG := V → St → Hp → (St → Hp → Prop) → Prop
abbrev TGs := List V → St → Hp → (St → Hp → Prop) → Prop
def PG (X : Cx) (target : Expr) (t : TG) : Prop :=
  ∀ (pins : List (Addr × Obj)) (s : Shared) (σ : St) (H : Hp) (v : V) (u : Value) (Q : St → Hp → Prop), Inv X pins σ H s → RelV v u → t v σ H Q →
    wpAny (model X.prog X.w) X.A (assign target X.env u) (fun _ s' => ∃ σ' H', Inv X pins σ' H' s' ∧ Q σ' H') X.xe s
/-- several targets, one after another -/
def PGs (X : Cx) (ts : List Expr) (t : TGs) : Prop :=
  ∀ (pins : List (Addr × Obj)) (s : Shared) (σ : St) (H : Hp) (vs : List V) (us : List Value) (Q : St → Hp → Prop), Inv X pins σ H s → Vals vs us → t vs σ H Q →
    wpAny (model X.prog X.w) X.A (assignInOrder ((assignEach ts X.env).map (·.2)) us) (fun _ s' => ∃ σ' H', Inv X pins σ' H' s' ∧ Q σ' H') X.xe s
/-- o[i] = v, by values -/
abbrev TSet := V → V → V → Hp → (Hp → Prop) → Prop
def PSet (X : Cx) (t : TSet) : Prop :=
  ∀ (pins : List (Addr × Obj)) (s : Shared) (σ : St) (H : Hp) (o i v : V) (ov iv u : Value) (Q : Hp → Prop), Inv X pins σ H s → RelV o ov → RelV i iv → RelV v u → t o i v H Q →
    wpAny (model X.prog X.w) X.A (setItem ov iv u) (fun _ s' => ∃ H', Inv X pins σ H' s' ∧ Q H') X.xe s
/-- a op= b, by values -/
abbrev TIp := V → V → Hp → VK → Prop
def PIp (X : Cx) (op : Operator) (t : TIp) : Prop :=
  ∀ (pins : List (Addr × Obj)) (s : Shared) (σ : St) (H : Hp) (x y : V) (v u : Value) (Q : VK), Inv X pins σ H s → RelV x v → RelV y u → t x y H Q →
    wpAny (model X.prog X.w) X.A (inplaceOp op v u) (EP X pins σ Q) X.xe s
section
variable {X : Cx} {pos : Pos}
def gName (i : Nat) : TG := fun v σ H Q => Q (σ.set i (some v)) H
theorem pg_name (hN : X.N.Nodup) (hi : X.N[i]? = some x) (hx : Loc X.env.scope x) (hf : X.fn x = true ∨ X.env.scope.names.lookup x = some .local := by first | exact .inl rfl | exact .inr rfl | assumption) : PG X (.Name x pos) (gName i) := by
  intro pins s σ H v u Q I r h
  exact wpAny_assign_Name (store_ok I hN hi hx r (fun s' I' => ⟨_, H, I', h⟩) hf)
def gNil : TGs := fun vs σ H Q => vs = [] ∧ Q σ H
def gCons (t : TG) (u : TGs) : TGs := fun vs σ H Q => ∃ v r, vs = v :: r ∧ t v σ H fun σ' H' => u r σ' H' Q
theorem pgs_nil : PGs X [] gNil := by
  intro pins s σ H vs us Q I r h
  obtain ⟨e, h⟩ := h
  subst e
  cases r
  exact assignInOrder_nil ⟨σ, H, I, h⟩
theorem pgs_cons {e : Expr} {es : List Expr} {t : TG} {u : TGs} (h1 : PG X e t) (h2 : PGs X es u)
    (hs : (assignEach (e :: es) X.env).map (·.2) = assign e X.env :: (assignEach es X.env).map (·.2) := by rfl) : PGs X (e :: es) (gCons t u) := by
  intro pins s σ H vs us Q I r h
  obtain ⟨v, vr, e1, h⟩ := h
  subst e1
  cases r with
  | cons r rr =>
    rw [hs]
    refine assignInOrder_cons (thn (h1 pins s σ H _ _ _ I r h) fun _ s1 ⟨σ1, H1, I1, q1⟩ => ?_)
    exact h2 pins s1 σ1 H1 _ _ Q I1 rr q1
/-- (a, b, ..) = a tuple of that length -/
def gTup (K : PySem.W.Frag) (n : Nat) (t : TGs) : TG := fun v σ H Q => ∃ a xs, v = .ref a ∧ SqT K H a xs ∧ xs.length = n ∧ t xs σ H Q
theorem pg_tup (hc : X.calm = true) (h : PGs X es t) (hn : (assignEach es X.env).length = n := by rfl) (hst : (assignEach es X.env).findIdx? (·.1) = none := by rfl) : PG X (.Tuple es k pos) (gTup X.K n t) := by
  intro pins s σ H v u Q I r hw
  obtain ⟨a, xs, e1, hq, hl, hw⟩ := hw
  subst e1
  cases r
  obtain ⟨its, rv, ht, hz⟩ := I.tuple hq
  refine assign_Tuple_tuple (I.ok.hd hc) ht (by simp [hn, ← hl, rv.length]) hst fun h' hx => ?_
  have I1 : Inv X pins σ H { s with heap := h' } := I.kept (t' := s.toks) fun b o e => hx b o (Nat.ne_of_lt (Heap.lt_size e)) e
  exact h pins _ σ H xs _ Q I1 (by simpa using rv) hw
/-- o[i] = .. -/
def gSub (to ti : TE) (t : TSet) : TG := fun v σ H Q => to σ H fun o H1 => ti σ H1 fun i H2 => t o i v H2 fun H3 => Q σ H3
theorem pg_sub {o i : Expr} {to ti : TE} {t : TSet} (ho : PE X o to) (hi : PE X i ti) (hs : PSet X t)
    (ha : ∀ v, assign (.Subscript o i pos) X.env v = (do
      let ov ← holding [v] (eval o X.env)
      let iv ← holding [v, ov] (eval i X.env)
      standAt pos
      holding [v, ov, iv] (setItem ov iv v)
      release [v, ov, iv] []) := by intro _; rfl) : PG X (.Subscript o i pos) (gSub to ti t) := by
  intro pins s σ H v u Q I r h
  rw [ha]
  refine wpAny_bind (wpAny_holding (thn (ho pins s σ H _ I h) fun ov s1 ⟨x, H1, I1, r1, q1⟩ => ?_))
  refine wpAny_bind (wpAny_holding (thn (hi pins s1 σ H1 _ I1 q1) fun iv s2 ⟨y, H2, I2, r2, q2⟩ => ?_))
  refine wpAny_bind (wpAny_standAt (wpAny_bind (wpAny_holding (thn (hs pins s2 σ H2 x y v ov iv u _ I2 r1 r2 r q2) fun _ s3 ⟨H3, I3, q3⟩ => ?_))))
  exact wpAny_release ⟨σ, H3, I3, q3⟩
/-- target = value -/
def tAsg (te : TE) (g : TG) : TS := fun D σ H => te σ H fun x H1 => g x σ H1 D.nx
theorem ps_asg {tg e : Expr} {te : TE} {g : TG} (he : PE X e te) (hg : PG X tg g) (hs : swapsWithSole [tg] e pos.line X.env = pure false := by rfl) (hw : swappedStores [tg] e X.env = pure none := by rfl)
    (h1 : (assignEach [tg] X.env).map (·.2) = [assign tg X.env] := by rfl) : PS X (.Assign [tg] e pos) (tAsg te g) := by
  intro pins s σ H D I h
  refine wpAny_Assign_stores (thn (he pins s σ H _ I h) fun v s1 ⟨x, H1, I1, r1, q1⟩ => ?_) hs hw
  rw [h1]
  exact thn (hg pins s1 σ H1 x v _ I1 r1 q1) fun _ s2 q => q
/-- name = value -/
theorem ps_set {i : Nat} {x : Str} {e : Expr} {te : TE} {pos' : Pos} (hN : X.N.Nodup) (hi : X.N[i]? = some x) (hx : Loc X.env.scope x) (he : PE X e te) (hs : swapsWith e (some (.Name x pos')) pos.line X.env = pure false := by rfl) (hf : X.fn x = true ∨ X.env.scope.names.lookup x = some .local := by first | exact .inl rfl | exact .inr rfl | assumption) :
    PS X (.Assign [.Name x pos'] e pos) (tAsg te (gName i)) := by
  intro pins s σ H D I h
  refine wpAny_Assign_Name (thn (he pins s σ H _ I h) fun v s1 ⟨y, H1, I1, r1, q1⟩ => ?_) hs
  exact store_ok I1 hN hi hx r1 (fun s2 I2 => ⟨_, H1, I2, q1⟩) hf
/-- a, b = x, y with plain local names: stored from the right; the pair itself is not tracked (the opening rows as in PyProof/Rows/TupAssign.lean:23) -/
def tPar (i j : Nat) (ta : TA) : TS := fun D σ H => ta σ H fun vs H1 => ∃ v w, vs = [v, w] ∧ D.nx ((σ.set i (some v)).set j (some w)) H1
theorem ps_par {i j : Nat} {x y : Str} {a b : Expr} {ta : TA} {px py pt : Pos} {kt k2 pt2} (hc : X.calm = true) (hN : X.N.Nodup) (hi : X.N[i]? = some x) (hj : X.N[j]? = some y) (hij : i ≠ j)
    (hx : X.env.scope.names.lookup x = some .local) (hy : X.env.scope.names.lookup y = some .local) (ha : PA X [a, b] ta)
    (hw : swappedStores [.Tuple [.Name x px, .Name y py] kt pt] (.Tuple [a, b] k2 pt2) X.env = pure (some [x, y]))
    (hs : swapsWithSole [.Tuple [.Name x px, .Name y py] kt pt] (.Tuple [a, b] k2 pt2) pos.line X.env = pure false := by rfl) :
    PS X (.Assign [.Tuple [.Name x px, .Name y py] kt pt] (.Tuple [a, b] k2 pt2) pos) (tPar i j ta) := by
  intro pins s σ H D I h
  rw [exec_Assign_arm]
  refine wpAny_bind (wpAny_standAt ?_)
  rw [hs]
  refine wpAny_bind (wpAny_pure ?_)
  rw [if_neg (by decide)]
  refine wpAny_bind (Tuple_ (thn (ha _ pins s σ H _ I h) fun us s1 ⟨vs, H1, I1, r1, q1⟩ => ?_))
  obtain ⟨v, w, e1, q1⟩ := q1
  subst e1
  obtain ⟨u1, u2, rfl, rv, rw'⟩ : ∃ u1 u2, us = [u1, u2] ∧ RelV v u1 ∧ RelV w u2 := by
    cases r1 with
    | cons p q =>
      cases q with
      | cons p' q' =>
        cases q'
        exact ⟨_, _, rfl, p, p'⟩
  refine wpAny_newObj_type ?_ (by show 2 ≤ sizeLine; decide)
  have I2 : Inv X pins σ H1 { s1 with heap := s1.heap.push { cls := .type "tuple", data := .seq [u1, u2].toArray } } := I1.kept (t' := s1.toks) fun b o e => Heap.get?_push_of_some _ e
  rw [hw]
  refine wpAny_bind (wpAny_pure ?_)
  show wpAny (model X.prog X.w) X.A (do rule "assign.swapped-stores"; let items ← unpackItems (.ref s1.heap.objs.size) 2 none; assignInOrder [fun v => bindName X.env y v, fun v => bindName X.env x v] items.reverse; pure Flow.next) _ _ _
  refine wpAny_bind (wpAny_rule (wpAny_bind (unpackItems_tuple (items := #[u1, u2]) (I.ok.hd hc) (IsTup.new s1.heap _) fun h' hx' => ?_)))
  have I3 := I2.kept (h' := h') (t' := s1.toks) fun b o e => hx' b o (Nat.ne_of_lt (Heap.lt_size e)) e
  show wpAny _ _ (assignInOrder [fun v => bindName X.env y v, fun v => bindName X.env x v] [u2, u1] >>= fun _ => pure Flow.next) _ _ _
  refine wpAny_bind (assignInOrder_cons (wpAny_bindName (store_ok I3 hN hj (.inl hy) rw' (fun s2 I4 => ?_) (.inr hy))))
  refine assignInOrder_cons (wpAny_bindName (store_ok I4 hN hi (.inl hx) rv (fun s3 I5 => assignInOrder_nil (wpAny_pure ?_)) (.inr hx)))
  rw [List.set_comm _ _ (Ne.symm hij)] at I5
  exact ⟨_, H1, I5, q1⟩
/-- name op= e -/
def tAug (i : Nat) (te : TE) (ti : TIp) : TS := fun D σ H => ∃ x, σ[i]? = some (some x) ∧ te σ H fun y H1 => ti x y H1 fun z H2 => D.nx (σ.set i (some z)) H2
theorem ps_aug {i : Nat} {x : Str} {e : Expr} {te : TE} {op : Operator} {ti : TIp} {pos' : Pos} (hN : X.N.Nodup) (hi : X.N[i]? = some x) (hx : Loc X.env.scope x) (he : PE X e te) (ho : PIp X op ti) (hf : X.fn x = true ∨ X.env.scope.names.lookup x = some .local := by first | exact .inl rfl | exact .inr rfl | assumption) :
    PS X (.AugAssign (.Name x pos') op e pos) (tAug i te ti) := by
  intro pins s σ H D I h
  obtain ⟨v, e1, h⟩ := h
  obtain ⟨m, hn, hl⟩ := I.loc
  have vis : Vis X.env.scope x := by rcases hx with k | k; exact .inl k; exact .inr (.inl k)
  obtain ⟨u, r, l⟩ := hl i x v hi e1 vis
  refine wpAny_AugAssign_Name ?_
  have go : wpAny (model X.prog X.w) X.A (eval e X.env) (fun w s₂ => wpAny (model X.prog X.w) X.A (inplaceOp op u w) (fun r s₃ => wpAny (model X.prog X.w) X.A (storeName X.env x r) (fun _ => SP X pins D .next) X.xe s₃) X.xe s₂) X.xe s := by
    refine thn (he pins s σ H _ I h) fun w s1 ⟨y, H1, I1, r1, q1⟩ => ?_
    refine thn (ho pins s1 σ H1 v y u w _ I1 r r1 q1) fun z s2 ⟨zv, H2, I2, r2, q2⟩ => ?_
    exact store_ok I2 hN hi hx r2 (fun s3 I3 => ⟨_, H2, I3, q2⟩) hf
  rcases l with ⟨hk, hm⟩ | ⟨hk, c, hc, hcell⟩
  · exact wpAny_loadName_local I.ok.kind hk hn hm go
  · rcases hk with hk | hk
    · exact wpAny_loadName_cell I.ok.kind hk hc hcell go
    · rcases hx with k | k
      · have : X.env.scope.names.lookup x = some .free := hk
        rw [k] at this; cases this
      · have : X.env.scope.names.lookup x = some .free := hk
        rw [k] at this; cases this
/-- o[i] op= e -/
def tAugS (to ti te : TE) (tget : V → V → Hp → VK → Prop) (tip : TIp) (tset : TSet) : TS := fun D σ H => to σ H fun o H1 => ti σ H1 fun i H2 => tget o i H2 fun x H3 => te σ H3 fun y H4 => tip x y H4 fun z H5 => tset o i z H5 fun H6 => D.nx σ H6
/-- o[i], by values -/
def PGet (X : Cx) (t : V → V → Hp → VK → Prop) : Prop :=
  ∀ (pins : List (Addr × Obj)) (s : Shared) (σ : St) (H : Hp) (o i : V) (ov iv : Value) (Q : VK), Inv X pins σ H s → RelV o ov → RelV i iv → t o i H Q →
    wpAny (model X.prog X.w) X.A (getItem ov iv) (EP X pins σ Q) X.xe s
theorem ps_augS {o i e : Expr} {to ti te : TE} {tget : V → V → Hp → VK → Prop} {tip : TIp} {tset : TSet} {op : Operator} {tpos : Pos} (ho : PE X o to) (hi : PE X i ti) (hg : PGet X tget) (he : PE X e te) (hp : PIp X op tip) (hs : PSet X tset)
    (ha : ∀ ov iv new, augStore i ov iv new = (do holding [new, ov, iv] (setItem ov iv new); release [new, ov, iv] []; pure .next) := by intros; rfl) : PS X (.AugAssign (.Subscript o i tpos) op e pos) (tAugS to ti te tget tip tset) := by
  intro pins s σ H D I h
  refine wpAny_AugAssign_SubscriptAny (thn (ho pins s σ H _ I h) fun ov s1 ⟨x1, H1, I1, r1, q1⟩ => ?_) ha
  refine thn (hi pins s1 σ H1 _ I1 q1) fun iv s2 ⟨x2, H2, I2, r2, q2⟩ => ?_
  refine thn (hg pins s2 σ H2 x1 x2 ov iv _ I2 r1 r2 q2) fun old s3 ⟨x3, H3, I3, r3, q3⟩ => ?_
  refine thn (he pins s3 σ H3 _ I3 q3) fun v s4 ⟨x4, H4, I4, r4, q4⟩ => ?_
  refine thn (hp pins s4 σ H4 x3 x4 old v _ I4 r3 r4 q4) fun new s5 ⟨x5, H5, I5, r5, q5⟩ => ?_
  exact thn (hs pins s5 σ H5 x1 x2 x5 ov iv new _ I5 r1 r2 r5 q5) fun _ s6 ⟨H6, I6, q6⟩ => ⟨σ, H6, I6, q6⟩
/-- ints -/
def ipI (f : Int → Int → Int) : TIp := fun x y H Q => ∃ i j, x = .int i ∧ y = .int j ∧ Q (.int (f i j)) H
theorem ip_add : PIp X .Add (ipI fun i j => i + j) := by
  intro pins s σ H x y v u Q I r1 r2 h
  obtain ⟨i, j, e1, e2, q⟩ := h
  subst e1; subst e2
  obtain ⟨t, rfl⟩ := r1
  obtain ⟨t', rfl⟩ := r2
  exact iadd_int ⟨.int _, H, I.tok _, ⟨_, rfl⟩, q⟩
theorem ip_sub : PIp X .Sub (ipI fun i j => i - j) := by
  intro pins s σ H x y v u Q I r1 r2 h
  obtain ⟨i, j, e1, e2, q⟩ := h
  subst e1; subst e2
  obtain ⟨t, rfl⟩ := r1
  obtain ⟨t', rfl⟩ := r2
  exact isub_int ⟨.int _, H, I.tok _, ⟨_, rfl⟩, q⟩
end

/-! ### while -/
section
variable {X : Cx} {pos : Pos}
/-- the invariant W with its measure -/
def tWhile (c : TT) (tb : TS) : TS := fun D σ H => ∃ W : Nat → St → Hp → Prop, (∃ m, W m σ H) ∧ ∀ m σ H, W m σ H →
  c σ H fun b H1 => if b = true then ∃ N : St → Hp → Prop, (∀ σ' H', N σ' H' → ∃ m', m' < m ∧ W m' σ' H') ∧ tb { D with nx := N, ct := N, bk := D.nx } σ H1 else D.nx σ H1
theorem ps_while {c : Expr} {body : List Stmt} {tc : TT} {tb : TS} (hp : PassesOwn (model X.prog X.w) X.A X.env X.xe) (hc : PT X c tc) (hb : PSs X body tb) : PS X (.While c body [] pos) (tWhile tc tb) := by
  intro pins s σ H D I h
  obtain ⟨W, ⟨m0, w0⟩, turn⟩ := h
  refine wpAny_While (codeAny_whileLoop (fun n s' => ∃ σ' H', Inv X pins σ' H' s' ∧ W n σ' H') ?_ m0 ⟨σ, H, I, w0⟩)
  rintro n s1 ⟨σ1, H1, I1, w1⟩
  refine wpAny_passesOwn hp (thn (hc pins s1 σ1 H1 _ I1 (turn n σ1 H1 w1)) fun b s2 ⟨H2, I2, q2⟩ => ?_)
  cases b with
  | true =>
    obtain ⟨N, hN, q2⟩ := q2
    rw [if_pos rfl]
    refine wpAny_passesOwn hp (thn (hb pins s2 σ1 H2 _ I2 q2) fun f s3 q3 => ?_)
    cases f with
    | next =>
      obtain ⟨σ3, H3, I3, n3⟩ := q3
      obtain ⟨m', hm, w3⟩ := hN σ3 H3 n3
      exact ⟨m', hm, σ3, H3, I3, w3⟩
    | cont =>
      obtain ⟨σ3, H3, I3, n3⟩ := q3
      obtain ⟨m', hm, w3⟩ := hN σ3 H3 n3
      exact ⟨m', hm, σ3, H3, I3, w3⟩
    | brk => exact q3
    | ret v => exact q3
  | false =>
    rw [if_neg Bool.false_ne_true]
    exact wpAny_execs_nil ⟨σ1, H2, I2, q2⟩
end

/-! ### what a loop or a comprehension walks -/
/-- at turn i: it yields x (the heap may grow), or it stops -/
structure It where
  go : Nat → Hp → Prop
  yld : Nat → Hp → V → Hp → Prop
  stop : Nat → Hp → Prop
/-- the iterator's own objects may turn: they are not the frame's, not pinned, younger than the entry (or a comprehension's own) -/
def FpOk (X : Cx) (pins : List (Addr × Obj)) (H : Hp) (b : Addr) : Prop :=
  H b = none ∧ b ≠ X.env.locals ∧ b ∉ X.fs ∧ (b ∈ X.ex ∨ X.s₀.heap.objs.size ≤ b) ∧ (∀ x c, X.env.cells.lookup x = some c → c ≠ b) ∧ ∀ p ∈ X.pn ++ pins, p.1 ≠ b
theorem Inv.fpOk (I : Inv X pins σ H s) (hb : s.heap.objs.size ≤ b) (hn : H' b = none) : FpOk X pins H' b := by
  refine ⟨hn, Nat.ne_of_gt (Nat.lt_of_lt_of_le I.lt hb), I.nofs hb, .inr (Nat.le_trans I.sz hb), fun x c e z => ?_, fun p hp z => ?_⟩
  · obtain ⟨v, q⟩ := I.cell x c e
    exact absurd (Nat.lt_of_lt_of_le q.lt (by rw [z]; exact hb)) (Nat.lt_irrefl _)
  · exact absurd (Nat.lt_of_lt_of_le (Heap.lt_size (I.pin p hp).1) (by rw [z]; exact hb)) (Nat.lt_irrefl _)
structure Turn (P : Program) (w : World) (K : PySem.W.Frag) (tg : Expr) (J : It) (fp : List Addr) (it : Addr) (tn : Nat → Heap → Prop) : Prop where
  mem : it ∈ fp
  obj : ∀ i h, tn i h → ∀ b ∈ fp, ∃ o, h.get? b = some o ∧ ∀ v, o.data ≠ .cell v
  keep : ∀ i h h', tn i h → (∀ b ∈ fp, ∀ o, h.get? b = some o → h'.get? b = some o) → tn i h'
  item : ∀ (X : Cx), X.prog = P → X.w = w → X.K = K → X.calm = true → ∀ (i : Nat) (pins : List (Addr × Obj)) (s : Shared) (σ : St) (H : Hp) (E : Value → Shared → Prop), Inv X pins σ H s → (∀ b ∈ fp, FpOk X pins H b) → tn i s.heap → J.go i H →
    wpAny (model P w) X.A (pyNext (.ref it)) (fun r s1 => ∃ u, r = some u ∧
      wpAny (model P w) X.A (letOwnedTupleGo tg (.ref it) u) (fun _ s2 => ∃ x H', Inv X pins σ H' s2 ∧ RelV x u ∧ J.yld i H x H' ∧ tn (i + 1) s2.heap ∧ ∀ b ∈ fp, H' b = none) E s1) E s
  done : ∀ (X : Cx), X.prog = P → X.w = w → X.K = K → X.calm = true → ∀ (i : Nat) (pins : List (Addr × Obj)) (s : Shared) (σ : St) (H : Hp) (E : Value → Shared → Prop), Inv X pins σ H s → (∀ b ∈ fp, FpOk X pins H b) → tn i s.heap → J.stop i H →
    wpAny (model P w) X.A (pyNext (.ref it)) (fun r s1 => r = none ∧ Inv X pins σ H s1) E s
  self : ∀ (A : Around) (i : Nat) (s : Shared) (Q : Value → Shared → Prop) (E : Value → Shared → Prop), tn i s.heap → Q (.ref it) s → wpAny (model P w) A (pyIter (.ref it)) Q E s
abbrev TI := St → Hp → (It → Hp → Prop) → Prop
/-- an iterator has come -/
def PIE (X : Cx) (pins : List (Addr × Obj)) (σ : St) (tg : Expr) (R : It → Hp → Prop) (itv : Value) (s2 : Shared) : Prop :=
  ∃ (it : Addr) (fp : List Addr) (tn : Nat → Heap → Prop) (J : It) (H' : Hp), itv = .ref it ∧ Inv X pins σ H' s2 ∧ Turn X.prog X.w X.K tg J fp it tn ∧ tn 0 s2.heap ∧ (∀ b ∈ fp, FpOk X pins H' b) ∧ R J H'
def PI (X : Cx) (tg iter : Expr) (wi : TI) : Prop :=
  ∀ (pins : List (Addr × Obj)) (s : Shared) (σ : St) (H : Hp) (R : It → Hp → Prop), Inv X pins σ H s → wi σ H R →
    wpAny (model X.prog X.w) X.A (eval iter X.env) (fun v s1 => wpAny (model X.prog X.w) X.A (pyIter v) (PIE X pins σ tg R) X.xe s1) X.xe s

/-- the step ahead of the store is nothing for an iterator that keeps no tuple -/
theorem go_of {E : Value → Shared → Prop} {Q : Unit → Shared → Prop} (ho : s.heap.get? it = some o) (hc : o.cls = .type n) (hd : o.data = .fields vs) (hn : ["enumerate", "zip", "dict_itemiterator", "dict_reverseitemiterator", "odict_iterator", "itertools.zip_longest", "itertools.pairwise"].contains n = false) (hQ : Q () s) : wpAny M A (letOwnedTupleGo tg (.ref it) u) Q E s := by
  unfold letOwnedTupleGo
  cases tg <;> first
    | exact wpAny_pure hQ
    | (cases u <;> first
        | exact wpAny_pure hQ
        | (refine wpAny_bind (wpAny_load ho ?_)
           rw [hc, hd]
           show wpAny M A (if (["enumerate", "zip", "dict_itemiterator", "dict_reverseitemiterator", "odict_iterator", "itertools.zip_longest", "itertools.pairwise"].contains n && vs[0]? == some (rawInt _)) = true then _ else _) Q E s
           rw [if_neg (by intro h; rw [hn, Bool.false_and] at h; cases h)]
           exact wpAny_pure hQ))

/-- the list at a, as it stands at each turn (a loop may append to it) -/
def Itl (K : PySem.W.Frag) (a : Addr) : It :=
  ⟨fun i H => ∃ xs x, SqL K H a xs ∧ xs[i]? = some x, fun i H x H' => H' = H ∧ ∀ xs, SqL K H a xs → xs[i]? = some x, fun i H => ∃ xs, SqL K H a xs ∧ xs.length ≤ i⟩
def Itt (K : PySem.W.Frag) (a : Addr) : It :=
  ⟨fun i H => ∃ xs x, SqT K H a xs ∧ xs[i]? = some x, fun i H x H' => H' = H ∧ ∀ xs, SqT K H a xs → xs[i]? = some x, fun i H => ∃ xs, SqT K H a xs ∧ xs.length ≤ i⟩
/-- lo, lo + 1, .. (n of them) -/
def Itr (lo : Int) (n : Nat) : It := ⟨fun i _ => i < n, fun i H x H' => H' = H ∧ x = .int (lo + i), fun i _ => n ≤ i⟩
theorem turn_list {P : Program} {w : World} {K : PySem.W.Frag} {tg : Expr} (a it : Addr) : Turn P w K tg (Itl K a) [it] it (fun i h => h.IsListIter it a i) where
  mem := by simp
  obj := fun i h st b hb => by
    have e : b = it := by simpa using hb
    subst e
    obtain ⟨o, e, c, d⟩ := st
    exact ⟨o, e, fun v z => by rw [d] at z; cases z⟩
  keep := fun i h h' st k => st.at fun o e => k it (by simp) o e
  item := by
    intro X hP hw hK hc i pins s σ H E I hf st hg
    subst hP hw hK
    obtain ⟨xs, x, hq, hx⟩ := hg
    obtain ⟨its, rv, p, hz⟩ := I.list hq
    obtain ⟨u, hu, ru⟩ := rv.get hx
    obtain ⟨f0, f1, f2, f3, f4, f5⟩ := hf it (by simp)
    refine wpAny_pyNext_list_item st p.isList (x := u) (by simpa using hu) fun h' st' sb => ?_
    have I1 : Inv X pins σ H { s with heap := h' } := I.turned (t' := s.toks) (fun b o hb e => (sb.2 b hb).trans e) f0 f1 f3 f4 f5
    obtain ⟨o, e, c, d⟩ := id st'
    exact ⟨u, rfl, go_of (s := { s with heap := h' }) e c d (by decide) ⟨x, H, I1, ru, ⟨rfl, fun ys hy => by rw [I.list_inj hy hq]; exact hx⟩, st', fun b hb => (hf b hb).1⟩⟩
  done := by
    intro X hP hw hK hc i pins s σ H E I hf st hg
    subst hP hw hK
    obtain ⟨xs, hq, hx⟩ := hg
    obtain ⟨its, rv, p, hz⟩ := I.list hq
    obtain ⟨f0, f1, f2, f3, f4, f5⟩ := hf it (by simp)
    have hl := rv.length
    exact wpAny_pyNext_list_end (I.ok.hd hc) st p.isList (by simp; lia) fun h' eb => ⟨rfl, I.turned (t' := s.toks) (fun b o hb e => eb b o hb e) f0 f1 f3 f4 f5⟩
  self := fun _ _ _ _ _ st h => wpAny_pyIter_listiter st h
theorem turn_tuple {P : Program} {w : World} {K : PySem.W.Frag} {tg : Expr} (a it : Addr) : Turn P w K tg (Itt K a) [it] it (fun i h => h.IsTupleIter it a i) where
  mem := by simp
  obj := fun i h st b hb => by
    have e : b = it := by simpa using hb
    subst e
    obtain ⟨o, e, c, d⟩ := st
    exact ⟨o, e, fun v z => by rw [d] at z; cases z⟩
  keep := fun i h h' st k => st.at fun o e => k it (by simp) o e
  item := by
    intro X hP hw hK hc i pins s σ H E I hf st hg
    subst hP hw hK
    obtain ⟨xs, x, hq, hx⟩ := hg
    obtain ⟨its, rv, p, hz⟩ := I.tuple hq
    obtain ⟨u, hu, ru⟩ := rv.get hx
    obtain ⟨f0, f1, f2, f3, f4, f5⟩ := hf it (by simp)
    refine wpAny_pyNext_tuple_item st (show s.heap.IsTuple a its.toArray from p) (x := u) (by simpa using hu) fun h' st' sb => ?_
    have I1 : Inv X pins σ H { s with heap := h' } := I.turned (t' := s.toks) (fun b o hb e => (sb.2 b hb).trans e) f0 f1 f3 f4 f5
    obtain ⟨o, e, c, d⟩ := id st'
    exact ⟨u, rfl, go_of (s := { s with heap := h' }) e c d (by decide) ⟨x, H, I1, ru, ⟨rfl, fun ys hy => by rw [I.tuple_inj hy hq]; exact hx⟩, st', fun b hb => (hf b hb).1⟩⟩
  done := by
    intro X hP hw hK hc i pins s σ H E I hf st hg
    subst hP hw hK
    obtain ⟨xs, hq, hx⟩ := hg
    obtain ⟨its, rv, p, hz⟩ := I.tuple hq
    obtain ⟨f0, f1, f2, f3, f4, f5⟩ := hf it (by simp)
    have hl := rv.length
    exact wpAny_pyNext_tuple_end (I.ok.hd hc) st (show s.heap.IsTuple a its.toArray from p) (by simp; lia) fun h' eb => ⟨rfl, I.turned (t' := s.toks) (fun b o hb e => eb b o hb e) f0 f1 f3 f4 f5⟩
  self := fun _ _ _ _ _ st h => wpAny_pyIter_tupleiter st h
theorem turn_range {P : Program} {w : World} {K : PySem.W.Frag} {tg : Expr} (it : Addr) (lo : Int) (n : Nat) : Turn P w K tg (Itr lo n) [it] it (fun i h => IsRangeIter h it (lo + (i : Nat) * 1) ((n : Int) - (i : Nat)) 1) where
  mem := by simp
  obj := fun i h st b hb => by
    have e : b = it := by simpa using hb
    subst e
    exact ⟨_, st, fun v z => by
      have z' : Data.fields _ = Data.cell v := z
      cases z'⟩
  keep := fun i h h' st k => k it (by simp) _ st
  item := by
    intro X hP hw hK hc i pins s σ H E I hf st hg
    subst hP hw hK
    obtain ⟨f0, f1, f2, f3, f4, f5⟩ := hf it (by simp)
    have W := Walks.range (prog := X.prog) (w := X.w) (I.ok.hd hc) it lo 1 n
    refine W.item i s _ _ hg st fun v h' tk hv st' kk => ?_
    obtain ⟨t, rfl⟩ := hv
    have I1 : Inv X pins σ H { s with heap := h', toks := tk } := I.turned (fun b o hb e => kk b o (by simpa using hb) e) f0 f1 f3 f4 f5
    refine ⟨_, rfl, go_of (s := { s with heap := h', toks := tk }) (n := "range_iterator") st' rfl rfl (by decide) ⟨.int (lo + i), H, I1, ⟨t, ?_⟩, ⟨rfl, rfl⟩, st', fun b hb => (hf b hb).1⟩⟩
    rw [Int.mul_one]
  done := by
    intro X hP hw hK hc i pins s σ H E I hf st hg
    subst hP hw hK
    obtain ⟨f0, f1, f2, f3, f4, f5⟩ := hf it (by simp)
    exact wpAny_pyNext_range_end (I.ok.hd hc) st (by have : n ≤ i := hg; lia) fun h' eb => ⟨rfl, I.turned (t' := s.toks) (fun b o hb e => eb b o hb e) f0 f1 f3 f4 f5⟩
  self := fun _ _ _ _ _ st h => wpAny_pyIter_rangeiter st h
end L2

namespace L2
open PySem PySem.Spec PyProof.Rows
section
variable {X : Cx} {tg : Expr}
def iList (K : PySem.W.Frag) (tl : TE) : TI := fun σ H R => tl σ H fun x H1 => ∃ a, x = .ref a ∧ (∃ xs, SqL K H1 a xs) ∧ R (Itl K a) H1
def iTup (K : PySem.W.Frag) (tl : TE) : TI := fun σ H R => tl σ H fun x H1 => ∃ a, x = .ref a ∧ (∃ xs, SqT K H1 a xs) ∧ R (Itt K a) H1
theorem pi_list (hl : PE X l tl) : PI X tg l (iList X.K tl) := by
  intro pins s σ H R I h
  refine thn (hl pins s σ H _ I h) fun v s1 ⟨x, H1, I1, r1, q1⟩ => ?_
  obtain ⟨a, e, ⟨xs, hq⟩, q⟩ := q1
  subst e
  cases r1
  obtain ⟨its, rv, p, hz⟩ := I1.list hq
  refine wpAny_pyIter_list p.isList ?_
  refine ⟨s1.heap.objs.size, [s1.heap.objs.size], _, _, H1, rfl, I1.kept (t' := s1.toks) fun b o e => Heap.get?_push_of_some _ e, turn_list a _, ⟨_, Heap.get?_push_size _ rfl, rfl, rfl⟩, fun b hb => ?_, q⟩
  have e : b = s1.heap.objs.size := by simpa using hb
  subst e
  exact I1.fpOk (Nat.le_refl _) (I1.hok.fresh (Nat.le_refl _))
theorem pi_tup {l : Expr} {tl : TE} (hl : PE X l tl) : PI X tg l (iTup X.K tl) := by
  intro pins s σ H R I h
  refine thn (hl pins s σ H _ I h) fun v s1 ⟨x, H1, I1, r1, q1⟩ => ?_
  obtain ⟨a, e, ⟨xs, hq⟩, q⟩ := q1
  subst e
  cases r1
  obtain ⟨its, rv, p, hz⟩ := I1.tuple hq
  refine wpAny_pyIter_tuple (show s1.heap.IsTuple a its.toArray from p) ?_
  refine ⟨s1.heap.objs.size, [s1.heap.objs.size], _, _, H1, rfl, I1.kept (t' := s1.toks) fun b o e => Heap.get?_push_of_some _ e, turn_tuple a _, ⟨_, Heap.get?_push_size _ rfl, rfl, rfl⟩, fun b hb => ?_, q⟩
  have e : b = s1.heap.objs.size := by simpa using hb
  subst e
  exact I1.fpOk (Nat.le_refl _) (I1.hok.fresh (Nat.le_refl _))
/-- a range object just made, walked -/
theorem range_it {pins : List (Addr × Obj)} {σ : St} {H : Hp} {s : Shared} {R : It → Hp → Prop} {E : Value → Shared → Prop} {lo hi : Int} {t u v : Tok} {tk : Nat} (I : Inv X pins σ H s) (h1 : -(2 ^ 62) ≤ lo) (h2 : lo < 2 ^ 62) (h3 : -(2 ^ 62) ≤ hi) (h4 : hi < 2 ^ 62)
    (q : R (Itr lo (hi - lo).toNat) H) : wpAny (model X.prog X.w) X.A (pyIter (.ref s.heap.objs.size)) (PIE X pins σ tg R) E { s with heap := s.heap.push { cls := .type "range", data := .fields #[.int lo t, .int hi u, .int 1 v] }, toks := tk } := by
  refine wpAny_pyIter_range (IsRange.new ..) (small_one h1 h2 h3 h4) ?_
  have I1 : Inv X pins σ H { s with heap := s.heap.push { cls := .type "range", data := .fields #[.int lo t, .int hi u, .int 1 v] }, toks := tk } := I.kept fun b o e => Heap.get?_push_of_some _ e
  refine ⟨(s.heap.push { cls := .type "range", data := .fields #[.int lo t, .int hi u, .int 1 v] }).objs.size, [(s.heap.push { cls := .type "range", data := .fields #[.int lo t, .int hi u, .int 1 v] }).objs.size], _, _, H, rfl,
    I1.kept (t' := tk) fun b o e => Heap.get?_push_of_some _ e, turn_range _ lo (hi - lo).toNat, ?_, fun b hb => ?_, q⟩
  · have e1 : lo + ((0 : Nat) : Int) * 1 = lo := by simp
    have e2 : (((hi - lo).toNat : Nat) : Int) - ((0 : Nat) : Int) = Builtin.Range.rangeSize lo hi 1 := by rw [rangeSize_one]; split <;> lia
    show IsRangeIter _ _ (lo + ((0 : Nat) : Int) * 1) ((((hi - lo).toNat : Nat) : Int) - ((0 : Nat) : Int)) 1
    rw [e1, e2]
    exact Heap.get?_push_size _ rfl
  · have e : b = (s.heap.push { cls := .type "range", data := .fields #[.int lo t, .int hi u, .int 1 v] }).objs.size := by simpa using hb
    subst e
    exact I1.fpOk (Nat.le_refl _) (I1.hok.fresh (Nat.le_refl _))
def iRng1 (ta : TA) : TI := fun σ H R => ta σ H fun vs H1 => ∃ j : Int, vs = [.int j] ∧ -(2 ^ 62) ≤ j ∧ j < 2 ^ 62 ∧ R (Itr 0 j.toNat) H1
def iRng2 (ta : TA) : TI := fun σ H R => ta σ H fun vs H1 => ∃ i j : Int, vs = [.int i, .int j] ∧ (-(2 ^ 62) ≤ i ∧ i < 2 ^ 62 ∧ -(2 ^ 62) ≤ j ∧ j < 2 ^ 62) ∧ R (Itr i (j - i).toNat) H1
theorem pi_range1 {a : Expr} {ta : TA} {p pos : Pos} (hg : Gl X "range") (hm : X.mg "range" = none) (ha : PA X [a] ta) (hs : starEach [a] X.env = [(false, eval a X.env)] := by rfl) : PI X tg (.Call (.Name "range" p) [a] [] pos) (iRng1 ta) := by
  intro pins s σ H R I h
  refine Call_ (ld_blt I hg hm boot_range (PyProof.Rows.callWith_type1 (thn (ha pos pins s σ H _ I h) fun us s1 ⟨vs, H1, I1, r1, q1⟩ => ?_) hs rfl))
  obtain ⟨j, e, q1, q2, q⟩ := q1
  subst e
  cases r1 with
  | cons r rr =>
    cases rr
    obtain ⟨t, rfl⟩ := r
    exact call_range_1 (range_it I1 (by lia) (by lia) q1 q2 (by simpa using q))
theorem pi_range2 (hg : Gl X "range") (hm : X.mg "range" = none) (ha : PA X [a, b] ta) (hs : starEach [a, b] X.env = [(false, eval a X.env), (false, eval b X.env)] := by rfl) (hs2 : starEach [b] X.env = [(false, eval b X.env)] := by rfl) :
    PI X tg (.Call (.Name "range" p) [a, b] [] pos) (iRng2 ta) := by
  intro pins s σ H R I h
  refine Call_ (ld_blt I hg hm boot_range (PyProof.Rows.callWith_type1 (thn (ha pos pins s σ H _ I h) fun us s1 ⟨vs, H1, I1, r1, q1⟩ => ?_) (by rw [hs, hs2]) (by rw [hs2]; rfl)))
  obtain ⟨i, j, e, ⟨q1, q2, q3, q4⟩, q⟩ := q1
  subst e
  cases r1 with
  | cons r rr =>
    cases rr with
    | cons r' rr =>
      cases rr
      obtain ⟨t, rfl⟩ := r
      obtain ⟨t', rfl⟩ := r'
      exact call_range_2 (range_it I1 q1 q2 q3 q4 q)

/-! ### for -/
/-- W: the invariant by the turn and a measure; N: what the body is to reach -/
def tFor (wi : TI) (g : TG) (tb : TS) : TS := fun D σ H => wi σ H fun J H1 => ∃ W : Nat → Nat → St → Hp → Prop, (∃ m, W 0 m σ H1) ∧ ∀ i m σ H, W i m σ H →
  (J.stop i H ∧ D.nx σ H) ∨ (J.go i H ∧ ∃ N : St → Hp → Prop, (∀ σ' H', N σ' H' → ∃ m', m' < m ∧ W (i + 1) m' σ' H') ∧ ∀ x H', J.yld i H x H' → g x σ H' fun σ2 H2 => tb { D with nx := N, ct := N, bk := D.nx } σ2 H2)
/-- the records at fp as they stand -/
def pinsAt (fp : List Addr) (h : Heap) : List (Addr × Obj) := fp.filterMap fun b => (h.get? b).map fun o => (b, o)
theorem mem_pinsAt (hb : b ∈ fp) (e : h.get? b = some o) : (b, o) ∈ pinsAt fp h := List.mem_filterMap.mpr ⟨b, hb, by rw [e]; rfl⟩
theorem of_pinsAt (hp : p ∈ pinsAt fp h) : p.1 ∈ fp ∧ h.get? p.1 = some p.2 := by
  obtain ⟨b, hb, e⟩ := List.mem_filterMap.mp hp
  cases q : h.get? b with
  | none => rw [q] at e; cases e
  | some o =>
    rw [q] at e
    have e' : (b, o) = p := Option.some.inj e
    subst e'
    exact ⟨hb, q⟩
theorem Inv.pinned (I : Inv X pins σ H s) (hf : ∀ b ∈ fp, FpOk X pins H b) (ho : ∀ b ∈ fp, ∃ o, s.heap.get? b = some o ∧ ∀ v, o.data ≠ .cell v) : Inv X (pins ++ pinsAt fp s.heap) σ H s :=
  I.pins_of fun p hp => (List.mem_append.mp hp).elim (fun z => I.pin p (List.mem_append_right _ z)) fun z => by
    obtain ⟨hb, e⟩ := of_pinsAt z
    obtain ⟨f0, f1, f2, _⟩ := hf p.1 hb
    obtain ⟨o, e', d⟩ := ho p.1 hb
    rw [e] at e'; cases e'
    exact ⟨e, f0, f1, f2, d⟩
theorem Inv.unpinned (I : Inv X (pins ++ pl) σ H s) : Inv X pins σ H s := I.pins_of fun p hp => I.pin p (List.mem_append_right _ (List.mem_append_left _ hp))
theorem ps_for (hp : PassesOwn (model X.prog X.w) X.A X.env X.xe) (hc : X.calm = true) (hi : PI X tg iter wi) (hg : PG X tg g) (hb : PSs X body tb) (hs : ∀ x, foldedSetIterable iter X.env x = pure x := by intro _; rfl) : PS X (.For tg iter body [] pos) (tFor wi g tb) := by
  intro pins s σ H D I h
  refine wpAny_For (thn (hi pins s σ H _ I h) fun v s1 h1 => thn h1 fun itv s2 h2 => ?_) hs
  obtain ⟨it, fp, tn, J, H2, e, I2, T, st2, f2, W, ⟨m0, w0⟩, turn⟩ := h2
  subst e
  -- what stays true of the iterator's objects through the loop
  have stat : ∀ {H' : Hp}, (∀ b ∈ fp, H' b = none) → ∀ b ∈ fp, FpOk X pins H' b := fun hn b hb => ⟨hn b hb, (f2 b hb).2⟩
  refine codeAny_forLoop_any (fun n s' => ∃ i σ' H', Inv X pins σ' H' s' ∧ tn i s'.heap ∧ (∀ b ∈ fp, H' b = none) ∧ W i n σ' H') ?_ m0 ⟨0, σ, H2, I2, st2, fun b hb => (f2 b hb).1, w0⟩
  rintro n s3 ⟨i, σ3, H3, I3, st3, fr3, w3⟩
  rcases turn i n σ3 H3 w3 with ⟨stop, qn⟩ | ⟨go, N, hN, step⟩
  · refine wpAny_passesOwn hp (thn (T.done X rfl rfl rfl hc i pins s3 σ3 H3 X.xe I3 (stat fr3) st3 stop) fun r s4 ⟨hr, I4⟩ => ?_)
    subst hr
    exact wpAny_execs_nil ⟨σ3, H3, I4, qn⟩
  · refine wpAny_passesOwn hp (thn (T.item X rfl rfl rfl hc i pins s3 σ3 H3 X.xe I3 (stat fr3) st3 go) fun r s4 ⟨u, hr, h4⟩ => ?_)
    subst hr
    refine wpAny_passesOwn hp (thn h4 fun _ s5 ⟨x, H5, I5, r5, y5, st5, fr5⟩ => ?_)
    have I5' := I5.pinned (stat fr5) (T.obj _ _ st5)
    refine wpAny_passesOwn hp (thn (hg _ s5 σ3 H5 x u _ I5' r5 (step x H5 y5)) fun _ s6 ⟨σ6, H6, I6, q6⟩ => ?_)
    refine wpAny_passesOwn hp (thn (hb _ s6 σ6 H6 _ I6 q6) fun f s7 q7 => ?_)
    have again : ∀ {σ7 : St} {H7 : Hp}, Inv X (pins ++ pinsAt fp s5.heap) σ7 H7 s7 → N σ7 H7 → ∃ m, m < n ∧ ∃ i σ' H', Inv X pins σ' H' s7 ∧ tn i s7.heap ∧ (∀ b ∈ fp, H' b = none) ∧ W i m σ' H' := fun {σ7 H7} I7 n7 => by
      obtain ⟨m', hm, w7⟩ := hN σ7 H7 n7
      refine ⟨m', hm, i + 1, σ7, H7, I7.unpinned, T.keep _ _ _ st5 fun b hb o e => (I7.pin (b, o) (List.mem_append_right _ (List.mem_append_right _ (mem_pinsAt hb e)))).1, fun b hb => ?_, w7⟩
      obtain ⟨o, e, d⟩ := T.obj _ _ st5 b hb
      exact (I7.pin (b, o) (List.mem_append_right _ (List.mem_append_right _ (mem_pinsAt hb e)))).2.1
    cases f with
    | next => obtain ⟨σ7, H7, I7, n7⟩ := q7; exact again I7 n7
    | cont => obtain ⟨σ7, H7, I7, n7⟩ := q7; exact again I7 n7
    | brk => obtain ⟨σ7, H7, I7, q7⟩ := q7; exact ⟨σ7, H7, I7.unpinned, q7⟩
    | ret v => obtain ⟨x7, σ7, H7, I7, r7, q7⟩ := q7; exact ⟨x7, σ7, H7, I7.unpinned, r7, q7⟩
end

/-! ### the forms one uses -/
/-- over a list that the body leaves as it is -/
theorem for_list {K : PySem.W.Frag} {a : Addr} {xs : List V} {g : TG} {tb : TS} {D : Ends} {σ : St} {H : Hp} (Pv : Nat → St → Hp → Prop) (h0 : Pv 0 σ H) (hl : ∀ i σ H, i ≤ xs.length → Pv i σ H → SqL K H a xs)
    (hs : ∀ i x σ H, xs[i]? = some x → Pv i σ H → g x σ H fun σ2 H2 => tb { D with nx := Pv (i + 1), ct := Pv (i + 1), bk := D.nx } σ2 H2) (hd : ∀ σ H, Pv xs.length σ H → D.nx σ H) :
    ∃ W : Nat → Nat → St → Hp → Prop, (∃ m, W 0 m σ H) ∧ ∀ i m σ H, W i m σ H →
      ((Itl K a).stop i H ∧ D.nx σ H) ∨ ((Itl K a).go i H ∧ ∃ N : St → Hp → Prop, (∀ σ' H', N σ' H' → ∃ m', m' < m ∧ W (i + 1) m' σ' H') ∧ ∀ x H', (Itl K a).yld i H x H' → g x σ H' fun σ2 H2 => tb { D with nx := N, ct := N, bk := D.nx } σ2 H2) := by
  refine ⟨fun i m σ H => m = xs.length - i ∧ i ≤ xs.length ∧ Pv i σ H, ⟨xs.length, by simp, Nat.zero_le _, h0⟩, ?_⟩
  rintro i m σ H ⟨rfl, hi, p⟩
  have q := hl i σ H hi p
  by_cases hlt : i < xs.length
  · refine .inr ⟨⟨xs, xs[i], q, by simp [hlt]⟩, Pv (i + 1), fun σ' H' p' => ⟨xs.length - (i + 1), by lia, rfl, hlt, p'⟩, fun x H' y => ?_⟩
    obtain ⟨e, y⟩ := y
    subst e
    exact hs i x σ _ (y xs q) p
  · have e : i = xs.length := by lia
    subst e
    exact .inl ⟨⟨xs, q, Nat.le_refl _⟩, hd σ H p⟩
theorem for_tup {K : PySem.W.Frag} {a : Addr} {xs : List V} {g : TG} {tb : TS} {D : Ends} {σ : St} {H : Hp} (Pv : Nat → St → Hp → Prop) (h0 : Pv 0 σ H) (hl : ∀ i σ H, i ≤ xs.length → Pv i σ H → SqT K H a xs)
    (hs : ∀ i x σ H, xs[i]? = some x → Pv i σ H → g x σ H fun σ2 H2 => tb { D with nx := Pv (i + 1), ct := Pv (i + 1), bk := D.nx } σ2 H2) (hd : ∀ σ H, Pv xs.length σ H → D.nx σ H) :
    ∃ W : Nat → Nat → St → Hp → Prop, (∃ m, W 0 m σ H) ∧ ∀ i m σ H, W i m σ H →
      ((Itt K a).stop i H ∧ D.nx σ H) ∨ ((Itt K a).go i H ∧ ∃ N : St → Hp → Prop, (∀ σ' H', N σ' H' → ∃ m', m' < m ∧ W (i + 1) m' σ' H') ∧ ∀ x H', (Itt K a).yld i H x H' → g x σ H' fun σ2 H2 => tb { D with nx := N, ct := N, bk := D.nx } σ2 H2) := by
  refine ⟨fun i m σ H => m = xs.length - i ∧ i ≤ xs.length ∧ Pv i σ H, ⟨xs.length, by simp, Nat.zero_le _, h0⟩, ?_⟩
  rintro i m σ H ⟨rfl, hi, p⟩
  have q := hl i σ H hi p
  by_cases hlt : i < xs.length
  · refine .inr ⟨⟨xs, xs[i], q, by simp [hlt]⟩, Pv (i + 1), fun σ' H' p' => ⟨xs.length - (i + 1), by lia, rfl, hlt, p'⟩, fun x H' y => ?_⟩
    obtain ⟨e, y⟩ := y
    subst e
    exact hs i x σ _ (y xs q) p
  · have e : i = xs.length := by lia
    subst e
    exact .inl ⟨⟨xs, q, Nat.le_refl _⟩, hd σ H p⟩
theorem for_range {lo : Int} {n : Nat} {g : TG} {tb : TS} {D : Ends} {σ : St} {H : Hp} (Pv : Nat → St → Hp → Prop) (h0 : Pv 0 σ H)
    (hs : ∀ i σ H, i < n → Pv i σ H → g (.int (lo + i)) σ H fun σ2 H2 => tb { D with nx := Pv (i + 1), ct := Pv (i + 1), bk := D.nx } σ2 H2) (hd : ∀ σ H, Pv n σ H → D.nx σ H) :
    ∃ W : Nat → Nat → St → Hp → Prop, (∃ m, W 0 m σ H) ∧ ∀ i m σ H, W i m σ H →
      ((Itr lo n).stop i H ∧ D.nx σ H) ∨ ((Itr lo n).go i H ∧ ∃ N : St → Hp → Prop, (∀ σ' H', N σ' H' → ∃ m', m' < m ∧ W (i + 1) m' σ' H') ∧ ∀ x H', (Itr lo n).yld i H x H' → g x σ H' fun σ2 H2 => tb { D with nx := N, ct := N, bk := D.nx } σ2 H2) := by
  refine ⟨fun i m σ H => m = n - i ∧ i ≤ n ∧ Pv i σ H, ⟨n, by simp, Nat.zero_le _, h0⟩, ?_⟩
  rintro i m σ H ⟨rfl, hi, p⟩
  by_cases hlt : i < n
  · refine .inr ⟨hlt, Pv (i + 1), fun σ' H' p' => ⟨n - (i + 1), by lia, rfl, hlt, p'⟩, fun x H' y => ?_⟩
    obtain ⟨e, y⟩ := y
    subst e y
    exact hs i σ _ hlt p
  · have e : i = n := by lia
    subst e
    exact .inl ⟨Nat.le_refl _, hd σ H p⟩
/-- while, by a word and a measure of the state -/
theorem while_by (Pv : St → Hp → Prop) (μ : St → Hp → Nat) (h0 : Pv σ H) (hs : ∀ σ H, Pv σ H → c σ H fun b H1 => if b = true then tb { D with nx := fun σ' H' => Pv σ' H' ∧ μ σ' H' < μ σ H, ct := fun σ' H' => Pv σ' H' ∧ μ σ' H' < μ σ H, bk := D.nx } σ H1 else D.nx σ H1) (mono : ∀ σ H Q Q', (∀ b H1, Q b H1 → Q' b H1) → c σ H Q → c σ H Q') : tWhile c tb D σ H := by
  refine ⟨fun m σ H => m = μ σ H ∧ Pv σ H, ⟨_, rfl, h0⟩, ?_⟩
  rintro m σ H ⟨rfl, p⟩
  refine mono σ H _ _ (fun b H1 q => ?_) (hs σ H p)
  cases b with
  | true => exact ⟨_, fun σ' H' ⟨p', l⟩ => ⟨_, l, rfl, p'⟩, q⟩
  | false => exact q
end L2

namespace L2
open PySem PySem.Spec PyProof.Rows

abbrev R2 := V → V → Hp → VK → Prop
/-- a two-place operation on values: f is binaryOp op, inplaceOp op or compareOp op -/
def OpR (X : Cx) (f : Value → Value → Sem Value) (r : R2) : Prop :=
  ∀ (pins : List (Addr × Obj)) (s : Shared) (σ : St) (H : Hp) (x y : V) (v u : Value) (Q : VK), Inv X pins σ H s → RelV x v → RelV y u → r x y H Q →
    wpAny (model X.prog X.w) X.A (f v u) (EP X pins σ Q) X.xe s
/-- a one-place operation -/
def UnR (X : Cx) (f : Value → Sem Value) (r : V → Hp → VK → Prop) : Prop :=
  ∀ (pins : List (Addr × Obj)) (s : Shared) (σ : St) (H : Hp) (x : V) (v : Value) (Q : VK), Inv X pins σ H s → RelV x v → r x H Q →
    wpAny (model X.prog X.w) X.A (f v) (EP X pins σ Q) X.xe s
/-- a call of a value that is known (a builtin, a type) with values -/
def CallR (X : Cx) (f : Value) (r : List V → Hp → VK → Prop) : Prop :=
  ∀ (pins : List (Addr × Obj)) (s : Shared) (σ : St) (H : Hp) (xs : List V) (us : List Value) (Q : VK), Inv X pins σ H s → Vals xs us → r xs H Q →
    wpAny (model X.prog X.w) X.A (call f us) (EP X pins σ Q) X.xe s
/-- a value's truth -/
def TruR (X : Cx) (r : V → Hp → (Bool → Hp → Prop) → Prop) : Prop :=
  ∀ (pins : List (Addr × Obj)) (s : Shared) (σ : St) (H : Hp) (x : V) (v : Value) (Q : Bool → Hp → Prop), Inv X pins σ H s → RelV x v → r x H Q →
    wpAny (model X.prog X.w) X.A (truthy v) (TP X pins σ Q) X.xe s

def tOp (r : R2) (ta tb : TE) : TE := fun σ H Q => ta σ H fun x H1 => tb σ H1 fun y H2 => r x y H2 Q
def tUn (r : V → Hp → VK → Prop) (ta : TE) : TE := fun σ H Q => ta σ H fun x H1 => r x H1 Q
/-- ints in, under C, and a value out -/
def rI (C : Int → Int → Prop) (g : Int → Int → V) : R2 := fun x y H Q => ∃ i j, x = .int i ∧ y = .int j ∧ C i j ∧ Q (g i j) H
def rI0 (g : Int → Int → V) : R2 := fun x y H Q => ∃ i j, x = .int i ∧ y = .int j ∧ Q (g i j) H
def rU (g : Int → V) : V → Hp → VK → Prop := fun x H Q => ∃ i, x = .int i ∧ Q (g i) H

section
variable {X : Cx} {a b c : Expr} {ta tb tc : TE} {pos : Pos}

theorem binT (ha : PE X a ta) (hb : PE X b tb) {pins : List (Addr × Obj)} {s : Shared} {σ : St} {H : Hp} {R : V → V → Hp → Prop} (I : Inv X pins σ H s)
    (h : ta σ H fun x H1 => tb σ H1 fun y H2 => R x y H2) {Q : Value → Shared → Prop} {f : Value → Value → Sem Value}
    (hf : ∀ v u s2 x y H2, Inv X pins σ H2 s2 → RelV x v → RelV y u → R x y H2 → wpAny (model X.prog X.w) X.A (f v u) Q X.xe s2) :
    wpAny (model X.prog X.w) X.A (eval a X.env) (fun v s₁ => wpAny (model X.prog X.w) X.A (eval b X.env) (fun u s₂ => wpAny (model X.prog X.w) X.A (f v u) Q X.xe s₂) X.xe s₁) X.xe s := by
  refine thn (ha pins s σ H _ I h) fun v s1 ⟨x, H1, I1, r1, q1⟩ => ?_
  refine thn (hb pins s1 σ H1 _ I1 q1) fun u s2 ⟨y, H2, I2, r2, q2⟩ => ?_
  exact hf v u s2 x y H2 I2 r1 r2 q2

theorem pe_op (ho : OpR X (binaryOp op) r) (ha : PE X a ta) (hb : PE X b tb) : PE X (.BinOp a op b pos) (tOp r ta tb) := by
  intro pins s σ H Q I h
  exact wpAny_BinOp (binT ha hb I h fun v u s2 x y H2 I2 rx ry q => ho pins s2 σ H2 x y v u Q I2 rx ry q)
theorem pe_un {r : V → Hp → VK → Prop} (ho : UnR X (unaryOp op) r) (ha : PE X a ta) : PE X (.UnaryOp op a pos) (tUn r ta) := by
  intro pins s σ H Q I h
  exact UnaryOp_ (thn (ha pins s σ H _ I h) fun v s1 ⟨x, H1, I1, r1, q1⟩ => ho pins s1 σ H1 x v Q I1 r1 q1)
/-- a op= e at a name: the name's slot i -/
theorem augR (ho : OpR X (inplaceOp op) r) (I : Inv X pins σ H s) (rx : RelV x v) (ry : RelV y u) (q : r x y H Q) : wpAny (model X.prog X.w) X.A (inplaceOp op v u) (EP X pins σ Q) X.xe s := ho pins s σ H x y v u Q I rx ry q

/-! ### ints -/
theorem opI {f : Value → Value → Sem Value} {C : Int → Int → Prop} {g : Int → Int → Int}
    (rule : ∀ (i j : Int) (t u : Tok) (s : Shared) (Q : Value → Shared → Prop) (E : Value → Shared → Prop), C i j → Q (.int (g i j) s.toks) { s with toks := s.toks + 1 } → wpAny (model X.prog X.w) X.A (f (.int i t) (.int j u)) Q E s) :
    OpR X f (rI C fun i j => .int (g i j)) := by
  intro pins s σ H x y v u Q I rx ry h
  obtain ⟨i, j, rfl, rfl, hc, q⟩ := h
  obtain ⟨t, rfl⟩ := rx
  obtain ⟨t', rfl⟩ := ry
  exact rule i j t t' s _ _ hc ⟨.int (g i j), H, I.tok _, ⟨_, rfl⟩, q⟩
theorem opI0 {f : Value → Value → Sem Value} {g : Int → Int → Int}
    (rule : ∀ (i j : Int) (t u : Tok) (s : Shared) (Q : Value → Shared → Prop) (E : Value → Shared → Prop), Q (.int (g i j) s.toks) { s with toks := s.toks + 1 } → wpAny (model X.prog X.w) X.A (f (.int i t) (.int j u)) Q E s) :
    OpR X f (rI0 fun i j => .int (g i j)) := by
  intro pins s σ H x y v u Q I rx ry h
  obtain ⟨i, j, rfl, rfl, q⟩ := h
  obtain ⟨t, rfl⟩ := rx
  obtain ⟨t', rfl⟩ := ry
  exact rule i j t t' s _ _ ⟨.int (g i j), H, I.tok _, ⟨_, rfl⟩, q⟩
theorem opB0 {f : Value → Value → Sem Value} {g : Int → Int → Bool}
    (rule : ∀ (i j : Int) (t u : Tok) (s : Shared) (Q : Value → Shared → Prop) (E : Value → Shared → Prop), Q (.bool (g i j)) s → wpAny (model X.prog X.w) X.A (f (.int i t) (.int j u)) Q E s) :
    OpR X f (rI0 fun i j => .bl (g i j)) := by
  intro pins s σ H x y v u Q I rx ry h
  obtain ⟨i, j, rfl, rfl, q⟩ := h
  obtain ⟨t, rfl⟩ := rx
  obtain ⟨t', rfl⟩ := ry
  exact rule i j t t' s _ _ ⟨.bl (g i j), H, I, rfl, q⟩

def CDiv (i j : Int) : Prop := 0 < j ∧ j < 1073741824
def CDivN (i j : Int) : Prop := j ≠ 0 ∧ j.natAbs < 1073741824
def CPow (i j : Int) : Prop := 0 ≤ j ∧ j ≤ 1000000 ∧ i.natAbs < 2 ^ 64
def CMul (i j : Int) : Prop := (-(2 ^ 64) < i ∧ i < 2 ^ 64) ∨ (-(2 ^ 64) < j ∧ j < 2 ^ 64)
theorem CMul.ok (h : CMul i j) : IntMulOk i j := by
  rcases h with ⟨h1, h2⟩ | ⟨h1, h2⟩
  · exact .of_left (intBits_le_64 h1 h2)
  · exact .of_right (intBits_le_64 h1 h2)
theorem two_pow_nn (k : Nat) : (0 : Int) ≤ 2 ^ k := by
  rw [two_pow_cast]
  exact Int.natCast_nonneg _

theorem op_add : OpR X (binaryOp .Add) (rI0 fun i j => .int (i + j)) := opI0 fun _ _ _ _ _ _ _ q => add_int q
theorem op_sub : OpR X (binaryOp .Sub) (rI0 fun i j => .int (i - j)) := opI0 fun _ _ _ _ _ _ _ q => sub_int q
theorem op_mul : OpR X (binaryOp .Mult) (rI CMul fun i j => .int (i * j)) := opI fun _ _ _ _ _ _ _ hc q => mul_int q hc.ok
/-- // by a positive divisor -/
theorem op_fdiv : OpR X (binaryOp .FloorDiv) (rI CDiv fun i j => .int (i / j)) := opI fun i j _ _ _ _ _ hc q => by
  have h1 : (0 : Int) < j := hc.1
  have h2 : j < 1073741824 := hc.2
  exact floordiv_int (by lia) (by rw [Int.fdiv_eq_ediv_of_nonneg i (by lia)]; exact q) (.inl (PyProof.noPylong_small (by lia)))
theorem op_fdivN : OpR X (binaryOp .FloorDiv) (rI CDivN fun i j => .int (i.fdiv j)) := opI fun _ _ _ _ _ _ _ hc q => floordiv_int hc.1 q (.inl (PyProof.noPylong_small hc.2))
/-- % by a positive divisor of any size -/
theorem op_mod : OpR X (binaryOp .Mod) (rI (fun _ j => 0 < j) fun i j => .int (i % j)) := opI fun i j _ _ _ _ _ hc q => by
  have h1 : (0 : Int) < j := hc
  exact mod_int' (by lia) (by rw [Int.fmod_eq_emod_of_nonneg i (by lia)]; exact q)
theorem op_modN : OpR X (binaryOp .Mod) (rI (fun _ j => j ≠ 0) fun i j => .int (i.fmod j)) := opI fun _ _ _ _ _ _ _ hc q => mod_int' hc q
theorem op_pow : OpR X (binaryOp .Pow) (rI CPow fun i j => .int (i ^ j.toNat)) := opI fun _ _ _ _ _ _ _ hc q => pow_int_small hc.1 hc.2.1 hc.2.2 q
theorem op_shl : OpR X (binaryOp .LShift) (rI CPow fun i j => .int (i * 2 ^ j.toNat)) := opI fun _ _ _ _ _ _ _ hc q => lshift_int_small hc.1 hc.2.1 hc.2.2 q
theorem op_shr : OpR X (binaryOp .RShift) (rI (fun _ j => 0 ≤ j) fun i j => .int (i / 2 ^ j.toNat)) := opI fun i j _ _ _ _ _ hc q =>
  rshift_int hc (by rw [Int.fdiv_eq_ediv_of_nonneg i (two_pow_nn _)]; exact q)
theorem op_and : OpR X (binaryOp .BitAnd) (rI0 fun i j => .int (Builtin.bitAnd i j)) := opI0 fun _ _ _ _ _ _ _ q => and_int q
theorem op_or : OpR X (binaryOp .BitOr) (rI0 fun i j => .int (Builtin.bitOr i j)) := opI0 fun _ _ _ _ _ _ _ q => or_int q
theorem op_xor : OpR X (binaryOp .BitXor) (rI0 fun i j => .int (Builtin.bitXor i j)) := opI0 fun _ _ _ _ _ _ _ q => xor_int q

theorem iop_add : OpR X (inplaceOp .Add) (rI0 fun i j => .int (i + j)) := opI0 fun _ _ _ _ _ _ _ q => iadd_int q
theorem iop_sub : OpR X (inplaceOp .Sub) (rI0 fun i j => .int (i - j)) := opI0 fun _ _ _ _ _ _ _ q => isub_int q
theorem iop_mul : OpR X (inplaceOp .Mult) (rI CMul fun i j => .int (i * j)) := opI fun _ _ _ _ _ _ _ hc q => imul_int q hc.ok
theorem iop_fdiv : OpR X (inplaceOp .FloorDiv) (rI CDiv fun i j => .int (i / j)) := opI fun i j _ _ _ _ _ hc q => by
  have h1 : (0 : Int) < j := hc.1
  have h2 : j < 1073741824 := hc.2
  exact ifloordiv_int (by lia) (by rw [Int.fdiv_eq_ediv_of_nonneg i (by lia)]; exact q) (.inl (PyProof.noPylong_small (by lia)))
theorem iop_mod : OpR X (inplaceOp .Mod) (rI (fun _ j => 0 < j) fun i j => .int (i % j)) := opI fun i j _ _ _ _ _ hc q => by
  have h1 : (0 : Int) < j := hc
  exact imod_int (by lia) (by rw [Int.fmod_eq_emod_of_nonneg i (by lia)]; exact q)
theorem iop_shl : OpR X (inplaceOp .LShift) (rI CPow fun i j => .int (i * 2 ^ j.toNat)) := opI fun _ _ _ _ _ _ _ hc q => ilshift_int_small hc.1 hc.2.1 hc.2.2 q
theorem iop_shr : OpR X (inplaceOp .RShift) (rI (fun _ j => 0 ≤ j) fun i j => .int (i / 2 ^ j.toNat)) := opI fun i j _ _ _ _ _ hc q =>
  irshift_int hc (by rw [Int.fdiv_eq_ediv_of_nonneg i (two_pow_nn _)]; exact q)
theorem iop_and : OpR X (inplaceOp .BitAnd) (rI0 fun i j => .int (Builtin.bitAnd i j)) := opI0 fun _ _ _ _ _ _ _ q => iand_int q
theorem iop_or : OpR X (inplaceOp .BitOr) (rI0 fun i j => .int (Builtin.bitOr i j)) := opI0 fun _ _ _ _ _ _ _ q => ior_int q
theorem iop_xor : OpR X (inplaceOp .BitXor) (rI0 fun i j => .int (Builtin.bitXor i j)) := opI0 fun _ _ _ _ _ _ _ q => ixor_int q

theorem unI {f : Value → Sem Value} {g : Int → Int}
    (rule : ∀ (i : Int) (t : Tok) (s : Shared) (Q : Value → Shared → Prop) (E : Value → Shared → Prop), Q (.int (g i) s.toks) { s with toks := s.toks + 1 } → wpAny (model X.prog X.w) X.A (f (.int i t)) Q E s) :
    UnR X f (rU fun i => .int (g i)) := by
  intro pins s σ H x v Q I rx h
  obtain ⟨i, rfl, q⟩ := h
  obtain ⟨t, rfl⟩ := rx
  exact rule i t s _ _ ⟨.int (g i), H, I.tok _, ⟨_, rfl⟩, q⟩
theorem un_neg : UnR X (unaryOp .USub) (rU fun i => .int (-i)) := unI fun _ _ _ _ _ q => neg_int q
theorem un_inv : UnR X (unaryOp .Invert) (rU fun i => .int (Builtin.bitNot i)) := unI fun _ _ _ _ _ q => invert_int q

/-! ### bools among ints: n += (a < b) -/
theorem op_add_ib : OpR X (binaryOp .Add) (fun x y H Q => ∃ i k, x = .int i ∧ y = .bl k ∧ Q (.int (i + b2i k)) H) := by
  intro pins s σ H x y v u Q I rx ry h
  obtain ⟨i, k, rfl, rfl, q⟩ := h
  obtain ⟨t, rfl⟩ := rx
  cases ry
  exact add_int_bool ⟨.int (i + b2i k), H, I.tok _, ⟨_, rfl⟩, q⟩
end

/-! ### comparisons -/
/-- the scalars that == tells apart as data does -/
def scal : V → V → Bool
  | .non, .non => true | .non, .int _ => true | .int _, .non => true | .non, .bl _ => true | .bl _, .non => true | .non, .str _ => true | .str _, .non => true
  | .int _, .int _ => true | .bl _, .bl _ => true | .str _, .str _ => true | .byt _, .byt _ => true
  | .int _, .str _ => true | .str _, .int _ => true | .bl _, .str _ => true | .str _, .bl _ => true
  | _, _ => false
def rEq : R2 := fun x y H Q => scal x y = true ∧ Q (.bl (decide (x = y))) H
def rNe : R2 := fun x y H Q => scal x y = true ∧ Q (.bl (!decide (x = y))) H

theorem dec_int : decide (V.int i = V.int j) = (i == j) := by
  rw [Bool.eq_iff_iff]
  simp
theorem dec_bl : decide (V.bl i = V.bl j) = (i == j) := by
  rw [Bool.eq_iff_iff]
  simp
theorem dec_str : decide (V.str i = V.str j) = (i == j) := by
  rw [Bool.eq_iff_iff]
  simp
theorem dec_byt : decide (V.byt i = V.byt j) = (i.toList == j.toList) := by
  rw [Bool.eq_iff_iff]
  cases i
  cases j
  simp

section
variable {X : Cx} {a b c : Expr} {ta tb tc : TE} {pos : Pos}
theorem fin_bl (I : Inv X pins σ H s) (q : Q (.bl k) H) (e : k = k') : EP X pins σ Q (.bool k') s := by
  subst e
  exact ⟨.bl k, H, I, rfl, q⟩
theorem op_eq : OpR X (compareOp .Eq) rEq := by
  intro pins s σ H x y v u Q I rx ry h
  obtain ⟨hs, q⟩ := h
  cases x with
  | non =>
    cases rx
    cases y with
    | non => cases ry; exact PySem.EqNone.eq_none_none (fin_bl I q (by simp))
    | bl j => cases ry; exact PySem.EqNone.eq_none_bool (fin_bl I q (by simp))
    | int j => obtain ⟨t', rfl⟩ := ry; exact PySem.EqNone.eq_none_int (fin_bl I q (by simp))
    | str j => obtain ⟨t', rfl⟩ := ry; exact PySem.EqNone.eq_none_str (fin_bl I q (by simp))
    | _ => exact absurd (show false = true from hs) Bool.false_ne_true
  | bl i =>
    cases rx
    cases y with
    | non => cases ry; exact PySem.EqNone.eq_bool_none (fin_bl I q (by simp))
    | bl j => cases ry; exact eq_bool (fin_bl I q dec_bl)
    | str j => obtain ⟨t', rfl⟩ := ry; exact PySem.EqMixed.eq_bool_str (fin_bl I q (by simp))
    | _ => exact absurd (show false = true from hs) Bool.false_ne_true
  | int i =>
    obtain ⟨t, rfl⟩ := rx
    cases y with
    | non => cases ry; exact PySem.EqNone.eq_int_none (fin_bl I q (by simp))
    | int j => obtain ⟨t', rfl⟩ := ry; exact eq_int (fin_bl I q dec_int)
    | str j => obtain ⟨t', rfl⟩ := ry; exact PySem.EqMixed.eq_int_str (fin_bl I q (by simp))
    | _ => exact absurd (show false = true from hs) Bool.false_ne_true
  | str i =>
    obtain ⟨t, rfl⟩ := rx
    cases y with
    | non => cases ry; exact PySem.EqNone.eq_str_none (fin_bl I q (by simp))
    | bl j => cases ry; exact PySem.EqMixed.eq_str_bool (fin_bl I q (by simp))
    | int j => obtain ⟨t', rfl⟩ := ry; exact PySem.EqMixed.eq_str_int (fin_bl I q (by simp))
    | str j => obtain ⟨t', rfl⟩ := ry; exact eq_str (fin_bl I q dec_str)
    | _ => exact absurd (show false = true from hs) Bool.false_ne_true
  | byt i =>
    obtain ⟨t, rfl⟩ := rx
    cases y with
    | byt j => obtain ⟨t', rfl⟩ := ry; exact PySem.W.eq_bytes (fin_bl I q dec_byt)
    | _ => exact absurd (show false = true from hs) Bool.false_ne_true
  | _ => cases y <;> exact absurd (show false = true from hs) Bool.false_ne_true
theorem op_ne : OpR X (compareOp .NotEq) rNe := by
  intro pins s σ H x y v u Q I rx ry h
  obtain ⟨hs, q⟩ := h
  cases x with
  | non =>
    cases rx
    cases y with
    | non => cases ry; exact PySem.EqNone.ne_none_none (fin_bl I q (by simp))
    | bl j => cases ry; exact PySem.EqNone.ne_none_bool (fin_bl I q (by simp))
    | int j => obtain ⟨t', rfl⟩ := ry; exact PySem.EqNone.ne_none_int (fin_bl I q (by simp))
    | str j => obtain ⟨t', rfl⟩ := ry; exact PySem.EqNone.ne_none_str (fin_bl I q (by simp))
    | _ => exact absurd (show false = true from hs) Bool.false_ne_true
  | bl i =>
    cases rx
    cases y with
    | non => cases ry; exact PySem.EqNone.ne_bool_none (fin_bl I q (by simp))
    | bl j => cases ry; exact ne_bool (fin_bl I q (congrArg not dec_bl))
    | str j => obtain ⟨t', rfl⟩ := ry; exact PySem.EqMixed.ne_bool_str (fin_bl I q (by simp))
    | _ => exact absurd (show false = true from hs) Bool.false_ne_true
  | int i =>
    obtain ⟨t, rfl⟩ := rx
    cases y with
    | non => cases ry; exact PySem.EqNone.ne_int_none (fin_bl I q (by simp))
    | int j => obtain ⟨t', rfl⟩ := ry; exact ne_int (fin_bl I q (congrArg not dec_int))
    | str j => obtain ⟨t', rfl⟩ := ry; exact PySem.EqMixed.ne_int_str (fin_bl I q (by simp))
    | _ => exact absurd (show false = true from hs) Bool.false_ne_true
  | str i =>
    obtain ⟨t, rfl⟩ := rx
    cases y with
    | non => cases ry; exact PySem.EqNone.ne_str_none (fin_bl I q (by simp))
    | bl j => cases ry; exact PySem.EqMixed.ne_str_bool (fin_bl I q (by simp))
    | int j => obtain ⟨t', rfl⟩ := ry; exact PySem.EqMixed.ne_str_int (fin_bl I q (by simp))
    | str j => obtain ⟨t', rfl⟩ := ry; exact ne_str (fin_bl I q (congrArg not dec_str))
    | _ => exact absurd (show false = true from hs) Bool.false_ne_true
  | byt i =>
    obtain ⟨t, rfl⟩ := rx
    cases y with
    | byt j => obtain ⟨t', rfl⟩ := ry; exact PySem.W.ne_bytes (fin_bl I q (congrArg not dec_byt))
    | _ => exact absurd (show false = true from hs) Bool.false_ne_true
  | _ => cases y <;> exact absurd (show false = true from hs) Bool.false_ne_true

theorem op_lt : OpR X (compareOp .Lt) (rI0 fun i j => .bl (decide (i < j))) := opB0 fun _ _ _ _ _ _ _ q => lt_int q
theorem op_le : OpR X (compareOp .LtE) (rI0 fun i j => .bl (decide (i ≤ j))) := opB0 fun _ _ _ _ _ _ _ q => le_int q
theorem op_gt : OpR X (compareOp .Gt) (rI0 fun i j => .bl (decide (j < i))) := opB0 fun _ _ _ _ _ _ _ q => gt_int q
theorem op_ge : OpR X (compareOp .GtE) (rI0 fun i j => .bl (decide (j ≤ i))) := opB0 fun _ _ _ _ _ _ _ q => ge_int q
theorem op_lt_str : OpR X (compareOp .Lt) (fun x y H Q => ∃ i j, x = .str i ∧ y = .str j ∧ Q (.bl (decide (i.cps.toList < j.cps.toList))) H) := by
  intro pins s σ H x y v u Q I rx ry h
  obtain ⟨i, j, rfl, rfl, q⟩ := h
  obtain ⟨t, rfl⟩ := rx
  obtain ⟨t', rfl⟩ := ry
  exact lt_str (fin_bl I q rfl)
/-- the one string within the other -/
theorem op_in_str : OpR X (compareOp .In) (fun x y H Q => ∃ i j, x = .str i ∧ y = .str j ∧ Q (.bl (!(Builtin.Str.occurrences j i 0 j.length 1).isEmpty)) H) := by
  intro pins s σ H x y v u Q I rx ry h
  obtain ⟨i, j, rfl, rfl, q⟩ := h
  obtain ⟨t, rfl⟩ := rx
  obtain ⟨t', rfl⟩ := ry
  exact in_str (fin_bl I q rfl)

/-- is None, is not None: the right side a value none -/
theorem op_isN : OpR X (compareOp .Is) (fun x y H Q => y = .non ∧ Q (.bl (decide (x = .non))) H) := by
  intro pins s σ H x y v u Q I rx ry h
  obtain ⟨rfl, q⟩ := h
  cases ry
  refine is_none_gen (fin_bl I q ?_)
  cases x <;> first
    | (cases rx; rfl)
    | (obtain ⟨t, rfl⟩ := rx; rfl)
theorem op_notN : OpR X (compareOp .IsNot) (fun x y H Q => y = .non ∧ Q (.bl (!decide (x = .non))) H) := by
  intro pins s σ H x y v u Q I rx ry h
  obtain ⟨rfl, q⟩ := h
  cases ry
  refine isnot_none_gen (fin_bl I q ?_)
  cases x <;> first
    | (cases rx; rfl)
    | (obtain ⟨t, rfl⟩ := rx; rfl)

theorem op_notin_str : OpR X (compareOp .NotIn) (fun x y H Q => ∃ i j, x = .str i ∧ y = .str j ∧ Q (.bl (!(!(Builtin.Str.occurrences j i 0 j.length 1).isEmpty))) H) := by
  intro pins s σ H x y v u Q I rx ry h
  obtain ⟨i, j, rfl, rfl, q⟩ := h
  obtain ⟨t, rfl⟩ := rx
  obtain ⟨t', rfl⟩ := ry
  exact notIn_str (fin_bl I q rfl)
/-- is, is not of two objects that are tracked lists or instances -/
def isObj : HO → Bool
  | .lst _ => true
  | .ins _ _ _ => true
  | _ => false
theorem obj_there {pins : List (Addr × Obj)} {s : Shared} {σ : St} {H : Hp} {a : Addr} {o : HO} (I : Inv X pins σ H s) (h : H a = some o) (p : isObj o = true) : ∃ ob, s.heap.get? a = some ob ∧ ob.cls ≠ .type "tuple" := by
  cases o with
  | lst xs =>
    obtain ⟨_, its, n, _, e⟩ : xs.length ≤ sizeLine ∧ ∃ (its : List Value) (n : Nat), Vals xs its ∧ s.heap.get? a = some { cls := .type "list", data := .seq its.toArray n } := I.hok a _ h
    exact ⟨_, e, (by show Value.type "list" ≠ .type "tuple"; decide +kernel)⟩
  | ins C dx fs =>
    have x := I.hok a _ h
    obtain ⟨_, _, _, e, _⟩ := x
    exact ⟨_, e, (by show Value.ref C ≠ .type "tuple"; exact fun z => by cases z)⟩
  | _ => exact absurd (show false = true from p) Bool.false_ne_true
theorem op_is_ref : OpR X (compareOp .Is) (fun x y H Q => ∃ a b oa ob, x = .ref a ∧ y = .ref b ∧ H a = some oa ∧ isObj oa = true ∧ H b = some ob ∧ isObj ob = true ∧ Q (.bl (decide (a = b))) H) := by
  intro pins s σ H x y v u Q I rx ry h
  obtain ⟨a, b, oa, ob, rfl, rfl, ha, pa, hb, pb, q⟩ := h
  cases rx
  cases ry
  obtain ⟨o1, e1, n1⟩ := obj_there I ha pa
  obtain ⟨o2, e2, _⟩ := obj_there I hb pb
  by_cases z : a = b
  · subst z
    exact wpAny_is_ref_self (fin_bl I q (by simp))
  · exact wpAny_is_ref_other z e1 e2 n1 (fin_bl I q (by simp [z]))
theorem op_isnot_ref : OpR X (compareOp .IsNot) (fun x y H Q => ∃ a b oa ob, x = .ref a ∧ y = .ref b ∧ H a = some oa ∧ isObj oa = true ∧ H b = some ob ∧ isObj ob = true ∧ Q (.bl (!decide (a = b))) H) := by
  intro pins s σ H x y v u Q I rx ry h
  obtain ⟨a, b, oa, ob, rfl, rfl, ha, pa, hb, pb, q⟩ := h
  cases rx
  cases ry
  obtain ⟨o1, e1, n1⟩ := obj_there I ha pa
  obtain ⟨o2, e2, _⟩ := obj_there I hb pb
  by_cases z : a = b
  · subst z
    exact wpAny_isNot_ref_self (fin_bl I q (by simp))
  · exact wpAny_isNot_ref_other z e1 e2 n1 (fin_bl I q (by simp [z]))

/-- two rules for one operation: by cases -/
theorem OpR.or (h : OpR X f r) (h' : OpR X f r') : OpR X f (fun x y H Q => r x y H Q ∨ r' x y H Q) := by
  intro pins s σ H x y v u Q I rx ry q
  rcases q with q | q
  · exact h pins s σ H x y v u Q I rx ry q
  · exact h' pins s σ H x y v u Q I rx ry q

theorem nomark (b : Expr) (h : op ≠ .In := by decide) (h2 : op ≠ .NotIn := by decide) : behindInMarks op b = false := by
  have e1 : (op == CmpOp.In) = false := by cases op <;> first | rfl | exact absurd rfl h
  have e2 : (op == CmpOp.NotIn) = false := by cases op <;> first | rfl | exact absurd rfl h2
  cases b <;> simp [behindInMarks, e1, e2]
/-- a comparison as a value; hm: nomark b, or (for in, not in) by with_unfolding_all rfl -/
theorem pe_cmpR (ho : OpR X (compareOp op) r) (ha : PE X a ta) (hb : PE X b tb) (hm : behindInMarks op b = false) : PE X (.Compare a [op] [b] pos) (tOp r ta tb) := by
  intro pins s σ H Q I h
  exact wpAny_Compare1 (binT ha hb I h fun v u s2 x y H2 I2 rx ry q => ho pins s2 σ H2 x y v u Q I2 rx ry q) hm
/-- a reading of a value as a test -/
def tTest (t : TE) : TT := fun σ H Q => t σ H fun x H' => ∃ k, x = .bl k ∧ Q k H'
theorem pt_cmpR (ho : OpR X (compareOp op) r) (ha : PE X a ta) (hb : PE X b tb) (hm : behindInMarks op b = false) : PT X (.Compare a [op] [b] pos) (tTest (tOp r ta tb)) := by
  intro pins s σ H Q I h
  refine wpAny_isTrue_Compare1 (thn (ha pins s σ H _ I h) fun v s1 ⟨x, H1, I1, r1, q1⟩ => thn (hb pins s1 σ H1 _ I1 q1) fun u s2 ⟨y, H2, I2, r2, q2⟩ =>
    thn (ho pins s2 σ H2 x y v u _ I2 r1 r2 q2) fun c s3 ⟨z, H3, I3, r3, k, e, q3⟩ => ?_) hm
  subst e
  cases r3
  exact wpAny_truthy_bool ⟨H3, I3, q3⟩
/-- a op1 b op2 c -/
def tChain (r r' : R2) (ta tb tc : TE) : TE := fun σ H Q => ta σ H fun x H1 => tb σ H1 fun y H2 => r x y H2 fun z H3 => ∃ k, z = .bl k ∧
  (if k = true then tc σ H3 fun w' H4 => r' y w' H4 Q else Q (.bl false) H3)
theorem pe_chain (ho : OpR X (compareOp op) r) (ho' : OpR X (compareOp op') r') (ha : PE X a ta) (hb : PE X b tb) (hc : PE X c tc) (hm : lastMarks [op, op'] [b, c] = false := by with_unfolding_all rfl) : PE X (.Compare a [op, op'] [b, c] pos) (tChain r r' ta tb tc) := by
  intro pins s σ H Q I h
  refine Compare_chain (thn (ha pins s σ H _ I h) fun v s1 ⟨x, H1, I1, r1, q1⟩ => chain_link (thn (hb pins s1 σ H1 _ I1 q1) fun u s2 ⟨y, H2, I2, r2, q2⟩ =>
    thn (ho pins s2 σ H2 x y v u _ I2 r1 r2 q2) fun d s3 ⟨z, H3, I3, r3, k, e, q3⟩ => ?_)) hm
  subst e
  cases r3
  refine wpAny_truthy_bool ?_
  cases k with
  | false => exact ite_ff ⟨.bl false, H3, I3, rfl, q3⟩
  | true => exact ite_tt (chain_last (thn (hc pins s3 σ H3 _ I3 q3) fun w' s4 ⟨z', H4, I4, r4, q4⟩ => ho' pins s4 σ H4 y z' u w' Q I4 r2 r4 q4))
theorem pt_chain (ho : OpR X (compareOp op) r) (ho' : OpR X (compareOp op') r') (ha : PE X a ta) (hb : PE X b tb) (hc : PE X c tc) (hm : lastMarks [op, op'] [b, c] = false := by with_unfolding_all rfl) : PT X (.Compare a [op, op'] [b, c] pos) (tTest (tChain r r' ta tb tc)) := by
  intro pins s σ H Q I h
  refine isTrue_chain (thn (ha pins s σ H _ I h) fun v s1 ⟨x, H1, I1, r1, q1⟩ => test_link (thn (hb pins s1 σ H1 _ I1 q1) fun u s2 ⟨y, H2, I2, r2, q2⟩ =>
    thn (ho pins s2 σ H2 x y v u _ I2 r1 r2 q2) fun d s3 ⟨z, H3, I3, r3, k, e, q3⟩ => ?_)) hm
  subst e
  cases r3
  refine wpAny_truthy_bool ?_
  cases k with
  | false =>
    obtain ⟨k', e', q'⟩ := q3
    cases e'
    exact ite_ff ⟨H3, I3, q'⟩
  | true =>
    refine ite_tt (test_last (thn (hc pins s3 σ H3 _ I3 q3) fun w' s4 ⟨z', H4, I4, r4, q4⟩ => thn (ho' pins s4 σ H4 y z' u w' _ I4 r2 r4 q4) fun d' s5 ⟨z2, H5, I5, r5, k2, e2, q5⟩ => ?_))
    subst e2
    cases r5
    exact wpAny_truthy_bool ⟨H5, I5, q5⟩

/-! ### truth -/
/-- a value's truth by the abstract heap -/
def TruV (K : PySem.W.Frag) (x : V) (H : Hp) (k : Bool) : Prop :=
  match x with
  | .non => k = false
  | .bl b => k = b
  | .int i => k = (i != 0)
  | .str y => y.length ≤ sizeLine ∧ k = ((y.length : Int) != 0)
  | .byt y => y.size ≤ sizeLine ∧ k = ((y.size : Int) != 0)
  | .ref p => (∃ xs, SqL K H p xs ∧ k = !xs.isEmpty) ∨ (∃ xs, SqT K H p xs ∧ k = !xs.isEmpty) ∨ ∃ kvs, H p = some (.dK kvs) ∧ k = !kvs.isEmpty
  | _ => False
theorem isEmpty_kv {κ : Type} {kvs : List (κ × V)} {vs : List (κ × Value)} (r : KV kvs vs) : (!vs.isEmpty) = !kvs.isEmpty := by
  cases r <;> rfl
theorem isEmpty_of {xs : List V} {its : List Value} (r : Vals xs its) : (!its.toArray.isEmpty) = !xs.isEmpty := by
  cases r <;> simp
theorem line63 : (sizeLine : Nat) < 2 ^ 63 := by rw [sizeLine_eq]; decide
theorem tru_ok : TruR X (fun x H Q => ∃ k, TruV X.K x H k ∧ Q k H) := by
  intro pins s σ H x v Q I rx h
  obtain ⟨k, e, q⟩ := h
  have hl := line63
  have hs : sizeLine = 16777216 := sizeLine_eq
  cases x with
  | non =>
    cases rx
    have e' : k = false := e
    subst e'
    exact truthy_none ⟨H, I, q⟩
  | bl b =>
    cases rx
    have e' : k = b := e
    subst e'
    exact wpAny_truthy_bool ⟨H, I, q⟩
  | int i =>
    obtain ⟨t, rfl⟩ := rx
    have e' : k = (i != 0) := e
    subst e'
    exact PySem.P.truthy_int ⟨H, I, q⟩
  | str y =>
    obtain ⟨t, rfl⟩ := rx
    obtain ⟨hy, e'⟩ : y.length ≤ sizeLine ∧ k = ((y.length : Int) != 0) := e
    subst e'
    exact PySem.P.truthy_str (by lia) ⟨H, I.tok _, q⟩
  | byt y =>
    obtain ⟨t, rfl⟩ := rx
    obtain ⟨hy, e'⟩ : y.size ≤ sizeLine ∧ k = ((y.size : Int) != 0) := e
    subst e'
    exact PySem.W.truthy_bytes (by lia) ⟨H, I.tok _, q⟩
  | ref p =>
    cases rx
    have e' : (∃ xs, SqL X.K H p xs ∧ k = !xs.isEmpty) ∨ (∃ xs, SqT X.K H p xs ∧ k = !xs.isEmpty) ∨ ∃ kvs, H p = some (.dK kvs) ∧ k = !kvs.isEmpty := e
    rcases e' with ⟨xs, hx, e'⟩ | ⟨xs, hx, e'⟩ | ⟨kvs, hx, e'⟩
    · subst e'
      obtain ⟨its, r, pl, hz⟩ := I.list hx
      have hlen := r.length
      exact wpAny_truthy_list pl.isList (by simp only [List.size_toArray]; lia) ⟨H, I.tok _, by rw [isEmpty_of r]; exact q⟩
    · subst e'
      obtain ⟨its, r, pl, hz⟩ := I.tuple hx
      have hlen := r.length
      exact truthy_tuple pl (by simp only [List.size_toArray]; lia) ⟨H, I.tok _, by rw [isEmpty_of r]; exact q⟩
    · subst e'
      obtain ⟨hz, hS, vs, r, m⟩ : kvs.length ≤ sizeLine ∧ (p == sysModules) = false ∧ ∃ vs, KV kvs vs ∧ s.heap.DictOf (mixKind X.prog X.w) p vs := I.hok p _ hx
      have hlen : kvs.length = vs.length := Paired.length r
      exact wpAny_truthy_dict hS m (by lia) ⟨H, I.tok _, by rw [isEmpty_kv r]; exact q⟩
  | _ => exact (show False from e).elim
/-- any expression whose test is its value's truth (a name, a call, a subscript, a field ..: he by fun _ => rfl) -/
theorem pt_truth (ha : PE X a ta) (he : ∀ whole, isTrue a X.env whole = (do let v ← whole; standAt a.pos; holding [v] (truthy v))) :
    PT X a (fun σ H Q => ta σ H fun x H' => ∃ k, TruV X.K x H' k ∧ Q k H') := by
  intro pins s σ H Q I h
  exact isTrue_plain (thn (ha pins s σ H _ I h) fun v s1 ⟨x, H1, I1, r1, q1⟩ => tru_ok pins s1 σ H1 x v Q I1 r1 q1) (he _)

/-! ### strs and bytes -/
theorem pe_byt : PE X (.Constant (.bytes x) k pos) (fun _ H Q => Q (.byt x.toArray) H) := fun _ _ _ H _ I h => PySem.W.Constant_bytes ⟨.byt x.toArray, H, I.tok _, ⟨_, rfl⟩, h⟩
theorem op_add_str : OpR X (binaryOp .Add) (fun x y H Q => ∃ i j, x = .str i ∧ y = .str j ∧ i.length + j.length ≤ sizeLine ∧ Q (.str (i ++ j)) H) := by
  intro pins s σ H x y v u Q I rx ry h
  obtain ⟨i, j, rfl, rfl, hz, q⟩ := h
  obtain ⟨t, rfl⟩ := rx
  obtain ⟨t', rfl⟩ := ry
  exact add_str (fun t' tk => ⟨.str (i ++ j), H, I.tok _, ⟨_, rfl⟩, q⟩) hz
theorem iop_add_str : OpR X (inplaceOp .Add) (fun x y H Q => ∃ i j, x = .str i ∧ y = .str j ∧ i.length + j.length ≤ sizeLine ∧ Q (.str (i ++ j)) H) := by
  intro pins s σ H x y v u Q I rx ry h
  obtain ⟨i, j, rfl, rfl, hz, q⟩ := h
  obtain ⟨t, rfl⟩ := rx
  obtain ⟨t', rfl⟩ := ry
  exact iadd_str (fun t' tk => ⟨.str (i ++ j), H, I.tok _, ⟨_, rfl⟩, q⟩) hz
theorem op_add_byt : OpR X (binaryOp .Add) (fun x y H Q => ∃ i j, x = .byt i ∧ y = .byt j ∧ i.size + j.size ≤ 16777216 ∧ Q (.byt (i ++ j)) H) := by
  intro pins s σ H x y v u Q I rx ry h
  obtain ⟨i, j, rfl, rfl, hz, q⟩ := h
  obtain ⟨t, rfl⟩ := rx
  obtain ⟨t', rfl⟩ := ry
  exact PySem.W.KBy.add_bytes hz (fun t' tk => ⟨.byt (i ++ j), H, I.tok _, ⟨_, rfl⟩, q⟩)

def PlainIxT (b : Expr) : Prop := ∀ o i, subscripted b false o i = operate [o, i] (getItem o i)
/-- s[i], 0 ≤ i < len -/
theorem pe_item_str (ha : PE X a ta) (hb : PE X b tb) (hs : PlainIxT b) :
    PE X (.Subscript a b pos) (tOp (fun x y H Q => ∃ z i c, x = .str z ∧ y = .int i ∧ 0 ≤ i ∧ i < 2 ^ 63 ∧ i < z.length ∧ z.cps[i.toNat]? = some c ∧ Q (.str ⟨#[c]⟩) H) ta tb) := by
  intro pins s σ H Q I h
  refine Subscript_ (binT ha hb I h fun v u s2 x y H2 I2 rx ry q => ?_)
  obtain ⟨z, i, c, rfl, rfl, h0, h63, h1, hc, q⟩ := q
  obtain ⟨t, rfl⟩ := rx
  obtain ⟨t', rfl⟩ := ry
  have e : seqIndex? i z.length = some i.toNat := PySem.StrLaws.seqIndex_nonneg h0 h1
  exact tail_any (typeIs_str s2 z t) slot_str_getitem.lookup (getItem_str (c := c) (by
    have e1 : decide (i < -(2 ^ 63 : Int)) = false := decide_eq_false (by lia)
    have e2 : decide (i ≥ 2 ^ 63) = false := decide_eq_false (by lia)
    rw [e1, e2] <;> rfl) (by rw [e]; exact hc) ⟨.str ⟨#[c]⟩, H2, I2.tok _, ⟨_, rfl⟩, q⟩) (hs _ _)
/-- b[i], 0 ≤ i < len -/
theorem pe_item_byt (ha : PE X a ta) (hb : PE X b tb) (hs : PlainIxT b) :
    PE X (.Subscript a b pos) (tOp (fun x y H Q => ∃ (z : List UInt8) (i : Int), x = .byt z.toArray ∧ y = .int i ∧ z.length ≤ sizeLine ∧ 0 ≤ i ∧ i < z.length ∧ Q (.int ((z.getD i.toNat 0).toNat : Nat)) H) ta tb) := by
  intro pins s σ H Q I h
  refine Subscript_ (binT ha hb I h fun v u s2 x y H2 I2 rx ry q => ?_)
  obtain ⟨z, i, rfl, rfl, hz, h0, h1, q⟩ := q
  obtain ⟨t, rfl⟩ := rx
  obtain ⟨t', rfl⟩ := ry
  have hl : sizeLine = 16777216 := sizeLine_eq
  exact tail_any (PySem.W.typeIs_bytes s2 z.toArray t) PySem.W.FB.slot_bytes_getitem.lookup (PySem.W.getItem_bytes (by lia) h0 h1 ⟨.int ((z.getD i.toNat 0).toNat : Nat), H2, I2.tok _, ⟨_, rfl⟩, q⟩) (hs _ _)

/-! ### scalar builtins, by CallR -/
theorem vals1 (r : Vals [x] us) : ∃ u, us = [u] ∧ RelV x u := by
  cases r with
  | cons r1 r2 => cases r2; exact ⟨_, rfl, r1⟩
theorem vals2 (r : Vals [x, y] us) : ∃ u w', us = [u, w'] ∧ RelV x u ∧ RelV y w' := by
  cases r with
  | cons r1 r2 =>
    cases r2 with
    | cons r3 r4 => cases r4; exact ⟨_, _, rfl, r1, r3⟩
theorem call_abs : CallR X (.builtin "abs") (fun xs H Q => ∃ i, xs = [.int i] ∧ Q (.int (if i < 0 then -i else i)) H) := by
  intro pins s σ H xs us Q I r h
  obtain ⟨i, rfl, q⟩ := h
  obtain ⟨u, rfl, t, rfl⟩ := vals1 r
  exact call_abs_int fun u tk => ⟨.int (if i < 0 then -i else i), H, I.tok _, ⟨_, rfl⟩, q⟩
theorem call_max2 (hc : X.calm = true) : CallR X (.builtin "max") (fun xs H Q => ∃ i j, xs = [.int i, .int j] ∧ Q (.int (if j > i then j else i)) H) := by
  intro pins s σ H xs us Q I r h
  obtain ⟨i, j, rfl, q⟩ := h
  obtain ⟨u, w', rfl, ⟨t, rfl⟩, ⟨t', rfl⟩⟩ := vals2 r
  refine max_two_ints (I.ok.hd hc) fun h' tk k => ⟨_, H, I.kept k, ?_, q⟩
  by_cases hj : j > i
  · rw [if_pos hj, if_pos hj]; exact ⟨_, rfl⟩
  · rw [if_neg hj, if_neg hj]; exact ⟨_, rfl⟩
theorem call_min2 (hc : X.calm = true) : CallR X (.builtin "min") (fun xs H Q => ∃ i j, xs = [.int i, .int j] ∧ Q (.int (if j < i then j else i)) H) := by
  intro pins s σ H xs us Q I r h
  obtain ⟨i, j, rfl, q⟩ := h
  obtain ⟨u, w', rfl, ⟨t, rfl⟩, ⟨t', rfl⟩⟩ := vals2 r
  refine min_two_ints (I.ok.hd hc) fun h' tk k => ⟨_, H, I.kept k, ?_, q⟩
  by_cases hj : j < i
  · rw [if_pos hj, if_pos hj]; exact ⟨_, rfl⟩
  · rw [if_neg hj, if_neg hj]; exact ⟨_, rfl⟩
theorem call_int1 : CallR X (.type "int") (fun xs H Q => (∃ i, xs = [.int i] ∧ Q (.int i) H) ∨ ∃ k, xs = [.bl k] ∧ Q (.int (if k then 1 else 0)) H) := by
  intro pins s σ H xs us Q I r h
  rcases h with ⟨i, rfl, q⟩ | ⟨k, rfl, q⟩
  · obtain ⟨u, rfl, t, rfl⟩ := vals1 r
    exact call_int_int ⟨.int i, H, I, ⟨_, rfl⟩, q⟩
  · obtain ⟨u, rfl, r1⟩ := vals1 r
    cases r1
    exact call_int_bool ⟨.int (if k then 1 else 0), H, I.tok _, ⟨_, rfl⟩, q⟩
theorem call_bool1 : CallR X (.type "bool") (fun xs H Q => (∃ i, xs = [.int i] ∧ Q (.bl (i != 0)) H) ∨ ∃ k, xs = [.bl k] ∧ Q (.bl k) H) := by
  intro pins s σ H xs us Q I r h
  rcases h with ⟨i, rfl, q⟩ | ⟨k, rfl, q⟩
  · obtain ⟨u, rfl, t, rfl⟩ := vals1 r
    exact call_bool_int ⟨.bl (i != 0), H, I, rfl, q⟩
  · obtain ⟨u, rfl, r1⟩ := vals1 r
    cases r1
    exact call_bool_bool ⟨.bl k, H, I, rfl, q⟩
theorem call_str_int : CallR X (.type "str") (fun xs H Q => ∃ i, xs = [.int i] ∧ i.natAbs.log2 < 1920 ∧ Q (.str (toString i)) H) := by
  intro pins s σ H xs us Q I r h
  obtain ⟨i, rfl, hz, q⟩ := h
  obtain ⟨u, rfl, t, rfl⟩ := vals1 r
  exact PySem.P.str_of_int hz ⟨.str _, H, I.tok _, ⟨_, rfl⟩, q⟩
theorem call_ord : CallR X (.builtin "ord") (fun xs H Q => ∃ x, xs = [.str x] ∧ x.length = 1 ∧ Q (.int (x.cps.getD 0 0 : Nat)) H) := by
  intro pins s σ H xs us Q I r h
  obtain ⟨x, rfl, hz, q⟩ := h
  obtain ⟨u, rfl, t, rfl⟩ := vals1 r
  exact ord_of_one hz ⟨.int _, H, I.tok _, ⟨_, rfl⟩, q⟩
theorem call_chr : CallR X (.builtin "chr") (fun xs H Q => ∃ i, xs = [.int i] ∧ 0 ≤ i ∧ i ≤ 1114111 ∧ Q (.str ⟨#[i.toNat]⟩) H) := by
  intro pins s σ H xs us Q I r h
  obtain ⟨i, rfl, h0, h1, q⟩ := h
  obtain ⟨u, rfl, t, rfl⟩ := vals1 r
  exact chr_of_range h0 h1 ⟨.str _, H, I.tok _, ⟨_, rfl⟩, q⟩
/-- len of a str, a bytes, a list, a tuple -/
def LenV (K : PySem.W.Frag) (x : V) (H : Hp) (n : Nat) : Prop :=
  match x with
  | .str y => y.length ≤ sizeLine ∧ n = y.length
  | .byt y => y.size ≤ sizeLine ∧ n = y.size
  | .ref p => (∃ xs, SqL K H p xs ∧ n = xs.length) ∨ ∃ xs, SqT K H p xs ∧ n = xs.length
  | _ => False
theorem call_len : CallR X (.builtin "len") (fun xs H Q => ∃ x n, xs = [x] ∧ LenV X.K x H n ∧ Q (.int n) H) := by
  intro pins s σ H xs us Q I r h
  obtain ⟨x, n, rfl, e, q⟩ := h
  obtain ⟨u, rfl, rx⟩ := vals1 r
  have hl := line63
  have hs : sizeLine = 16777216 := sizeLine_eq
  cases x with
  | str y =>
    obtain ⟨t, rfl⟩ := rx
    obtain ⟨hy, e'⟩ : y.length ≤ sizeLine ∧ n = y.length := e
    subst e'
    exact len_str (by lia) ⟨.int _, H, I.tok _, ⟨_, rfl⟩, q⟩
  | byt y =>
    obtain ⟨t, rfl⟩ := rx
    obtain ⟨hy, e'⟩ : y.size ≤ sizeLine ∧ n = y.size := e
    subst e'
    exact PySem.W.len_bytes (by lia) ⟨.int _, H, I.tok _, ⟨_, rfl⟩, q⟩
  | ref p =>
    cases rx
    have e' : (∃ xs, SqL X.K H p xs ∧ n = xs.length) ∨ ∃ xs, SqT X.K H p xs ∧ n = xs.length := e
    rcases e' with ⟨xs, hx, e'⟩ | ⟨xs, hx, e'⟩
    · subst e'
      obtain ⟨its, r', pl, hz⟩ := I.list hx
      have hlen := r'.length
      exact Calls.call_len_list pl.isList (by simp only [List.size_toArray]; lia) ⟨.int xs.length, H, I.tok _, ⟨_, by simp only [List.size_toArray]; rw [hlen]⟩, q⟩
    · subst e'
      obtain ⟨its, r', pl, hz⟩ := I.tuple hx
      have hlen := r'.length
      exact len_tuple pl (by simp only [List.size_toArray]; lia) ⟨.int xs.length, H, I.tok _, ⟨_, by simp only [List.size_toArray]; rw [hlen]⟩, q⟩
  | _ => exact (show False from e).elim
/-- divmod: a new tuple -/
theorem call_divmod : CallR X (.builtin "divmod") (fun xs H Q => ∃ i j, xs = [.int i, .int j] ∧ CDiv i j ∧ ∀ p, H p = none → Q (.ref p) (upd H p (.tup [.int (i / j), .int (i % j)]))) := by
  intro pins s σ H xs us Q I r h
  obtain ⟨i, j, rfl, ⟨h1, h2⟩, q⟩ := h
  obtain ⟨u, w', rfl, ⟨t, rfl⟩, ⟨t', rfl⟩⟩ := vals2 r
  refine divmod_int (by lia) ?_ (.inl (PyProof.noPylong_small (by lia)))
  rw [Int.fdiv_eq_ediv_of_nonneg i (by lia), Int.fmod_eq_emod_of_nonneg i (by lia)]
  have hn : H s.heap.objs.size = none := I.hok.fresh (Nat.le_refl _)
  refine ⟨.ref s.heap.objs.size, _, ?_, rfl, q _ hn⟩
  refine I.laid (fun b o e => Heap.get?_push_of_some _ e) (Nat.le_refl _) ⟨by simp only [List.length_cons, List.length_nil]; rw [sizeLine_eq]; decide, [.int (i / j) s.toks, .int (i % j) (s.toks + 1)], .cons ⟨_, rfl⟩ (.cons ⟨_, rfl⟩ .nil), ?_⟩
  exact ⟨_, Heap.get?_push_size s.heap rfl, rfl, 0, rfl⟩
end
end L2

namespace L2
open PySem PySem.Spec PyProof.Rows

/-! ### an instance, its attributes a map -/
structure ObjM (h : Heap) (x dx C : Addr) (mA : Str → Option Value) : Prop where
  obj : h.get? x = some (PySem.W.instObj C dx)
  ns : h.Ns1 dx mA
  ne : dx ≠ x

theorem lookIn_ns {h : Heap} {dx : Addr} {mA : Str → Option Value} (n : h.Ns1 dx mA) : ∃ od, h.get? dx = some od ∧ ∀ name, PySem.W.lookIn name od = some (mA name) := by
  obtain ⟨o, es, ep, ho, hd, hk, _, hm⟩ := n
  refine ⟨o, ho, fun name => ?_⟩
  have e := hm name
  unfold nsFind findBy at e
  rw [← Array.find?_toList] at e
  unfold PySem.W.lookIn
  rw [hd]
  dsimp only
  split
  · rename_i y q
    rw [q] at e
    exact congrArg some e
  · rename_i q
    rw [q] at e
    have a : es.toList.any (·.refKey) = false := by
      rw [List.any_eq_false]
      intro y hy
      obtain ⟨z, t, hkey⟩ := hk y (Array.mem_toList_iff.mp hy)
      simp [DictEntry.refKey, hkey]
    have a' : ¬ es.toList.any (·.refKey) = true := by rw [a]; exact Bool.false_ne_true
    rw [if_neg a']
    exact congrArg some e

theorem ObjM.look (I : ObjM h x dx C mA) : ∃ od, PySem.W.InstAt h x (PySem.W.instObj C dx) C (some od) ∧ ∀ name, PySem.W.lookIn name od = some (mA name) :=
  let ⟨od, ho, hl⟩ := lookIn_ns I.ns
  ⟨od, ⟨I.obj, rfl, rfl, ho⟩, hl⟩

section
variable {prog : Program} {w : World} {A : Around} {E : Value → Shared → Prop} {s : Shared} {K : PySem.W.Frag} {x dx C f : Addr} {mA : Str → Option Value} {name : Str} {v : Value}

theorem get_map {Q : Value → Shared → Prop} (X : K.In s.heap) (I : ObjM s.heap x dx C mA) (hg : PySem.W.plainGet K C name = true) (hh : PySem.W.hasDictIn K C = true) (ha : PySem.W.findIn K (.ref C) name = some none) (hv : mA name = some v) (hv' : PySem.W.handedIn v = true) (h : Q v { s with toks := s.toks + 1 }) :
    wpAny (model prog w) A (getAttr (.ref x) name expr) Q E s := by
  obtain ⟨od, J, hl⟩ := I.look
  exact PySem.W.get_value X J (PySem.W.plainGet_of hg).1 (PySem.W.findObj_own hh ha rfl (by rw [hl, hv])) hv' h

theorem get_const {Q : Value → Shared → Prop} (X : K.In s.heap) (I : ObjM s.heap x dx C mA) (hg : PySem.W.plainGet K C name = true) (hh : PySem.W.hasDictIn K C = true) (ha : PySem.W.findIn K (.ref C) name = some (some a)) (hn : PySem.W.specialIn K a "__get__" = some none) (hc : PySem.W.copiedNames.contains name = false) (hv : mA name = none) (hv' : PySem.W.handedIn a = true) (h : Q a { s with toks := s.toks + 1 }) : wpAny (model prog w) A (getAttr (.ref x) name expr) Q E s := by
  obtain ⟨od, J, hl⟩ := I.look
  exact PySem.W.get_value X J (PySem.W.plainGet_of hg).1 (PySem.W.findObj_cls hh ha hn hv' hc (by rw [hl, hv])) hv' h

theorem get_meth {Q : Value × List Value → Shared → Prop} (X : K.In s.heap) (I : ObjM s.heap x dx C mA) (hg : PySem.W.plainGet K C name = true) (hf : PySem.W.findIn K (.ref C) name = some (some (.ref f))) (ht : PySem.W.isFn K (.ref f) = true) (hv : mA name = none) (h : Q (.ref f, [.ref x]) s) :
    wpAny (model prog w) A (getMethod (.ref x) name pl) Q E s := by
  obtain ⟨od, J, hl⟩ := I.look
  exact PySem.W.method_fn X J (PySem.W.plainGet_of hg).1 (PySem.W.plainGet_of hg).2 hf (beq_iff_eq.mp ht) (by show (PySem.W.lookIn name od).map (·.isSome) = some false; rw [hl, hv]; rfl) h

theorem set_map {Q : Unit → Shared → Prop} (X : K.In s.heap) (I : ObjM s.heap x dx C mA) (hs : PySem.W.findIn K (.ref C) "__setattr__" = some (some (.builtin "object.__setattr__"))) (hp : PySem.W.plainOver K C = true) (ht : PySem.W.takerIn K C name = some none) (hh : PySem.W.hasDictIn K C = true) (hw : PySem.Within mA ns) (hsz : ns.length ≤ sizeLine) (h : ∀ h', ObjM h' x dx C (fun y => if y = name then some v else mA y) → Heap.SameBut dx s.heap h' → Q () { s with heap := h', toks := s.toks + 2 }) :
    wpAny (model prog w) A (setAttr (.ref x) name v) Q E s := by
  obtain ⟨od, J, hl⟩ := I.look
  refine PySem.W.set_plain X J hs (PySem.W.osa_open (s := { s with toks := s.toks + 1 }) (r := none) X J hp ht fun b => ?_)
  obtain ⟨cd, hc, hd'⟩ := PySem.W.any_some hh
  have hx : s.heap.get? x = some ⟨.ref C, some dx, .plain, #[]⟩ := I.obj
  refine wpAny_bind (wpAny_pure (wpAny_bind (wpAny_bind (wpAny_loadPart hx (wpAny_bind (PySem.W.Looks.here (s := { s with toks := s.toks + 1 }) (PySem.W.looks_clsIn X hc) ?_))))))
  rw [hd']
  refine wpAny_pure (a := some dx) (wpAny_bind (wpAny_pure (wpAny_bind ?_)))
  refine wpAny_nsSet1 (s := { s with toks := s.toks + 1 }) I.ns fun h' hn2 hs2 => ?_
  obtain ⟨oD, esD, epD, hoD, hdD, hcD⟩ := hn2.count (PySem.Within.cons name v hw)
  refine wpAny_bind (wpAny_lookBehind hoD (by rw [hdD]; exact pastItsLine_dict (Nat.le_trans hcD (by rw [List.length_cons]; lia))) ?_)
  exact wpAny_pure (h _ ⟨(hs2.2 _ (Ne.symm I.ne)).trans I.obj, hn2, I.ne⟩ hs2)

/-- C(..): the dict at the heap's end, the instance behind it; then its __init__ -/
theorem make_map {R : Result → Shared → Prop} (X : K.In s.heap) (hm : PySem.W.makesIn K C = true) (hi : PySem.W.findIn K (.ref C) "__init__" = some (some (.ref f))) (hf : PySem.W.typeIn K (.ref f) = some (.type "function")) (h : codeAny (model prog w) (A.under (.builtin "type.__call__" ⟨.ref C :: vs, kw⟩)) (.call (.ref f) ⟨.ref (s.heap.objs.size + 1) :: vs, kw⟩) (PySem.W.InitBack (s.heap.objs.size + 1) R)
      { s with heap := (s.heap.push PySem.W.emptyDict).push (PySem.W.instObj C s.heap.objs.size) }) :
    codeAny (model prog w) A (.call (.ref C) ⟨vs, kw⟩) R s := by
  obtain ⟨hh, g, d, t, os⟩ := s
  exact PySem.W.make_core (PySem.W.makes_of X hm) (PySem.W.looks_findIn X hi) (fun self => PySem.W.bind_fn X self hf) (.inl rfl) h
/-- C() where there is no __init__ but object's -/
theorem make_map0 {R : Result → Shared → Prop} (X : K.In s.heap) (hm : PySem.W.makesIn K C = true)
    (hi : PySem.W.findIn K (.ref C) "__init__" = some (some (.builtin "object.__init__")))
    (hb : ∀ self, PySem.W.Looks (model prog w) s.heap (bindSpecial (.builtin "object.__init__") self) (.builtin "object.__init__", [self]))
    (h : codeAny (model prog w) (A.under (.builtin "type.__call__" ⟨[.ref C], []⟩)) (.call (.builtin "object.__init__") ⟨[.ref (s.heap.objs.size + 1)], []⟩) (PySem.W.InitBack (s.heap.objs.size + 1) R)
      { s with heap := (s.heap.push PySem.W.emptyDict).push (PySem.W.instObj C s.heap.objs.size) }) :
    codeAny (model prog w) A (.call (.ref C) ⟨[], []⟩) R s := by
  obtain ⟨hh, g, d, t, os⟩ := s
  exact PySem.W.make_core (PySem.W.makes_of X hm) (PySem.W.looks_findIn X hi) hb (.inr ⟨rfl, rfl⟩) h
end

/-! ### the attributes as a list of pairs -/
def putF (f : Str) (v : V) : List (Str × V) → List (Str × V)
  | [] => [(f, v)]
  | (g, x) :: r => if g = f then (g, v) :: r else (g, x) :: putF f v r
theorem lookup_putF (f g : Str) (v : V) : ∀ fs : List (Str × V), (putF f v fs).lookup g = if g = f then some v else fs.lookup g
  | [] => by
    show List.lookup g [(f, v)] = _
    by_cases h : g = f
    · have hb : (g == f) = true := beq_iff_eq.mpr h
      simp only [List.lookup, hb, if_pos h]
    · have hb : (g == f) = false := beq_eq_false_iff_ne.mpr h
      simp only [List.lookup, hb, if_neg h]
  | (k, x) :: r => by
    have ih := lookup_putF f g v r
    rw [show putF f v ((k, x) :: r) = (if k = f then (k, v) :: r else (k, x) :: putF f v r) from rfl]
    by_cases hk : k = f
    · rw [if_pos hk]
      by_cases h : g = k
      · have hb : (g == k) = true := beq_iff_eq.mpr h
        simp only [List.lookup, hb, if_pos (h.trans hk)]
      · have hb : (g == k) = false := beq_eq_false_iff_ne.mpr h
        simp only [List.lookup, hb, if_neg (fun e : g = f => h (e.trans hk.symm))]
    · rw [if_neg hk]
      by_cases h : g = k
      · have hb : (g == k) = true := beq_iff_eq.mpr h
        simp only [List.lookup, hb, if_neg (fun e : g = f => hk (h.symm.trans e))]
      · have hb : (g == k) = false := beq_eq_false_iff_ne.mpr h
        simp only [List.lookup, hb]
        exact ih
theorem keys_putF (f : Str) (v : V) : ∀ fs : List (Str × V), f ∈ (putF f v fs).map (·.1) ∧ ∀ g, g ∈ fs.map (·.1) → g ∈ (putF f v fs).map (·.1)
  | [] => ⟨by simp [putF], fun g h => by simp at h⟩
  | (k, x) :: r => by
    obtain ⟨i1, i2⟩ := keys_putF f v r
    rw [show putF f v ((k, x) :: r) = (if k = f then (k, v) :: r else (k, x) :: putF f v r) from rfl]
    by_cases hk : k = f
    · rw [if_pos hk]
      subst hk
      exact ⟨by simp, fun g h => by simpa using h⟩
    · rw [if_neg hk]
      refine ⟨?_, fun g h => ?_⟩
      · rw [List.map_cons]
        exact List.mem_cons_of_mem _ i1
      · rw [List.map_cons] at h ⊢
        rcases List.mem_cons.mp h with e | e
        · exact List.mem_cons.mpr (.inl e)
        · exact List.mem_cons_of_mem _ (i2 g e)
theorem length_putF (f : Str) (v : V) : ∀ fs : List (Str × V), (putF f v fs).length ≤ fs.length + 1
  | [] => by simp [putF]
  | (k, x) :: r => by
    have ih := length_putF f v r
    rw [show putF f v ((k, x) :: r) = (if k = f then (k, v) :: r else (k, x) :: putF f v r) from rfl]
    by_cases hk : k = f
    · rw [if_pos hk, List.length_cons, List.length_cons]; lia
    · rw [if_neg hk, List.length_cons, List.length_cons]; lia

theorem RelO.some_of (r : RelO (some v) o) : ∃ u, o = some u ∧ RelV v u := by
  cases o with
  | none => exact (show False from r).elim
  | some u => exact ⟨u, rfl, r⟩
theorem RelO.none_of (r : RelO none o) : o = none := by
  cases o with
  | none => rfl
  | some u => exact (show False from r).elim
theorem handed_of (r : RelV v u) : PySem.W.handedIn u = true := by
  cases v with
  | non => cases (show u = Value.none from r); rfl
  | bl b => cases (show u = Value.bool b from r); rfl
  | int i => obtain ⟨t, e⟩ := (show ∃ t, u = Value.int i t from r); cases e; rfl
  | str x => obtain ⟨t, e⟩ := (show ∃ t, u = Value.str x t from r); cases e; rfl
  | byt b => obtain ⟨t, e⟩ := (show ∃ t, u = Value.bytes b t from r); cases e; rfl
  | flt b => obtain ⟨t, e⟩ := (show ∃ t, u = Value.float b t from r); cases e; rfl
  | ref a => cases (show u = Value.ref a from r); rfl
  | ty n => cases (show u = Value.type n from r); rfl

section
variable {P : Program} {w : World} {H H' : Hp} {h h' : Heap} {a C dx : Addr} {fs fs' : List (Str × V)}
theorem ins_get (hok : HOk P w H h) (e : H a = some (.ins C dx fs)) : ∃ mA, ObjM h a dx C mA ∧ (∀ f, RelO (fs.lookup f) (mA f)) ∧ PySem.Within mA (fs.map (·.1)) ∧ fs.length ≤ 1000 ∧ H dx = some (.own a) := by
  obtain ⟨d, z, ne, ob, mA, n, r, q⟩ := (show ObjOk P w H h a (.ins C dx fs) from hok a _ e)
  exact ⟨mA, ⟨ob, n, ne⟩, r, q, z, d⟩
end

/-! ### what of the text a class must have -/
structure Cls (K : PySem.W.Frag) (C : Addr) : Prop where
  pg : PySem.W.plainGet K C Str.empty = true
  hd : PySem.W.hasDictIn K C = true
  po : PySem.W.plainOver K C = true
  sa : PySem.W.findIn K (.ref C) "__setattr__" = some (some (.builtin "object.__setattr__"))
theorem Cls.get {K : PySem.W.Frag} {C : Addr} (c : Cls K C) (f : Str) : PySem.W.plainGet K C f = true := c.pg
/-- no class of it has the name -/
def NoAttr (K : PySem.W.Frag) (C : Addr) (f : Str) : Prop := PySem.W.findIn K (.ref C) f = some none
theorem NoAttr.taker {K : PySem.W.Frag} {C : Addr} {f : Str} (n : NoAttr K C f) : PySem.W.takerIn K C f = some none := by
  unfold PySem.W.takerIn
  rw [show PySem.W.findIn K (.ref C) f = some none from n]
  rfl
/-- a constant of the class -/
structure Con (K : PySem.W.Frag) (C : Addr) (f : Str) (v : V) (u : Value) : Prop where
  at_ : PySem.W.findIn K (.ref C) f = some (some u)
  rel : RelV v u
  get : PySem.W.specialIn K u "__get__" = some none
  cp : PySem.W.copiedNames.contains f = false
/-- a method: a plain def of the class or of one above it -/
structure Meth (K : PySem.W.Frag) (C : Addr) (m : Str) (f : Addr) : Prop where
  at_ : PySem.W.findIn K (.ref C) m = some (some (.ref f))
  fn : PySem.W.isFn K (.ref f) = true
  kp : PySem.W.keepIn K (.ref f) = true

section
variable {X : Cx} {pins : List (Addr × Obj)} {σ : St} {H : Hp} {s : Shared} {a C dx : Addr} {fs : List (Str × V)} {f : Str} {v : V} {A : Around} {E : Value → Shared → Prop}

theorem getattr_ok {Q : Value → Shared → Prop} (I : Inv X pins σ H s) (e : H a = some (.ins C dx fs)) (c : Cls X.K C) (n : NoAttr X.K C f) (l : fs.lookup f = some v) (h : ∀ u s', Inv X pins σ H s' → RelV v u → Q u s') : wpAny (model X.prog X.w) A (getAttr (.ref a) f b) Q E s := by
  obtain ⟨mA, O, r, _, _, _⟩ := ins_get I.hok e
  obtain ⟨u, hu, ru⟩ := RelO.some_of (v := v) (o := mA f) (by rw [← l]; exact r f)
  exact get_map I.kIn O (c.get f) c.hd n hu (handed_of ru) (h u _ (I.tok _) ru)

theorem getcon_ok {Q : Value → Shared → Prop} (I : Inv X pins σ H s) (e : H a = some (.ins C dx fs)) (c : Cls X.K C) (k : Con X.K C f v u) (l : fs.lookup f = none) (h : ∀ s', Inv X pins σ H s' → Q u s') : wpAny (model X.prog X.w) A (getAttr (.ref a) f b) Q E s := by
  obtain ⟨mA, O, r, _, _, _⟩ := ins_get I.hok e
  have hn : mA f = none := RelO.none_of (by rw [← l]; exact r f)
  exact get_const I.kIn O (c.get f) c.hd k.at_ k.get k.cp hn (handed_of k.rel) (h _ (I.tok _))

theorem getmeth_ok {Q : Value × List Value → Shared → Prop} (I : Inv X pins σ H s) (e : H a = some (.ins C dx fs)) (c : Cls X.K C) (k : Meth X.K C m g) (l : fs.lookup m = none) (h : Q (.ref g, [.ref a]) s) : wpAny (model X.prog X.w) A (getMethod (.ref a) m pl) Q E s := by
  obtain ⟨mA, O, r, _, _, _⟩ := ins_get I.hok e
  have hn : mA m = none := RelO.none_of (by rw [← l]; exact r m)
  exact get_meth I.kIn O (c.get m) k.at_ k.fn hn h

theorem setattr_ok {Q : Unit → Shared → Prop} (I : Inv X pins σ H s) (e : H a = some (.ins C dx fs)) (c : Cls X.K C) (n : NoAttr X.K C f) (hl : fs.length < 1000) (ry : RelV y u) (h : ∀ s', Inv X pins σ (upd H a (.ins C dx (putF f y fs))) s' → Q () s') : wpAny (model X.prog X.w) A (setAttr (.ref a) f u) Q E s := by
  obtain ⟨mA, O, r, wi, _, ho⟩ := ins_get I.hok e
  have hz : (fs.map (·.1)).length ≤ sizeLine := by rw [List.length_map, sizeLine_eq]; lia
  refine set_map I.kIn O c.sa c.po n.taker c.hd wi hz fun h' O' sb => h _ ?_
  have hd : ∃ o, h'.get? dx = some o := let ⟨o, _, _, e', _⟩ := O'.ns; ⟨o, e'⟩
  refine I.write (x := a) (e := dx) (by rw [e]; exact True.intro) (.inr ho) (fun b q hb z => (sb.2 b hb).trans z) hd ?_
  refine ⟨by rw [upd_ne O.ne]; exact ho, ?_, O.ne, O'.obj, _, O'.ns, fun g => ?_, fun g hg => ?_⟩
  · have := length_putF f y fs; lia
  · show RelO ((putF f y fs).lookup g) (if g = f then some u else mA g)
    rw [lookup_putF]
    by_cases q : g = f
    · rw [if_pos q, if_pos q]; exact ry
    · rw [if_neg q, if_neg q]; exact r g
  · by_cases q : g = f
    · rw [q]; exact (keys_putF f y fs).1
    · refine (keys_putF f y fs).2 g (wi g fun z => hg ?_)
      show (if g = f then some u else mA g) = none
      rw [if_neg q]; exact z

/-- a new instance, tracked, without attributes -/
theorem Inv.made (I : Inv X pins σ H s) : Inv X pins σ (upd (upd H s.heap.objs.size (.own (s.heap.objs.size + 1))) (s.heap.objs.size + 1) (.ins C s.heap.objs.size []))
    { s with heap := (s.heap.push PySem.W.emptyDict).push (PySem.W.instObj C s.heap.objs.size) } := by
  have e1 : (s.heap.push PySem.W.emptyDict).get? s.heap.objs.size = some PySem.W.emptyDict := Heap.get?_push_size s.heap rfl
  have e2 : ((s.heap.push PySem.W.emptyDict).push (PySem.W.instObj C s.heap.objs.size)).get? (s.heap.objs.size + 1) = some (PySem.W.instObj C s.heap.objs.size) := by
    have := Heap.get?_push_size (s.heap.push PySem.W.emptyDict) (o := PySem.W.instObj C s.heap.objs.size) rfl
    rwa [Heap.size_push] at this
  have e3 : (s.heap.push PySem.W.emptyDict).Ns s.heap.objs.size (fun _ => none) := ⟨PySem.W.emptyDict, #[], _, e1, rfl, (fun e he => absurd he (by simp)), fun _ => rfl⟩
  have I1 := I.laid (a := s.heap.objs.size) (o := .own (s.heap.objs.size + 1)) (h' := s.heap.push PySem.W.emptyDict) (t' := s.toks) (fun b u q => Heap.get?_push_of_some _ q) (Nat.le_refl _) ⟨_, e1⟩
  refine I1.laid (a := s.heap.objs.size + 1) (o := .ins C s.heap.objs.size []) (t' := s.toks) (fun b u q => Heap.get?_push_of_some _ q) (Nat.le_of_eq (Heap.size_push _ _)) ?_
  have ne : s.heap.objs.size ≠ s.heap.objs.size + 1 := Nat.ne_of_lt (Nat.lt_succ_self _)
  refine ⟨by rw [upd_ne ne, upd_same], Nat.zero_le _, ne, e2, fun _ => none, (Heap.Ns1.of_empty e3).at fun o q => Heap.get?_push_of_some _ q, fun _ => True.intro, fun y hy => absurd rfl hy⟩

/-- e.f where nothing but the object is asked: through attributeBase (super) and the last hold -/
theorem attr_of {Q : Value → Shared → Prop} (hb : attributeBase e f env (eval e env) = eval e env) (h : wpAny (model prog w) A (eval e env) (fun o s₁ => wpAny (model prog w) A (getAttr o f true) Q E s₁) E s) : wpAny (model prog w) A (eval (.Attribute e f pos) env) Q E s :=
  Attribute_any_ h (by rw [arm_eval_Attribute, hb])
end

/-! ### readings and rules -/
/-- e.f, an attribute of the instance -/
def tFld (K : PySem.W.Frag) (ta : TE) (f : Str) : TE := fun σ H Q => ta σ H fun x H1 => ∃ a C dx fs v, x = .ref a ∧ H1 a = some (.ins C dx fs) ∧ Cls K C ∧ NoAttr K C f ∧ fs.lookup f = some v ∧ Q v H1
/-- e.f, a constant of the class -/
def tCon (K : PySem.W.Frag) (ta : TE) (f : Str) : TE := fun σ H Q => ta σ H fun x H1 => ∃ a C dx fs v u, x = .ref a ∧ H1 a = some (.ins C dx fs) ∧ Cls K C ∧ Con K C f v u ∧ fs.lookup f = none ∧ Q v H1
/-- e.f = value -/
def sFld (K : PySem.W.Frag) (ta tv : TE) (f : Str) : TS := fun D σ H => tv σ H fun y H1 => ta σ H1 fun x H2 => ∃ a C dx fs, x = .ref a ∧ H2 a = some (.ins C dx fs) ∧ Cls K C ∧ NoAttr K C f ∧ fs.length < 1000 ∧
  D.nx σ (upd H2 a (.ins C dx (putF f y fs)))
/-- an augmented operator on two values -/
def InOp (X : Cx) (op : Operator) (rd : V → V → Hp → VK → Prop) : Prop :=
  ∀ (pins : List (Addr × Obj)) (s : Shared) (σ : St) (H : Hp) (x y : V) (u v : Value) (Q : VK), Inv X pins σ H s → RelV x u → RelV y v → rd x y H Q → wpAny (model X.prog X.w) X.A (inplaceOp op u v) (EP X pins σ Q) X.xe s
/-- e.f op= value -/
def sFldAug (K : PySem.W.Frag) (ta tv : TE) (rd : V → V → Hp → VK → Prop) (f : Str) : TS := fun D σ H => ta σ H fun x H1 => ∃ a C dx fs v, x = .ref a ∧ H1 a = some (.ins C dx fs) ∧ Cls K C ∧ NoAttr K C f ∧ fs.lookup f = some v ∧
  tv σ H1 fun y H2 => rd v y H2 fun z H3 => ∃ dx' fs', H3 a = some (.ins C dx' fs') ∧ fs'.length < 1000 ∧ D.nx σ (upd H3 a (.ins C dx' (putF f z fs')))

section
variable {X : Cx} {o e value : Expr} {f : Str} {pos pos' tpos : Pos} {ta tv : TE}
theorem pe_fld (he : PE X e ta) (hb : attributeBase e f X.env (eval e X.env) = eval e X.env) : PE X (.Attribute e f pos) (tFld X.K ta f) := by
  intro pins s σ H Q I h
  refine attr_of hb (thn (he pins s σ H _ I h) fun u s1 ⟨x, H1, I1, rx, a, C, dx, fs, v, ex, ea, c, n, l, q⟩ => ?_)
  subst ex
  obtain rfl : u = Value.ref a := rx
  exact getattr_ok I1 ea c n l fun u' s2 I2 ru => ⟨v, H1, I2, ru, q⟩
theorem pe_con (he : PE X e ta) (hb : attributeBase e f X.env (eval e X.env) = eval e X.env) : PE X (.Attribute e f pos) (tCon X.K ta f) := by
  intro pins s σ H Q I h
  refine attr_of hb (thn (he pins s σ H _ I h) fun u s1 ⟨x, H1, I1, rx, a, C, dx, fs, v, u0, ex, ea, c, k, l, q⟩ => ?_)
  subst ex
  obtain rfl : u = Value.ref a := rx
  exact getcon_ok I1 ea c k l fun s2 I2 => ⟨v, H1, I2, k.rel, q⟩
theorem ps_fld (ha : PE X o ta) (hv : PE X value tv) (hs : swapsWith value (some (.Attribute o f pos')) pos.line X.env = pure false) : PS X (.Assign [.Attribute o f pos'] value pos) (sFld X.K ta tv f) := by
  intro pins s σ H D I h
  refine plainObj_wpAny_Assign_Attribute (thn (hv pins s σ H _ I h) fun u s1 ⟨y, H1, I1, ry, q⟩ => thn (ha pins s1 σ H1 _ I1 q) fun ov s2 ⟨x, H2, I2, rx, a, C, dx, fs, ex, ea, c, n, l, q2⟩ => ?_) hs
  subst ex
  obtain rfl : ov = Value.ref a := rx
  exact setattr_ok I2 ea c n l ry fun s3 I3 => ⟨σ, _, I3, q2⟩
theorem ps_fldaug {rd : V → V → Hp → VK → Prop} (ha : PE X o ta) (hv : PE X value tv) (hop : InOp X op rd) : PS X (.AugAssign (.Attribute o f tpos) op value pos) (sFldAug X.K ta tv rd f) := by
  intro pins s σ H D I h
  refine wpAny_AugAssign_AttributeAny (thn (ha pins s σ H _ I h) fun ov s1 ⟨x, H1, I1, rx, a, C, dx, fs, v, ex, ea, c, n, l, q⟩ => ?_)
  subst ex
  obtain rfl : ov = Value.ref a := rx
  refine getattr_ok I1 ea c n l fun u s2 I2 ru => thn (hv pins s2 σ H1 _ I2 q) fun w3 s3 ⟨y, H2, I3, ry, q3⟩ => thn (hop pins s3 σ H2 v y u w3 _ I3 ru ry q3) fun w4 s4 ⟨z, H3, I4, rz, dx', fs', ea', l', q4⟩ => ?_
  exact setattr_ok I4 ea' c n l' rz fun s5 I5 => ⟨σ, _, I5, q4⟩
def rAdd : V → V → Hp → VK → Prop := fun x y H Q => ∃ i j, x = .int i ∧ y = .int j ∧ Q (.int (i + j)) H
def rSub : V → V → Hp → VK → Prop := fun x y H Q => ∃ i j, x = .int i ∧ y = .int j ∧ Q (.int (i - j)) H
theorem in_add : InOp X .Add rAdd := by
  rintro pins s σ H x y u v Q I rx ry ⟨i, j, rfl, rfl, q⟩
  obtain ⟨t, rfl⟩ := (show ∃ t, u = Value.int i t from rx)
  obtain ⟨t', rfl⟩ := (show ∃ t', v = Value.int j t' from ry)
  exact PyProof.Rows.iadd_int ⟨.int (i + j), H, I.tok _, ⟨_, rfl⟩, q⟩
theorem in_sub : InOp X .Sub rSub := by
  rintro pins s σ H x y u v Q I rx ry ⟨i, j, rfl, rfl, q⟩
  obtain ⟨t, rfl⟩ := (show ∃ t, u = Value.int i t from rx)
  obtain ⟨t', rfl⟩ := (show ∃ t', v = Value.int j t' from ry)
  exact PyProof.Rows.isub_int ⟨.int (i - j), H, I.tok _, ⟨_, rfl⟩, q⟩

/-- what is between an instance and its method: the tree of a method call -/
theorem methcall_of {Q : Value → Shared → Prop} (he : PE X e te) (I : Inv X pins σ H s) (h : te σ H fun x H1 => ∃ a C dx fs g, x = .ref a ∧ H1 a = some (.ins C dx fs) ∧ Cls X.K C ∧ Meth X.K C m g ∧ fs.lookup m = none ∧
      ∀ s1, Inv X pins σ H1 s1 → wpAny (model X.prog X.w) X.A (callWith pos (.ref g) [.ref a] (backTo pos (starEach args X.env)) (backToKw pos (keywordEach [] X.env))) Q X.xe s1) (ht : eval (.Call (.Attribute e m apos) args [] pos) X.env = (do
      let ov ← eval e X.env
      standAt apos.atName
      let (f, first) ← holding [ov] (getMethod ov m pl)
      callWith pos f first (backTo pos (starEach args X.env)) (backToKw pos (keywordEach [] X.env)))) :
    wpAny (model X.prog X.w) X.A (eval (.Call (.Attribute e m apos) args [] pos) X.env) Q X.xe s := by
  refine PySem.W.methodCall_KW (pl := pl) (thn (he pins s σ H _ I h) fun u s1 ⟨x, H1, I1, rx, a, C, dx, fs, g, ex, ea, c, k, l, q⟩ => ?_) ht
  subst ex
  obtain rfl : u = Value.ref a := rx
  exact getmeth_ok I1 ea c k l (q s1 I1)
end

/-! ### isinstance -/
section
variable {X : Cx} {pins : List (Addr × Obj)} {σ : St} {H : Hp} {s : Shared} {A : Around} {E : Value → Shared → Prop} {Q : Value → Shared → Prop} {c : Value} {b : Bool}
/-- the type of a value, as the fragment's deciders take it; for an instance its class -/
inductive TyOf (K : PySem.W.Frag) (H : Hp) : V → Value → Prop where
  | non : TyOf K H .non (.type "NoneType")
  | bl (x : Bool) : TyOf K H (.bl x) (.type "bool")
  | int (i : Int) : TyOf K H (.int i) (.type "int")
  | str (x : Str) : TyOf K H (.str x) (.type "str")
  | flt (x : UInt64) : TyOf K H (.flt x) (.type "float")
  | lst {a : Addr} {xs : List V} (e : H a = some (.lst xs)) : TyOf K H (.ref a) (.type "list")
  | frz {a : Addr} {o : Obj} {xs : List V} (e : H a = some (.frz o (.lst xs))) : TyOf K H (.ref a) (.type "list")
  | tup {a : Addr} {xs : List V} (e : H a = some (.tup xs)) : TyOf K H (.ref a) (.type "tuple")
  | dK {a : Addr} {kvs : List (Key × V)} (e : H a = some (.dK kvs)) : TyOf K H (.ref a) (.type "dict")
  | dT {a : Addr} {kvs : List (List Key × V)} (e : H a = some (.dT kvs)) : TyOf K H (.ref a) (.type "dict")
  | ins {a C dx : Addr} {fs : List (Str × V)} (e : H a = some (.ins C dx fs)) (cl : Cls K C) (ha : PySem.W.findIn K (.ref C) "__class__" = some (some (.builtin "object.__class__")))
      (hn : PySem.W.specialIn K (.builtin "object.__class__") "__get__" = some (some (.builtin "getset_descriptor.__get__"))) (htk : PySem.W.takesIn K (.builtin "object.__class__") = some true)
      (hm : PySem.W.mroIn K C (.type "object") = some true) : TyOf K H (.ref a) (.ref C)
/-- isinstance(x, c) for one class c, a built-in or an own one: kitOne's answer -/
theorem isinst_ok (I : Inv X pins σ H s) (rx : RelV x u) (ty : TyOf X.K H x t) (e : PySem.W.kitOne X.K t c = some b) (h : ∀ tk, Q (.bool b) { s with toks := tk }) :
    wpAny (model X.prog X.w) A (call (.builtin "isinstance") [u, c]) Q E s := by
  cases ty with
  | non => cases (show u = Value.none from rx); exact PySem.W.kia_one PySem.W.kitx_none I.kIn True.intro e (fun z => nomatch z) h
  | bl y => cases (show u = Value.bool y from rx); exact PySem.W.kia_one PySem.W.kitx_bool I.kIn True.intro e (fun z => nomatch z) h
  | int i => obtain ⟨t, q⟩ := (show ∃ t, u = Value.int i t from rx); cases q; exact PySem.W.kia_one PySem.W.kitx_int I.kIn True.intro e (fun z => nomatch z) h
  | str y => obtain ⟨t, q⟩ := (show ∃ t, u = Value.str y t from rx); cases q; exact PySem.W.kia_one PySem.W.kitx_str I.kIn True.intro e (fun z => nomatch z) h
  | flt y => obtain ⟨t, q⟩ := (show ∃ t, u = Value.float y t from rx); cases q; exact PySem.W.kia_one PySem.W.kitx_float I.kIn True.intro e (fun z => nomatch z) h
  | @lst a xs ea =>
    cases (show u = Value.ref a from rx)
    obtain ⟨_, _, n, _, h1⟩ := (show ObjOk X.prog X.w H s.heap a (.lst xs) from I.hok a _ ea)
    exact PySem.W.kia_one PySem.W.kitx_list I.kIn ⟨_, h1, rfl⟩ e (fun z => nomatch z) h
  | @frz a ob xs ea =>
    cases (show u = Value.ref a from rx)
    obtain ⟨_, _, _, n, _, h1⟩ := (show ObjOk X.prog X.w H s.heap a (.frz ob (.lst xs)) from I.hok a _ ea)
    exact PySem.W.kia_one PySem.W.kitx_list I.kIn ⟨_, h1, rfl⟩ e (fun z => nomatch z) h
  | @tup a xs ea =>
    cases (show u = Value.ref a from rx)
    obtain ⟨_, _, _, p⟩ := (show ObjOk X.prog X.w H s.heap a (.tup xs) from I.hok a _ ea)
    obtain ⟨o, h1, h2, _⟩ := p
    exact PySem.W.kia_one PySem.W.kitx_tuple I.kIn ⟨o, h1, h2⟩ e (fun z => nomatch z) h
  | @dK a kvs ea =>
    cases (show u = Value.ref a from rx)
    obtain ⟨_, _, vs, _, p⟩ := (show ObjOk X.prog X.w H s.heap a (.dK kvs) from I.hok a _ ea)
    obtain ⟨o, es, ep, h1, h2, _⟩ := p
    exact PySem.W.kia_one PySem.W.kitx_dict I.kIn ⟨o, h1, h2.1⟩ e (fun z => nomatch z) h
  | @dT a kvs ea =>
    cases (show u = Value.ref a from rx)
    obtain ⟨_, _, xs, _, o, es, ep, h1, h2, _⟩ := (show ObjOk X.prog X.w H s.heap a (.dT kvs) from I.hok a _ ea)
    exact PySem.W.kia_one PySem.W.kitx_dict I.kIn ⟨o, h1, h2.1⟩ e (fun z => nomatch z) h
  | @ins a C dx fs ea cl ha hn htk hm =>
    cases (show u = Value.ref a from rx)
    obtain ⟨mA, O, _⟩ := ins_get I.hok ea
    obtain ⟨od, J, _⟩ := O.look
    exact PySem.W.kia_one (PySem.W.kitx_own (cl.get _) cl.hd ha hn htk hm) I.kIn J e (fun z => nomatch z) h
end
end L2

namespace L2
open PySem PySem.Spec PyProof.Rows

/-! ### room -/
structure Room (k : Nat) (A : Around) : Prop where
  hd : A.handled = none
  dp : A.depth + 3 * k + 5 < recursionLimit
  un : A.units + 16 * k + 200 < cLine
theorem Room.mono (r : Room k A) (h : j ≤ k) : Room j A := ⟨r.hd, by have := r.dp; lia, by have := r.un; lia⟩
theorem Room.deeper (r : Room (k + 1) A) (env : Env) : Room k (A.deeper env) :=
  ⟨r.hd, by have := r.dp; show A.depth + 1 + 3 * k + 5 < _; lia, by have := r.un; show A.units + 3 + 16 * k + 200 < _; lia⟩
theorem Room.in1 (r : Room (k + 1) A) : Room k A.in1 :=
  ⟨r.hd, by have := r.dp; show A.depth + 3 * k + 5 < _; lia, by have := r.un; show A.units + 1 + 16 * k + 200 < _; lia⟩
theorem make_depth {A : Around} {C : Addr} {us : List Value} {kw : List (Str × Value)} : (A.under (.builtin "type.__call__" ⟨.ref C :: us, kw⟩)).depth = A.depth + 1 := by
  first | rfl | simp [Around.under, Code.weight, Code.isCreation, Code.isGuard, Code.isCaller, Code.frames, Code.isFrame, guardIds]
theorem make_units {A : Around} {C : Addr} {us : List Value} {kw : List (Str × Value)} : (A.under (.builtin "type.__call__" ⟨.ref C :: us, kw⟩)).units = A.units + 1 := by
  first | rfl | simp [Around.under, Code.cUnits, Code.frames, Code.isFrame]
theorem Room.make (r : Room (k + 1) A) (C : Addr) (us : List Value) (kw : List (Str × Value)) : Room k (A.under (.builtin "type.__call__" ⟨.ref C :: us, kw⟩)) :=
  ⟨r.hd, by have := r.dp; rw [make_depth]; lia, by have := r.un; rw [make_units]; lia⟩
theorem Room.depth (r : Room k A) : A.depth < recursionLimit := by have := r.dp; lia
theorem Room.units (r : Room k A) : A.units + 64 < cLine := by have := r.un; lia
theorem Room.units0 (r : Room k A) : A.units < cLine := by have := r.un; lia

/-! ### argument lists and displays -/
def tNil : TA := fun _ H Q => Q [] H
def tCons (ta : TE) (tr : TA) : TA := fun σ H Q => ta σ H fun x H1 => tr σ H1 fun xs H2 => Q (x :: xs) H2
section
variable {X : Cx} {e : Expr} {es : List Expr} {te : TE} {t : TA} {pos : Pos}
theorem pa_nil : PA X [] tNil := fun _ _ _ _ H Q I h => Calls.spliced_nil ⟨[], H, I, .nil, h⟩
theorem pa_cons (ha : PE X e te) (hr : PA X es t) (hs : starEach (e :: es) X.env = (false, eval e X.env) :: starEach es X.env := by rfl) : PA X (e :: es) (tCons te t) := by
  intro pos pins s σ H Q I h
  rw [hs]
  show wpAny _ _ (spliced ((false, eval e X.env) :: backTo pos (starEach es X.env))) _ _ s
  refine Calls.spliced_cons (thn (ha pins s σ H _ I h) fun u s1 ⟨x, H1, I1, r1, q1⟩ => ?_)
  exact thn (hr pos pins s1 σ H1 _ I1 q1) fun us s2 ⟨xs, H2, I2, r2, q2⟩ => ⟨x :: xs, H2, I2, .cons r1 r2, q2⟩

/-- a tuple, a list of written items -/
def tTup (t : TA) : TE := fun σ H Q => t σ H fun xs H1 => xs.length ≤ sizeLine ∧ ∀ p, H1 p = none → Q (.ref p) (upd H1 p (.tup xs))
def tLst (t : TA) : TE := fun σ H Q => t σ H fun xs H1 => xs.length ≤ sizeLine ∧ ∀ p, H1 p = none → Q (.ref p) (upd H1 p (.lst xs))
theorem pe_tup {x1} (h : PA X es t) : PE X (.Tuple es x1 pos) (tTup t) := by
  intro pins s σ H Q I hq
  refine wpAny_Tuple_spliced (thn (h pos pins s σ H _ I hq) fun us s1 ⟨xs, H1, I1, r, z, q⟩ => ⟨by rw [← r.length]; exact z, ?_⟩)
  have hf : H1 s1.heap.objs.size = none := I1.hok.fresh (Nat.le_refl _)
  refine ⟨.ref s1.heap.objs.size, upd H1 s1.heap.objs.size (.tup xs), I1.laid (t' := s1.toks) (fun b u e => Heap.get?_push_of_some _ e) (Nat.le_refl _) ?_, rfl, q _ hf⟩
  exact ⟨z, us, r, ⟨_, Heap.get?_push_size _ rfl, rfl, _, rfl⟩⟩
theorem pe_lst (h : PA X es t) : PE X (.List es pos) (tLst t) := by
  intro pins s σ H Q I hq
  refine wpAny_List_spliced (thn (h pos pins s σ H _ I hq) fun us s1 ⟨xs, H1, I1, r, z, q⟩ => ⟨by rw [← r.length]; exact z, ?_⟩)
  have hf : H1 s1.heap.objs.size = none := I1.hok.fresh (Nat.le_refl _)
  refine ⟨.ref s1.heap.objs.size, upd H1 s1.heap.objs.size (.lst xs), I1.laid (t' := s1.toks) (fun b u e => Heap.get?_push_of_some _ e) (Nat.le_refl _) ?_, rfl, q _ hf⟩
  exact ⟨z, us, 0, r, Heap.get?_push_size _ rfl⟩
end

/-! ### what a def promises -/
/-- a def's promise: the bound arguments in the parameters' order, the heap, the wanted end, the wanted exception -/
abbrev Sp := List V → Hp → VK → XK → Prop
/-- how an exception lies behind a call (file 08 gives it): the callers' frames, abstract heap and state ahead of the call, the wish, the exception, the state -/
abbrev CXT := List Env → Hp → Shared → XK → Value → Shared → Prop

/-- the state at a call -/
structure Env0 (P : Program) (w : World) (K : PySem.W.Frag) (mg : Str → Option Value) (base : Heap) (A : Around) (outer : List Env) (s : Shared) (H : Hp) : Prop where
  frames : A.frames = some outer
  mod : Mod K mg base
  bs : ∀ b o, base.get? b = some o → s.heap.get? b = some o ∧ H b = none
  bsz : base.objs.size ≤ s.heap.objs.size
  funs : s.heap.FunFrames base outer
  frf : ∀ b ∈ frs outer, H b = none
  hok : HOk P w H s.heap
  bare : AllBare s.gens
/-- a call's end -/
def CE (outer : List Env) (P : Program) (w : World) (H : Hp) (s : Shared) (Q : VK) (u : Value) (s' : Shared) : Prop :=
  ∃ v H', s'.os = s.os ∧ AllBare s'.gens ∧ Un (frs outer) [] H H' s.heap s'.heap ∧ HOk P w H' s'.heap ∧ RelV v u ∧ Q v H'
def CR (CX : CXT) (outer : List Env) (P : Program) (w : World) (H : Hp) (s : Shared) (Q : VK) (E : XK) (r : Result) (s' : Shared) : Prop :=
  match r with
  | .ok (.ret u) => CE outer P w H s Q u s'
  | .ok _ => False
  | .error e => CX outer H s E e s'
structure FnOk (P : Program) (w : World) (K : PySem.W.Frag) (mg : Str → Option Value) (base : Heap) (CX : CXT) (k : Nat) (f : Addr) (fd : FuncData) (ps : List Str) (sp : Sp) : Prop where
  len : ∀ vs H Q E, sp vs H Q E → vs.length = ps.length
  run : ∀ (A : Around) (outer : List Env) (s : Shared) (H : Hp) (args : Args) (us : List Value) (vs : List V) (Q : VK) (E : XK), Room k A → Env0 P w K mg base A outer s H → BindsTo s fd args (ps.zip us) → Vals vs us → sp vs H Q E →
    codeAny (model P w) A (.call (.ref f) args) (CR CX outer P w H s Q E) s
theorem FnOk.mono {P : Program} {w : World} {K : PySem.W.Frag} {mg : Str → Option Value} {base : Heap} {CX : CXT} {j k : Nat} {f : Addr} {fd : FuncData} {ps : List Str} {sp : Sp} (F : FnOk P w K mg base CX j f fd ps sp) (h : j ≤ k) :
    FnOk P w K mg base CX k f fd ps sp := ⟨F.len, fun A outer s H args us vs Q E hr => F.run A outer s H args us vs Q E (hr.mono h)⟩
/-- a weaker promise -/
theorem FnOk.imp {P : Program} {w : World} {K : PySem.W.Frag} {mg : Str → Option Value} {base : Heap} {CX : CXT} {k : Nat} {f : Addr} {fd : FuncData} {ps : List Str} {sp sp' : Sp} (F : FnOk P w K mg base CX k f fd ps sp)
    (h : ∀ vs H Q E, sp' vs H Q E → sp vs H Q E) : FnOk P w K mg base CX k f fd ps sp' :=
  ⟨fun vs H Q E q => F.len vs H Q E (h _ _ _ _ q), fun A outer s H args us vs Q E hr he hb hv hs => F.run A outer s H args us vs Q E hr he hb hv (h _ _ _ _ hs)⟩

theorem Env0.make {P : Program} {w : World} {K : PySem.W.Frag} {mg : Str → Option Value} {base : Heap} {A : Around} {outer : List Env} {s : Shared} {H : Hp} (e : Env0 P w K mg base A outer s H) (C : Addr) (us : List Value) (kw : List (Str × Value)) :
    Env0 P w K mg base (A.under (.builtin "type.__call__" ⟨.ref C :: us, kw⟩)) outer s H := ⟨by first | exact e.frames | (simpa [Around.under, Code.envs, Code.isFrame, pushEnvs] using e.frames), e.mod, e.bs, e.bsz, e.funs, e.frf, e.hok, e.bare⟩
theorem Env0.in1 {P : Program} {w : World} {K : PySem.W.Frag} {mg : Str → Option Value} {base : Heap} {A : Around} {outer : List Env} {s : Shared} {H : Hp} (e : Env0 P w K mg base A outer s H) :
    Env0 P w K mg base A.in1 outer s H := ⟨e.frames, e.mod, e.bs, e.bsz, e.funs, e.frf, e.hok, e.bare⟩

section
variable {X : Cx} {pins : List (Addr × Obj)} {σ : St} {H : Hp} {s s' : Shared}
/-- from a body: what a callee wants -/
theorem Inv.env0 (I : Inv X pins σ H s) : Env0 X.prog X.w X.K X.mg X.base X.A X.stack s H :=
  ⟨I.ok.frames, I.ok.mod, I.bs, Nat.le_trans I.ok.bsz I.sz, I.stack, I.stkFree, I.hok, I.bare⟩
/-- behind a call -/
theorem Inv.after (I : Inv X pins σ H s) (h : CE X.stack X.prog X.w H s Q u s') : EP X pins σ Q u s' := by
  obtain ⟨v, H', os, bare, un, hok, r, q⟩ := h
  obtain ⟨hh, g, d, t, os'⟩ := s'
  obtain rfl : os' = s.os := os
  exact ⟨v, H', I.call (h' := hh) (g' := g) (d' := d) (t' := t) (ch := []) un hok bare (fun b z => absurd z (by simp)), r, q⟩
end

/-! ### calls -/
/-- f(..): the written arguments, then the defaults dvs; E: what is wanted of an exception -/
def tCall (sp : Sp) (dvs : List V) (E : XK) (t : TA) : TE := fun σ H Q => t σ H fun vs H1 => sp (vs ++ dvs) H1 Q E
/-- o.m(..) of an instance of the class at C -/
def tMeth (C : Addr) (m : Str) (sp : Sp) (dvs : List V) (E : XK) (ta : TE) (t : TA) : TE := fun σ H Q => ta σ H fun x H1 => ∃ a dx fs, x = .ref a ∧ H1 a = some (.ins C dx fs) ∧ fs.lookup m = none ∧
  t σ H1 fun vs H2 => sp (x :: (vs ++ dvs)) H2 Q E
/-- C(..): a new instance and its dict, then __init__ -/
def tMake (C : Addr) (sp : Sp) (dvs : List V) (E : XK) (t : TA) : TE := fun σ H Q => t σ H fun vs H1 => ∀ x dx, H1 x = none → H1 dx = none → dx ≠ x →
  sp (.ref x :: (vs ++ dvs)) (upd (upd H1 dx (.own x)) x (.ins C dx [])) (fun v H2 => v = .non ∧ Q (.ref x) H2) E

/-- how the parameters are bound: us the positional arguments, kw the keywords' values by name, ds the defaults that fill up -/
def Binds (K : PySem.W.Frag) (fd : FuncData) (ps : List Str) (ds : List Value) : Prop :=
  ∀ (s : Shared) (us : List Value), K.In s.heap → (us ++ ds).length = ps.length → BindsTo s fd ⟨us, []⟩ (ps.zip (us ++ ds))
/-- every parameter is given -/
theorem Binds.all {K : PySem.W.Frag} {fd : FuncData} {ps : List Str} (h : ∀ us : List Value, us.length = ps.length → bindArgs fd ⟨us, []⟩ = pure (ps.zip us)) : Binds K fd ps [] := fun s us _ hl => by
  rw [List.append_nil] at hl ⊢
  exact .of_eq (h us hl)

/-- an exception of a callee reaches what this body wants of exceptions -/
def Passes (CX : CXT) (X : Cx) (E : XK) : Prop := ∀ (pins : List (Addr × Obj)) (σ : St) (H : Hp) (s : Shared) (e : Value) (s' : Shared), Inv X pins σ H s → CX X.stack H s E e s' → X.xe e s'

section
variable {X : Cx} {CX : CXT} {k : Nat} {f C : Addr} {fd : FuncData} {ps : List Str} {sp : Sp} {dvs : List V} {ds : List Value} {E : XK} {x m : Str} {p pos apos : Pos} {e o : Expr} {es : List Expr} {ta : TE} {t : TA}

/-- the callee runs -/
theorem run_fn (F : FnOk X.prog X.w X.K X.mg X.base CX k f fd ps sp) (hr : Room k X.A) (hb : Binds X.K fd ps ds) (hd : Vals dvs ds) (hx : Passes CX X E) (I : Inv X pins σ H s) (r : Vals vs us) (h : sp (vs ++ dvs) H Q E) : wpAny (model X.prog X.w) X.A (call (.ref f) us) (EP X pins σ Q) X.xe s := by
  have r2 : Vals (vs ++ dvs) (us ++ ds) := r.append hd
  have hl : (us ++ ds).length = ps.length := by rw [← r2.length]; exact F.len _ _ _ _ h
  refine wpAny_call (codeAny_mono (F.run X.A X.stack s H ⟨us, []⟩ (us ++ ds) (vs ++ dvs) Q E hr I.env0 (hb s us I.kIn hl) r2 h) fun r s' hq => ?_)
  cases r with
  | error e => exact hx pins σ H s e s' I hq
  | ok fl =>
    cases fl with
    | ret u => exact I.after hq
    | next => exact False.elim hq
    | brk => exact False.elim hq
    | cont => exact False.elim hq

theorem pe_call (F : FnOk X.prog X.w X.K X.mg X.base CX k f fd ps sp) (hr : Room k X.A) (hg : Gl X x) (hm : X.mg x = some (.ref f)) (hk : PySem.W.keepIn X.K (.ref f) = true) (hb : Binds X.K fd ps ds) (hd : Vals dvs ds) (hx : Passes CX X E)
    (ha : PA X (e :: es) t) (hdb : (x == ("__debug__" : Str)) = false := by decide) (he : starEach (e :: es) X.env = (false, eval e X.env) :: starEach es X.env := by rfl) (hpl : (backTo pos (starEach es X.env)).any (·.1) = false := by rfl) :
    PE X (.Call (.Name x p) (e :: es) [] pos) (tCall sp dvs E t) := by
  intro pins s σ H Q I h
  refine wpAny_Call_Name_kw (ld_glob I hg hm ?_ hdb)
  refine PySem.W.callWith_K (h₀ := X.base) I.ok.mod.kin hk (thn (ha pos pins s σ H _ I h) fun us s1 ⟨vs, H1, I1, r, q⟩ => ⟨I1.kIn, ?_⟩) he hpl
  exact run_fn F hr hb hd hx I1 r q
theorem pe_call0 (F : FnOk X.prog X.w X.K X.mg X.base CX k f fd ps sp) (hr : Room k X.A) (hg : Gl X x) (hm : X.mg x = some (.ref f)) (hk : PySem.W.keepIn X.K (.ref f) = true) (hb : Binds X.K fd ps ds) (hd : Vals dvs ds) (hx : Passes CX X E)
    (hdb : (x == ("__debug__" : Str)) = false := by decide) : PE X (.Call (.Name x p) [] [] pos) (tCall sp dvs E tNil) := by
  intro pins s σ H Q I h
  refine wpAny_Call_Name_kw (ld_glob I hg hm ?_ hdb)
  exact PySem.W.callWith_K0 I.kIn hk (run_fn (us := []) F hr hb hd hx I .nil h)

/-- o.m(e, ..) -/
theorem pe_meth (he : PE X o ta) (c : Cls X.K C) (hm : Meth X.K C m f) (F : FnOk X.prog X.w X.K X.mg X.base CX k f fd ps sp) (hr : Room k X.A) (hb : Binds X.K fd ps ds) (hd : Vals dvs ds) (hx : Passes CX X E) (ha : PA X (e :: es) t) (hst : starEach (e :: es) X.env = (false, eval e X.env) :: starEach es X.env := by rfl) (hpl : (backTo pos (starEach es X.env)).any (·.1) = false := by rfl) (ht : eval (.Call (.Attribute o m apos) (e :: es) [] pos) X.env = (do
      let ov ← eval o X.env
      standAt apos.atName
      let (f, first) ← holding [ov] (getMethod ov m pl)
      callWith pos f first (backTo pos (starEach (e :: es) X.env)) (backToKw pos (keywordEach [] X.env))) := by rfl) :
    PE X (.Call (.Attribute o m apos) (e :: es) [] pos) (tMeth C m sp dvs E ta t) := by
  intro pins s σ H Q I h
  refine PySem.W.methodCall_KW (pl := pl) (thn (he pins s σ H _ I h) fun u s1 ⟨x, H1, I1, rx, a, dx, fs, ex, ea, l, q⟩ => ?_) ht
  subst ex
  obtain rfl : u = Value.ref a := rx
  refine getmeth_ok I1 ea c hm l ?_
  refine PySem.W.callWith_K (first := [.ref a]) (h₀ := X.base) I.ok.mod.kin hm.kp (thn (ha pos pins s1 σ H1 _ I1 q) fun us s2 ⟨vs, H2, I2, r, q2⟩ => ⟨I2.kIn, ?_⟩) hst hpl
  exact run_fn (us := .ref a :: us) (vs := .ref a :: vs) F hr hb hd hx I2 (.cons rfl r) q2
/-- o.m() -/
theorem pe_meth0 (he : PE X o ta) (c : Cls X.K C) (hm : Meth X.K C m f) (F : FnOk X.prog X.w X.K X.mg X.base CX k f fd ps sp) (hr : Room k X.A) (hb : Binds X.K fd ps ds) (hd : Vals dvs ds) (hx : Passes CX X E) (ht : eval (.Call (.Attribute o m apos) [] [] pos) X.env = (do
      let ov ← eval o X.env
      standAt apos.atName
      let (f, first) ← holding [ov] (getMethod ov m pl)
      callWith pos f first (backTo pos (starEach [] X.env)) (backToKw pos (keywordEach [] X.env))) := by rfl) :
    PE X (.Call (.Attribute o m apos) [] [] pos) (tMeth C m sp dvs E ta tNil) := by
  intro pins s σ H Q I h
  refine PySem.W.methodCall_KW (pl := pl) (thn (he pins s σ H _ I h) fun u s1 ⟨x, H1, I1, rx, a, dx, fs, ex, ea, l, q⟩ => ?_) ht
  subst ex
  obtain rfl : u = Value.ref a := rx
  refine getmeth_ok I1 ea c hm l ?_
  exact PySem.W.callWith_K0 (first := [.ref a]) I1.kIn hm.kp (run_fn (us := [.ref a]) (vs := [.ref a]) F hr hb hd hx I1 (.cons rfl .nil) q)

/-- what a class must have to be made -/
structure Mk (K : PySem.W.Frag) (C f : Addr) : Prop where
  makes : PySem.W.makesIn K C = true
  init : PySem.W.findIn K (.ref C) "__init__" = some (some (.ref f))
  fn : PySem.W.isFn K (.ref f) = true
  kp : PySem.W.keepIn K (.ref C) = true

theorem run_make (M : Mk X.K C f) (F : FnOk X.prog X.w X.K X.mg X.base CX k f fd ps sp) (hr : Room (k + 1) X.A) (hb : Binds X.K fd ps ds) (hd : Vals dvs ds) (hx : Passes CX X E) (I : Inv X pins σ H s) (r : Vals vs us) (h : ∀ x dx, H x = none → H dx = none → dx ≠ x → sp (.ref x :: (vs ++ dvs)) (upd (upd H dx (.own x)) x (.ins C dx [])) (fun v H2 => v = .non ∧ Q (.ref x) H2) E) :
    wpAny (model X.prog X.w) X.A (call (.ref C) us) (EP X pins σ Q) X.xe s := by
  have hq := h (s.heap.objs.size + 1) s.heap.objs.size (I.hok.fresh (Nat.le_succ _)) (I.hok.fresh (Nat.le_refl _)) (Nat.ne_of_lt (Nat.lt_succ_self _))
  have I2 := Inv.made (C := C) I
  have r2 : Vals (V.ref (s.heap.objs.size + 1) :: (vs ++ dvs)) (Value.ref (s.heap.objs.size + 1) :: (us ++ ds)) := .cons rfl (r.append hd)
  have hl : (Value.ref (s.heap.objs.size + 1) :: us ++ ds).length = ps.length := by
    have e := r2.length
    rw [F.len _ _ _ _ hq] at e
    exact e.symm
  refine wpAny_call (make_map (f := f) I.kIn M.makes M.init (beq_iff_eq.mp M.fn) (codeAny_mono (F.run _ X.stack _ _ ⟨Value.ref (s.heap.objs.size + 1) :: us, []⟩ (Value.ref (s.heap.objs.size + 1) :: (us ++ ds)) _ _ E (hr.make C us [])
    (I2.env0.make C us []) (hb _ (Value.ref (s.heap.objs.size + 1) :: us) I2.kIn hl) r2 hq) fun r s' hq' => ?_))
  cases r with
  | error e => exact hx pins σ _ _ e s' I2 hq'
  | ok fl =>
    cases fl with
    | ret u =>
      obtain ⟨v, H', I3, rv, ev, q3⟩ := I2.after hq'
      subst ev
      exact ⟨rv, ⟨V.ref (s.heap.objs.size + 1), H', I3, rfl, q3⟩⟩
    | next => exact False.elim hq'
    | brk => exact False.elim hq'
    | cont => exact False.elim hq'
theorem pe_make (M : Mk X.K C f) (F : FnOk X.prog X.w X.K X.mg X.base CX k f fd ps sp) (hr : Room (k + 1) X.A) (hg : Gl X x) (hm : X.mg x = some (.ref C)) (hb : Binds X.K fd ps ds) (hd : Vals dvs ds) (hx : Passes CX X E)
    (ha : PA X (e :: es) t) (hdb : (x == ("__debug__" : Str)) = false := by decide) (he : starEach (e :: es) X.env = (false, eval e X.env) :: starEach es X.env := by rfl) (hpl : (backTo pos (starEach es X.env)).any (·.1) = false := by rfl) :
    PE X (.Call (.Name x p) (e :: es) [] pos) (tMake C sp dvs E t) := by
  intro pins s σ H Q I h
  refine wpAny_Call_Name_kw (ld_glob I hg hm ?_ hdb)
  refine PySem.W.callWith_K (h₀ := X.base) I.ok.mod.kin M.kp (thn (ha pos pins s σ H _ I h) fun us s1 ⟨vs, H1, I1, r, q⟩ => ⟨I1.kIn, ?_⟩) he hpl
  exact run_make M F hr hb hd hx I1 r q
theorem pe_make0 (M : Mk X.K C f) (F : FnOk X.prog X.w X.K X.mg X.base CX k f fd ps sp) (hr : Room (k + 1) X.A) (hg : Gl X x) (hm : X.mg x = some (.ref C)) (hb : Binds X.K fd ps ds) (hd : Vals dvs ds) (hx : Passes CX X E)
    (hdb : (x == ("__debug__" : Str)) = false := by decide) : PE X (.Call (.Name x p) [] [] pos) (tMake C sp dvs E tNil) := by
  intro pins s σ H Q I h
  refine wpAny_Call_Name_kw (ld_glob I hg hm ?_ hdb)
  exact PySem.W.callWith_K0 I.kIn M.kp (run_make (us := []) M F hr hb hd hx I .nil h)
end

/-! ### keywords -/
/-- the values of the keywords, from the left -/
def PK (X : Cx) (kws : List Keyword) (t : TA) : Prop :=
  ∀ (pos : Pos) (pins : List (Addr × Obj)) (s : Shared) (σ : St) (H : Hp) (Q : List V → Hp → Prop), Inv X pins σ H s → t σ H Q → wpAny (model X.prog X.w) X.A (evalAll ((backToKw pos (keywordEach kws X.env)).map (·.2))) (AP X pins σ Q) X.xe s
section
variable {X : Cx} {CX : CXT} {k : Nat} {f C : Addr} {fd : FuncData} {ps ks : List Str} {sp : Sp} {E : XK} {x m : Str} {p pos apos kpos : Pos} {e o : Expr} {es : List Expr} {kws : List Keyword} {te ta : TE} {t tk : TA} {nm : Option Str}
theorem pk_nil : PK X [] tNil := fun _ _ _ _ H Q I h => wpAny_evalAll_nil ⟨[], H, I, .nil, h⟩
theorem pk_cons (ha : PE X e te) (hr : PK X kws t) : PK X (⟨nm, e, kpos⟩ :: kws) (tCons te t) := by
  intro pos pins s σ H Q I h
  show wpAny _ _ (evalAll ((do let v ← eval e X.env; standAt pos; pure v) :: (backToKw pos (keywordEach kws X.env)).map (·.2))) _ _ s
  refine wpAny_evalAll_cons (wpAny_bind (thn (ha pins s σ H _ I h) fun u s1 ⟨x, H1, I1, r1, q1⟩ => wpAny_bind (wpAny_standAt (wpAny_pure ?_))))
  exact thn (hr pos pins s1 σ H1 _ I1 q1) fun us s2 ⟨xs, H2, I2, r2, q2⟩ => ⟨x :: xs, H2, I2, .cons r1 r2, q2⟩

/-- how a call with keywords binds: g puts the positional values us and the keywords' values ws (names ks) in the parameters' order, defaults among them -/
structure KBinds (K : PySem.W.Frag) (fd : FuncData) (ps ks : List Str) (g : List Value → List Value → List Value) (gV : List V → List V → List V) : Prop where
  to : ∀ (s : Shared) (us ws : List Value), K.In s.heap → (g us ws).length = ps.length → BindsTo s fd ⟨us, ks.zip ws⟩ (ps.zip (g us ws))
  rel : ∀ {vs : List V} {us : List Value} {zs : List V} {ws : List Value}, Vals vs us → Vals zs ws → Vals (gV vs zs) (g us ws)
def tCallK (sp : Sp) (gV : List V → List V → List V) (E : XK) (t tk : TA) : TE := fun σ H Q => t σ H fun vs H1 => tk σ H1 fun zs H2 => sp (gV vs zs) H2 Q E
variable {g : List Value → List Value → List Value} {gV : List V → List V → List V}
theorem run_fnk (F : FnOk X.prog X.w X.K X.mg X.base CX k f fd ps sp) (hr : Room k X.A) (hb : KBinds X.K fd ps ks g gV) (hx : Passes CX X E) (I : Inv X pins σ H s) (r : Vals vs us) (rz : Vals zs ws) (h : sp (gV vs zs) H Q E) : wpAny (model X.prog X.w) X.A (call (.ref f) us (ks.zip ws)) (EP X pins σ Q) X.xe s := by
  have r2 := hb.rel r rz
  have hl : (g us ws).length = ps.length := by rw [← r2.length]; exact F.len _ _ _ _ h
  refine wpAny_call (codeAny_mono (F.run X.A X.stack s H ⟨us, ks.zip ws⟩ (g us ws) (gV vs zs) Q E hr I.env0 (hb.to s us ws I.kIn hl) r2 h) fun r s' hq => ?_)
  cases r with
  | error e => exact hx pins σ H s e s' I hq
  | ok fl =>
    cases fl with
    | ret u => exact I.after hq
    | next => exact False.elim hq
    | brk => exact False.elim hq
    | cont => exact False.elim hq
/-- f(e, .., k = v, ..) -/
theorem pe_callK (F : FnOk X.prog X.w X.K X.mg X.base CX k f fd ps sp) (hr : Room k X.A) (hg : Gl X x) (hm : X.mg x = some (.ref f)) (hk : PySem.W.keepIn X.K (.ref f) = true) (hb : KBinds X.K fd ps ks g gV) (hx : Passes CX X E)
    (ha : PA X (e :: es) t) (hkw : PK X kws tk) (hall : (backToKw pos (keywordEach kws X.env)).all (·.1.isSome) = true := by rfl) (hks : (backToKw pos (keywordEach kws X.env)).filterMap (·.1) = ks := by rfl)
    (hdb : (x == ("__debug__" : Str)) = false := by decide) (he : starEach (e :: es) X.env = (false, eval e X.env) :: starEach es X.env := by rfl)
    (hpl : ((backTo pos (starEach (e :: es) X.env)).any (·.1) || (backToKw pos (keywordEach kws X.env)).any (·.1.isNone)) = false := by rfl) :
    PE X (.Call (.Name x p) (e :: es) kws pos) (tCallK sp gV E t tk) := by
  intro pins s σ H Q I h
  refine wpAny_Call_Name_kw (ld_glob I hg hm ?_ hdb)
  refine PySem.W.callWith_KW (h₀ := X.base) I.ok.mod.kin hk hall (thn (ha pos pins s σ H _ I h) fun us s1 ⟨vs, H1, I1, r, q⟩ => ?_) hpl he
  refine thn (hkw pos pins s1 σ H1 _ I1 q) fun ws s2 ⟨zs, H2, I2, rz, q2⟩ => ⟨I2.kIn, ?_⟩
  rw [hks]
  exact run_fnk F hr hb hx I2 r rz q2
end

/-! ### a def's body keeps its promise -/
/-- names: the parameters first -/
structure FnScope (N P : List Str) (sc : Scope) : Prop where
  kind : sc.kind = .function
  co : sc.isCoroutine = false
  gen : sc.isGenerator = false
  nd : N.Nodup
  pre : N.take P.length = P
  par : ∀ x ∈ P, sc.names.lookup x = some .local ∨ sc.names.lookup x = some .cell
  nofree : ∀ y ∈ sc.names, y.2 ≠ .free

theorem bindL_out {kindOf : Str → Option NameKind} {x : Str} : ∀ {binds : List (Str × Value)} {m : Str → Option Value}, (∀ v, (x, v) ∉ binds) → bindL kindOf binds m x = m x
  | [], _, _ => rfl
  | (n, v) :: r, m, h => by
    unfold bindL
    rw [bindL_out fun w hw => h w (List.mem_cons_of_mem _ hw)]
    split
    · have : x ≠ n := by rintro rfl; exact h v List.mem_cons_self
      simp [this]
    · rfl
theorem bindC_out {kindOf : Str → Option NameKind} {x : Str} : ∀ {binds : List (Str × Value)} {m : Str → Option Value}, (∀ v, (x, v) ∉ binds) → bindC kindOf binds m x = m x
  | [], _, _ => rfl
  | (n, v) :: r, m, h => by
    unfold bindC
    rw [bindC_out fun w hw => h w (List.mem_cons_of_mem _ hw)]
    split
    · rfl
    · have : x ≠ n := by rintro rfl; exact h v List.mem_cons_self
      simp [this]
theorem bindL_get {kindOf : Str → Option NameKind} {x : Str} {v : Value} : ∀ {P : List Str} {vs : List Value} {i : Nat} {m : Str → Option Value}, P.Nodup → P[i]? = some x → vs[i]? = some v → kindOf x = some .local →
    bindL kindOf (P.zip vs) m x = some v
  | [], _, _, _, _, h, _, _ => by simp at h
  | _ :: _, [], _, _, _, _, h, _ => by simp at h
  | p :: P, w :: vs, 0, m, nd, h1, h2, hk => by
    simp at h1 h2; subst h1; subst h2
    show bindL kindOf ((p, w) :: P.zip vs) m p = _
    unfold bindL
    rw [bindL_out fun v hv => (List.nodup_cons.mp nd).1 (List.of_mem_zip hv).1, if_pos hk]
    simp
  | p :: P, w :: vs, i + 1, m, nd, h1, h2, hk => by
    show bindL kindOf ((p, w) :: P.zip vs) m x = _
    unfold bindL
    exact bindL_get (i := i) (List.nodup_cons.mp nd).2 (by simpa using h1) (by simpa using h2) hk
theorem bindC_get {kindOf : Str → Option NameKind} {x : Str} {v : Value} : ∀ {P : List Str} {vs : List Value} {i : Nat} {m : Str → Option Value}, P.Nodup → P[i]? = some x → vs[i]? = some v → kindOf x ≠ some .local →
    bindC kindOf (P.zip vs) m x = some v
  | [], _, _, _, _, h, _, _ => by simp at h
  | _ :: _, [], _, _, _, _, h, _ => by simp at h
  | p :: P, w :: vs, 0, m, nd, h1, h2, hk => by
    simp at h1 h2; subst h1; subst h2
    show bindC kindOf ((p, w) :: P.zip vs) m p = _
    unfold bindC
    rw [bindC_out fun v hv => (List.nodup_cons.mp nd).1 (List.of_mem_zip hv).1, if_neg hk]
    simp
  | p :: P, w :: vs, i + 1, m, nd, h1, h2, hk => by
    show bindC kindOf ((p, w) :: P.zip vs) m x = _
    unfold bindC
    exact bindC_get (i := i) (List.nodup_cons.mp nd).2 (by simpa using h1) (by simpa using h2) hk

/-- the names' values at the entry -/
def start (N : List Str) (vs : List V) : St := vs.map some ++ List.replicate (N.length - vs.length) none

/-- the context of a def's body, at its entry; an exception leaves the frame, then lies as CX says -/
def cxOf (CX : CXT) (P : Program) (w : World) (K : PySem.W.Frag) (mg : Str → Option Value) (base : Heap) (N : List Str) (qual : Str) (scope : Scope) (f : Addr) (cd : Value) (A : Around) (outer : List Env) (s : Shared) (H : Hp) (E : XK) : Cx where
  prog := P
  w := w
  K := K
  mg := mg
  base := base
  A := A.deeper (envOfC qual scope s.heap.objs.size f cd)
  N := N
  s₀ := s
  H₀ := H
  env := envOfC qual scope s.heap.objs.size f cd
  outer := outer
  stack := envOfC qual scope s.heap.objs.size f cd :: outer
  ex := []
  calm := true
  fn := fun _ => true
  pn := []
  xe := fun e s' => wpAny (model P w) (A.deeper (envOfC qual scope s.heap.objs.size f cd)) (leaving (envOfC qual scope s.heap.objs.size f cd) e) (fun _ s'' => CX outer H s E e s'') (fun e' s'' => CX outer H s E e' s'') s'

theorem cell_has {sc : Scope} {n : Nat} {x : Str} (h : sc.names.lookup x = some .cell) : ∃ c, (cellsFrom n sc.names []).lookup x = some c := by
  have q := PySem.W.cellsFrom_some sc.names n [] (.inl h)
  exact Option.isSome_iff_exists.mp q

theorem inv_start {CX : CXT} {P : Program} {w : World} {K : PySem.W.Frag} {mg : Str → Option Value} {base : Heap} {N ps : List Str} {qual : Str} {scope : Scope} {f : Addr} {cd : Value} {A : Around} {outer : List Env} {s s1 : Shared} {H : Hp} {E : XK} {us : List Value} {vs : List V}
    (S : FnScope N ps scope) (hd : A.handled = none) (e0 : Env0 P w K mg base A outer s H) (hl : vs.length = ps.length) (r : Vals vs us)
    (x : InCallC s s.heap.objs.size (bindL (envOfC qual scope s.heap.objs.size f cd).kindOf (ps.zip us) fun _ => none) (cellsFrom (s.heap.objs.size + 1) scope.names []) (bindC (envOfC qual scope s.heap.objs.size f cd).kindOf (ps.zip us) fun _ => none) s1) :
    Inv (cxOf CX P w K mg base N qual scope f cd A outer s H E) [] (start N vs) H s1 := by
  have hpl : ps.length ≤ N.length := by have := congrArg List.length S.pre; rw [List.length_take] at this; lia
  obtain ⟨h1, tk, rfl, hk⟩ := x.done
  have noA : ∀ b : Addr, b ∉ (cxOf CX P w K mg base N qual scope f cd A outer s H E).ex := fun b z => absurd (show b ∈ ([] : List Addr) from z) (by simp)
  refine ⟨⟨e0.mod, S.kind, rfl, rfl, Nat.le_refl _, fun y z c h1 h2 => ?_, fun y hy => ?_, fun y c _ h => ?_, fun _ => hd, Around.frames_deeper e0.frames, .inr ⟨rfl, rfl⟩, fun b z => absurd z (noA b), e0.bs, e0.bsz, fun b _ _ => noA b, fun b z => absurd z (noA b), e0.funs, e0.frf⟩,
    rfl, e0.bare, Un.kept hk, ⟨_, x.toInCall.ns, fun i y v h1 h2 h3 => ?_⟩, fun y c h => ⟨_, x.cell y c h⟩, e0.hok.fresh (Nat.le_refl _), fun y c h => ?_, fun p hp => absurd (show p ∈ ([] : List (Addr × Obj)) from hp) (by simp), e0.hok.kept hk, ?_⟩
  · exact name_of_addr x.apart (PySem.mem_of_lookup h1) (PySem.mem_of_lookup h2)
  · have hy : scope.names.lookup y = some .cell ∨ scope.names.lookup y = some .free := hy
    rcases hy with hy | hy
    · exact cell_has hy
    · exact absurd rfl (S.nofree _ (PySem.mem_of_lookup hy))
  · exact Nat.le_of_lt (x.above y c (PySem.mem_of_lookup h))
  · have hi : i < vs.length := by
      unfold start at h2
      by_cases hi : i < vs.length
      · exact hi
      · rw [List.getElem?_append_right (by simpa using hi)] at h2
        rw [List.getElem?_replicate] at h2
        split at h2 <;> cases h2
    have ha : vs[i]? = some v := by
      unfold start at h2
      rw [List.getElem?_append_left (by simpa using hi), List.getElem?_map] at h2
      cases e : vs[i]? with
      | none => rw [e] at h2; cases h2
      | some a => rw [e] at h2; cases h2; rfl
    obtain ⟨u, hu, rv⟩ := r.get ha
    have hp : ps[i]? = some y := by
      rw [← S.pre, List.getElem?_take_of_lt (by lia)]; exact h1
    have ndP : ps.Nodup := by rw [← S.pre]; exact S.nd.sublist (List.take_sublist _ _)
    refine ⟨u, rv, ?_⟩
    rcases S.par y (List.mem_of_getElem? hp) with k | k
    · exact .inl ⟨k, bindL_get ndP hp hu k⟩
    · obtain ⟨c, e⟩ := cell_has (n := s.heap.objs.size + 1) k
      refine .inr ⟨.inl k, c, e, ?_⟩
      have q := x.cell y c e
      rw [bindC_get ndP hp hu (by show scope.names.lookup y ≠ _; rw [k]; decide)] at q
      exact q
  · exact e0.hok.fresh (Nat.le_of_lt (x.above y c (PySem.mem_of_lookup h)))
  · unfold start
    show _ = N.length
    rw [List.length_append, List.length_map, List.length_replicate]
    lia

/-- THE RULE: a def (or a method) of the text, by its body. The body's reading t is chosen for each entry; it is run at the parameters' values -/
theorem fn_of {CX : CXT} {P : Program} {w : World} {K : PySem.W.Frag} {mg : Str → Option Value} {base : Heap} {k : Nat} {f : Addr} {name qual : Str} {params : Arguments} {body : List Stmt} {scope : Scope} {dV kV doc pm cdv ct oc : Value} {an od : Option Addr}
    {osl : Array (Option Value)} {N ps : List Str} {sp : Sp} (lk : K.lookup f = some ⟨oc, od, .func (PySem.W.fnOf name qual params body scope dV kV doc pm an cdv ct), osl⟩) (hcd : PySem.W.codeIn K cdv qual = true) (S : FnScope N ps scope)
    (len : ∀ vs H Q E, sp vs H Q E → vs.length = ps.length)
    (hbody : ∀ (A : Around) (outer : List Env) (s : Shared) (H : Hp) (vs : List V) (Q : VK) (E : XK), Room k (A.deeper (envOfC qual scope s.heap.objs.size f cdv)) → sp vs H Q E →
      ∃ t, PSs (cxOf CX P w K mg base N qual scope f cdv A outer s H E) body t ∧ t { nx := fun _ H' => Q .non H', rt := Q } (start N vs) H) :
    FnOk P w K mg base CX (k + 1) f (PySem.W.fnOf name qual params body scope dV kV doc pm an cdv ct) ps sp := by
  refine ⟨len, fun A outer s H args us vs Q E hr e0 hb r hsp => ?_⟩
  have hl := len _ _ _ _ hsp
  have KX : K.In s.heap := e0.mod.kin.keeps fun b o e => (e0.bs b o e).1
  have lim : s.heap.NoLimit := e0.mod.nolimit.keeps fun b o e => (e0.bs b o e).1
  have hkind : ∀ y ∈ ps.zip us, scope.names.lookup y.1 = some .local ∨ (scope.names.lookup y.1 = some .cell ∧ ((cellsFrom (s.heap.objs.size + 1) scope.names []).lookup y.1).isSome = true) := fun ⟨n, v⟩ hy => by
    rcases S.par n (List.of_mem_zip hy).1 with q | q
    · exact .inl q
    · exact .inr ⟨q, PySem.W.cellsFrom_some _ _ _ (.inl q)⟩
  refine codeAny_call_function hr.depth (KX _ _ lk) rfl S.co S.gen rfl (PySem.W.codeRec_of KX hcd) (hb _ _ _ _ ?_)
  refine wpAny_newFunctionEnv_cells S.kind hkind fun env he s1 x => ?_
  subst he
  refine ⟨lim.keeps x.toInCall.keep, codeAny_func ?_⟩
  obtain ⟨t, ht, hq⟩ := hbody A outer s H vs Q E (hr.deeper _) hsp
  have I : Inv (cxOf CX P w K mg base N qual scope f cdv A outer s H E) [] (start N vs) H s1 := inv_start S hr.hd e0 hl r x
  refine wpAny_mono (ht [] s1 (start N vs) H _ I hq) (fun fl s' hs => ?_) fun e s' hs => hs
  have fin : ∀ {σ' : St} {H' : Hp} {v : V} {u : Value}, Inv (cxOf CX P w K mg base N qual scope f cdv A outer s H E) [] σ' H' s' → RelV v u → Q v H' → CE outer P w H s Q u s' :=
    fun {σ' H' v u} J rv q => ⟨v, H', J.os, J.bare, J.base, J.hok, rv, q⟩
  cases fl with
  | ret u =>
    obtain ⟨v, σ', H', J, rv, q⟩ := hs
    exact fin J rv q
  | next =>
    obtain ⟨σ', H', J, q⟩ := hs
    exact fin (v := V.non) (u := Value.none) J rfl q
  | brk =>
    obtain ⟨_, _, _, q⟩ := hs
    exact False.elim q
  | cont =>
    obtain ⟨_, _, _, q⟩ := hs
    exact False.elim q
end L2

namespace L2
open PySem PySem.Spec PyProof.Rows
section
variable {X : Cx} {x : Str} {p pos : Pos} {e : Expr} {es : List Expr} {t : TA} {id T : String} {r : List V → Hp → VK → Prop}

def tCB (r : List V → Hp → VK → Prop) (t : TA) : TE := fun σ H Q => t σ H fun vs H1 => r vs H1 Q
/-- f(e, ..), f a built-in function -/
theorem pe_callB (hc : CallR X (.builtin id) r) (hg : Gl X x) (hm : X.mg x = none) (hv : bootBuiltins x = some (.builtin id)) (ha : PA X (e :: es) t) (hn : x ≠ "__name__" := by decide) (hdb : (x == ("__debug__" : Str)) = false := by decide)
    (he : starEach (e :: es) X.env = (false, eval e X.env) :: starEach es X.env := by rfl) (hpl : (backTo pos (starEach es X.env)).any (·.1) = false := by rfl) : PE X (.Call (.Name x p) (e :: es) [] pos) (tCB r t) := by
  intro pins s σ H Q I h
  refine wpAny_Call_Name_kw (ld_blt I hg hm hv ?_ hn hdb)
  exact PyProof.Rows.callWith_builtin1 (thn (ha pos pins s σ H _ I h) fun us s1 ⟨vs, H1, I1, r1, q1⟩ => hc pins s1 σ H1 vs us Q I1 r1 q1) he hpl
/-- T(e, ..), T a built-in type -/
theorem pe_callTy (hc : CallR X (.type T) r) (hg : Gl X x) (hm : X.mg x = none) (hv : bootBuiltins x = some (.type T)) (ha : PA X (e :: es) t) (hn : x ≠ "__name__" := by decide) (hdb : (x == ("__debug__" : Str)) = false := by decide)
    (he : starEach (e :: es) X.env = (false, eval e X.env) :: starEach es X.env := by rfl) (hpl : (backTo pos (starEach es X.env)).any (·.1) = false := by rfl) : PE X (.Call (.Name x p) (e :: es) [] pos) (tCB r t) := by
  intro pins s σ H Q I h
  refine wpAny_Call_Name_kw (ld_blt I hg hm hv ?_ hn hdb)
  exact PyProof.Rows.callWith_type1 (thn (ha pos pins s σ H _ I h) fun us s1 ⟨vs, H1, I1, r1, q1⟩ => hc pins s1 σ H1 vs us Q I1 r1 q1) he hpl
/-- T() -/
theorem pe_callTy0 (hc : CallR X (.type T) r) (hg : Gl X x) (hm : X.mg x = none) (hv : bootBuiltins x = some (.type T)) (hn : x ≠ "__name__" := by decide) (hdb : (x == ("__debug__" : Str)) = false := by decide) :
    PE X (.Call (.Name x p) [] [] pos) (tCB r tNil) := by
  intro pins s σ H Q I h
  refine wpAny_Call_Name_kw (ld_blt I hg hm hv ?_ hn hdb)
  exact PyProof.Rows.callWith_type0 (hc pins s σ H [] [] Q I .nil h)
end
end L2

namespace HT
open PySem PyProof.Rows

/-- t < u of tuples of ints -/
def lexLt : List Int → List Int → Bool
  | [], [] => false
  | [], _ :: _ => true
  | _ :: _, [] => false
  | x :: xs, y :: ys => if x = y then lexLt xs ys else decide (x < y)
theorem lexLt_cons (x y : Int) (xs ys : List Int) : lexLt (x :: xs) (y :: ys) = if x = y then lexLt xs ys else decide (x < y) := rfl
theorem lexLt_nil_nil : lexLt [] [] = false := rfl
theorem lexLt_nil_cons (y : Int) (ys : List Int) : lexLt [] (y :: ys) = true := rfl
theorem lexLt_cons_nil (x : Int) (xs : List Int) : lexLt (x :: xs) [] = false := rfl

theorem eqAt_int (A : Around) (s : Shared) (a : Int) (t : Tok) (c : Int) (u : Tok) : ∃ e, SeqAt.EqAt A s (.int a t) (.int c u) e ∧ (e = true ↔ a = c) :=
  ⟨(a == c), SeqAt.EqAt.int_int a t c u, by simp⟩
theorem rcLt_int (A : Around) (s : Shared) (a : Int) (t : Tok) (c : Int) (u : Tok) (prog : Program) (w : World) (E : Value → Shared → Prop) (Q : Value → Shared → Prop) (h : Q (.bool (decide (a < c))) s) :
    wpAny (model prog w) A (richCompare .Lt (.int a t) (.int c u)) Q E s :=
  (PyProof.Rows.lt_int h : wpAny (model prog w) A (compareOp .Lt (.int a t) (.int c u)) Q E s)

section
open PySem.SeqAt
open PySem.AutoSeq1 (wpAny_loadPart')
open PySem.MeetsSeq PySem.MeetsSeq2 PySem.MeetsSeq3

theorem tuple_lt_ints (l b : Addr) (items items2 : Array Value) (n n2 : Nat) (dd dd2 : Option Addr) (sl sl2 : Array (Option Value)) (ns ms : List Int) (hi : IntsAre items.toList ns) (hj : IntsAre items2.toList ms) :
    Meets (Builtin.«tuple.__lt__» ⟨[.ref l, .ref b], []⟩)
      (fun _ R s => s.heap.get? l = some { cls := .type "tuple", dict := dd, data := .seq items n, slots := sl } ∧ s.heap.get? b = some { cls := .type "tuple", dict := dd2, data := .seq items2 n2, slots := sl2 } ∧
        R (.ok (.ret (.bool (lexLt ns ms)))) s) :=
  .of_wp fun prog w A R s h => by
    obtain ⟨hp, g, d, tk, os⟩ := s; obtain ⟨hl, hb, h⟩ := h
    have f2 := AutoSeq1.sub_tuple_tuple
    have z1 : items.size = ns.length := by rw [← hi.length]; simp
    have z2 : items2.size = ms.length := by rw [← hj.length]; simp
    wp_walk using wpAny_loadPart' hl, wpAny_loadPart' hb, wpAny_forIn_list _ (fun rest b s' => b.1 = none ∧ s' = ⟨hp, g, d, tk, os⟩ ∧ ∃ (vs ws : List Value) (ns' ms' : List Int), rest = vs.zip ws ∧
      IntsAre vs ns' ∧ IntsAre ws ms' ∧ ns'.length + items2.size = ms'.length + items.size ∧ R (.ok (.ret (.bool (lexLt ns' ms')))) ⟨hp, g, d, tk, os⟩) _
    case turn =>
      rintro ⟨y, x⟩ rest b s' ⟨hb', rfl, vs, ws, ns', ms', hz, hvi, hwi, hlen, hR⟩
      cases hvi with
      | nil => rw [List.zip_nil_left] at hz; cases hz
      | cons a t hvi' =>
        cases hwi with
        | nil => rw [List.zip_nil_right] at hz; cases hz
        | cons c u hwi' =>
          rw [List.zip_cons_cons] at hz
          injection hz with hyx hrest
          injection hyx with hy hx
          subst hy hx
          rw [lexLt_cons] at hR
          simp only [List.length_cons] at hlen
          obtain ⟨e, he, hiff⟩ := eqAt_int A.in1 ⟨hp, g, d, tk, os⟩ a t c u
          refine wpAny_bind (he prog w _ _ ?_)
          cases e with
          | true =>
            rw [if_pos (hiff.mp rfl)] at hR
            wp_walk
            exact ⟨rfl, rfl, _, _, _, _, hrest, hvi', hwi', by lia, hR⟩
          | false =>
            rw [if_neg (fun q => absurd (hiff.mpr q) Bool.false_ne_true)] at hR
            have hri := rcLt_int A.in1 ⟨hp, g, d, tk, os⟩ a t c u prog w
            wp_walk using hri
            exact ⟨_, rfl, by simpa using hR⟩
    case fin =>
      rintro ⟨b1, b2⟩ s' ⟨hb', rfl, vs, ws, ns', ms', hz, hvi, hwi, hlen, hR⟩
      simp only at hb'
      subst hb'
      have hv : lexLt ns' ms' = decide (items.size < items2.size) := by
        cases hvi with
        | nil =>
          cases hwi with
          | nil =>
            simp only [List.length_nil] at hlen
            rw [lexLt_nil_nil]
            exact (decide_eq_false (by lia)).symm
          | cons c u hw =>
            simp only [List.length_nil, List.length_cons] at hlen
            rw [lexLt_nil_cons]
            exact (decide_eq_true (by lia)).symm
        | cons a t hv =>
          cases hwi with
          | nil =>
            simp only [List.length_nil, List.length_cons] at hlen
            rw [lexLt_cons_nil]
            exact (decide_eq_false (by lia)).symm
          | cons c u hw =>
            rw [List.zip_cons_cons] at hz
            cases hz
      rw [hv] at hR
      wp_walk
      exact ⟨_, rfl, by simpa [Builtin.Tuple.tupleCompareSizes] using hR⟩
    case h =>
      exact ⟨rfl, rfl, items.toList, items2.toList, ns, ms, rfl, hi, hj, by lia, h⟩
end

section
variable {prog : Program} {w : World} {A : Around} {E : Value → Shared → Prop} {s : Shared}

theorem lt_tupInts {Q : Value → Shared → Prop} (hl : IsTup s.heap l items) (hb : IsTup s.heap b items2) (hi : IntsAre items.toList ns) (hj : IntsAre items2.toList ms) (hu : A.units < cLine) (h : Q (.bool (lexLt ns ms)) s) : wpAny (model prog w) A (compareOp .Lt (.ref l) (.ref b)) Q E s := by
  obtain ⟨⟨cls, dd, data, sl⟩, ho, hc, n, hd⟩ := id hl
  obtain ⟨⟨cls2, dd2, data2, sl2⟩, ho2, hc2, n2, hd2⟩ := id hb
  simp only at hc hd hc2 hd2
  subst hc hd hc2 hd2
  exact richCompare_meets_room (op := .Lt) ⟨_, ho, rfl⟩ ⟨_, ho2, rfl⟩ PySem.F.slot_tuple_lt PySem.F.entry_tuple_lt (PySem.F.args_tuple_lt_2 _ _) (tuple_lt_ints l b items items2 n n2 dd dd2 sl sl2 ns ms hi hj)
    ⟨ho, ho2, show Value.bool (lexLt ns ms) ≠ Value.notImplemented ∧ Q (.bool (lexLt ns ms)) s from ⟨(fun x => nomatch x), h⟩⟩ hu

/-- t + u, t not empty -/
theorem cat_tup {Q : Value → Shared → Prop} (ht : IsTup s.heap t vs.toArray) (hb : IsTup s.heap b ws.toArray) (hv : vs ≠ []) (h1 : ws = [] → Q (.ref t) s) (h2 : ws ≠ [] → Q (.ref s.heap.objs.size) { s with heap := s.heap.push { cls := .type "tuple", data := .seq (vs ++ ws).toArray } }) (hsz : vs.length + ws.length ≤ sizeLine) : wpAny (model prog w) A (binaryOp .Add (.ref t) (.ref b)) Q E s := by
  obtain ⟨⟨cls, dd, data, sl⟩, ho, hc, n, hd⟩ := id ht
  obtain ⟨⟨cls2, dd2, data2, sl2⟩, ho2, hc2, n2, hd2⟩ := id hb
  simp only at hc hd hc2 hd2
  subst hc hd hc2 hd2
  have e : vs.toArray ++ ws.toArray = (vs ++ ws).toArray := by simp
  by_cases hw : ws = []
  · exact concat_meets ⟨_, ho, rfl⟩ ⟨_, ho2, rfl⟩ noFill_tuple_add seq_tuple_add PySem.F.slot_tuple_add PySem.F.entry_tuple_add (PySem.F.args_tuple_add_2 _ _)
      (tuple_addW1 t b vs.toArray ws.toArray n n2 dd dd2 sl sl2 (by simpa using hv) (by simp [hw])) ⟨ho, ho2, h1 hw⟩
  · refine concat_meets ⟨_, ho, rfl⟩ ⟨_, ho2, rfl⟩ noFill_tuple_add seq_tuple_add PySem.F.slot_tuple_add PySem.F.entry_tuple_add (PySem.F.args_tuple_add_2 _ _)
      (tuple_addW2 t b vs.toArray ws.toArray n n2 dd dd2 sl sl2 (by simpa using hv) (by simpa using hw) (by rw [List.size_toArray, List.size_toArray]; exact hsz)) ⟨ho, ho2, ?_⟩
    rw [e]
    exact h2 hw

/-! ### t[a:b], not the whole -/
/-- a slice's bound as a place among n (d where it is left out) -/
def sIx (n d : Nat) : Option Int → Nat
  | none => d
  | some v => if v < 0 then (v + (n : Int)).toNat else min v.toNat n
theorem sIx_none (n d : Nat) : sIx n d none = d := rfl
theorem sIx_nat (n d k : Nat) : sIx n d (some (k : Int)) = min k n := by
  show (if (k : Int) < 0 then ((k : Int) + (n : Int)).toNat else min (k : Int).toNat n) = min k n
  rw [if_neg (by lia), Int.toNat_natCast]
theorem sIx_le (n d : Nat) (hd : d ≤ n) (o : Option Int) : sIx n d o ≤ n := by
  cases o with
  | none => exact hd
  | some v =>
    show (if v < 0 then (v + (n : Int)).toNat else min v.toNat n) ≤ n
    by_cases hv : v < 0
    · rw [if_pos hv]; lia
    · rw [if_neg hv]; exact Nat.min_le_right _ _
theorem clip_eq (v : Int) (n d : Nat) : (if v < 0 then max (v + (n : Int)) 0 else min v (n : Int)) = ((sIx n d (some v) : Nat) : Int) := by
  show (if v < 0 then max (v + (n : Int)) 0 else min v (n : Int)) = (((if v < 0 then (v + (n : Int)).toNat else min v.toNat n) : Nat) : Int)
  by_cases hv : v < 0
  · simp only [if_pos hv]; lia
  · simp only [if_neg hv]; lia
theorem adjust_gen (lo hi : Option Int) (n : Nat) : Builtin.Slice.sliceAdjust lo hi 1 (n : Int) = (((sIx n 0 lo : Nat) : Int), ((sIx n n hi : Nat) : Int)) := by
  have h1 : ¬ ((1 : Int) < 0) := by lia
  unfold Builtin.Slice.sliceAdjust
  simp only [h1, if_false]
  refine Prod.ext ?_ ?_
  · cases lo with
    | none => rfl
    | some v => exact clip_eq v n 0
  · cases hi with
    | none => rfl
    | some v => exact clip_eq v n n
theorem places_gen (i j : Nat) : Builtin.Slice.slicePlaces (i : Int) (j : Int) 1 = j - i := by
  unfold Builtin.Slice.slicePlaces
  have h1 : (1 : Int) > 0 := by lia
  simp only [h1, if_true, Int.ediv_one]
  split <;> lia
theorem slicePart_ {Q : Option Int → Shared → Prop} (p : IsPart v o) (h : Q o s) : wpAny (model prog w) A (Builtin.Slice.slicePartIndex v) Q E s := by
  cases p with
  | none => exact slicePart_none h
  | int i t => exact slicePart_int h
theorem sliceApplied_gen {sl : Addr} {vl vu : Value} {lo hi : Option Int} {n : Nat} {Q : Int × Int × Nat → Shared → Prop} (hs : s.heap.IsSliceOf sl vl vu .none) (pl : IsPart vl lo) (pu : IsPart vu hi)
    (h : Q (((sIx n 0 lo : Nat) : Int), 1, sIx n n hi - sIx n 0 lo) s) : wpAny (model prog w) A (Builtin.Slice.sliceApplied (.ref sl) (pure (n : Int))) Q E s := by
  obtain ⟨os, hos, hcs, hds⟩ := id hs
  unfold Builtin.Slice.sliceApplied Builtin.Slice.sliceFields
  refine wpAny_bind (wpAny_bind (wpAny_field hos hds (x := vl) rfl (wpAny_bind (wpAny_field hos hds (x := vu) rfl (wpAny_bind (wpAny_field hos hds (x := .none) rfl (wpAny_pure ?_)))))))
  refine wpAny_bind (slicePart_none ?_)
  show wpAny _ _ (if ((1 : Int) == 0) = true then _ else _) _ _ s
  rw [if_neg (by decide)]
  refine wpAny_bind (slicePart_ pl (wpAny_bind (slicePart_ pu (wpAny_bind (wpAny_pure ?_)))))
  show wpAny _ _ (match Builtin.Slice.sliceAdjust lo hi 1 (n : Int) with | (lo, hi) => pure (lo, (1 : Int), Builtin.Slice.slicePlaces lo hi 1)) _ _ s
  rw [adjust_gen lo hi n]
  show wpAny _ _ (pure (((sIx n 0 lo : Nat) : Int), (1 : Int), Builtin.Slice.slicePlaces ((sIx n 0 lo : Nat) : Int) ((sIx n n hi : Nat) : Int) 1)) _ _ s
  rw [places_gen]
  exact wpAny_pure h
theorem pick_gen (xs : Array Value) (i k : Nat) : ((List.range k).filterMap fun (m : Nat) => xs[((i : Int) + (m : Int) * 1).toNat]?).toArray = ((xs.toList.drop i).take k).toArray := by
  have e : (fun (m : Nat) => xs[((i : Int) + (m : Int) * 1).toNat]?) = fun m => xs[i + m]? := by
    funext m
    have : ((i : Int) + (m : Int) * 1).toNat = i + m := by lia
    rw [this]
  rw [e]
  have := pick_run xs i k
  rw [List.filterMap_map] at this
  have e2 : ((fun x => xs[x]?) ∘ fun x => i + x) = fun m => xs[i + m]? := rfl
  rw [e2] at this
  rw [this]

theorem getItem_tuple_cut {t sl : Addr} {items : Array Value} {vl vu : Value} {lo hi : Option Int} {Q : Value → Shared → Prop} (ht : IsTup s.heap t items) (hs : s.heap.IsSliceOf sl vl vu .none) (pl : IsPart vl lo) (pu : IsPart vu hi)
    (hw : ¬ (sIx items.size 0 lo = 0 ∧ sIx items.size items.size hi = items.size))
    (h : Q (.ref s.heap.objs.size) { s with heap := s.heap.push { cls := .type "tuple", data := .seq ((items.toList.drop (sIx items.size 0 lo)).take (sIx items.size items.size hi - sIx items.size 0 lo)).toArray } })
    (hsz : items.size ≤ sizeLine) : wpAny (model prog w) A (getItem (.ref t) (.ref sl)) Q E s := by
  have htake : sizeOk (.seq ((items.toList.drop (sIx items.size 0 lo)).take (sIx items.size items.size hi - sIx items.size 0 lo)).toArray) := by
    show ((items.toList.drop (sIx items.size 0 lo)).take (sIx items.size items.size hi - sIx items.size 0 lo)).toArray.size ≤ sizeLine
    rw [List.size_toArray, List.length_take, List.length_drop, Array.length_toList]
    lia
  have hj : sIx items.size items.size hi ≤ items.size := sIx_le _ _ (Nat.le_refl _) hi
  obtain ⟨os, hos, hcs, hds⟩ := id hs
  have hTs : s.TypeIs (.ref sl) "slice" := ⟨os, hos, hcs⟩
  unfold getItem
  try with_reducible refine wpAny_holding ?_
  first | refine wpAny_bind (wpAny_pure ?_) | skip
  refine wpAny_bind (wpAny_sequenceKey ht.typeIs (by decide) ?_)
  refine wpAny_bind (wpAny_callSpecial?_slot (name := Str.ofString "__getitem__") ht.typeIs PyProof.Rows.slot_tuple_getitem
    (wpAny_call_entry PyProof.Rows.slot_tuple_getitem ht.typeIs entry_tuple_getitem ?_ (args_tuple_getitem _ _)))
  show wpAny _ _ (Builtin.Tuple.tupleItemsOf (.ref t) >>= _) _ _ s
  refine wpAny_bind (tupleItemsOf_ ht ?_)
  refine wpAny_bind (wpAny_typeOf hTs ?_)
  rw [if_pos (by decide)]
  refine wpAny_bind (sliceApplied_gen hs pl pu ?_)
  have hno : ¬ ((((sIx items.size 0 lo : Nat) : Int) == 0 && (1 : Int) == 1 && (sIx items.size items.size hi - sIx items.size 0 lo) == items.size) = true) := by
    intro q
    rw [Bool.and_eq_true, Bool.and_eq_true] at q
    have q1 : ((sIx items.size 0 lo : Nat) : Int) = 0 := eq_of_beq q.1.1
    have q2 : sIx items.size items.size hi - sIx items.size 0 lo = items.size := eq_of_beq q.2
    exact hw ⟨by lia, by lia⟩
  show wpAny _ _ (if (((sIx items.size 0 lo : Nat) : Int) == 0 && (1 : Int) == 1 && (sIx items.size items.size hi - sIx items.size 0 lo) == items.size) = true then _ else _) _ _ s
  rw [if_neg hno, pick_gen]
  first
    | exact wpAny_bind (m := Builtin.Tuple.tupleExact _) (wpAny_newObj_type (wpAny_pure ⟨_, rfl, wpAny_pure h⟩) htake)
    | exact wpAny_bind (m := Builtin.Tuple.tupleExact _) (wpAny_newObj_type (wpAny_bind (wpAny_pure (wpAny_pure ⟨_, rfl, wpAny_pure h⟩))) htake)
    | exact wpAny_bind (wpAny_bind (m := Builtin.Tuple.tupleExact _) (wpAny_newObj_type (wpAny_pure (wpAny_pure ⟨_, rfl, wpAny_pure h⟩)) htake))
    | exact wpAny_bind (wpAny_bind (m := Builtin.Tuple.tupleExact _) (wpAny_newObj_type (wpAny_pure ⟨_, rfl, wpAny_pure h⟩) htake))
end
end HT

namespace L2
open PySem PySem.Spec PyProof.Rows

/-! ### the parts of a slice -/
abbrev TO := St → Hp → (Option Int → Hp → Prop) → Prop
/-- a slice's part (left out, or an int) -/
def PO (X : Cx) (e : Option Expr) (t : TO) : Prop :=
  ∀ (pins : List (Addr × Obj)) (s : Shared) (σ : St) (H : Hp) (Q : Option Int → Hp → Prop), Inv X pins σ H s → t σ H Q →
    wpAny (model X.prog X.w) X.A (evalPart e X.env) (fun u s' => ∃ o H', Inv X pins σ H' s' ∧ IsPart u o ∧ Q o H') X.xe s
def tNoPart : TO := fun _ H Q => Q none H
def tPart (t : TE) : TO := fun σ H Q => t σ H fun x H1 => ∃ i, x = .int i ∧ Q (some i) H1

theorem intsAre_of : ∀ {us : List Value}, Vals (ns.map V.int) us → IntsAre us ns := by
  induction ns with
  | nil => intro us r; rw [List.map_nil] at r; cases r; exact .nil
  | cons n ns ih =>
    intro us r
    rw [List.map_cons] at r
    cases r with
    | cons r1 r2 =>
      obtain ⟨t, e⟩ := r1
      subst e
      exact .cons n t (ih r2)

section
variable {X : Cx} {e : Expr} {te : TE} {lo hi : Option Expr} {tl th : TO} {pos p2 : Pos}

theorem po_none : PO X none tNoPart := by
  intro pins s σ H Q I h
  rw [evalPart_none]
  exact wpAny_pure ⟨none, H, I, .none, h⟩
theorem po_some (h : PE X e te) : PO X (some e) (tPart te) := by
  intro pins s σ H Q I hw
  rw [evalPart_some]
  refine thn (h pins s σ H _ I hw) fun u s1 ⟨x, H1, I1, r1, q1⟩ => ?_
  obtain ⟨i, rfl, q⟩ := q1
  obtain ⟨t, rfl⟩ := r1
  exact ⟨some i, H1, I1, .int i t, q⟩

/-- what a slice of a value is, by values: the slice object stands at sl -/
def SlR (X : Cx) (r : V → Option Int → Option Int → Hp → VK → Prop) : Prop :=
  ∀ (pins : List (Addr × Obj)) (s : Shared) (σ : St) (H : Hp) (x : V) (v vl vu : Value) (lo hi : Option Int) (sl : Addr) (Q : VK), Inv X pins σ H s → RelV x v → s.heap.IsSliceOf sl vl vu .none → IsPart vl lo → IsPart vu hi → r x lo hi H Q →
    ∃ T id, typeLookup (.type T) "__getitem__" = pure (some (.builtin id)) ∧ s.TypeIs v T ∧ wpAny (model X.prog X.w) X.A (getItem v (.ref sl)) (EP X pins σ Q) X.xe s
theorem SlR.or {r r' : V → Option Int → Option Int → Hp → VK → Prop} (h : SlR X r) (h' : SlR X r') : SlR X (fun x lo hi H Q => r x lo hi H Q ∨ r' x lo hi H Q) := by
  intro pins s σ H x v vl vu lo hi sl Q I rx hs pl pu q
  rcases q with q | q
  · exact h pins s σ H x v vl vu lo hi sl Q I rx hs pl pu q
  · exact h' pins s σ H x v vl vu lo hi sl Q I rx hs pl pu q
def tSl (r : V → Option Int → Option Int → Hp → VK → Prop) (te : TE) (tl th : TO) : TE := fun σ H Q => te σ H fun x H1 => tl σ H1 fun l H2 => th σ H2 fun u H3 => r x l u H3 Q
/-- a[lo:hi], any a -/
theorem pe_slice {r : V → Option Int → Option Int → Hp → VK → Prop} (hr : SlR X r) (he : PE X e te) (hl : PO X lo tl) (hu : PO X hi th) : PE X (.Subscript e (.Slice lo hi none p2) pos) (tSl r te tl th) := by
  intro pins s σ H Q I h
  refine Subscript_ (thn (he pins s σ H _ I h) fun v s1 ⟨x, H1, I1, r1, q1⟩ => ?_)
  refine wpAny_Slice (thn (hl pins s1 σ H1 _ I1 q1) fun vl s2 ⟨l, H2, I2, pl, q2⟩ => thn (hu pins s2 σ H2 _ I2 q2) fun vu s3 ⟨u, H3, I3, pu, q3⟩ => ?_)
  rw [evalPart_none]
  refine wpAny_pure ?_
  have I4 : Inv X pins σ H3 { s3 with heap := s3.heap.push { cls := .type "slice", data := .fields #[vl, vu, .none] } } := I3.kept (t' := s3.toks) fun b ob q => Heap.get?_push_of_some _ q
  obtain ⟨T, id, hT, ht, hg⟩ := hr pins { s3 with heap := s3.heap.push { cls := .type "slice", data := .fields #[vl, vu, .none] } } σ H3 x v vl vu l u s3.heap.objs.size Q I4 r1 (Heap.IsSliceOf.new ..) pl pu q3
  show wpAny (model X.prog X.w) X.A (subscriptTail e (.Slice lo hi none p2) v (.ref s3.heap.objs.size)) (EP X pins σ Q) X.xe { s3 with heap := s3.heap.push { cls := .type "slice", data := .fields #[vl, vu, .none] } }
  exact tail_any (ops := [.ref s3.heap.objs.size, v]) ht hT hg (by with_unfolding_all rfl)

/-- the items of xs[lo:hi] -/
def cutV (xs : List V) (lo hi : Option Int) : List V := (xs.drop (HT.sIx xs.length 0 lo)).take (HT.sIx xs.length xs.length hi - HT.sIx xs.length 0 lo)
theorem cutV_length (xs : List V) (lo hi : Option Int) : (cutV xs lo hi).length ≤ xs.length := by
  unfold cutV
  rw [List.length_take, List.length_drop]
  lia
/-- t[lo:hi], not the whole of it (the whole would be t itself) -/
def rSlT (K : PySem.W.Frag) : V → Option Int → Option Int → Hp → VK → Prop := fun x lo hi H Q => ∃ a xs, x = .ref a ∧ SqT K H a xs ∧
  ¬ (HT.sIx xs.length 0 lo = 0 ∧ HT.sIx xs.length xs.length hi = xs.length) ∧ ∀ p, H p = none → Q (.ref p) (upd H p (.tup (cutV xs lo hi)))
theorem sl_tup : SlR X (rSlT X.K) := by
  intro pins s σ H x v vl vu lo hi sl Q I rx hs pl pu h
  obtain ⟨a, xs, rfl, hx, hw, q⟩ := h
  cases rx
  obtain ⟨its, r, ht, hz⟩ := I.tuple hx
  have hlen : its.toArray.size = xs.length := by rw [List.size_toArray]; exact r.length.symm
  refine ⟨"tuple", _, PyProof.Rows.slot_tuple_getitem.lookup, ht.typeIs, ?_⟩
  refine HT.getItem_tuple_cut ht hs pl pu (by rw [hlen]; exact hw) ?_ (by rw [hlen]; exact hz)
  rw [hlen]
  refine ⟨.ref s.heap.objs.size, _, I.laid (t' := s.toks) (o := .tup (cutV xs lo hi)) (fun b ob q => Heap.get?_push_of_some _ q) (Nat.le_refl _) ?_, rfl, q _ (I.hok.fresh (Nat.le_refl _))⟩
  exact ⟨Nat.le_trans (cutV_length xs lo hi) hz, _, (r.drop (HT.sIx xs.length 0 lo)).take (HT.sIx xs.length xs.length hi - HT.sIx xs.length 0 lo), IsTup.new _ _⟩

/-! ### t < u, t + u -/
def rLtT (K : PySem.W.Frag) : R2 := fun x y H Q => ∃ a b ns ms, x = .ref a ∧ y = .ref b ∧ SqT K H a (ns.map V.int) ∧ SqT K H b (ms.map V.int) ∧ Q (.bl (HT.lexLt ns ms)) H
theorem op_ltT (hu : X.A.units < cLine) : OpR X (compareOp .Lt) (rLtT X.K) := by
  intro pins s σ H x y v u Q I rx ry h
  obtain ⟨a, b, ns, ms, rfl, rfl, ha, hb, q⟩ := h
  cases rx
  cases ry
  obtain ⟨its, r1, p1, _⟩ := I.tuple ha
  obtain ⟨its2, r2, p2, _⟩ := I.tuple hb
  have i1 : IntsAre its.toArray.toList ns := intsAre_of r1
  have i2 : IntsAre its2.toArray.toList ms := intsAre_of r2
  exact HT.lt_tupInts p1 p2 i1 i2 hu ⟨.bl (HT.lexLt ns ms), H, I, rfl, q⟩
/-- t + u, t not empty: u empty gives t itself -/
def rCatT (K : PySem.W.Frag) : R2 := fun x y H Q => ∃ a b xs ys, x = .ref a ∧ y = .ref b ∧ SqT K H a xs ∧ SqT K H b ys ∧ xs ≠ [] ∧ xs.length + ys.length ≤ sizeLine ∧
  (ys = [] → Q (.ref a) H) ∧ (ys ≠ [] → ∀ p, H p = none → Q (.ref p) (upd H p (.tup (xs ++ ys))))
theorem Vals.nil_iff (r : Vals xs us) : us = [] ↔ xs = [] := by
  cases r with
  | nil => simp
  | cons _ _ => simp
theorem op_catT : OpR X (binaryOp .Add) (rCatT X.K) := by
  intro pins s σ H x y v u Q I rx ry h
  obtain ⟨a, b, xs, ys, rfl, rfl, ha, hb, hx, hz, q1, q2⟩ := h
  cases rx
  cases ry
  obtain ⟨its, r1, p1, _⟩ := I.tuple ha
  obtain ⟨its2, r2, p2, _⟩ := I.tuple hb
  refine HT.cat_tup p1 p2 (fun z => hx (r1.nil_iff.mp z)) (fun z => ⟨.ref a, H, I, rfl, q1 (r2.nil_iff.mp z)⟩) (fun z => ?_) (by rw [← r1.length, ← r2.length]; exact hz)
  refine ⟨.ref s.heap.objs.size, _, I.laid (t' := s.toks) (o := .tup (xs ++ ys)) (fun b ob q => Heap.get?_push_of_some _ q) (Nat.le_refl _) ?_, rfl, q2 (fun w => z (r2.nil_iff.mpr w)) _ (I.hok.fresh (Nat.le_refl _))⟩
  exact ⟨by rw [List.length_append]; exact hz, _, r1.append r2, IsTup.new _ _⟩
/-- tuple(t) -/
theorem call_tupleT : CallR X (.type "tuple") (fun xs H Q => ∃ a ys, xs = [.ref a] ∧ SqT X.K H a ys ∧ Q (.ref a) H) := by
  intro pins s σ H xs us Q I r h
  obtain ⟨a, ys, rfl, ha, q⟩ := h
  obtain ⟨u, rfl, ru⟩ := vals1 r
  cases ru
  obtain ⟨its, _, p1, _⟩ := I.tuple ha
  exact call_tuple_same (items := its.toArray) p1 ⟨.ref a, H, I, rfl, q⟩
end
end L2

namespace L2
open PySem PySem.Spec PyProof.Rows

/-! ### places -/
/-- the place that an index of any sign means -/
def ixN (n : Nat) (i : Int) : Option Nat := if 0 ≤ i then (if i < n then some i.toNat else none) else if -(n : Int) ≤ i then some (i + n).toNat else none
def atI {α : Type} (xs : List α) (i : Int) : Option α := (ixN xs.length i).bind fun j => xs[j]?
theorem ixN_seq (h : ixN n i = some j) : seqIndex? i n = some j ∧ j < n ∧ -(n : Int) ≤ i ∧ i < n := by
  unfold ixN at h
  by_cases h0 : 0 ≤ i
  · rw [if_pos h0] at h
    by_cases h1 : i < n
    · rw [if_pos h1] at h
      have e : i.toNat = j := Option.some.inj h
      exact ⟨by rw [seqIndex_of h0 h1, e], by lia, by lia, h1⟩
    · rw [if_neg h1] at h; cases h
  · rw [if_neg h0] at h
    by_cases h1 : -(n : Int) ≤ i
    · rw [if_pos h1] at h
      have e : (i + n).toNat = j := Option.some.inj h
      exact ⟨by rw [seqIndex_neg (by lia) h1, e], by lia, h1, by lia⟩
    · rw [if_neg h1] at h; cases h
theorem atI_get {α : Type} {xs : List α} {i : Int} {v : α} (h : atI xs i = some v) : ∃ j, seqIndex? i xs.length = some j ∧ xs[j]? = some v ∧ j < xs.length ∧ -(xs.length : Int) ≤ i ∧ i < xs.length := by
  unfold atI at h
  cases e : ixN xs.length i with
  | none => rw [e] at h; cases h
  | some j =>
    rw [e] at h
    obtain ⟨h1, h2, h3, h4⟩ := ixN_seq e
    exact ⟨j, h1, h, h2, h3, h4⟩
theorem atI_nat {α : Type} {xs : List α} {j : Nat} {v : α} (h : xs[j]? = some v) : atI xs (j : Int) = some v := by
  have hj : j < xs.length := (List.getElem?_eq_some_iff.mp h).1
  have e : ixN xs.length (j : Int) = some j := by
    unfold ixN
    rw [if_pos (by lia), if_pos (by lia)]; simp
  unfold atI; rw [e]; exact h
theorem atI_last {α : Type} (xs : List α) (v : α) : atI (xs ++ [v]) (-1) = some v := by
  have hl : (xs ++ [v]).length = xs.length + 1 := by simp
  have e : ixN (xs ++ [v]).length (-1) = some xs.length := by
    unfold ixN
    rw [hl, if_neg (by decide), if_pos (by lia)]
    congr 1
    lia
  unfold atI
  rw [e]
  show (xs ++ [v])[xs.length]? = some v
  simp

/-! ### what may be subscripted -/
/-- what stands as an index of a plain subscript -/
def PlainIx (b : Expr) : Prop := ∀ o i, subscripted b false o i = operate [o, i] (getItem o i)
/-- a subscript by values -/
def IxR (X : Cx) (r : R2) : Prop :=
  ∀ (value slice : Expr) (pins : List (Addr × Obj)) (s : Shared) (σ : St) (H : Hp) (x y : V) (v u : Value) (Q : VK), Inv X pins σ H s → RelV x v → RelV y u → r x y H Q →
    subscripted slice false v u = operate [v, u] (getItem v u) → wpAny (model X.prog X.w) X.A (subscriptTail value slice v u) (EP X pins σ Q) X.xe s
/-- a call of a builtin's method by values: the receiver, the arguments -/
def MtR (X : Cx) (id : String) (r : V → List V → Hp → VK → Prop) : Prop :=
  ∀ (pins : List (Addr × Obj)) (s : Shared) (σ : St) (H : Hp) (x : V) (xs : List V) (v : Value) (us : List Value) (Q : VK), Inv X pins σ H s → RelV x v → Vals xs us → r x xs H Q →
    wpAny (model X.prog X.w) X.A (call (.builtin id) (v :: us)) (EP X pins σ Q) X.xe s
section
variable {X : Cx} {a b : Expr} {ta tb : TE} {pos : Pos}
theorem IxR.or (h : IxR X r) (h' : IxR X r') : IxR X (fun x y H Q => r x y H Q ∨ r' x y H Q) := by
  intro value slice pins s σ H x y v u Q I rx ry q hs
  rcases q with q | q
  · exact h value slice pins s σ H x y v u Q I rx ry q hs
  · exact h' value slice pins s σ H x y v u Q I rx ry q hs
theorem MtR.or {id : String} {r r' : V → List V → Hp → VK → Prop} (h : MtR X id r) (h' : MtR X id r') : MtR X id (fun x xs H Q => r x xs H Q ∨ r' x xs H Q) := by
  intro pins s σ H x xs v us Q I rx rs q
  rcases q with q | q
  · exact h pins s σ H x xs v us Q I rx rs q
  · exact h' pins s σ H x xs v us Q I rx rs q
/-- a[b] -/
theorem pe_ix (hr : IxR X r) (ha : PE X a ta) (hb : PE X b tb) (hs : PlainIx b) : PE X (.Subscript a b pos) (tOp r ta tb) := by
  intro pins s σ H Q I h
  exact Subscript_ (binT ha hb I h fun v u s2 x y H2 I2 rx ry q => hr a b pins s2 σ H2 x y v u Q I2 rx ry q (hs _ _))

def rIxL (K : PySem.W.Frag) : R2 := fun x y H Q => ∃ p xs i v, x = .ref p ∧ y = .int i ∧ SqL K H p xs ∧ atI xs i = some v ∧ Q v H
def rIxT (K : PySem.W.Frag) : R2 := fun x y H Q => ∃ p xs i v, x = .ref p ∧ y = .int i ∧ SqT K H p xs ∧ atI xs i = some v ∧ Q v H
def rIxS : R2 := fun x y H Q => ∃ z i c, x = .str z ∧ y = .int i ∧ z.length ≤ sizeLine ∧ atI z.cps.toList i = some c ∧ Q (.str ⟨#[c]⟩) H
theorem ix_list : IxR X (rIxL X.K) := by
  intro value slice pins s σ H x y v u Q I rx ry h hs
  obtain ⟨p, xs, i, z, rfl, rfl, hq, he, q⟩ := h
  cases rx
  obtain ⟨t, rfl⟩ := ry
  obtain ⟨its, r, pl, hz⟩ := I.list hq
  obtain ⟨j, h1, h2, h3, h4, h5⟩ := atI_get he
  obtain ⟨w, ew, rw'⟩ := r.get h2
  have hl := r.length
  have hn := line63
  have fin : EP X pins σ Q w s := ⟨z, H, I, rw', q⟩
  by_cases h0 : 0 ≤ i
  · have hj : i.toNat = j := by
      rw [seqIndex_of h0 h5] at h1
      exact Option.some.inj h1
    exact item_listR pl.isList h0 (by lia) (by rw [hj]; simpa using ew) fin hs
  · have hj : (i + (its.toArray.size : Int)).toNat = j := by
      rw [seqIndex_neg (by lia) h4] at h1
      rw [List.size_toArray, ← hl]
      exact Option.some.inj h1
    exact subscriptTail_builtinR (x := w) pl.isList.typeIs slot_list_getitem.lookup
      (wpAny_getItem_list_neg (Q := fun r s' => r = w ∧ EP X pins σ Q r s') pl.isList (by lia) (by rw [List.size_toArray] <;> lia) (by lia) (by rw [hj]; simpa using ew) ⟨rfl, fin⟩) hs
theorem ix_tup : IxR X (rIxT X.K) := by
  intro value slice pins s σ H x y v u Q I rx ry h hs
  obtain ⟨p, xs, i, z, rfl, rfl, hq, he, q⟩ := h
  cases rx
  obtain ⟨t, rfl⟩ := ry
  obtain ⟨its, r, pl, hz⟩ := I.tuple hq
  obtain ⟨j, h1, h2, h3, h4, h5⟩ := atI_get he
  obtain ⟨w, ew, rw'⟩ := r.get h2
  have hl := r.length
  have hn := line63
  have fin : EP X pins σ Q w s := ⟨z, H, I, rw', q⟩
  exact subscriptTail_builtinR (x := w) pl.typeIs slot_tuple_getitem.lookup
    (getItem_tuple (j := j) (Q := fun r s' => r = w ∧ EP X pins σ Q r s') pl (by lia) (by lia) (by rw [List.size_toArray, ← hl]; exact h1) (by simpa using ew) ⟨rfl, fin⟩) hs
theorem ix_str : IxR X rIxS := by
  intro value slice pins s σ H x y v u Q I rx ry h hs
  obtain ⟨z, i, c, rfl, rfl, hz, he, q⟩ := h
  obtain ⟨t, rfl⟩ := rx
  obtain ⟨t', rfl⟩ := ry
  obtain ⟨j, h1, h2, h3, h4, h5⟩ := atI_get he
  have hl : z.cps.toList.length = z.length := by simp [Str.length]
  rw [hl] at h1 h4 h5
  have hn := line63
  exact tail_any (typeIs_str s z t) slot_str_getitem.lookup (getItem_str (c := c) (by
    have e1 : decide (i < -(2 ^ 63 : Int)) = false := decide_eq_false (by lia)
    have e2 : decide (i ≥ 2 ^ 63) = false := decide_eq_false (by lia)
    rw [e1, e2, Bool.or_false]) (by rw [h1]; simpa using h2) ⟨.str ⟨#[c]⟩, H, I.tok _, ⟨_, rfl⟩, q⟩) hs
/-- list, tuple or str -/
def rIx (K : PySem.W.Frag) : R2 := fun x y H Q => rIxL K x y H Q ∨ rIxT K x y H Q ∨ rIxS x y H Q
theorem ix_seq : IxR X (rIx X.K) := ix_list.or (ix_tup.or ix_str)

/-! ### xs[i] = v, any sign -/
/-- the list's object behind a store -/
theorem mapSeq_set (its : List Value) (n j : Nat) (u : Value) : Obj.mapSeq (·.setIfInBounds j u) { cls := .type "list", data := .seq its.toArray n } = { cls := .type "list", data := .seq (its.set j u).toArray n } := by
  simp [Obj.mapSeq]
theorem Inv.lst {pins : List (Addr × Obj)} {σ : St} {H : Hp} {s : Shared} {p : Addr} {xs : List V} (I : Inv X pins σ H s) (h : H p = some (.lst xs)) :
    ∃ (its : List Value) (n : Nat), Vals xs its ∧ s.heap.get? p = some { cls := .type "list", data := .seq its.toArray n } ∧ xs.length ≤ sizeLine := by
  obtain ⟨z, its, n, r, e⟩ := I.hok p _ h
  exact ⟨its, n, r, e, z⟩
/-- the list at p is written by an update of its object -/
theorem Inv.lstUpd {pins : List (Addr × Obj)} {σ : St} {H : Hp} {s : Shared} {p : Addr} {xs ys : List V} {its its' : List Value} {n n' : Nat} {f : Obj → Obj} (I : Inv X pins σ H s) (h : H p = some (.lst xs))
    (ho : s.heap.get? p = some { cls := .type "list", data := .seq its.toArray n }) (hf : f { cls := .type "list", data := .seq its.toArray n } = { cls := .type "list", data := .seq its'.toArray n' }) (r : Vals ys its') (hz : ys.length ≤ sizeLine) (t : Nat) :
    Inv X pins σ (upd H p (.lst ys)) { s with heap := s.heap.update p f, toks := t } := by
  have e : (s.heap.update p f).get? p = some { cls := .type "list", data := .seq its'.toArray n' } := by
    rw [Heap.get?_update_self f ho (by rw [hf] <;> rfl), hf]
  refine I.write (x := p) (e := p) (by rw [h]; trivial) (.inl rfl) (fun b u hb q => (Heap.get?_update_other _ _ (Ne.symm hb)).trans q) ⟨_, e⟩ ?_
  exact ⟨hz, its', n', r, e⟩
def rSetL : V → V → V → Hp → (Hp → Prop) → Prop := fun o i v H Q => ∃ p xs k j, o = .ref p ∧ i = .int k ∧ H p = some (.lst xs) ∧ ixN xs.length k = some j ∧ Q (upd H p (.lst (xs.set j v)))
theorem set_list : PSet X rSetL := by
  intro pins s σ H o i v ov iv u Q I ro ri rv h
  obtain ⟨p, xs, k, j, rfl, rfl, hp, hj, q⟩ := h
  cases ro
  obtain ⟨t, rfl⟩ := ri
  obtain ⟨its, n, r, ho, hz⟩ := I.lst hp
  obtain ⟨h1, h2, h3, h4⟩ := ixN_seq hj
  have hl := r.length
  have hn := line63
  have I' : Inv X pins σ (upd H p (.lst (xs.set j v))) { s with heap := s.heap.update p (Obj.mapSeq (·.setIfInBounds j u)) } :=
    I.lstUpd hp ho (mapSeq_set its n j u) (r.set rv j) (by rw [List.length_set]; exact hz) s.toks
  by_cases h0 : 0 ≤ k
  · have hk : k.toNat = j := by
      rw [seqIndex_of h0 h4] at h1
      exact Option.some.inj h1
    exact PySem.W.ki_setAt ho h0 (by lia) (by rw [List.size_toArray, ← hl]; exact h4) (by rw [hk]; exact ⟨_, I', q⟩)
  · have hk : (k + (its.toArray.size : Int)).toNat = j := by
      rw [seqIndex_neg (by lia) h3] at h1
      rw [List.size_toArray, ← hl]
      exact Option.some.inj h1
    exact PySem.W.ki_setBack ho (by lia) (by rw [List.size_toArray, ← hl]; exact h3) (by lia) (by rw [hk]; exact ⟨_, I', q⟩)

/-! ### slices -/
theorem slice_bounds (lo hi : Option Int) (n : Nat) : (sliceBounds lo hi none n).1 = ((HT.sIx n 0 lo : Nat) : Int) ∧ (sliceBounds lo hi none n).2.1 = ((HT.sIx n n hi : Nat) : Int) ∧ (sliceBounds lo hi none n).2.2 = 1 := by
  refine ⟨?_, ?_, rfl⟩
  · cases lo with
    | none => simp [sliceBounds, HT.sIx]
    | some i =>
      simp only [sliceBounds, HT.sIx, Option.getD_none, show (1 : Int) > 0 by decide, if_true]
      by_cases h : i < 0
      · simp only [h, if_true] <;> lia
      · simp only [h, if_false] <;> lia
  · cases hi with
    | none => simp [sliceBounds, HT.sIx]
    | some i =>
      simp only [sliceBounds, HT.sIx, Option.getD_none, show (1 : Int) > 0 by decide, if_true]
      by_cases h : i < 0
      · simp only [h, if_true] <;> lia
      · simp only [h, if_false] <;> lia
theorem slicePick_cut (its : List Value) (lo hi : Option Int) : slicePick its.toArray lo hi none = ((its.drop (HT.sIx its.length 0 lo)).take (HT.sIx its.length its.length hi - HT.sIx its.length 0 lo)).toArray := by
  obtain ⟨h1, h2, h3⟩ := slice_bounds lo hi its.toArray.size
  unfold slicePick
  rw [h1, h2, h3]
  simp only [sliceRange_one, pick_run, List.size_toArray] <;> rfl
/-- xs[lo:hi] of a list: a new list -/
def rSlL (K : PySem.W.Frag) : V → Option Int → Option Int → Hp → VK → Prop := fun x lo hi H Q => ∃ a xs, x = .ref a ∧ SqL K H a xs ∧ ∀ p, H p = none → Q (.ref p) (upd H p (.lst (cutV xs lo hi)))
theorem sl_list : SlR X (rSlL X.K) := by
  intro pins s σ H x v vl vu lo hi sl Q I rx hs pl pu h
  obtain ⟨a, xs, rfl, hx, q⟩ := h
  cases rx
  obtain ⟨its, r, ht, hz⟩ := I.list hx
  have hlen := r.length
  refine ⟨"list", _, slot_list_getitem.lookup, ht.isList.typeIs, ?_⟩
  refine wpAny_getItem_list_slice ht.isList hs pl pu .none (by simp) ?_ (by rw [List.size_toArray] <;> lia)
  rw [slicePick_cut, ← hlen]
  refine ⟨.ref s.heap.objs.size, _, I.laid (t' := s.toks) (o := .lst (cutV xs lo hi)) (fun b ob q => Heap.get?_push_of_some _ q) (Nat.le_refl _) ?_, rfl, q _ (I.hok.fresh (Nat.le_refl _))⟩
  exact ⟨Nat.le_trans (cutV_length xs lo hi) hz, _, 0, (r.drop (HT.sIx xs.length 0 lo)).take (HT.sIx xs.length xs.length hi - HT.sIx xs.length 0 lo), Heap.get?_push_size _ rfl⟩

/-! ### in, not in: flat items -/
def flatV : V → Bool
  | .non => true
  | .bl _ => true
  | .int _ => true
  | .str _ => true
  | _ => false
/-- == of flat values -/
def eqV : V → V → Bool
  | .non, .non => true
  | .bl a, .bl b => a == b
  | .bl a, .int b => (if a then 1 else 0) == b
  | .int a, .bl b => a == (if b then 1 else 0)
  | .int a, .int b => a == b
  | .str a, .str b => a == b
  | _, _ => false
theorem eqAt_V (ry : RelV y u) (rx : RelV x v) (fy : flatV y = true) (fx : flatV x = true) : SeqAt.EqAt A s u v (eqV y x) := by
  cases y with
  | non =>
    cases ry
    cases x with
    | non => cases rx; exact SeqAt.EqAt.same _
    | bl b => cases rx; exact SeqAt.EqAt.none_bool b
    | int b => obtain ⟨t, rfl⟩ := rx; exact SeqAt.EqAt.none_int b t
    | str b => obtain ⟨t, rfl⟩ := rx; exact SeqAt.EqAt.none_str b t
    | _ => exact absurd (show false = true from fx) Bool.false_ne_true
  | bl a =>
    cases ry
    cases x with
    | non => cases rx; exact SeqAt.EqAt.bool_none a
    | bl b => cases rx; exact SeqAt.EqAt.bool_bool a b
    | int b => obtain ⟨t, rfl⟩ := rx; exact SeqAt.EqAt.bool_int a b t
    | str b => obtain ⟨t, rfl⟩ := rx; exact SeqAt.EqAt.bool_str a b t
    | _ => exact absurd (show false = true from fx) Bool.false_ne_true
  | int a =>
    obtain ⟨t', rfl⟩ := ry
    cases x with
    | non => cases rx; exact SeqAt.EqAt.int_none a t'
    | bl b => cases rx; exact SeqAt.EqAt.int_bool a t' b
    | int b => obtain ⟨t, rfl⟩ := rx; exact SeqAt.EqAt.int_int a t' b t
    | str b => obtain ⟨t, rfl⟩ := rx; exact SeqAt.EqAt.int_str a t' b t
    | _ => exact absurd (show false = true from fx) Bool.false_ne_true
  | str a =>
    obtain ⟨t', rfl⟩ := ry
    cases x with
    | non => cases rx; exact SeqAt.EqAt.str_none a t'
    | bl b => cases rx; exact SeqAt.EqAt.str_bool a t' b
    | int b => obtain ⟨t, rfl⟩ := rx; exact SeqAt.EqAt.str_int a t' b t
    | str b => obtain ⟨t, rfl⟩ := rx; exact SeqAt.EqAt.str_str a t' b t
    | _ => exact absurd (show false = true from fx) Bool.false_ne_true
  | _ => exact absurd (show false = true from fy) Bool.false_ne_true
/-- the items' answers, read off the values (a value's own answer does not lean on its token) -/
def eqU (x : V) (u : Value) : Bool := match u with
  | .none => eqV .non x
  | .bool b => eqV (.bl b) x
  | .int i _ => eqV (.int i) x
  | .str z _ => eqV (.str z) x
  | _ => false
theorem eqU_of (r : RelV y u) (f : flatV y = true) : eqU x u = eqV y x := by
  cases y with
  | non => cases r; rfl
  | bl b => cases r; rfl
  | int i => obtain ⟨t, rfl⟩ := r; rfl
  | str z => obtain ⟨t, rfl⟩ := r; rfl
  | _ => exact absurd (show false = true from f) Bool.false_ne_true
theorem any_eqU : ∀ {xs : List V} {us : List Value}, Vals xs us → xs.all flatV = true → us.any (eqU x) = xs.any fun y => eqV y x
  | _, _, .nil, _ => rfl
  | y :: xs, u :: us, .cons r t, f => by
    rw [List.all_cons, Bool.and_eq_true] at f
    rw [List.any_cons, List.any_cons, eqU_of r f.1, any_eqU t f.2]
theorem mem_eqAt (rx : RelV x v) (fx : flatV x = true) : ∀ {xs : List V} {us : List Value}, Vals xs us → xs.all flatV = true → ∀ u ∈ us, SeqAt.EqAt A s u v (eqU x u)
  | _, _, .nil, _ => fun u hu => by cases hu
  | y :: xs, u :: us, .cons r t, f => fun u' hu => by
    rw [List.all_cons, Bool.and_eq_true] at f
    rcases List.mem_cons.mp hu with rfl | hu
    · rw [eqU_of r f.1]; exact eqAt_V r rx f.1 fx
    · exact mem_eqAt rx fx t f.2 u' hu
def inV (x : V) (xs : List V) : Bool := xs.any fun y => eqV y x
/-- x in a list or tuple of flat items -/
def rIn (K : PySem.W.Frag) (neg : Bool) : R2 := fun x y H Q => ∃ p xs, y = .ref p ∧ (SqL K H p xs ∨ SqT K H p xs) ∧ flatV x = true ∧ xs.all flatV = true ∧ Q (.bl (if neg then !inV x xs else inV x xs)) H
theorem op_in_seq : OpR X (compareOp .In) (rIn X.K false) := by
  intro pins s σ H x y v u Q I rx ry h
  obtain ⟨p, xs, rfl, hq, fx, fs, q⟩ := h
  cases ry
  rcases hq with hq | hq
  · obtain ⟨its, r, pl, hz⟩ := I.list hq
    refine SeqAt.in_listAt (eqU x) pl.isList (fun w hw => mem_eqAt rx fx r fs w (by simpa using hw)) ⟨.bl _, H, I, rfl, ?_⟩
    rw [show its.toArray.any (eqU x) = its.any (eqU x) by simp, any_eqU r fs]
    exact q
  · obtain ⟨its, r, pl, hz⟩ := I.tuple hq
    refine SeqAt.in_tupleAt (eqU x) pl (fun w hw => mem_eqAt rx fx r fs w (by simpa using hw)) ⟨.bl _, H, I, rfl, ?_⟩
    rw [show its.toArray.any (eqU x) = its.any (eqU x) by simp, any_eqU r fs]
    exact q
theorem op_notIn_seq : OpR X (compareOp .NotIn) (rIn X.K true) := by
  intro pins s σ H x y v u Q I rx ry h
  obtain ⟨p, xs, rfl, hq, fx, fs, q⟩ := h
  cases ry
  rcases hq with hq | hq
  · obtain ⟨its, r, pl, hz⟩ := I.list hq
    refine SeqAt.notIn_listAt (eqU x) pl.isList (fun w hw => mem_eqAt rx fx r fs w (by simpa using hw)) ⟨.bl _, H, I, rfl, ?_⟩
    rw [show its.toArray.any (eqU x) = its.any (eqU x) by simp, any_eqU r fs]
    exact q
  · obtain ⟨its, r, pl, hz⟩ := I.tuple hq
    refine SeqAt.notIn_tupleAt (eqU x) pl (fun w hw => mem_eqAt rx fx r fs w (by simpa using hw)) ⟨.bl _, H, I, rfl, ?_⟩
    rw [show its.toArray.any (eqU x) = its.any (eqU x) by simp, any_eqU r fs]
    exact q
theorem op_notIn_str : OpR X (compareOp .NotIn) (fun x y H Q => ∃ i j, x = .str i ∧ y = .str j ∧ Q (.bl (!(!(Builtin.Str.occurrences j i 0 j.length 1).isEmpty))) H) := by
  intro pins s σ H x y v u Q I rx ry h
  obtain ⟨i, j, rfl, rfl, q⟩ := h
  obtain ⟨t, rfl⟩ := rx
  obtain ⟨t', rfl⟩ := ry
  exact notIn_str ⟨.bl _, H, I, rfl, q⟩

/-! ### len, list(x), tuple(x) of any list or tuple that is read -/
theorem call_len_seq : CallR X (.builtin "len") (fun xs H Q => ∃ p ys, xs = [.ref p] ∧ (SqL X.K H p ys ∨ SqT X.K H p ys) ∧ Q (.int ys.length) H) := by
  intro pins s σ H xs us Q I r h
  obtain ⟨p, ys, rfl, hq, q⟩ := h
  obtain ⟨u, rfl, rx⟩ := vals1 r
  cases rx
  have hn := line63
  rcases hq with hq | hq
  · obtain ⟨its, r', pl, hz⟩ := I.list hq
    have hlen := r'.length
    exact Calls.call_len_list pl.isList (by simp only [List.size_toArray] <;> lia) ⟨.int ys.length, H, I.tok _, ⟨s.toks + 1, by rw [List.size_toArray, hlen]⟩, q⟩
  · obtain ⟨its, r', pl, hz⟩ := I.tuple hq
    have hlen := r'.length
    exact len_tuple pl (by simp only [List.size_toArray] <;> lia) ⟨.int ys.length, H, I.tok _, ⟨s.toks + 1, by rw [List.size_toArray, hlen]⟩, q⟩
theorem call_len_str : CallR X (.builtin "len") (fun xs H Q => ∃ z, xs = [.str z] ∧ z.length ≤ sizeLine ∧ Q (.int z.length) H) := by
  intro pins s σ H xs us Q I r h
  obtain ⟨z, rfl, hz, q⟩ := h
  obtain ⟨u, rfl, t, rfl⟩ := vals1 r
  have hn := line63
  exact len_str (by lia) ⟨.int z.length, H, I.tok _, ⟨_, rfl⟩, q⟩
theorem CallR.or {r r' : List V → Hp → VK → Prop} (h : CallR X f r) (h' : CallR X f r') : CallR X f (fun xs H Q => r xs H Q ∨ r' xs H Q) := by
  intro pins s σ H xs us Q I rs q
  rcases q with q | q
  · exact h pins s σ H xs us Q I rs q
  · exact h' pins s σ H xs us Q I rs q
theorem call_list_of : CallR X (.type "list") (fun xs H Q => ∃ p ys, xs = [.ref p] ∧ (SqL X.K H p ys ∨ SqT X.K H p ys) ∧ ∀ l, H l = none → Q (.ref l) (upd H l (.lst ys))) := by
  intro pins s σ H xs us Q I r h
  obtain ⟨p, ys, rfl, hq, q⟩ := h
  obtain ⟨u, rfl, rx⟩ := vals1 r
  cases rx
  have fin : ∀ (its : List Value), Vals ys its → ys.length ≤ sizeLine → ∀ (h' : Heap) (c' : Nat), (∀ b o', s.heap.get? b = some o' → h'.get? b = some o') →
      h'.get? s.heap.objs.size = some { cls := .type "list", dict := none, data := .seq its.toArray c', slots := #[] } → EP X pins σ Q (.ref s.heap.objs.size) { s with heap := h' } := fun its r' hz h' c' kp e =>
    ⟨.ref s.heap.objs.size, _, I.laid (t' := s.toks) kp (Nat.le_refl _) (show ObjOk X.prog X.w _ h' _ (.lst ys) from ⟨hz, its, c', r', e⟩), rfl, q _ (I.hok.fresh (Nat.le_refl _))⟩
  rcases hq with hq | hq
  · obtain ⟨its, r', pl, hz⟩ := I.list hq
    have hlen := r'.length
    obtain ⟨o, ho, hc, n, hd⟩ := pl.isList
    exact call_list_seq p (.inl rfl) ho hc hd (fun h' c' kp e => fin its r' hz h' c' kp e) (by simp only [List.size_toArray] <;> lia)
  · obtain ⟨its, r', pl, hz⟩ := I.tuple hq
    have hlen := r'.length
    obtain ⟨o, ho, hc, n, hd⟩ := pl
    exact call_list_seq p (.inr rfl) ho hc hd (fun h' c' kp e => fin its r' hz h' c' kp e) (by simp only [List.size_toArray] <;> lia)
theorem call_tuple_of : CallR X (.type "tuple") (fun xs H Q => ∃ p ys, xs = [.ref p] ∧ ((SqL X.K H p ys ∧ ∀ l, H l = none → Q (.ref l) (upd H l (.tup ys))) ∨ (SqT X.K H p ys ∧ Q (.ref p) H))) := by
  intro pins s σ H xs us Q I r h
  obtain ⟨p, ys, rfl, h⟩ := h
  obtain ⟨u, rfl, rx⟩ := vals1 r
  cases rx
  rcases h with ⟨hq, q⟩ | ⟨hq, q⟩
  · obtain ⟨its, r', pl, hz⟩ := I.list hq
    have hlen := r'.length
    refine call_tuple_list pl.isList (fun h' kp => ?_) (by simp only [List.size_toArray] <;> lia)
    have I1 : Inv X pins σ H { s with heap := h' } := I.kept (t' := s.toks) kp
    have I2 : Inv X pins σ (upd H h'.objs.size (.tup ys)) { s with heap := h'.push { cls := .type "tuple", data := .seq its.toArray } } :=
      I1.laid (t' := s.toks) (fun b o e => Heap.get?_push_of_some _ e) (Nat.le_refl _) (show ObjOk X.prog X.w _ _ _ (.tup ys) from ⟨hz, its, r', IsTup.new _ _⟩)
    exact ⟨.ref h'.objs.size, _, I2, rfl, q _ (I1.hok.fresh (Nat.le_refl _))⟩
  · obtain ⟨its, r', pl, hz⟩ := I.tuple hq
    exact call_tuple_same pl ⟨.ref p, H, I, rfl, q⟩

/-! ### the call of a builtin's method: o.m(..) -/
/-- the value is of that builtin type -/
def tyV (K : PySem.W.Frag) (T : String) (x : V) (H : Hp) : Prop := match x with
  | .str _ => T = "str"
  | .int _ => T = "int"
  | .ref p => (T = "list" ∧ ∃ xs, SqL K H p xs) ∨ (T = "tuple" ∧ ∃ o, K.lookup p = some o ∧ o.cls = .type "tuple" ∧ o.dict = none) ∨
      (T = "dict" ∧ ((∃ kvs, H p = some (.dK kvs)) ∨ ∃ kvs, H p = some (.dT kvs))) ∨ (T = "set" ∧ ∃ S n, H p = some (.set S n))
  | _ => False
theorem tyV_is (I : Inv X pins σ H s) (r : RelV x v) (ty : tyV X.K T x H) :
    s.TypeIs v T ∧ ∀ a, v = .ref a → ∃ ob, s.heap.get? a = some ob ∧ ob.dict = none := by
  cases x with
  | str z =>
    obtain ⟨t, rfl⟩ := r
    cases (show T = "str" from ty)
    exact ⟨typeIs_str s z t, fun _ e => nomatch e⟩
  | int i =>
    obtain ⟨t, rfl⟩ := r
    cases (show T = "int" from ty)
    exact ⟨typeIs_int s i t, fun _ e => nomatch e⟩
  | ref p =>
    cases r
    rcases ty with ⟨rfl, xs, hq⟩ | ⟨rfl, o, hk, hc, hd⟩ | ⟨rfl, hk⟩ | ⟨rfl, S, n, hk⟩
    · obtain ⟨its, _, pl, _⟩ := I.list hq
      refine ⟨pl.isList.typeIs, fun a e => ?_⟩
      cases e
      obtain ⟨o, n, e, c, hd, _⟩ := pl
      exact ⟨o, e, hd⟩
    · refine ⟨⟨o, I.kIn p o hk, hc⟩, fun a e => ?_⟩
      cases e
      exact ⟨o, I.kIn _ o hk, hd⟩
    · have z : ∃ o, s.heap.get? p = some o ∧ o.ExactDict := by
        rcases hk with ⟨kvs, hk⟩ | ⟨kvs, hk⟩
        · obtain ⟨_, _, _, _, o, _, _, e, ex, _⟩ := I.hok p _ hk
          exact ⟨o, e, ex⟩
        · obtain ⟨_, _, _, _, o, _, _, e, ex, _⟩ := I.hok p _ hk
          exact ⟨o, e, ex⟩
      obtain ⟨o, e, ex⟩ := z
      refine ⟨⟨o, e, ex.1⟩, fun a e2 => ?_⟩
      cases e2
      exact ⟨o, e, ex.2.1⟩
    · obtain ⟨o, _, _, _, e, ex, _⟩ := I.hok p _ hk
      refine ⟨⟨o, e, ex.1⟩, fun a e2 => ?_⟩
      cases e2
      exact ⟨o, e, ex.2.1⟩
  | _ => exact False.elim ty
def tBM0 (K : PySem.W.Frag) (T : String) (r : V → List V → Hp → VK → Prop) (to : TE) : TE := fun σ H Q => to σ H fun x H1 => tyV K T x H1 ∧ r x [] H1 Q
def tBM (K : PySem.W.Frag) (T : String) (r : V → List V → Hp → VK → Prop) (to : TE) (t : TA) : TE := fun σ H Q => to σ H fun x H1 => tyV K T x H1 ∧ t σ H1 fun xs H2 => r x xs H2 Q
variable {o e : Expr} {es : List Expr} {to : TE} {t : TA} {name : Str} {apos cpos : Pos} {T id : String} {r : V → List V → Hp → VK → Prop}
theorem pe_bm0 (pa : PlainAttrs T) (slot : Slot T name id) (hty : typeOf (.builtin id) = pure (.type "method_descriptor")) (hm : MtR X id r) (ho : PE X o to)
    (hbase : attributeBase o name X.env (eval o X.env) = eval o X.env := by rfl) (hline : (apos.endLine == cpos.line) = true := by rfl) : PE X (.Call (.Attribute o name apos) [] [] cpos) (tBM0 X.K T r to) := by
  intro pins s σ H Q I h
  refine wpAny_Call_method0_late hbase hline (thn (ho pins s σ H _ I h) fun v s1 ⟨x, H1, I1, r1, ty, q1⟩ => ?_)
  obtain ⟨h1, h2⟩ := tyV_is I1 r1 ty
  exact ⟨T, id, pa, slot, hty, h1, h2, Calls.callWith_builtin rfl (PySem.evalArgs_none (hm pins s1 σ H1 x [] v [] Q I1 r1 .nil q1))⟩
theorem pe_bm (pa : PlainAttrs T) (slot : Slot T name id) (hty : typeOf (.builtin id) = pure (.type "method_descriptor")) (hm : MtR X id r) (ho : PE X o to) (ha : PA X (e :: es) t)
    (hbase : attributeBase o name X.env (eval o X.env) = eval o X.env := by rfl)
    (hfew : ((backTo cpos (starEach (e :: es) X.env)).all (fun x => !x.1) && (backToKw cpos (keywordEach [] X.env)).all (fun x => x.1.isSome)
      && decide ((e :: es).length + ([] : List Keyword).length + (if ([] : List Keyword).isEmpty then 0 else 1) < 30)) = true := by rfl)
    (hline : (apos.endLine == cpos.line) = true := by rfl) (hs : starEach (e :: es) X.env = (false, eval e X.env) :: starEach es X.env := by rfl) (hplain : (backTo cpos (starEach es X.env)).any (·.1) = false := by rfl) :
    PE X (.Call (.Attribute o name apos) (e :: es) [] cpos) (tBM X.K T r to t) := by
  intro pins s σ H Q I h
  refine wpAny_Call_method_late hbase hfew hline rfl (thn (ho pins s σ H _ I h) fun v s1 ⟨x, H1, I1, r1, ty, q1⟩ => ?_)
  obtain ⟨h1, h2⟩ := tyV_is I1 r1 ty
  refine ⟨T, id, pa, slot, hty, h1, h2, ?_⟩
  have hA := ha cpos pins s1 σ H1 _ I1 q1
  rw [hs] at hA ⊢
  refine Calls.callWith_builtin (by show (false || (backTo cpos (starEach es X.env)).any (·.1)) = false; rw [hplain] <;> rfl) (Calls.evalArgs_plain ?_)
  exact thn hA fun us s2 ⟨vs, H2, I2, r2, q2⟩ => hm pins s2 σ H2 x vs v us Q I2 r1 r2 q2
/- xs.append(e), list.index on a module's tuple .. are MtR facts of 06m -/
end
end L2

namespace L2
open PySem PySem.Spec PyProof.Rows

def MtM (X : Cx) (id : String) (r : V → List V → Hp → VK → Prop) : Prop :=
  ∀ (pins : List (Addr × Obj)) (s : Shared) (σ : St) (H : Hp) (x : V) (xs : List V) (v : Value) (us : List Value) (Q : VK), Inv X pins σ H s → RelV x v → Vals xs us → r x xs H Q →
    wpAny (model X.prog X.w) X.A (call (.builtin id) (v :: us)) (EP X pins σ Q) X.xe s

/-! ### lists of values -/
theorem Vals.one : ∀ {x : V} {us : List Value}, Vals [x] us → ∃ u, us = [u] ∧ RelV x u
  | _, _, .cons r .nil => ⟨_, rfl, r⟩
theorem Vals.two : ∀ {x y : V} {us : List Value}, Vals [x, y] us → ∃ u v, us = [u, v] ∧ RelV x u ∧ RelV y v
  | _, _, _, .cons r (.cons q .nil) => ⟨_, _, rfl, r, q⟩
theorem Vals.zero : ∀ {us : List Value}, Vals [] us → us = []
  | _, .nil => rfl
theorem Vals.dropLast (h : Vals xs us) : Vals xs.dropLast us.dropLast := by
  induction h with
  | nil => exact .nil
  | cons r t ih =>
    cases t with
    | nil => exact .nil
    | cons q t' => exact .cons r ih
theorem Vals.eraseIdx : ∀ {xs : List V} {us : List Value} (i : Nat), Vals xs us → Vals (xs.eraseIdx i) (us.eraseIdx i)
  | _, _, _, .nil => .nil
  | _, _, 0, .cons _ t => t
  | _, _, i + 1, .cons r t => .cons r (Vals.eraseIdx i t)
theorem Vals.reverse (h : Vals xs us) : Vals xs.reverse us.reverse := by
  induction h with
  | nil => exact .nil
  | cons r t ih => rw [List.reverse_cons, List.reverse_cons]; exact Vals.append ih (.cons r .nil)
theorem Vals.rep (h : Vals xs us) : ∀ k : Nat, Vals (List.replicate k xs).flatten (List.replicate k us).flatten
  | 0 => .nil
  | k + 1 => by
    rw [List.replicate_succ, List.replicate_succ, List.flatten_cons, List.flatten_cons]
    exact Vals.append h (Vals.rep h k)
theorem erase_last {α : Type} (l : List α) : l.eraseIdx (l.length - 1) = l.dropLast := by
  induction l with
  | nil => rfl
  | cons a r ih =>
    cases r with
    | nil => rfl
    | cons b r =>
      have e : (a :: b :: r).length - 1 = ((b :: r).length - 1) + 1 := by
        have h1 : (a :: b :: r).length = r.length + 2 := rfl
        have h2 : (b :: r).length = r.length + 1 := rfl
        lia
      rw [e, List.eraseIdx_cons_succ, ih]
      all_goals rfl
theorem len_erase {α : Type} : ∀ (l : List α) (i : Nat), (l.eraseIdx i).length ≤ l.length
  | [], _ => Nat.le_refl _
  | _ :: _, 0 => Nat.le_succ _
  | _ :: r, i + 1 => Nat.succ_le_succ (len_erase r i)
theorem foldl_rep (its : List Value) : ∀ (k : Nat) (acc : List Value),
    List.foldl (fun x1 x2 => x1 ++ x2) acc.toArray (List.replicate k its.toArray) = (acc ++ (List.replicate k its).flatten).toArray
  | 0, acc => by simp
  | k + 1, acc => by
    have e : acc.toArray ++ its.toArray = (acc ++ its).toArray := by simp
    have e2 : (acc ++ its) ++ (List.replicate k its).flatten = acc ++ (List.replicate (k + 1) its).flatten := by
      rw [List.replicate_succ, List.flatten_cons, List.append_assoc]
    rw [← e2, ← foldl_rep its k (acc ++ its), ← e, List.replicate_succ, List.foldl_cons]

section
variable {X : Cx} {pins : List (Addr × Obj)} {σ : St} {H : Hp} {s : Shared} {l b : Addr} {xs ys zs : List V}

/-! ### the two steps: a tracked list is rewritten, a new list is laid -/
theorem Inv.lset {its its' : List Value} {n : Nat} {f : Array Value → Array Value} {t' : Nat} (I : Inv X pins σ H s) (hH : H l = some (.lst xs))
    (e : s.heap.get? l = some { cls := .type "list", data := .seq its.toArray n }) (hf : f its.toArray = its'.toArray) (hv : Vals ys its') (hz : ys.length ≤ sizeLine) :
    Inv X pins σ (upd H l (.lst ys)) { s with heap := s.heap.update l (Obj.mapSeq f), toks := t' } := by
  have q := PySem.IsL.update e f
  rw [hf] at q
  refine I.write (x := l) (e := l) (by rw [hH]; exact trivial) (.inl rfl) (fun b' u hb hu => (Heap.get?_update_other s.heap (Obj.mapSeq f) (Ne.symm hb)).trans hu) ⟨_, q⟩ ?_
  exact ⟨hz, its', _, hv, q⟩
theorem Inv.lnew (I : Inv X pins σ H s) (hv : Vals ys its) (hz : ys.length ≤ sizeLine) :
    Inv X pins σ (upd H s.heap.objs.size (.lst ys)) { s with heap := s.heap.push { cls := .type "list", data := .seq its.toArray }, toks := t' } :=
  I.laid (fun _ _ q => Heap.get?_push_of_some _ q) (Nat.le_refl _) ⟨hz, its, 0, hv, Heap.get?_push_size _ rfl⟩
theorem Inv.fresh (I : Inv X pins σ H s) : H s.heap.objs.size = none := I.hok.fresh (Nat.le_refl _)
theorem Inv.lstM (I : Inv X pins σ H s) (hH : H l = some (.lst xs)) : xs.length ≤ sizeLine ∧ ∃ (its : List Value) (n : Nat), Vals xs its ∧ xs.length = its.length ∧ s.heap.get? l = some { cls := .type "list", data := .seq its.toArray n } := by
  obtain ⟨z, its, n, r, e⟩ := I.hok l _ hH
  exact ⟨z, its, n, r, r.length, e⟩

theorem notLongL (h : n ≤ sizeLine) : Builtin.List.listTooLong n = false := by
  unfold Builtin.List.listTooLong
  exact decide_eq_false (by lia)
end

section
variable {X : Cx}

/-! ### methods -/
def rAppend : V → List V → Hp → VK → Prop := fun x vs H Q => ∃ l xs y, x = .ref l ∧ vs = [y] ∧ H l = some (.lst xs) ∧ xs.length < sizeLine ∧ Q .non (upd H l (.lst (xs ++ [y])))
theorem mt_append : MtM X "list.append" rAppend := by
  intro pins s σ H x vs v us Q I rx rv h
  obtain ⟨l, xs, y, rfl, rfl, hH, hz, q⟩ := h
  cases rx
  obtain ⟨u, rfl, ru⟩ := rv.one
  obtain ⟨z, its, n, r, hl, e⟩ := I.lstM hH
  refine call_meets F.slot_list_append ⟨_, e, rfl⟩ F.entry_list_append (F.args_list_append_2 _ _) (PySem.list_append l its.toArray n u (by rw [List.size_toArray]; lia)) ⟨e, ?_⟩
  refine ⟨.non, _, I.lset (its' := its ++ [u]) hH e (by simp) (r.append (.cons ru .nil)) ?_, rfl, q⟩
  rw [List.length_append, List.length_singleton]
  lia

def rExtend : V → List V → Hp → VK → Prop := fun x vs H Q => ∃ l b xs zs, x = .ref l ∧ vs = [.ref b] ∧ H l = some (.lst xs) ∧ H b = some (.lst zs) ∧ xs.length + zs.length ≤ sizeLine ∧ Q .non (upd H l (.lst (xs ++ zs)))
theorem mt_extend : MtM X "list.extend" rExtend := by
  intro pins s σ H x vs v us Q I rx rv h
  obtain ⟨l, b, xs, zs, rfl, rfl, hH, hB, hz, q⟩ := h
  cases rx
  obtain ⟨u, rfl, ru⟩ := rv.one
  cases ru
  obtain ⟨z, its, n, r, hl, e⟩ := I.lstM hH
  obtain ⟨z2, its2, n2, r2, hl2, e2⟩ := I.lstM hB
  have hsz : its.toArray.size + its2.toArray.size ≤ sizeLine := by rw [List.size_toArray, List.size_toArray]; lia
  have hlong : ¬ (!its.toArray.isEmpty && Builtin.List.listTooLong (its.toArray.size + its2.toArray.size)) = true := by
    rw [notLongL hsz, Bool.and_false]
    exact Bool.false_ne_true
  refine call_meets F.slot_list_extend ⟨_, e, rfl⟩ F.entry_list_extend (F.args_list_extend_2 _ _)
    (AutoSeq1.list_extend_list_list_0 l its.toArray n b its2.toArray n2 hlong (by rw [List.size_toArray]; lia) (by lia)) ⟨e, e2, ?_⟩
  refine ⟨.non, _, I.lset (its' := its ++ its2) hH e (by simp) (r.append r2) ?_, rfl, q⟩
  rw [List.length_append]
  lia

def rPop : V → List V → Hp → VK → Prop := fun x vs H Q => ∃ l xs y, x = .ref l ∧ vs = [] ∧ H l = some (.lst xs) ∧ xs[xs.length - 1]? = some y ∧ Q y (upd H l (.lst xs.dropLast))
theorem mt_pop : MtM X "list.pop" rPop := by
  intro pins s σ H x vs v us Q I rx rv h
  obtain ⟨l, xs, y, rfl, rfl, hH, hy, q⟩ := h
  cases rx
  have hus := rv.zero
  subst hus
  obtain ⟨z, its, n, r, hl, e⟩ := I.lstM hH
  obtain ⟨u, hu, ru⟩ := r.get hy
  have hy' : its.toArray[its.toArray.size - 1]? = some u := by
    show its.toArray[its.length - 1]? = some u
    rw [← Array.getElem?_toList, ← hl]
    exact hu
  refine call_meets F.slot_list_pop ⟨_, e, rfl⟩ F.entry_list_pop (F.args_list_pop_1 _) (MeetsSeq.list_pop_last l its.toArray n u hy' (by rw [List.size_toArray]; lia)) ⟨e, ?_⟩
  refine ⟨y, _, I.lset (its' := its.dropLast) hH e ?_ r.dropLast ?_, ru, q⟩
  · show its.toArray.eraseIdxIfInBounds (its.toArray.size - 1) = its.dropLast.toArray
    rw [List.size_toArray, List.eraseIdxIfInBounds_toArray, erase_last]
  · rw [List.length_dropLast]
    lia

def rPopAt : V → List V → Hp → VK → Prop := fun x vs H Q => ∃ l xs i k y, x = .ref l ∧ vs = [.int i] ∧ H l = some (.lst xs) ∧ -(2 ^ 63) ≤ i ∧ i < 2 ^ 63 ∧ seqIndex? i xs.length = some k ∧ xs[k]? = some y ∧ Q y (upd H l (.lst (xs.eraseIdx k)))
theorem mt_popAt : MtM X "list.pop" rPopAt := by
  intro pins s σ H x vs v us Q I rx rv h
  obtain ⟨l, xs, i, k, y, rfl, rfl, hH, h1, h2, hk, hy, q⟩ := h
  cases rx
  obtain ⟨u, rfl, ru⟩ := rv.one
  obtain ⟨t, rfl⟩ := ru
  obtain ⟨z, its, n, r, hl, e⟩ := I.lstM hH
  obtain ⟨w, hw, rw'⟩ := r.get hy
  refine call_meets F.slot_list_pop ⟨_, e, rfl⟩ F.entry_list_pop (F.args_list_pop_2 _ _)
    (MeetsSeq.list_pop_at l its.toArray n i t k w (fitsIndex_both h1 h2) (by rw [List.size_toArray, ← hl]; exact hk) (by rw [← Array.getElem?_toList]; exact hw) (by rw [List.size_toArray]; lia)) ⟨e, ?_⟩
  refine ⟨y, _, I.lset (its' := its.eraseIdx k) hH e ?_ (r.eraseIdx k) ?_, rw', q⟩
  · show its.toArray.eraseIdxIfInBounds k = (its.eraseIdx k).toArray
    rw [List.eraseIdxIfInBounds_toArray]
  · have := len_erase xs k
    lia

def rReverse : V → List V → Hp → VK → Prop := fun x vs H Q => ∃ l xs, x = .ref l ∧ vs = [] ∧ H l = some (.lst xs) ∧ Q .non (upd H l (.lst xs.reverse))
theorem mt_reverse : MtM X "list.reverse" rReverse := by
  intro pins s σ H x vs v us Q I rx rv h
  obtain ⟨l, xs, rfl, rfl, hH, q⟩ := h
  cases rx
  have hus := rv.zero
  subst hus
  obtain ⟨z, its, n, r, hl, e⟩ := I.lstM hH
  refine call_meets F.slot_list_reverse ⟨_, e, rfl⟩ F.entry_list_reverse (F.args_list_reverse_1 _) (AutoSeq1.list_reverse_list_0 l its.toArray n (by rw [List.size_toArray]; lia)) ⟨e, ?_⟩
  refine ⟨.non, _, I.lset (its' := its.reverse) hH e (by simp) r.reverse ?_, rfl, q⟩
  rw [List.length_reverse]
  lia

def rClear : V → List V → Hp → VK → Prop := fun x vs H Q => ∃ l xs, x = .ref l ∧ vs = [] ∧ H l = some (.lst xs) ∧ Q .non (upd H l (.lst []))
theorem mt_clear : MtM X "list.clear" rClear := by
  intro pins s σ H x vs v us Q I rx rv h
  obtain ⟨l, xs, rfl, rfl, hH, q⟩ := h
  cases rx
  have hus := rv.zero
  subst hus
  obtain ⟨z, its, n, r, hl, e⟩ := I.lstM hH
  refine call_meets F.slot_list_clear ⟨_, e, rfl⟩ F.entry_list_clear (F.args_list_clear_1 _) (AutoSeq1.list_clear_list_0 l its.toArray n (by rw [List.size_toArray]; lia)) ⟨e, ?_⟩
  exact ⟨.non, _, I.lset (its' := []) (ys := []) hH e rfl .nil (Nat.zero_le _), rfl, q⟩

/-! ### list + list, list += list, list * int -/
def rCat : R2 := fun x y H Q => ∃ l b xs zs, x = .ref l ∧ y = .ref b ∧ H l = some (.lst xs) ∧ H b = some (.lst zs) ∧ xs.length + zs.length ≤ sizeLine ∧ ∀ p, H p = none → Q (.ref p) (upd H p (.lst (xs ++ zs)))
theorem op_cat : OpR X (binaryOp .Add) rCat := by
  intro pins s σ H x y v u Q I rx ry h
  obtain ⟨l, b, xs, zs, rfl, rfl, hH, hB, hz, q⟩ := h
  cases rx
  cases ry
  obtain ⟨z, its, n, r, hl, e⟩ := I.lstM hH
  obtain ⟨z2, its2, n2, r2, hl2, e2⟩ := I.lstM hB
  refine PySem.P.add_list e e2 ?_ (by rw [List.size_toArray, List.size_toArray]; lia)
  have ea : its.toArray ++ its2.toArray = (its ++ its2).toArray := by simp
  rw [ea]
  exact ⟨.ref _, _, I.lnew (t' := s.toks) (r.append r2) (by rw [List.length_append]; lia), rfl, q _ I.fresh⟩
/-- a list times an int (a negative one is nothing) -/
def rRep : R2 := fun x y H Q => ∃ l k xs, x = .ref l ∧ y = .int k ∧ H l = some (.lst xs) ∧ -(2 ^ 63) ≤ k ∧ k < 2 ^ 63 ∧ xs.length * k.toNat ≤ sizeLine ∧
  ∀ p, H p = none → Q (.ref p) (upd H p (.lst (List.replicate k.toNat xs).flatten))
theorem len_rep {α : Type} (xs : List α) (k : Nat) : (List.replicate k xs).flatten.length = k * xs.length := by
  induction k with
  | zero => simp
  | succ k ih => rw [List.replicate_succ, List.flatten_cons, List.length_append, ih, Nat.succ_mul, Nat.add_comm]
theorem op_rep : OpR X (binaryOp .Mult) rRep := by
  intro pins s σ H x y v u Q I rx ry h
  obtain ⟨l, k, xs, rfl, rfl, hH, h1, h2, hz, q⟩ := h
  cases rx
  obtain ⟨t, rfl⟩ := ry
  obtain ⟨z, its, n, r, hl, e⟩ := I.lstM hH
  have hlen : its.toArray.size * k.toNat ≤ sizeLine := by rw [List.size_toArray, ← hl]; exact hz
  have hcap : ¬ its.toArray.size * k.toNat > (2 ^ 63 - 1) / 8 := by
    have : (sizeLine : Nat) ≤ (2 ^ 63 - 1) / 8 := by decide
    lia
  have hfit : ¬ (!Builtin.List.listFitsIndex k) = true := by
    rw [fitsIndex_both h1 h2]
    exact Bool.false_ne_true
  have hlong : ¬ Builtin.List.listTooLong (its.toArray.size * k.toNat) = true := by
    rw [notLongL hlen]
    exact Bool.false_ne_true
  have hnew : List.foldl (fun x1 x2 => x1 ++ x2) #[] (List.replicate (if its.toArray.isEmpty = true then 0 else k.toNat) its.toArray) = (List.replicate k.toNat its).flatten.toArray := by
    have f0 : ∀ m : Nat, List.foldl (fun x1 x2 => x1 ++ x2) #[] (List.replicate m its.toArray) = (List.replicate m its).flatten.toArray := fun m => by
      have := foldl_rep its m []
      rw [List.nil_append] at this
      exact this
    rw [f0]
    cases its with
    | nil => simp
    | cons a r' => rw [if_neg (by simp)]
  refine wpAny_binaryOp_repeat_ref (T := "list") (U := "int") (by decide) ⟨_, e, rfl⟩ (fun s' => typeIs_int s' k t) noFill_list_mul F.fills_int_mul F.slot_int_rmul repeat_list F.slot_int_index.lookup
    (call_meets F.slot_int_rmul (typeIs_int s k t) F.entry_int_rmul (F.args_int_rmul_2 _ _) (int___rmul___int_list k t l its.toArray n)
      ⟨e, rfl, ⟨_, e, rfl⟩, call_meets F.slot_list_mul ⟨_, e, rfl⟩ F.entry_list_mul (F.args_list_mul_2 _ _) (AutoListH.list___mul___list_int_3 l its.toArray n k t hfit hcap hlong) ⟨e, ?_⟩⟩)
  rw [hnew]
  exact ⟨.ref _, _, I.lnew (t' := s.toks) (r.rep k.toNat) (by rw [len_rep, Nat.mul_comm]; exact hz), rfl, q _ I.fresh⟩

/-! ### del xs[i] -/
theorem del_list {pins : List (Addr × Obj)} {s : Shared} {σ : St} {H : Hp} {l : Addr} {xs : List V} {i : Int} {t : Tok} {k : Nat} {Q : Unit → Shared → Prop} (I : Inv X pins σ H s) (hH : H l = some (.lst xs))
    (h1 : -(2 ^ 63) ≤ i) (h2 : i < 2 ^ 63) (hk : seqIndex? i xs.length = some k) (h : ∀ s', Inv X pins σ (upd H l (.lst (xs.eraseIdx k))) s' → Q () s') :
    wpAny (model X.prog X.w) X.A (delItem (.ref l) (.int i t)) Q X.xe s := by
  obtain ⟨z, its, n, r, hl, e⟩ := I.lstM hH
  refine PySem.P.delItem_list (k := k) e (fitsIndex_both h1 h2) (by rw [List.size_toArray, ← hl]; exact hk) (h _ ?_) (by rw [List.size_toArray]; lia)
  refine I.lset (its' := its.eraseIdx k) (t' := s.toks) hH e ?_ (r.eraseIdx k) ?_
  · show its.toArray.eraseIdxIfInBounds k = (its.eraseIdx k).toArray
    rw [List.eraseIdxIfInBounds_toArray]
  · have := len_erase xs k
    lia
end

/-! ### xs[a:b] = ys -/
section
variable {prog : Program} {w : World} {A : Around} {E : Value → Shared → Prop} {s : Shared}
theorem splice_eq (its its2 : List Value) (a c : Nat) : its.toArray.extract 0 a ++ its2.toArray ++ its.toArray.extract c its.toArray.size = (its.take a ++ its2 ++ its.drop c).toArray := by
  apply Array.toList_inj.mp
  first
    | (simp
       exact List.take_of_length_le (by simp))
    | simp [List.take_of_length_le]
    | simp
theorem bounds_run {a c n : Nat} (hac : a ≤ c) (hc : c ≤ n) : sliceBounds (some (a : Int)) (some (c : Int)) none n = ((a : Int), (c : Int), 1) := by
  simp only [sliceBounds, Option.getD_none]
  have h1 : ¬ ((a : Int) < 0) := by lia
  have h2 : ¬ ((c : Int) < 0) := by lia
  simp only [h1, h2, if_false, show (1 : Int) > 0 by decide, if_true]
  congr 1
  · lia
  · congr 1; lia
set_option maxRecDepth 100000 in
/-- list.__setitem__ with a slice of step one and another list -/
theorem setItem_slice {l b sl : Addr} {items new : Array Value} {n n2 : Nat} {vl vu : Value} {a c : Nat} {Q : Unit → Shared → Prop}
    (e : s.heap.get? l = some { cls := .type "list", data := .seq items n }) (e2 : s.heap.get? b = some { cls := .type "list", data := .seq new n2 }) (hne : l ≠ b)
    (hs : s.heap.IsSliceOf sl vl vu .none) (pl : IsPart vl (some (a : Int))) (pu : IsPart vu (some (c : Int))) (hac : a ≤ c) (hc : c ≤ items.size)
    (hsz : items.size + new.size ≤ sizeLine) (h : Q () { s with heap := s.heap.update l (Obj.mapSeq fun xs => xs.extract 0 a ++ new ++ xs.extract c xs.size) }) :
    wpAny (model prog w) A (setItem (.ref l) (.ref sl) (.ref b)) Q E s := by
  have hl : s.heap.IsList l items := PySem.IsL.isList e
  have hb : s.heap.IsList b new := PySem.IsL.isList e2
  obtain ⟨os, hos, hcs, hds⟩ := id hs
  have hTs : s.TypeIs (.ref sl) "slice" := ⟨os, hos, hcs⟩
  have hstep : ¬ ((rawPart none == rawInt 0) = true) := Bool.false_ne_true
  have hsame : Builtin.List.listSameRef (.ref l) (.ref b) = false := by
    unfold Builtin.List.listSameRef
    exact beq_eq_false_iff_ne.mpr hne
  have hmax : (max (a : Int) (c : Int)).toNat = c := by lia
  have hz' : ((fun xs : Array Value => xs.extract 0 a ++ new ++ xs.extract c xs.size) items).size ≤ sizeLine + 1 := by
    simp only [Array.size_append, Array.size_extract]
    lia
  unfold setItem
  try with_reducible refine wpAny_holding ?_
  first | refine wpAny_bind (wpAny_pure ?_) | skip
  refine wpAny_bind (wpAny_sequenceKey hl.typeIs (by decide) ?_)
  refine wpAny_bind (wpAny_callSpecial?_slot (name := Str.ofString "__setitem__") hl.typeIs slot_list_setitem
    (wpAny_call_entry slot_list_setitem hl.typeIs entry_list_setitem ?_ (args_list_setitem _ _ _)))
  show wpAny _ _ (Builtin.List.listSubscript? (.ref sl) >>= _) _ _ s
  refine wpAny_bind ?_
  unfold Builtin.List.listSubscript?
  refine wpAny_bind (wpAny_specialOf hTs slice_no_index ?_)
  simp only [Option.isNone_none, if_true]
  refine wpAny_pure ?_
  show wpAny _ _ (typeOf (.ref sl) >>= _) _ _ s
  refine wpAny_bind (wpAny_typeOf hTs ?_)
  first
    | rw [if_neg (by decide)]
    | refine PySem.W.KFB.if_not (by decide) ?_
  rw [listSliceParts_eq]
  refine wpAny_bind (wpAny_bind (wpAny_field hos hds (x := .none) rfl (wpAny_bind (wpAny_listPart .none ?_))))
  rw [if_neg hstep]
  refine wpAny_bind (wpAny_field hos hds (x := vl) rfl (wpAny_bind (wpAny_listPart pl ?_)))
  refine wpAny_bind (wpAny_field hos hds (x := vu) rfl (wpAny_bind (wpAny_listPart pu (wpAny_pure ?_))))
  first
    | simp only [hsame, Bool.false_eq_true, if_false]
    | refine PySem.W.KFB.if_not hsame ?_
    | (dsimp only
       rw [if_neg (by rw [hsame]; exact Bool.false_ne_true)])
  refine wpAny_bind (m := Builtin.List.listAllItems (.ref b) "must assign iterable to extended slice") ?_
  unfold Builtin.List.listAllItems
  refine wpAny_bind (wpAny_typeOf hb.typeIs ?_)
  first
    | refine PySem.W.KFB.if_so (by decide) ?_
    | rw [if_pos (by decide)]
    | simp only [beq_self_eq_true, Bool.true_or, if_true]
  unfold Builtin.List.listItems
  refine wpAny_bind (wpAny_seqItems e2 rfl (wpAny_pure ?_))
  refine wpAny_bind (wpAny_bind (wpAny_seqItems e rfl (wpAny_pure ?_)))
  refine wpAny_bind (wpAny_of_eq ((sliceIndices_raw (some (a : Int)) (some (c : Int)) none items.size (by simp)).trans (congrArg (pure : Int × Int × Int → Sem (Int × Int × Int)) (bounds_run hac hc))) ?_)
  show wpAny _ _ (if ((1 : Int) == 1) = true then _ else _) _ _ s
  rw [if_pos (by decide)]
  refine wpAny_bind (wpAny_rule ?_)
  first
    | simp only [notLongL hsz, Bool.false_eq_true, if_false]
    | refine PySem.W.KFB.if_not (notLongL hsz) ?_
  first | refine wpAny_bind (wpAny_pure ?_) | skip
  show wpAny _ _ (updateSeq l (fun xs => xs.extract 0 ((a : Int)).toNat ++ new ++ xs.extract (max (a : Int) (c : Int)).toNat xs.size) >>= _) _ _ s
  rw [hmax, Int.toNat_natCast]
  refine wpAny_bind (wpAny_updateSeq (hz := Nat.le_trans (Nat.le_add_right _ _) hsz) (_hz' := hz') e rfl ?_)
  refine wpAny_bind (wpAny_letGo ?_)
  first
    | exact wpAny_bind (wpAny_pure (wpAny_pure ⟨.none, rfl, wpAny_pure h⟩))
    | exact wpAny_pure ⟨.none, rfl, wpAny_pure h⟩
end

section
variable {X : Cx}
/-- xs[a:c] = ys of another list, at the value level: sl is the slice object that was just made -/
theorem set_slice {pins : List (Addr × Obj)} {s : Shared} {σ : St} {H : Hp} {l b sl : Addr} {xs ys : List V} {a c : Int} {vl vu : Value} {Q : Unit → Shared → Prop} (I : Inv X pins σ H s)
    (hH : H l = some (.lst xs)) (hB : H b = some (.lst ys)) (hne : l ≠ b) (hs : s.heap.IsSliceOf sl vl vu .none) (ra : RelV (.int a) vl) (rc : RelV (.int c) vu) (h0 : 0 ≤ a) (hac : a ≤ c) (hc : c ≤ xs.length)
    (hz : xs.length + ys.length ≤ sizeLine) (h : ∀ s', Inv X pins σ (upd H l (.lst (xs.take a.toNat ++ ys ++ xs.drop c.toNat))) s' → Q () s') :
    wpAny (model X.prog X.w) X.A (setItem (.ref l) (.ref sl) (.ref b)) Q X.xe s := by
  obtain ⟨ta, rfl⟩ := ra
  obtain ⟨tc, rfl⟩ := rc
  obtain ⟨z, its, n, r, hl, e⟩ := I.lstM hH
  obtain ⟨z2, its2, n2, r2, hl2, e2⟩ := I.lstM hB
  obtain ⟨a', rfl⟩ := Int.eq_ofNat_of_zero_le h0
  obtain ⟨c', rfl⟩ := Int.eq_ofNat_of_zero_le (Int.le_trans h0 hac)
  simp only [Int.toNat_natCast] at h
  refine setItem_slice (a := a') (c := c') e e2 hne hs (.int _ _) (.int _ _) (by lia) (by rw [List.size_toArray]; lia) (by rw [List.size_toArray, List.size_toArray]; lia) (h _ ?_)
  refine I.lset (its' := its.take a' ++ its2 ++ its.drop c') (t' := s.toks) hH e ?_ (Vals.append (Vals.append (r.take _) r2) (r.drop _)) ?_
  · exact splice_eq its its2 a' c'
  · rw [List.length_append, List.length_append, List.length_take, List.length_drop]
    lia
end
end L2

namespace Att
open PySem PySem.W PySem.Calls PyProof.Rows

/-! ### the script -/
theorem ints_of_wellAll : ∀ (ns : List Int) (vs : List Value), WellAll P h vs (ns.map WData.int) → IntsAre vs ns := by
  intro ns
  induction ns with
  | nil =>
    intro vs w
    rw [List.map_nil] at w
    cases w
    exact .nil
  | cons n ns ih =>
    intro vs w
    rw [List.map_cons] at w
    cases w with
    | cons a b =>
      cases a
      exact .cons _ _ (ih _ b)

theorem script_of {l : OpenLaw} {n : Nat} (hn : l.most = some n) {P : Params} {h : Heap} {args : List WData} {vals : List Value}
    (hpre : l.row.toRowW.claim.pre args = true) (hwl : WellAll P h vals args) :
    ∃ a vs ns, vals = [Value.ref a] ∧ args = [WData.list (ns.map WData.int)] ∧ h.get? a = some { cls := .type "list", data := .seq vs.toArray } ∧ IntsAre vs ns ∧ ns.length ≤ n := by
  have hsh : WShape.hasAll [] args [.list .int] = true := (pre_splitW hpre).1
  have hc : l.pre.holds [] { args := args } = true := (pre_splitW hpre).2
  obtain ⟨d, r, rfl, h1, h2⟩ := hasAllW_cons hsh
  obtain rfl := hasAllW_nil h2
  obtain ⟨xs, rfl, h3⟩ := hasW_list h1
  obtain ⟨ns, rfl⟩ := items_int h3
  have hlen : ns.length ≤ n := by
    unfold OpenLaw.pre at hc
    have h4 : (WTm.not (.lt (.lit (.int (n : Int))) (.len (.arg 0)))).holds [] { args := [.list (ns.map .int)] } = true := by
      have h4 := (holds_andW hc).1
      rw [hn] at h4
      exact h4
    have h5 := condW_of h4 (w_not (w_lt w_lit (w_len_list (w_arg rfl))))
    rw [List.length_map] at h5
    refine Nat.le_of_not_lt fun q => ?_
    have q' : (n : Int) < ((ns.length : Nat) : Int) := by lia
    first
      | (rw [decide_eq_true q'] at h5; exact absurd h5 (by decide))
      | (simp at h5; lia)
  cases hwl with
  | cons w1 w2 =>
    cases w2
    cases w1 with
    | list ho hall => exact ⟨_, _, ns, rfl, rfl, ho, ints_of_wellAll ns _ hall, hlen⟩

theorem post_true (l : OpenLaw) (args : List WData) : l.row.toRowW.claim.post args (.bool true) args = true :=
  postW_of (r := l.row.toRowW) (X := (true == true))
    (show WShape.has [] (.bool true) .bool = true by first | rfl | decide | simp [WShape.has, WShape.arms, WShape.armsAll])
    (show (WTm.eq .res (.lit (.bool true))).value [] { args := args, res := some (.bool true), after := args } = some (.bool (true == true)) from w_eq_bool (w_res rfl) w_lit) rfl

/-! ### the attachment: holds_open's last premise (the goal 'hc' behind k_head) from a wpAny of the law's body -/
theorem attach {l : OpenLaw} {n : Nat} {q : Program} {loose : List Str} {XP : (Str → Option Value) → Heap → Prop} {YP : World → Heap → Prop} {d : DefRec} {x : Str}
    (hn : l.most = some n) (hdf : d.params.defaults = [])
    (hbind : ∀ pm cd doc v : Value, bindArgs (docDef d.name d.params d.body d.scope pm cd doc) ⟨[v], []⟩ = pure [(x, v)])
    (hx : d.scope.names.lookup x = some .local ∨ d.scope.names.lookup x = some .cell)
    (hk : d.scope.kind = .function) (hco : d.scope.isCoroutine = false) (hgen : d.scope.isGenerator = false)
    (body : ∀ (w : World) (s₀ s₁ s : Shared) (mg mb : Str → Option Value) (fa : Addr) (o : Obj) (pm cd doc : Value) (a : Addr) (vs : List Value) (ns : List Int),
      Ground q loose [] XP w s₀ mg mb s₁.heap → YP w s₁.heap →
      s₁.heap.get? fa = some o → o.data = .func (docDef d.name d.params d.body d.scope pm cd doc) → s₁.heap.CodeRec cd d.name → mg d.name = some (.ref fa) →
      s₁.heap.get? a = some { cls := .type "list", data := .seq vs.toArray } → IntsAre vs ns → ns.length ≤ n →
      s.gens = #[] → s.os = s₁.os →
      Fr s₁.heap s₁.heap.objs.size s.heap (bindL (envOfC d.name d.scope s₁.heap.objs.size fa cd).kindOf [(x, .ref a)] fun _ => none) →
      Cl s₁.heap.objs.size (cellsFrom (s₁.heap.objs.size + 1) d.scope.names []) s.heap (bindC (envOfC d.name d.scope s₁.heap.objs.size fa cd).kindOf [(x, .ref a)] fun _ => none) →
      wpAny (model l.prog w) (callerA.deeper (envOfC d.name d.scope s₁.heap.objs.size fa cd)) (execs d.body (envOfC d.name d.scope s₁.heap.objs.size fa cd))
        (fun f s' => f = .ret (.bool true) ∧ OldK s₁.heap s'.heap ∧ s'.os = s₁.os ∧ AllBare s'.gens) (fun _ _ => False) s) :
    WalkO q loose XP YP l.row.toRowW d [] (fun f vs => PySem.call f vs) := by
  intro w s₀ s₁ mg mb G Y fa o pm cd doc dV kV ho hd hcd hD hmg hg args vals as hpre hlay hrd hwl hlo
  obtain rfl : dV = .none := Dflts.none hD hdf
  obtain rfl : kV = .none := Dflts.noKw hD
  obtain ⟨a, vs, ns, rfl, rfl, hobj, hints, hlen⟩ := script_of hn hpre hwl
  refine enter_call ?_
  refine call_cells_ret (o := o) (by rw [depth_caller]; decide) ho (fd_plain hd) G.T.nolimit hcd (hbind pm cd doc (.ref a)) (fun y hy => ?_) (fun h₁ tk F X => ?_) hco hgen hk
  · obtain rfl : y = (x, Value.ref a) := List.mem_singleton.mp hy
    rcases hx with e | e
    · exact .inl e
    · exact .inr ⟨e, cellsFrom_some _ _ _ (.inl e)⟩
  · refine wpAny_mono (body w s₀ s₁ { s₁ with heap := h₁, toks := tk } mg mb fa o pm cd doc a vs ns G Y ho (fd_plain hd) hcd hmg hobj hints hlen hg rfl F X) (fun f s' hq => ?_) (fun _ _ hq => hq)
    obtain ⟨rfl, h2, h3, h4⟩ := hq
    exact ⟨.inl ⟨.bool true, .bool true, [], rfl, fun _ => rfl, .bool true, post_true l _, fun _ => ⟨List.Pairwise.nil, fun _ hm => (nomatch hm)⟩⟩, h2, h3, h4⟩

/-- the same from a codeAny of the CALL (for a layer whose function contracts speak of calls) -/
theorem attach_call {l : OpenLaw} {n : Nat} {q : Program} {loose : List Str} {XP : (Str → Option Value) → Heap → Prop} {YP : World → Heap → Prop} {d : DefRec}
    (hn : l.most = some n) (hdf : d.params.defaults = [])
    (call : ∀ (w : World) (s₀ s₁ : Shared) (mg mb : Str → Option Value) (fa : Addr) (o : Obj) (pm cd doc : Value) (a : Addr) (vs : List Value) (ns : List Int),
      Ground q loose [] XP w s₀ mg mb s₁.heap → YP w s₁.heap →
      s₁.heap.get? fa = some o → o.data = .func (docDef d.name d.params d.body d.scope pm cd doc) → s₁.heap.CodeRec cd d.name → mg d.name = some (.ref fa) →
      s₁.heap.get? a = some { cls := .type "list", data := .seq vs.toArray } → IntsAre vs ns → ns.length ≤ n → s₁.gens = #[] →
      codeAny (model l.prog w) callerA (.call (.ref fa) ⟨[.ref a], []⟩) (fun r s' => r = .ok (.ret (.bool true)) ∧ OldK s₁.heap s'.heap ∧ s'.os = s₁.os ∧ AllBare s'.gens) s₁) :
    WalkO q loose XP YP l.row.toRowW d [] (fun f vs => PySem.call f vs) := by
  intro w s₀ s₁ mg mb G Y fa o pm cd doc dV kV ho hd hcd hD hmg hg args vals as hpre hlay hrd hwl hlo
  obtain rfl : dV = .none := Dflts.none hD hdf
  obtain rfl : kV = .none := Dflts.noKw hD
  obtain ⟨a, vs, ns, rfl, rfl, hobj, hints, hlen⟩ := script_of hn hpre hwl
  refine enter_call (codeAny_mono (call w s₀ s₁ mg mb fa o pm cd doc a vs ns G Y ho (fd_plain hd) hcd hmg hobj hints hlen hg) fun r s' hq => ?_)
  obtain ⟨rfl, h2, h3, h4⟩ := hq
  exact ⟨.inl ⟨.bool true, .bool true, [], rfl, fun _ => rfl, .bool true, post_true l _, fun _ => ⟨List.Pairwise.nil, fun _ hm => (nomatch hm)⟩⟩, h2, h3, h4⟩

/-- the same where the top left finished generators (o_head chose holds_openN): nothing may have changed at all and no generator may be left -/
theorem attachN {l : OpenLaw} {n : Nat} {q : Program} {loose : List Str} {XP : (Str → Option Value) → Heap → Prop} {YP : World → Heap → Prop} {d : DefRec} {x : Str}
    (hn : l.most = some n) (hdf : d.params.defaults = [])
    (hbind : ∀ pm cd doc v : Value, bindArgs (docDef d.name d.params d.body d.scope pm cd doc) ⟨[v], []⟩ = pure [(x, v)])
    (hx : d.scope.names.lookup x = some .local ∨ d.scope.names.lookup x = some .cell)
    (hk : d.scope.kind = .function) (hco : d.scope.isCoroutine = false) (hgen : d.scope.isGenerator = false)
    (body : ∀ (w : World) (s₀ s₁ s : Shared) (mg mb : Str → Option Value) (fa : Addr) (o : Obj) (pm cd doc : Value) (a : Addr) (vs : List Value) (ns : List Int),
      Ground q loose [] XP w s₀ mg mb s₁.heap → YP w s₁.heap →
      s₁.heap.get? fa = some o → o.data = .func (docDef d.name d.params d.body d.scope pm cd doc) → s₁.heap.CodeRec cd d.name → mg d.name = some (.ref fa) →
      s₁.heap.get? a = some { cls := .type "list", data := .seq vs.toArray } → IntsAre vs ns → ns.length ≤ n →
      s.gens = #[] → s.os = s₁.os →
      Fr s₁.heap s₁.heap.objs.size s.heap (bindL (envOfC d.name d.scope s₁.heap.objs.size fa cd).kindOf [(x, .ref a)] fun _ => none) →
      Cl s₁.heap.objs.size (cellsFrom (s₁.heap.objs.size + 1) d.scope.names []) s.heap (bindC (envOfC d.name d.scope s₁.heap.objs.size fa cd).kindOf [(x, .ref a)] fun _ => none) →
      wpAny (model l.prog w) (callerA.deeper (envOfC d.name d.scope s₁.heap.objs.size fa cd)) (execs d.body (envOfC d.name d.scope s₁.heap.objs.size fa cd))
        (fun f s' => f = .ret (.bool true) ∧ (∀ b o, s₁.heap.get? b = some o → s'.heap.get? b = some o) ∧ s'.os = s₁.os ∧ s'.gens = #[]) (fun _ _ => False) s) :
    WalkN q loose XP YP l.row.toRowW d [] (fun f vs => PySem.call f vs) := by
  intro w s₀ s₁ mg mb G Y fa o pm cd doc dV kV ho hd hcd hD hmg hg args vals as hpre hlay hrd hwl hlo
  obtain rfl : dV = .none := Dflts.none hD hdf
  obtain rfl : kV = .none := Dflts.noKw hD
  obtain ⟨a, vs, ns, rfl, rfl, hobj, hints, hlen⟩ := script_of hn hpre hwl
  refine enter_callW ?_
  refine call_cells_ret (o := o) (by rw [depth_caller]; decide) ho (fd_plain hd) G.T.nolimit hcd (hbind pm cd doc (.ref a)) (fun y hy => ?_) (fun h₁ tk F X => ?_) hco hgen hk
  · obtain rfl : y = (x, Value.ref a) := List.mem_singleton.mp hy
    rcases hx with e | e
    · exact .inl e
    · exact .inr ⟨e, cellsFrom_some _ _ _ (.inl e)⟩
  · refine wpAny_mono (body w s₀ s₁ { s₁ with heap := h₁, toks := tk } mg mb fa o pm cd doc a vs ns G Y ho (fd_plain hd) hcd hmg hobj hints hlen hg rfl F X) (fun f s' hq => ?_) (fun _ _ hq => hq)
    obtain ⟨rfl, h2, h3, h4⟩ := hq
    exact ⟨.inl ⟨.bool true, .bool true, [], rfl, fun _ => rfl, .bool true, post_true l _, fun _ => ⟨List.Pairwise.nil, fun _ hm => (nomatch hm)⟩⟩, h2, h3, h4⟩

/-! ### rules over ANY heap (no ledger) from facts about the written part K: the library's own take a ledger (News) for what they write -/
section
variable {prog : Program} {w : World} {A : Around} {E : Value → Shared → Prop} {s : Shared} {K : Frag}

/-- a def of the module, or a method (qual 'C.m'), entered: the frame is the next address; cells behind it -/
theorem call_fn {R : Result → Shared → Prop} (X : K.In s.heap) (hlim : s.heap.NoLimit) (ho : K.lookup f = some ⟨oc, od, .func (fnOf name qual params body scope dV kV doc pm an cdv ct), osl⟩) (hcd : codeIn K cdv qual = true) (hroom : A.depth < recursionLimit) (hbind : BindsTo s (fnOf name qual params body scope dV kV doc pm an cdv ct) args binds) (hkind : (binds.all fun y => scope.names.lookup y.1 == some .local || scope.names.lookup y.1 == some .cell) = true) (h : ∀ s₁, InCallC s s.heap.objs.size (bindL (envOfC qual scope s.heap.objs.size f cdv).kindOf binds fun _ => none) (cellsFrom (s.heap.objs.size + 1) scope.names [])
        (bindC (envOfC qual scope s.heap.objs.size f cdv).kindOf binds fun _ => none) s₁ →
      wpAny (model prog w) (A.deeper (envOfC qual scope s.heap.objs.size f cdv)) (execs body (envOfC qual scope s.heap.objs.size f cdv))
        (fun fl s' => R (.ok (.ret (match fl with | .ret v => v | _ => .none))) s')
        (fun e s' => wpAny (model prog w) (A.deeper (envOfC qual scope s.heap.objs.size f cdv)) (leaving (envOfC qual scope s.heap.objs.size f cdv) e) (fun _ s'' => R (.error e) s'') (fun e' s'' => R (.error e') s'') s') s₁) (hco : scope.isCoroutine = false) (hgen : scope.isGenerator = false) (hk : scope.kind = .function) : codeAny (model prog w) A (.call (.ref f) args) R s := by
  refine codeAny_call_function hroom (X _ _ ho) rfl hco hgen rfl (codeRec_of X hcd) (hbind _ _ _ _ ?_)
  refine wpAny_newFunctionEnv_cells hk (kindsX hkind _) fun env he s₁ x => ?_
  subst he
  exact ⟨hlim.keeps x.toInCall.keep, codeAny_func (h s₁ x)⟩

/-- C(..): dict at size, instance at size + 1, then __init__ -/
theorem make_obj {R : Result → Shared → Prop} (X : K.In s.heap) (hm : makesIn K C = true) (hi : findIn K (.ref C) "__init__" = some (some (.ref fI))) (hf : isFn K (.ref fI) = true) (h : codeAny (model prog w) (A.under (.builtin "type.__call__" ⟨.ref C :: rest, kw⟩)) (.call (.ref fI) ⟨.ref (s.heap.objs.size + 1) :: rest, kw⟩) (InitBack (s.heap.objs.size + 1) R)
      { s with heap := (s.heap.push emptyDict).push (instObj C s.heap.objs.size) }) : codeAny (model prog w) A (.call (.ref C) ⟨rest, kw⟩) R s := by
  obtain ⟨hh, g, d, t, os⟩ := s
  exact make_core (makes_of X hm) (looks_findIn X hi) (fun self => bind_fn X self (beq_iff_eq.mp hf)) (.inl rfl) h

/-- x.name where the instance's dict holds the name and the class does not -/
theorem get_field {Q : Value → Shared → Prop} (X : K.In s.heap) (I : PySem.W.InstAt s.heap x ox C (some (dictOf es n))) (hg : plainGet K C name = true) (hh : hasDictIn K C = true) (ha : findIn K (.ref C) name = some none) (hl : getL name es = some (some v)) (hv : handedIn v = true) (h : Q v { s with toks := s.toks + 1 }) : wpAny (model prog w) A (getAttr (.ref x) name expr) Q E s :=
  get_value X I (plainGet_of hg).1 (findObj_own hh ha rfl hl) hv h

/-- x.m(..): the method found in the class -/
theorem get_method {Q : Value × List Value → Shared → Prop} (X : K.In s.heap) (I : PySem.W.InstAt s.heap x ox C (some (dictOf es n))) (hg : plainGet K C name = true) (hf : findIn K (.ref C) name = some (some (.ref f))) (ht : isFn K (.ref f) = true) (hl : getL name es = some none) (h : Q (.ref f, [.ref x]) s) : wpAny (model prog w) A (getMethod (.ref x) name pl) Q E s :=
  method_fn X I (plainGet_of hg).1 (plainGet_of hg).2 hf (beq_iff_eq.mp ht) (by show (lookIn name (dictOf es n)).map _ = _; rw [lookIn_dict, hl]; rfl) h

/-! the whole heap as the ledger: makes every rule that writes through a ledger a rule over any heap -/
def noObjs (h : Heap) : Heap := { h with objs := #[] }
theorem noObjs_get (h : Heap) (b : Addr) : (noObjs h).get? b = none := by
  cases e : (noObjs h).get? b with
  | none => rfl
  | some o => exact absurd (Heap.lt_size e) (Nat.not_lt_zero _)
def ledger (h : Heap) (L d : Addr) : List (Addr × Obj) := (List.range h.objs.size).filterMap fun a => if a = L ∨ a = d then none else (h.get? a).map fun o => (a, o)
theorem mem_ledger : (a, o) ∈ ledger h L d ↔ a ≠ L ∧ a ≠ d ∧ h.get? a = some o := by
  unfold ledger
  rw [List.mem_filterMap]
  constructor
  · rintro ⟨b, _, e⟩
    split at e
    · cases e
    · rename_i hb
      obtain ⟨o', ho, e'⟩ := Option.map_eq_some_iff.mp e
      cases e'
      exact ⟨fun q => hb (.inl q), fun q => hb (.inr q), ho⟩
  · rintro ⟨n1, n2, ho⟩
    refine ⟨a, List.mem_range.mpr (Heap.lt_size ho), ?_⟩
    rw [if_neg (show ¬ (a = L ∨ a = d) from fun q => q.elim n1 n2), ho] <;> rfl
theorem news_ledger (hne : d ≠ L) (ho : h.get? d = some od) : News (noObjs h) L h ([] ++ (d, od) :: ledger h L d) := by
  rintro ⟨a, o⟩ hp
  rcases List.mem_cons.mp hp with e | hp
  · cases e
    exact ⟨ho, hne, noObjs_get _ _⟩
  · obtain ⟨n1, n2, e⟩ := mem_ledger.mp hp
    exact ⟨e, n1, noObjs_get _ _⟩
theorem fr_all (n : h.Ns L m) : Fr (noObjs h) L h m :=
  ⟨n, fun b o e => (by rw [noObjs_get] at e; cases e), Nat.zero_le _⟩
/-- Upd of the head entry (for append_K, setItem_K ..) -/
theorem upd_ledger : Upd d o o' ((d, o) :: ledger h L d) ((d, o') :: ledger h L d) :=
  .head fun ⟨_, _⟩ hp => (mem_ledger.mp hp).2.1

/-- x.name = v over any heap: L is any namespace of the heap (the frame's, say): its map stays, its object is not told; all else but the dict stays -/
theorem set_field {Q : Unit → Shared → Prop} (X : K.In s.heap) (I : PySem.W.InstAt s.heap x ox C (some (dictOf es n))) (hd : ox.dict = some dx) (hL : s.heap.Ns L m) (hne : dx ≠ L) (hs : findIn K (.ref C) "__setattr__" = some (some (.builtin "object.__setattr__"))) (hp : plainOver K C = true) (ht : takerIn K C name = some none) (hh : hasDictIn K C = true) (hl : (getL name es).isSome = true) (e : (putL name (PyData.keyHash w.params name) (.str name (s.toks + 1)) v es, putN name es n) = (es', n')) (hz : es'.length ≤ 1000) (h : ∀ h' : Heap, h'.Ns L m → h'.get? dx = some (dictOf es' n') → (∀ b o, b ≠ dx → b ≠ L → s.heap.get? b = some o → h'.get? b = some o) → Q () { s with heap := h', toks := s.toks + 2 }) :
    wpAny (model prog w) A (setAttr (.ref x) name v) Q E s := by
  obtain ⟨e1, e2⟩ := Prod.mk.inj e
  have hdx : s.heap.get? dx = some (dictOf es n) := by
    have := I.dict
    rw [hd] at this
    exact this
  refine set_plain X I hs (osa_dict (s := { s with toks := s.toks + 1 }) (h₀ := noObjs s.heap) (L := L) (m := m) (od := dictOf es n) (od' := dictOf es' n') (es := es') (n := n') (pre := []) (post := ledger s.heap L dx)
    (fr_all hL) (news_ledger hne hdx) X I hd hp ht hh hl (fun _ q => nomatch q) (fun ⟨_, _⟩ q => (mem_ledger.mp q).2.1) (by rw [putName_dict, e1, e2]) rfl hz fun h' F' N' => ?_)
  exact h h' F'.ns (N'.get (List.Mem.head _)) fun b o n1 n2 ho => N'.get (List.Mem.tail _ (mem_ledger.mpr ⟨n2, n1, ho⟩))
end
end Att

namespace L2
open PySem PySem.Spec PyProof.Rows

theorem vals_ints : ∀ {vs : List Value} {ns : List Int}, IntsAre vs ns → Vals (ns.map V.int) vs
  | _, _, .nil => .nil
  | _, _, .cons n t h => .cons ⟨t, rfl⟩ (vals_ints h)

/-- nothing is tracked but the script, known to the object (or it is an object of the module) -/
def Only (H : Hp) : Prop := ∀ b, H b = none ∨ ∃ o xs, H b = some (.frz o (.lst xs))

/-- THE HEAD: the law's promise, at the heap behind the top. F, the promise of the law's def, may use that base is part of the heap (so K.In base, base.Ns mainGlobals mg stand in Mod) -/
theorem law_call {P : Program} {w : World} {K : PySem.W.Frag} {mg mb : Str → Option Value} {CX : CXT} {k : Nat} {fa a : Addr} {fd : FuncData} {x : Str} {sp : Sp} {s₁ : Shared} {vs : List Value} {ns : List Int}
    (KX : K.In s₁.heap) (hns : s₁.heap.Ns mainGlobals mg) (hb : s₁.heap.Ns builtinsNs mb) (hbb : ∀ x : Str, x ≠ "__name__" → mb x = bootBuiltins x) (hlim : s₁.heap.NoLimit) (hg : s₁.gens = #[])
    (ha : s₁.heap.get? a = some { cls := .type "list", data := .seq vs.toArray }) (hi : IntsAre vs ns) (hl : ns.length ≤ sizeLine) (hr : Room k callerA)
    (F : ∀ base : Heap, K.In base → base.Ns mainGlobals mg → FnOk P w K mg base CX k fa fd [x] sp) (hbind : ∀ (s : Shared) (u : Value), BindsTo s fd ⟨[u], []⟩ [(x, u)])
    (hsp : ∀ H : Hp, Only H → SqL K H a (ns.map V.int) → sp [.ref a] H (fun v _ => v = .bl true) fun _ _ _ => False)
    (hCX : ∀ H e s', CX [] H s₁ (fun _ _ _ => False) e s' → False) :
    codeAny (model P w) callerA (.call (.ref fa) ⟨[.ref a], []⟩) (fun r s' => r = .ok (.ret (.bool true)) ∧ OldK s₁.heap s'.heap ∧ s'.os = s₁.os ∧ AllBare s'.gens) s₁ := by
  have rv := vals_ints hi
  have lenV := hi.length
  -- from an abstract heap in which nothing but the script may be tracked
  have core : ∀ H : Hp, Only H → SqL K H a (ns.map V.int) → HOk P w H s₁.heap → (∀ b, H b ≠ none → b = a) → (H a ≠ none → K.lookup a = none) →
      codeAny (model P w) callerA (.call (.ref fa) ⟨[.ref a], []⟩) (fun r s' => r = .ok (.ret (.bool true)) ∧ OldK s₁.heap s'.heap ∧ s'.os = s₁.os ∧ AllBare s'.gens) s₁ := by
    intro H hO hS hok hA hK
    have base_of : ∀ {b : Addr} {o : Obj}, s₁.heap.get? b = some o → H b = none → (hidT s₁.heap H).get? b = some o := fun e n => hidT_get e n
    have noA : ∀ {b : Addr} {o : Obj} {es : Array DictEntry} {ep : Nat}, s₁.heap.get? b = some o → o.data = .dict es ep → H b = none := fun {b o es ep} e d => by
      cases q : H b with
      | none => rfl
      | some u =>
        have e' : b = a := hA b (by rw [q]; simp)
        subst e'
        rw [ha] at e; cases e
        have d' : Data.seq vs.toArray _ = Data.dict es ep := d
        cases d'
    have nsK : ∀ {b : Addr} {m : Str → Option Value}, s₁.heap.Ns b m → (hidT s₁.heap H).Ns b m := fun {b m} ⟨o, es, ep, e, d, r⟩ => ⟨o, es, ep, base_of e (noA e d), d, r⟩
    have hKb : K.In (hidT s₁.heap H) := fun b o e => base_of (KX b o e) (by
      cases q : H b with
      | none => rfl
      | some u =>
        have e' : b = a := hA b (by rw [q]; simp)
        subst e'
        rw [hK (by rw [q]; simp)] at e; cases e)
    have hM : Mod K mg (hidT s₁.heap H) := ⟨hKb, nsK hns, ⟨mb, nsK hb, hbb⟩, let ⟨mc, h1, h2⟩ := hlim; ⟨mc, nsK h1, h2⟩⟩
    have e0 : Env0 P w K mg (hidT s₁.heap H) callerA [] s₁ H := ⟨rfl, hM, fun b o e => of_hidT e, Nat.le_of_eq (hidT_size _ _), trivial, fun b hb => absurd (show b ∈ ([] : List Addr) from hb) (by simp), hok, .of_eq hg⟩
    refine codeAny_mono ((F _ hKb (nsK hns)).run callerA [] s₁ H ⟨[.ref a], []⟩ [.ref a] [.ref a] _ _ hr e0 (hbind s₁ (.ref a)) (.cons rfl .nil) (hsp H hO hS)) fun r s' h => ?_
    cases r with
    | error e => exact (hCX H e s' h).elim
    | ok fl =>
      cases fl with
      | next => exact False.elim h
      | brk => exact False.elim h
      | cont => exact False.elim h
      | ret u =>
        obtain ⟨v, H', os, bare, un, hok', r', q⟩ := h
        have q' : v = .bl true := q
        subst q'
        obtain rfl : u = Value.bool true := r'
        refine ⟨rfl, OldK.of_keep fun b o e => ?_, os, bare⟩
        cases q : H b with
        | none => exact un.keep b o e q (by intro z; exact absurd (show b ∈ ([] : List Addr) from z) (by simp)) (by simp)
        | some u =>
          rcases hO b with z | ⟨ob, xs, z⟩
          · rw [q] at z; cases z
          · have z2 := un.frzs b ob _ z
            obtain ⟨e1, _⟩ := hok b _ z
            obtain ⟨e2, _⟩ := hok' b _ z2
            rw [e] at e1; cases e1
            exact e2
  cases hk : K.lookup a with
  | some o =>
    -- the script is one of the module's own objects
    have e := KX a o hk
    rw [ha] at e
    cases e
    refine core (fun _ => none) (fun _ => .inl rfl) (.inr ⟨_, vs.toArray, _, hk, rfl, rfl, rfl, by rw [List.size_toArray, lenV]; exact hl, by simpa using rv⟩) (fun b u z => by have z' : (none : Option HO) = some u := z; cases z') (fun b z => absurd rfl z) fun z => absurd rfl z
  | none =>
    refine core (fun b => if b = a then some (.frz { cls := .type "list", data := .seq vs.toArray } (.lst (ns.map V.int))) else none) (fun b => ?_) (.inl (.inr ⟨{ cls := .type "list", data := .seq vs.toArray }, if_pos rfl⟩)) (fun b u z => ?_) (fun b z => ?_) fun _ => hk
    · by_cases hb : b = a
      · exact .inr ⟨_, _, if_pos hb⟩
      · exact .inl (if_neg hb)
    · by_cases hb : b = a
      · have z' := (if_pos hb).symm.trans z
        cases z'
        subst hb
        exact ⟨ha, by rw [List.length_map]; exact hl, vs, _, rv, ha⟩
      · have z' := (if_neg hb).symm.trans z
        cases z'
    · by_cases hb : b = a
      · exact hb
      · exact absurd (if_neg hb) z
end L2

namespace L2
open PySem PySem.Spec PyProof.Rows

abbrev KOf {K : PySem.W.Frag} {h : Heap} (_ : K.In h) : PySem.W.Frag := K

/-- the goal that k_head leaves (case hc), from the law's promise. F gives the function object fd (K's own) once, then the promise over every base -/
theorem walk_of {l : PySem.W.OpenLaw} {n k : Nat} {q : Program} {loose : List Str} {XP : (Str → Option Value) → Heap → Prop} {YP : World → Heap → Prop} {d : DefRec} {K : Params → PySem.W.Frag} {CX : World → CXT} {sp : World → Sp} {x : Str}
    (hn : l.most = some n) (hn2 : n ≤ sizeLine) (hdf : d.params.defaults = []) (hr : Room k callerA)
    (hY : ∀ (w : World) (h : Heap), YP w h → (K w.params).In h)
    (F : ∀ (w : World) (mg : Str → Option Value) (fa : Addr) (h : Heap), (K w.params).In h → h.Ns mainGlobals mg → mg d.name = some (.ref fa) →
      ∃ fd : FuncData, (∀ (s : Shared) (u : Value), BindsTo s fd ⟨[u], []⟩ [(x, u)]) ∧
        ∀ base : Heap, (K w.params).In base → base.Ns mainGlobals mg → FnOk l.prog w (K w.params) mg base (CX w) k fa fd [x] (sp w))
    (hsp : ∀ (w : World) (H : Hp) (a : Addr) (ns : List Int), ns.length ≤ n → Only H → SqL (K w.params) H a (ns.map V.int) → sp w [.ref a] H (fun v _ => v = .bl true) fun _ _ _ => False)
    (hCX : ∀ (w : World) (H : Hp) (s : Shared) (e : Value) (s' : Shared), CX w [] H s (fun _ _ _ => False) e s' → False) :
    PySem.W.WalkO q loose XP YP l.row.toRowW d [] (fun f vs => PySem.call f vs) := by
  refine Att.attach_call hn hdf fun w s₀ s₁ mg mb fa o pm cd doc a vs ns G Y ho hd hcd hmg hobj hints hlen hg => ?_
  have KX := hY w _ Y
  obtain ⟨fd, hb, hF⟩ := F w mg fa _ KX G.T.g hmg
  exact law_call KX G.T.g G.T.b G.T.builtins G.T.nolimit hg hobj hints (Nat.le_trans hlen hn2) hr hF hb (fun H hO hS => hsp w H a ns hlen hO hS) fun H e s' => hCX w H s₁ e s'
/-- the same where the promise hangs on the written part alone: (sp := My.sp_law), no hole under a binder -/
theorem walk_ofK {l : PySem.W.OpenLaw} {n k : Nat} {q : Program} {loose : List Str} {XP : (Str → Option Value) → Heap → Prop} {YP : World → Heap → Prop} {d : DefRec} {K : Params → PySem.W.Frag} {CX : CXT} {sp : PySem.W.Frag → Sp} {x : Str}
    (hn : l.most = some n) (hn2 : n ≤ sizeLine) (hdf : d.params.defaults = []) (hr : Room k callerA)
    (hY : ∀ (w : World) (h : Heap), YP w h → (K w.params).In h)
    (F : ∀ (w : World) (mg : Str → Option Value) (fa : Addr) (h : Heap), (K w.params).In h → h.Ns mainGlobals mg → mg d.name = some (.ref fa) →
      ∃ fd : FuncData, (∀ (s : Shared) (u : Value), BindsTo s fd ⟨[u], []⟩ [(x, u)]) ∧
        ∀ base : Heap, (K w.params).In base → base.Ns mainGlobals mg → FnOk l.prog w (K w.params) mg base CX k fa fd [x] (sp (K w.params)))
    (hsp : ∀ (K : PySem.W.Frag) (H : Hp) (a : Addr) (ns : List Int), ns.length ≤ n → Only H → SqL K H a (ns.map V.int) → sp K [.ref a] H (fun v _ => v = .bl true) fun _ _ _ => False)
    (hCX : ∀ (H : Hp) (s : Shared) (e : Value) (s' : Shared), CX [] H s (fun _ _ _ => False) e s' → False) :
    PySem.W.WalkO q loose XP YP l.row.toRowW d [] (fun f vs => PySem.call f vs) :=
  walk_of (K := K) (CX := fun _ => CX) (sp := fun w => sp (K w.params)) hn hn2 hdf hr hY F (fun w H a ns h1 h2 h3 => hsp (K w.params) H a ns h1 h2 h3) fun _ H s e s' => hCX H s e s'
end L2

/- THE LAST THEOREM (shape; LID, My.* are yours):
   My.Adr: a structure of the addresses that your layer names (classes, functions); My.Txt K t: a structure (Prop) of the equations over K;
   My.txt_mk : {K} {implicit addresses ..} (e1 : nsIn K mainGlobals "law" = some (some (.ref f))) (e2 : K.lookup f = some ⟨oc, od, .func (fnOf "law" "law" params body scope dV kV doc pm an cdv ct), sl⟩) (e3 : codeIn K cdv "law" = true) .. : ∃ t, My.Txt K t

set_option maxRecDepth 100000 in
set_option maxHeartbeats 0 in
theorem PySem.Challenge.cw_LID_holds : PySem.Challenge.rw_LID.Holds := by
  w_on; o_law; k_head; (case hw => w_witness2)
  k_fill
  refine L2.walk_of (l := PySem.Challenge.rw_LID) (n := 63) (k := 40) (x := "script") (CX := fun w => ..) (sp := fun _ => My.sp_law) rfl (by decide) rfl ⟨rfl, by decide, by decide⟩ (fun w h Y => PySem.W.kIn_of Y) ?F ?S ?C
  case F =>
    intro w mg fa h KX G hmg
    have T : ∃ t, My.Txt (L2.KOf KX) t := by
      dsimp only [L2.KOf]                          -- K must stand as «<heap const> w.params» for k_is
      refine' My.txt_mk ?e1 ?e2 ?e3 ..
      (case e1 => PySem.W.k_is)                    -- in the order: a name -> its address -> its object -> its parts
      (case e2 => PySem.W.k_is)
      ..
    obtain ⟨t, T⟩ := T
    have e0 := hmg.symm.trans (PySem.W.mg_of KX G T.law)
    cases e0                                       -- fa is the law's own address
    exact ⟨_, fun s u => .of_eq rfl, fun base kb nb => My.law_fn T kb nb⟩     -- if «.of_eq rfl» comes too early: refine' ⟨_, ?b, fun base kb nb => My.law_fn T kb nb⟩; exact fun s u => .of_eq rfl
  case S => exact fun w H a ns hl hO hS => ..
  case C => exact ..
(the tactic k_is has no namespace: write k_is) -/

/-! SHORT WORDS over the layer: a def of the text, its body, what a loop and a test want. -/
namespace L2
open PySem PySem.Spec PyProof.Rows

/-! ### the text by places -/
/-- the j-th statement of a class's body -/
def inClass (s : Stmt) (j : Nat) : Stmt := match s with
  | .ClassDef _ _ _ body _ _ _ _ _ _ _ => body.getD j (.Pass ⟨0, 0, 0, 0⟩)
  | _ => .Pass ⟨0, 0, 0, 0⟩
def defArgs (s : Stmt) : Arguments := match s with
  | .FunctionDef _ a _ _ _ _ _ _ _ _ => a
  | _ => { posonlyargs := [], args := [], vararg := none, kwonlyargs := [], kw_defaults := [], kwarg := none, defaults := [] }
def defBody (s : Stmt) : List Stmt := match s with
  | .FunctionDef _ _ b _ _ _ _ _ _ _ => b
  | _ => []
def defScope (s : Stmt) : Scope := match s with
  | .FunctionDef _ _ _ _ _ _ sc _ _ _ => sc
  | _ => { kind := .function, names := [], isGenerator := false, isCoroutine := false }

/-! ### no exception leaves a def -/
abbrev CX0 : CXT := fun _ _ _ _ _ _ => False
abbrev E0 : XK := fun _ _ _ => False
theorem pass0 : Passes CX0 X E0 := fun _ _ _ _ _ _ _ h => h.elim

/-! ### a def (or method) of the text as it stands behind the top -/
structure Fun (K : PySem.W.Frag) (x qual : Str) (st : Stmt) (f : Addr) (fd : FuncData) : Prop where
  ex : ∃ (oc : Value) (od : Option Addr) (kV doc pm : Value) (an : Option Addr) (cdv ct : Value) (osl : Array (Option Value)),
    fd = PySem.W.fnOf x qual (defArgs st) (defBody st) (defScope st) .none kV doc pm an cdv ct ∧ K.lookup f = some ⟨oc, od, .func fd, osl⟩ ∧ PySem.W.codeIn K cdv qual = true
  kp : PySem.W.keepIn K (.ref f) = true
section
variable {P : Program} {w : World} {K : PySem.W.Frag} {mg : Str → Option Value} {base : Heap}
/-- THE RULE for a def: its body as a term of rules, and the reading of that term -/
theorem Fun.ok {x qual : Str} {st : Stmt} {f : Addr} {fd : FuncData} {N ps : List Str} {k : Nat} {sp : Sp} (F : Fun K x qual st f fd) (S : FnScope N ps (defScope st)) (len : ∀ vs H Q E, sp vs H Q E → vs.length = ps.length)
    (hbody : ∀ (cdv : Value) (A : Around) (outer : List Env) (s : Shared) (H : Hp) (vs : List V) (Q : VK) (E : XK), Room k (A.deeper (envOfC qual (defScope st) s.heap.objs.size f cdv)) → sp vs H Q E →
      ∃ t, PSs (cxOf CX0 P w K mg base N qual (defScope st) f cdv A outer s H E).nox (defBody st) t ∧ t { nx := fun _ H' => Q .non H', rt := Q } (start N vs) H) : FnOk P w K mg base CX0 (k + 1) f fd ps sp := by
  obtain ⟨oc, od, kV, doc, pm, an, cdv, ct, osl, rfl, lk, hcd⟩ := F.ex
  refine fn_of lk hcd S len fun A outer s H vs Q E hr hsp => ?_
  obtain ⟨t, h, q⟩ := hbody cdv A outer s H vs Q E hr hsp
  exact ⟨t, h.nox, q⟩
/-- how its arguments bind (no defaults): h is «fun _ _ _ _ _ _ us hl => match us, hl with | [_, _], _ => rfl», one _ a parameter -/
theorem Fun.binds {x qual : Str} {st : Stmt} {f : Addr} {fd : FuncData} {ps : List Str} (F : Fun K x qual st f fd)
    (h : ∀ (kV doc pm : Value) (an : Option Addr) (cdv ct : Value) (us : List Value), us.length = ps.length → bindArgs (PySem.W.fnOf x qual (defArgs st) (defBody st) (defScope st) .none kV doc pm an cdv ct) ⟨us, []⟩ = pure (ps.zip us)) : Binds K fd ps [] := by
  obtain ⟨oc, od, kV, doc, pm, an, cdv, ct, osl, rfl, lk, hcd⟩ := F.ex
  exact .all (h kV doc pm an cdv ct)
theorem fun_mk {x qual : Str} {st : Stmt} {f : Addr} {oc : Value} {od an : Option Addr} {osl : Array (Option Value)} {kV doc pm cdv ct : Value} (l : K.lookup f = some ⟨oc, od, .func (PySem.W.fnOf x qual (defArgs st) (defBody st) (defScope st) .none kV doc pm an cdv ct), osl⟩)
    (c : PySem.W.codeIn K cdv qual = true) (k : PySem.W.keepIn K (.ref f) = true) : Fun K x qual st f (PySem.W.fnOf x qual (defArgs st) (defBody st) (defScope st) .none kV doc pm an cdv ct) := ⟨⟨oc, od, kV, doc, pm, an, cdv, ct, osl, rfl, l, c⟩, k⟩
end
theorem hu_of (hr : Room k A) : A.units + 1 < cLine := Nat.lt_of_le_of_lt (Nat.add_le_add_left (by decide : 1 ≤ 64) _) hr.units
theorem small1000 (h : n ≤ 1000) : n < sizeLine := Nat.lt_of_le_of_lt h (by decide)

/-! ### expressions in short: the name that stands in the i-th slot -/
section
variable {X : Cx}
theorem pv (i : Nat) (hN : X.N[i]? = some x := by rfl) (hv : Vis X.env.scope x := by first | exact Or.inl rfl | exact Or.inr (Or.inl rfl) | exact Or.inr (Or.inr rfl)) (hd : (x == ("__debug__" : Str)) = false := by decide) (hcd : (x == ("__classdict__" : Str)) = false := by decide) : PE X (.Name x pos) (tVar i) := pe_var hN hv hd hcd
end

/-! ### tests -/
theorem iteF {A B : Prop} (h : B) : if false = true then A else B := by
  rw [if_neg Bool.false_ne_true]
  exact h
theorem iteT {A B : Prop} (h : A) : if true = true then A else B := by
  rw [if_pos rfl]
  exact h
theorem ite2 {c A B : Prop} [Decidable c] (h1 : c → A) (h2 : ¬ c → B) : if c then A else B := by
  by_cases h : c
  · rw [if_pos h]
    exact h1 h
  · rw [if_neg h]
    exact h2 h
theorem iteNS {c A B : Prop} [Decidable c] (hc : c) (h : B) : if (!decide c) = true then A else B := by
  rw [decide_eq_true hc]
  exact iteF h

/-! ### heaps -/
/-- all that was tracked is as it was -/
def Same (H H' : Hp) : Prop := ∀ b o, H b = some o → H' b = some o
theorem Same.refl (H : Hp) : Same H H := fun _ _ h => h
theorem Same.trans (a : Same H H1) (b : Same H1 H2) : Same H H2 := fun c o h => b c o (a c o h)
theorem Same.free (e : Same H H') (h : H' l = Option.none) : H l = Option.none := by
  cases q : H l with
  | none => rfl
  | some o =>
    rw [e l o q] at h
    cases h
theorem Same.seq {K : PySem.W.Frag} {H H' : Hp} {a : Addr} {xs : List V} (e : Same H H') (h : SqL K H a xs) : SqL K H' a xs := by
  rcases h with (h | ⟨o, h⟩) | h
  · exact .inl (.inl (e _ _ h))
  · exact .inl (.inr ⟨o, e _ _ h⟩)
  · exact .inr h

end L2

/-! THE DATA LAYER: plain data over the hand layer. -/
namespace DL
open PySem PySem.Spec L2
open PyProof.Rows hiding St

/-- plain data -/
inductive D where
  | non | bl (b : Bool) | int (i : Int) | str (x : Str) | tup (xs : List D) | lst (xs : List D) | dct

mutual
def hashD : D → Int
  | .int i => hashInt i
  | .tup xs => reduceHash (Builtin.Tuple.tupleHashOf (hashDs xs))
  | _ => 0
def hashDs : List D → List Int
  | [] => []
  | x :: xs => hashD x :: hashDs xs
end
/-- ints, and tuples of such, n deep at most -/
def keyN : Nat → D → Bool
  | _, .int _ => true
  | n + 1, .tup xs => xs.all (keyN n)
  | _, _ => false
/-- what comes of a piece of code: a value, an exception (by its class), or nothing is said -/
inductive R (α : Type) where
  | ok (a : α) | ex (e : Str) | bad
def R.bind {α β : Type} : R α → (α → R β) → R β
  | .ok a, f => f a
  | .ex e, _ => .ex e
  | .bad, _ => .bad
@[simp] theorem R.bind_ok {α β : Type} (a : α) (f : α → R β) : (R.ok a).bind f = f a := rfl
@[simp] theorem R.bind_ex {α β : Type} (e : Str) (f : α → R β) : (R.ex e : R α).bind f = .ex e := rfl
@[simp] theorem R.bind_bad {α β : Type} (f : α → R β) : (R.bad : R α).bind f = .bad := rfl

section
variable (K : PySem.W.Frag) (H : Hp) (O : Addr → Prop)
mutual
/-- v stands for d in the abstract heap H; no list of it is one of O's -/
inductive Rep : V → D → Prop
  | non : Rep .non .non
  | bl {b : Bool} : Rep (.bl b) (.bl b)
  | int {i : Int} : Rep (.int i) (.int i)
  | str {x : Str} : Rep (.str x) (.str x)
  | tup {a : Addr} {vs : List V} {ds : List D} (h : SqT K H a vs) (r : Reps vs ds) : Rep (.ref a) (.tup ds)
  | lst {a : Addr} {vs : List V} {ds : List D} (h : SqL K H a vs) (n : ¬ O a) (r : Reps vs ds) : Rep (.ref a) (.lst ds)
  | dct {a : Addr} {o : Obj} (h : H a = some (.ext fun h => h.get? a = some o)) (x : o.ExactDict) (n : ¬ O a) : Rep (.ref a) .dct
inductive Reps : List V → List D → Prop
  | nil : Reps [] []
  | cons {v : V} {d : D} {vs : List V} {ds : List D} (h : Rep v d) (t : Reps vs ds) : Reps (v :: vs) (d :: ds)
end
end

section
variable {K : PySem.W.Frag}
theorem _root_.L2.Same.tup {a : Addr} {xs : List V} (e : Same H H') (h : SqT K H a xs) : SqT K H' a xs := by
  rcases h with (h | ⟨o, h⟩) | h
  · exact .inl (.inl (e _ _ h))
  · exact .inl (.inr ⟨o, e _ _ h⟩)
  · exact .inr h
mutual
theorem Rep.mono (hT : ∀ a xs, SqT K H a xs → SqT K H' a xs) (hL : ∀ a xs, ¬ O a → SqL K H a xs → ¬ O' a ∧ SqL K H' a xs) (hD : ∀ a φ, ¬ O a → H a = some (.ext φ) → ¬ O' a ∧ H' a = some (.ext φ)) : ∀ {v : V} {d : D}, Rep K H O v d → Rep K H' O' v d
  | _, _, .non => .non
  | _, _, .bl => .bl
  | _, _, .int => .int
  | _, _, .str => .str
  | _, _, .tup h r => .tup (hT _ _ h) (Reps.mono hT hL hD r)
  | _, _, .lst h n r => .lst (hL _ _ n h).2 (hL _ _ n h).1 (Reps.mono hT hL hD r)
  | _, _, .dct h x n => .dct (hD _ _ n h).2 x (hD _ _ n h).1
theorem Reps.mono (hT : ∀ a xs, SqT K H a xs → SqT K H' a xs) (hL : ∀ a xs, ¬ O a → SqL K H a xs → ¬ O' a ∧ SqL K H' a xs) (hD : ∀ a φ, ¬ O a → H a = some (.ext φ) → ¬ O' a ∧ H' a = some (.ext φ)) : ∀ {vs : List V} {ds : List D}, Reps K H O vs ds → Reps K H' O' vs ds
  | _, _, .nil => .nil
  | _, _, .cons h t => .cons (Rep.mono hT hL hD h) (Reps.mono hT hL hD t)
end
theorem Rep.same (e : Same H H') (r : Rep K H O v d) : Rep K H' O v d := r.mono (fun _ _ h => e.tup h) (fun _ _ n h => ⟨n, e.seq h⟩) fun _ _ n h => ⟨n, e _ _ h⟩
theorem Reps.same (e : Same H H') (r : Reps K H O v d) : Reps K H' O v d := r.mono (fun _ _ h => e.tup h) (fun _ _ n h => ⟨n, e.seq h⟩) fun _ _ n h => ⟨n, e _ _ h⟩
theorem Rep.sub (e : ∀ a, O' a → O a) (r : Rep K H O v d) : Rep K H O' v d := r.mono (fun _ _ h => h) (fun _ _ n h => ⟨fun z => n (e _ z), h⟩) fun _ _ n h => ⟨fun z => n (e _ z), h⟩
theorem Reps.sub (e : ∀ a, O' a → O a) (r : Reps K H O v d) : Reps K H O' v d := r.mono (fun _ _ h => h) (fun _ _ n h => ⟨fun z => n (e _ z), h⟩) fun _ _ n h => ⟨fun z => n (e _ z), h⟩
theorem Reps.length : ∀ {vs : List V} {ds : List D}, Reps K H O vs ds → vs.length = ds.length
  | _, _, .nil => rfl
  | _, _, .cons _ t => by simp [Reps.length t]
theorem Reps.get : ∀ {vs : List V} {ds : List D} {i : Nat} {d : D}, Reps K H O vs ds → ds[i]? = some d → ∃ v, vs[i]? = some v ∧ Rep K H O v d
  | _, _, _, _, .nil, e => by simp at e
  | _, _, 0, _, .cons r _, e => by simp at e; subst e; exact ⟨_, rfl, r⟩
  | _, _, i + 1, d, .cons _ t, e => by
    obtain ⟨u, h1, h2⟩ := Reps.get (i := i) (d := d) t (by simpa using e)
    exact ⟨u, by simpa using h1, h2⟩
theorem Reps.get' : ∀ {vs : List V} {ds : List D} {i : Nat} {v : V}, Reps K H O vs ds → vs[i]? = some v → ∃ d, ds[i]? = some d ∧ Rep K H O v d
  | _, _, _, _, .nil, e => by simp at e
  | _, _, 0, _, .cons r _, e => by simp at e; subst e; exact ⟨_, rfl, r⟩
  | _, _, i + 1, d, .cons _ t, e => by
    obtain ⟨u, h1, h2⟩ := Reps.get' (i := i) (v := d) t (by simpa using e)
    exact ⟨u, by simpa using h1, h2⟩
theorem Reps.append : ∀ {vs ws : List V} {ds es : List D}, Reps K H O vs ds → Reps K H O ws es → Reps K H O (vs ++ ws) (ds ++ es)
  | _, _, _, _, .nil, s => s
  | _, _, _, _, .cons r t, s => .cons r (Reps.append t s)
theorem Reps.take : ∀ {vs : List V} {ds : List D} (n : Nat), Reps K H O vs ds → Reps K H O (vs.take n) (ds.take n)
  | _, _, 0, _ => .nil
  | _, _, _ + 1, .nil => .nil
  | _, _, n + 1, .cons r t => .cons r (Reps.take n t)
theorem Reps.drop : ∀ {vs : List V} {ds : List D} (n : Nat), Reps K H O vs ds → Reps K H O (vs.drop n) (ds.drop n)
  | _, _, 0, r => r
  | _, _, _ + 1, .nil => .nil
  | _, _, n + 1, .cons _ t => Reps.drop n t
theorem Reps.set (r : Rep K H O v d) : ∀ {vs : List V} {ds : List D} (i : Nat), Reps K H O vs ds → Reps K H O (vs.set i v) (ds.set i d)
  | _, _, _, .nil => .nil
  | _, _, 0, .cons _ t => .cons r t
  | _, _, i + 1, .cons q t => .cons q (Reps.set r i t)
theorem Reps.dropLast (r : Reps K H O vs ds) : Reps K H O vs.dropLast ds.dropLast := by
  rw [List.dropLast_eq_take, List.dropLast_eq_take, r.length]; exact r.take _
theorem Reps.snoc (r : Reps K H O vs ds) (h : Rep K H O v d) : Reps K H O (vs ++ [v]) (ds ++ [d]) := r.append (.cons h .nil)
theorem Reps.ints : ∀ (ns : List Int), Reps K H O (ns.map V.int) (ns.map D.int)
  | [] => .nil
  | _ :: ns => .cons .int (Reps.ints ns)
theorem Reps.reverse : ∀ {vs : List V} {ds : List D}, Reps K H O vs ds → Reps K H O vs.reverse ds.reverse
  | _, _, .nil => .nil
  | _, _, .cons r t => by rw [List.reverse_cons, List.reverse_cons]; exact (Reps.reverse t).snoc r
end

/-- what is not one of O's is kept -/
def Kp (H : Hp) (O : Addr → Prop) (H' : Hp) (O' : Addr → Prop) : Prop := ∀ b o, H b = some o → ¬ O b → H' b = some o ∧ ¬ O' b
section

theorem Kp.refl (H : Hp) (O : Addr → Prop) : Kp H O H O := fun _ _ h n => ⟨h, n⟩
theorem Kp.of (s : Same H H') : Kp H O H' O := fun b o h n => ⟨s b o h, n⟩
theorem Kp.trans (a : Kp H O H' O') (b : Kp H' O' H'' O'') : Kp H O H'' O'' := fun c o h n => let ⟨h1, n1⟩ := a c o h n; b c o h1 n1
end
/-- the tables that the defs made in a body fill, by the law: their places, and what may stand in them -/
class Tabs where
  tbs : List (Addr × List (Pos × Str))
/-- a name's slot: nothing, a value, a list that this name alone has, a caught exception of the class C, a function that does m (φ: what is known of it), a dict that this name alone has -/
inductive Sl where
  | no | v (d : D) | o (xs : List D) | x (C : Value) | c (m : List D → R D) (φ : Hp → (Addr → Prop) → Addr → Prop) | d (kvs : List (D × D))
abbrev Ev := List Sl

/-- what may be a list or dict that a name alone has -/
def Mt : HO → Prop
  | .lst _ => True
  | .dK _ => True
  | .dT _ => True
  | .ext _ => True
  | _ => False
/-- a dict's entries stand for data: the keys are tuples -/
def DRep (K : PySem.W.Frag) (H : Hp) (O : Addr → Prop) (es : List DictEntry) (kvs : List (D × D)) : Prop :=
  Paired (fun (e : DictEntry) (p : D × D) => (∃ a, e.key = .ref a ∧ Rep K H O (.ref a) p.1) ∧ (∃ v, RelV v e.val ∧ Rep K H O v p.2) ∧ e.hash = hashD p.1 ∧ keyN 7 p.1 = true) es kvs
/-- a dict's object: its entries -/
def DObj (a : Addr) (o : Obj) (es : List DictEntry) : Prop := (a == sysModules) = false ∧ o.ExactDict ∧ ∃ ea ep, o.data = .dict ea ep ∧ ea.toList = es
def Own : Sl → Prop
  | .o _ => True
  | .d _ => True
  | _ => False
section
variable (K : PySem.W.Frag) (H₀ H : Hp) (O : Addr → Prop)
def SlOk (x : Option (Option V)) : Sl → Prop
  | .no => True
  | .v d => ∃ v, x = some (some v) ∧ Rep K H O v d
  | .o xs => ∃ a vs, x = some (some (V.ref a)) ∧ O a ∧ H₀ a = none ∧ H a = some (.lst vs) ∧ Reps K H O vs xs
  | .x C => ∃ a o, x = some (some (V.ref a)) ∧ H a = some (.frz o (.own a)) ∧ o.cls = C
  | .c m φ => ∃ a, x = some (some (V.ref a)) ∧ ∀ H2 O2, Kp H O H2 O2 → φ H2 O2 a
  | .d kvs => ∃ a o es, x = some (some (V.ref a)) ∧ O a ∧ H₀ a = none ∧ H a = some (.ext fun h => h.get? a = some o) ∧ DObj a o es ∧ DRep K H O es kvs ∧ (kvs.map (·.1)).Nodup
end
variable [Tabs]
/-- the tables stand -/
def Tb (H : Hp) : Prop := ∀ p ∈ Tabs.tbs, H p.1 = some (.tbl p.2)
structure EnvOk (K : PySem.W.Frag) (H₀ : Hp) (O₀ : Addr → Prop) (H : Hp) (O : Addr → Prop) (σ : St) (ρ : Ev) : Prop where
  len : σ.length = ρ.length
  same : Same H₀ H
  sub : ∀ a, O₀ a → O a
  trk : ∀ a, O a → ∃ o, H a = some o ∧ Mt o
  trk₀ : ∀ a, O₀ a → ∃ o, H₀ a = some o
  tab : Tb H
  slot : ∀ (i : Nat) (sl : Sl), ρ[i]? = some sl → SlOk K H₀ H O σ[i]? sl
  inj : ∀ (i j : Nat) (x y : Sl) (a : Addr), ρ[i]? = some x → ρ[j]? = some y → Own x → Own y → σ[i]? = some (some (V.ref a)) → σ[j]? = some (some (V.ref a)) → i = j

section
variable {K : PySem.W.Frag} {O₀ O O' : Addr → Prop}
theorem Tb.same (h : Tb H) (s : Same H H') : Tb H' := fun p hp => s _ _ (h p hp)
theorem EnvOk.val (E : EnvOk K H₀ O₀ H O σ ρ) (i : Nat) (d : D) (h : ρ[i]? = some (Sl.v d)) : ∃ v, σ[i]? = some (some v) ∧ Rep K H O v d := E.slot i _ h
theorem EnvOk.own (E : EnvOk K H₀ O₀ H O σ ρ) (i : Nat) (xs : List D) (h : ρ[i]? = some (Sl.o xs)) : ∃ a vs, σ[i]? = some (some (V.ref a)) ∧ O a ∧ H₀ a = none ∧ H a = some (.lst vs) ∧ Reps K H O vs xs := E.slot i _ h
theorem EnvOk.exc (E : EnvOk K H₀ O₀ H O σ ρ) (i : Nat) (C : Value) (h : ρ[i]? = some (Sl.x C)) : ∃ a o, σ[i]? = some (some (V.ref a)) ∧ H a = some (.frz o (.own a)) ∧ o.cls = C := E.slot i _ h
theorem DRep.mono (f : ∀ {v : V} {d : D}, Rep K H O v d → Rep K H' O' v d) : ∀ {kvs : List (D × D)}, DRep K H O es kvs → DRep K H' O' es kvs := fun {_} r =>
  Paired.mapP r fun _ _ ⟨⟨v, h1, h2⟩, ⟨w, h3, h4⟩, h5⟩ => ⟨⟨v, h1, f h2⟩, ⟨w, h3, f h4⟩, h5⟩
/-- a slot moves on: what is an own one is kept as told -/
theorem SlOk.move (h : SlOk K H₀ H O x sl) (hT : ∀ a xs, SqT K H a xs → SqT K H' a xs) (hL : ∀ a xs, ¬ O a → SqL K H a xs → ¬ O' a ∧ SqL K H' a xs) (hF : ∀ a o u, H a = some (.frz o u) → H' a = some (.frz o u)) (hk : Kp H O H' O') (ho : Own sl → ∀ a o, x = some (some (V.ref a)) → O a → H a = some o → O' a ∧ H' a = some o) : SlOk K H₀ H' O' x sl := by
  have hD : ∀ a φ, ¬ O a → H a = some (.ext φ) → ¬ O' a ∧ H' a = some (.ext φ) := fun a φ n h => ⟨(hk a _ h n).2, (hk a _ h n).1⟩
  cases sl with
  | no => trivial
  | v d => obtain ⟨v, h1, h2⟩ := h; exact ⟨v, h1, h2.mono hT hL hD⟩
  | o xs =>
    obtain ⟨a, vs, h1, h2, h3, h4, h5⟩ := h
    obtain ⟨h6, h7⟩ := ho trivial a _ h1 h2 h4
    exact ⟨a, vs, h1, h6, h3, h7, h5.mono hT hL hD⟩
  | x C => obtain ⟨a, o, h1, h2, h3⟩ := h; exact ⟨a, o, h1, hF _ _ _ h2, h3⟩
  | c m φ => obtain ⟨a, h1, h2⟩ := h; exact ⟨a, h1, fun H2 O2 k => h2 H2 O2 (hk.trans k)⟩
  | d kvs =>
    obtain ⟨a, o, es, h1, h2, h3, h4, h5, h6⟩ := h
    obtain ⟨h7, h8⟩ := ho trivial a _ h1 h2 h4
    exact ⟨a, o, es, h1, h7, h3, h8, h5, h6.1.mono fun r => r.mono hT hL hD, h6.2⟩
theorem SlOk.grow (h : SlOk K H₀ H O x sl) (e : Same H H') : SlOk K H₀ H' O x sl :=
  h.move (fun _ _ q => e.tup q) (fun _ _ n q => ⟨n, e.seq q⟩) (fun _ _ _ q => e _ _ q) (Kp.of e) fun _ _ _ _ q1 q2 => ⟨q1, e _ _ q2⟩
theorem EnvOk.grow (E : EnvOk K H₀ O₀ H O σ ρ) (e : Same H H') : EnvOk K H₀ O₀ H' O σ ρ where
  len := E.len
  same := E.same.trans e
  sub := E.sub
  trk := fun a h => let ⟨o, q, m⟩ := E.trk a h; ⟨o, e a o q, m⟩
  trk₀ := E.trk₀
  tab := E.tab.same e
  slot := fun i sl h => (E.slot i sl h).grow e
  inj := E.inj
theorem EnvOk.fresh (E : EnvOk K H₀ O₀ H O σ ρ) (h : H p = none) : ¬ O p := fun z => by
  obtain ⟨o, q, _⟩ := E.trk p z
  rw [h] at q; cases q
theorem set_get_ne {α : Type} {l : List α} {i j : Nat} {x : α} (h : i ≠ j) : (l.set i x)[j]? = l[j]? := List.getElem?_set_ne h
theorem set_get_some {α : Type} {l : List α} {i : Nat} {x y : α} (h : (l.set i x)[i]? = some y) : y = x ∧ i < l.length := by
  have hl : i < l.length := by
    have := (List.getElem?_eq_some_iff.mp h).1
    simpa using this
  rw [List.getElem?_set_self hl] at h
  exact ⟨(Option.some.inj h).symm, hl⟩
/-- a slot that owns nothing is put anew -/
theorem EnvOk.put (E : EnvOk K H₀ O₀ H O σ ρ) {v : Option V} {sl : Sl} (i : Nat) (no : ¬ Own sl) (r : SlOk K H₀ H O (some v) sl) : EnvOk K H₀ O₀ H O (σ.set i v) (ρ.set i sl) where
  len := by simpa using E.len
  same := E.same
  sub := E.sub
  trk := E.trk
  trk₀ := E.trk₀
  tab := E.tab
  slot := fun j s h => by
    by_cases hj : i = j
    · subst hj
      obtain ⟨e, hl⟩ := set_get_some h
      subst e
      rw [List.getElem?_set_self (by rw [E.len]; exact hl)]
      exact r
    · rw [set_get_ne hj] at h ⊢
      exact E.slot j s h
  inj := fun j k x y a h1 h2 o1 o2 h3 h4 => by
    have ne : ∀ (l : Nat) (z : Sl), (ρ.set i sl)[l]? = some z → Own z → i ≠ l := fun l z q o e => by
      subst e
      obtain ⟨e, _⟩ := set_get_some q
      subst e
      exact no o
    have n1 := ne j x h1 o1
    have n2 := ne k y h2 o2
    rw [set_get_ne n1] at h1 h3
    rw [set_get_ne n2] at h2 h4
    exact E.inj j k x y a h1 h2 o1 o2 h3 h4
theorem EnvOk.set (E : EnvOk K H₀ O₀ H O σ ρ) (i : Nat) (r : Rep K H O v d) : EnvOk K H₀ O₀ H O (σ.set i (some v)) (ρ.set i (.v d)) := E.put i (fun z => z) ⟨v, rfl, r⟩
/-- what an own slot has -/
theorem SlOk.at_ (h : SlOk K H₀ H O x sl) (o : Own sl) : ∃ a u, x = some (some (V.ref a)) ∧ O a ∧ H₀ a = none ∧ H a = some u ∧ Mt u := by
  cases sl with
  | o xs => obtain ⟨a, vs, h1, h2, h3, h4, _⟩ := h; exact ⟨a, _, h1, h2, h3, h4, trivial⟩
  | d kvs => obtain ⟨a, u, es, h1, h2, h3, h4, _⟩ := h; exact ⟨a, _, h1, h2, h3, h4, trivial⟩
  | _ => exact o.elim
/-- a slot is put that has the address a, which no other one has -/
theorem EnvOk.putOwn (E : EnvOk K H₀ O₀ H O σ ρ) {a : Addr} {sl : Sl} (i : Nat) (hn : ∀ (j : Nat) (y : Sl), i ≠ j → ρ[j]? = some y → Own y → σ[j]? ≠ some (some (V.ref a))) (r : SlOk K H₀ H O (some (some (V.ref a))) sl) :
    EnvOk K H₀ O₀ H O (σ.set i (some (V.ref a))) (ρ.set i sl) where
  len := by simpa using E.len
  same := E.same
  sub := E.sub
  trk := E.trk
  trk₀ := E.trk₀
  tab := E.tab
  slot := fun j s h => by
    by_cases hj : i = j
    · subst hj
      obtain ⟨e, hl⟩ := set_get_some h
      subst e
      rw [List.getElem?_set_self (by rw [E.len]; exact hl)]
      exact r
    · rw [set_get_ne hj] at h ⊢
      exact E.slot j s h
  inj := fun j k x y b h1 h2 o1 o2 h3 h4 => by
    have at_ : ∀ (l : Nat), i = l → (σ.set i (some (V.ref a)))[l]? = some (some (V.ref b)) → b = a := fun l e q => by
      subst e
      obtain ⟨e, _⟩ := set_get_some q
      injection e with e; injection e
    by_cases hj : i = j
    · by_cases hk : i = k
      · exact hj.symm.trans hk
      · exfalso
        have eb := at_ j hj h3
        subst eb
        rw [set_get_ne hk] at h2 h4
        exact hn k y hk h2 o2 h4
    · by_cases hk : i = k
      · exfalso
        have eb := at_ k hk h4
        subst eb
        rw [set_get_ne hj] at h1 h3
        exact hn j x hj h1 o1 h3
      · rw [set_get_ne hj] at h1 h3
        rw [set_get_ne hk] at h2 h4
        exact E.inj j k x y b h1 h2 o1 o2 h3 h4
theorem same_upd (h : H p = none) (o : HO) : Same H (upd H p o) := fun b u q => by rw [upd_ne (ne_of_none q h)]; exact q
/-- a thing is laid beside: one that no name has -/
theorem EnvOk.besideO (E : EnvOk K H₀ O₀ H O σ ρ) (h : H a = none) (hk : K.lookup a = none) (m : Mt u) : EnvOk K H₀ O₀ (upd H a u) (fun b => O b ∨ b = a) σ ρ := by
  have s := same_upd h u
  have ne : ∀ b xs, SqL K H b xs → b ≠ a := fun b xs q z => by
    subst z
    rcases q with (q | ⟨o, q⟩) | ⟨o, _, _, q, _⟩
    · rw [h] at q; cases q
    · rw [h] at q; cases q
    · rw [hk] at q; cases q
  refine ⟨E.len, E.same.trans s, fun b z => .inl (E.sub b z), fun b z => ?_, E.trk₀, E.tab.same s, fun i sl e => ?_, E.inj⟩
  · rcases z with z | z
    · obtain ⟨o, q, m⟩ := E.trk b z; exact ⟨o, s b o q, m⟩
    · subst z; exact ⟨_, upd_same, m⟩
  · exact (E.slot i sl e).move (fun _ _ q => s.tup q) (fun b xs n q => ⟨fun z => z.elim n (ne b xs q), s.seq q⟩) (fun _ _ _ q => s _ _ q) (fun b o hb n => ⟨s b o hb, fun z => z.elim n fun e => by subst e; rw [h] at hb; cases hb⟩) fun _ b o _ q1 q2 => ⟨.inl q1, s _ _ q2⟩
/-- what stands for data, beside a new thing -/
theorem sqL_ne (h : H a = none) (hk : K.lookup a = none) (q : SqL K H b xs) : b ≠ a := fun z => by
  subst z
  rcases q with (q | ⟨o, q⟩) | ⟨o, _, _, q, _⟩
  · rw [h] at q; cases q
  · rw [h] at q; cases q
  · rw [hk] at q; cases q
theorem Rep.besideO (h : H a = none) (hk : K.lookup a = none) (r : Rep K H O v d) : Rep K (upd H a u) (fun b => O b ∨ b = a) v d :=
  r.mono (fun _ _ q => (same_upd h u).tup q) (fun b xs n q => ⟨fun z => z.elim n (sqL_ne h hk q), (same_upd h u).seq q⟩) fun b φ n q => ⟨fun z => z.elim n (ne_of_none q h), same_upd h u _ _ q⟩
theorem Reps.besideO (h : H a = none) (hk : K.lookup a = none) (r : Reps K H O v d) : Reps K (upd H a u) (fun b => O b ∨ b = a) v d :=
  r.mono (fun _ _ q => (same_upd h u).tup q) (fun b xs n q => ⟨fun z => z.elim n (sqL_ne h hk q), (same_upd h u).seq q⟩) fun b φ n q => ⟨fun z => z.elim n (ne_of_none q h), same_upd h u _ _ q⟩
/-- a new thing that the name i alone has; r: what its slot says -/
theorem EnvOk.newOwn (E : EnvOk K H₀ O₀ H O σ ρ) (i : Nat) (h : H a = none) (hk : K.lookup a = none) (m : Mt u) (r : H₀ a = none → SlOk K H₀ (upd H a u) (fun b => O b ∨ b = a) (some (some (V.ref a))) sl) :
    EnvOk K H₀ O₀ (upd H a u) (fun b => O b ∨ b = a) (σ.set i (some (.ref a))) (ρ.set i sl) := by
  have h0 : H₀ a = none := by
    cases e : H₀ a with
    | none => rfl
    | some o => have := E.same a o e; rw [h] at this; cases this
  refine (E.besideO h hk m).putOwn i (fun j y _ e o q => ?_) (r h0)
  obtain ⟨b, w, p1, _, _, p4, _⟩ := (E.slot j y e).at_ o
  rw [q] at p1
  injection p1 with p1; injection p1 with p1; injection p1 with p1
  subst p1
  rw [h] at p4; cases p4
/-- an own thing is written: what else stands, stands -/
theorem sqT_upd (h : H a = some u) (m : Mt u) (q : SqT K H b xs) : SqT K (upd H a u') b xs := by
  have ne : ∀ w, H b = some w → ¬ Mt w → b ≠ a := fun w e n z => by subst z; rw [h] at e; cases e; exact n m
  rcases q with (q | ⟨o, q⟩) | q
  · exact .inl (.inl (by rw [upd_ne (ne _ q fun z => z)]; exact q))
  · exact .inl (.inr ⟨o, by rw [upd_ne (ne _ q fun z => z)]; exact q⟩)
  · exact .inr q
theorem sqL_upd (hO : O a) (n : ¬ O b) (q : SqL K H b xs) : SqL K (upd H a u') b xs := by
  have ne : b ≠ a := fun z => by subst z; exact n hO
  rcases q with (q | ⟨o, q⟩) | q
  · exact .inl (.inl (by rw [upd_ne ne]; exact q))
  · exact .inl (.inr ⟨o, by rw [upd_ne ne]; exact q⟩)
  · exact .inr q
theorem Rep.upd (h : H a = some u) (m : Mt u) (hO : O a) (r : Rep K H O v d) : Rep K (upd H a u') O v d := r.mono (fun _ _ q => sqT_upd h m q) (fun _ _ n q => ⟨n, sqL_upd hO n q⟩) fun b _ n q => ⟨n, by rw [upd_ne (fun z => n (by rw [z]; exact hO))]; exact q⟩
theorem Reps.upd (h : H a = some u) (m : Mt u) (hO : O a) (r : Reps K H O v d) : Reps K (upd H a u') O v d := r.mono (fun _ _ q => sqT_upd h m q) (fun _ _ n q => ⟨n, sqL_upd hO n q⟩) fun b _ n q => ⟨n, by rw [upd_ne (fun z => n (by rw [z]; exact hO))]; exact q⟩
theorem EnvOk.writeO {i : Nat} {sl sl' : Sl} {a : Addr} {u u' : HO} (E : EnvOk K H₀ O₀ H O σ ρ) (e : ρ[i]? = some sl) (ow : Own sl) (h1 : σ[i]? = some (some (V.ref a))) (hu : H a = some u) (m' : Mt u') (ow' : Own sl')
    (r : O a → H₀ a = none → Mt u → SlOk K H₀ (upd H a u') O (some (some (V.ref a))) sl') : EnvOk K H₀ O₀ (upd H a u') O σ (ρ.set i sl') ∧ Kp H O (upd H a u') O := by
  obtain ⟨b, w, p1, p2, p3, p4, m⟩ := (E.slot i sl e).at_ ow
  rw [h1] at p1
  injection p1 with p1; injection p1 with p1; injection p1 with p1
  subst p1
  rw [hu] at p4; cases p4
  have kp : Kp H O (upd H a u') O := fun b o hb n => ⟨by rw [upd_ne (fun z => by subst z; exact n p2)]; exact hb, n⟩
  have nf : ∀ b w, H b = some w → ¬ Mt w → upd H a u' b = some w := fun b w q n => by rw [upd_ne (fun z => by subst z; rw [hu] at q; cases q; exact n m)]; exact q
  refine ⟨⟨by simpa using E.len, fun b o q => ?_, E.sub, fun b z => ?_, E.trk₀, fun p hp => nf _ _ (E.tab p hp) fun z => z, fun j s h => ?_, fun j k x y b q1 q2 o1 o2 q3 q4 => ?_⟩, kp⟩
  · rw [upd_ne (fun z => by subst z; rw [p3] at q; cases q)]; exact E.same b o q
  · by_cases hb : b = a
    · subst hb; exact ⟨_, upd_same, m'⟩
    · obtain ⟨o, q, m⟩ := E.trk b z
      exact ⟨o, by rw [upd_ne hb]; exact q, m⟩
  · by_cases hj : i = j
    · subst hj
      obtain ⟨e', _⟩ := set_get_some h
      subst e'
      rw [h1]
      exact r p2 p3 m
    · rw [set_get_ne hj] at h
      refine (E.slot j s h).move (fun _ _ q => sqT_upd hu m q) (fun _ _ n q => ⟨n, sqL_upd p2 n q⟩) (fun b o w q => nf _ _ q fun z => z) kp fun o b w q1 q2 q3 => ⟨q2, ?_⟩
      rw [upd_ne (fun z => by subst z; exact hj (E.inj i j sl s b e h ow o h1 q1))]
      exact q3
  · have fin : ∀ l z, (ρ.set i sl')[l]? = some z → Own z → ∃ z', ρ[l]? = some z' ∧ Own z' := fun l z q o => by
      by_cases hl : i = l
      · subst hl; exact ⟨sl, e, ow⟩
      · rw [set_get_ne hl] at q; exact ⟨z, q, o⟩
    obtain ⟨x', u1, o1'⟩ := fin j x q1 o1
    obtain ⟨y', u2, o2'⟩ := fin k y q2 o2
    exact E.inj j k x' y' b u1 u2 o1' o2' q3 q4
/-- an own thing is no more one -/
theorem EnvOk.disownO {i : Nat} {sl sl' : Sl} {a : Addr} (E : EnvOk K H₀ O₀ H O σ ρ) (e : ρ[i]? = some sl) (ow : Own sl) (h1 : σ[i]? = some (some (V.ref a))) (no : ¬ Own sl') (r : SlOk K H₀ H (fun b => O b ∧ b ≠ a) (some (some (V.ref a))) sl') :
    EnvOk K H₀ O₀ H (fun b => O b ∧ b ≠ a) σ (ρ.set i sl') := by
  obtain ⟨b, w, p1, p2, p3, p4, m⟩ := (E.slot i sl e).at_ ow
  rw [h1] at p1
  injection p1 with p1; injection p1 with p1; injection p1 with p1
  subst p1
  have sub : ∀ b, (O b ∧ b ≠ a) → O b := fun b z => z.1
  refine ⟨by simpa using E.len, E.same, fun b z => ⟨E.sub b z, fun q => ?_⟩, fun b z => E.trk b z.1, E.trk₀, E.tab, fun j s h => ?_, fun j k x y b q1 q2 o1 o2 q3 q4 => ?_⟩
  · subst q; obtain ⟨o, q⟩ := E.trk₀ b z; rw [p3] at q; cases q
  · by_cases hj : i = j
    · subst hj
      obtain ⟨e', _⟩ := set_get_some h
      subst e'
      rw [h1]; exact r
    · rw [set_get_ne hj] at h
      refine (E.slot j s h).move (fun _ _ q => q) (fun _ _ n q => ⟨fun z => n z.1, q⟩) (fun _ _ _ q => q) (fun b o hb n => ⟨hb, fun z => n z.1⟩) fun o b w q1 q2 q3 => ⟨⟨q2, fun z => ?_⟩, q3⟩
      subst z
      exact hj (E.inj i j sl s b e h ow o h1 q1)
  · have n1 : i ≠ j := fun z => by subst z; obtain ⟨e', _⟩ := set_get_some q1; subst e'; exact no o1
    have n2 : i ≠ k := fun z => by subst z; obtain ⟨e', _⟩ := set_get_some q2; subst e'; exact no o2
    rw [set_get_ne n1] at q1
    rw [set_get_ne n2] at q2
    exact E.inj j k x y b q1 q2 o1 o2 q3 q4
end

/-! ### the judgements -/
/-- what is wanted of an exception of the class e where the heap is H: file DX -/
def XW (X : Cx) (e : Str) (H : Hp) : Prop := False
/-- the wish behind an expression -/
def RC (X : Cx) (H : Hp) (O : Addr → Prop) (r : R D) (Q : VK) : Prop := match r with
  | .ok d => ∀ v H', Same H H' → Rep X.K H' O v d → Q v H'
  | .ex e => ∀ H', Same H H' → XW X e H'
  | .bad => False
/-- .. where the value may be a list that a name alone has (it is only read) -/
def RepB (K : PySem.W.Frag) (H : Hp) (O : Addr → Prop) (v : V) (d : D) : Prop := Rep K H O v d ∨ ∃ a vs ds, v = .ref a ∧ d = .lst ds ∧ SqL K H a vs ∧ Reps K H O vs ds
def RCB (X : Cx) (H : Hp) (O : Addr → Prop) (r : R D) (Q : VK) : Prop := match r with
  | .ok d => ∀ v H', Same H H' → RepB X.K H' O v d → Q v H'
  | .ex e => ∀ H', Same H H' → XW X e H'
  | .bad => False
def RCT (X : Cx) (H : Hp) (r : R Bool) (Q : Bool → Hp → Prop) : Prop := match r with
  | .ok b => ∀ H', Same H H' → Q b H'
  | .ex e => ∀ H', Same H H' → XW X e H'
  | .bad => False
def RCs (X : Cx) (H : Hp) (O : Addr → Prop) (r : R (List D)) (Q : List V → Hp → Prop) : Prop := match r with
  | .ok ds => ∀ vs H', Same H H' → Reps X.K H' O vs ds → Q vs H'
  | .ex e => ∀ H', Same H H' → XW X e H'
  | .bad => False
def RCBs (X : Cx) (H : Hp) (O : Addr → Prop) (r : R (List D)) (Q : List V → Hp → Prop) : Prop := match r with
  | .ok ds => ∀ vs H', Same H H' → Paired (RepB X.K H' O) vs ds → Q vs H'
  | .ex e => ∀ H', Same H H' → XW X e H'
  | .bad => False

def tD (X : Cx) (f : Ev → R D) : TE := fun σ H Q => ∃ H₀ O₀ O ρ, EnvOk X.K H₀ O₀ H O σ ρ ∧ RC X H O (f ρ) Q
def tDB (X : Cx) (f : Ev → R D) : TE := fun σ H Q => ∃ H₀ O₀ O ρ, EnvOk X.K H₀ O₀ H O σ ρ ∧ RCB X H O (f ρ) Q
def tDT (X : Cx) (f : Ev → R Bool) : TT := fun σ H Q => ∃ H₀ O₀ O ρ, EnvOk X.K H₀ O₀ H O σ ρ ∧ RCT X H (f ρ) Q
def tDs (X : Cx) (f : Ev → R (List D)) : TA := fun σ H Q => ∃ H₀ O₀ O ρ, EnvOk X.K H₀ O₀ H O σ ρ ∧ RCs X H O (f ρ) Q
def tDBs (X : Cx) (f : Ev → R (List D)) : TA := fun σ H Q => ∃ H₀ O₀ O ρ, EnvOk X.K H₀ O₀ H O σ ρ ∧ RCBs X H O (f ρ) Q
/-- an expression, an expression that is only read, a test, arguments -/
def PD (X : Cx) (e : Expr) (f : Ev → R D) : Prop := PE X e (tD X f)
def PB (X : Cx) (e : Expr) (f : Ev → R D) : Prop := PE X e (tDB X f)
def PTD (X : Cx) (e : Expr) (f : Ev → R Bool) : Prop := PT X e (tDT X f)
def PAD (X : Cx) (es : List Expr) (f : Ev → R (List D)) : Prop := PA X es (tDs X f)
def PAB (X : Cx) (es : List Expr) (f : Ev → R (List D)) : Prop := PA X es (tDBs X f)

theorem RC.post {O : Addr → Prop} (h : RC X H O r Q) (e : r = .ok d) : ∀ v H', Same H H' → Rep X.K H' O v d → Q v H' := by subst e; exact h
/-- weaken a reading -/
theorem pe_imp (h : PE X e t) (i : ∀ σ H Q, t' σ H Q → t σ H Q) : PE X e t' := fun pins s σ H Q I q => h pins s σ H Q I (i σ H Q q)
theorem pt_imp (h : PT X e t) (i : ∀ σ H Q, t' σ H Q → t σ H Q) : PT X e t' := fun pins s σ H Q I q => h pins s σ H Q I (i σ H Q q)
theorem pa_imp (h : PA X e t) (i : ∀ σ H Q, t' σ H Q → t σ H Q) : PA X e t' := fun pos pins s σ H Q I q => h pos pins s σ H Q I (i σ H Q q)
/-- the same, the parts handed over one by one -/
theorem peI {r : Hp → (Addr → Prop) → Ev → VK → Prop} (h : PE X e t) (i : ∀ σ H Q H₀ O₀ O ρ, EnvOk X.K H₀ O₀ H O σ ρ → r H O ρ Q → t σ H Q) : PE X e fun σ H Q => ∃ H₀ O₀ O ρ, EnvOk X.K H₀ O₀ H O σ ρ ∧ r H O ρ Q := fun pins s σ H Q I q => h pins s σ H Q I (let ⟨H₀, O₀, O, ρ, E, q⟩ := q; i σ H Q H₀ O₀ O ρ E q)
theorem ptI {r : Hp → (Addr → Prop) → Ev → (Bool → Hp → Prop) → Prop} (h : PT X e t) (i : ∀ σ H Q H₀ O₀ O ρ, EnvOk X.K H₀ O₀ H O σ ρ → r H O ρ Q → t σ H Q) : PT X e fun σ H Q => ∃ H₀ O₀ O ρ, EnvOk X.K H₀ O₀ H O σ ρ ∧ r H O ρ Q := fun pins s σ H Q I q => h pins s σ H Q I (let ⟨H₀, O₀, O, ρ, E, q⟩ := q; i σ H Q H₀ O₀ O ρ E q)
theorem paI {r : Hp → (Addr → Prop) → Ev → (List V → Hp → Prop) → Prop} (h : PA X es t) (i : ∀ σ H Q H₀ O₀ O ρ, EnvOk X.K H₀ O₀ H O σ ρ → r H O ρ Q → t σ H Q) : PA X es fun σ H Q => ∃ H₀ O₀ O ρ, EnvOk X.K H₀ O₀ H O σ ρ ∧ r H O ρ Q := fun pos pins s σ H Q I q => h pos pins s σ H Q I (let ⟨H₀, O₀, O, ρ, E, q⟩ := q; i σ H Q H₀ O₀ O ρ E q)
theorem mkE {β : Type} {r : Hp → (Addr → Prop) → Ev → β → Prop} {G : List (Addr × Obj) → Shared → St → Hp → β → Prop} (h : ∀ pins s σ H Q, Inv X pins σ H s → ∀ H₀ O₀ O ρ, EnvOk X.K H₀ O₀ H O σ ρ → r H O ρ Q → G pins s σ H Q) (pins s σ H Q) (I : Inv X pins σ H s) (q : ∃ H₀ O₀ O ρ, EnvOk X.K H₀ O₀ H O σ ρ ∧ r H O ρ Q) : G pins s σ H Q := let ⟨H₀, O₀, O, ρ, E, q⟩ := q; h pins s σ H Q I H₀ O₀ O ρ E q
theorem PD.pb (h : PD X e f) : PB X e f := peI h fun σ H Q H₀ O₀ O ρ E q => ⟨H₀, O₀, O, ρ, E, by
  unfold RC RCB at *
  cases e : f ρ with
  | ok d => rw [e] at q; exact fun v H' s r => q v H' s (.inl r)
  | ex x => rw [e] at q; exact q
  | bad => rw [e] at q; exact q⟩

/-- two in a row -/
theorem RC.seq {O : Addr → Prop} (h : RC X H O (r.bind g) Q) :
    RC X H O r fun v H1 => ∃ d, r = .ok d ∧ Same H H1 ∧ Rep X.K H1 O v d ∧ RC X H1 O (g d) Q := by
  cases r with
  | ok d =>
    intro v H1 s1 r1
    refine ⟨d, rfl, s1, r1, ?_⟩
    have h' : RC X H O (g d) Q := h
    cases e : g d with
    | ok d' => rw [e] at h'; exact fun w H2 s2 r2 => h' w H2 (s1.trans s2) r2
    | ex x => rw [e] at h'; exact fun H2 s2 => h' H2 (s1.trans s2)
    | bad => rw [e] at h'; exact h'
  | ex x => exact h
  | bad => exact h
theorem RCB.seq {O : Addr → Prop} (h : RC X H O (r.bind g) Q) :
    RCB X H O r fun v H1 => ∃ d, r = .ok d ∧ Same H H1 ∧ RepB X.K H1 O v d ∧ RC X H1 O (g d) Q := by
  cases r with
  | ok d =>
    intro v H1 s1 r1
    refine ⟨d, rfl, s1, r1, ?_⟩
    have h' : RC X H O (g d) Q := h
    cases e : g d with
    | ok d' => rw [e] at h'; exact fun w H2 s2 r2 => h' w H2 (s1.trans s2) r2
    | ex x => rw [e] at h'; exact fun H2 s2 => h' H2 (s1.trans s2)
    | bad => rw [e] at h'; exact h'
  | ex x => exact h
  | bad => exact h
theorem RC.grow {O : Addr → Prop} (h : RC X H O r Q) (s1 : Same H H1) : RC X H1 O r Q := by
  cases r with
  | ok d => exact fun w H2 s2 r2 => h w H2 (s1.trans s2) r2
  | ex x => exact fun H2 s2 => h H2 (s1.trans s2)
  | bad => exact h
end DL

namespace DL
open PySem PySem.Spec L2
open PyProof.Rows hiding St
variable [Tabs]

section
variable {X : Cx}
theorem RepB.same (e : Same H H') (r : RepB X.K H O v d) : RepB X.K H' O v d := by
  rcases r with r | ⟨a, vs, ds, h1, h2, h3, h4⟩
  · exact .inl (r.same e)
  · exact .inr ⟨a, vs, ds, h1, h2, e.seq h3, h4.same e⟩
theorem RepB.of {K : PySem.W.Frag} (r : Rep K H O v d) : RepB K H O v d := .inl r
/-- the shapes of a borrowed value -/
theorem RepB.lstI {K : PySem.W.Frag} {ds : List D} (r : RepB K H O v (.lst ds)) : ∃ a vs, v = .ref a ∧ SqL K H a vs ∧ Reps K H O vs ds := by
  rcases r with r | ⟨a, vs, es, h1, h2, h3, h4⟩
  · cases r with | lst h n r => exact ⟨_, _, rfl, h, r⟩
  · injection h2 with h2; subst h2; exact ⟨a, vs, h1, h3, h4⟩
theorem RepB.dctI {K : PySem.W.Frag} (r : RepB K H O v .dct) : ∃ a o, v = .ref a ∧ H a = some (.ext fun h => h.get? a = some o) ∧ o.ExactDict := by
  rcases r with r | ⟨a, vs, es, h1, h2, h3, h4⟩
  · cases r with | dct h x n => exact ⟨_, _, rfl, h, x⟩
  · cases h2
theorem RepB.tupI {K : PySem.W.Frag} {ds : List D} (r : RepB K H O v (.tup ds)) : ∃ a vs, v = .ref a ∧ SqT K H a vs ∧ Reps K H O vs ds := by
  rcases r with r | ⟨a, vs, es, h1, h2, h3, h4⟩
  · cases r with | tup h r => exact ⟨_, _, rfl, h, r⟩
  · cases h2
theorem RepB.intI {K : PySem.W.Frag} {i : Int} (r : RepB K H O v (.int i)) : v = .int i := by
  rcases r with r | ⟨a, vs, es, h1, h2, h3, h4⟩
  · cases r; rfl
  · cases h2
theorem RepB.blI {K : PySem.W.Frag} {i : Bool} (r : RepB K H O v (.bl i)) : v = .bl i := by
  rcases r with r | ⟨a, vs, es, h1, h2, h3, h4⟩
  · cases r; rfl
  · cases h2
theorem RepB.nonI {K : PySem.W.Frag} (r : RepB K H O v .non) : v = .non := by
  rcases r with r | ⟨a, vs, es, h1, h2, h3, h4⟩
  · cases r; rfl
  · cases h2
theorem RepB.strI {K : PySem.W.Frag} {i : Str} (r : RepB K H O v (.str i)) : v = .str i := by
  rcases r with r | ⟨a, vs, es, h1, h2, h3, h4⟩
  · cases r; rfl
  · cases h2
end

/-! ### names, constants -/
def evV (i : Nat) (ρ : Ev) : R D := match ρ[i]? with
  | some (.v d) => .ok d
  | _ => .bad
def evB (i : Nat) (ρ : Ev) : R D := match ρ[i]? with
  | some (.v d) => .ok d
  | some (.o xs) => .ok (.lst xs)
  | _ => .bad
section

theorem pd_var (i : Nat) (hN : X.N[i]? = some x := by rfl) (hv : Vis X.env.scope x := by first | exact Or.inl rfl | exact Or.inr (Or.inl rfl) | exact Or.inr (Or.inr rfl)) (hd : (x == ("__debug__" : Str)) = false := by decide) (hcd : (x == ("__classdict__" : Str)) = false := by decide) : PD X (.Name x pos) (evV i) := peI (pe_var hN hv hd hcd) fun σ H Q H₀ O₀ O ρ E q => by
  unfold evV at q
  cases e : ρ[i]? with
  | none => rw [e] at q; exact q.elim
  | some sl =>
    rw [e] at q
    cases sl with
    | no => exact q.elim
    | x C => exact q.elim
    | c m φ => exact q.elim
    | d kvs => exact q.elim
    | o xs => exact q.elim
    | v d =>
      obtain ⟨v, h1, h2⟩ := E.val i d e
      exact ⟨v, h1, q v H (Same.refl H) h2⟩
theorem pb_var (i : Nat) (hN : X.N[i]? = some x := by rfl) (hv : Vis X.env.scope x := by first | exact Or.inl rfl | exact Or.inr (Or.inl rfl) | exact Or.inr (Or.inr rfl)) (hd : (x == ("__debug__" : Str)) = false := by decide) (hcd : (x == ("__classdict__" : Str)) = false := by decide) : PB X (.Name x pos) (evB i) := peI (pe_var hN hv hd hcd) fun σ H Q H₀ O₀ O ρ E q => by
  unfold evB at q
  cases e : ρ[i]? with
  | none => rw [e] at q; exact q.elim
  | some sl =>
    rw [e] at q
    cases sl with
    | no => exact q.elim
    | x C => exact q.elim
    | c m φ => exact q.elim
    | d kvs => exact q.elim
    | o xs =>
      obtain ⟨a, vs, h1, h2, h3, h4, h5⟩ := E.own i xs e
      exact ⟨_, h1, q _ H (Same.refl H) (.inr ⟨a, vs, xs, rfl, rfl, SqL.of h4, h5⟩)⟩
    | v d =>
      obtain ⟨v, h1, h2⟩ := E.val i d e
      exact ⟨v, h1, q v H (Same.refl H) (.inl h2)⟩
def evC (d : D) (_ : Ev) : R D := .ok d
theorem pd_con (h : PE X e (tC v)) (r : ∀ H O, Rep X.K H O v d) : PD X e (evC d) := peI h fun σ H Q H₀ O₀ O ρ E q => q v H (Same.refl H) (r H O)
theorem pd_int {j pos} : PD X (.Constant (.int i) j pos) (evC (.int i)) := pd_con pe_int fun _ _ => .int
theorem pd_bl {j pos} : PD X (.Constant (.bool i) j pos) (evC (.bl i)) := pd_con pe_bl fun _ _ => .bl
theorem pd_str {j pos} : PD X (.Constant (.str i) j pos) (evC (.str i)) := pd_con pe_str fun _ _ => .str
theorem pd_non {j pos} : PD X (.Constant .none j pos) (evC .non) := pd_con pe_non fun _ _ => .non

/-! ### operations -/
/-- a two-place operation on data -/
def OpD (X : Cx) (f : Value → Value → Sem Value) (g : D → D → R D) : Prop :=
  ∀ (H : Hp) (O : Addr → Prop) (x y : V) (dx dy : D) (Q : VK), (∀ p, H p = none → ¬ O p) → RepB X.K H O x dx → RepB X.K H O y dy → RC X H O (g dx dy) Q → ∃ r, OpR X f r ∧ r x y H Q
/-- the reading of two operands -/
def rTwo (X : Cx) (O : Addr → Prop) (g : D → D → R D) (Q : VK) : V → V → Hp → Prop := fun x y H => ∃ dx dy, (∀ p, H p = none → ¬ O p) ∧ RepB X.K H O x dx ∧ RepB X.K H O y dy ∧ RC X H O (g dx dy) Q
theorem two_ops {O₀ O : Addr → Prop} (E : EnvOk X.K H₀ O₀ H O σ ρ) (q : RC X H O ((f1 ρ).bind fun x => (f2 ρ).bind fun y => g x y) Q) :
    tDB X f1 σ H fun x H1 => tDB X f2 σ H1 fun y H2 => rTwo X O g Q x y H2 := by
  refine ⟨H₀, O₀, O, ρ, E, ?_⟩
  have h1 := RCB.seq q
  revert h1
  cases e1 : f1 ρ with
  | ok d1 =>
    intro h1 x H1 s1 r1
    obtain ⟨d, e, _, r, h2⟩ := h1 x H1 s1 r1
    cases e
    have E1 := E.grow s1
    refine ⟨H₀, O₀, O, ρ, E1, ?_⟩
    have h3 := RCB.seq h2
    revert h3
    cases e2 : f2 ρ with
    | ok d2 =>
      intro h3 y H2 s2 r2
      obtain ⟨d', e, _, r', h4⟩ := h3 y H2 s2 r2
      cases e
      exact ⟨d1, d2, fun p hp => (E1.grow s2).fresh hp, r.same s2, r', h4⟩
    | ex x => intro h3; exact h3
    | bad => intro h3; exact h3
  | ex x => intro h1; exact h1
  | bad => intro h1; exact h1
theorem pd_bin (ho : OpD X (binaryOp op) g) (ha : PB X a f1) (hb : PB X b f2) : PD X (.BinOp a op b pos) (fun ρ => (f1 ρ).bind fun x => (f2 ρ).bind fun y => g x y) := by
  refine mkE fun pins s σ H Q I H₀ O₀ O ρ E q => ?_
  refine wpAny_BinOp (binT ha hb I (two_ops E q) fun v u s2 x y H2 I2 rx ry h => ?_)
  obtain ⟨dx, dy, fr, r1, r2, q⟩ := h
  obtain ⟨r, hr, hq⟩ := ho H2 O x y dx dy Q fr r1 r2 q
  exact hr pins s2 σ H2 x y v u Q I2 rx ry hq
theorem pd_cmp (ho : OpD X (compareOp op) g) (ha : PB X a f1) (hb : PB X b f2) (hm : behindInMarks op b = false := by first | exact nomark _ | with_unfolding_all rfl) :
    PD X (.Compare a [op] [b] pos) (fun ρ => (f1 ρ).bind fun x => (f2 ρ).bind fun y => g x y) := by
  refine mkE fun pins s σ H Q I H₀ O₀ O ρ E q => ?_
  refine wpAny_Compare1 (binT ha hb I (two_ops E q) fun v u s2 x y H2 I2 rx ry h => ?_) hm
  obtain ⟨dx, dy, fr, r1, r2, q⟩ := h
  obtain ⟨r, hr, hq⟩ := ho H2 O x y dx dy Q fr r1 r2 q
  exact hr pins s2 σ H2 x y v u Q I2 rx ry hq
def toB : D → R Bool
  | .bl b => .ok b
  | _ => .bad
/-- from the wish of a test to that of a value -/
theorem test_of {O : Addr → Prop} {Q : Bool → Hp → Prop} (h : RCT X H (r.bind toB) Q) : RC X H O r fun v H1 => ∃ c, v = .bl c ∧ Q c H1 := by
  cases r with
  | ok d =>
    cases d with
    | bl b =>
      intro v H1 s1 r1
      cases r1
      exact ⟨b, rfl, h H1 s1⟩
    | _ => exact (show False from h).elim
  | ex x => exact h
  | bad => exact h
theorem ptd_cmp (ho : OpD X (compareOp op) g) (ha : PB X a f1) (hb : PB X b f2) (hm : behindInMarks op b = false := by first | exact nomark _ | with_unfolding_all rfl) :
    PTD X (.Compare a [op] [b] pos) (fun ρ => ((f1 ρ).bind fun x => (f2 ρ).bind fun y => g x y).bind toB) := by
  refine mkE fun pins s σ H Q I H₀ O₀ O ρ E q => ?_
  have q' := test_of (O := O) q
  refine wpAny_isTrue_Compare1 (binT ha hb I (two_ops E q') fun v u s2 x y H2 I2 rx ry h => ?_) hm
  obtain ⟨dx, dy, fr, r1, r2, q⟩ := h
  obtain ⟨r, hr, hq⟩ := ho H2 O x y dx dy _ fr r1 r2 q
  refine thn (hr pins s2 σ H2 x y v u _ I2 rx ry hq) fun c s3 ⟨z, H3, I3, r3, k, e, q3⟩ => ?_
  subst e
  cases r3
  exact wpAny_truthy_bool ⟨H3, I3, q3⟩
/-- an expression whose value is a bool, as a test -/
theorem ptd_val (h : PD X e f) (he : ∀ whole, isTrue e X.env whole = (do let v ← whole; standAt e.pos; holding [v] (truthy v)) := by intro _; rfl) : PTD X e (fun ρ => (f ρ).bind toB) := by
  refine ptI (pt_val h he) fun σ H Q H₀ O₀ O ρ E q => ⟨H₀, O₀, O, ρ, E, test_of q⟩

/-! ### and, or, not, if else -/
theorem RCT.seq {Q : Bool → Hp → Prop} (h : RCT X H (r.bind g) Q) : RCT X H r fun b H1 => r = .ok b ∧ Same H H1 ∧ RCT X H1 (g b) Q := by
  cases r with
  | ok d =>
    intro H1 s1
    refine ⟨rfl, s1, ?_⟩
    have h' : RCT X H (g d) Q := h
    cases e : g d with
    | ok d' => rw [e] at h'; exact fun H2 s2 => h' H2 (s1.trans s2)
    | ex x => rw [e] at h'; exact fun H2 s2 => h' H2 (s1.trans s2)
    | bad => rw [e] at h'; exact h'
  | ex x => exact h
  | bad => exact h
theorem RCT.seqD {O : Addr → Prop} (h : RC X H O (r.bind g) Q) : RCT X H r fun b H1 => r = .ok b ∧ Same H H1 ∧ RC X H1 O (g b) Q := by
  cases r with
  | ok d =>
    intro H1 s1
    refine ⟨rfl, s1, ?_⟩
    have h' : RC X H O (g d) Q := h
    exact h'.grow s1
  | ex x => exact h
  | bad => exact h
theorem RCT.mono {Q Q' : Bool → Hp → Prop} (h : RCT X H r Q) (i : ∀ b H1, Q b H1 → Q' b H1) : RCT X H r Q' := by
  cases r with
  | ok d => exact fun H1 s1 => i _ _ (h H1 s1)
  | ex x => exact h
  | bad => exact h
theorem RC.mono {O : Addr → Prop} (h : RC X H O r Q) (i : ∀ b H1, Q b H1 → Q' b H1) : RC X H O r Q' := by
  cases r with
  | ok d => exact fun v H1 s1 r1 => i _ _ (h v H1 s1 r1)
  | ex x => exact h
  | bad => exact h
def PWD (X : Cx) (e : Expr) (f : Ev → R Bool) : Prop := PW X e (tDT X f)
def andB (f g : Ev → R Bool) : Ev → R Bool := fun ρ => (f ρ).bind fun b => if b = true then g ρ else .ok false
def orB (f g : Ev → R Bool) : Ev → R Bool := fun ρ => (f ρ).bind fun b => if b = true then .ok true else g ρ
def notB (f : Ev → R Bool) : Ev → R Bool := fun ρ => (f ρ).bind fun b => .ok (!b)
variable {rest : List Expr}
theorem pwd_and1 (ha : PTD X a f) : PWD X (.BoolOp .And [a] pos) f := pw_and1 ha
theorem pwd_or1 (ha : PTD X a f) : PWD X (.BoolOp .Or [a] pos) f := pw_or1 ha
theorem pw_imp (h : PW X e t) (i : ∀ σ H Q, t' σ H Q → t σ H Q) : PW X e t' := fun wh pins s σ H Q I q => h wh pins s σ H Q I (i σ H Q q)
theorem pwd_and (ha : PTD X a f) (hb : PWD X (.BoolOp .And (b :: rest) pos) g) : PWD X (.BoolOp .And (a :: b :: rest) pos) (andB f g) :=
  pw_imp (pw_and ha hb) fun σ H Q ⟨H₀, O₀, O, ρ, E, q⟩ => ⟨H₀, O₀, O, ρ, E, RCT.mono (RCT.seq q) fun b H1 ⟨_, s1, h1⟩ => by
    cases b with
    | true => rw [if_pos rfl]; exact ⟨H₀, O₀, O, ρ, E.grow s1, h1⟩
    | false => rw [if_neg Bool.false_ne_true]; exact h1 H1 (Same.refl _)⟩
theorem pwd_or (ha : PTD X a f) (hb : PWD X (.BoolOp .Or (b :: rest) pos) g) : PWD X (.BoolOp .Or (a :: b :: rest) pos) (orB f g) :=
  pw_imp (pw_or ha hb) fun σ H Q ⟨H₀, O₀, O, ρ, E, q⟩ => ⟨H₀, O₀, O, ρ, E, RCT.mono (RCT.seq q) fun b H1 ⟨_, s1, h1⟩ => by
    cases b with
    | false => rw [if_neg Bool.false_ne_true]; exact ⟨H₀, O₀, O, ρ, E.grow s1, h1⟩
    | true => rw [if_pos rfl]; exact h1 H1 (Same.refl _)⟩
theorem PWD.pt (h : PWD X e f) : PTD X e f := PW.pt h
theorem ptd_not (ha : PTD X a f) : PTD X (.UnaryOp .Not a pos) (notB f) :=
  ptI (pt_not ha) fun σ H Q H₀ O₀ O ρ E q => ⟨H₀, O₀, O, ρ, E, RCT.mono (RCT.seq q) fun b H1 ⟨_, s1, h1⟩ => h1 H1 (Same.refl _)⟩
/-- as values -/
def andV (f : Ev → R D) (g : Ev → R D) : Ev → R D := fun ρ => ((f ρ).bind toB).bind fun b => if b = true then g ρ else .ok (.bl false)
def orV (f : Ev → R D) (g : Ev → R D) : Ev → R D := fun ρ => ((f ρ).bind toB).bind fun b => if b = true then .ok (.bl true) else g ρ
def notV (f : Ev → R D) : Ev → R D := fun ρ => ((f ρ).bind toB).bind fun b => .ok (.bl (!b))
theorem pd_one {op} {f : Ev → R D} (h : PD X a f) : PD X (.BoolOp op [a] pos) f := pe_one h
theorem pd_and {f g : Ev → R D} (ha : PD X a f) (hb : PD X (.BoolOp .And (b :: rest) pos) g) : PD X (.BoolOp .And (a :: b :: rest) pos) (andV f g) :=
  peI (pe_and ha hb) fun σ H Q H₀ O₀ O ρ E q => ⟨H₀, O₀, O, ρ, E, RC.mono (test_of (RCT.seqD q)) fun v H1 ⟨c, e, _, s1, h1⟩ => ⟨c, e, by
    cases c with
    | true => rw [if_pos rfl]; exact ⟨H₀, O₀, O, ρ, E.grow s1, h1⟩
    | false => rw [if_neg Bool.false_ne_true]; exact h1 _ H1 (Same.refl _) .bl⟩⟩
theorem pd_or {f g : Ev → R D} (ha : PD X a f) (hb : PD X (.BoolOp .Or (b :: rest) pos) g) : PD X (.BoolOp .Or (a :: b :: rest) pos) (orV f g) :=
  peI (pe_or ha hb) fun σ H Q H₀ O₀ O ρ E q => ⟨H₀, O₀, O, ρ, E, RC.mono (test_of (RCT.seqD q)) fun v H1 ⟨c, e, _, s1, h1⟩ => ⟨c, e, by
    cases c with
    | false => rw [if_neg Bool.false_ne_true]; exact ⟨H₀, O₀, O, ρ, E.grow s1, h1⟩
    | true => rw [if_pos rfl]; exact h1 _ H1 (Same.refl _) .bl⟩⟩
theorem pd_not {f : Ev → R D} (ha : PD X a f) : PD X (.UnaryOp .Not a pos) (notV f) :=
  peI (pe_not ha) fun σ H Q H₀ O₀ O ρ E q => ⟨H₀, O₀, O, ρ, E, RC.mono (test_of (RCT.seqD q)) fun v H1 ⟨c, e, _, s1, h1⟩ => ⟨c, e, h1 _ H1 (Same.refl _) .bl⟩⟩
def iteV (c : Ev → R Bool) (f g : Ev → R D) : Ev → R D := fun ρ => (c ρ).bind fun b => if b = true then f ρ else g ρ
theorem pd_ite {c : Expr} {fc : Ev → R Bool} {f g : Ev → R D} (hc : PTD X c fc) (ha : PD X a f) (hb : PD X b g) : PD X (.IfExp c a b pos) (iteV fc f g) :=
  peI (pe_ifExp hc ha hb) fun σ H Q H₀ O₀ O ρ E q => ⟨H₀, O₀, O, ρ, E, RCT.mono (RCT.seqD q) fun c H1 ⟨_, s1, h1⟩ => by
    cases c with
    | false => rw [if_neg Bool.false_ne_true]; exact ⟨H₀, O₀, O, ρ, E.grow s1, h1⟩
    | true => rw [if_pos rfl]; exact ⟨H₀, O₀, O, ρ, E.grow s1, h1⟩⟩
/-- - e -/
def negD : D → R D
  | .int i => .ok (.int (-i))
  | _ => .bad
theorem pd_neg {f : Ev → R D} (ha : PD X a f) : PD X (.UnaryOp .USub a pos) (fun ρ => (f ρ).bind negD) :=
  peI (pe_un un_neg ha) fun σ H Q H₀ O₀ O ρ E q => ⟨H₀, O₀, O, ρ, E, by
    refine RC.mono (RC.seq q) fun v H1 ⟨d, _, s1, r1, h1⟩ => ?_
    cases d with
    | int i => cases r1; exact ⟨i, rfl, h1 _ H1 (Same.refl _) .int⟩
    | _ => exact (show False from h1).elim⟩

/-! ### argument lists, displays -/
theorem RCs.seq {H : Hp} {O : Addr → Prop} {r : R (List D)} {g : List D → R D} {Q : VK} (h : RC X H O (r.bind g) Q) :
    RCs X H O r fun v H1 => ∃ d, r = .ok d ∧ Same H H1 ∧ Reps X.K H1 O v d ∧ RC X H1 O (g d) Q := by
  cases r with
  | ok d => exact fun v H1 s1 r1 => ⟨d, rfl, s1, r1, (show RC X H O (g d) Q from h).grow s1⟩
  | ex x => exact h
  | bad => exact h
theorem RCs.mono {O : Addr → Prop} {Q Q' : List V → Hp → Prop} (h : RCs X H O r Q) (i : ∀ b H1, Q b H1 → Q' b H1) : RCs X H O r Q' := by
  cases r with
  | ok d => exact fun v H1 s1 r1 => i _ _ (h v H1 s1 r1)
  | ex x => exact h
  | bad => exact h
theorem RCBs.seq {H : Hp} {O : Addr → Prop} {r : R (List D)} {g : List D → R D} {Q : VK} (h : RC X H O (r.bind g) Q) :
    RCBs X H O r fun v H1 => ∃ d, r = .ok d ∧ Same H H1 ∧ Paired (RepB X.K H1 O) v d ∧ RC X H1 O (g d) Q := by
  cases r with
  | ok d => exact fun v H1 s1 r1 => ⟨d, rfl, s1, r1, (show RC X H O (g d) Q from h).grow s1⟩
  | ex x => exact h
  | bad => exact h
theorem RCBs.mono {O : Addr → Prop} {Q Q' : List V → Hp → Prop} (h : RCBs X H O r Q) (i : ∀ b H1, Q b H1 → Q' b H1) : RCBs X H O r Q' := by
  cases r with
  | ok d => exact fun v H1 s1 r1 => i _ _ (h v H1 s1 r1)
  | ex x => exact h
  | bad => exact h
theorem RCB.mono {O : Addr → Prop} (h : RCB X H O r Q) (i : ∀ b H1, Q b H1 → Q' b H1) : RCB X H O r Q' := by
  cases r with
  | ok d => exact fun v H1 s1 r1 => i _ _ (h v H1 s1 r1)
  | ex x => exact h
  | bad => exact h
def consR (f : Ev → R D) (g : Ev → R (List D)) : Ev → R (List D) := fun ρ => (f ρ).bind fun d => (g ρ).bind fun ds => .ok (d :: ds)
def nilR : Ev → R (List D) := fun _ => .ok []

theorem pad_nil : PAD X [] nilR := paI pa_nil fun σ H Q H₀ O₀ O ρ E q => q [] H (Same.refl _) .nil
theorem pad_cons {f : Ev → R D} {g : Ev → R (List D)} (ha : PD X e f) (hr : PAD X es g) (hs : starEach (e :: es) X.env = (false, eval e X.env) :: starEach es X.env := by rfl) : PAD X (e :: es) (consR f g) :=
  paI (pa_cons ha hr hs) fun σ H Q H₀ O₀ O ρ E q => ⟨H₀, O₀, O, ρ, E, by
    unfold consR at q
    cases e1 : f ρ with
    | ok d =>
      rw [e1] at q
      intro v H1 s1 r1
      refine ⟨H₀, O₀, O, ρ, E.grow s1, ?_⟩
      cases e2 : g ρ with
      | ok ds =>
        rw [e2] at q
        exact fun vs H2 s2 r2 => q (v :: vs) H2 (s1.trans s2) (.cons (r1.same s2) r2)
      | ex x => rw [e2] at q; exact fun H2 s2 => q H2 (s1.trans s2)
      | bad => rw [e2] at q; exact q
    | ex x => rw [e1] at q; exact q
    | bad => rw [e1] at q; exact q⟩
theorem pab_nil : PAB X [] nilR := paI pa_nil fun σ H Q H₀ O₀ O ρ E q => q [] H (Same.refl _) .nil
theorem paired_same {K : PySem.W.Frag} {H H' : Hp} {O : Addr → Prop} (s : Same H H') : ∀ {vs : List V} {ds : List D}, Paired (RepB K H O) vs ds → Paired (RepB K H' O) vs ds
  | _, _, .nil => .nil
  | _, _, .cons r t => .cons (by rcases r with r | ⟨a, vs, ds, h1, h2, h3, h4⟩; exact .inl (r.same s); exact .inr ⟨a, vs, ds, h1, h2, s.seq h3, h4.same s⟩) (paired_same s t)
theorem pab_cons {f : Ev → R D} {g : Ev → R (List D)} (ha : PB X e f) (hr : PAB X es g) (hs : starEach (e :: es) X.env = (false, eval e X.env) :: starEach es X.env := by rfl) : PAB X (e :: es) (consR f g) :=
  paI (pa_cons ha hr hs) fun σ H Q H₀ O₀ O ρ E q => ⟨H₀, O₀, O, ρ, E, by
    unfold consR at q
    cases e1 : f ρ with
    | ok d =>
      rw [e1] at q
      intro v H1 s1 r1
      refine ⟨H₀, O₀, O, ρ, E.grow s1, ?_⟩
      cases e2 : g ρ with
      | ok ds =>
        rw [e2] at q
        exact fun vs H2 s2 r2 => q (v :: vs) H2 (s1.trans s2) (.cons (r1.same s2) r2)
      | ex x => rw [e2] at q; exact fun H2 s2 => q H2 (s1.trans s2)
      | bad => rw [e2] at q; exact q
    | ex x => rw [e1] at q; exact q
    | bad => rw [e1] at q; exact q⟩
def tupR (ds : List D) : R D := if ds.length ≤ sizeLine then .ok (.tup ds) else .bad
def lstR (ds : List D) : R D := if ds.length ≤ sizeLine then .ok (.lst ds) else .bad
theorem pd_tup {f : Ev → R (List D)} {x1} (h : PAD X es f) : PD X (.Tuple es x1 pos) (fun ρ => (f ρ).bind tupR) :=
  peI (pe_tup h) fun σ H Q H₀ O₀ O ρ E q => ⟨H₀, O₀, O, ρ, E, RCs.mono (RCs.seq q) fun vs H1 ⟨ds, _, s1, r1, h1⟩ => by
    unfold tupR at h1
    split at h1
    · rename_i hz
      exact ⟨by rw [r1.length]; exact hz, fun p hp => h1 (.ref p) _ (same_upd hp _) (.tup (SqT.of upd_same) (r1.same (same_upd hp _)))⟩
    · exact h1.elim⟩
theorem pd_lst {f : Ev → R (List D)} (h : PAD X es f) : PD X (.List es pos) (fun ρ => (f ρ).bind lstR) :=
  peI (pe_lst h) fun σ H Q H₀ O₀ O ρ E q => ⟨H₀, O₀, O, ρ, E, RCs.mono (RCs.seq q) fun vs H1 ⟨ds, _, s1, r1, h1⟩ => by
    unfold lstR at h1
    split at h1
    · rename_i hz
      exact ⟨by rw [r1.length]; exact hz, fun p hp => h1 (.ref p) _ (same_upd hp _) (.lst (SqL.of upd_same) ((E.grow s1).fresh hp) (r1.same (same_upd hp _)))⟩
    · exact h1.elim⟩

/-! ### calls of built-ins by data -/
def CallD (X : Cx) (f : Value) (g : List D → R D) : Prop :=
  ∀ (H : Hp) (O : Addr → Prop) (vs : List V) (ds : List D) (Q : VK), (∀ p, H p = none → ¬ O p) → Paired (RepB X.K H O) vs ds → RC X H O (g ds) Q → ∃ r, CallR X f r ∧ r vs H Q
theorem pd_callB {x : Str} {id : String} {p : Pos} {f : Ev → R (List D)} {g : List D → R D} (hc : CallD X (.builtin id) g) (ha : PAB X (e :: es) f) (hg : Gl X x := by rfl) (hm : X.mg x = none := by assumption) (hv : bootBuiltins x = some (.builtin id) := by decide +kernel) (hn : x ≠ "__name__" := by decide)
    (hdb : (x == ("__debug__" : Str)) = false := by decide) (he : starEach (e :: es) X.env = (false, eval e X.env) :: starEach es X.env := by rfl) (hpl : (backTo pos (starEach es X.env)).any (·.1) = false := by rfl) :
    PD X (.Call (.Name x p) (e :: es) [] pos) (fun ρ => (f ρ).bind g) := by
  refine mkE fun pins s σ H Q I H₀ O₀ O ρ E q => ?_
  refine wpAny_Call_Name_kw (ld_blt I hg hm hv ?_ hn hdb)
  refine PyProof.Rows.callWith_builtin1 (thn (ha pos pins s σ H _ I ⟨H₀, O₀, O, ρ, E, RCBs.seq q⟩) fun us s1 ⟨vs, H1, I1, r1, d, _, sm, r, h⟩ => ?_) he hpl
  obtain ⟨r', hr, hq⟩ := hc H1 O vs d Q (fun p hp => (E.grow sm).fresh hp) r h
  exact hr pins s1 σ H1 vs us Q I1 r1 hq
theorem pd_callTy {x : Str} {T : String} {p : Pos} {f : Ev → R (List D)} {g : List D → R D} (hc : CallD X (.type T) g) (ha : PAB X (e :: es) f) (hg : Gl X x := by rfl) (hm : X.mg x = none := by assumption) (hv : bootBuiltins x = some (.type T) := by decide +kernel) (hn : x ≠ "__name__" := by decide)
    (hdb : (x == ("__debug__" : Str)) = false := by decide) (he : starEach (e :: es) X.env = (false, eval e X.env) :: starEach es X.env := by rfl) (hpl : (backTo pos (starEach es X.env)).any (·.1) = false := by rfl) :
    PD X (.Call (.Name x p) (e :: es) [] pos) (fun ρ => (f ρ).bind g) := by
  refine mkE fun pins s σ H Q I H₀ O₀ O ρ E q => ?_
  refine wpAny_Call_Name_kw (ld_blt I hg hm hv ?_ hn hdb)
  refine PyProof.Rows.callWith_type1 (thn (ha pos pins s σ H _ I ⟨H₀, O₀, O, ρ, E, RCBs.seq q⟩) fun us s1 ⟨vs, H1, I1, r1, d, _, sm, r, h⟩ => ?_) he hpl
  obtain ⟨r', hr, hq⟩ := hc H1 O vs d Q (fun p hp => (E.grow sm).fresh hp) r h
  exact hr pins s1 σ H1 vs us Q I1 r1 hq
end
end DL

namespace DL
open PySem PySem.Spec L2
open PyProof.Rows hiding St
variable [Tabs]

/-! ### equality of data -/
mutual
def eqD : D → D → Bool
  | .non, .non => true
  | .bl a, .bl b => a == b
  | .bl a, .int b => (if a then 1 else 0) == b
  | .int a, .bl b => a == (if b then 1 else 0)
  | .int a, .int b => a == b
  | .str a, .str b => a == b
  | .tup xs, .tup ys => eqDs xs ys
  | .lst xs, .lst ys => eqDs xs ys
  | .dct, .dct => true
  | _, _ => false
def eqDs : List D → List D → Bool
  | [], [] => true
  | x :: xs, y :: ys => eqD x y && eqDs xs ys
  | _, _ => false
end
mutual
def dep : D → Nat
  | .tup xs => deps xs + 1
  | .lst xs => deps xs + 1
  | .dct => cLine
  | _ => 0
def deps : List D → Nat
  | [] => 0
  | x :: xs => max (dep x) (deps xs)
end
mutual
theorem eqD_refl : ∀ d : D, eqD d d = true
  | .non => by simp [eqD]
  | .bl b => by simp [eqD]
  | .int i => by simp [eqD]
  | .str x => by simp [eqD]
  | .tup xs => by rw [eqD]; exact eqDs_refl xs
  | .lst xs => by rw [eqD]; exact eqDs_refl xs
  | .dct => by simp [eqD]
theorem eqDs_refl : ∀ ds : List D, eqDs ds ds = true
  | [] => by simp [eqDs]
  | x :: xs => by rw [eqDs, eqD_refl x, eqDs_refl xs]; rfl
end
/-- the items' answers by place -/
def eqAtJ (xs ys : List D) (j : Nat) : Bool := match xs[j]?, ys[j]? with
  | some a, some b => eqD a b
  | _, _ => false
theorem eqDs_range : ∀ (xs ys : List D), eqDs xs ys = ((List.range (min xs.length ys.length)).all (eqAtJ xs ys) && (xs.length == ys.length))
  | [], [] => by simp [eqDs]
  | [], _ :: _ => by simp [eqDs]
  | _ :: _, [] => by simp [eqDs]
  | x :: xs, y :: ys => by
    rw [eqDs, eqDs_range xs ys, List.length_cons, List.length_cons, Nat.succ_min_succ, List.range_succ_eq_map, List.all_cons, List.all_map]
    have e1 : eqAtJ (x :: xs) (y :: ys) 0 = eqD x y := rfl
    have e2 : (eqAtJ (x :: xs) (y :: ys) ∘ Nat.succ) = eqAtJ xs ys := by
      funext j
      simp [eqAtJ]
    have e3 : (xs.length + 1 == ys.length + 1) = (xs.length == ys.length) := by
      rw [Bool.eq_iff_iff]
      simp
    rw [e1, e2, e3, Bool.and_assoc]
theorem dep_mem : ∀ {xs : List D} {d : D} {j : Nat}, xs[j]? = some d → dep d ≤ deps xs
  | [], _, _, h => by simp at h
  | x :: xs, d, 0, h => by simp at h; subst h; rw [deps]; exact Nat.le_max_left _ _
  | x :: xs, d, j + 1, h => by rw [deps]; exact Nat.le_trans (dep_mem (j := j) (by simpa using h)) (Nat.le_max_right _ _)

section

mutual
/-- one value stands for one datum -/
theorem Rep.inj (I : Inv X pins σ H s) : ∀ {v : V} {d d' : D}, Rep X.K H O v d → Rep X.K H O' v d' → d = d'
  | _, _, _, .non, .non => rfl
  | _, _, _, .bl, .bl => rfl
  | _, _, _, .int, .int => rfl
  | _, _, _, .str, .str => rfl
  | _, _, _, .tup h r, .tup h' r' => by
    have e := I.tuple_inj h h'
    subst e
    rw [Reps.inj I r r']
  | _, _, _, .tup h r, .lst h' _ r' => by
    obtain ⟨its, _, p, _⟩ := I.tuple h
    obtain ⟨its', _, p', _⟩ := I.list h'
    exact absurd rfl (SeqAt.ne_of_list_tuple (s := s) p'.isList p)
  | _, _, _, .lst h' _ r', .tup h r => by
    obtain ⟨its, _, p, _⟩ := I.tuple h
    obtain ⟨its', _, p', _⟩ := I.list h'
    exact absurd rfl (SeqAt.ne_of_list_tuple (s := s) p'.isList p)
  | _, _, _, .lst h _ r, .lst h' _ r' => by
    have e := I.list_inj h h'
    subst e
    rw [Reps.inj I r r']
  | _, _, _, .dct .., .dct .. => rfl
  | _, _, _, .dct h x _, .tup h' _ => by
    obtain ⟨its, _, ⟨o', g, c, _⟩, _⟩ := I.tuple h'
    have e : s.heap.get? _ = some _ := (I.hok _ _ h).1
    rw [g] at e; cases e
    exact absurd (c.symm.trans x.1) (by decide)
  | _, _, _, .tup h' _, .dct h x _ => by
    obtain ⟨its, _, ⟨o', g, c, _⟩, _⟩ := I.tuple h'
    have e : s.heap.get? _ = some _ := (I.hok _ _ h).1
    rw [g] at e; cases e
    exact absurd (c.symm.trans x.1) (by decide)
  | _, _, _, .dct h x _, .lst h' _ _ => by
    obtain ⟨its, _, p, _⟩ := I.list h'
    obtain ⟨o', g, c, _⟩ := p.isList
    have e : s.heap.get? _ = some _ := (I.hok _ _ h).1
    rw [g] at e; cases e
    exact absurd (c.symm.trans x.1) (by decide)
  | _, _, _, .lst h' _ _, .dct h x _ => by
    obtain ⟨its, _, p, _⟩ := I.list h'
    obtain ⟨o', g, c, _⟩ := p.isList
    have e : s.heap.get? _ = some _ := (I.hok _ _ h).1
    rw [g] at e; cases e
    exact absurd (c.symm.trans x.1) (by decide)
theorem Reps.inj (I : Inv X pins σ H s) : ∀ {v : List V} {d d' : List D}, Reps X.K H O v d → Reps X.K H O' v d' → d = d'
  | _, _, _, .nil, .nil => rfl
  | _, _, _, .cons h t, .cons h' t' => by rw [Rep.inj I h h', Reps.inj I t t']
end
/-- the pairs of places of two sequences -/
def PairsAt (A : Around) (s : Shared) (us ws : List Value) (xs ys : List D) : Prop := ∀ (j : Nat) (u w : Value), us[j]? = some u → ws[j]? = some w → SeqAt.EqAt A.in1 s u w (eqAtJ xs ys j)
theorem rc_lists (hl : s.heap.IsList l us.toArray) (hb : s.heap.IsList b ws.toArray) (e1 : us.length = xs.length) (e2 : ws.length = ys.length) (hu : A.units < cLine) (hp : PairsAt A s us ws xs ys) : SeqAt.RcAt A s (.ref l) (.ref b) (eqDs xs ys) ∧ SeqAt.RcNeAt A s (.ref l) (.ref b) (!eqDs xs ys) := by
  rw [eqDs_range]
  by_cases hsz : xs.length = ys.length
  · have hz : us.toArray.size = ws.toArray.size := by simp [e1, e2, hsz]
    have hm : min xs.length ys.length = us.toArray.size := by simp [e1, hsz]
    have hq : (xs.length == ys.length) = true := by simp [hsz]
    have he : ∀ j (h1 : j < us.toArray.size) (h2 : j < ws.toArray.size), SeqAt.EqAt A.in1 s us.toArray[j] ws.toArray[j] (eqAtJ xs ys j) := fun j h1 h2 => hp j _ _ (by simp [List.getElem?_eq_getElem (show j < us.length by simpa using h1)]) (by simp [List.getElem?_eq_getElem (show j < ws.length by simpa using h2)])
    rw [hq, Bool.and_true, hm]
    exact ⟨SeqAt.RcAt.lists hl hb hz hu he, SeqAt.RcNeAt.lists hl hb hz hu he⟩
  · have hz : (us.toArray.size != ws.toArray.size) = true := by simp [e1, e2, hsz]
    have hq : (xs.length == ys.length) = false := by simp [hsz]
    rw [hq, Bool.and_false]
    exact ⟨SeqAt.RcAt.lists_lengths hl hb hz hu, SeqAt.RcNeAt.lists_lengths hl hb hz hu⟩
theorem rc_tuples (hl : IsTup s.heap l us.toArray) (hb : IsTup s.heap b ws.toArray) (e1 : us.length = xs.length) (e2 : ws.length = ys.length) (hu : A.units < cLine) (hp : PairsAt A s us ws xs ys) : SeqAt.RcAt A s (.ref l) (.ref b) (eqDs xs ys) ∧ SeqAt.RcNeAt A s (.ref l) (.ref b) (!eqDs xs ys) := by
  rw [eqDs_range]
  have hm : min xs.length ys.length = min us.toArray.size ws.toArray.size := by simp [e1, e2]
  have hq : (xs.length == ys.length) = (us.toArray.size == ws.toArray.size) := by simp [e1, e2]
  have he : ∀ j (h1 : j < us.toArray.size) (h2 : j < ws.toArray.size), SeqAt.EqAt A.in1 s us.toArray[j] ws.toArray[j] (eqAtJ xs ys j) := fun j h1 h2 => hp j _ _ (by simp [List.getElem?_eq_getElem (show j < us.length by simpa using h1)]) (by simp [List.getElem?_eq_getElem (show j < ws.length by simpa using h2)])
  rw [hq, hm]
  exact ⟨SeqAt.RcAt.tuples hl hb hu he, SeqAt.RcNeAt.tuples hl hb hu he⟩
theorem in1_units (A : Around) : A.in1.units = A.units + 1 := rfl
theorem eqAtJ_some (h1 : xs[j]? = some a) (h2 : ys[j]? = some b) : eqAtJ xs ys j = eqD a b := by unfold eqAtJ; rw [h1, h2]
mutual
/-- == inside a list or tuple -/
theorem eqAt_D (I : Inv X pins σ H s) : ∀ {x y : V} {dx dy : D} {v u : Value} {A : Around}, Rep X.K H O x dx → Rep X.K H O' y dy → RelV x v → RelV y u → A.units + dep dx < cLine → A.units + dep dy < cLine → SeqAt.EqAt A s v u (eqD dx dy)
  | _, _, _, _, v, u, A, .non, ry, rv, ru, hu, hv => by
    have hu' : A.units < cLine := by lia
    cases rv
    cases ry with
    | dct => exact absurd hv (by rw [dep]; lia)
    | non => cases ru; exact SeqAt.EqAt.same _
    | bl => cases ru; simp only [eqD]; exact SeqAt.EqAt.none_bool _
    | int => obtain ⟨t, rfl⟩ := ru; simp only [eqD]; exact SeqAt.EqAt.none_int _ _
    | str => obtain ⟨t, rfl⟩ := ru; simp only [eqD]; exact SeqAt.EqAt.none_str _ _
    | tup h r => cases ru; obtain ⟨_, _, p, _⟩ := I.tuple h; simp only [eqD]; exact SeqAt.EqAt.none_tuple p hu'
    | lst h _ r => cases ru; obtain ⟨_, _, p, _⟩ := I.list h; simp only [eqD]; exact SeqAt.EqAt.none_list p.isList hu'
  | _, _, _, _, v, u, A, .bl, ry, rv, ru, hu, hv => by
    have hu' : A.units < cLine := by lia
    cases rv
    cases ry with
    | dct => exact absurd hv (by rw [dep]; lia)
    | non => cases ru; simp only [eqD]; exact SeqAt.EqAt.bool_none _
    | bl => cases ru; simp only [eqD]; exact SeqAt.EqAt.bool_bool _ _
    | int => obtain ⟨t, rfl⟩ := ru; simp only [eqD]; exact SeqAt.EqAt.bool_int _ _ _
    | str => obtain ⟨t, rfl⟩ := ru; simp only [eqD]; exact SeqAt.EqAt.bool_str _ _ _
    | tup h r => cases ru; obtain ⟨_, _, p, _⟩ := I.tuple h; simp only [eqD]; exact SeqAt.EqAt.bool_tuple _ p hu'
    | lst h _ r => cases ru; obtain ⟨_, _, p, _⟩ := I.list h; simp only [eqD]; exact SeqAt.EqAt.bool_list _ p.isList hu'
  | _, _, _, _, v, u, A, .int, ry, rv, ru, hu, hv => by
    have hu' : A.units < cLine := by lia
    obtain ⟨t1, rfl⟩ := rv
    cases ry with
    | dct => exact absurd hv (by rw [dep]; lia)
    | non => cases ru; simp only [eqD]; exact SeqAt.EqAt.int_none _ _
    | bl => cases ru; simp only [eqD]; exact SeqAt.EqAt.int_bool _ _ _
    | int => obtain ⟨t, rfl⟩ := ru; simp only [eqD]; exact SeqAt.EqAt.int_int _ _ _ _
    | str => obtain ⟨t, rfl⟩ := ru; simp only [eqD]; exact SeqAt.EqAt.int_str _ _ _ _
    | tup h r => cases ru; obtain ⟨_, _, p, _⟩ := I.tuple h; simp only [eqD]; exact SeqAt.EqAt.int_tuple _ _ p hu'
    | lst h _ r => cases ru; obtain ⟨_, _, p, _⟩ := I.list h; simp only [eqD]; exact SeqAt.EqAt.int_list _ _ p.isList hu'
  | _, _, _, _, v, u, A, .str, ry, rv, ru, hu, hv => by
    have hu' : A.units < cLine := by lia
    obtain ⟨t1, rfl⟩ := rv
    cases ry with
    | dct => exact absurd hv (by rw [dep]; lia)
    | non => cases ru; simp only [eqD]; exact SeqAt.EqAt.str_none _ _
    | bl => cases ru; simp only [eqD]; exact SeqAt.EqAt.str_bool _ _ _
    | int => obtain ⟨t, rfl⟩ := ru; simp only [eqD]; exact SeqAt.EqAt.str_int _ _ _ _
    | str => obtain ⟨t, rfl⟩ := ru; simp only [eqD]; exact SeqAt.EqAt.str_str _ _ _ _
    | tup h r => cases ru; obtain ⟨_, _, p, _⟩ := I.tuple h; simp only [eqD]; exact SeqAt.EqAt.str_tuple _ _ p hu'
    | lst h _ r => cases ru; obtain ⟨_, _, p, _⟩ := I.list h; simp only [eqD]; exact SeqAt.EqAt.str_list _ _ p.isList hu'
  | _, _, _, _, v, u, A, .tup (a := a) (vs := vs) (ds := ds) h r, ry, rv, ru, hu, hv => by
    have hu' : A.units < cLine := by lia
    cases rv
    obtain ⟨its, rr, p, _⟩ := I.tuple h
    cases ry with
    | dct => exact absurd hv (by rw [dep]; lia)
    | non => cases ru; simp only [eqD]; exact SeqAt.EqAt.tuple_none p hu'
    | bl => cases ru; simp only [eqD]; exact SeqAt.EqAt.tuple_bool _ p hu'
    | int => obtain ⟨t, rfl⟩ := ru; simp only [eqD]; exact SeqAt.EqAt.tuple_int _ _ p hu'
    | str => obtain ⟨t, rfl⟩ := ru; simp only [eqD]; exact SeqAt.EqAt.tuple_str _ _ p hu'
    | @tup a' vs' ds' h' r' =>
      cases ru
      obtain ⟨its', rr', p', _⟩ := I.tuple h'
      by_cases e : a = a'
      · subst e
        have e2 := I.tuple_inj h h'
        subst e2
        have e3 := Reps.inj I r r'
        subst e3
        rw [eqD_refl]; exact SeqAt.EqAt.same _
      · simp only [eqD]
        refine SeqAt.EqAt.of_refs e (rc_tuples p p' (by rw [← rr.length, r.length]) (by rw [← rr'.length, r'.length]) hu' (eqAt_Ds I r r' rr rr' ?_ ?_)).1
        · rw [dep] at hu; rw [in1_units]; lia
        · rw [dep] at hv; rw [in1_units]; lia
    | lst h' _ r' => cases ru; obtain ⟨_, _, p', _⟩ := I.list h'; simp only [eqD]; exact SeqAt.EqAt.tuple_list p p'.isList hu'
  | _, _, _, _, v, u, A, .lst (a := a) (vs := vs) (ds := ds) h nO r, ry, rv, ru, hu, hv => by
    have hu' : A.units < cLine := by lia
    cases rv
    obtain ⟨its, rr, p, _⟩ := I.list h
    cases ry with
    | dct => exact absurd hv (by rw [dep]; lia)
    | non => cases ru; simp only [eqD]; exact SeqAt.EqAt.list_none p.isList hu'
    | bl => cases ru; simp only [eqD]; exact SeqAt.EqAt.list_bool _ p.isList hu'
    | int => obtain ⟨t, rfl⟩ := ru; simp only [eqD]; exact SeqAt.EqAt.list_int _ _ p.isList hu'
    | str => obtain ⟨t, rfl⟩ := ru; simp only [eqD]; exact SeqAt.EqAt.list_str _ _ p.isList hu'
    | tup h' r' => cases ru; obtain ⟨_, _, p', _⟩ := I.tuple h'; simp only [eqD]; exact SeqAt.EqAt.list_tuple p.isList p' hu'
    | @lst a' vs' ds' h' nO' r' =>
      cases ru
      obtain ⟨its', rr', p', _⟩ := I.list h'
      by_cases e : a = a'
      · subst e
        have e2 := I.list_inj h h'
        subst e2
        have e3 := Reps.inj I r r'
        subst e3
        rw [eqD_refl]; exact SeqAt.EqAt.same _
      · simp only [eqD]
        refine SeqAt.EqAt.of_refs e (rc_lists p.isList p'.isList (by rw [← rr.length, r.length]) (by rw [← rr'.length, r'.length]) hu' (eqAt_Ds I r r' rr rr' ?_ ?_)).1
        · rw [dep] at hu; rw [in1_units]; lia
        · rw [dep] at hv; rw [in1_units]; lia
  | _, _, _, _, v, u, A, .dct .., ry, rv, ru, hu, hv => absurd hu (by rw [dep]; lia)
theorem eqAt_Ds (I : Inv X pins σ H s) : ∀ {vs ws : List V} {xs ys : List D} {us ts : List Value} {A : Around}, Reps X.K H O vs xs → Reps X.K H O' ws ys → Vals vs us → Vals ws ts → A.in1.units + deps xs < cLine → A.in1.units + deps ys < cLine → PairsAt A s us ts xs ys
  | _, _, _, _, us, ts, A, .nil, ry, rv, ru, hu, hv => fun j u w h1 h2 => by cases rv; simp at h1
  | _, _, _, _, us, ts, A, .cons h t, .nil, rv, ru, hu, hv => fun j u w h1 h2 => by cases ru; simp at h2
  | _, _, _, _, us, ts, A, .cons (d := d) (ds := ds) h t, .cons (d := d') (ds := ds') h' t', rv, ru, hu, hv => fun j u w h1 h2 => by
    cases rv with
    | cons r1 r2 =>
      cases ru with
      | cons r1' r2' =>
        rw [deps] at hu hv
        cases j with
        | zero =>
          simp only [List.getElem?_cons_zero, Option.some.injEq] at h1 h2
          subst h1 h2
          exact eqAt_D I h h' r1 r1' (by lia) (by lia)
        | succ j =>
          simp only [List.getElem?_cons_succ] at h1 h2
          have q := eqAt_Ds I (A := A) t t' r2 r2' (by lia) (by lia) j u w h1 h2
          exact q
end
/-- == and != of data, where both may be lists that a name alone has -/
theorem rc_D (I : Inv X pins σ H s) (r1 : RepB X.K H O x dx) (r2 : RepB X.K H O' y dy) (rv : RelV x v) (ru : RelV y u) (hu : A.units + dep dx < cLine) (hv : A.units + dep dy < cLine) :
    SeqAt.RcAt A s v u (eqD dx dy) ∧ SeqAt.RcNeAt A s v u (!eqD dx dy) := by
  have hu' : A.units < cLine := by lia
  cases dx with
  | dct => exact absurd hu (by rw [dep]; lia)
  | non =>
    cases r1.nonI; cases rv
    cases dy with
    | dct => exact absurd hv (by rw [dep]; lia)
    | non => cases r2.nonI; cases ru; simp only [eqD]; exact ⟨SeqAt.RcAt.none_none, SeqAt.RcNeAt.none_none⟩
    | bl => cases r2.blI; cases ru; simp only [eqD]; exact ⟨SeqAt.RcAt.none_bool _, SeqAt.RcNeAt.none_bool _⟩
    | int => cases r2.intI; obtain ⟨t, rfl⟩ := ru; simp only [eqD]; exact ⟨SeqAt.RcAt.none_int _ _, SeqAt.RcNeAt.none_int _ _⟩
    | str => cases r2.strI; obtain ⟨t, rfl⟩ := ru; simp only [eqD]; exact ⟨SeqAt.RcAt.none_str _ _, SeqAt.RcNeAt.none_str _ _⟩
    | tup ys => obtain ⟨a, vs, rfl, h, r⟩ := r2.tupI; cases ru; obtain ⟨_, _, p, _⟩ := I.tuple h; simp only [eqD]; exact ⟨SeqAt.RcAt.none_tuple p hu', SeqAt.RcNeAt.none_tuple p hu'⟩
    | lst ys => obtain ⟨a, vs, rfl, h, r⟩ := r2.lstI; cases ru; obtain ⟨_, _, p, _⟩ := I.list h; simp only [eqD]; exact ⟨SeqAt.RcAt.none_list p.isList hu', SeqAt.RcNeAt.none_list p.isList hu'⟩
  | bl =>
    cases r1.blI; cases rv
    cases dy with
    | dct => exact absurd hv (by rw [dep]; lia)
    | non => cases r2.nonI; cases ru; simp only [eqD]; exact ⟨SeqAt.RcAt.bool_none _, SeqAt.RcNeAt.bool_none _⟩
    | bl => cases r2.blI; cases ru; simp only [eqD]; exact ⟨SeqAt.RcAt.bool_bool _ _, SeqAt.RcNeAt.bool_bool _ _⟩
    | int => cases r2.intI; obtain ⟨t, rfl⟩ := ru; simp only [eqD]; exact ⟨SeqAt.RcAt.bool_int _ _ _, SeqAt.RcNeAt.bool_int _ _ _⟩
    | str => cases r2.strI; obtain ⟨t, rfl⟩ := ru; simp only [eqD]; exact ⟨SeqAt.RcAt.bool_str _ _ _, SeqAt.RcNeAt.bool_str _ _ _⟩
    | tup ys => obtain ⟨a, vs, rfl, h, r⟩ := r2.tupI; cases ru; obtain ⟨_, _, p, _⟩ := I.tuple h; simp only [eqD]; exact ⟨SeqAt.RcAt.bool_tuple _ p hu', SeqAt.RcNeAt.bool_tuple _ p hu'⟩
    | lst ys => obtain ⟨a, vs, rfl, h, r⟩ := r2.lstI; cases ru; obtain ⟨_, _, p, _⟩ := I.list h; simp only [eqD]; exact ⟨SeqAt.RcAt.bool_list _ p.isList hu', SeqAt.RcNeAt.bool_list _ p.isList hu'⟩
  | int =>
    cases r1.intI; obtain ⟨t1, rfl⟩ := rv
    cases dy with
    | dct => exact absurd hv (by rw [dep]; lia)
    | non => cases r2.nonI; cases ru; simp only [eqD]; exact ⟨SeqAt.RcAt.int_none _ _, SeqAt.RcNeAt.int_none _ _⟩
    | bl => cases r2.blI; cases ru; simp only [eqD]; exact ⟨SeqAt.RcAt.int_bool _ _ _, SeqAt.RcNeAt.int_bool _ _ _⟩
    | int => cases r2.intI; obtain ⟨t, rfl⟩ := ru; simp only [eqD]; exact ⟨SeqAt.RcAt.int_int _ _ _ _, SeqAt.RcNeAt.int_int _ _ _ _⟩
    | str => cases r2.strI; obtain ⟨t, rfl⟩ := ru; simp only [eqD]; exact ⟨SeqAt.RcAt.int_str _ _ _ _, SeqAt.RcNeAt.int_str _ _ _ _⟩
    | tup ys => obtain ⟨a, vs, rfl, h, r⟩ := r2.tupI; cases ru; obtain ⟨_, _, p, _⟩ := I.tuple h; simp only [eqD]; exact ⟨SeqAt.RcAt.int_tuple _ _ p hu', SeqAt.RcNeAt.int_tuple _ _ p hu'⟩
    | lst ys => obtain ⟨a, vs, rfl, h, r⟩ := r2.lstI; cases ru; obtain ⟨_, _, p, _⟩ := I.list h; simp only [eqD]; exact ⟨SeqAt.RcAt.int_list _ _ p.isList hu', SeqAt.RcNeAt.int_list _ _ p.isList hu'⟩
  | str =>
    cases r1.strI; obtain ⟨t1, rfl⟩ := rv
    cases dy with
    | dct => exact absurd hv (by rw [dep]; lia)
    | non => cases r2.nonI; cases ru; simp only [eqD]; exact ⟨SeqAt.RcAt.str_none _ _, SeqAt.RcNeAt.str_none _ _⟩
    | bl => cases r2.blI; cases ru; simp only [eqD]; exact ⟨SeqAt.RcAt.str_bool _ _ _, SeqAt.RcNeAt.str_bool _ _ _⟩
    | int => cases r2.intI; obtain ⟨t, rfl⟩ := ru; simp only [eqD]; exact ⟨SeqAt.RcAt.str_int _ _ _ _, SeqAt.RcNeAt.str_int _ _ _ _⟩
    | str => cases r2.strI; obtain ⟨t, rfl⟩ := ru; simp only [eqD]; exact ⟨SeqAt.RcAt.str_str _ _ _ _, SeqAt.RcNeAt.str_str _ _ _ _⟩
    | tup ys => obtain ⟨a, vs, rfl, h, r⟩ := r2.tupI; cases ru; obtain ⟨_, _, p, _⟩ := I.tuple h; simp only [eqD]; exact ⟨SeqAt.RcAt.str_tuple _ _ p hu', SeqAt.RcNeAt.str_tuple _ _ p hu'⟩
    | lst ys => obtain ⟨a, vs, rfl, h, r⟩ := r2.lstI; cases ru; obtain ⟨_, _, p, _⟩ := I.list h; simp only [eqD]; exact ⟨SeqAt.RcAt.str_list _ _ p.isList hu', SeqAt.RcNeAt.str_list _ _ p.isList hu'⟩
  | tup xs =>
    obtain ⟨a, vs, rfl, h, r⟩ := r1.tupI; cases rv
    obtain ⟨its, rr, p, _⟩ := I.tuple h
    cases dy with
    | dct => exact absurd hv (by rw [dep]; lia)
    | non => cases r2.nonI; cases ru; simp only [eqD]; exact ⟨SeqAt.RcAt.tuple_none p hu', SeqAt.RcNeAt.tuple_none p hu'⟩
    | bl => cases r2.blI; cases ru; simp only [eqD]; exact ⟨SeqAt.RcAt.tuple_bool _ p hu', SeqAt.RcNeAt.tuple_bool _ p hu'⟩
    | int => cases r2.intI; obtain ⟨t, rfl⟩ := ru; simp only [eqD]; exact ⟨SeqAt.RcAt.tuple_int _ _ p hu', SeqAt.RcNeAt.tuple_int _ _ p hu'⟩
    | str => cases r2.strI; obtain ⟨t, rfl⟩ := ru; simp only [eqD]; exact ⟨SeqAt.RcAt.tuple_str _ _ p hu', SeqAt.RcNeAt.tuple_str _ _ p hu'⟩
    | tup ys =>
      obtain ⟨a', vs', rfl, h', r'⟩ := r2.tupI; cases ru; obtain ⟨its', rr', p', _⟩ := I.tuple h'; simp only [eqD]
      refine rc_tuples p p' (by rw [← rr.length, r.length]) (by rw [← rr'.length, r'.length]) hu' (eqAt_Ds I r r' rr rr' ?_ ?_)
      · rw [dep] at hu; rw [in1_units]; lia
      · rw [dep] at hv; rw [in1_units]; lia
    | lst ys => obtain ⟨a', vs', rfl, h', r'⟩ := r2.lstI; cases ru; obtain ⟨_, _, p', _⟩ := I.list h'; simp only [eqD]; exact ⟨SeqAt.RcAt.tuple_list p p'.isList hu', SeqAt.RcNeAt.tuple_list p p'.isList hu'⟩
  | lst xs =>
    obtain ⟨a, vs, rfl, h, r⟩ := r1.lstI; cases rv
    obtain ⟨its, rr, p, _⟩ := I.list h
    cases dy with
    | dct => exact absurd hv (by rw [dep]; lia)
    | non => cases r2.nonI; cases ru; simp only [eqD]; exact ⟨SeqAt.RcAt.list_none p.isList hu', SeqAt.RcNeAt.list_none p.isList hu'⟩
    | bl => cases r2.blI; cases ru; simp only [eqD]; exact ⟨SeqAt.RcAt.list_bool _ p.isList hu', SeqAt.RcNeAt.list_bool _ p.isList hu'⟩
    | int => cases r2.intI; obtain ⟨t, rfl⟩ := ru; simp only [eqD]; exact ⟨SeqAt.RcAt.list_int _ _ p.isList hu', SeqAt.RcNeAt.list_int _ _ p.isList hu'⟩
    | str => cases r2.strI; obtain ⟨t, rfl⟩ := ru; simp only [eqD]; exact ⟨SeqAt.RcAt.list_str _ _ p.isList hu', SeqAt.RcNeAt.list_str _ _ p.isList hu'⟩
    | tup ys => obtain ⟨a', vs', rfl, h', r'⟩ := r2.tupI; cases ru; obtain ⟨_, _, p', _⟩ := I.tuple h'; simp only [eqD]; exact ⟨SeqAt.RcAt.list_tuple p.isList p' hu', SeqAt.RcNeAt.list_tuple p.isList p' hu'⟩
    | lst ys =>
      obtain ⟨a', vs', rfl, h', r'⟩ := r2.lstI; cases ru; obtain ⟨its', rr', p', _⟩ := I.list h'; simp only [eqD]
      refine rc_lists p.isList p'.isList (by rw [← rr.length, r.length]) (by rw [← rr'.length, r'.length]) hu' (eqAt_Ds I r r' rr rr' ?_ ?_)
      · rw [dep] at hu; rw [in1_units]; lia
      · rw [dep] at hv; rw [in1_units]; lia
end
def eqR (x y : D) : R D := if dep x ≤ 40 ∧ dep y ≤ 40 then .ok (.bl (eqD x y)) else .bad
def neR (x y : D) : R D := if dep x ≤ 40 ∧ dep y ≤ 40 then .ok (.bl (!eqD x y)) else .bad
section

theorem od_eq (hu : X.A.units + 64 < cLine) : OpD X (compareOp .Eq) eqR := by
  intro H O x y dx dy Q fr r1 r2 q
  unfold eqR at q
  split at q
  · rename_i hd
    refine ⟨fun x' y' H' Q' => x' = x ∧ y' = y ∧ H' = H ∧ Q' (.bl (eqD dx dy)) H, ?_, rfl, rfl, rfl, q _ H (Same.refl _) .bl⟩
    intro pins s σ H' x' y' v u Q' I rx ry ⟨e1, e2, e3, q'⟩
    subst e1 e2 e3
    exact (rc_D I (A := X.A) r1 r2 rx ry (by lia) (by lia)).1 _ _ _ _ ⟨.bl _, _, I, rfl, q'⟩
  · exact q.elim
theorem od_ne (hu : X.A.units + 64 < cLine) : OpD X (compareOp .NotEq) neR := by
  intro H O x y dx dy Q fr r1 r2 q
  unfold neR at q
  split at q
  · rename_i hd
    refine ⟨fun x' y' H' Q' => x' = x ∧ y' = y ∧ H' = H ∧ Q' (.bl (!eqD dx dy)) H, ?_, rfl, rfl, rfl, q _ H (Same.refl _) .bl⟩
    intro pins s σ H' x' y' v u Q' I rx ry ⟨e1, e2, e3, q'⟩
    subst e1 e2 e3
    exact (rc_D I (A := X.A) r1 r2 rx ry (by lia) (by lia)).2 _ _ _ _ ⟨.bl _, _, I, rfl, q'⟩
  · exact q.elim
end
end DL

namespace DL
open PySem PySem.Spec L2
open PyProof.Rows hiding St
variable [Tabs]

/-! ### ints -/
def addR : D → D → R D
  | .int a, .int b => .ok (.int (a + b))
  | .lst a, .lst b => if a.length + b.length ≤ sizeLine then .ok (.lst (a ++ b)) else .bad
  | .tup [], .tup b => .ok (.tup b)
  | .tup (x :: a), .tup [] => if (x :: a).length ≤ sizeLine then .ok (.tup (x :: a)) else .bad
  | .tup (x :: a), .tup (y :: b) => if (x :: a).length + (y :: b).length ≤ sizeLine then .ok (.tup ((x :: a) ++ (y :: b))) else .bad
  | _, _ => .bad
def subR : D → D → R D
  | .int a, .int b => .ok (.int (a - b))
  | _, _ => .bad
/-- the product's size is no matter -/
def MulSz (a b : Int) : Prop := Builtin.Int.intBits a ≤ 60000000 ∧ Builtin.Int.intBits b ≤ 60000000
instance (a b : Int) : Decidable (MulSz a b) := inferInstanceAs (Decidable (_ ∧ _))
def mulR : D → D → R D
  | .int a, .int b => if MulSz a b then .ok (.int (a * b)) else .bad
  | _, _ => .bad
def DivOk (b : Int) : Prop := b ≠ 0 ∧ Builtin.Int.intBits b ≤ 9000
instance (b : Int) : Decidable (DivOk b) := inferInstanceAs (Decidable (_ ∧ _))
def fdivR : D → D → R D
  | .int a, .int b => if DivOk b then .ok (.int (a.fdiv b)) else .bad
  | _, _ => .bad
def modR : D → D → R D
  | .int a, .int b => if b ≠ 0 then .ok (.int (a.fmod b)) else .bad
  | _, _ => .bad
def powR : D → D → R D
  | .int a, .int b => if 0 ≤ b ∧ b ≤ 1000000 ∧ a.natAbs < 2 ^ 64 then .ok (.int (a ^ b.toNat)) else .bad
  | _, _ => .bad
def ltR : D → D → R D
  | .int a, .int b => .ok (.bl (decide (a < b)))
  | _, _ => .bad
def leR : D → D → R D
  | .int a, .int b => .ok (.bl (decide (a ≤ b)))
  | _, _ => .bad
def gtR : D → D → R D
  | .int a, .int b => .ok (.bl (decide (b < a)))
  | _, _ => .bad
def geR : D → D → R D
  | .int a, .int b => .ok (.bl (decide (b ≤ a)))
  | _, _ => .bad
theorem log2_bits (h0 : b ≠ 0) (h : Builtin.Int.intBits b ≤ n) : b.natAbs.log2 < n := by
  unfold Builtin.Int.intBits at h
  split at h
  · rename_i z; exact absurd (by simpa using z) h0
  · omega
theorem mulSz_ok (h : MulSz a b) : IntMulOk a b := mulOk_of_bits (m := 60000000) (n := 60000000) h.1 h.2 (by decide)

section

theorem OpD.of_int {f : Value → Value → Sem Value} {g : D → D → R D} {C : Int → Int → Prop} {w : Int → Int → V} {dw : Int → Int → D} (hr : OpR X f (rI C w)) (hg : ∀ dx dy d, g dx dy = .ok d → ∃ i j, dx = .int i ∧ dy = .int j ∧ C i j ∧ d = dw i j)
    (hb : ∀ dx dy e, g dx dy ≠ .ex e) (hw : ∀ K H O i j, Rep K H O (w i j) (dw i j)) : OpD X f g := by
  intro H O x y dx dy Q fr r1 r2 q
  cases e : g dx dy with
  | ok d =>
    rw [e] at q
    obtain ⟨i, j, rfl, rfl, hc, rfl⟩ := hg dx dy d e
    cases r1.intI; cases r2.intI
    exact ⟨_, hr, i, j, rfl, rfl, hc, q _ H (Same.refl _) (hw _ _ _ _ _)⟩
  | ex x => exact absurd e (hb _ _ _)
  | bad => rw [e] at q; exact q.elim
theorem OpR.c0 (h : OpR X f (rI0 w)) : OpR X f (rI (fun _ _ => True) w) := fun pins s σ H x y v u Q I rx ry ⟨i, j, e1, e2, _, q⟩ => h pins s σ H x y v u Q I rx ry ⟨i, j, e1, e2, q⟩
theorem od_sub : OpD X (binaryOp .Sub) subR := OpD.of_int (dw := fun i j => .int (i - j)) (OpR.c0 op_sub) (fun dx dy d h => by
  cases dx <;> cases dy <;> simp only [subR, R.ok.injEq, reduceCtorEq] at h
  exact ⟨_, _, rfl, rfl, trivial, h.symm⟩) (fun dx dy e h => by cases dx <;> cases dy <;> simp only [subR, reduceCtorEq] at h) fun _ _ _ _ _ => .int
theorem od_lt : OpD X (compareOp .Lt) ltR := OpD.of_int (dw := fun i j => .bl (decide (i < j))) (OpR.c0 op_lt) (fun dx dy d h => by
  cases dx <;> cases dy <;> simp only [ltR, R.ok.injEq, reduceCtorEq] at h
  exact ⟨_, _, rfl, rfl, trivial, h.symm⟩) (fun dx dy e h => by cases dx <;> cases dy <;> simp only [ltR, reduceCtorEq] at h) fun _ _ _ _ _ => .bl
theorem od_le : OpD X (compareOp .LtE) leR := OpD.of_int (dw := fun i j => .bl (decide (i ≤ j))) (OpR.c0 op_le) (fun dx dy d h => by
  cases dx <;> cases dy <;> simp only [leR, R.ok.injEq, reduceCtorEq] at h
  exact ⟨_, _, rfl, rfl, trivial, h.symm⟩) (fun dx dy e h => by cases dx <;> cases dy <;> simp only [leR, reduceCtorEq] at h) fun _ _ _ _ _ => .bl
theorem od_gt : OpD X (compareOp .Gt) gtR := OpD.of_int (dw := fun i j => .bl (decide (j < i))) (OpR.c0 op_gt) (fun dx dy d h => by
  cases dx <;> cases dy <;> simp only [gtR, R.ok.injEq, reduceCtorEq] at h
  exact ⟨_, _, rfl, rfl, trivial, h.symm⟩) (fun dx dy e h => by cases dx <;> cases dy <;> simp only [gtR, reduceCtorEq] at h) fun _ _ _ _ _ => .bl
theorem od_ge : OpD X (compareOp .GtE) geR := OpD.of_int (dw := fun i j => .bl (decide (j ≤ i))) (OpR.c0 op_ge) (fun dx dy d h => by
  cases dx <;> cases dy <;> simp only [geR, R.ok.injEq, reduceCtorEq] at h
  exact ⟨_, _, rfl, rfl, trivial, h.symm⟩) (fun dx dy e h => by cases dx <;> cases dy <;> simp only [geR, reduceCtorEq] at h) fun _ _ _ _ _ => .bl
theorem op_fdivB : OpR X (binaryOp .FloorDiv) (rI (fun _ j => DivOk j) fun i j => .int (i.fdiv j)) := opI fun _ _ _ _ _ _ _ hc q => floordiv_int hc.1 q (.inl (PyProof.noPylong_of_log2 (log2_bits hc.1 hc.2)))
theorem od_fdiv : OpD X (binaryOp .FloorDiv) fdivR := OpD.of_int (dw := fun i j => .int (i.fdiv j)) op_fdivB (fun dx dy d h => by
  cases dx <;> cases dy <;> simp only [fdivR, reduceCtorEq] at h
  split at h
  · rename_i hc; cases h; exact ⟨_, _, rfl, rfl, hc, rfl⟩
  · cases h) (fun dx dy e h => by
    cases dx <;> cases dy <;> simp only [fdivR, reduceCtorEq] at h
    split at h <;> cases h) fun _ _ _ _ _ => .int
theorem od_mod : OpD X (binaryOp .Mod) modR := OpD.of_int (dw := fun i j => .int (i.fmod j)) op_modN (fun dx dy d h => by
  cases dx <;> cases dy <;> simp only [modR, reduceCtorEq] at h
  split at h
  · rename_i hc; cases h; exact ⟨_, _, rfl, rfl, hc, rfl⟩
  · cases h) (fun dx dy e h => by
    cases dx <;> cases dy <;> simp only [modR, reduceCtorEq] at h
    split at h <;> cases h) fun _ _ _ _ _ => .int
theorem od_pow : OpD X (binaryOp .Pow) powR := OpD.of_int (dw := fun i j => .int (i ^ j.toNat)) op_pow (fun dx dy d h => by
  cases dx <;> cases dy <;> simp only [powR, reduceCtorEq] at h
  split at h
  · rename_i hc; cases h; exact ⟨_, _, rfl, rfl, hc, rfl⟩
  · cases h) (fun dx dy e h => by
    cases dx <;> cases dy <;> simp only [powR, reduceCtorEq] at h
    split at h <;> cases h) fun _ _ _ _ _ => .int
theorem op_mulB : OpR X (binaryOp .Mult) (rI MulSz fun i j => .int (i * j)) := opI fun _ _ _ _ _ _ _ hc q => mul_int q (mulSz_ok hc)
/-- a list or tuple read: any list times an int -/
theorem op_repB : OpR X (binaryOp .Mult) (fun x y H Q => ∃ l k xs, x = .ref l ∧ y = .int k ∧ H l = some (.lst xs) ∧ -(2 ^ 63) ≤ k ∧ k < 2 ^ 63 ∧ xs.length * k.toNat ≤ sizeLine ∧
  ∀ p, H p = none → Q (.ref p) (upd H p (.lst (List.replicate k.toNat xs).flatten))) := op_rep
theorem od_mul : OpD X (binaryOp .Mult) mulR := OpD.of_int (dw := fun i j => .int (i * j)) op_mulB (fun dx dy d h => by
  cases dx <;> cases dy <;> simp only [mulR, reduceCtorEq] at h
  split at h
  · rename_i hc; cases h; exact ⟨_, _, rfl, rfl, hc, rfl⟩
  · cases h) (fun dx dy e h => by
    cases dx <;> cases dy <;> simp only [mulR, reduceCtorEq] at h
    split at h <;> cases h) fun _ _ _ _ _ => .int
/-- list + list, whatever the lists are -/
theorem op_catB : OpR X (binaryOp .Add) (fun x y H Q => ∃ l b xs zs, x = .ref l ∧ y = .ref b ∧ SqL X.K H l xs ∧ SqL X.K H b zs ∧ xs.length + zs.length ≤ sizeLine ∧ ∀ p, H p = none → Q (.ref p) (upd H p (.lst (xs ++ zs)))) := by
  intro pins s σ H x y v u Q I rx ry h
  obtain ⟨l, b, xs, zs, rfl, rfl, hH, hB, hz, q⟩ := h
  cases rx
  cases ry
  obtain ⟨its, r, p, _⟩ := I.list hH
  obtain ⟨its2, r2, p2, _⟩ := I.list hB
  obtain ⟨⟨cls, dd, data, sl⟩, ho, hc, n, hd⟩ := p.isList
  obtain ⟨⟨cls2, dd2, data2, sl2⟩, ho2, hc2, n2, hd2⟩ := p2.isList
  simp only at hc hd hc2 hd2
  subst hc hd hc2 hd2
  have hsz : its.toArray.size + its2.toArray.size ≤ sizeLine := by rw [List.size_toArray, List.size_toArray, ← r.length, ← r2.length]; exact hz
  have ea : its.toArray ++ its2.toArray = (its ++ its2).toArray := by simp
  refine concat_meets ⟨_, ho, rfl⟩ ⟨_, ho2, rfl⟩ noFill_list_add seq_list_add PySem.F.slot_list_add PySem.F.entry_list_add (PySem.F.args_list_add_2 _ _) (list_addW l b its.toArray its2.toArray n n2 dd dd2 sl sl2 hsz) ⟨ho, ho2, ?_⟩
  rw [ea]
  exact ⟨.ref _, _, I.lnew (t' := s.toks) (r.append r2) (by rw [List.length_append]; omega), rfl, q _ I.fresh⟩
theorem op_catT0 : OpR X (binaryOp .Add) (fun x y H Q => ∃ a b ys, x = .ref a ∧ y = .ref b ∧ SqT X.K H a [] ∧ SqT X.K H b ys ∧ Q (.ref b) H) := by
  intro pins s σ H x y v u Q I rx ry h
  obtain ⟨t, b, ys, rfl, rfl, ha, hb, q⟩ := h
  cases rx
  cases ry
  obtain ⟨its, r1, p1, _⟩ := I.tuple ha
  obtain ⟨ws, r2, p2, _⟩ := I.tuple hb
  cases r1
  obtain ⟨⟨cls, dd, data, sl⟩, ho, hc, n, hd⟩ := p1
  obtain ⟨⟨cls2, dd2, data2, sl2⟩, ho2, hc2, n2, hd2⟩ := p2
  simp only at hc hd hc2 hd2
  subst hc hd hc2 hd2
  exact concat_meets ⟨_, ho, rfl⟩ ⟨_, ho2, rfl⟩ noFill_tuple_add seq_tuple_add PySem.F.slot_tuple_add PySem.F.entry_tuple_add (PySem.F.args_tuple_add_2 _ _) (tuple_addW0 t b _ _ n n2 dd dd2 sl sl2 (by simp)) ⟨ho, ho2, .ref b, H, I, rfl, q⟩
theorem od_add : OpD X (binaryOp .Add) addR := by
  intro H O x y dx dy Q fr r1 r2 q
  cases dx with
  | int i =>
    cases dy with
    | int j => cases r1.intI; cases r2.intI; exact ⟨_, op_add, i, j, rfl, rfl, q _ H (Same.refl _) .int⟩
    | _ => exact (show False from q).elim
  | lst a =>
    cases dy with
    | lst b =>
      simp only [addR] at q
      split at q
      · rename_i hz
        obtain ⟨l, vs, rfl, h1, h2⟩ := r1.lstI
        obtain ⟨l', vs', rfl, h1', h2'⟩ := r2.lstI
        exact ⟨_, op_catB, l, l', vs, vs', rfl, rfl, h1, h1', by rw [h2.length, h2'.length]; exact hz, fun p hp => q _ _ (same_upd hp _) (.lst (SqL.of upd_same) (fr p hp) ((h2.append h2').same (same_upd hp _)))⟩
      · exact q.elim
    | _ => exact (show False from q).elim
  | tup a =>
    cases dy with
    | tup b =>
      cases a with
      | nil =>
        obtain ⟨l, vs, rfl, h1, h2⟩ := r1.tupI
        obtain ⟨l', vs', rfl, h1', h2'⟩ := r2.tupI
        cases h2
        exact ⟨_, op_catT0, l, l', vs', rfl, rfl, h1, h1', q _ H (Same.refl _) (.tup h1' h2')⟩
      | cons x a =>
        cases b with
        | nil =>
          obtain ⟨l, vs, rfl, h1, h2⟩ := r1.tupI
          obtain ⟨l', vs', rfl, h1', h2'⟩ := r2.tupI
          cases h2'
          have n1 : vs ≠ [] := fun z => by subst z; have := h2.length; simp at this
          simp only [addR] at q
          split at q
          · rename_i hz
            exact ⟨_, op_catT, l, l', vs, [], rfl, rfl, h1, h1', n1, by rw [h2.length]; exact hz, fun _ => q _ H (Same.refl _) (.tup h1 h2), fun z => absurd rfl z⟩
          · exact q.elim
        | cons y b =>
          simp only [addR] at q
          split at q
          · rename_i hz
            obtain ⟨l, vs, rfl, h1, h2⟩ := r1.tupI
            obtain ⟨l', vs', rfl, h1', h2'⟩ := r2.tupI
            have n1 : vs ≠ [] := fun z => by subst z; have := h2.length; simp at this
            have n2 : vs' ≠ [] := fun z => by subst z; have := h2'.length; simp at this
            exact ⟨_, op_catT, l, l', vs, vs', rfl, rfl, h1, h1', n1, by rw [h2.length, h2'.length]; exact hz, fun z => absurd z n2, fun _ p hp => q _ _ (same_upd hp _) (.tup (SqT.of upd_same) ((h2.append h2').same (same_upd hp _)))⟩
          · exact q.elim
    | _ => cases a <;> exact (show False from q).elim
  | _ => exact (show False from q).elim

/-! ### places -/
def ixR (x y : D) : R D := match x, y with
  | .lst xs, .int i => match atI xs i with | some d => .ok d | none => .bad
  | .tup xs, .int i => match atI xs i with | some d => .ok d | none => .bad
  | _, _ => .bad
theorem atI_reps {K : PySem.W.Frag} {H : Hp} {O : Addr → Prop} {vs : List V} {ds : List D} {i : Int} {d : D} (r : Reps K H O vs ds) (h : atI ds i = some d) : ∃ v, atI vs i = some v ∧ Rep K H O v d := by
  unfold atI at h ⊢
  rw [r.length]
  cases e : ixN ds.length i with
  | none => rw [e] at h; cases h
  | some j =>
    rw [e] at h
    exact r.get h

theorem pd_ix (ha : PB X a f) (hb : PD X b g) (hs : PlainIx b := by exact fun _ _ => rfl) : PD X (.Subscript a b pos) (fun ρ => (f ρ).bind fun x => (g ρ).bind fun y => ixR x y) := by
  refine mkE fun pins s σ H Q I H₀ O₀ O ρ E q => ?_
  refine Subscript_ (binT ha hb.pb I (two_ops E q) fun v u s2 x y H2 I2 rx ry h => ?_)
  obtain ⟨dx, dy, fr, r1, r2, q⟩ := h
  cases dy with
  | int i =>
    cases r2.intI
    cases dx with
    | lst xs =>
      simp only [ixR] at q
      cases e : atI xs i with
      | none => rw [e] at q; exact q.elim
      | some d =>
        rw [e] at q
        obtain ⟨p, vs, rfl, h1, h2⟩ := r1.lstI
        obtain ⟨w, h3, h4⟩ := atI_reps h2 e
        exact ix_list a b pins s2 σ H2 _ _ v u Q I2 rx ry ⟨p, vs, i, w, rfl, rfl, h1, h3, q w H2 (Same.refl _) h4⟩ (hs _ _)
    | tup xs =>
      simp only [ixR] at q
      cases e : atI xs i with
      | none => rw [e] at q; exact q.elim
      | some d =>
        rw [e] at q
        obtain ⟨p, vs, rfl, h1, h2⟩ := r1.tupI
        obtain ⟨w, h3, h4⟩ := atI_reps h2 e
        exact ix_tup a b pins s2 σ H2 _ _ v u Q I2 rx ry ⟨p, vs, i, w, rfl, rfl, h1, h3, q w H2 (Same.refl _) h4⟩ (hs _ _)
    | _ => exact (show False from q).elim
  | _ => cases dx <;> exact (show False from q).elim

/-! ### slices of lists -/
def cutD (xs : List D) (lo hi : Option Int) : List D := (xs.drop (HT.sIx xs.length 0 lo)).take (HT.sIx xs.length xs.length hi - HT.sIx xs.length 0 lo)
theorem cutD_reps {K : PySem.W.Frag} {H : Hp} {O : Addr → Prop} {vs : List V} {ds : List D} {lo hi : Option Int} (r : Reps K H O vs ds) : Reps K H O (cutV vs lo hi) (cutD ds lo hi) := by
  unfold cutV cutD
  rw [r.length]
  exact (r.drop _).take _
def PTO (X : Cx) (e : Option Expr) (f : Ev → R (Option Int)) : Prop := PO X e fun σ H Q => ∃ H₀ O₀ O ρ, EnvOk X.K H₀ O₀ H O σ ρ ∧ match f ρ with
  | .ok o => ∀ H', Same H H' → Q o H'
  | .ex e => ∀ H', Same H H' → XW X e H'
  | .bad => False
def toI : D → R (Option Int)
  | .int i => .ok (some i)
  | _ => .bad
theorem pto_none : PTO X none (fun _ => .ok none) := fun pins s σ H Q I ⟨H₀, O₀, O, ρ, E, q⟩ => po_none pins s σ H Q I (q H (Same.refl _))
theorem pto_some (h : PD X e f) : PTO X (some e) (fun ρ => (f ρ).bind toI) := fun pins s σ H Q I ⟨H₀, O₀, O, ρ, E, q⟩ => po_some h pins s σ H Q I ⟨H₀, O₀, O, ρ, E, by
  dsimp only at q
  cases e : f ρ with
  | ok d =>
    rw [e] at q
    cases d with
    | int i => exact fun v H1 s1 r1 => by cases r1; exact ⟨i, rfl, q H1 s1⟩
    | _ => exact (show False from q).elim
  | ex x => rw [e] at q; exact q
  | bad => rw [e] at q; exact q⟩
def slR (x : D) (lo hi : Option Int) : R D := match x with
  | .lst xs => .ok (.lst (cutD xs lo hi))
  | .tup xs => if HT.sIx xs.length 0 lo = 0 ∧ HT.sIx xs.length xs.length hi = xs.length then .bad else .ok (.tup (cutD xs lo hi))
  | _ => .bad
theorem pd_sl {lo hi : Option Expr} {p2 : Pos} {fl fh : Ev → R (Option Int)} (he : PB X a f) (hl : PTO X lo fl) (hu : PTO X hi fh) :
    PD X (.Subscript a (.Slice lo hi none p2) pos) (fun ρ => (f ρ).bind fun x => (fl ρ).bind fun l => (fh ρ).bind fun h => slR x l h) := by
  refine mkE fun pins s σ H Q I H₀ O₀ O ρ E q => ?_
  have fin : ∀ x d l h H', RepB X.K H' O x d → (∀ p, H' p = none → ¬ O p) → RC X H' O (slR d l h) Q → rSlL X.K x l h H' Q ∨ rSlT X.K x l h H' Q := fun x d l h H' r fr q => by
    cases d with
    | lst xs =>
      obtain ⟨p, vs, rfl, h1, h2⟩ := r.lstI
      exact .inl ⟨p, vs, rfl, h1, fun p hp => q _ _ (same_upd hp _) (.lst (SqL.of upd_same) (fr p hp) ((cutD_reps h2).same (same_upd hp _)))⟩
    | tup xs =>
      obtain ⟨p, vs, rfl, h1, h2⟩ := r.tupI
      simp only [slR] at q
      split at q
      · exact q.elim
      · rename_i hn
        exact .inr ⟨p, vs, rfl, h1, by rw [h2.length]; exact hn, fun p hp => q _ _ (same_upd hp _) (.tup (SqT.of upd_same) ((cutD_reps h2).same (same_upd hp _)))⟩
    | _ => exact (show False from q).elim
  refine pe_slice (sl_list.or sl_tup) he hl hu pins s σ H Q I ⟨H₀, O₀, O, ρ, E, ?_⟩
  dsimp only at q
  cases e1 : f ρ with
  | ok d =>
    rw [e1] at q
    intro x H1 s1 r1
    refine ⟨H₀, O₀, O, ρ, E.grow s1, ?_⟩
    rw [R.bind_ok] at q
    cases e2 : fl ρ with
    | ok l =>
      rw [e2] at q
      intro H2 s2
      refine ⟨H₀, O₀, O, ρ, (E.grow s1).grow s2, ?_⟩
      cases e3 : fh ρ with
      | ok h =>
        rw [e3] at q
        intro H3 s3
        have q' : RC X H O (slR d l h) Q := q
        exact fin x d l h H3 ((r1.same s2).same s3) (fun p hp => (((E.grow s1).grow s2).grow s3).fresh hp) (q'.grow (s1.trans (s2.trans s3)))
      | ex x => rw [e3] at q; exact fun H3 s3 => q H3 (s1.trans (s2.trans s3))
      | bad => rw [e3] at q; exact q
    | ex x => rw [e2] at q; exact fun H3 s3 => q H3 (s1.trans s3)
    | bad => rw [e2] at q; exact q
  | ex x => rw [e1] at q; exact q
  | bad => rw [e1] at q; exact q

/-! ### built-ins -/
theorem pr1 {K : PySem.W.Frag} {H : Hp} {O : Addr → Prop} {vs : List V} {d : D} (r : Paired (RepB K H O) vs [d]) : ∃ v, vs = [v] ∧ RepB K H O v d := by
  cases r with
  | cons r1 r2 => cases r2; exact ⟨_, rfl, r1⟩
theorem pr2 {K : PySem.W.Frag} {H : Hp} {O : Addr → Prop} {vs : List V} {d d' : D} (r : Paired (RepB K H O) vs [d, d']) : ∃ v v', vs = [v, v'] ∧ RepB K H O v d ∧ RepB K H O v' d' := by
  cases r with
  | cons r1 r2 =>
    obtain ⟨v', e, r'⟩ := pr1 r2
    subst e
    exact ⟨_, _, rfl, r1, r'⟩
def lenR : List D → R D
  | [.lst xs] => .ok (.int xs.length)
  | [.tup xs] => .ok (.int xs.length)
  | _ => .bad
theorem cd_len : CallD X (.builtin "len") lenR := by
  intro H O vs ds Q fr r q
  match ds, q with
  | [.lst xs], q =>
    obtain ⟨v, rfl, z⟩ := pr1 r
    obtain ⟨p, ys, rfl, h1, h2⟩ := z.lstI
    exact ⟨_, call_len_seq, p, ys, rfl, .inl h1, q _ H (Same.refl _) (by rw [h2.length]; exact .int)⟩
  | [.tup xs], q =>
    obtain ⟨v, rfl, z⟩ := pr1 r
    obtain ⟨p, ys, rfl, h1, h2⟩ := z.tupI
    exact ⟨_, call_len_seq, p, ys, rfl, .inr h1, q _ H (Same.refl _) (by rw [h2.length]; exact .int)⟩
def absR : List D → R D
  | [.int i] => .ok (.int (if i < 0 then -i else i))
  | _ => .bad
theorem cd_abs : CallD X (.builtin "abs") absR := by
  intro H O vs ds Q fr r q
  match ds, q with
  | [.int i], q =>
    obtain ⟨v, rfl, z⟩ := pr1 r
    cases z.intI
    exact ⟨_, call_abs, i, rfl, q _ H (Same.refl _) .int⟩
def max2R : List D → R D
  | [.int i, .int j] => .ok (.int (if j > i then j else i))
  | _ => .bad
def min2R : List D → R D
  | [.int i, .int j] => .ok (.int (if j < i then j else i))
  | _ => .bad
theorem cd_max2 (hc : X.calm = true) : CallD X (.builtin "max") max2R := by
  intro H O vs ds Q fr r q
  match ds, q with
  | [.int i, .int j], q =>
    obtain ⟨v, v', rfl, z, z'⟩ := pr2 r
    cases z.intI; cases z'.intI
    exact ⟨_, call_max2 hc, i, j, rfl, q _ H (Same.refl _) .int⟩
theorem cd_min2 (hc : X.calm = true) : CallD X (.builtin "min") min2R := by
  intro H O vs ds Q fr r q
  match ds, q with
  | [.int i, .int j], q =>
    obtain ⟨v, v', rfl, z, z'⟩ := pr2 r
    cases z.intI; cases z'.intI
    exact ⟨_, call_min2 hc, i, j, rfl, q _ H (Same.refl _) .int⟩
def intR : List D → R D
  | [.int i] => .ok (.int i)
  | [.bl b] => .ok (.int (if b then 1 else 0))
  | _ => .bad
theorem cd_int : CallD X (.type "int") intR := by
  intro H O vs ds Q fr r q
  match ds, q with
  | [.int i], q =>
    obtain ⟨v, rfl, z⟩ := pr1 r
    cases z.intI
    exact ⟨_, call_int1, .inl ⟨i, rfl, q _ H (Same.refl _) .int⟩⟩
  | [.bl i], q =>
    obtain ⟨v, rfl, z⟩ := pr1 r
    cases z.blI
    exact ⟨_, call_int1, .inr ⟨i, rfl, q _ H (Same.refl _) .int⟩⟩
def tupleR : List D → R D
  | [.lst xs] => .ok (.tup xs)
  | [.tup xs] => .ok (.tup xs)
  | _ => .bad
theorem cd_tuple : CallD X (.type "tuple") tupleR := by
  intro H O vs ds Q fr r q
  match ds, q with
  | [.lst xs], q =>
    obtain ⟨v, rfl, z⟩ := pr1 r
    obtain ⟨p, ys, rfl, h1, h2⟩ := z.lstI
    exact ⟨_, call_tuple_of, p, ys, rfl, .inl ⟨h1, fun l hl => q _ _ (same_upd hl _) (.tup (SqT.of upd_same) (h2.same (same_upd hl _)))⟩⟩
  | [.tup xs], q =>
    obtain ⟨v, rfl, z⟩ := pr1 r
    obtain ⟨p, ys, rfl, h1, h2⟩ := z.tupI
    exact ⟨_, call_tuple_of, p, ys, rfl, .inr ⟨h1, q _ _ (Same.refl _) (.tup h1 h2)⟩⟩
def listR : List D → R D
  | [.lst xs] => .ok (.lst xs)
  | [.tup xs] => .ok (.lst xs)
  | _ => .bad
theorem cd_list : CallD X (.type "list") listR := by
  intro H O vs ds Q fr r q
  match ds, q with
  | [.lst xs], q =>
    obtain ⟨v, rfl, z⟩ := pr1 r
    obtain ⟨p, ys, rfl, h1, h2⟩ := z.lstI
    exact ⟨_, call_list_of, p, ys, rfl, .inl h1, fun l hl => q _ _ (same_upd hl _) (.lst (SqL.of upd_same) (fr l hl) (h2.same (same_upd hl _)))⟩
  | [.tup xs], q =>
    obtain ⟨v, rfl, z⟩ := pr1 r
    obtain ⟨p, ys, rfl, h1, h2⟩ := z.tupI
    exact ⟨_, call_list_of, p, ys, rfl, .inr h1, fun l hl => q _ _ (same_upd hl _) (.lst (SqL.of upd_same) (fr l hl) (h2.same (same_upd hl _)))⟩

/-! ### isinstance(e, T), T a built-in type -/
def tyD : D → String
  | .non => "NoneType" | .bl _ => "bool" | .int _ => "int" | .str _ => "str" | .tup _ => "tuple" | .lst _ => "list" | .dct => "dict"
/-- what the table of types says of the six kinds -/
def isaD (T : String) (d : D) : Bool := tyD d == T || (T == "int" && tyD d == "bool")
def IsaOk (T : String) : Prop := ∀ (K : PySem.W.Frag) (d : D), PySem.W.kitOne K (.type (tyD d)) (.type T) = some (isaD T d)
theorem isa_int : IsaOk "int" := fun K d => by cases d <;> with_unfolding_all rfl
theorem isa_bool : IsaOk "bool" := fun K d => by cases d <;> with_unfolding_all rfl
theorem isa_tuple : IsaOk "tuple" := fun K d => by cases d <;> with_unfolding_all rfl
theorem isa_list : IsaOk "list" := fun K d => by cases d <;> with_unfolding_all rfl
theorem isa_str : IsaOk "str" := fun K d => by cases d <;> with_unfolding_all rfl
theorem isa_run {O : Addr → Prop} (I : Inv X pins σ H s) (ht : IsaOk T) (r : RepB X.K H O v d) (ru : RelV v u) (q : Q (.bl (isaD T d)) H) :
    wpAny (model X.prog X.w) X.A (call (.builtin "isinstance") [u, .type T]) (EP X pins σ Q) X.xe s := by
  have e := ht X.K d
  have fin : ∀ tk, EP X pins σ Q (.bool (isaD T d)) { s with toks := tk } := fun tk => ⟨.bl _, H, I.tok _, rfl, q⟩
  cases d with
  | non => cases r.nonI; cases ru; exact PySem.W.kia_one PySem.W.kitx_none I.kIn True.intro e (fun z => nomatch z) fin
  | bl => cases r.blI; cases ru; exact PySem.W.kia_one PySem.W.kitx_bool I.kIn True.intro e (fun z => nomatch z) fin
  | int => cases r.intI; obtain ⟨t, rfl⟩ := ru; exact PySem.W.kia_one PySem.W.kitx_int I.kIn True.intro e (fun z => nomatch z) fin
  | str => cases r.strI; obtain ⟨t, rfl⟩ := ru; exact PySem.W.kia_one PySem.W.kitx_str I.kIn True.intro e (fun z => nomatch z) fin
  | tup xs =>
    obtain ⟨a, vs, rfl, h, _⟩ := r.tupI
    cases ru
    obtain ⟨its, _, p, _⟩ := I.tuple h
    obtain ⟨o, h1, h2, _⟩ := p
    exact PySem.W.kia_one PySem.W.kitx_tuple I.kIn ⟨o, h1, h2⟩ e (fun z => nomatch z) fin
  | lst xs =>
    obtain ⟨a, vs, rfl, h, _⟩ := r.lstI
    cases ru
    obtain ⟨its, _, p, _⟩ := I.list h
    obtain ⟨o, n, h1, h2, _⟩ := p
    exact PySem.W.kia_one PySem.W.kitx_list I.kIn ⟨o, h1, h2⟩ e (fun z => nomatch z) fin
  | dct =>
    obtain ⟨a, o, rfl, h, x⟩ := r.dctI
    cases ru
    exact PySem.W.kia_one PySem.W.kitx_dict I.kIn ⟨o, (I.hok _ _ h).1, x.1⟩ e (fun z => nomatch z) fin
theorem pd_isa (ht : IsaOk T) (ha : PB X a f) (hT : bootBuiltins x = some (.type T) := by decide +kernel) (hm : X.mg "isinstance" = none := by assumption) (hmT : X.mg x = none := by assumption) (hg : Gl X "isinstance" := by rfl) (hgT : Gl X x := by rfl) (hdb : (x == ("__debug__" : Str)) = false := by decide) (hn : x ≠ "__name__" := by decide) (he : starEach [a, .Name x pt] X.env = (false, eval a X.env) :: starEach [.Name x pt] X.env := by rfl) (he2 : starEach [Expr.Name x pt] X.env = [(false, eval (.Name x pt) X.env)] := by rfl) (hpl : (backTo pos (starEach [Expr.Name x pt] X.env)).any (·.1) = false := by rfl) :
    PD X (.Call (.Name "isinstance" p) [a, .Name x pt] [] pos) (fun ρ => (f ρ).bind fun d => .ok (.bl (isaD T d))) := by
  refine mkE fun pins s σ H Q I H₀ O₀ O ρ E q => ?_
  refine wpAny_Call_Name_kw (ld_blt (u := .builtin "isinstance") I hg hm (by decide +kernel) ?_)
  have hb : PE X (.Name x pt) (tC (.ty T)) := pe_bltn hgT hmT hT rfl hn hdb
  have h := pa_cons ha (pa_cons hb pa_nil (by rw [he2]; rfl)) he pos pins s σ H (fun vs H1 => ∃ v d, vs = [v, .ty T] ∧ RepB X.K H1 O v d ∧ Q (.bl (isaD T d)) H1) I ⟨H₀, O₀, O, ρ, E, by
    refine RCB.mono (RCB.seq q) fun v H1 ⟨d, _, s1, r1, h1⟩ => ?_
    exact ⟨v, d, rfl, r1, h1 _ H1 (Same.refl _) .bl⟩⟩
  refine PyProof.Rows.callWith_builtin1 (thn h fun us s1 ⟨vs, H1, I1, r1, v, d, e, r, h⟩ => ?_) he hpl
  subst e
  obtain ⟨u, w, rfl, ru, rw'⟩ := vals2 r1
  cases rw'
  exact isa_run I1 ht r ru h
end
end DL

namespace DL
open PySem PySem.Spec L2
open PyProof.Rows hiding St
variable [Tabs]

section
variable {K : PySem.W.Frag}
theorem Kp.lst (k : Kp H O H' O') {a : Addr} {xs : List V} (n : ¬ O a) (h : SqL K H a xs) (hK : ∀ o, K.lookup a = some o → ¬ O' a) : ¬ O' a ∧ SqL K H' a xs := by
  rcases h with (h | ⟨o, h⟩) | h
  · exact ⟨(k _ _ h n).2, .inl (.inl (k _ _ h n).1)⟩
  · exact ⟨(k _ _ h n).2, .inl (.inr ⟨o, (k _ _ h n).1⟩)⟩
  · obtain ⟨o, its, m, h1, h2⟩ := h
    exact ⟨hK o h1, .inr ⟨o, its, m, h1, h2⟩⟩
theorem Kp.tup (k : Kp H O H' O') (hO : ∀ a, O a → ∃ o, H a = some o ∧ Mt o) {a : Addr} {xs : List V} (h : SqT K H a xs) : SqT K H' a xs := by
  rcases h with (h | ⟨o, h⟩) | h
  · exact .inl (.inl (k _ _ h fun z => by obtain ⟨o, q, m⟩ := hO a z; rw [h] at q; cases q; exact m).1)
  · exact .inl (.inr ⟨o, (k _ _ h fun z => by obtain ⟨o, q, m⟩ := hO a z; rw [h] at q; cases q; exact m).1⟩)
  · exact .inr h
end
/-- an address of the module is none of O's -/
def OffK (K : PySem.W.Frag) (O : Addr → Prop) : Prop := ∀ a o, K.lookup a = some o → ¬ O a
theorem Kp.rep {K : PySem.W.Frag} {H H' : Hp} {O O' : Addr → Prop} (k : Kp H O H' O') (hO : ∀ a, O a → ∃ o, H a = some o ∧ Mt o) (hK : OffK K O') {v : V} {d : D} (r : Rep K H O v d) : Rep K H' O' v d :=
  r.mono (fun _ _ h => k.tup hO h) (fun a _ n h => k.lst n h fun o q => hK a o q) fun a _ n h => ⟨(k a _ h n).2, (k a _ h n).1⟩
theorem Kp.reps {K : PySem.W.Frag} {H H' : Hp} {O O' : Addr → Prop} (k : Kp H O H' O') (hO : ∀ a, O a → ∃ o, H a = some o ∧ Mt o) (hK : OffK K O') {v : List V} {d : List D} (r : Reps K H O v d) : Reps K H' O' v d :=
  r.mono (fun _ _ h => k.tup hO h) (fun a _ n h => k.lst n h fun o q => hK a o q) fun a _ n h => ⟨(k a _ h n).2, (k a _ h n).1⟩

/-! ### statements -/
inductive Out where
  | nx (ρ : Ev) | rt (d : D) | bk (ρ : Ev) | ct (ρ : Ev)
def RS (X : Cx) (H₀ : Hp) (O₀ : Addr → Prop) (H : Hp) (O : Addr → Prop) (r : R Out) (D : Ends) : Prop := match r with
  | .ok (.nx ρ) => ∀ σ' H' O', EnvOk X.K H₀ O₀ H' O' σ' ρ → OffK X.K O' → Kp H O H' O' → D.nx σ' H'
  | .ok (.bk ρ) => ∀ σ' H' O', EnvOk X.K H₀ O₀ H' O' σ' ρ → OffK X.K O' → Kp H O H' O' → D.bk σ' H'
  | .ok (.ct ρ) => ∀ σ' H' O', EnvOk X.K H₀ O₀ H' O' σ' ρ → OffK X.K O' → Kp H O H' O' → D.ct σ' H'
  | .ok (.rt d) => ∀ v H', Same H₀ H' → Rep X.K H' O₀ v d → D.rt v H'
  | .ex e => ∀ H', Same H₀ H' → XW X e H'
  | .bad => False
def tS (X : Cx) (H₀ : Hp) (O₀ : Addr → Prop) (F : Ev → R Out) : TS := fun D σ H => ∃ O ρ, EnvOk X.K H₀ O₀ H O σ ρ ∧ OffK X.K O ∧ RS X H₀ O₀ H O (F ρ) D
def PSD (X : Cx) (st : Stmt) (F : Ev → R Out) : Prop := ∀ H₀ O₀, PS X st (tS X H₀ O₀ F)
def PSsD (X : Cx) (st : List Stmt) (F : Ev → R Out) : Prop := ∀ H₀ O₀, PSs X st (tS X H₀ O₀ F)
theorem ps_imp {X : Cx} {st : Stmt} {t t' : TS} (h : PS X st t) (i : ∀ D σ H, t' D σ H → t D σ H) : PS X st t' := fun pins s σ H D I q => h pins s σ H D I (i D σ H q)
theorem pss_imp {X : Cx} {st : List Stmt} {t t' : TS} (h : PSs X st t) (i : ∀ D σ H, t' D σ H → t D σ H) : PSs X st t' := fun pins s σ H D I q => h pins s σ H D I (i D σ H q)
theorem psI {X : Cx} {st : Stmt} {t : TS} {F : Ev → R Out} {H₀ : Hp} {O₀ : Addr → Prop} (h : PS X st t) (i : ∀ D σ H O ρ, EnvOk X.K H₀ O₀ H O σ ρ → OffK X.K O → RS X H₀ O₀ H O (F ρ) D → t D σ H) : PS X st (tS X H₀ O₀ F) := ps_imp h fun D σ H ⟨O, ρ, E, f, q⟩ => i D σ H O ρ E f q
theorem pssI {X : Cx} {st : List Stmt} {t : TS} {F : Ev → R Out} {H₀ : Hp} {O₀ : Addr → Prop} (h : PSs X st t) (i : ∀ D σ H O ρ, EnvOk X.K H₀ O₀ H O σ ρ → OffK X.K O → RS X H₀ O₀ H O (F ρ) D → t D σ H) : PSs X st (tS X H₀ O₀ F) := pss_imp h fun D σ H ⟨O, ρ, E, f, q⟩ => i D σ H O ρ E f q
theorem RS.grow {X : Cx} {H₀ : Hp} {O₀ : Addr → Prop} {H H1 : Hp} {O O1 : Addr → Prop} {r : R Out} {D : Ends} (h : RS X H₀ O₀ H O r D) (k : Kp H O H1 O1) : RS X H₀ O₀ H1 O1 r D := by
  cases r with
  | ok o =>
    cases o with
    | nx ρ => exact fun σ' H' O' E f q => h σ' H' O' E f (k.trans q)
    | bk ρ => exact fun σ' H' O' E f q => h σ' H' O' E f (k.trans q)
    | ct ρ => exact fun σ' H' O' E f q => h σ' H' O' E f (k.trans q)
    | rt d => exact h
  | ex e => exact h
  | bad => exact h
/-- go on behind a statement -/
def thenR (r : R Out) (F : Ev → R Out) : R Out := match r with
  | .ok (.nx ρ) => F ρ
  | r => r
section
variable {st : Stmt} {rest : List Stmt}
theorem RS.seq {H₀ : Hp} {O₀ : Addr → Prop} {H : Hp} {O : Addr → Prop} {r : R Out} {D : Ends} (h : RS X H₀ O₀ H O (thenR r G) D) : RS X H₀ O₀ H O r { D with nx := tS X H₀ O₀ G D } := by
  cases r with
  | ok o =>
    cases o with
    | nx ρ => exact fun σ' H' O' E f k => ⟨O', ρ, E, f, (show RS X H₀ O₀ H O (G ρ) D from h).grow k⟩
    | bk ρ => exact h
    | ct ρ => exact h
    | rt d => exact h
  | ex e => exact h
  | bad => exact h
theorem pssd_nil : PSsD X [] (fun ρ => .ok (.nx ρ)) := fun H₀ O₀ => pssI pss_nil fun D σ H O ρ E f q => q σ H O E f (Kp.refl _ _)
theorem pssd_cons (h1 : PSD X st F) (h2 : PSsD X rest G) : PSsD X (st :: rest) (fun ρ => thenR (F ρ) G) := fun H₀ O₀ => pssI (pss_cons (h1 H₀ O₀) (h2 H₀ O₀)) fun D σ H O ρ E f q => ⟨O, ρ, E, f, RS.seq q⟩
theorem pssd_one (h1 : PSD X st F) : PSsD X [st] F := fun H₀ O₀ => pss_one (h1 H₀ O₀)
theorem psd_pass : PSD X (.Pass pos) (fun ρ => .ok (.nx ρ)) := fun H₀ O₀ => psI ps_pass fun D σ H O ρ E f q => q σ H O E f (Kp.refl _ _)
theorem psd_break : PSD X (.Break pos) (fun ρ => .ok (.bk ρ)) := fun H₀ O₀ => psI ps_break fun D σ H O ρ E f q => q σ H O E f (Kp.refl _ _)
theorem psd_continue : PSD X (.Continue pos) (fun ρ => .ok (.ct ρ)) := fun H₀ O₀ => psI ps_continue fun D σ H O ρ E f q => q σ H O E f (Kp.refl _ _)
theorem psd_doc {x j pos pos'} : PSD X (.Expr (.Constant (.str x) j pos) pos') (fun ρ => .ok (.nx ρ)) := fun H₀ O₀ => psI ps_doc fun D σ H O ρ E f q => q σ H O E f (Kp.refl _ _)
/-- return e -/
theorem psd_ret {e : Expr} {f : Ev → R D} (he : PD X e f) : PSD X (.Return (some e) pos) (fun ρ => (f ρ).bind fun d => .ok (.rt d)) := fun H₀ O₀ => psI (ps_ret he) fun D σ H O ρ E fk q => ⟨H₀, O₀, O, ρ, E, by
  cases e1 : f ρ with
  | ok d => rw [e1] at q; exact fun v H' s r => q v H' (E.same.trans s) (r.sub E.sub)
  | ex x => rw [e1] at q; exact fun H' s => q H' (E.same.trans s)
  | bad => rw [e1] at q; exact q⟩
theorem psd_retN : PSD X (.Return none pos) (fun _ => .ok (.rt .non)) := fun H₀ O₀ => psI ps_retN fun D σ H O ρ E fk q => q .non H E.same .non
/-- name = e -/
theorem psd_set (i : Nat) {x : Str} {e : Expr} {f : Ev → R D} {pos' : Pos} (he : PD X e f) (hN : X.N.Nodup) (hi : X.N[i]? = some x := by rfl) (hx : Loc X.env.scope x := by first | exact Or.inl rfl | exact Or.inr rfl)
    (hs : swapsWith e (some (.Name x pos')) pos.line X.env = pure false := by rfl) (hf : X.fn x = true ∨ X.env.scope.names.lookup x = some .local := by first | exact .inl rfl | exact .inr rfl | assumption) :
    PSD X (.Assign [.Name x pos'] e pos) (fun ρ => (f ρ).bind fun d => .ok (.nx (ρ.set i (.v d)))) := fun H₀ O₀ => psI (ps_set hN hi hx he hs hf) fun D σ H O ρ E fk q => ⟨H₀, O₀, O, ρ, E, by
  cases e1 : f ρ with
  | ok d => rw [e1] at q; exact fun v H' s r => q _ H' O ((E.grow s).set i r) fk (Kp.of s)
  | ex x => rw [e1] at q; exact fun H' s => q H' (E.same.trans s)
  | bad => rw [e1] at q; exact q⟩
/-- if -/
theorem psd_if {c : Expr} {a b : List Stmt} {fc : Ev → R Bool} (hc : PTD X c fc) (ha : PSsD X a F) (hb : PSsD X b G) : PSD X (.If c a b pos) (fun ρ => (fc ρ).bind fun t => if t = true then F ρ else G ρ) := fun H₀ O₀ => psI (ps_if hc (ha H₀ O₀) (hb H₀ O₀)) fun D σ H O ρ E fk q => ⟨H₀, O₀, O, ρ, E, by
  cases e1 : fc ρ with
  | ok t =>
    rw [e1] at q
    intro H' s
    cases t with
    | true => rw [if_pos rfl]; exact ⟨O, ρ, E.grow s, fk, RS.grow q (Kp.of s)⟩
    | false => rw [if_neg Bool.false_ne_true]; exact ⟨O, ρ, E.grow s, fk, RS.grow q (Kp.of s)⟩
  | ex x => rw [e1] at q; exact fun H' s => q H' (E.same.trans s)
  | bad => rw [e1] at q; exact q⟩

/-! ### what a loop walks -/
/-- the iterator J yields ds, as long as what is not a name's own is kept -/
def ItD (K : PySem.W.Frag) (J : It) (H : Hp) (O : Addr → Prop) (ds : List D) : Prop := ∀ H2 O2, Kp H O H2 O2 → OffK K O2 → (∀ a, O a → ∃ o, H a = some o ∧ Mt o) → (∀ a, O2 a → ∃ o, H2 a = some o ∧ Mt o) → ∀ i : Nat,
  (∀ d, ds[i]? = some d → J.go i H2 ∧ ∀ x H', J.yld i H2 x H' → Same H2 H' ∧ Rep K H' O2 x d) ∧ (ds[i]? = none → J.stop i H2)
def tI (X : Cx) (f : Ev → R (List D)) : TI := fun σ H R => ∃ H₀ O₀ O ρ, EnvOk X.K H₀ O₀ H O σ ρ ∧ OffK X.K O ∧ match f ρ with
  | .ok ds => ∀ J H', Same H H' → ItD X.K J H' O ds → R J H'
  | .ex e => ∀ H', Same H H' → XW X e H'
  | .bad => False
def PID (X : Cx) (tg iter : Expr) (f : Ev → R (List D)) : Prop := PI X tg iter (tI X f)
theorem pi_imp (h : PI X tg iter t) (i : ∀ σ H R, t' σ H R → t σ H R) : PI X tg iter t' := fun pins s σ H R I q => h pins s σ H R I (i σ H R q)
def itemsR : D → R (List D)
  | .lst xs => .ok xs
  | .tup xs => .ok xs
  | _ => .bad
def lstOnly : D → R (List D)
  | .lst xs => .ok xs
  | _ => .bad
def tupOnly : D → R (List D)
  | .tup xs => .ok xs
  | _ => .bad

theorem pid_list (h : PD X iter f) : PID X tg iter (fun ρ => (f ρ).bind lstOnly) := pi_imp (pi_list h) fun σ H R ⟨H₀, O₀, O, ρ, E, fk, q⟩ => ⟨H₀, O₀, O, ρ, E, by
  dsimp only at q
  cases e : f ρ with
  | ok d =>
    rw [e] at q
    cases d with
    | lst xs =>
      intro v H' s r
      cases r with
      | lst h n r =>
        rename_i a vs
        refine ⟨a, rfl, ⟨vs, h⟩, q (Itl X.K a) H' s ?_⟩
        intro H2 O2 k hK hO hO2 i
        obtain ⟨n2, h2⟩ := k.lst n h fun o q => hK a o q
        have r2 := k.reps hO hK r
        refine ⟨fun d e => ?_, fun e => ⟨vs, h2, by rw [r.length]; exact List.getElem?_eq_none_iff.mp e⟩⟩
        obtain ⟨v, h3, h4⟩ := r2.get e
        exact ⟨⟨vs, v, h2, h3⟩, fun x H3 ⟨e1, e2⟩ => by
          subst e1
          have := e2 vs h2
          rw [h3] at this
          cases this
          exact ⟨Same.refl _, h4⟩⟩
    | _ => exact (show False from q).elim
  | ex x => rw [e] at q; exact q
  | bad => rw [e] at q; exact q⟩
theorem pid_tup (h : PD X iter f) : PID X tg iter (fun ρ => (f ρ).bind tupOnly) := pi_imp (pi_tup h) fun σ H R ⟨H₀, O₀, O, ρ, E, fk, q⟩ => ⟨H₀, O₀, O, ρ, E, by
  dsimp only at q
  cases e : f ρ with
  | ok d =>
    rw [e] at q
    cases d with
    | tup xs =>
      intro v H' s r
      cases r with
      | tup h r =>
        rename_i a vs
        refine ⟨a, rfl, ⟨vs, h⟩, q (Itt X.K a) H' s ?_⟩
        intro H2 O2 k hK hO hO2 i
        have h2 := k.tup hO h
        have r2 := k.reps hO hK r
        refine ⟨fun d e => ?_, fun e => ⟨vs, h2, by rw [r.length]; exact List.getElem?_eq_none_iff.mp e⟩⟩
        obtain ⟨v, h3, h4⟩ := r2.get e
        exact ⟨⟨vs, v, h2, h3⟩, fun x H3 ⟨e1, e2⟩ => by
          subst e1
          have := e2 vs h2
          rw [h3] at this
          cases this
          exact ⟨Same.refl _, h4⟩⟩
    | _ => exact (show False from q).elim
  | ex x => rw [e] at q; exact q
  | bad => rw [e] at q; exact q⟩

/-! ### ranges -/
/-- lo, lo + c, .. (n of them) -/
def ItrS (lo c : Int) (n : Nat) : It := ⟨fun i _ => i < n, fun i H x H' => H' = H ∧ x = .int (lo + i * c), fun i _ => n ≤ i⟩
theorem turn_rangeS {P : Program} {w : World} {K : PySem.W.Frag} {tg : Expr} (it : Addr) (lo c : Int) (n : Nat) : Turn P w K tg (ItrS lo c n) [it] it (fun i h => IsRangeIter h it (lo + (i : Nat) * c) ((n : Int) - (i : Nat)) c) where
  mem := by simp
  obj := fun i h st b hb => by
    have e : b = it := by simpa using hb
    subst e
    exact ⟨_, st, fun v z => by
      have z' : Data.fields _ = Data.cell v := z
      cases z'⟩
  keep := fun i h h' st k => k it (by simp) _ st
  item := by
    intro X hP hw hK hc i pins s σ H E I hf st hg
    subst hP hw hK
    obtain ⟨f0, f1, f2, f3, f4, f5⟩ := hf it (by simp)
    have W := Walks.range (prog := X.prog) (w := X.w) (I.ok.hd hc) it lo c n
    refine W.item i s _ _ hg st fun v h' tk hv st' kk => ?_
    obtain ⟨t, rfl⟩ := hv
    have I1 : Inv X pins σ H { s with heap := h', toks := tk } := I.turned (fun b o hb e => kk b o (by simpa using hb) e) f0 f1 f3 f4 f5
    exact ⟨_, rfl, go_of (s := { s with heap := h', toks := tk }) (n := "range_iterator") st' rfl rfl (by decide) ⟨.int (lo + i * c), H, I1, ⟨t, rfl⟩, ⟨rfl, rfl⟩, st', fun b hb => (hf b hb).1⟩⟩
  done := by
    intro X hP hw hK hc i pins s σ H E I hf st hg
    subst hP hw hK
    obtain ⟨f0, f1, f2, f3, f4, f5⟩ := hf it (by simp)
    exact wpAny_pyNext_range_end (I.ok.hd hc) st (by have : n ≤ i := hg; lia) fun h' eb => ⟨rfl, I.turned (t' := s.toks) (fun b o hb e => eb b o hb e) f0 f1 f3 f4 f5⟩
  self := fun _ _ _ _ _ st h => wpAny_pyIter_rangeiter st h
def rngD (lo c : Int) (n : Nat) : List D := (List.range n).map fun (k : Nat) => D.int (lo + (k : Int) * c)
theorem itd_range (K : PySem.W.Frag) (H : Hp) (O : Addr → Prop) (lo c : Int) (n : Nat) : ItD K (ItrS lo c n) H O (rngD lo c n) := by
  intro H2 O2 k hK hO hO2 i
  unfold rngD
  rw [List.getElem?_map]
  by_cases hi : i < n
  · rw [List.getElem?_range hi]
    refine ⟨fun d e => ?_, fun e => (by cases e)⟩
    cases e
    exact ⟨hi, fun x H' ⟨e1, e2⟩ => by subst e1 e2; exact ⟨Same.refl _, .int⟩⟩
  · rw [List.getElem?_eq_none_iff.mpr (by simpa using hi)]
    exact ⟨fun d e => (by cases e), fun _ => Nat.le_of_not_lt hi⟩

def rngN (a b c : Int) : Nat := if a < b then ((b - a - 1) / c + 1).toNat else 0
theorem rngN_size (hc : 0 < c) : Builtin.Range.rangeSize a b c = (rngN a b c : Int) := by
  unfold Builtin.Range.rangeSize rngN
  rw [if_pos (by lia)]
  split
  · have : 0 ≤ (b - a - 1) / c := Int.ediv_nonneg (by lia) (by lia)
    lia
  · rfl
theorem small_pos (hc : 0 < c) (hc2 : c < 2 ^ 30) (ha : -(2 ^ 60) ≤ a) (ha' : a < 2 ^ 60) (hb : -(2 ^ 60) ≤ b) (hb' : b < 2 ^ 60) : Builtin.Range.small a b c = true := by
  unfold Builtin.Range.small
  have e : Builtin.Range.rangeSize a b c = if a < b then (b - a - 1) / c + 1 else 0 := by
    unfold Builtin.Range.rangeSize
    rw [if_pos (by lia)]
  rw [e]
  have h1 : a < b → (b - a - 1) / c ≤ b - a - 1 := fun h => Int.ediv_le_self _ (by lia)
  have h2 : a < b → 0 ≤ (b - a - 1) / c := fun h => Int.ediv_nonneg (by lia) (by lia)
  have h3 : a < b → (b - a - 1) / c * c ≤ b - a - 1 := fun h => Int.ediv_mul_le _ (by lia)
  simp only [Builtin.Range.rangeFitsLong, Bool.and_eq_true, Bool.or_eq_true, decide_eq_true_eq, beq_iff_eq, show c > 0 by lia, if_true]
  split
  · rename_i h
    have h1 := h1 h
    have h2 := h2 h
    have h3 := h3 h
    generalize (b - a - 1) / c = q at *
    lia
  · lia
def rngOk (a b c : Int) : Prop := 0 < c ∧ c < 2 ^ 30 ∧ -(2 ^ 60) ≤ a ∧ a < 2 ^ 60 ∧ -(2 ^ 60) ≤ b ∧ b < 2 ^ 60
instance (a b c : Int) : Decidable (rngOk a b c) := inferInstanceAs (Decidable (_ ∧ _))
def rngR : List D → R (List D)
  | [.int b] => if rngOk 0 b 1 then .ok (rngD 0 1 (rngN 0 b 1)) else .bad
  | [.int a, .int b] => if rngOk a b 1 then .ok (rngD a 1 (rngN a b 1)) else .bad
  | [.int a, .int b, .int c] => if rngOk a b c then .ok (rngD a c (rngN a b c)) else .bad
  | _ => .bad
/-- a range object just made, walked -/
theorem range_itS {R : It → Hp → Prop} {E : Value → Shared → Prop} (I : Inv X pins σ H s) (h : rngOk a b c) (q : R (ItrS a c (rngN a b c)) H) : wpAny (model X.prog X.w) X.A (pyIter (.ref s.heap.objs.size)) (PIE X pins σ tg R) E { s with heap := s.heap.push { cls := .type "range", data := .fields #[.int a t, .int b u, .int c v] }, toks := tk } := by
  obtain ⟨h1, h2, h3, h4, h5, h6⟩ := h
  refine wpAny_pyIter_range (IsRange.new ..) (small_pos h1 h2 h3 h4 h5 h6) ?_
  have I1 : Inv X pins σ H { s with heap := s.heap.push { cls := .type "range", data := .fields #[.int a t, .int b u, .int c v] }, toks := tk } := I.kept fun b o e => Heap.get?_push_of_some _ e
  refine ⟨(s.heap.push { cls := .type "range", data := .fields #[.int a t, .int b u, .int c v] }).objs.size, [(s.heap.push { cls := .type "range", data := .fields #[.int a t, .int b u, .int c v] }).objs.size], _, _, H, rfl,
    I1.kept (t' := tk) fun b o e => Heap.get?_push_of_some _ e, turn_rangeS _ a c (rngN a b c), ?_, fun bb hb => ?_, q⟩
  · have e1 : a + ((0 : Nat) : Int) * c = a := by simp
    have e2 : ((rngN a b c : Nat) : Int) - ((0 : Nat) : Int) = Builtin.Range.rangeSize a b c := by rw [rngN_size h1]; simp
    show IsRangeIter _ _ (a + ((0 : Nat) : Int) * c) (((rngN a b c : Nat) : Int) - ((0 : Nat) : Int)) c
    rw [e1, e2]
    exact Heap.get?_push_size _ rfl
  · have e : bb = (s.heap.push { cls := .type "range", data := .fields #[.int a t, .int b u, .int c v] }).objs.size := by simpa using hb
    subst e
    exact I1.fpOk (Nat.le_refl _) (I1.hok.fresh (Nat.le_refl _))
theorem call_rng {R : It → Hp → Prop} {O : Addr → Prop} (I : Inv X pins σ H s) (r : Paired (RepB X.K H O) vs ds) (ru : Vals vs us) (h : rngR ds = .ok ds') (q : ∀ J, ItD X.K J H O ds' → R J H) : wpAny (model X.prog X.w) X.A (call (.type "range") us) (fun v s1 => wpAny (model X.prog X.w) X.A (pyIter v) (PIE X pins σ tg R) X.xe s1) X.xe s := by
  match ds, h with
  | [.int b], h =>
    obtain ⟨v, rfl, z⟩ := pr1 r
    cases z.intI
    obtain ⟨u, rfl, t, rfl⟩ := vals1 ru
    simp only [rngR] at h
    split at h
    · rename_i hk
      cases h
      exact call_range_1 (range_itS I hk (q _ (itd_range _ _ _ _ _ _)))
    · cases h
  | [.int a, .int b], h =>
    obtain ⟨v, v', rfl, z, z'⟩ := pr2 r
    cases z.intI; cases z'.intI
    obtain ⟨u, u', rfl, ⟨t, rfl⟩, ⟨t', rfl⟩⟩ := vals2 ru
    simp only [rngR] at h
    split at h
    · rename_i hk
      cases h
      exact call_range_2 (range_itS I hk (q _ (itd_range _ _ _ _ _ _)))
    · cases h
  | [.int a, .int b, .int c], h =>
    cases r with
    | cons z1 r =>
      obtain ⟨v, v', rfl, z, z'⟩ := pr2 r
      cases z1.intI; cases z.intI; cases z'.intI
      cases ru with
      | cons w1 ru =>
        obtain ⟨u, u', rfl, ⟨t, rfl⟩, ⟨t', rfl⟩⟩ := vals2 ru
        obtain ⟨t1, rfl⟩ := w1
        simp only [rngR] at h
        split at h
        · rename_i hk
          cases h
          have hk' := hk
          obtain ⟨h1, h2, _⟩ := hk'
          exact call_range_3 (by lia) (range_itS (tk := s.toks) I hk (q _ (itd_range _ _ _ _ _ _))) (.inl (PyProof.noPylong_small (by lia)))
        · cases h
theorem pid_range {tg e : Expr} {es : List Expr} {p : Pos} {f : Ev → R (List D)} (ha : PAB X (e :: es) f) (hg : Gl X "range" := by rfl) (hm : X.mg "range" = none := by assumption)
    (he : starEach (e :: es) X.env = (false, eval e X.env) :: starEach es X.env := by rfl) (hpl : (backTo pos (starEach es X.env)).any (·.1) = false := by rfl) :
    PID X tg (.Call (.Name "range" p) (e :: es) [] pos) (fun ρ => (f ρ).bind rngR) := by
  intro pins s σ H Q I ⟨H₀, O₀, O, ρ, E, fk, q⟩
  dsimp only at q
  refine Call_ (ld_blt I hg hm boot_range (PyProof.Rows.callWith_type1 (thn (ha pos pins s σ H (fun vs H1 => ∃ ds ds', Same H H1 ∧ Paired (RepB X.K H1 O) vs ds ∧ rngR ds = .ok ds' ∧ ∀ J, ItD X.K J H1 O ds' → Q J H1) I ⟨H₀, O₀, O, ρ, E, ?_⟩) fun us s1 ⟨vs, H1, I1, r1, ds, ds', sm, r, h1, h2⟩ => ?_) he hpl))
  · cases e1 : f ρ with
    | ok ds =>
      rw [e1] at q
      intro vs H1 s1 r1
      rw [R.bind_ok] at q
      cases e2 : rngR ds with
      | ok ds' => rw [e2] at q; exact ⟨ds, ds', s1, r1, e2, fun J hJ => q J H1 s1 hJ⟩
      | ex x =>
        rw [e2] at q
        match ds, e2 with
        | [.int b], e2 => simp only [rngR] at e2; split at e2 <;> cases e2
        | [.int a, .int b], e2 => simp only [rngR] at e2; split at e2 <;> cases e2
        | [.int a, .int b, .int c], e2 => simp only [rngR] at e2; split at e2 <;> cases e2
      | bad => rw [e2] at q; exact q.elim
    | ex x => rw [e1] at q; exact q
    | bad => rw [e1] at q; exact q
  · exact call_rng I1 r r1 h1 h2

/-! ### targets -/
def tG (X : Cx) (G : D → Ev → R Ev) : TG := fun v σ H Q => ∃ H₀ O₀ O ρ d ρ', EnvOk X.K H₀ O₀ H O σ ρ ∧ Rep X.K H O v d ∧ G d ρ = .ok ρ' ∧ ∀ σ' H', Same H H' → EnvOk X.K H₀ O₀ H' O σ' ρ' → Q σ' H'
def PGD (X : Cx) (tg : Expr) (G : D → Ev → R Ev) : Prop := PG X tg (tG X G)
theorem pg_imp (h : PG X tg t) (i : ∀ v σ H Q, t' v σ H Q → t v σ H Q) : PG X tg t' := fun pins s σ H v u Q I r q => h pins s σ H v u Q I r (i v σ H Q q)
theorem pgd_name (i : Nat) (hN : X.N.Nodup) (hi : X.N[i]? = some x := by rfl) (hx : Loc X.env.scope x := by first | exact Or.inl rfl | exact Or.inr rfl) (hf : X.fn x = true ∨ X.env.scope.names.lookup x = some .local := by first | exact .inl rfl | exact .inr rfl | assumption) :
    PGD X (.Name x pos) (fun d ρ => .ok (ρ.set i (.v d))) := pg_imp (pg_name hN hi hx hf) fun v σ H Q ⟨H₀, O₀, O, ρ, d, ρ', E, r, e, q⟩ => by
  cases e
  exact q _ H (Same.refl _) (E.set i r)
/-- several targets -/
def tGs (X : Cx) (G : List D → Ev → R Ev) : TGs := fun vs σ H Q => ∃ H₀ O₀ O ρ ds ρ', EnvOk X.K H₀ O₀ H O σ ρ ∧ Reps X.K H O vs ds ∧ G ds ρ = .ok ρ' ∧ ∀ σ' H', Same H H' → EnvOk X.K H₀ O₀ H' O σ' ρ' → Q σ' H'
def PGsD (X : Cx) (tgs : List Expr) (G : List D → Ev → R Ev) : Prop := PGs X tgs (tGs X G)
theorem pgs_imp {tg : List Expr} {t t' : TGs} (h : PGs X tg t) (i : ∀ v σ H Q, t' v σ H Q → t v σ H Q) : PGs X tg t' := fun pins s σ H v u Q I r q => h pins s σ H v u Q I r (i v σ H Q q)
def gNilR : List D → Ev → R Ev
  | [], ρ => .ok ρ
  | _, _ => .bad
def gConsR (G : D → Ev → R Ev) (Gs : List D → Ev → R Ev) : List D → Ev → R Ev
  | d :: ds, ρ => (G d ρ).bind fun ρ' => Gs ds ρ'
  | _, _ => .bad
theorem pgsd_nil : PGsD X [] gNilR := pgs_imp pgs_nil fun vs σ H Q ⟨H₀, O₀, O, ρ, ds, ρ', E, r, e, q⟩ => by
  cases r with
  | nil => cases e; exact ⟨rfl, q σ H (Same.refl _) E⟩
  | cons _ _ => cases e
theorem pgsd_cons {e : Expr} {es : List Expr} {G : D → Ev → R Ev} {Gs : List D → Ev → R Ev} (h1 : PGD X e G) (h2 : PGsD X es Gs)
    (hs : (assignEach (e :: es) X.env).map (·.2) = assign e X.env :: (assignEach es X.env).map (·.2) := by rfl) : PGsD X (e :: es) (gConsR G Gs) := pgs_imp (pgs_cons h1 h2 hs) fun vs σ H Q ⟨H₀, O₀, O, ρ, ds, ρ', E, r, e, q⟩ => by
  cases r with
  | nil => cases e
  | @cons v d vs ds r rr =>
    simp only [gConsR] at e
    cases e1 : G d ρ with
    | ok ρ1 =>
      rw [e1] at e
      exact ⟨v, vs, rfl, H₀, O₀, O, ρ, d, ρ1, E, r, e1, fun σ1 H1 s1 E1 => ⟨H₀, O₀, O, ρ1, ds, ρ', E1, rr.same s1, e, fun σ2 H2 s2 E2 => q σ2 H2 (s1.trans s2) E2⟩⟩
    | ex x => rw [e1] at e; cases e
    | bad => rw [e1] at e; cases e
/-- (a, b, ..) = a tuple or a list of that length -/
def gTupR (n : Nat) (Gs : List D → Ev → R Ev) : D → Ev → R Ev
  | .tup ds, ρ => if ds.length = n then Gs ds ρ else .bad
  | .lst ds, ρ => if ds.length = n then Gs ds ρ else .bad
  | _, _ => .bad
end
end DL

namespace DL
open PySem PySem.Spec L2
open PyProof.Rows hiding St
variable [Tabs]

section

theorem draw_list (hne : t ≠ it) : ∀ (n i : Nat) (s : Shared) (Q : List Value → Shared → Prop), s.heap.IsListIter it t i → s.heap.IsList t items → i + n ≤ items.size →
    (∀ h', h'.IsListIter it t (i + n) → Heap.SameBut it s.heap h' → Q ((items.toList.drop i).take n) { s with heap := h' }) → wpAny (model prog w) A (draw (.ref it) n) Q E s
  | 0, i, s, Q, hit, _, _, hQ => by
    show wpAny _ _ (pure []) Q E s
    exact wpAny_pure (by simpa using hQ s.heap hit (Heap.SameBut.refl ..))
  | n + 1, i, s, Q, hit, ht, hle, hQ => by
    have hlt : i < items.size := by omega
    show wpAny _ _ (pyNext (.ref it) >>= _) Q E s
    refine wpAny_bind (wpAny_pyNext_list_item hit ht (x := items[i]) (by simp [hlt]) fun h₁ hit₁ hs₁ => ?_)
    refine wpAny_bind (wpAny_holding (draw_list hne n (i + 1) _ _ hit₁ (ht.extBut hs₁.extBut hne) (by omega) fun h₂ hit₂ hs₂ => wpAny_pure ?_))
    have hd : items.toList.drop i = items[i] :: items.toList.drop (i + 1) := by simp [List.drop_eq_getElem_cons, hlt]
    have := hQ h₂ (by rw [show i + (n + 1) = i + 1 + n by omega]; exact hit₂) (hs₁.trans hs₂)
    rw [hd, List.take_succ_cons] at this
    exact this
theorem unpackItems_list {Q : List Value → Shared → Prop} (hh : A.handled = none) (ht : s.heap.IsList t items) (hQ : ∀ h', Heap.ExtBut s.heap.objs.size s.heap h' → Q items.toList { s with heap := h' }) : wpAny (model prog w) A (unpackItems (.ref t) items.size none) Q E s := by
  have hlt : t ≠ s.heap.objs.size := by obtain ⟨o, ho, _⟩ := ht; exact Nat.ne_of_lt (Heap.lt_size ho)
  unfold unpackItems
  refine wpAny_bind ?_
  · unfold notIterableAtAll
    refine wpAny_bind (wpAny_specialOf ht.typeIs slot_list_iter.lookup ?_)
    refine wpAny_pure ?_
    simp only [Bool.false_eq_true, if_false]
    refine wpAny_bind (wpAny_holding (wpAny_pyIter_list ht ?_))
    have ht0 : (s.heap.push { cls := .type "list_iterator", data := .fields #[.ref t, .int 0 0] }).IsList t items := by
      obtain ⟨o, ho, r⟩ := ht
      exact ⟨o, Heap.get?_push_of_some _ ho, r⟩
    refine wpAny_bind (wpAny_holding (draw_list hlt items.size 0 _ _ ⟨_, Heap.get?_push_size _ rfl, rfl, rfl⟩ ht0 (by omega) fun h₁ hit₁ hs₁ => ?_))
    have hall : List.take items.size (List.drop 0 items.toList) = items.toList := by
      rw [List.drop_zero]; exact List.take_of_length_le (by simp)
    rw [hall]
    rw [if_neg (by simp)]
    have ht₁ : h₁.IsList t items := ht0.extBut hs₁.extBut hlt
    refine wpAny_bind (wpAny_holding (wpAny_pyNext_list_end hh hit₁ ht₁ (by simp) fun h₂ he₂ => ?_))
    simp only [Option.isSome_none, Bool.false_eq_true, if_false]
    refine wpAny_pure (hQ h₂ fun b o hb e => he₂ b o hb (hs₁.extBut b o hb (Heap.get?_push_of_some _ e)))
theorem assign_Tuple_list {x1} {Q : Unit → Shared → Prop} (hh : A.handled = none) (ht : s.heap.IsList t items) (hn : (assignEach elts env).length = items.size) (hstar : (assignEach elts env).findIdx? (·.1) = none) (h : ∀ h', Heap.ExtBut s.heap.objs.size s.heap h' → wpAny (model prog w) A (assignInOrder ((assignEach elts env).map (·.2)) items.toList) Q E { s with heap := h' }) :
    wpAny (model prog w) A (assign (.Tuple elts x1 pos) env (.ref t)) Q E s := by
  rw [assign_Tuple]
  refine wpAny_bind (wpAny_standAt ?_)
  unfold unpack
  rw [hn, hstar]
  exact wpAny_bind (wpAny_holding (unpackItems_list hh ht h))
end

section

theorem pgd_tup (hc : X.calm = true) (h : PGsD X es Gs) (hn : (assignEach es X.env).length = n := by rfl) (hst : (assignEach es X.env).findIdx? (·.1) = none := by rfl) : PGD X (.Tuple es k pos) (gTupR n Gs) := by
  intro pins s σ H v u Q I r ⟨H₀, O₀, O, ρ, d, ρ', E, rd, e, q⟩
  cases rd with
  | @tup a vs ds hq rs =>
    cases r
    simp only [gTupR] at e
    split at e
    · rename_i hl
      obtain ⟨its, rv, ht, hz⟩ := I.tuple hq
      refine assign_Tuple_tuple (I.ok.hd hc) ht (by simp [hn, ← hl, ← rs.length, rv.length]) hst fun h' hx => ?_
      have I1 : Inv X pins σ H { s with heap := h' } := I.kept (t' := s.toks) fun b o e => hx b o (Nat.ne_of_lt (Heap.lt_size e)) e
      exact h pins _ σ H vs _ Q I1 (by simpa using rv) ⟨H₀, O₀, O, ρ, ds, ρ', E, rs, e, q⟩
    · cases e
  | @lst a vs ds hq _ rs =>
    cases r
    simp only [gTupR] at e
    split at e
    · rename_i hl
      obtain ⟨its, rv, ht, hz⟩ := I.list hq
      refine assign_Tuple_list (I.ok.hd hc) ht.isList (by simp [hn, ← hl, ← rs.length, rv.length]) hst fun h' hx => ?_
      have I1 : Inv X pins σ H { s with heap := h' } := I.kept (t' := s.toks) fun b o e => hx b o (Nat.ne_of_lt (Heap.lt_size e)) e
      exact h pins _ σ H vs _ Q I1 (by simpa using rv) ⟨H₀, O₀, O, ρ, ds, ρ', E, rs, e, q⟩
    · cases e
  | _ => cases e
/-- a target that no rule of R leaves by an exception -/
def NoEx (G : D → Ev → R Ev) : Prop := ∀ d ρ e, G d ρ ≠ .ex e
/-- target = e -/
def asgR (f : Ev → R D) (G : D → Ev → R Ev) : Ev → R Out := fun ρ => (f ρ).bind fun d => match G d ρ with
  | .ok ρ' => .ok (.nx ρ')
  | _ => .bad
theorem psd_asg (he : PD X e f) (hg : PGD X tg G) (hs : swapsWithSole [tg] e pos.line X.env = pure false := by rfl) (hw : swappedStores [tg] e X.env = pure none := by rfl) (h1 : (assignEach [tg] X.env).map (·.2) = [assign tg X.env] := by rfl) : PSD X (.Assign [tg] e pos) (asgR f G) := fun H₀ O₀ => psI (ps_asg he hg hs hw h1) fun D σ H O ρ E fk q => ⟨H₀, O₀, O, ρ, E, by
  unfold asgR at q
  cases e1 : f ρ with
  | ok d =>
    rw [e1, R.bind_ok] at q
    intro v H' s r
    cases e2 : G d ρ with
    | ok ρ' =>
      rw [e2] at q
      exact ⟨H₀, O₀, O, ρ, d, ρ', E.grow s, r, e2, fun σ' H2 s2 E2 => q σ' H2 O E2 fk (Kp.of (s.trans s2))⟩
    | ex x => rw [e2] at q; exact (show False from q).elim
    | bad => rw [e2] at q; exact (show False from q).elim
  | ex x => rw [e1] at q; exact fun H' s => q H' (E.same.trans s)
  | bad => rw [e1] at q; exact q⟩
/-- a, b = x, y: local names, stored from the right -/
theorem psd_par2 (i j : Nat) {kt k2 pt2} (hc : X.calm = true) (hN : X.N.Nodup) (ha : PAD X [a, b] f) (hi : X.N[i]? = some x := by rfl) (hj : X.N[j]? = some y := by rfl) (hij : i ≠ j := by decide) (hx : X.env.scope.names.lookup x = some .local := by rfl) (hy : X.env.scope.names.lookup y = some .local := by rfl) (hw : swappedStores [.Tuple [.Name x px, .Name y py] kt pt] (.Tuple [a, b] k2 pt2) X.env = pure (some [x, y]) := by rfl) (hs : swapsWithSole [.Tuple [.Name x px, .Name y py] kt pt] (.Tuple [a, b] k2 pt2) pos.line X.env = pure false := by rfl) :
    PSD X (.Assign [.Tuple [.Name x px, .Name y py] kt pt] (.Tuple [a, b] k2 pt2) pos) (fun ρ => (f ρ).bind fun ds => match ds with
      | [d, d'] => .ok (.nx ((ρ.set i (.v d)).set j (.v d')))
      | _ => .bad) := fun H₀ O₀ => psI (ps_par hc hN hi hj hij hx hy ha hw hs) fun D σ H O ρ E fk q => ⟨H₀, O₀, O, ρ, E, by
  cases e1 : f ρ with
  | ok ds =>
    rw [e1, R.bind_ok] at q
    intro vs H' s r
    cases r with
    | nil => exact (show False from q).elim
    | cons r1 r =>
      cases r with
      | nil => exact (show False from q).elim
      | cons r2 r =>
        cases r with
        | nil => exact ⟨_, _, rfl, q _ H' O (((E.grow s).set i r1).set j r2) fk (Kp.of s)⟩
        | cons _ _ => exact (show False from q).elim
  | ex x => rw [e1] at q; exact fun H' s => q H' (E.same.trans s)
  | bad => rw [e1] at q; exact q⟩
/-- a, b, c = x, y, z: local names, stored from the right -/
theorem psd_par3 (i j l : Nat) {kt k2 pt2} (hc : X.calm = true) (hN : X.N.Nodup) (ha : PAD X [a, b, c] f) (hi : X.N[i]? = some x := by rfl) (hj : X.N[j]? = some y := by rfl) (hl : X.N[l]? = some z := by rfl) (hx : X.env.scope.names.lookup x = some .local := by rfl) (hy : X.env.scope.names.lookup y = some .local := by rfl) (hz : X.env.scope.names.lookup z = some .local := by rfl) (hw : swappedStores [.Tuple [.Name x px, .Name y py, .Name z pz] kt pt] (.Tuple [a, b, c] k2 pt2) X.env = pure (some [x, y, z]) := by rfl) (hs : swapsWithSole [.Tuple [.Name x px, .Name y py, .Name z pz] kt pt] (.Tuple [a, b, c] k2 pt2) pos.line X.env = pure false := by rfl) :
    PSD X (.Assign [.Tuple [.Name x px, .Name y py, .Name z pz] kt pt] (.Tuple [a, b, c] k2 pt2) pos) (fun ρ => (f ρ).bind fun ds => match ds with
      | [d, d', d''] => .ok (.nx (((ρ.set l (.v d'')).set j (.v d')).set i (.v d)))
      | _ => .bad) := by
  intro H₀ O₀ pins s σ H D I ⟨O, ρ, E, fk, q⟩
  dsimp only at q
  rw [exec_Assign_arm]
  refine wpAny_bind (wpAny_standAt ?_)
  rw [hs]
  refine wpAny_bind (wpAny_pure ?_)
  rw [if_neg (by decide)]
  refine wpAny_bind (Tuple_ (thn (ha _ pins s σ H (fun vs H1 => ∃ v1 v2 v3 d1 d2 d3, vs = [v1, v2, v3] ∧ Same H H1 ∧ Rep X.K H1 O v1 d1 ∧ Rep X.K H1 O v2 d2 ∧ Rep X.K H1 O v3 d3 ∧ RS X H₀ O₀ H O (.ok (.nx (((ρ.set l (.v d3)).set j (.v d2)).set i (.v d1)))) D) I ⟨H₀, O₀, O, ρ, E, ?_⟩) fun us s1 ⟨vs, H1, I1, r1, q1⟩ => ?_))
  · cases e1 : f ρ with
    | ok ds =>
      rw [e1, R.bind_ok] at q
      intro vs H' s r
      cases r with
      | nil => exact (show False from q).elim
      | cons r1 r =>
        cases r with
        | nil => exact (show False from q).elim
        | cons r2 r =>
          cases r with
          | nil => exact (show False from q).elim
          | cons r3 r =>
            cases r with
            | nil => exact ⟨_, _, _, _, _, _, rfl, s, r1, r2, r3, q⟩
            | cons _ _ => exact (show False from q).elim
    | ex x => rw [e1] at q; exact fun H' s => q H' (E.same.trans s)
    | bad => rw [e1] at q; exact q
  · obtain ⟨v1, v2, v3, d1, d2, d3, e1, sm, p1, p2, p3, q⟩ := q1
    subst e1
    obtain ⟨u1, u2, u3, rfl, rv1, rv2, rv3⟩ : ∃ u1 u2 u3, us = [u1, u2, u3] ∧ RelV v1 u1 ∧ RelV v2 u2 ∧ RelV v3 u3 := by
      cases r1 with
      | cons p r1 =>
        obtain ⟨u, w', e, p', p''⟩ := vals2 r1
        subst e
        exact ⟨_, _, _, rfl, p, p', p''⟩
    refine wpAny_newObj_type ?_ (by show 3 ≤ sizeLine; decide)
    have I2 : Inv X pins σ H1 { s1 with heap := s1.heap.push { cls := .type "tuple", data := .seq [u1, u2, u3].toArray } } := I1.kept (t' := s1.toks) fun b o e => Heap.get?_push_of_some _ e
    rw [hw]
    refine wpAny_bind (wpAny_pure ?_)
    show wpAny (model X.prog X.w) X.A (do rule "assign.swapped-stores"; let items ← unpackItems (.ref s1.heap.objs.size) 3 none; assignInOrder [fun v => bindName X.env z v, fun v => bindName X.env y v, fun v => bindName X.env x v] items.reverse; pure Flow.next) _ _ _
    refine wpAny_bind (wpAny_rule (wpAny_bind (unpackItems_tuple (items := #[u1, u2, u3]) (I.ok.hd hc) (IsTup.new s1.heap _) fun h' hx' => ?_)))
    have I3 := I2.kept (h' := h') (t' := s1.toks) fun b o e => hx' b o (Nat.ne_of_lt (Heap.lt_size e)) e
    show wpAny _ _ (assignInOrder [fun v => bindName X.env z v, fun v => bindName X.env y v, fun v => bindName X.env x v] [u3, u2, u1] >>= fun _ => pure Flow.next) _ _ _
    refine wpAny_bind (assignInOrder_cons (wpAny_bindName (store_ok I3 hN hl (.inl hz) rv3 (fun s2 I4 => ?_) (.inr hz))))
    refine assignInOrder_cons (wpAny_bindName (store_ok I4 hN hj (.inl hy) rv2 (fun s3 I5 => ?_) (.inr hy)))
    refine assignInOrder_cons (wpAny_bindName (store_ok I5 hN hi (.inl hx) rv1 (fun s4 I6 => assignInOrder_nil (wpAny_pure ?_)) (.inr hx)))
    exact ⟨_, H1, I6, q _ H1 O ((((E.grow sm).set l p3).set j p2).set i p1) fk (Kp.of sm)⟩

/-! ### loops -/
def forL (G : D → Ev → R Ev) (F : Ev → R Out) : List D → Ev → R Out
  | [], ρ => .ok (.nx ρ)
  | d :: ds, ρ => match G d ρ with
    | .ok ρ1 => match F ρ1 with
      | .ok (.nx ρ2) => forL G F ds ρ2
      | .ok (.ct ρ2) => forL G F ds ρ2
      | .ok (.bk ρ2) => .ok (.nx ρ2)
      | r => r
    | _ => .bad
theorem psd_for (hp : PassesOwn (model X.prog X.w) X.A X.env X.xe) (hc : X.calm = true) (hi : PID X tg iter f) (hg : PGD X tg G) (hb : PSsD X body F) (hs : ∀ x, foldedSetIterable iter X.env x = pure x := by intro _; rfl) : PSD X (.For tg iter body [] pos) (fun ρ => (f ρ).bind fun ds => forL G F ds ρ) := fun H₀ O₀ => psI (ps_for hp hc hi hg (hb H₀ O₀) hs) fun D σ H O ρ E fk q => ⟨H₀, O₀, O, ρ, E, fk, by
  cases e1 : f ρ with
  | ex x => rw [e1] at q; exact fun H' s => q H' (E.same.trans s)
  | bad => rw [e1] at q; exact q
  | ok ds =>
    rw [e1, R.bind_ok] at q
    intro J H1 s1 hJ
    refine ⟨fun i m σ' H' => m = ds.length - i ∧ i ≤ ds.length ∧ ∃ O' ρ', EnvOk X.K H₀ O₀ H' O' σ' ρ' ∧ OffK X.K O' ∧ Kp H1 O H' O' ∧ RS X H₀ O₀ H' O' (forL G F (ds.drop i) ρ') D, ⟨ds.length, by simp, Nat.zero_le _, O, ρ, E.grow s1, fk, Kp.refl _ _, ?_⟩, ?_⟩
    · rw [List.drop_zero]; exact q.grow (Kp.of s1)
    · rintro i m σ' H' ⟨rfl, hi, O', ρ', E', fk', k', q'⟩
      have hit := hJ H' O' k' fk' (E.grow s1).trk E'.trk i
      by_cases hlt : i < ds.length
      · obtain ⟨go, yl⟩ := hit.1 ds[i] (List.getElem?_eq_getElem hlt)
        refine .inr ⟨go, fun σ2 H2 => ∃ O2 ρ2, EnvOk X.K H₀ O₀ H2 O2 σ2 ρ2 ∧ OffK X.K O2 ∧ Kp H1 O H2 O2 ∧ RS X H₀ O₀ H2 O2 (forL G F (ds.drop (i + 1)) ρ2) D, fun σ2 H2 p => ⟨ds.length - (i + 1), by omega, rfl, hlt, p⟩, fun x H2 y => ?_⟩
        obtain ⟨s2, r2⟩ := yl x H2 y
        rw [List.drop_eq_getElem_cons hlt, forL] at q'
        cases e2 : G ds[i] ρ' with
        | ex x => rw [e2] at q'; exact (show False from q').elim
        | bad => rw [e2] at q'; exact (show False from q').elim
        | ok ρ1 =>
          rw [e2] at q'
          dsimp only at q'
          refine ⟨H₀, O₀, O', ρ', ds[i], ρ1, E'.grow s2, r2, e2, fun σ3 H3 s3 E3 => ⟨O', ρ1, E3, fk', ?_⟩⟩
          have kk : Kp H' O' H3 O' := Kp.of (s2.trans s3)
          cases e3 : F ρ1 with
          | ex x => rw [e3] at q'; exact q'
          | bad => rw [e3] at q'; exact q'
          | ok o =>
            rw [e3] at q'
            cases o with
            | nx ρ2 => exact fun σ4 H4 O4 E4 f4 k4 => ⟨O4, ρ2, E4, f4, k'.trans (kk.trans k4), RS.grow q' (kk.trans k4)⟩
            | ct ρ2 => exact fun σ4 H4 O4 E4 f4 k4 => ⟨O4, ρ2, E4, f4, k'.trans (kk.trans k4), RS.grow q' (kk.trans k4)⟩
            | bk ρ2 => exact fun σ4 H4 O4 E4 f4 k4 => q' σ4 H4 O4 E4 f4 (kk.trans k4)
            | rt d => exact q'
      · have e : i = ds.length := by omega
        subst e
        rw [List.drop_length, forL] at q'
        exact .inl ⟨hit.2 (by simp), q' σ' H' O' E' fk' (Kp.refl _ _)⟩⟩
/-- while, n turns at most -/
def whileN (c : Ev → R Bool) (F : Ev → R Out) : Nat → Ev → R Out
  | 0, _ => .bad
  | n + 1, ρ => (c ρ).bind fun b => if b = true then (match F ρ with
      | .ok (.nx ρ2) => whileN c F n ρ2
      | .ok (.ct ρ2) => whileN c F n ρ2
      | .ok (.bk ρ2) => .ok (.nx ρ2)
      | r => r) else .ok (.nx ρ)
theorem psd_while (n : Ev → Nat) (hp : PassesOwn (model X.prog X.w) X.A X.env X.xe) (hc : PTD X c fc) (hb : PSsD X body F) : PSD X (.While c body [] pos) (fun ρ => whileN fc F (n ρ) ρ) := fun H₀ O₀ => psI (ps_while hp hc (hb H₀ O₀)) fun D σ H O ρ E fk q => by
  refine ⟨fun m σ' H' => ∃ O' ρ', EnvOk X.K H₀ O₀ H' O' σ' ρ' ∧ OffK X.K O' ∧ RS X H₀ O₀ H' O' (whileN fc F m ρ') D, ⟨n ρ, O, ρ, E, fk, q⟩, ?_⟩
  rintro m σ' H' ⟨O', ρ', E', fk', q'⟩
  cases m with
  | zero => exact (show False from q').elim
  | succ m =>
    rw [whileN] at q'
    refine ⟨H₀, O₀, O', ρ', E', ?_⟩
    cases e1 : fc ρ' with
    | ex x => rw [e1] at q'; exact fun H2 s2 => q' H2 (E'.same.trans s2)
    | bad => rw [e1] at q'; exact q'
    | ok b =>
      rw [e1, R.bind_ok] at q'
      intro H2 s2
      cases b with
      | false =>
        rw [if_neg Bool.false_ne_true] at q' ⊢
        exact q' σ' H2 O' (E'.grow s2) fk' (Kp.of s2)
      | true =>
        rw [if_pos rfl] at q' ⊢
        refine ⟨fun σ3 H3 => ∃ O3 ρ3, EnvOk X.K H₀ O₀ H3 O3 σ3 ρ3 ∧ OffK X.K O3 ∧ RS X H₀ O₀ H3 O3 (whileN fc F m ρ3) D, fun σ3 H3 p => ⟨m, Nat.lt_succ_self m, p⟩, O', ρ', E'.grow s2, fk', ?_⟩
        have kk : Kp H' O' H2 O' := Kp.of s2
        cases e3 : F ρ' with
        | ex x => rw [e3] at q'; exact q'
        | bad => rw [e3] at q'; exact q'
        | ok o =>
          rw [e3] at q'
          cases o with
          | nx ρ2 => exact fun σ4 H4 O4 E4 f4 k4 => ⟨O4, ρ2, E4, f4, RS.grow q' (kk.trans k4)⟩
          | ct ρ2 => exact fun σ4 H4 O4 E4 f4 k4 => ⟨O4, ρ2, E4, f4, RS.grow q' (kk.trans k4)⟩
          | bk ρ2 => exact fun σ4 H4 O4 E4 f4 k4 => q' σ4 H4 O4 E4 f4 (kk.trans k4)
          | rt d => exact q'
end
end DL

namespace DL
open PySem PySem.Spec L2
open PyProof.Rows hiding St
variable [Tabs]

/-- a def's promise by data: n arguments, the value that m tells -/
def spD (K : PySem.W.Frag) (n : Nat) (m : List D → R D) : Sp := fun vs H Q _ => ∃ O ds d, Reps K H O vs ds ∧ ds.length = n ∧ (∀ a, O a → ∃ o, H a = some o ∧ Mt o) ∧ Tb H ∧ OffK K O ∧ m ds = .ok d ∧ ∀ v H', Same H H' → Rep K H' O v d → Q v H'
def startD (N : List Str) (ds : List D) : Ev := ds.map Sl.v ++ List.replicate (N.length - ds.length) Sl.no
/-- what a body comes to -/
def retR : R Out → R D
  | .ok (.rt d) => .ok d
  | .ok (.nx _) => .ok .non
  | .ex e => .ex e
  | _ => .bad
theorem env_start {K : PySem.W.Frag} {H : Hp} {O : Addr → Prop} {N : List Str} {vs : List V} {ds : List D} (r : Reps K H O vs ds) (t : ∀ a, O a → ∃ o, H a = some o ∧ Mt o) (tb : Tb H) : EnvOk K H O H O (start N vs) (startD N ds) where
  len := by simp [L2.start, startD, r.length]
  same := Same.refl H
  sub := fun _ h => h
  trk := t
  trk₀ := fun a h => let ⟨o, q, _⟩ := t a h; ⟨o, q⟩
  tab := tb
  slot := fun i sl h => by
    unfold startD at h
    unfold L2.start
    by_cases hi : i < ds.length
    · rw [List.getElem?_append_left (by simpa using hi), List.getElem?_map] at h
      cases e : ds[i]? with
      | none => rw [e] at h; cases h
      | some d' =>
        rw [e] at h
        have h' : Sl.v d' = sl := Option.some.inj h
        subst h'
        obtain ⟨v, h1, h2⟩ := r.get e
        exact ⟨v, by rw [List.getElem?_append_left (by rw [List.length_map, r.length]; exact hi), List.getElem?_map, h1]; rfl, h2⟩
    · rw [List.getElem?_append_right (by simpa using hi), List.getElem?_replicate] at h
      split at h
      · cases h; trivial
      · cases h
  inj := fun i j x y a h _ o => by
    unfold startD at h
    by_cases hi : i < ds.length
    · rw [List.getElem?_append_left (by simpa using hi), List.getElem?_map] at h
      cases e : ds[i]? with
      | none => rw [e] at h; cases h
      | some d' =>
        rw [e] at h
        have h' : Sl.v d' = x := Option.some.inj h
        subst h'
        exact o.elim
    · rw [List.getElem?_append_right (by simpa using hi), List.getElem?_replicate] at h
      split at h
      · cases h; exact o.elim
      · cases h
section
variable {K : PySem.W.Frag}
/-- the context of a def's body in which no exception leaves -/
abbrev cxN (P : Program) (w : World) (K : PySem.W.Frag) (mg : Str → Option Value) (base : Heap) (N : List Str) (qual : Str) (sc : Scope) (f : Addr) (cdv : Value) (A : Around) (outer : List Env) (s : Shared) (H : Hp) (E : XK) : Cx := (cxOf CX0 P w K mg base N qual sc f cdv A outer s H E).nox
/-- THE RULE for a def by data -/
theorem fnD {x qual : Str} {st : Stmt} {f : Addr} {fd : FuncData} {N ps : List Str} {k : Nat} {m : List D → R D} {F : Ev → R Out} (F0 : Fun K x qual st f fd) (S : FnScope N ps (defScope st))
    (hb : ∀ (cdv : Value) (A : Around) (outer : List Env) (s : Shared) (H : Hp) (E : XK), Room k (A.deeper (envOfC qual (defScope st) s.heap.objs.size f cdv)) → PSsD (cxN P w K mg base N qual (defScope st) f cdv A outer s H E) (defBody st) F)
    (hm : ∀ ds d, ds.length = ps.length → m ds = .ok d → retR (F (startD N ds)) = .ok d) : FnOk P w K mg base CX0 (k + 1) f fd ps (spD K ps.length m) := by
  refine F0.ok S (fun vs H Q E ⟨O, ds, d, r, hl, _⟩ => by rw [r.length]; exact hl) (fun cdv A outer s H vs Q E hr ⟨O, ds, d, r, hl, ht, tb, fk, e, q⟩ => ?_)
  refine ⟨_, hb cdv A outer s H E hr H O, O, _, env_start r ht tb, fk, ?_⟩
  have h := hm ds d hl e
  cases e1 : F (startD N ds) with
  | ok o =>
    rw [e1] at h
    cases o with
    | rt d' =>
      have h' : R.ok d' = R.ok d := h
      injection h' with h'
      subst h'
      exact q
    | nx ρ =>
      have h' : R.ok D.non = R.ok d := h
      injection h' with h'
      subst h'
      exact fun σ' H' O' E' _ _ => q .non H' E'.same .non
    | bk ρ => cases h
    | ct ρ => cases h
  | ex x => rw [e1] at h; cases h
  | bad => rw [e1] at h; cases h
end
section

/-- an address of the module is not tracked -/
theorem offK (I : Inv X pins σ H s) (O : Addr → Prop) (t : ∀ a, O a → ∃ o, H a = some o ∧ Mt o) : OffK X.K O := fun a o hk z => by
  obtain ⟨u, h, _⟩ := t a z
  have := (I.bs a o (I.ok.mod.kin a o hk)).2
  rw [h] at this
  cases this
/-- f(e, ..) -/
theorem pd_call (F : FnOk X.prog X.w X.K X.mg X.base CX0 k g gd ps (spD X.K n m)) (hr : Room k X.A) (hm : X.mg x = some (.ref g)) (hk : PySem.W.keepIn X.K (.ref g) = true) (hb : Binds X.K gd ps []) (ha : PAD X (e :: es) f) (hl : ∀ ρ ds, f ρ = .ok ds → ds.length = n) (hg : Gl X x := by rfl) (hdb : (x == ("__debug__" : Str)) = false := by decide) (he : starEach (e :: es) X.env = (false, eval e X.env) :: starEach es X.env := by rfl) (hpl : (backTo pos (starEach es X.env)).any (·.1) = false := by rfl) :
    PD X (.Call (.Name x p) (e :: es) [] pos) (fun ρ => (f ρ).bind m) := by
  refine mkE fun pins s σ H Q I H₀ O₀ O ρ E q => ?_
  refine pe_call F hr hg hm hk hb .nil pass0 ha hdb he hpl pins s σ H Q I ⟨H₀, O₀, O, ρ, E, ?_⟩
  dsimp only at q
  cases e1 : f ρ with
  | ex z => rw [e1] at q; exact q
  | bad => rw [e1] at q; exact q
  | ok ds =>
    rw [e1, R.bind_ok] at q
    intro vs H1 s1 r1
    rw [List.append_nil]
    have E1 := E.grow s1
    cases e2 : m ds with
    | ex z => rw [e2] at q; exact (q H (Same.refl _)).elim
    | bad => rw [e2] at q; exact q.elim
    | ok d =>
      rw [e2] at q
      refine ⟨O, ds, d, r1, hl ρ ds e1, E1.trk, E1.tab, ?_, e2, fun v H' s2 r2 => q v H' (s1.trans s2) r2⟩
      exact offK I O E.trk
end
end DL

namespace DL
open PySem PySem.Spec L2
open PyProof.Rows hiding St
variable [Tabs]

/-! ### the closure of a comprehension -/
def clL (env : Env) : List (Str × NameKind) → List (Str × Addr) → List (Str × Addr)
  | [], acc => acc
  | (n, k) :: r, acc => clL env r (if k = .free then (n, (env.cells.lookup n).getD 0) :: acc else acc)
theorem closureFor_eq (h : ∀ y ∈ scope.names, y.2 = .free → ∃ c, env.cells.lookup y.1 = some c) : closureFor scope env = pure (clL env scope.names []) := by
  have go : ∀ (names : List (Str × NameKind)) (acc : List (Str × Addr)), (∀ y ∈ names, y.2 = .free → ∃ c, env.cells.lookup y.1 = some c) →
      (forIn names acc fun (x : Str × NameKind) (r : List (Str × Addr)) => (match x with
        | (name, kind) => if (kind == NameKind.free) = true then (do let a ← cellOf env name; pure (ForInStep.yield ((name, a) :: r))) else pure (ForInStep.yield r) : Sem (ForInStep (List (Str × Addr))))) = pure (clL env names acc) := by
    intro names
    induction names with
    | nil => intro acc _; rfl
    | cons y r ih =>
      intro acc hy
      obtain ⟨n, k⟩ := y
      rw [List.forIn_cons]
      by_cases hk : k = .free
      · subst hk
        obtain ⟨c, hc⟩ := hy (n, .free) List.mem_cons_self rfl
        have e : cellOf env n = pure c := by unfold cellOf; rw [hc]
        simp only [beq_self_eq_true, if_true, e, pure_bind]
        rw [ih _ fun z hz => hy z (List.mem_cons_of_mem _ hz)]
        simp [clL, hc]
      · have hb : (k == NameKind.free) = false := by simpa using hk
        simp only [hb, Bool.false_eq_true, if_false, pure_bind]
        rw [ih _ fun z hz => hy z (List.mem_cons_of_mem _ hz)]
        simp [clL, hk]
  have e := go scope.names [] h
  show ((forIn scope.names ([] : List (Str × Addr)) fun (x : Str × NameKind) (r : List (Str × Addr)) => (match x with
        | (name, kind) => if (kind == NameKind.free) = true then (do let a ← cellOf env name; pure (ForInStep.yield ((name, a) :: r))) else pure (ForInStep.yield r) : Sem (ForInStep (List (Str × Addr))))) >>= fun s => pure s) = _
  rw [e]
  rfl
theorem clL_some : ∀ (names : List (Str × NameKind)) (acc : List (Str × Addr)) {x : Str} {c : Addr}, (∀ y ∈ names, y.2 = .free → ∃ c, env.cells.lookup y.1 = some c) → (∀ x c, acc.lookup x = some c → env.cells.lookup x = some c) →
    (clL env names acc).lookup x = some c → env.cells.lookup x = some c
  | [], acc, x, c, _, ha, h => ha x c h
  | (n, k) :: r, acc, x, c, hy, ha, h => by
    refine clL_some r _ (fun y hm => hy y (List.mem_cons_of_mem _ hm)) (fun x' c' h' => ?_) h
    by_cases hk : k = .free
    · rw [if_pos hk] at h'
      obtain ⟨c0, hc⟩ := hy (n, k) List.mem_cons_self hk
      by_cases hx : x' = n
      · subst hx
        rw [List.lookup_cons_self] at h'
        rw [hc] at h'
        rw [hc]
        exact h'
      · rw [List.lookup_cons, beq_eq_false_iff_ne.mpr hx] at h'
        exact ha x' c' h'
    · rw [if_neg hk] at h'; exact ha x' c' h'
theorem clL_has : ∀ (names : List (Str × NameKind)) (acc : List (Str × Addr)) {x : Str}, ((x, NameKind.free) ∈ names ∨ ∃ c, acc.lookup x = some c) → ∃ c, (clL env names acc).lookup x = some c
  | [], acc, x, h => by
    rcases h with h | h
    · cases h
    · exact h
  | (n, k) :: r, acc, x, h => by
    refine clL_has r _ ?_
    rcases h with h | ⟨c, h⟩
    · rcases List.mem_cons.mp h with e | h
      · cases e
        right
        rw [if_pos rfl, List.lookup_cons_self]
        exact ⟨_, rfl⟩
      · exact .inl h
    · right
      by_cases hk : k = .free
      · rw [if_pos hk, List.lookup_cons]
        cases (x == n) with
        | true => exact ⟨_, rfl⟩
        | false => exact ⟨c, h⟩
      · rw [if_neg hk]; exact ⟨c, h⟩
/-- a name of the block that is a cell or free there is free in the written scope -/
theorem relabel_free {env : Env} : ∀ {names : List (Str × NameKind)} {x : Str},
    ((names.map fun (n, k) => if (k == NameKind.free && env.scope.kind == .function && env.kindOf n == some .cell) then (n, NameKind.cell) else (n, k)).lookup x = some .cell ∨
      (names.map fun (n, k) => if (k == NameKind.free && env.scope.kind == .function && env.kindOf n == some .cell) then (n, NameKind.cell) else (n, k)).lookup x = some .free) → (x, NameKind.free) ∈ names ∨ names.lookup x = some .cell
  | [], _, h => by rcases h with h | h <;> cases h
  | (n, k) :: r, x, h => by
    have ih := @relabel_free env r x
    rw [List.map_cons] at h
    dsimp only at h
    by_cases hx : x = n
    · subst hx
      by_cases hk : (k == NameKind.free && env.scope.kind == .function && env.kindOf x == some .cell) = true
      · have kf : k = .free := by
          rw [Bool.and_eq_true, Bool.and_eq_true] at hk
          simpa using hk.1.1
        subst kf; exact .inl List.mem_cons_self
      · rw [if_neg hk, List.lookup_cons_self] at h
        rcases h with h | h
        · right; rw [List.lookup_cons_self]; exact h
        · have : k = .free := Option.some.inj h
          subst this; exact .inl List.mem_cons_self
    · have h' : (r.map fun (n, k) => if (k == NameKind.free && env.scope.kind == .function && env.kindOf n == some .cell) then (n, NameKind.cell) else (n, k)).lookup x = some .cell ∨
          (r.map fun (n, k) => if (k == NameKind.free && env.scope.kind == .function && env.kindOf n == some .cell) then (n, NameKind.cell) else (n, k)).lookup x = some .free := by
        by_cases hk : (k == NameKind.free && env.scope.kind == .function && env.kindOf n == some .cell) = true
        · rw [if_pos hk, List.lookup_cons, beq_eq_false_iff_ne.mpr hx] at h; exact h
        · rw [if_neg hk, List.lookup_cons, beq_eq_false_iff_ne.mpr hx] at h; exact h
      rcases ih h' with h | h
      · exact .inl (List.mem_cons_of_mem _ h)
      · right; rw [List.lookup_cons, beq_eq_false_iff_ne.mpr hx]; exact h
/-- the cells that a block has of its own -/
theorem cells_of : ∀ (names : List (Str × NameKind)) (h : Heap) (acc : List (Str × Addr)) {x : Str} {c : Addr}, (cellsFrom h.objs.size names acc).lookup x = some c → acc.lookup x = some c ∨ ((pushCells h names).IsCell c none ∧ h.objs.size ≤ c)
  | [], h, acc, x, c, e => .inl e
  | (n, k) :: r, h, acc, x, c, e => by
    unfold cellsFrom at e
    unfold pushCells
    split at e
    · rename_i hk
      rw [if_pos hk]
      rcases cells_of r (h.push { cls := .type "cell", data := .cell none }) ((n, h.objs.size) :: acc) (x := x) (c := c) (by rw [Heap.size_push]; exact e) with h1 | ⟨h1, h2⟩
      · rw [List.lookup_cons] at h1
        cases hx : (x == n) with
        | true =>
          rw [hx] at h1
          have e' : h.objs.size = c := Option.some.inj h1
          subst e'
          exact .inr ⟨⟨_, pushCells_keeps _ _ _ _ (Heap.get?_push_size _ rfl), rfl⟩, Nat.le_refl _⟩
        | false => rw [hx] at h1; exact .inl h1
      · exact .inr ⟨h1, by rw [Heap.size_push] at h2; exact Nat.le_of_succ_le h2⟩
    · rename_i hk
      rw [if_neg hk]
      exact cells_of r h acc e
theorem cells_low : ∀ (names : List (Str × NameKind)) (n : Nat) (acc : List (Str × Addr)) {x : Str} {c : Addr}, (cellsFrom n names acc).lookup x = some c → acc.lookup x = some c ∨ n ≤ c
  | [], n, acc, x, c, e => .inl e
  | (m, k) :: r, n, acc, x, c, e => by
    unfold cellsFrom at e
    split at e
    · rcases cells_low r (n + 1) _ e with h1 | h1
      · rw [List.lookup_cons] at h1
        cases hx : (x == m) with
        | true => rw [hx] at h1; exact .inr (Nat.le_of_eq (Option.some.inj h1))
        | false => rw [hx] at h1; exact .inl h1
      · exact .inr (Nat.le_of_succ_le h1)
    · exact cells_low r n acc e
theorem cells_ge : ∀ (names : List (Str × NameKind)) (n : Nat) (acc : List (Str × Addr)) {x : Str} {c : Addr}, (x, NameKind.cell) ∈ names → (cellsFrom n names acc).lookup x = some c → n ≤ c
  | [], n, acc, x, c, hm, e => nomatch hm
  | (m, k) :: r, n, acc, x, c, hm, e => by
    unfold cellsFrom at e
    rcases List.mem_cons.mp hm with hm | hm
    · cases hm
      rw [if_pos (show (NameKind.cell == NameKind.cell) = true from rfl)] at e
      rcases cells_low r (n + 1) _ e with h1 | h1
      · rw [List.lookup_cons_self] at h1; exact Nat.le_of_eq (Option.some.inj h1)
      · exact Nat.le_of_succ_le h1
    · split at e
      · exact Nat.le_of_succ_le (cells_ge r (n + 1) _ hm e)
      · exact cells_ge r n acc hm e
theorem cells_ne : ∀ (names : List (Str × NameKind)) (n : Nat) (acc : List (Str × Addr)) {x : Str}, (x, NameKind.cell) ∉ names → (cellsFrom n names acc).lookup x = acc.lookup x
  | [], n, acc, x, _ => rfl
  | (m, k) :: r, n, acc, x, hm => by
    unfold cellsFrom
    split
    · rename_i hk
      rw [cells_ne r (n + 1) _ fun z => hm (List.mem_cons_of_mem _ z), List.lookup_cons]
      cases hx : (x == m) with
      | true =>
        have e1 : x = m := by simpa using hx
        have e2 : k = .cell := by simpa using hk
        exact absurd (by rw [e1, e2]; exact List.mem_cons_self) hm
      | false => rfl
    · exact cells_ne r n acc fun z => hm (List.mem_cons_of_mem _ z)
theorem cells_inj : ∀ (names : List (Str × NameKind)) (n : Nat) (acc : List (Str × Addr)), (∀ x c, acc.lookup x = some c → c < n) → (∀ x y c, acc.lookup x = some c → acc.lookup y = some c → x = y) →
    ∀ x y c, (cellsFrom n names acc).lookup x = some c → (cellsFrom n names acc).lookup y = some c → x = y
  | [], n, acc, _, h => h
  | (m, k) :: r, n, acc, hl, h => by
    unfold cellsFrom
    split
    · refine cells_inj r (n + 1) _ (fun x c e => ?_) fun x y c e1 e2 => ?_
      · rw [List.lookup_cons] at e
        cases hx : (x == m) with
        | true => rw [hx] at e; rw [← Option.some.inj e]; exact Nat.lt_succ_self _
        | false => rw [hx] at e; exact Nat.lt_succ_of_lt (hl x c e)
      · rw [List.lookup_cons] at e1 e2
        cases hx : (x == m) with
        | true =>
          rw [hx] at e1
          cases hy : (y == m) with
          | true => rw [show x = m by simpa using hx, show y = m by simpa using hy]
          | false => rw [hy] at e2; rw [← Option.some.inj e1] at e2; exact absurd (hl y _ e2) (Nat.lt_irrefl _)
        | false =>
          rw [hx] at e1
          cases hy : (y == m) with
          | true => rw [hy] at e2; rw [← Option.some.inj e2] at e1; exact absurd (hl x _ e1) (Nat.lt_irrefl _)
          | false => rw [hy] at e2; exact h x y c e1 e2
    · exact cells_inj r n acc hl h
/-- a block's names: those of the closure and its own cells -/
abbrev blkC (X : Cx) (scope : Scope) (C : Addr) : List (Str × Addr) := cellsFrom (C + 1) scope.names (clL X.env scope.names [])
theorem new_block {E : Value → Shared → Prop} {Q : Env → Shared → Prop} (hQ : Q (newEnv scope s.heap.objs.size g (cellsFrom (s.heap.objs.size + 1) scope.names cl) q none .none (some env) builtinsNs) { s with heap := pushCells (s.heap.push { cls := .type "dict", data := .dict #[] }) scope.names }) :
    wpAny M A (newFunctionEnv scope g cl [] q none .none (some env)) Q E s := by
  simp only [newFunctionEnv, Option.isSome_some, if_true]
  refine wpAny_bind (wpAny_alloc ?_)
  refine wpAny_bind (wpAny_layCells _ (fun name kind cells => by cases hkc : kind == NameKind.cell <;> simp [hkc]) _ _ _ _ ?_)
  rw [show ({ s with heap := s.heap.push { cls := .type "dict", data := .dict #[] } } : Shared).heap.objs.size = s.heap.objs.size + 1 from Heap.size_push ..]
  exact wpAny_bind (wpAny_pure (wpAny_pure hQ))

/-! ### the loop of a comprehension, any target, any tests -/
theorem comp_loop {R : Result → Shared → Prop} (I : Nat → Shared → Prop) (turn : ∀ n s, I n s → wpAny (model prog w) A (pyNext it) (fun r s₁ => match r with
      | none => R (.ok .next) s₁
      | some v => wpAny (model prog w) A (letOwnedTupleGo target it v) (fun _ s₁' => wpAny (model prog w) A (assign target env v) (fun _ s₂ =>
          wpAny (model prog w) A (forIn ifs true fun c r => if r = true then do let ok ← isTrue c env (eval c env); pure (ForInStep.yield ok) else pure (ForInStep.yield r)) (fun ok s₃ =>
            if ok = true then wpAny (model prog w) A (eval elt env) (fun x s₄ =>
              wpAny (model prog w) A (call (.builtin "list.append") [acc, x]) (fun _ s₅ => ∃ m, m < n ∧ I m s₅) (fun _ _ => False) s₄) (fun _ _ => False) s₃
            else ∃ m, m < n ∧ I m s₃) (fun _ _ => False) s₂) (fun _ _ => False) s₁') (fun _ _ => False) s₁) (fun _ _ => False) s) (n : Nat) (h : I n s) : codeAny (model prog w) A (.compLoop (.ListComp elt [⟨target, iter, ifs, 0⟩] scope pos) 0 it acc env) R s := by
  refine codeAny_loop rfl I (fun n s hI => ?_) n h
  show wpAny _ A ((compTurn (.ListComp elt [⟨target, iter, ifs, 0⟩] scope pos) 0 it acc env).onRaise (fun x => do noteFrame x env; theTreesLotGoes x)) _ _ s
  refine wpAny_noted ?_
  rw [compTurn_list]
  refine wpAny_bind (wpAny_standAt (wpAny_bind (wpAny_mono (turn n s hI) (fun r s₁ h₁ => ?_) fun _ _ h' => h'.elim)))
  cases r with
  | none => exact wpAny_pure h₁
  | some v =>
    refine wpAny_bind (wpAny_mono h₁ (fun _ s₁' h₁' => ?_) fun _ _ h' => h'.elim)
    refine wpAny_bind (wpAny_mono h₁' (fun _ s₂ h₂ => wpAny_bind (wpAny_mono h₂ (fun ok s₃ h₃ => ?_) fun _ _ h' => h'.elim)) fun _ _ h' => h'.elim)
    cases ok with
    | false => exact wpAny_pure ⟨rfl, h₃⟩
    | true =>
      exact wpAny_bind (wpAny_bind (wpAny_mono h₃ (fun x s₄ h₄ => wpAny_bind (wpAny_mono h₄ (fun _ s₅ h₅ => wpAny_pure (wpAny_pure ⟨rfl, h₅⟩)) fun _ _ h' => h'.elim)) fun _ _ h' => h'.elim))

/-! ### the block -/
def cxC (X : Cx) (pins : List (Addr × Obj)) (s₀ : Shared) (H₀ : Hp) (N' : List Str) (scope : Scope) (cl : List (Str × Addr)) (C : Addr) (fp : List Addr) : Cx where
  prog := X.prog
  w := X.w
  K := X.K
  mg := X.mg
  base := X.base
  A := X.A
  N := N'
  s₀ := s₀
  H₀ := H₀
  env := compEnvC scope cl C X.env
  outer := X.stack
  stack := X.stack
  ex := fp
  fn := fun x => scope.names.lookup x == some .cell
  calm := X.calm
  pn := X.pn ++ pins
  xe := fun _ _ => False
structure CompSc (X : Cx) (scope : Scope) (own fr : List Str) (js : List Nat) : Prop where
  kind : scope.kind = .function
  apart : ∀ y ∈ scope.names, y.2 = .free → (y.1, NameKind.cell) ∉ scope.names
  names : ∀ y ∈ scope.names, y.2 = .local → scope.names.lookup y.1 = some .local
  free : ∀ y ∈ scope.names, y.2 = .free → X.env.kindOf y.1 = some .cell ∨ X.env.kindOf y.1 = some .free
  len : js.length = fr.length
  at_ : ∀ (i j : Nat) (x : Str), js[i]? = some j → fr[i]? = some x → X.N[j]? = some x ∧ (x, NameKind.free) ∈ scope.names
  nd : js.Nodup
  dis : ∀ y ∈ scope.names, y.2 = .free → scope.names.lookup y.1 = some .free
/-- a name's own list is not seen in a block -/
def seen : Sl → Sl
  | .v d => .v d
  | _ => .no
def blockEv (own : List Str) (js : List Nat) (ρ : Ev) : Ev := List.replicate own.length Sl.no ++ js.map fun j => seen (ρ.getD j Sl.no)
theorem seen_v (h : seen sl = .v d) : sl = .v d := by
  cases sl with
  | v x => exact h
  | no => cases h
  | o x => cases h
  | x C => cases h
  | c m φ => cases h
  | d kvs => cases h
theorem seen_x (h : seen sl = .x C) : False := by
  cases sl <;> cases h
theorem seen_o (h : seen sl = .o d) : False := by
  cases sl <;> cases h
def blockSt (own : List Str) (js : List Nat) (σ : St) : St := List.replicate own.length none ++ js.map fun j => σ.getD j none
theorem Inv.has_cells (I : L2.Inv X pins σ H s) (S : CompSc X scope own fr js) : ∀ y ∈ scope.names, y.2 = .free → ∃ c, X.env.cells.lookup y.1 = some c :=
  fun y hy hf => I.ok.has y.1 (S.free y hy hf)
theorem block_slot (h : (blockEv own js ρ)[i]? = some sl) : sl = .no ∨ ∃ d j, sl = .v d ∧ own.length ≤ i ∧ js[i - own.length]? = some j ∧ ρ[j]? = some (.v d) := by
  unfold blockEv at h
  by_cases hi : i < own.length
  · rw [List.getElem?_append_left (by simpa using hi), List.getElem?_replicate, if_pos hi] at h
    cases h; exact .inl rfl
  · have hi' : own.length ≤ i := Nat.le_of_not_lt hi
    rw [List.getElem?_append_right (by simpa using hi'), List.length_replicate, List.getElem?_map] at h
    cases e : js[i - own.length]? with
    | none => rw [e] at h; cases h
    | some j =>
      rw [e] at h
      have h' : seen (ρ.getD j Sl.no) = sl := Option.some.inj h
      rw [List.getD_eq_getElem?_getD] at h'
      cases e2 : ρ[j]? with
      | none => rw [e2] at h'; subst h'; exact .inl rfl
      | some z =>
        rw [e2] at h'
        cases z with
        | v d => subst h'; exact .inr ⟨d, j, rfl, hi', rfl, e2⟩
        | _ => subst h'; exact .inl rfl
theorem env_block {K : PySem.W.Frag} {H₀ H : Hp} {O₀ O : Addr → Prop} {σ : St} {ρ : Ev} {own : List Str} {js : List Nat} (E : EnvOk K H₀ O₀ H O σ ρ) : EnvOk K H₀ O₀ H O (blockSt own js σ) (blockEv own js ρ) := by
  refine ⟨by simp [blockSt, blockEv], E.same, E.sub, E.trk, E.trk₀, E.tab, fun i sl h => ?_, fun i j x y a h1 h2 o => ?_⟩
  · rcases block_slot h with rfl | ⟨d, j, rfl, hi', e, h1⟩
    · trivial
    · obtain ⟨v, h3, h4⟩ := E.val j d h1
      refine ⟨v, ?_, h4⟩
      unfold blockSt
      rw [List.getElem?_append_right (by simpa using hi'), List.length_replicate, List.getElem?_map, e]
      show some (σ.getD j none) = some (some v)
      rw [List.getD_eq_getElem?_getD, h3]
      rfl
  · rcases block_slot h1 with rfl | ⟨d, j, rfl, _⟩
    · exact o.elim
    · exact o.elim
/-- the block's invariant at its entry -/
theorem inv_block (I : L2.Inv X pins σ H s) (S : CompSc X scope own fr js) (hfp : ∀ b ∈ fp, FpOk X pins H b) (hlt : ∀ b ∈ fp, b < s.heap.objs.size) (e₁ : h₁ = pushCells (s.heap.push { cls := .type "dict", data := .dict #[] }) scope.names) :
    L2.Inv (cxC X pins s H (own ++ fr) scope (blkC X scope s.heap.objs.size) s.heap.objs.size fp) [] (blockSt own js σ) H { s with heap := h₁, toks := tk } := by
  have hcells := Inv.has_cells I S
  have keep : ∀ b o, s.heap.get? b = some o → h₁.get? b = some o := fun b o e => by rw [e₁]; exact pushCells_keeps _ _ _ _ (Heap.get?_push_of_some _ e)
  have hns : h₁.Ns s.heap.objs.size (fun _ => none) := by rw [e₁]; exact (Heap.Ns.new s.heap (.type "dict")).keeps (pushCells_keeps _ _)
  have cc : ∀ x c, (blkC X scope s.heap.objs.size).lookup x = some c → (clL X.env scope.names []).lookup x = some c ∨ (h₁.IsCell c none ∧ s.heap.objs.size + 1 ≤ c) := fun x c h => by
    have := cells_of scope.names (s.heap.push { cls := .type "dict", data := .dict #[] }) (clL X.env scope.names []) (x := x) (c := c) (by rw [Heap.size_push]; exact h)
    rw [Heap.size_push, ← e₁] at this
    exact this
  have cell_of : ∀ x c, (clL X.env scope.names []).lookup x = some c → X.env.cells.lookup x = some c := fun x c h => clL_some scope.names [] hcells (fun _ _ z => (by cases z)) h
  have base_lt : ∀ b o, X.base.get? b = some o → b ∉ fp := fun b o e hb => by
    rcases (hfp b hb).2.2.2.1 with z | z
    · exact I.ok.noex b o e z
    · exact absurd (Nat.lt_of_lt_of_le (Heap.lt_size e) (Nat.le_trans I.ok.bsz z)) (Nat.lt_irrefl _)
  have nfs : ∀ b ∈ fp, b ∉ frs X.stack := fun b hb z => by
    rcases List.mem_cons.mp (I.stkSub b z) with e | z
    · exact (hfp b hb).2.1 e
    · exact (hfp b hb).2.2.1 z
  have old_lt : ∀ x c, X.env.cells.lookup x = some c → c < s.heap.objs.size + 1 := fun x c h => by
    obtain ⟨v, o, ho, _⟩ := I.cell x c h
    exact Nat.lt_succ_of_lt (Heap.lt_size ho)
  have has : ∀ x, ((relabel scope X.env).names.lookup x = some .cell ∨ (relabel scope X.env).names.lookup x = some .free) → ∃ c, (blkC X scope s.heap.objs.size).lookup x = some c := fun x hx => by
    have : ((blkC X scope s.heap.objs.size).lookup x).isSome = true := PySem.W.cellsFrom_some _ _ _ (by
      rcases relabel_free hx with h | h
      · obtain ⟨c, hc⟩ := clL_has (env := X.env) scope.names [] (x := x) (.inl h)
        exact .inr (by rw [hc]; rfl)
      · exact .inl h)
    exact Option.isSome_iff_exists.mp this
  refine ⟨⟨I.ok.mod, S.kind, I.ok.glob, I.ok.blt, Nat.le_refl _, cells_inj scope.names _ _ (fun x c h => old_lt x c (cell_of x c h)) (fun x y c h1 h2 => I.ok.inj x y c (cell_of x c h1) (cell_of y c h2)), has, fun x c hf h => Nat.le_of_succ_le (cells_ge scope.names _ _ (PySem.mem_of_lookup (eq_of_beq hf)) h), I.ok.hd, I.ok.frames, .inl rfl,
    fun b hb => ⟨Nat.ne_of_lt (hlt b hb), fun x c h => (cc x c h).elim (fun h => (hfp b hb).2.2.2.2.1 x c (cell_of x c h)) fun ⟨_, h2⟩ z => absurd (Nat.lt_of_lt_of_le (hlt b hb) (Nat.le_of_succ_le h2)) (by rw [z]; exact Nat.lt_irrefl _)⟩, I.bs, Nat.le_trans I.ok.bsz I.sz, fun b o e => base_lt b o e, nfs, I.stack, I.stkFree⟩, rfl, I.bare, Un.kept keep, ⟨_, hns, fun i x v e1 e2 e3 => ?_⟩, fun x c h => ?_, I.hok.fresh (Nat.le_refl _), fun x c h => (cc x c h).elim (fun h => I.freeC x c (cell_of x c h)) fun ⟨_, h2⟩ => I.hok.fresh (Nat.le_of_succ_le h2), fun p hp => ?_, I.hok.kept keep, ?_⟩
  · -- the names that are seen
    have hlen : (own ++ fr).length = (blockSt own js σ).length := by simp [blockSt, S.len]
    unfold blockSt at e2
    by_cases hi : i < own.length
    · rw [List.getElem?_append_left (by simpa using hi), List.getElem?_replicate, if_pos hi] at e2
      cases e2
    · have hi' : own.length ≤ i := Nat.le_of_not_lt hi
      rw [List.getElem?_append_right (by simpa using hi'), List.length_replicate, List.getElem?_map] at e2
      have e1' : (own ++ fr)[i]? = some x := e1
      rw [List.getElem?_append_right hi'] at e1'
      cases e : js[i - own.length]? with
      | none => rw [e] at e2; cases e2
      | some j =>
        rw [e] at e2
        have e2' : σ.getD j none = some v := Option.some.inj e2
        obtain ⟨hN, hfree⟩ := S.at_ (i - own.length) j x e e1'
        have hσ : σ[j]? = some (some v) := by
          rw [List.getD_eq_getElem?_getD] at e2'
          cases e4 : σ[j]? with
          | none => rw [e4] at e2'; cases e2'
          | some z => rw [e4] at e2'; exact congrArg some e2'
        have hk := S.free (x, .free) hfree rfl
        have hvis : Vis X.env.scope x := .inr hk
        obtain ⟨m, hn, hl⟩ := I.loc
        obtain ⟨u, r, lk⟩ := hl j x v hN hσ hvis
        refine ⟨u, r, ?_⟩
        rcases lk with ⟨hk', _⟩ | ⟨_, c, hc, hcell⟩
        · rcases hk with hk | hk <;> (rw [hk'] at hk; cases hk)
        · right
          obtain ⟨c', hc'⟩ := clL_has (env := X.env) scope.names [] (x := x) (.inl hfree)
          have := cell_of x c' hc'
          rw [hc] at this; cases this
          refine ⟨?_, c, (cells_ne scope.names _ _ (S.apart (x, .free) hfree rfl)).trans hc', ?_⟩
          · rcases e3 with e3 | e3 | e3
            · -- local there: not so
              have hq : (relabel scope X.env).names.lookup x = some .local := e3
              exfalso
              -- its first entry is local, and it is free: names tells that a local is looked up as local
              have : ∀ names : List (Str × NameKind), (names.map fun (n, k) => if (k == NameKind.free && X.env.scope.kind == .function && X.env.kindOf n == some .cell) then (n, NameKind.cell) else (n, k)).lookup x = some .local → names.lookup x = some .local := by
                intro names
                induction names with
                | nil => intro h; cases h
                | cons y r ih =>
                  obtain ⟨n, k⟩ := y
                  intro h
                  rw [List.map_cons] at h
                  dsimp only at h
                  by_cases hx : x = n
                  · subst hx
                    by_cases hkk : (k == NameKind.free && X.env.scope.kind == .function && X.env.kindOf x == some .cell) = true
                    · rw [if_pos hkk, List.lookup_cons_self] at h; cases h
                    · rw [if_neg hkk, List.lookup_cons_self] at h
                      rw [List.lookup_cons_self]; exact h
                  · rw [List.lookup_cons, beq_eq_false_iff_ne.mpr hx]
                    by_cases hkk : (k == NameKind.free && X.env.scope.kind == .function && X.env.kindOf n == some .cell) = true
                    · rw [if_pos hkk, List.lookup_cons, beq_eq_false_iff_ne.mpr hx] at h; exact ih h
                    · rw [if_neg hkk, List.lookup_cons, beq_eq_false_iff_ne.mpr hx] at h; exact ih h
              have h2 := this scope.names hq
              rw [S.dis (x, .free) hfree rfl] at h2
              cases h2
            · exact .inl e3
            · exact .inr e3
          · obtain ⟨o, ho, hd⟩ := hcell
            exact ⟨o, keep c o ho, hd⟩
  · rcases cc x c h with h | ⟨h, _⟩
    · obtain ⟨v, o, ho, hd⟩ := I.cell x c (cell_of x c h)
      exact ⟨v, o, keep c o ho, hd⟩
    · exact ⟨_, h⟩
  · have hp' : p ∈ X.pn ++ pins := by simpa [cxC] using hp
    obtain ⟨e, n, ne, nf, d⟩ := I.pin p hp'
    refine ⟨keep _ _ e, n, Nat.ne_of_lt (Heap.lt_size e), fun z => ?_, d⟩
    rcases List.mem_cons.mp (I.stkSub p.1 z) with e' | z'
    · exact ne e'
    · exact nf z'
  · simp [blockSt, cxC, S.len]
end DL

namespace DL
open PySem PySem.Spec L2
open PyProof.Rows hiding St
variable [Tabs]

/-- a comprehension's items: every turn begins with the block's names as they were -/
def compL (G : D → Ev → R Ev) (ft : Ev → R Bool) (fe : Ev → R D) (ρ : Ev) : List D → R (List D)
  | [] => .ok []
  | d :: ds => match G d ρ with
    | .ok ρ1 => (ft ρ1).bind fun b => if b = true then (fe ρ1).bind fun r => (compL G ft fe ρ ds).bind fun rs => .ok (r :: rs) else compL G ft fe ρ ds
    | _ => .bad
/-- names forgotten -/
def Weak (ρ1 ρ : Ev) : Prop := ρ1.length = ρ.length ∧ ∀ (i : Nat) (sl : Sl), ρ[i]? = some sl → sl ≠ .no → ρ1[i]? = some sl
theorem EnvOk.weak {K : PySem.W.Frag} {H₀ H : Hp} {O₀ O : Addr → Prop} {σ : St} {ρ1 ρ : Ev} (E : EnvOk K H₀ O₀ H O σ ρ1) (h : Weak ρ1 ρ) : EnvOk K H₀ O₀ H O σ ρ where
  len := E.len.trans h.1
  same := E.same
  sub := E.sub
  trk := E.trk
  trk₀ := E.trk₀
  tab := E.tab
  slot := fun i sl e => by
    by_cases n : sl = .no
    · subst n; trivial
    · exact E.slot i sl (h.2 i _ e n)
  inj := fun i j x y a h1 h2 o1 o2 => E.inj i j x y a (h.2 i _ h1 (by rintro rfl; exact o1)) (h.2 j _ h2 (by rintro rfl; exact o2)) o1 o2
/-- a list that is laid beside: one that no name has -/
def hideA (H : Hp) (a : Addr) : Hp := fun b => if b = a then none else H b
theorem hideA_self (H : Hp) (a : Addr) : hideA H a a = none := if_pos rfl
theorem hideA_ne (h : b ≠ a) : hideA H a b = H b := if_neg h
theorem upd_hideA (h : H a = some o) : upd (hideA H a) a o = H := by
  funext b
  unfold upd hideA
  by_cases hb : b = a
  · subst hb; rw [if_pos rfl, h]
  · rw [if_neg hb, if_neg hb]
theorem EnvOk.beside {K : PySem.W.Frag} {H₀ H : Hp} {O₀ O : Addr → Prop} {σ : St} {ρ : Ev} {a : Addr} {vs : List V} (E : EnvOk K H₀ O₀ H O σ ρ) (h : H a = none) (hk : K.lookup a = none) : EnvOk K H₀ O₀ (upd H a (.lst vs)) (fun b => O b ∨ b = a) σ ρ := E.besideO h hk trivial
theorem Rep.hidden {K : PySem.W.Frag} {H : Hp} {O : Addr → Prop} {a : Addr} {vs : List V} {v : V} {d : D} (h : H a = some (.lst vs)) (r : Rep K H (fun b => O b ∨ b = a) v d) : Rep K (hideA H a) O v d := by
  refine r.mono (fun b xs q => ?_) (fun b xs n q => ⟨fun z => n (.inl z), ?_⟩) fun b φ n q => ⟨fun z => n (.inl z), by rw [hideA_ne fun z => n (.inr z)]; exact q⟩
  · rcases q with (q | ⟨o, q⟩) | q
    · exact .inl (.inl (by rw [hideA_ne (by rintro rfl; rw [h] at q; cases q)]; exact q))
    · exact .inl (.inr ⟨o, by rw [hideA_ne (by rintro rfl; rw [h] at q; cases q)]; exact q⟩)
    · exact .inr q
  · have hb : b ≠ a := fun z => n (.inr z)
    rcases q with (q | ⟨o, q⟩) | q
    · exact .inl (.inl (by rw [hideA_ne hb]; exact q))
    · exact .inl (.inr ⟨o, by rw [hideA_ne hb]; exact q⟩)
    · exact .inr q
theorem hideA_same (h : H a = none) (s : Same (upd H a (.lst vs)) H') : Same H (hideA H' a) := fun b o q => by
  have hb : b ≠ a := by rintro rfl; rw [h] at q; cases q
  rw [hideA_ne hb]
  exact s b o (by rw [upd_ne hb]; exact q)

section

/-- the tests of a comprehension -/
def PTs (X : Cx) (ifs : List Expr) (ft : Ev → R Bool) : Prop :=
  ∀ (pins : List (Addr × Obj)) (s : Shared) (σ : St) (H : Hp) (Q : Bool → Hp → Prop), Inv X pins σ H s → tDT X ft σ H Q →
    wpAny (model X.prog X.w) X.A (forIn ifs true fun c r => if r = true then do let ok ← isTrue c X.env (eval c X.env); pure (ForInStep.yield ok) else pure (ForInStep.yield r)) (TP X pins σ Q) X.xe s
theorem pts_nil : PTs X [] (fun _ => .ok true) := fun pins s σ H Q I ⟨H₀, O₀, O, ρ, E, q⟩ => wpAny_tests_nil ⟨H, I, q H (Same.refl _)⟩
theorem pts_one (h : PTD X c ft) : PTs X [c] ft := fun pins s σ H Q I q => wpAny_tests_one (h pins s σ H Q I q)

/-- the block runs: from an iterator to the list -/
theorem comp_run {tg elt iter : Expr} {ifs : List Expr} {scope : Scope} {own fr : List Str} {js : List Nat} {G : D → Ev → R Ev} {ft : Ev → R Bool} {fe : Ev → R D} {pins : List (Addr × Obj)} {σ : St} {H : Hp} {s : Shared} {H₀ : Hp} {O₀ O : Addr → Prop} {ρ : Ev}
    {it : Addr} {fp : List Addr} {tn : Nat → Heap → Prop} {J : It} {ds rs : List D} {RR : Value → Addr → Result → Shared → Prop} {EE : Value → Shared → Prop} (hc : X.calm = true) (S : CompSc X scope own fr js)
    (hX : ∀ X' : Cx, (∃ s₀ H₁ C, X' = cxC X pins s₀ H₁ (own ++ fr) scope (blkC X scope C) C fp) → PGD X' tg G ∧ PTs X' ifs ft ∧ PD X' elt fe)
    (hG : ∀ d ρ1, G d (blockEv own js ρ) = .ok ρ1 → Weak ρ1 (blockEv own js ρ))
    (I : Inv X pins σ H s) (T : Turn X.prog X.w X.K tg J fp it tn) (st : tn 0 s.heap) (hfp : ∀ b ∈ fp, FpOk X pins H b) (E : EnvOk X.K H₀ O₀ H O σ ρ) (hJ : ItD X.K J H O ds) (hrs : compL G ft fe (blockEv own js ρ) ds = .ok rs) (hlen : ds.length ≤ sizeLine)
    (fin : ∀ acc C s' H' m, s'.heap.Ns C m → C ≠ acc → s.heap.objs.size ≤ C → s.heap.objs.size ≤ acc → Same H H' → Rep X.K H' O (.ref acc) (.lst rs) → (∃ H1 vs, Same H H1 ∧ H1 acc = none ∧ H' = upd H1 acc (.lst vs) ∧ Reps X.K H1 O vs rs) → H' C = none → (∀ h', Heap.SameBut C s'.heap h' → Inv X pins σ H' { s' with heap := h' }) → RR (.ref acc) C (.ok .next) s') :
    wpAny (model X.prog X.w) X.A (newList []) (fun acc s₃ => wpAny (model X.prog X.w) X.A (newFunctionEnv scope X.env.globals (clL X.env scope.names []) [] X.env.qual none .none (some X.env)) (fun cenv s₄ =>
      codeAny (model X.prog X.w) X.A (.compStart (.ListComp elt [⟨tg, iter, ifs, 0⟩] scope pos) 0 (.ref it) acc { cenv with scope := relabel scope X.env }) (RR acc cenv.locals) s₄) EE s₃) EE s := by
  have hO := offK I O E.trk
  refine wpAny_newObj_type ?_
  -- the list that grows
  have hfr : H s.heap.objs.size = none := I.hok.fresh (Nat.le_refl _)
  have hkl : X.K.lookup s.heap.objs.size = none := by
    cases e : X.K.lookup s.heap.objs.size with
    | none => rfl
    | some o => exact absurd (Heap.lt_size (I.kIn _ o e)) (Nat.lt_irrefl _)
  have I1 : Inv X pins σ (upd H s.heap.objs.size (.lst [])) { s with heap := s.heap.push { cls := .type "list", dict := none, data := .seq ([] : List Value).toArray } } :=
    I.laid (t' := s.toks) (fun b u e => Heap.get?_push_of_some _ e) (Nat.le_refl _) ⟨Nat.zero_le _, [], 0, .nil, Heap.get?_push_size _ rfl⟩
  generalize hacc : s.heap.objs.size = acc at *
  generalize hs1 : ({ s with heap := s.heap.push { cls := .type "list", dict := none, data := .seq ([] : List Value).toArray } } : Shared) = s1 at I1 ⊢
  have sz1 : s1.heap.objs.size = acc + 1 := by rw [← hs1, ← hacc]; exact Heap.size_push _ _
  have keep1 : ∀ b o, s.heap.get? b = some o → s1.heap.get? b = some o := fun b o e => by rw [← hs1]; exact Heap.get?_push_of_some _ e
  have fplt : ∀ b ∈ fp, b < acc := fun b hb => by
    obtain ⟨o, e, _⟩ := T.obj 0 _ st b hb
    rw [← hacc]; exact Heap.lt_size e
  have hfp1 : ∀ b ∈ fp, FpOk X pins (upd H acc (.lst [])) b := fun b hb => by
    obtain ⟨f0, f⟩ := hfp b hb
    exact ⟨by rw [upd_ne (Nat.ne_of_lt (fplt b hb))]; exact f0, f⟩
  refine new_block ?_
  obtain ⟨h₁, e₁⟩ : ∃ h₁, pushCells (s1.heap.push { cls := .type "dict", data := .dict #[] }) scope.names = h₁ := ⟨_, rfl⟩
  rw [e₁]
  have keep2 : ∀ b o, s1.heap.get? b = some o → h₁.get? b = some o := fun b o e => by rw [← e₁]; exact pushCells_keeps _ _ _ _ (Heap.get?_push_of_some _ e)
  have IB := inv_block (tk := s1.toks) I1 S hfp1 (fun b hb => by rw [sz1]; exact Nat.lt_succ_of_lt (fplt b hb)) e₁.symm
  generalize hC : s1.heap.objs.size = C at *
  obtain ⟨hG', hT', hE'⟩ := hX _ ⟨s1, upd H acc (.lst []), C, rfl⟩
  generalize hX' : cxC X pins s1 (upd H acc (.lst [])) (own ++ fr) scope (blkC X scope C) C fp = X' at IB hG' hT' hE'
  have eP : X'.prog = X.prog := by rw [← hX']; rfl
  have eW : X'.w = X.w := by rw [← hX']; rfl
  have eK : X'.K = X.K := by rw [← hX']; rfl
  have eA : X'.A = X.A := by rw [← hX']; rfl
  have eC : X'.calm = true := by rw [← hX']; exact hc
  have eX : X'.xe = fun _ _ => False := by rw [← hX']; rfl
  have eE : X'.env = compEnvC scope (blkC X scope C) C X.env := by rw [← hX']; rfl
  have eX0 : X'.ex = fp := by rw [← hX']; rfl
  have ePn : X'.pn = X.pn ++ pins := by rw [← hX']; rfl
  have eFs : X'.fs = frs X.stack := by rw [← hX']; rfl
  have eS0 : X'.s₀ = s1 := by rw [← hX']; rfl
  have eH0 : X'.H₀ = upd H acc (.lst []) := by rw [← hX']; rfl
  have eL : X'.env.locals = C := by rw [eE]; rfl
  have eCe : X'.env.cells = blkC X scope C := by rw [eE]; rfl
  have I2of := IB
  have cell_ne : ∀ b ∈ fp, ∀ x c, X'.env.cells.lookup x = some c → c ≠ b := fun b hb x c h => (I2of.ok.exf b (by rw [eX0]; exact hb)).2 x c h
  have accC : acc ≠ C := by rw [sz1]; exact Nat.ne_of_lt (Nat.lt_succ_self _)
  have fpC : ∀ b ∈ fp, b ≠ C := fun b hb => by have h1 := fplt b hb; rw [sz1]; exact Nat.ne_of_lt (Nat.lt_succ_of_lt h1)
  have fpB : ∀ {H' : Hp}, (∀ b ∈ fp, H' b = none) → ∀ b ∈ fp, FpOk X' [] H' b := fun {H'} hn b hb => by
    obtain ⟨f0, f1, f2, f3, f4, f5⟩ := hfp b hb
    refine ⟨hn b hb, by rw [eL]; exact fpC b hb, ?_, .inl (by rw [eX0]; exact hb), fun x c h => cell_ne b hb x c h, fun p hp => f5 p (by rw [ePn, List.append_nil] at hp; exact hp)⟩
    rw [eFs]
    intro z
    rcases List.mem_cons.mp (I.stkSub b z) with e | z
    · exact f1 e
    · exact f2 z
  -- one turn's invariant
  have st1 : tn 0 h₁ := T.keep 0 s.heap h₁ st fun b hb o e => keep2 b o (keep1 b o e)
  let Iv : Nat → Shared → Prop := fun n s' => ∃ i σ' Hx vs rd, n = ds.length - i ∧ i ≤ ds.length ∧ Inv X' [] σ' (upd Hx acc (.lst vs)) s' ∧ Hx acc = none ∧ tn i s'.heap ∧ (∀ b ∈ fp, Hx b = none) ∧ EnvOk X.K H₀ O₀ Hx O σ' (blockEv own js ρ) ∧ Same H Hx ∧
    Reps X.K Hx O vs rd ∧ (∃ rest, compL G ft fe (blockEv own js ρ) (ds.drop i) = .ok rest ∧ rs = rd ++ rest) ∧ vs.length ≤ i
  have loop : codeAny (model X.prog X.w) X.A (.compLoop (.ListComp elt [⟨tg, iter, ifs, 0⟩] scope pos) 0 (.ref it) (.ref acc) (compEnvC scope (blkC X scope C) C X.env)) (RR (.ref acc) C) { s1 with heap := h₁ } := by
    refine comp_loop Iv ?_ ds.length ⟨0, _, H, [], [], by simp, Nat.zero_le _, IB, hfr, st1, fun b hb => (hfp b hb).1, env_block E, Same.refl H, .nil, ⟨rs, by rw [List.drop_zero]; exact hrs, rfl⟩, Nat.zero_le _⟩
    rintro n s2 ⟨i, σ2, Hx, vs, rd, rfl, hi, I2, hxa, st2, fx2, E2, sm2, r2, ⟨rest, hrest, hrs2⟩, hvl⟩
    have fr2 : ∀ b ∈ fp, (upd Hx acc (.lst vs)) b = none := fun b hb => by rw [upd_ne (Nat.ne_of_lt (fplt b hb))]; exact fx2 b hb
    have sU := same_upd hxa (.lst vs)
    have hit := hJ (upd Hx acc (.lst vs)) (fun b => O b ∨ b = acc) (fun b o q n => ⟨sU b o (sm2 b o q), fun z => z.elim n fun z => by subst z; rw [hfr] at q; cases q⟩) (fun a o q z => z.elim (hO a o q) fun z => by subst z; rw [hkl] at q; cases q) E.trk
      (fun a z => (E2.beside (vs := vs) hxa hkl).trk a z) i
    by_cases hlt : i < ds.length
    · obtain ⟨go, yl⟩ := hit.1 ds[i] (List.getElem?_eq_getElem hlt)
      rw [List.drop_eq_getElem_cons hlt, compL] at hrest
      have hnext := T.item X' eP eW eK eC i [] s2 σ2 _ (fun _ _ => False) I2 (fpB fr2) st2 go
      rw [eA] at hnext
      refine thn hnext fun r s3 ⟨u, hr, h3⟩ => ?_
      subst hr
      refine thn h3 fun _ s4 ⟨x, H4, I4, ru, y4, st4, fr4⟩ => ?_
      obtain ⟨sm4, rep4⟩ := yl x H4 y4
      cases e1 : G ds[i] (blockEv own js ρ) with
      | ex z => rw [e1] at hrest; cases hrest
      | bad => rw [e1] at hrest; cases hrest
      | ok ρ1 =>
        rw [e1] at hrest
        dsimp only at hrest
        have EB : EnvOk X.K H₀ O₀ H4 (fun b => O b ∨ b = acc) σ2 (blockEv own js ρ) := (E2.beside hxa hkl).grow sm4
        have I4' := I4.pinned (fpB fr4) (T.obj _ _ st4)
        -- behind the turn
        have again : ∀ {s7 : Shared} {σ7 : St} {H7 : Hp} {vs7 : List V} {rd7 : List D} {rest7 : List D}, Inv X' ([] ++ pinsAt fp s4.heap) σ7 H7 s7 → H7 acc = some (.lst vs7) → EnvOk X.K H₀ O₀ (hideA H7 acc) O σ7 (blockEv own js ρ) → Same H (hideA H7 acc) → Reps X.K (hideA H7 acc) O vs7 rd7 →
            compL G ft fe (blockEv own js ρ) (ds.drop (i + 1)) = .ok rest7 → rs = rd7 ++ rest7 → vs7.length ≤ i + 1 → ∃ m, m < ds.length - i ∧ Iv m s7 := fun {s7 σ7 H7 vs7 rd7 rest7} I7 h7 E7 sm7 r7 hr7 hrs7 hv7 => by
          refine ⟨ds.length - (i + 1), by omega, i + 1, σ7, hideA H7 acc, vs7, rd7, rfl, hlt, ?_, hideA_self _ _, T.keep _ _ _ st4 fun b hb o e => (I7.pin (b, o) (List.mem_append_right _ (List.mem_append_right _ (mem_pinsAt hb e)))).1, fun b hb => ?_, E7, sm7, r7, ⟨rest7, hr7, hrs7⟩, hv7⟩
          · rw [upd_hideA h7]; exact I7.unpinned
          · rw [hideA_ne (Nat.ne_of_lt (fplt b hb))]
            obtain ⟨o, e, d⟩ := T.obj _ _ st4 b hb
            exact (I7.pin (b, o) (List.mem_append_right _ (List.mem_append_right _ (mem_pinsAt hb e)))).2.1
        have hasg := hG' _ s4 σ2 H4 x u (fun σ5 H5 => Same H4 H5 ∧ EnvOk X.K H₀ O₀ H5 (fun b => O b ∨ b = acc) σ5 ρ1) I4' ru ⟨H₀, O₀, _, _, ds[i], ρ1, by rw [eK]; exact EB, by rw [eK]; exact rep4, e1, fun σ5 H5 s5 E5 => ⟨s5, by rw [eK] at E5; exact E5⟩⟩
        rw [eP, eW, eA, eE, eX] at hasg
        refine thn hasg fun _ s5 ⟨σ5, H5, I5, sm5, E5⟩ => ?_
        have hacc5 : H5 acc = some (.lst vs) := sm5 acc _ (sm4 acc _ upd_same)
        -- the test
        cases e2 : ft ρ1 with
        | ex z => rw [e2] at hrest; cases hrest
        | bad => rw [e2] at hrest; cases hrest
        | ok b =>
          rw [e2, R.bind_ok] at hrest
          have htst := hT' _ s5 σ5 H5 (fun c H6 => c = b ∧ Same H5 H6) I5 ⟨H₀, O₀, _, ρ1, by rw [eK]; exact E5, by rw [e2]; exact fun H6 s6 => ⟨rfl, s6⟩⟩
          rw [eP, eW, eA, eE, eX] at htst
          refine thn htst fun ok s6 ⟨H6, I6, hb, sm6⟩ => ?_
          subst hb
          have sm46 : Same (upd Hx acc (.lst vs)) H6 := sm4.trans (sm5.trans sm6)
          have hacc6 : H6 acc = some (.lst vs) := sm6 acc _ hacc5
          have smx6 : Same Hx (hideA H6 acc) := hideA_same hxa sm46
          have W1 : Weak ρ1 (blockEv own js ρ) := hG _ _ e1
          have Eb : ∀ {H7 : Hp}, Same H5 H7 → EnvOk X.K H₀ O₀ (hideA H7 acc) O σ5 (blockEv own js ρ) := fun {H7} s7 => by
            -- the names of the block are as they were; the loop's own are forgotten
            have E7 := (E5.grow s7).weak W1
            have h7 : H7 acc = some (.lst vs) := s7 acc _ hacc5
            refine ⟨E7.len, E2.same.trans (hideA_same hxa (sm4.trans (sm5.trans s7))), E2.sub, fun a z => ?_, E2.trk₀, E2.tab.same (hideA_same hxa (sm4.trans (sm5.trans s7))), fun j sl e => ?_, E7.inj⟩
            · obtain ⟨o, q, mt⟩ := E2.trk a z
              exact ⟨o, hideA_same hxa (sm4.trans (sm5.trans s7)) a o q, mt⟩
            · rcases block_slot e with rfl | ⟨d, _, rfl, _⟩
              · trivial
              · obtain ⟨v, h1, h2⟩ := E7.val j d e
                exact ⟨v, h1, Rep.hidden h7 h2⟩
          cases ok with
          | false =>
            rw [if_neg Bool.false_ne_true] at hrest ⊢
            exact again I6 hacc6 (Eb sm6) (sm2.trans smx6) (r2.same smx6) hrest hrs2 (Nat.le_succ_of_le hvl)
          | true =>
            rw [if_pos rfl] at hrest ⊢
            cases e3 : fe ρ1 with
            | ex z => rw [e3] at hrest; cases hrest
            | bad => rw [e3] at hrest; cases hrest
            | ok dv =>
              rw [e3, R.bind_ok] at hrest
              cases e4 : compL G ft fe (blockEv own js ρ) (ds.drop (i + 1)) with
              | ex z => rw [e4] at hrest; cases hrest
              | bad => rw [e4] at hrest; cases hrest
              | ok rest' =>
                rw [e4, R.bind_ok] at hrest
                have hrest' : dv :: rest' = rest := R.ok.inj hrest
                have helt := hE' _ s6 σ5 H6 (fun v H7 => Same H6 H7 ∧ Rep X.K H7 (fun b => O b ∨ b = acc) v dv) I6 ⟨H₀, O₀, _, ρ1, by rw [eK]; exact E5.grow sm6, by rw [e3, RC]; exact fun v H7 s7 r7 => ⟨s7, by rw [eK] at r7; exact r7⟩⟩
                rw [eP, eW, eA, eE, eX] at helt
                refine thn helt fun uv s7 ⟨v, H7, I7, ruv, sm7, r7⟩ => ?_
                have hacc7 : H7 acc = some (.lst vs) := sm7 acc _ hacc6
                have happ := mt_append (X := X') _ s7 σ5 H7 (.ref acc) [v] (.ref acc) [uv] (fun _ H8 => H8 = upd H7 acc (.lst (vs ++ [v]))) I7 rfl (.cons ruv .nil) ⟨acc, vs, v, rfl, rfl, hacc7, by omega, rfl⟩
                rw [eP, eW, eA, eX] at happ
                refine thn happ fun _ s8 ⟨_, H8, I8, _, h8⟩ => ?_
                subst h8
                have hh : hideA (upd H7 acc (.lst (vs ++ [v]))) acc = hideA H7 acc := by
                  funext b
                  unfold hideA upd
                  by_cases hb : b = acc
                  · rw [if_pos hb, if_pos hb]
                  · rw [if_neg hb, if_neg hb, if_neg hb]
                have smx7 : Same Hx (hideA H7 acc) := hideA_same hxa (sm46.trans sm7)
                refine again (vs7 := vs ++ [v]) (rd7 := rd ++ [dv]) (rest7 := rest') I8 upd_same (by rw [hh]; exact Eb (sm6.trans sm7)) (by rw [hh]; exact sm2.trans smx7) ?_ e4 (by rw [hrs2, ← hrest', List.append_assoc]; rfl) (by rw [List.length_append]; exact Nat.succ_le_succ hvl)
                rw [hh]
                exact (r2.same smx7).snoc (Rep.hidden hacc7 r7)
    · have hi' : i = ds.length := by omega
      subst hi'
      have hstop := hit.2 (by simp)
      have hnext := T.done X' eP eW eK eC ds.length [] s2 σ2 _ (fun _ _ => False) I2 (fpB fr2) st2 hstop
      rw [eA] at hnext
      refine thn hnext fun r s3 ⟨hr, I3⟩ => ?_
      subst hr
      rw [List.drop_length, compL] at hrest
      have hrest' : ([] : List D) = rest := R.ok.inj hrest
      rw [← hrest', List.append_nil] at hrs2
      obtain ⟨m, hm, _⟩ := id I3.loc
      rw [eL] at hm
      have hfin : Same H (upd Hx acc (.lst vs)) := sm2.trans sU
      refine fin acc C s3 (upd Hx acc (.lst vs)) m hm (Ne.symm accC) (by omega) (Nat.le_refl _) hfin ?_ ⟨Hx, vs, sm2, hxa, rfl, by rw [hrs2]; exact r2⟩ (by rw [← eL]; exact I3.free) (fun h' hs' => ?_)
      · rw [hrs2]
        exact .lst (SqL.of upd_same) (E2.fresh hxa) (r2.same sU)
      · have hU : Un (frs X.stack) fp (upd H acc (.lst [])) (upd Hx acc (.lst vs)) s1.heap s3.heap := by
          have := I3.base
          rw [eFs, eX0, eH0, eS0] at this
          exact this
        have hCn : ∀ b o, s1.heap.get? b = some o → b ≠ C := fun b o e => by have := Heap.lt_size e; rw [hC] at this; exact Nat.ne_of_lt this
        have hU' : Un (frs X.stack) fp (upd H acc (.lst [])) (upd Hx acc (.lst vs)) s1.heap h' := ⟨fun b o e n hb hx => (hs'.2 b (hCn b o e)).trans (hU.keep b o e n hb hx), fun b o e n hb hx => by
            obtain ⟨sl, q⟩ := hU.slot b o e n hb hx
            exact ⟨sl, (hs'.2 b (hCn b o e)).trans q⟩, hU.free, fun b o e hx => by
            obtain ⟨o', q⟩ := hU.there b o e hx
            exact ⟨o', (hs'.2 b (hCn b o e)).trans q⟩, hU.tups, hU.frzs, hU.tbls⟩
        have hCf : upd Hx acc (.lst vs) C = none := by rw [← eL]; exact I3.free
        have hok' : HOk X.prog X.w (upd Hx acc (.lst vs)) h' := fun b u e => by
          have hb : b ≠ C := by rintro rfl; rw [hCf] at e; cases e
          have := I3.hok b u e
          rw [eP, eW] at this
          refine this.stay (fun c v hc q => (hs'.2 c ?_).trans q) (fun _ q => q) fun _ _ _ q => q
          rcases hc with z | z
          · rw [z]; exact hb
          · rintro rfl; rw [hCf] at z; cases z
        have hos : s3.os = s1.os := by have := I3.os; rw [eS0] at this; exact this
        exact I1.call' (s' := { s3 with heap := h' }) (ch := fp) hos hU' hok' I3.bare fun b hb => by
          obtain ⟨f0, f1, f2, f3, f4, f5⟩ := hfp b hb
          exact ⟨f3, f1, f4, f5⟩
  exact codeAny_compStart_list loop (T.self _ 0 _ _ _ st1 loop)

/-- a comprehension as a value -/
theorem pd_comp (own fr : List Str) (js : List Nat) (hc : X.calm = true) (S : CompSc X scope own fr js) (hi : PID X tg iter fi) (hX : ∀ (pins : List (Addr × Obj)) (fp : List Addr) (X' : Cx), (∃ s₀ H₁ C, X' = cxC X pins s₀ H₁ (own ++ fr) scope (blkC X scope C) C fp) → PGD X' tg G ∧ PTs X' ifs ft ∧ PD X' elt fe) (hG : ∀ ρ d ρ1, G d (blockEv own js ρ) = .ok ρ1 → Weak ρ1 (blockEv own js ρ)) (hs : ∀ x, foldedSetIterable iter X.env x = pure x := by intro _; rfl) :
    PD X (.ListComp elt [⟨tg, iter, ifs, 0⟩] scope pos) (fun ρ => (fi ρ).bind fun ds => if ds.length ≤ sizeLine then (compL G ft fe (blockEv own js ρ) ds).bind fun rs => .ok (.lst rs) else .bad) := by
  refine mkE fun pins s σ H Q I H₀ O₀ O ρ E q => ?_
  dsimp only at q
  rw [eval_ListComp]
  refine wpAny_comprehension_free (use := none) rfl hs (closureFor_eq (Inv.has_cells I S)) S.kind S.names ?_
  refine thn (hi pins s σ H (fun J H1 => ∃ ds rs, Same H H1 ∧ ItD X.K J H1 O ds ∧ ds.length ≤ sizeLine ∧ compL G ft fe (blockEv own js ρ) ds = .ok rs ∧ ∀ v H', Same H H' → Rep X.K H' O v (.lst rs) → Q v H') I ⟨H₀, O₀, O, ρ, E, offK I O E.trk, ?_⟩) fun v s1 h1 => thn h1 fun itv s2 h2 => ?_
  · cases e1 : fi ρ with
    | ex x => rw [e1] at q; exact q
    | bad => rw [e1] at q; exact q
    | ok ds =>
      rw [e1, R.bind_ok] at q
      intro J H1 s1 hJ
      split at q
      · rename_i hl
        cases e2 : compL G ft fe (blockEv own js ρ) ds with
        | ex x => rw [e2] at q; exact (q H (Same.refl _)).elim
        | bad => rw [e2] at q; exact q.elim
        | ok rs => rw [e2] at q; exact ⟨ds, rs, s1, hJ, hl, e2, q⟩
      · exact q.elim
  · obtain ⟨it, fp, tn, J, H2, e, I2, T, st2, f2, ds, rs, sm, hJ, hl, hrs, q⟩ := h2
    subst e
    refine comp_run (RR := fun acc C => compPost (model X.prog X.w) X.A X.xe none (EP X pins σ Q) acc C) hc S (hX pins fp) (hG ρ) I2 T st2 f2 (E.grow sm) hJ hrs hl ?_
    intro acc C s' H' m hn _ _ _ sm' r _ _ hI
    exact ⟨m, hn, fun h' hs' => ⟨.ref acc, H', hI h' hs', rfl, q _ H' (sm.trans sm') r⟩⟩
/-- name = a comprehension, where the store comes ahead of the block's end -/
theorem psd_comp (i : Nat) (own fr : List Str) (js : List Nat) (hN : X.N.Nodup) (hc : X.calm = true) (S : CompSc X scope own fr js) (hi : PID X tg iter fi) (hX : ∀ (pins : List (Addr × Obj)) (fp : List Addr) (X' : Cx), (∃ s₀ H₁ C, X' = cxC X pins s₀ H₁ (own ++ fr) scope (blkC X scope C) C fp) → PGD X' tg G ∧ PTs X' ifs ft ∧ PD X' elt fe) (hG : ∀ ρ d ρ1, G d (blockEv own js ρ) = .ok ρ1 → Weak ρ1 (blockEv own js ρ)) (hy : X.N[i]? = some y := by rfl) (hyl : X.env.scope.names.lookup y = some .local := by rfl) (hsw : swapsWith (.ListComp elt [⟨tg, iter, ifs, 0⟩] scope pos) (some (.Name y py)) spos.line X.env = pure true := by rfl) (hs : ∀ x, foldedSetIterable iter X.env x = pure x := by intro _; rfl) :
    PSD X (.Assign [.Name y py] (.ListComp elt [⟨tg, iter, ifs, 0⟩] scope pos) spos) (fun ρ => ((fi ρ).bind fun ds => if ds.length ≤ sizeLine then (compL G ft fe (blockEv own js ρ) ds).bind fun rs => .ok (D.lst rs) else .bad).bind fun d => .ok (.nx (ρ.set i (.v d)))) := by
  intro H₀ O₀ pins s σ H D I ⟨O, ρ, E, fk, q⟩
  dsimp only at q
  rw [exec_Assign_Name_used _ _ _ _ hsw]
  refine wpAny_bind (wpAny_standAt (wpAny_bind ?_))
  show wpAny _ X.A (do let _ ← comprehension (.ListComp elt [⟨tg, iter, ifs, 0⟩] scope pos) scope X.env _ (newList []) false (eval iter X.env) (some (assign (.Name y py) X.env))) _ _ s
  refine wpAny_bind (wpAny_mono (wpAny_comprehension_free (use := some (assign (.Name y py) X.env)) (Q := fun _ s' => SP X pins D .next s') rfl hs (closureFor_eq (Inv.has_cells I S)) S.kind S.names ?_) (fun _ s' hq => wpAny_pure (wpAny_pure hq)) fun _ _ e => e)
  refine thn (hi pins s σ H (fun J H1 => ∃ ds rs, Same H H1 ∧ ItD X.K J H1 O ds ∧ ds.length ≤ sizeLine ∧ compL G ft fe (blockEv own js ρ) ds = .ok rs ∧ RS X H₀ O₀ H O (.ok (.nx (ρ.set i (.v (.lst rs))))) D) I ⟨H₀, O₀, O, ρ, E, offK I O E.trk, ?_⟩) fun v s1 h1 => thn h1 fun itv s2 h2 => ?_
  · cases e1 : fi ρ with
    | ex x => rw [e1] at q; exact fun H' s => q H' (E.same.trans s)
    | bad => rw [e1] at q; exact q
    | ok ds =>
      rw [e1, R.bind_ok] at q
      intro J H1 s1 hJ
      split at q
      · rename_i hl
        cases e2 : compL G ft fe (blockEv own js ρ) ds with
        | ex x => rw [e2] at q; exact (q H E.same).elim
        | bad => rw [e2] at q; exact q.elim
        | ok rs => rw [e2] at q; exact ⟨ds, rs, s1, hJ, hl, e2, q⟩
      · exact q.elim
  · obtain ⟨it, fp, tn, J, H2, e, I2, T, st2, f2, ds, rs, sm, hJ, hl, hrs, q⟩ := h2
    subst e
    refine comp_run (RR := fun acc C => compPost (model X.prog X.w) X.A X.xe (some (assign (.Name y py) X.env)) (fun _ s' => SP X pins D .next s') acc C) hc S (hX pins fp) (hG ρ) I2 T st2 f2 (E.grow sm) hJ hrs hl ?_
    intro acc C s' H' m hn hCa hCs has sm' r _ hC hI
    have I3 := hI s'.heap (Heap.SameBut.refl ..)
    show wpAny _ X.A (assign (.Name y py) X.env (.ref acc)) _ _ s'
    refine wpAny_assign_Name (store_ok2 (i := i) (v := .ref acc) I3 hN hy (.inl hyl) rfl (fun s4 I4 ⟨a, hsb, ha⟩ => ?_) (.inr hyl))
    have hcell : ∀ x c, X.env.cells.lookup x = some c → c ≠ C := fun x c hc => by
      obtain ⟨v, hv⟩ := I2.cell x c hc
      exact Nat.ne_of_lt (Nat.lt_of_lt_of_le hv.lt hCs)
    have hCL : C ≠ X.env.locals := Nat.ne_of_gt (Nat.lt_of_lt_of_le I2.lt hCs)
    have hCa2 : C ≠ a := by
      rcases ha with ha | ha
      · rw [ha]; exact hCL
      · exact Ne.symm (hcell y a ha)
    refine ⟨m, hn.sameBut hsb hCa2, fun h' hs' => ?_⟩
    refine ⟨_, H', ?_, q _ H' O (((E.grow sm).grow sm').set i r) (offK I O E.trk) (Kp.of (sm.trans sm'))⟩
    exact I4.turned (t' := s4.toks) (it := C) (fun b o hb e => (hs'.2 b hb).trans e) hC hCL (.inr (Nat.le_trans I2.sz hCs)) hcell fun p hp => Nat.ne_of_lt (Nat.lt_of_lt_of_le (Heap.lt_size (I2.pin p hp).1) hCs)
end
end DL

namespace DL
open PySem PySem.Spec L2
open PyProof.Rows hiding St
variable [Tabs]

omit [Tabs] in
theorem script_bits {ns : List Int} (h : PySem.W.WData.layableAll [PySem.W.WData.list (ns.map PySem.W.WData.int)] = true) : ∀ x ∈ ns, Builtin.Int.intBits x ≤ 1048576 := fun x hx => by
  have h1 := (PySem.W.layW_cons h).1
  have h2 := PySem.W.layableW_item h1 (.int x) (List.mem_map.mpr ⟨x, hx, rfl⟩)
  have h3 := PySem.W.lay0_int h2
  have h4 : PyData.layable0 (.int x) = true := by simpa [PyData.layableAll0] using h3
  exact PyData.bits_of_layable h4

/-- a def that may be called: its promise by data -/
def Cal (P : Program) (w : World) (K : PySem.W.Frag) (mg : Str → Option Value) (base : Heap) (k : Nat) (x : Str) (n : Nat) (m : List D → R D) : Prop :=
  ∃ g gd ps, FnOk P w K mg base CX0 k g gd ps (spD K n m) ∧ Binds K gd ps [] ∧ PySem.W.keepIn K (.ref g) = true ∧ mg x = some (.ref g)
theorem Cal.mono {P : Program} {w : World} {K : PySem.W.Frag} {mg : Str → Option Value} {base : Heap} {j k : Nat} {x : Str} {n : Nat} {m : List D → R D} (c : Cal P w K mg base j x n m) (h : j ≤ k) : Cal P w K mg base k x n m :=
  let ⟨g, gd, ps, F, b, kp, e⟩ := c; ⟨g, gd, ps, F.mono h, b, kp, e⟩
def LenR (f : Ev → R (List D)) (n : Nat) : Prop := ∀ ρ ds, f ρ = .ok ds → ds.length = n
theorem lenR_nil : LenR nilR 0 := fun ρ ds h => by cases h; rfl
theorem lenR_cons (h : LenR g n) : LenR (consR f g) (n + 1) := fun ρ ds e => by
  unfold consR at e
  cases e1 : f ρ with
  | ok d =>
    rw [e1, R.bind_ok] at e
    cases e2 : g ρ with
    | ok ds' => rw [e2] at e; cases e; rw [List.length_cons, h ρ ds' e2]
    | ex x => rw [e2] at e; cases e
    | bad => rw [e2] at e; cases e
  | ex x => rw [e1] at e; cases e
  | bad => rw [e1] at e; cases e
section

theorem pd_cal (c : Cal X.prog X.w X.K X.mg X.base k x n m) (hr : Room k X.A) (ha : PAD X (e :: es) f) (hl : LenR f n) (hg : Gl X x := by rfl) (hdb : (x == ("__debug__" : Str)) = false := by decide) (he : starEach (e :: es) X.env = (false, eval e X.env) :: starEach es X.env := by rfl) (hpl : (backTo pos (starEach es X.env)).any (·.1) = false := by rfl) :
    PD X (.Call (.Name x p) (e :: es) [] pos) (fun ρ => (f ρ).bind m) := by
  obtain ⟨g, gd, ps, F, b, kp, em⟩ := c
  exact pd_call F hr em kp b ha hl hg hdb he hpl
end
/-- a def by its body: callable -/
theorem cal_of {P : Program} {w : World} {K : PySem.W.Frag} {mg : Str → Option Value} {base : Heap} {x qual : Str} {st : Stmt} {f : Addr} {fd : FuncData} {N ps : List Str} {k : Nat} {m : List D → R D} {F : Ev → R Out} (F0 : Fun K x qual st f fd) (S : FnScope N ps (defScope st)) (hb0 : Binds K fd ps []) (hmg : mg x = some (.ref f))
    (hb : ∀ (cdv : Value) (A : Around) (outer : List Env) (s : Shared) (H : Hp) (E : XK), Room k (A.deeper (envOfC qual (defScope st) s.heap.objs.size f cdv)) → PSsD (cxN P w K mg base N qual (defScope st) f cdv A outer s H E) (defBody st) F)
    (hm : ∀ ds d, ds.length = ps.length → m ds = .ok d → retR (F (startD N ds)) = .ok d) : Cal P w K mg base (k + 1) x ps.length m :=
  ⟨f, fd, ps, fnD F0 S hb hm, hb0, F0.kp, hmg⟩
/-- the names that a block's own target gives are forgotten behind it -/
theorem weak_name0 : ∀ d ρ1, (R.ok ((blockEv [x] js ρ).set 0 (Sl.v d)) : R Ev) = .ok ρ1 → Weak ρ1 (blockEv [x] js ρ) := fun d ρ1 h => by
  cases h
  refine ⟨by simp, fun i sl h hn => ?_⟩
  cases i with
  | zero => exact absurd (by simpa [blockEv] using h.symm) hn
  | succ i => rw [List.getElem?_set_ne (by lia)]; exact h

/-- a block's scope, by computation -/
def compOk (sc : Scope) (N : List Str) (scope : Scope) (fr : List Str) (js : List Nat) : Bool :=
  decide (scope.kind = .function) && scope.names.all (fun y => decide (y.2 = .free → (y.1, NameKind.cell) ∉ scope.names)) && scope.names.all (fun y => decide (y.2 = .local → scope.names.lookup y.1 = some .local)) &&
  scope.names.all (fun y => decide (y.2 = .free → sc.names.lookup y.1 = some .cell ∨ sc.names.lookup y.1 = some .free)) && decide (js.length = fr.length) && (js.zip fr).all (fun p => decide (N[p.1]? = some p.2 ∧ (p.2, NameKind.free) ∈ scope.names)) && decide js.Nodup &&
  scope.names.all (fun y => decide (y.2 = .free → scope.names.lookup y.1 = some .free))
theorem compSc (hs : X.env.scope = sc := by rfl) (hN : X.N = N := by rfl) (h : compOk sc N scope fr js = true := by decide +kernel) : CompSc X scope own fr js := by
  simp only [compOk, Bool.and_eq_true, List.all_eq_true, decide_eq_true_eq] at h
  obtain ⟨⟨⟨⟨⟨⟨⟨h1, h2⟩, h3⟩, h4⟩, h5⟩, h6⟩, h7⟩, h8⟩ := h
  subst hs hN
  refine ⟨h1, h2, h3, h4, h5, fun i j x e1 e2 => ?_, h7, h8⟩
  refine h6 (j, x) (List.mem_of_getElem? (i := i) ?_)
  rw [List.getElem?_zip_eq_some]
  exact ⟨e1, e2⟩
/-- .. in a block -/
theorem compScK (h : compOk X.env.scope X.N scope fr js = true := by first | kernel_rfl | with_unfolding_all rfl) : CompSc X scope own fr js := compSc rfl rfl h
theorem weak_names (σ : List (Nat × D)) (h : ∀ p ∈ σ, p.1 < xs.length) : Weak (σ.foldl (fun r p => r.set p.1 (Sl.v p.2)) (blockEv xs js ρ)) (blockEv xs js ρ) := by
  have key : ∀ (σ : List (Nat × D)) (r : Ev), (∀ p ∈ σ, p.1 < xs.length) → r.length = (blockEv xs js ρ).length → (∀ i, xs.length ≤ i → r[i]? = (blockEv xs js ρ)[i]?) →
      (σ.foldl (fun r p => r.set p.1 (Sl.v p.2)) r).length = (blockEv xs js ρ).length ∧ ∀ i, xs.length ≤ i → (σ.foldl (fun r p => r.set p.1 (Sl.v p.2)) r)[i]? = (blockEv xs js ρ)[i]? := by
    intro σ
    induction σ with
    | nil => intro r _ h1 h2; exact ⟨h1, h2⟩
    | cons p σ ih =>
      intro r hp h1 h2
      refine ih _ (fun q hq => hp q (List.mem_cons_of_mem _ hq)) (by rw [List.length_set]; exact h1) fun i hi => ?_
      have := hp p List.mem_cons_self
      rw [List.getElem?_set_ne (by lia)]; exact h2 i hi
  obtain ⟨h1, h2⟩ := key σ _ h rfl fun _ _ => rfl
  refine ⟨h1, fun i sl e hn => ?_⟩
  by_cases hi : i < xs.length
  · have : sl = .no := by
      rcases block_slot e with z | ⟨d, j, _, hle, _⟩
      · exact z
      · lia
    exact absurd this hn
  · rw [h2 i (by lia)]; exact e
theorem weak_two : ∀ d ρ1, gTupR 2 (gConsR (fun d ρ => .ok (ρ.set 0 (.v d))) (gConsR (fun d ρ => .ok (ρ.set 1 (.v d))) gNilR)) d (blockEv [x, y] js ρ) = .ok ρ1 → Weak ρ1 (blockEv [x, y] js ρ) := fun d ρ1 h => by
  have go : ∀ ds : List D, ds.length = 2 → gConsR (fun d ρ => .ok (ρ.set 0 (.v d))) (gConsR (fun d ρ => .ok (ρ.set 1 (.v d))) gNilR) ds (blockEv [x, y] js ρ) = .ok ρ1 → Weak ρ1 (blockEv [x, y] js ρ)
    | [a, b], _, h => by cases h; exact weak_names (xs := [x, y]) [(0, a), (1, b)] (by simp)
  unfold gTupR at h
  split at h
  · split at h
    · exact go _ ‹_› h
    · cases h
  · split at h
    · exact go _ ‹_› h
    · cases h
  · cases h
theorem weak_three : ∀ d ρ1, gTupR 3 (gConsR (fun d ρ => .ok (ρ.set 0 (.v d))) (gConsR (fun d ρ => .ok (ρ.set 1 (.v d))) (gConsR (fun d ρ => .ok (ρ.set 2 (.v d))) gNilR))) d (blockEv [x, y, z] js ρ) = .ok ρ1 → Weak ρ1 (blockEv [x, y, z] js ρ) := fun d ρ1 h => by
  have go : ∀ ds : List D, ds.length = 3 → gConsR (fun d ρ => .ok (ρ.set 0 (.v d))) (gConsR (fun d ρ => .ok (ρ.set 1 (.v d))) (gConsR (fun d ρ => .ok (ρ.set 2 (.v d))) gNilR)) ds (blockEv [x, y, z] js ρ) = .ok ρ1 → Weak ρ1 (blockEv [x, y, z] js ρ)
    | [a, b, c], _, h => by cases h; exact weak_names (xs := [x, y, z]) [(0, a), (1, b), (2, c)] (by simp)
  unfold gTupR at h
  split at h
  · split at h
    · exact go _ ‹_› h
    · cases h
  · split at h
    · exact go _ ‹_› h
    · cases h
  · cases h
/-- what law(script) promises -/
def spLawD (K : PySem.W.Frag) : Sp := fun vs H Q _ => ∃ (a : Addr) (ns : List Int), vs = [.ref a] ∧ SqL K H a (ns.map V.int) ∧ ns.length ≤ 63 ∧ (∀ x ∈ ns, Builtin.Int.intBits x ≤ 1048576) ∧ ∀ H', Q (.bl true) H'
/-- from the law by data -/
theorem law_of (ht : Tabs.tbs = []) {P : Program} {w : World} {K : PySem.W.Frag} {mg : Str → Option Value} {base : Heap} {k : Nat} {f : Addr} {fd : FuncData} {m : List D → R D} (F : FnOk P w K mg base CX0 k f fd ["script"] (spD K 1 m))
    (h : ∀ ns : List Int, ns.length ≤ 63 → (∀ x ∈ ns, Builtin.Int.intBits x ≤ 1048576) → m [.lst (ns.map D.int)] = .ok (.bl true)) : FnOk P w K mg base CX0 k f fd ["script"] (spLawD K) :=
  F.imp fun vs H Q E ⟨a, ns, e, hS, hl, hb, q⟩ => ⟨fun _ => False, _, _, by rw [e]; exact .cons (.lst hS (fun z => z) (Reps.ints ns)) .nil, rfl, fun _ z => z.elim, fun p hp => (by rw [ht] at hp; cases hp), fun _ _ _ z => z, h ns hl hb, fun v H' _ r => by cases r; exact q H'⟩
end DL

namespace DL.Att2
open PySem PySem.W PySem.Calls PyProof.Rows
theorem attach_bits {l : OpenLaw} {n : Nat} {q : Program} {loose : List Str} {XP : (Str → Option Value) → Heap → Prop} {YP : World → Heap → Prop} {d : DefRec}
    (hn : l.most = some n) (hdf : d.params.defaults = [])
    (call : ∀ (w : World) (s₀ s₁ : Shared) (mg mb : Str → Option Value) (fa : Addr) (o : Obj) (pm cd doc : Value) (a : Addr) (vs : List Value) (ns : List Int),
      Ground q loose [] XP w s₀ mg mb s₁.heap → YP w s₁.heap →
      s₁.heap.get? fa = some o → o.data = .func (docDef d.name d.params d.body d.scope pm cd doc) → s₁.heap.CodeRec cd d.name → mg d.name = some (.ref fa) →
      s₁.heap.get? a = some { cls := .type "list", data := .seq vs.toArray } → IntsAre vs ns → ns.length ≤ n → (∀ x ∈ ns, Builtin.Int.intBits x ≤ 1048576) → s₁.gens = #[] →
      codeAny (model l.prog w) callerA (.call (.ref fa) ⟨[.ref a], []⟩) (fun r s' => r = .ok (.ret (.bool true)) ∧ OldK s₁.heap s'.heap ∧ s'.os = s₁.os ∧ AllBare s'.gens) s₁) :
    WalkO q loose XP YP l.row.toRowW d [] (fun f vs => PySem.call f vs) := by
  intro w s₀ s₁ mg mb G Y fa o pm cd doc dV kV ho hd hcd hD hmg hg args vals as hpre hlay hrd hwl hlo
  obtain rfl : dV = .none := Dflts.none hD hdf
  obtain rfl : kV = .none := Dflts.noKw hD
  obtain ⟨a, vs, ns, rfl, rfl, hobj, hints, hlen⟩ := Att.script_of hn hpre hwl
  have hb := DL.script_bits (ns := ns) (by first | exact hlay | exact hlay.1 | (simpa using hlay))
  refine enter_call (codeAny_mono (call w s₀ s₁ mg mb fa o pm cd doc a vs ns G Y ho (fd_plain hd) hcd hmg hobj hints hlen hb hg) fun r s' hq => ?_)
  obtain ⟨rfl, h2, h3, h4⟩ := hq
  exact ⟨.inl ⟨.bool true, .bool true, [], rfl, fun _ => rfl, .bool true, Att.post_true l _, fun _ => ⟨List.Pairwise.nil, fun _ hm => (nomatch hm)⟩⟩, h2, h3, h4⟩
end DL.Att2

namespace DL
open PySem PySem.Spec L2
open PyProof.Rows hiding St
variable [Tabs]
/-- the goal behind k_head, from the law's promise by data -/
theorem walk_D {l : PySem.W.OpenLaw} {k : Nat} {q : Program} {loose : List Str} {XP : (Str → Option Value) → Heap → Prop} {YP : World → Heap → Prop} {d : DefRec} {K : Params → PySem.W.Frag}
    (hn : l.most = some 63) (hdf : d.params.defaults = []) (hr : Room k callerA)
    (hY : ∀ (w : World) (h : Heap), YP w h → (K w.params).In h)
    (F : ∀ (w : World) (mg : Str → Option Value) (fa : Addr) (h : Heap), (K w.params).In h → h.Ns mainGlobals mg → mg d.name = some (.ref fa) →
      ∃ fd : FuncData, (∀ (s : Shared) (u : Value), BindsTo s fd ⟨[u], []⟩ [("script", u)]) ∧
        ∀ base : Heap, (K w.params).In base → base.Ns mainGlobals mg → FnOk l.prog w (K w.params) mg base CX0 k fa fd ["script"] (spLawD (K w.params))) :
    PySem.W.WalkO q loose XP YP l.row.toRowW d [] (fun f vs => PySem.call f vs) := by
  refine Att2.attach_bits hn hdf fun w s₀ s₁ mg mb fa o pm cd doc a vs ns G Y ho hd hcd hmg hobj hints hlen hbits hg => ?_
  have KX := hY w _ Y
  obtain ⟨fd, hb, hF⟩ := F w mg fa _ KX G.T.g hmg
  exact law_call KX G.T.g G.T.b G.T.builtins G.T.nolimit hg hobj hints (Nat.le_trans hlen (by decide)) hr hF hb (fun H hO hS => ⟨a, ns, rfl, hS, hlen, hbits, fun _ => rfl⟩) fun H e s' z => z
end DL

namespace DL
open PySem L2
/-! ### reckoning with data -/
theorem at3_0 {α : Type} (x y z : α) : atI [x, y, z] 0 = some x := rfl
theorem at3_1 {α : Type} (x y z : α) : atI [x, y, z] 1 = some y := rfl
theorem at3_2 {α : Type} (x y z : α) : atI [x, y, z] 2 = some z := rfl
theorem at4_0 {α : Type} (x y z t : α) : atI [x, y, z, t] 0 = some x := rfl
theorem at4_1 {α : Type} (x y z t : α) : atI [x, y, z, t] 1 = some y := rfl
theorem at4_2 {α : Type} (x y z t : α) : atI [x, y, z, t] 2 = some z := rfl
theorem at4_3 {α : Type} (x y z t : α) : atI [x, y, z, t] 3 = some t := rfl
/-- a small number -/
abbrev bits (a : Int) : Nat := Builtin.Int.intBits a
theorem mulR_int (h : MulSz a b) : mulR (.int a) (.int b) = .ok (.int (a * b)) := if_pos h
theorem fdivR_int (h : DivOk b) : fdivR (.int a) (.int b) = .ok (.int (a.fdiv b)) := if_pos h
theorem modR_int (h : b ≠ 0) : modR (.int a) (.int b) = .ok (.int (a.fmod b)) := if_pos h
theorem powR_int (h : 0 ≤ b ∧ b ≤ 1000000 ∧ a.natAbs < 2 ^ 64) : powR (.int a) (.int b) = .ok (.int (a ^ b.toNat)) := if_pos h
theorem MulSz.of (h1 : bits a ≤ m) (h2 : bits b ≤ n) (hm : m ≤ 60000000 := by decide) (hn : n ≤ 60000000 := by decide) : MulSz a b := ⟨Nat.le_trans h1 hm, Nat.le_trans h2 hn⟩
theorem bits_add (h1 : bits a ≤ n) (h2 : bits b ≤ n) : bits (a + b) ≤ n + 1 := by
  have := PyProof.Rows.bits_add h1 h2
  rw [Nat.max_self] at this; exact this
theorem bits_sub (h1 : bits a ≤ n) (h2 : bits b ≤ n) : bits (a - b) ≤ n + 1 := by
  have := PyProof.Rows.bits_sub h1 h2
  rw [Nat.max_self] at this; exact this
theorem bits_mul (h1 : bits a ≤ m) (h2 : bits b ≤ n) : bits (a * b) ≤ m + n := PyProof.Rows.bits_mul h1 h2
theorem bits_neg (h1 : bits a ≤ m) : bits (-a) ≤ m := PyProof.Rows.bits_neg h1
theorem bits_le (h : a.natAbs < 2 ^ n) : bits a ≤ n := PyProof.Rows.intBits_le h
theorem lt_bits (h : bits a ≤ n) : a.natAbs < 2 ^ n := PyProof.Rows.lt_pow_of_bits h (Nat.le_refl n)
/-! the small steps, as rules of rewriting -/
@[simp] theorem evV_z (d : D) (ρ : Ev) : evV 0 (Sl.v d :: ρ) = .ok d := rfl
@[simp] theorem evV_s (i : Nat) (x : Sl) (ρ : Ev) : evV (i + 1) (x :: ρ) = evV i ρ := rfl
@[simp] theorem evB_z (d : D) (ρ : Ev) : evB 0 (Sl.v d :: ρ) = .ok d := rfl
@[simp] theorem evB_zo (d : List D) (ρ : Ev) : evB 0 (Sl.o d :: ρ) = .ok (.lst d) := rfl
@[simp] theorem evB_s (i : Nat) (x : Sl) (ρ : Ev) : evB (i + 1) (x :: ρ) = evB i ρ := rfl
@[simp] theorem evC_eq (d : D) (ρ : Ev) : evC d ρ = .ok d := rfl
@[simp] theorem thenR_nx (ρ : Ev) (F : Ev → R Out) : thenR (.ok (.nx ρ)) F = F ρ := rfl
@[simp] theorem thenR_rt (d : D) (F : Ev → R Out) : thenR (.ok (.rt d)) F = .ok (.rt d) := rfl
@[simp] theorem thenR_bk (ρ : Ev) (F : Ev → R Out) : thenR (.ok (.bk ρ)) F = .ok (.bk ρ) := rfl
@[simp] theorem thenR_ct (ρ : Ev) (F : Ev → R Out) : thenR (.ok (.ct ρ)) F = .ok (.ct ρ) := rfl
@[simp] theorem thenR_ex (e : Str) (F : Ev → R Out) : thenR (.ex e) F = .ex e := rfl
@[simp] theorem retR_rt (d : D) : retR (.ok (.rt d)) = .ok d := rfl
@[simp] theorem retR_nx (ρ : Ev) : retR (.ok (.nx ρ)) = .ok .non := rfl
@[simp] theorem retR_ex (e : Str) : retR (.ex e) = .ex e := rfl
@[simp] theorem consR_eq (f : Ev → R D) (g : Ev → R (List D)) (ρ : Ev) : consR f g ρ = (f ρ).bind fun d => (g ρ).bind fun ds => .ok (d :: ds) := rfl
@[simp] theorem nilR_eq (ρ : Ev) : nilR ρ = .ok [] := rfl
@[simp] theorem tupR1 (a : D) : tupR [a] = .ok (.tup [a]) := rfl
@[simp] theorem tupR2 (a b : D) : tupR [a, b] = .ok (.tup [a, b]) := rfl
@[simp] theorem tupR3 (a b c : D) : tupR [a, b, c] = .ok (.tup [a, b, c]) := rfl
@[simp] theorem tupR4 (a b c d : D) : tupR [a, b, c, d] = .ok (.tup [a, b, c, d]) := rfl
@[simp] theorem lstR0 : lstR [] = .ok (.lst []) := rfl
@[simp] theorem lstR1 (a : D) : lstR [a] = .ok (.lst [a]) := rfl
@[simp] theorem lstR2 (a b : D) : lstR [a, b] = .ok (.lst [a, b]) := rfl
@[simp] theorem lstR3 (a b c : D) : lstR [a, b, c] = .ok (.lst [a, b, c]) := rfl
@[simp] theorem lstR4 (a b c d : D) : lstR [a, b, c, d] = .ok (.lst [a, b, c, d]) := rfl
@[simp] theorem lstR5 (a b c d e : D) : lstR [a, b, c, d, e] = .ok (.lst [a, b, c, d, e]) := rfl
@[simp] theorem ix3_0 (x y z : D) : ixR (.tup [x, y, z]) (.int 0) = .ok x := rfl
@[simp] theorem ix3_1 (x y z : D) : ixR (.tup [x, y, z]) (.int 1) = .ok y := rfl
@[simp] theorem ix3_2 (x y z : D) : ixR (.tup [x, y, z]) (.int 2) = .ok z := rfl
@[simp] theorem ix4_0 (x y z t : D) : ixR (.tup [x, y, z, t]) (.int 0) = .ok x := rfl
@[simp] theorem ix4_1 (x y z t : D) : ixR (.tup [x, y, z, t]) (.int 1) = .ok y := rfl
@[simp] theorem ix4_2 (x y z t : D) : ixR (.tup [x, y, z, t]) (.int 2) = .ok z := rfl
@[simp] theorem ix4_3 (x y z t : D) : ixR (.tup [x, y, z, t]) (.int 3) = .ok t := rfl
@[simp] theorem ixl3_0 (x y z : D) : ixR (.lst [x, y, z]) (.int 0) = .ok x := rfl
@[simp] theorem ixl3_1 (x y z : D) : ixR (.lst [x, y, z]) (.int 1) = .ok y := rfl
@[simp] theorem ixl3_2 (x y z : D) : ixR (.lst [x, y, z]) (.int 2) = .ok z := rfl
@[simp] theorem ixl4_0 (x y z t : D) : ixR (.lst [x, y, z, t]) (.int 0) = .ok x := rfl
@[simp] theorem ixl4_1 (x y z t : D) : ixR (.lst [x, y, z, t]) (.int 1) = .ok y := rfl
@[simp] theorem ixl4_2 (x y z t : D) : ixR (.lst [x, y, z, t]) (.int 2) = .ok z := rfl
@[simp] theorem ixl4_3 (x y z t : D) : ixR (.lst [x, y, z, t]) (.int 3) = .ok t := rfl
@[simp] theorem ix2_0 (x y : D) : ixR (.tup [x, y]) (.int 0) = .ok x := rfl
@[simp] theorem ix2_1 (x y : D) : ixR (.tup [x, y]) (.int 1) = .ok y := rfl
theorem ixR_l (h : atI xs i = some d) : ixR (.lst xs) (.int i) = .ok d := by simp only [ixR, h]
theorem ixR_t {xs : List D} {i : Int} {d : D} (h : atI xs i = some d) : ixR (.tup xs) (.int i) = .ok d := by simp only [ixR, h]
@[simp] theorem addR_ii (a b : Int) : addR (.int a) (.int b) = .ok (.int (a + b)) := rfl
@[simp] theorem subR_ii (a b : Int) : subR (.int a) (.int b) = .ok (.int (a - b)) := rfl
@[simp] theorem ltR_ii (a b : Int) : ltR (.int a) (.int b) = .ok (.bl (decide (a < b))) := rfl
@[simp] theorem leR_ii (a b : Int) : leR (.int a) (.int b) = .ok (.bl (decide (a ≤ b))) := rfl
@[simp] theorem gtR_ii (a b : Int) : gtR (.int a) (.int b) = .ok (.bl (decide (b < a))) := rfl
@[simp] theorem geR_ii (a b : Int) : geR (.int a) (.int b) = .ok (.bl (decide (b ≤ a))) := rfl
@[simp] theorem negD_i (a : Int) : negD (.int a) = .ok (.int (-a)) := rfl
@[simp] theorem toB_b (b : Bool) : toB (.bl b) = .ok b := rfl
@[simp] theorem toI_i (b : Int) : toI (.int b) = .ok (some b) := rfl
@[simp] theorem lenR_l (xs : List D) : lenR [.lst xs] = .ok (.int xs.length) := rfl
@[simp] theorem lenR_t (xs : List D) : lenR [.tup xs] = .ok (.int xs.length) := rfl
@[simp] theorem absR_i (a : Int) : absR [.int a] = .ok (.int (if a < 0 then -a else a)) := rfl
@[simp] theorem max2R_i (a b : Int) : max2R [.int a, .int b] = .ok (.int (if b > a then b else a)) := rfl
@[simp] theorem min2R_i (a b : Int) : min2R [.int a, .int b] = .ok (.int (if b < a then b else a)) := rfl
@[simp] theorem intR_i (a : Int) : intR [.int a] = .ok (.int a) := rfl
@[simp] theorem intR_b (a : Bool) : intR [.bl a] = .ok (.int (if a then 1 else 0)) := rfl
@[simp] theorem tupleR_l (xs : List D) : tupleR [.lst xs] = .ok (.tup xs) := rfl
@[simp] theorem tupleR_t (xs : List D) : tupleR [.tup xs] = .ok (.tup xs) := rfl
@[simp] theorem listR_l (xs : List D) : listR [.lst xs] = .ok (.lst xs) := rfl
@[simp] theorem listR_t (xs : List D) : listR [.tup xs] = .ok (.lst xs) := rfl
@[simp] theorem andB_eq (f g : Ev → R Bool) (ρ : Ev) : andB f g ρ = (f ρ).bind fun b => if b = true then g ρ else .ok false := rfl
@[simp] theorem orB_eq (f g : Ev → R Bool) (ρ : Ev) : orB f g ρ = (f ρ).bind fun b => if b = true then .ok true else g ρ := rfl
@[simp] theorem notB_eq (f : Ev → R Bool) (ρ : Ev) : notB f ρ = (f ρ).bind fun b => .ok (!b) := rfl
@[simp] theorem andV_eq (f g : Ev → R D) (ρ : Ev) : andV f g ρ = ((f ρ).bind toB).bind fun b => if b = true then g ρ else .ok (.bl false) := rfl
@[simp] theorem orV_eq (f g : Ev → R D) (ρ : Ev) : orV f g ρ = ((f ρ).bind toB).bind fun b => if b = true then .ok (.bl true) else g ρ := rfl
@[simp] theorem notV_eq (f : Ev → R D) (ρ : Ev) : notV f ρ = ((f ρ).bind toB).bind fun b => .ok (.bl (!b)) := rfl
@[simp] theorem iteV_eq (c : Ev → R Bool) (f g : Ev → R D) (ρ : Ev) : iteV c f g ρ = (c ρ).bind fun b => if b = true then f ρ else g ρ := rfl
@[simp] theorem eqR_ii (a b : Int) : eqR (.int a) (.int b) = .ok (.bl (a == b)) := by simp only [eqR, dep, eqD]; rfl
@[simp] theorem neR_ii (a b : Int) : neR (.int a) (.int b) = .ok (.bl (!(a == b))) := by simp only [neR, dep, eqD]; rfl
@[simp] theorem eqR_33 (a b c d e f : Int) : eqR (.tup [.int a, .int b, .int c]) (.tup [.int d, .int e, .int f]) = .ok (.bl (a == d && (b == e && c == f))) := by simp [eqR, dep, deps, eqD, eqDs]
@[simp] theorem neR_33 (a b c d e f : Int) : neR (.tup [.int a, .int b, .int c]) (.tup [.int d, .int e, .int f]) = .ok (.bl (!(a == d && (b == e && c == f)))) := by simp [neR, dep, deps, eqD, eqDs]
@[simp] theorem eqR_44 (a b c d e f g h : Int) : eqR (.tup [.int a, .int b, .int c, .int g]) (.tup [.int d, .int e, .int f, .int h]) = .ok (.bl (a == d && (b == e && (c == f && g == h)))) := by simp [eqR, dep, deps, eqD, eqDs]
@[simp] theorem neR_44 (a b c d e f g h : Int) : neR (.tup [.int a, .int b, .int c, .int g]) (.tup [.int d, .int e, .int f, .int h]) = .ok (.bl (!(a == d && (b == e && (c == f && g == h))))) := by simp [neR, dep, deps, eqD, eqDs]
@[simp] theorem eqRl_33 (a b c d e f : Int) : eqR (.lst [.int a, .int b, .int c]) (.lst [.int d, .int e, .int f]) = .ok (.bl (a == d && (b == e && c == f))) := by simp [eqR, dep, deps, eqD, eqDs]
@[simp] theorem isa_i_int (a : Int) : isaD "int" (.int a) = true := rfl
@[simp] theorem isa_i_bool (a : Int) : isaD "bool" (.int a) = false := rfl
@[simp] theorem isa_t_tuple (a : List D) : isaD "tuple" (.tup a) = true := rfl
@[simp] theorem isa_l_list (a : List D) : isaD "list" (.lst a) = true := rfl
@[simp] theorem isa_l_tuple (a : List D) : isaD "tuple" (.lst a) = false := rfl
@[simp] theorem isa_t_list (a : List D) : isaD "list" (.tup a) = false := rfl
/-- every turn goes on -/
theorem forL_inv (Iv : Ev → Prop) : ∀ {ds : List D} {ρ : Ev}, (∀ d ∈ ds, ∀ ρ, Iv ρ → ∃ ρ1 ρ2, G d ρ = .ok ρ1 ∧ F ρ1 = .ok (.nx ρ2) ∧ Iv ρ2) → Iv ρ → ∃ ρ', forL G F ds ρ = .ok (.nx ρ') ∧ Iv ρ'
  | [], ρ, _, h => ⟨ρ, rfl, h⟩
  | d :: ds, ρ, ht, h => by
    obtain ⟨ρ1, ρ2, e1, e2, h2⟩ := ht d List.mem_cons_self ρ h
    obtain ⟨ρ', e, h'⟩ := forL_inv Iv (ds := ds) (ρ := ρ2) (fun d hd => ht d (List.mem_cons_of_mem _ hd)) h2
    exact ⟨ρ', by rw [forL, e1]; simp only [e2]; exact e, h'⟩
theorem compL_map (r : D → D) : ∀ {ds : List D}, (∀ d ∈ ds, ∃ ρ1, G d ρ = .ok ρ1 ∧ fe ρ1 = .ok (r d)) → compL G (fun _ => .ok true) fe ρ ds = .ok (ds.map r)
  | [], _ => rfl
  | d :: ds, h => by
    obtain ⟨ρ1, e1, e2⟩ := h d List.mem_cons_self
    rw [compL, e1]
    simp only [R.bind_ok, if_true, e2, compL_map r fun d hd => h d (List.mem_cons_of_mem _ hd), List.map_cons]
theorem atI_nn {α : Type} {xs : List α} {k : Int} (h0 : 0 ≤ k) : atI xs k = xs[k.toNat]? := by
  unfold atI ixN
  rw [if_pos h0]
  by_cases h : k < xs.length
  · rw [if_pos h]; rfl
  · rw [if_neg h, List.getElem?_eq_none_iff.mpr (by omega)]; rfl
/-- a list of ints that are not too great -/
def IntsOf (n : Nat) (xs : List D) : Prop := ∀ x ∈ xs, ∃ i, x = .int i ∧ bits i ≤ n
theorem ints_of {n : Nat} {ns : List Int} (h : ∀ x ∈ ns, bits x ≤ n) : IntsOf n (ns.map D.int) := fun x hx => by
  obtain ⟨i, hi, rfl⟩ := List.mem_map.mp hx
  exact ⟨i, rfl, h i hi⟩
/-- the law's own cell: the script's item or a number by a rule -/
def cellD (g : Int → Int) (xs : List D) (k : Int) : D := match xs[k.toNat]? with
  | some d => d
  | none => .int (g k)
theorem cellD_int (h : IntsOf n xs) (g : Int → Int) (k : Int) : ∃ i, cellD g xs k = .int i ∧ (bits i ≤ n ∨ i = g k) := by
  unfold cellD
  cases e : xs[k.toNat]? with
  | none => exact ⟨_, rfl, .inr rfl⟩
  | some d =>
    obtain ⟨i, rfl, hb⟩ := h d (List.mem_of_getElem? e)
    exact ⟨i, rfl, .inl hb⟩
def wholeD : D → Bool
  | .int _ => true
  | _ => false
theorem isa_whole (d : D) : (if isaD "int" d = true then (!isaD "bool" d) else false) = wholeD d := by cases d <;> rfl
theorem bits_of_abs (h1 : -((2 : Int) ^ n) < a) (h2 : a < (2 : Int) ^ n) : bits a ≤ n := bits_le (by
  have e : ((2 ^ n : Nat) : Int) = (2 : Int) ^ n := by simp
  omega)
theorem bits_fmod {a b : Int} {n : Nat} (h0 : b ≠ 0) (hb : bits b ≤ n) : bits (a.fmod b) ≤ n := PyProof.Rows.bits_fmod_by h0 hb
theorem bits_fdiv (ha : bits a ≤ n) : bits (a.fdiv b) ≤ n := PyProof.Rows.bits_fdiv ha
theorem bits_mono (h : bits a ≤ m) (hm : m ≤ n := by decide) : bits a ≤ n := Nat.le_trans h hm
@[simp] theorem rng3 : rngR [.int 3] = .ok [.int 0, .int 1, .int 2] := rfl
@[simp] theorem rng36 : rngR [.int 3, .int 6] = .ok [.int 3, .int 4, .int 5] := rfl
@[simp] theorem rng4 : rngR [.int 4] = .ok [.int 0, .int 1, .int 2, .int 3] := rfl
@[simp] theorem rng9 : rngR [.int 9] = .ok [.int 0, .int 1, .int 2, .int 3, .int 4, .int 5, .int 6, .int 7, .int 8] := rfl
@[simp] theorem rng12 : rngR [.int 12] = .ok [.int 0, .int 1, .int 2, .int 3, .int 4, .int 5, .int 6, .int 7, .int 8, .int 9, .int 10, .int 11] := rfl
@[simp] theorem lstOnly_l (xs : List D) : lstOnly (.lst xs) = .ok xs := rfl
@[simp] theorem tupOnly_t (xs : List D) : tupOnly (.tup xs) = .ok xs := rfl
theorem ret_for (Iv : Ev → Prop) (ht : ∀ d ∈ ds, ∀ ρ, Iv ρ → ∃ ρ1 ρ2, G d ρ = .ok ρ1 ∧ F ρ1 = .ok (.nx ρ2) ∧ Iv ρ2) (h0 : Iv ρ) (h2 : ∀ ρ', Iv ρ' → retR (F2 ρ') = .ok d) :
    retR (thenR (forL G F ds ρ) F2) = .ok d := by
  obtain ⟨ρ', e, h⟩ := forL_inv Iv ht h0
  rw [e]
  exact h2 ρ' h
theorem mem_rngD (h : d ∈ rngD a c n) : ∃ i : Nat, i < n ∧ d = .int (a + (i : Int) * c) := by
  unfold rngD at h
  obtain ⟨i, hi, e⟩ := List.mem_map.mp h
  exact ⟨i, List.mem_range.mp hi, e.symm⟩
theorem rng_all (h : rngOk a b c) : rngR [.int a, .int b, .int c] = .ok (rngD a c (rngN a b c)) := if_pos h
theorem rngN_le (hM : 0 < M) (hc : 0 < c) (i : Nat) (h : i < rngN 0 M c) : (i : Int) * c < M := by
  unfold rngN at h
  rw [if_pos hM] at h
  have h0 : 0 ≤ (M - 0 - 1) / c := Int.ediv_nonneg (by omega) (by omega)
  have h1 : (i : Int) ≤ (M - 0 - 1) / c := by omega
  have h2 := Int.mul_le_mul_of_nonneg_right h1 (show 0 ≤ c by omega)
  have h3 := Int.ediv_mul_le (M - 0 - 1) (show c ≠ 0 by omega)
  omega
theorem compL_nil : compL G ft fe ρ [] = .ok [] := rfl
theorem compL_cons (h : G d ρ = .ok ρ1) : compL G (fun _ => .ok true) fe ρ (d :: ds) = (fe ρ1).bind fun r => (compL G (fun _ => .ok true) fe ρ ds).bind fun rs => .ok (r :: rs) := by
  rw [compL, h]; rfl
@[simp] theorem compL_nil' (G : D → Ev → R Ev) (ft : Ev → R Bool) (fe : Ev → R D) (ρ : Ev) : compL G ft fe ρ [] = .ok [] := rfl
/-- the usual comprehension: one name, no test -/
@[simp] theorem compL_name (i : Nat) (fe : Ev → R D) (ρ : Ev) (d : D) (ds : List D) : compL (fun d ρ => .ok (ρ.set i (Sl.v d))) (fun _ => .ok true) fe ρ (d :: ds) = (fe (ρ.set i (Sl.v d))).bind fun r => (compL (fun d ρ => .ok (ρ.set i (Sl.v d))) (fun _ => .ok true) fe ρ ds).bind fun rs => .ok (r :: rs) := rfl
@[simp] theorem compL_test (i : Nat) (ft : Ev → R Bool) (fe : Ev → R D) (ρ : Ev) (d : D) (ds : List D) : compL (fun d ρ => .ok (ρ.set i (Sl.v d))) ft fe ρ (d :: ds) = (ft (ρ.set i (Sl.v d))).bind fun b => if b = true then (fe (ρ.set i (Sl.v d))).bind fun r => (compL (fun d ρ => .ok (ρ.set i (Sl.v d))) ft fe ρ ds).bind fun rs => .ok (r :: rs) else compL (fun d ρ => .ok (ρ.set i (Sl.v d))) ft fe ρ ds := rfl
@[simp] theorem seen_vv (d : D) : seen (.v d) = .v d := rfl
end DL
namespace DL
open PySem L2
theorem ixc_0 (x : D) (r : List D) : ixR (.tup (x :: r)) (.int 0) = .ok x := ixR_t (by rw [atI_nn (by decide)]; rfl)
theorem ixc_1 (x y : D) (r : List D) : ixR (.tup (x :: y :: r)) (.int 1) = .ok y := ixR_t (by rw [atI_nn (by decide)]; rfl)
theorem ixc_2 (x y z : D) (r : List D) : ixR (.tup (x :: y :: z :: r)) (.int 2) = .ok z := ixR_t (by rw [atI_nn (by decide)]; rfl)
/-- a while by an invariant with a number that falls -/
theorem whileN_inv (Iv : Nat → Ev → Prop) (ht : ∀ n ρ, Iv (n + 1) ρ → c ρ = .ok false ∨ (c ρ = .ok true ∧ ∃ ρ2, F ρ = .ok (.nx ρ2) ∧ Iv n ρ2)) (h00 : ∀ ρ, ¬ Iv 0 ρ) : ∀ n ρ, Iv n ρ → ∃ m ρ', whileN c F n ρ = .ok (.nx ρ') ∧ Iv m ρ' ∧ c ρ' = .ok false
  | 0, ρ, h => absurd h (h00 ρ)
  | n + 1, ρ, h => by
    rcases ht n ρ h with e | ⟨e, ρ2, e2, h2⟩
    · exact ⟨n + 1, ρ, by rw [whileN, e]; rfl, h, e⟩
    · obtain ⟨m, ρ', e3, h3, h4⟩ := whileN_inv Iv ht h00 n ρ2 h2
      exact ⟨m, ρ', by rw [whileN, e]; simp only [R.bind_ok, if_true, e2]; exact e3, h3, h4⟩
theorem ret_while {Iv : Nat → Ev → Prop} (ht : ∀ n ρ, Iv (n + 1) ρ → c ρ = .ok false ∨ (c ρ = .ok true ∧ ∃ ρ2, F ρ = .ok (.nx ρ2) ∧ Iv n ρ2)) (h0 : Iv n ρ) (h2 : ∀ n ρ', Iv n ρ' → c ρ' = .ok false → retR (F2 ρ') = .ok d) (h00 : ∀ ρ, ¬ Iv 0 ρ := by (intro ρ; rintro ⟨x, y, _, z, _⟩; omega)) :
    retR (thenR (whileN c F n ρ) F2) = .ok d := by
  obtain ⟨m, ρ', e, h, hc⟩ := whileN_inv Iv ht h00 n ρ h0
  rw [e]
  exact h2 m ρ' h hc
end DL

namespace DL
open PySem PySem.Spec L2
open PyProof.Rows hiding St
variable [Tabs]
/-! ### lists that a name alone has -/
section
variable {K : PySem.W.Frag}
theorem EnvOk.setOwn (E : EnvOk K H₀ O₀ H O σ ρ) (i : Nat) (h : H a = none) (hk : K.lookup a = none) (r : Reps K H O vs xs) :
    EnvOk K H₀ O₀ (upd H a (.lst vs)) (fun b => O b ∨ b = a) (σ.set i (some (.ref a))) (ρ.set i (.o xs)) :=
  E.newOwn i h hk trivial fun h0 => ⟨a, vs, rfl, .inr rfl, h0, upd_same, r.besideO h hk⟩
/-- a name's own list becomes a value -/
theorem EnvOk.disown (E : EnvOk K H₀ O₀ H O σ ρ) (e : ρ[i]? = some (.o xs)) : ∃ O', EnvOk K H₀ O₀ H O' σ (ρ.set i (.v (.lst xs))) ∧ (∀ b, O' b → O b) := by
  obtain ⟨a, vs, h1, h2, h3, h4, h5⟩ := E.own i xs e
  exact ⟨fun b => O b ∧ b ≠ a, E.disownO e trivial h1 (fun z => z) ⟨.ref a, rfl, .lst (SqL.of h4) (fun z => z.2 rfl) (h5.sub fun _ z => z.1)⟩, fun b z => z.1⟩
/-- a name's own list is written -/
theorem EnvOk.write (E : EnvOk K H₀ O₀ H O σ ρ) (e : ρ[i]? = some (.o xs)) (h1 : σ[i]? = some (some (V.ref a))) (r : Reps K H O vs' xs') :
    EnvOk K H₀ O₀ (upd H a (.lst vs')) O σ (ρ.set i (.o xs')) ∧ Kp H O (upd H a (.lst vs')) O := by
  obtain ⟨a', vs, p1, h2, h3, h4, h5⟩ := E.own i xs e
  have ea : a' = a := by rw [p1] at h1; cases h1; rfl
  subst ea
  exact E.writeO e trivial h1 h4 trivial trivial fun _ _ _ => ⟨a', vs', rfl, h2, h3, upd_same, r.upd h4 trivial h2⟩
end

section

/-- an expression that makes a new list -/
def tF (X : Cx) (f : Ev → R (List D)) : TE := fun σ H Q => ∃ H₀ O₀ O ρ, EnvOk X.K H₀ O₀ H O σ ρ ∧ match f ρ with
  | .ok ds => ∀ vs H1 a, Same H H1 → H1 a = none → Reps X.K H1 O vs ds → Q (.ref a) (upd H1 a (.lst vs))
  | .ex e => ∀ H', Same H H' → XW X e H'
  | .bad => False
def PF (X : Cx) (e : Expr) (f : Ev → R (List D)) : Prop := PE X e (tF X f)
theorem kfree (I : Inv X pins σ H s) (h : H a = some o) : X.K.lookup a = none := by
  cases e : X.K.lookup a with
  | none => rfl
  | some ob =>
    have := (I.bs a ob (I.ok.mod.kin a ob e)).2
    rw [h] at this
    cases this
theorem PF.pd (h : PF X e f) : PD X e (fun ρ => (f ρ).bind fun ds => .ok (.lst ds)) := peI h fun σ H Q H₀ O₀ O ρ E q => ⟨H₀, O₀, O, ρ, E, by
  dsimp only at q
  cases e1 : f ρ with
  | ok ds =>
    rw [e1] at q
    intro vs H1 a s1 ha r
    exact q _ _ (s1.trans (same_upd ha _)) (.lst (SqL.of upd_same) ((E.grow s1).fresh ha) (r.same (same_upd ha _)))
  | ex x => rw [e1] at q; exact q
  | bad => rw [e1] at q; exact q⟩
theorem pf_lst (h : PAD X es f) : PF X (.List es pos) (fun ρ => (f ρ).bind fun ds => if ds.length ≤ sizeLine then .ok ds else .bad) :=
  peI (pe_lst h) fun σ H Q H₀ O₀ O ρ E q => ⟨H₀, O₀, O, ρ, E, by
    dsimp only at q
    cases e1 : f ρ with
    | ok ds =>
      rw [e1, R.bind_ok] at q
      intro vs H1 s1 r1
      by_cases hz : ds.length ≤ sizeLine
      · rw [if_pos hz] at q
        exact ⟨by rw [r1.length]; exact hz, fun p hp => q vs H1 p s1 hp r1⟩
      · rw [if_neg hz] at q; exact (show False from q).elim
    | ex x => rw [e1] at q; exact q
    | bad => rw [e1] at q; exact q⟩
/-- name = a new list, the name's own -/
theorem psd_own (i : Nat) (he : PF X e f) (hN : X.N.Nodup) (hi : X.N[i]? = some x := by rfl) (hx : Loc X.env.scope x := by first | exact Or.inl rfl | exact Or.inr rfl) (hs : swapsWith e (some (.Name x pos')) pos.line X.env = pure false := by rfl) (hf : X.fn x = true ∨ X.env.scope.names.lookup x = some .local := by first | exact .inl rfl | exact .inr rfl | assumption) :
    PSD X (.Assign [.Name x pos'] e pos) (fun ρ => (f ρ).bind fun ds => .ok (.nx (ρ.set i (.o ds)))) := by
  intro H₀ O₀ pins s σ H D I ⟨O, ρ, E, fk, q⟩
  dsimp only at q
  refine wpAny_Assign_Name (thn (he pins s σ H (fun v H2 => ∃ vs H1 a ds, v = .ref a ∧ H2 = upd H1 a (.lst vs) ∧ Same H H1 ∧ H1 a = none ∧ Reps X.K H1 O vs ds ∧ RS X H₀ O₀ H O (.ok (.nx (ρ.set i (.o ds)))) D) I ⟨H₀, O₀, O, ρ, E, ?_⟩) fun v s1 ⟨y, H2, I2, r2, vs, H1, a, ds, e1, e2, s1', ha, r, q'⟩ => ?_) hs
  · cases e1 : f ρ with
    | ok ds =>
      rw [e1, R.bind_ok] at q
      exact fun vs H1 a s1 ha r => ⟨vs, H1, a, ds, rfl, rfl, s1, ha, r, q⟩
    | ex x => rw [e1] at q; exact fun H' s => q H' (E.same.trans s)
    | bad => rw [e1] at q; exact q
  · subst e1 e2
    refine store_ok I2 hN hi hx r2 (fun s3 I3 => ⟨_, _, I3, ?_⟩) hf
    have hk := kfree I2 (upd_same (H := H1) (a := a) (o := .lst vs))
    have E2 := (E.grow s1').setOwn i ha hk r
    refine q' _ _ _ E2 (offK I2 _ E2.trk) ?_
    exact fun b o hb n => ⟨by rw [upd_ne (ne_of_none (s1' b o hb) ha)]; exact s1' b o hb, fun z => z.elim n (ne_of_none (s1' b o hb) ha)⟩
/-- ahead of a statement a name's own list becomes a value -/
def disE (i : Nat) (ρ : Ev) : Ev := match ρ[i]? with
  | some (.o xs) => ρ.set i (.v (.lst xs))
  | _ => ρ
theorem psd_dis (i : Nat) {st : Stmt} (h : PSD X st F) : PSD X st (fun ρ => F (disE i ρ)) := by
  intro H₀ O₀ pins s σ H D I ⟨O, ρ, E, fk, q⟩
  dsimp only at q
  unfold disE at q
  cases e : ρ[i]? with
  | none => rw [e] at q; exact h H₀ O₀ pins s σ H D I ⟨O, ρ, E, fk, q⟩
  | some sl =>
    rw [e] at q
    cases sl with
    | x C => exact h H₀ O₀ pins s σ H D I ⟨O, ρ, E, fk, q⟩
    | c m φ => exact h H₀ O₀ pins s σ H D I ⟨O, ρ, E, fk, q⟩
    | d kvs => exact h H₀ O₀ pins s σ H D I ⟨O, ρ, E, fk, q⟩
    | no => exact h H₀ O₀ pins s σ H D I ⟨O, ρ, E, fk, q⟩
    | v d => exact h H₀ O₀ pins s σ H D I ⟨O, ρ, E, fk, q⟩
    | o xs =>
      obtain ⟨O', E', sub⟩ := E.disown e
      exact h H₀ O₀ pins s σ H D I ⟨O', _, E', fun a o hk z => fk a o hk (sub a z), RS.grow q fun b o hb n => ⟨hb, fun z => n (sub b z)⟩⟩
theorem pssd_dis (i : Nat) {st : List Stmt} (h : PSsD X st F) : PSsD X st (fun ρ => F (disE i ρ)) := by
  intro H₀ O₀ pins s σ H D I ⟨O, ρ, E, fk, q⟩
  dsimp only at q
  unfold disE at q
  cases e : ρ[i]? with
  | none => rw [e] at q; exact h H₀ O₀ pins s σ H D I ⟨O, ρ, E, fk, q⟩
  | some sl =>
    rw [e] at q
    cases sl with
    | x C => exact h H₀ O₀ pins s σ H D I ⟨O, ρ, E, fk, q⟩
    | c m φ => exact h H₀ O₀ pins s σ H D I ⟨O, ρ, E, fk, q⟩
    | d kvs => exact h H₀ O₀ pins s σ H D I ⟨O, ρ, E, fk, q⟩
    | no => exact h H₀ O₀ pins s σ H D I ⟨O, ρ, E, fk, q⟩
    | v d => exact h H₀ O₀ pins s σ H D I ⟨O, ρ, E, fk, q⟩
    | o xs =>
      obtain ⟨O', E', sub⟩ := E.disown e
      exact h H₀ O₀ pins s σ H D I ⟨O', _, E', fun a o hk z => fk a o hk (sub a z), RS.grow q fun b o hb n => ⟨hb, fun z => n (sub b z)⟩⟩
/-- xs.append(e) -/
def appR (i : Nat) (ρ : Ev) (d : D) : R Out := match ρ[i]? with
  | some (.o xs) => if xs.length < sizeLine then .ok (.nx (ρ.set i (.o (xs ++ [d])))) else .bad
  | _ => .bad
theorem psd_append (i : Nat) (he : PD X e f) (hN : X.N[i]? = some x := by rfl) (hv : Vis X.env.scope x := by first | exact Or.inl rfl | exact Or.inr (Or.inl rfl) | exact Or.inr (Or.inr rfl)) (hd : (x == ("__debug__" : Str)) = false := by decide) (hcd : (x == ("__classdict__" : Str)) = false := by decide) (hbase : attributeBase (.Name x p) "append" X.env (eval (.Name x p) X.env) = eval (.Name x p) X.env := by rfl) (hfew : ((backTo cpos (starEach [e] X.env)).all (fun x => !x.1) && (backToKw cpos (keywordEach [] X.env)).all (fun x => x.1.isSome)
      && decide ([e].length + ([] : List Keyword).length + (if ([] : List Keyword).isEmpty then 0 else 1) < 30)) = true := by rfl) (hline : (apos.endLine == cpos.line) = true := by rfl) (hs : starEach [e] X.env = (false, eval e X.env) :: starEach [] X.env := by rfl) (hplain : (backTo cpos (starEach [] X.env)).any (·.1) = false := by rfl) (hsw : swapsWith (.Call (.Attribute (.Name x p) "append" apos) [e] [] cpos) none pos.line X.env = pure false := by rfl) :
    PSD X (.Expr (.Call (.Attribute (.Name x p) "append" apos) [e] [] cpos) pos) (fun ρ => (f ρ).bind (appR i ρ)) := fun H₀ O₀ =>
  psI (ps_expr (pe_bm PySem.F.plainAttrs_list PySem.F.slot_list_append PySem.F.type_list_append mt_append (pe_var hN hv hd hcd) (pad_cons he pad_nil hs) hbase hfew hline hs hplain) hsw) fun D σ H O ρ E fk q => by
  cases e1 : f ρ with
  | ok d =>
    rw [e1, R.bind_ok] at q
    unfold appR at q
    cases e2 : ρ[i]? with
    | none => rw [e2] at q; exact (show False from q).elim
    | some sl =>
      rw [e2] at q
      cases sl with
      | x C => exact (show False from q).elim
      | c m φ => exact (show False from q).elim
      | d kvs => exact (show False from q).elim
      | no => exact (show False from q).elim
      | v d => exact (show False from q).elim
      | o xs =>
        dsimp only at q
        split at q
        · rename_i hz
          obtain ⟨a, vs, h1, h2, h3, h4, h5⟩ := E.own i xs e2
          refine ⟨_, h1, .inl ⟨rfl, vs, SqL.of h4⟩, H₀, O₀, O, ρ, E, ?_⟩
          show RCs X H O ((f ρ).bind fun d => (R.ok []).bind fun ds => .ok (d :: ds)) _
          rw [e1]
          intro us H1 s1 r1
          cases r1 with
          | cons r1 rn =>
            cases rn
            have E1 := E.grow s1
            refine ⟨a, vs, _, rfl, rfl, s1 _ _ h4, by rw [h5.length]; exact hz, ?_⟩
            obtain ⟨E2, k2⟩ := E1.write e2 h1 ((h5.same s1).snoc r1)
            exact q σ _ O E2 fk ((Kp.of s1).trans k2)
        · exact (show False from q).elim
  | ex x =>
    rw [e1] at q
    cases e2 : ρ[i]? with
    | none => exact (q H E.same).elim
    | some sl => exact (q H E.same).elim
  | bad => rw [e1] at q; exact (show False from q).elim
/-- xs.extend(e) -/
def extR (i : Nat) (ρ : Ev) (d : D) : R Out := match ρ[i]?, d with
  | some (.o xs), .lst ys => if xs.length + ys.length ≤ sizeLine then .ok (.nx (ρ.set i (.o (xs ++ ys)))) else .bad
  | _, _ => .bad
/-- xs.pop() -/
def popR (i : Nat) (ρ : Ev) : R (D × Ev) := match ρ[i]? with
  | some (.o xs) => match xs[xs.length - 1]? with
    | some d => .ok (d, ρ.set i (.o xs.dropLast))
    | none => .bad
  | _ => .bad
theorem psd_pop (i : Nat) (hN : X.N[i]? = some x := by rfl) (hv : Vis X.env.scope x := by first | exact Or.inl rfl | exact Or.inr (Or.inl rfl) | exact Or.inr (Or.inr rfl)) (hd : (x == ("__debug__" : Str)) = false := by decide) (hcd : (x == ("__classdict__" : Str)) = false := by decide) (hbase : attributeBase (.Name x p) "pop" X.env (eval (.Name x p) X.env) = eval (.Name x p) X.env := by rfl) (hline : (apos.endLine == cpos.line) = true := by rfl) (hsw : swapsWith (.Call (.Attribute (.Name x p) "pop" apos) [] [] cpos) none pos.line X.env = pure false := by rfl) :
    PSD X (.Expr (.Call (.Attribute (.Name x p) "pop" apos) [] [] cpos) pos) (fun ρ => (popR i ρ).bind fun z => .ok (.nx z.2)) := fun H₀ O₀ =>
  psI (ps_expr (pe_bm0 PySem.F.plainAttrs_list PySem.F.slot_list_pop PySem.F.type_list_pop mt_pop (pe_var hN hv hd hcd) hbase hline) hsw) fun D σ H O ρ E fk q => by
  unfold popR at q
  cases e2 : ρ[i]? with
  | none => rw [e2] at q; exact (show False from q).elim
  | some sl =>
    rw [e2] at q
    cases sl with
    | x C => exact (show False from q).elim
    | c m φ => exact (show False from q).elim
    | d kvs => exact (show False from q).elim
    | no => exact (show False from q).elim
    | v d => exact (show False from q).elim
    | o xs =>
      dsimp only at q
      cases e3 : xs[xs.length - 1]? with
      | none => rw [e3] at q; exact (show False from q).elim
      | some d =>
        rw [e3] at q
        obtain ⟨a, vs, h1, h2, h3, h4, h5⟩ := E.own i xs e2
        obtain ⟨v, g1, g2⟩ := h5.get e3
        refine ⟨_, h1, .inl ⟨rfl, vs, SqL.of h4⟩, a, vs, v, rfl, rfl, h4, by rw [h5.length]; exact g1, ?_⟩
        obtain ⟨E2, k2⟩ := E.write e2 h1 h5.dropLast
        exact q σ _ O E2 fk k2
/-- y = xs.pop() -/
theorem psd_setpop (j i : Nat) (hND : X.N.Nodup) (hij : i ≠ j := by decide) (hN : X.N[i]? = some x := by rfl) (hy : X.N[j]? = some y := by rfl) (hv : Vis X.env.scope x := by first | exact Or.inl rfl | exact Or.inr (Or.inl rfl) | exact Or.inr (Or.inr rfl)) (hd : (x == ("__debug__" : Str)) = false := by decide) (hcd : (x == ("__classdict__" : Str)) = false := by decide) (hbase : attributeBase (.Name x p) "pop" X.env (eval (.Name x p) X.env) = eval (.Name x p) X.env := by rfl) (hline : (apos.endLine == cpos.line) = true := by rfl) (hly : Loc X.env.scope y := by first | exact Or.inl rfl | exact Or.inr rfl) (hsw : swapsWith (.Call (.Attribute (.Name x p) "pop" apos) [] [] cpos) (some (.Name y py)) pos.line X.env = pure false := by rfl) (hf : X.fn y = true ∨ X.env.scope.names.lookup y = some .local := by first | exact .inl rfl | exact .inr rfl | assumption) :
    PSD X (.Assign [.Name y py] (.Call (.Attribute (.Name x p) "pop" apos) [] [] cpos) pos) (fun ρ => (popR i ρ).bind fun z => .ok (.nx (z.2.set j (.v z.1)))) := fun H₀ O₀ =>
  psI (ps_set hND hy hly (pe_bm0 PySem.F.plainAttrs_list PySem.F.slot_list_pop PySem.F.type_list_pop mt_pop (pe_var hN hv hd hcd) hbase hline) hsw hf) fun D σ H O ρ E fk q => by
  unfold popR at q
  cases e2 : ρ[i]? with
  | none => rw [e2] at q; exact (show False from q).elim
  | some sl =>
    rw [e2] at q
    cases sl with
    | x C => exact (show False from q).elim
    | c m φ => exact (show False from q).elim
    | d kvs => exact (show False from q).elim
    | no => exact (show False from q).elim
    | v d => exact (show False from q).elim
    | o xs =>
      dsimp only at q
      cases e3 : xs[xs.length - 1]? with
      | none => rw [e3] at q; exact (show False from q).elim
      | some d =>
        rw [e3] at q
        obtain ⟨a, vs, h1, h2, h3, h4, h5⟩ := E.own i xs e2
        obtain ⟨v, g1, g2⟩ := h5.get e3
        refine ⟨_, h1, .inl ⟨rfl, vs, SqL.of h4⟩, a, vs, v, rfl, rfl, h4, by rw [h5.length]; exact g1, ?_⟩
        obtain ⟨E2, k2⟩ := E.write e2 h1 h5.dropLast
        exact q _ _ O (E2.set j (k2.rep E.trk fk g2)) fk k2
/-- xs[k] = e -/
def stoR (i : Nat) (ρ : Ev) (k d : D) : R Out := match ρ[i]?, k with
  | some (.o xs), .int k => match ixN xs.length k with
    | some j => .ok (.nx (ρ.set i (.o (xs.set j d))))
    | none => .bad
  | _, _ => .bad
theorem psd_store (i : Nat) (he : PD X e f) (hk : PD X k g) (hN : X.N[i]? = some x := by rfl) (hv : Vis X.env.scope x := by first | exact Or.inl rfl | exact Or.inr (Or.inl rfl) | exact Or.inr (Or.inr rfl)) (hd : (x == ("__debug__" : Str)) = false := by decide) (hcd : (x == ("__classdict__" : Str)) = false := by decide) (ha : ∀ v, assign (.Subscript (.Name x p) k ps) X.env v = (do
      let ov ← holding [v] (eval (.Name x p) X.env)
      let iv ← holding [v, ov] (eval k X.env)
      standAt ps
      holding [v, ov, iv] (setItem ov iv v)
      release [v, ov, iv] []) := by intro _; rfl) (hs : swapsWithSole [.Subscript (.Name x p) k ps] e pos.line X.env = pure false := by rfl) (hw : swappedStores [.Subscript (.Name x p) k ps] e X.env = pure none := by rfl) (h1 : (assignEach [.Subscript (.Name x p) k ps] X.env).map (·.2) = [assign (.Subscript (.Name x p) k ps) X.env] := by rfl) :
    PSD X (.Assign [.Subscript (.Name x p) k ps] e pos) (fun ρ => (f ρ).bind fun d => (g ρ).bind fun kd => stoR i ρ kd d) := fun H₀ O₀ =>
  psI (ps_asg he (pg_sub (pe_var hN hv hd hcd) hk set_list ha) hs hw h1) fun D σ H O ρ E fk q => ⟨H₀, O₀, O, ρ, E, by
    cases e1 : f ρ with
    | ok d =>
      rw [e1, R.bind_ok] at q
      intro v H1 s1 r1
      have E1 := E.grow s1
      cases e2 : g ρ with
      | ok kd =>
        rw [e2, R.bind_ok] at q
        unfold stoR at q
        cases e3 : ρ[i]? with
        | none => rw [e3] at q; exact (show False from q).elim
        | some sl =>
          rw [e3] at q
          cases sl with
          | x C => exact (show False from q).elim
          | c m φ => exact (show False from q).elim
          | d kvs => exact (show False from q).elim
          | no => exact (show False from q).elim
          | v d => exact (show False from q).elim
          | o xs =>
            obtain ⟨a, vs, h1, h2, h3, h4, h5⟩ := E1.own i xs e3
            refine ⟨_, h1, H₀, O₀, O, ρ, E1, ?_⟩
            rw [e2]
            intro kv H2 s2 r2
            have E2 := E1.grow s2
            cases kd with
            | int kk =>
              dsimp only at q
              cases e4 : ixN xs.length kk with
              | none => rw [e4] at q; exact (show False from q).elim
              | some j =>
                rw [e4] at q
                cases r2
                refine ⟨a, vs, kk, j, rfl, rfl, s2 _ _ h4, by rw [h5.length]; exact e4, ?_⟩
                obtain ⟨E3, k3⟩ := E2.write e3 h1 ((h5.same s2).set (r1.same s2) j)
                exact q σ _ O E3 fk (((Kp.of s1).trans (Kp.of s2)).trans k3)
            | _ => exact (show False from q).elim
      | ex x => rw [e2] at q; exact (q H E.same).elim
      | bad => rw [e2] at q; exact (show False from q).elim
    | ex x => rw [e1] at q; exact fun H' s => q H' (E.same.trans s)
    | bad => rw [e1] at q; exact q⟩
/-- name = a comprehension: the name's own -/
theorem psd_compO (i : Nat) (own fr : List Str) (js : List Nat) (hN : X.N.Nodup) (hc : X.calm = true) (S : CompSc X scope own fr js) (hi : PID X tg iter fi) (hX : ∀ (pins : List (Addr × Obj)) (fp : List Addr) (X' : Cx), (∃ s₀ H₁ C, X' = cxC X pins s₀ H₁ (own ++ fr) scope (blkC X scope C) C fp) → PGD X' tg G ∧ PTs X' ifs ft ∧ PD X' elt fe) (hG : ∀ ρ d ρ1, G d (blockEv own js ρ) = .ok ρ1 → Weak ρ1 (blockEv own js ρ)) (hy : X.N[i]? = some y := by rfl) (hyl : X.env.scope.names.lookup y = some .local := by rfl) (hsw : swapsWith (.ListComp elt [⟨tg, iter, ifs, 0⟩] scope pos) (some (.Name y py)) spos.line X.env = pure true := by rfl) (hs : ∀ x, foldedSetIterable iter X.env x = pure x := by intro _; rfl) :
    PSD X (.Assign [.Name y py] (.ListComp elt [⟨tg, iter, ifs, 0⟩] scope pos) spos) (fun ρ => ((fi ρ).bind fun ds => if ds.length ≤ sizeLine then (compL G ft fe (blockEv own js ρ) ds).bind fun rs => R.ok rs else .bad).bind fun rs => .ok (.nx (ρ.set i (.o rs)))) := by
  intro H₀ O₀ pins s σ H D I ⟨O, ρ, E, fk, q⟩
  dsimp only at q
  rw [exec_Assign_Name_used _ _ _ _ hsw]
  refine wpAny_bind (wpAny_standAt (wpAny_bind ?_))
  show wpAny _ X.A (do let _ ← comprehension (.ListComp elt [⟨tg, iter, ifs, 0⟩] scope pos) scope X.env _ (newList []) false (eval iter X.env) (some (assign (.Name y py) X.env))) _ _ s
  refine wpAny_bind (wpAny_mono (wpAny_comprehension_free (use := some (assign (.Name y py) X.env)) (Q := fun _ s' => SP X pins D .next s') rfl hs (closureFor_eq (Inv.has_cells I S)) S.kind S.names ?_) (fun _ s' hq => wpAny_pure (wpAny_pure hq)) fun _ _ e => e)
  refine thn (hi pins s σ H (fun J H1 => ∃ ds rs, Same H H1 ∧ ItD X.K J H1 O ds ∧ ds.length ≤ sizeLine ∧ compL G ft fe (blockEv own js ρ) ds = .ok rs ∧ RS X H₀ O₀ H O (.ok (.nx (ρ.set i (.o rs)))) D) I ⟨H₀, O₀, O, ρ, E, offK I O E.trk, ?_⟩) fun v s1 h1 => thn h1 fun itv s2 h2 => ?_
  · cases e1 : fi ρ with
    | ex x => rw [e1] at q; exact fun H' s => q H' (E.same.trans s)
    | bad => rw [e1] at q; exact q
    | ok ds =>
      rw [e1, R.bind_ok] at q
      intro J H1 s1 hJ
      split at q
      · rename_i hl
        cases e2 : compL G ft fe (blockEv own js ρ) ds with
        | ex x => rw [e2] at q; exact (q H E.same).elim
        | bad => rw [e2] at q; exact q.elim
        | ok rs => rw [e2] at q; exact ⟨ds, rs, s1, hJ, hl, e2, q⟩
      · exact q.elim
  · obtain ⟨it, fp, tn, J, H2, e, I2, T, st2, f2, ds, rs, sm, hJ, hl, hrs, q⟩ := h2
    subst e
    refine comp_run (RR := fun acc C => compPost (model X.prog X.w) X.A X.xe (some (assign (.Name y py) X.env)) (fun _ s' => SP X pins D .next s') acc C) hc S (hX pins fp) (hG ρ) I2 T st2 f2 (E.grow sm) hJ hrs hl ?_
    intro acc C s' H' m hn hCa hCs has sm' r nw hC hI
    have I3 := hI s'.heap (Heap.SameBut.refl ..)
    show wpAny _ X.A (assign (.Name y py) X.env (.ref acc)) _ _ s'
    refine wpAny_assign_Name (store_ok2 (i := i) (v := .ref acc) I3 hN hy (.inl hyl) rfl (fun s4 I4 ⟨a, hsb, ha⟩ => ?_) (.inr hyl))
    have hcell : ∀ x c, X.env.cells.lookup x = some c → c ≠ C := fun x c hc => by
      obtain ⟨v, hv⟩ := I2.cell x c hc
      exact Nat.ne_of_lt (Nat.lt_of_lt_of_le hv.lt hCs)
    have hCL : C ≠ X.env.locals := Nat.ne_of_gt (Nat.lt_of_lt_of_le I2.lt hCs)
    have hCa2 : C ≠ a := by
      rcases ha with ha | ha
      · rw [ha]; exact hCL
      · exact Ne.symm (hcell y a ha)
    refine ⟨m, hn.sameBut hsb hCa2, fun h' hs' => ?_⟩
    obtain ⟨H1, vs, s1', ha1, eH, rr⟩ := nw
    subst eH
    have E2 := ((E.grow sm).grow s1').setOwn i ha1 (kfree I3 (upd_same (H := H1) (a := acc) (o := .lst vs))) rr
    refine ⟨_, _, ?_, q _ _ _ E2 (offK I3 _ E2.trk) fun b o hb n => ⟨by rw [upd_ne (ne_of_none ((sm.trans s1') b o hb) ha1)]; exact (sm.trans s1') b o hb, fun z => z.elim n (ne_of_none ((sm.trans s1') b o hb) ha1)⟩⟩
    exact I4.turned (t' := s4.toks) (it := C) (fun b o hb e => (hs'.2 b hb).trans e) hC hCL (.inr (Nat.le_trans I2.sz hCs)) hcell fun p hp => Nat.ne_of_lt (Nat.lt_of_lt_of_le (Heap.lt_size (I2.pin p hp).1) hCs)
/-- what is never come to -/
theorem psd_never {st : Stmt} : PSD X st (fun _ => .bad) := fun H₀ O₀ => psI ps_never fun D σ H O ρ E fk q => q
end
end DL

namespace G
structure V where
  x : Int
  y : Int
  z : Int
deriving DecidableEq
instance : Add V := ⟨fun u v => ⟨u.x + v.x, u.y + v.y, u.z + v.z⟩⟩
instance : Sub V := ⟨fun u v => ⟨u.x - v.x, u.y - v.y, u.z - v.z⟩⟩
instance : Neg V := ⟨fun u => ⟨-u.x, -u.y, -u.z⟩⟩
instance : HMul Int V V := ⟨fun k u => ⟨k * u.x, k * u.y, k * u.z⟩⟩
instance : OfNat V 0 := ⟨⟨0, 0, 0⟩⟩
@[simp] theorem add_x (u v : V) : (u + v).x = u.x + v.x := rfl
@[simp] theorem add_y (u v : V) : (u + v).y = u.y + v.y := rfl
@[simp] theorem add_z (u v : V) : (u + v).z = u.z + v.z := rfl
@[simp] theorem sub_x (u v : V) : (u - v).x = u.x - v.x := rfl
@[simp] theorem sub_y (u v : V) : (u - v).y = u.y - v.y := rfl
@[simp] theorem sub_z (u v : V) : (u - v).z = u.z - v.z := rfl
@[simp] theorem neg_x (u : V) : (-u).x = -u.x := rfl
@[simp] theorem neg_y (u : V) : (-u).y = -u.y := rfl
@[simp] theorem neg_z (u : V) : (-u).z = -u.z := rfl
@[simp] theorem mul_x (k : Int) (u : V) : (k * u).x = k * u.x := rfl
@[simp] theorem mul_y (k : Int) (u : V) : (k * u).y = k * u.y := rfl
@[simp] theorem mul_z (k : Int) (u : V) : (k * u).z = k * u.z := rfl
@[simp] theorem zero_x : (0 : V).x = 0 := rfl
@[simp] theorem zero_y : (0 : V).y = 0 := rfl
@[simp] theorem zero_z : (0 : V).z = 0 := rfl
theorem ext {u v : V} (h1 : u.x = v.x) (h2 : u.y = v.y) (h3 : u.z = v.z) : u = v := by cases u; cases v; simp_all
theorem ext_iff' {u v : V} : u = v ↔ u.x = v.x ∧ u.y = v.y ∧ u.z = v.z := ⟨fun h => by subst h; exact ⟨rfl, rfl, rfl⟩, fun ⟨a, b, c⟩ => ext a b c⟩
def dot (u v : V) : Int := u.x * v.x + u.y * v.y + u.z * v.z
def cr (u v : V) : V := ⟨u.y * v.z - u.z * v.y, u.z * v.x - u.x * v.z, u.x * v.y - u.y * v.x⟩
def det (a u v : V) : Int := dot a (cr u v)
@[simp] theorem cr_x (u v : V) : (cr u v).x = u.y * v.z - u.z * v.y := rfl
@[simp] theorem cr_y (u v : V) : (cr u v).y = u.z * v.x - u.x * v.z := rfl
@[simp] theorem cr_z (u v : V) : (cr u v).z = u.x * v.y - u.y * v.x := rfl
/-- the one relation of four vectors -/
theorem rel4 (a u v w : V) : det a u v * w + det a v w * u + det a w u * v = det u v w * a := by
  apply ext <;> simp [det, dot] <;> grind
theorem rel4s (f a u v w : V) : det a u v * dot f w + det a v w * dot f u + det a w u * dot f v = det u v w * dot f a := by
  simp [det, dot]; grind
theorem det_swap (a u v : V) : det a v u = - det a u v := by simp [det, dot]; grind
theorem det_self (a u : V) : det a u u = 0 := by simp [det, dot]; grind
theorem det_rot (a u v : V) : det a u v = det u v a := by simp [det, dot]; grind
theorem det_add2 (a u v w : V) : det a (u + v) w = det a u w + det a v w := by simp [det, dot]; grind
theorem det_add3 (a u v w : V) : det a u (v + w) = det a u v + det a u w := by simp [det, dot]; grind
theorem det_sub2 (a u v w : V) : det a (u - v) w = det a u w - det a v w := by simp [det, dot]; grind
theorem det_sub3 (a u v w : V) : det a u (v - w) = det a u v - det a u w := by simp [det, dot]; grind
theorem det_mul2 (a : V) (k : Int) (u v : V) : det a (k * u) v = k * det a u v := by simp [det, dot]; grind
theorem det_mul3 (a : V) (k : Int) (u v : V) : det a u (k * v) = k * det a u v := by simp [det, dot]; grind
theorem det_mul1 (a : V) (k : Int) (u v : V) : det (k * a) u v = k * det a u v := by simp [det, dot]; grind
theorem dot_comm (u v : V) : dot u v = dot v u := by simp [dot]; grind
theorem dot_add (f u v : V) : dot f (u + v) = dot f u + dot f v := by simp [dot]; grind
theorem dot_sub (f u v : V) : dot f (u - v) = dot f u - dot f v := by simp [dot]; grind
theorem dot_mul (f : V) (k : Int) (v : V) : dot f (k * v) = k * dot f v := by simp [dot]; grind
theorem mul_dot (f : V) (k : Int) (v : V) : dot (k * f) v = k * dot f v := by simp [dot]; grind
theorem dot_zero (f : V) : dot f 0 = 0 := by simp [dot]
theorem dot_cr (u v w : V) : dot (cr u v) w = det w u v := by simp [det, dot]; grind
theorem dot_cr' (a u v : V) : dot (cr a u) v = det a u v := by simp [det, dot]; grind
theorem dot_self_pos {u : V} (h : u ≠ 0) : 0 < dot u u := by
  have h1 : u.x ≠ 0 ∨ u.y ≠ 0 ∨ u.z ≠ 0 := by
    by_cases a : u.x = 0
    · by_cases b : u.y = 0
      · by_cases c : u.z = 0
        · exact absurd (ext a b c) h
        · exact .inr (.inr c)
      · exact .inr (.inl b)
    · exact .inl a
  have sq : ∀ t : Int, 0 ≤ t * t := fun t => by
    rcases Int.le_total 0 t with q | q
    · exact Int.mul_nonneg q q
    · have := Int.mul_nonneg (Int.neg_nonneg_of_nonpos q) (Int.neg_nonneg_of_nonpos q); rwa [Int.neg_mul_neg] at this
  have sqp : ∀ t : Int, t ≠ 0 → 0 < t * t := fun t ht => by
    have := sq t
    have : t * t ≠ 0 := fun z => by rcases Int.mul_eq_zero.mp z with q | q <;> exact ht q
    omega
  have a := sq u.x
  have b := sq u.y
  have c := sq u.z
  unfold dot
  rcases h1 with q | q | q
  · have := sqp _ q; omega
  · have := sqp _ q; omega
  · have := sqp _ q; omega
/-- three vectors of a plane -/
theorem det_flat (h : n ≠ 0) (hu : dot n u = 0) (hv : dot n v = 0) (hw : dot n w = 0) : det u v w = 0 := by
  have e : det u v w * dot n n = 0 := by
    have := rel4s n n u v w
    rw [hu, hv, hw] at this
    simp at this
    omega
  rcases Int.mul_eq_zero.mp e with q | q
  · exact q
  · have := dot_self_pos h; omega
end G

namespace G
theorem mul_zero_v (v : V) : (0 : Int) * v = 0 := ext (by simp) (by simp) (by simp)
theorem add_zero_v (v : V) : v + 0 = v := ext (by simp) (by simp) (by simp)
theorem zero_add_v (v : V) : 0 + v = v := ext (by simp) (by simp) (by simp)
/-- what goes forth -/
structure Cone (Pos : V → Prop) : Prop where
  add : ∀ {u v}, Pos u → Pos v → Pos (u + v)
  mul : ∀ {k : Int} {u}, 0 < k → Pos u → Pos (k * u)
  irr : ¬ Pos 0
section
variable {Pos : V → Prop} (C : Cone Pos)
include C
theorem Cone.comb {p q : Int} {u w : V} (hp : 0 < p) (hq : 0 ≤ q) (hw : Pos w) (hu : Pos u) : Pos (p * w + q * u) := by
  by_cases h : q = 0
  · subst h; rw [mul_zero_v, add_zero_v]; exact C.mul hp hw
  · exact C.add (C.mul hp hw) (C.mul (by lia) hu)
theorem Cone.sgn {k : Int} {v : V} (hv : Pos v) (h : Pos (k * v)) : 0 < k := by
  by_cases hk : 0 < k
  · exact hk
  · exfalso
    by_cases h0 : k = 0
    · subst h0; rw [mul_zero_v] at h; exact C.irr h
    · have h1 := C.add h (C.mul (k := -k) (by lia) hv)
      have e : k * v + -k * v = 0 := ext (by simp; grind) (by simp; grind) (by simp; grind)
      rw [e] at h1; exact C.irr h1
/-- round to the left, once and again -/
theorem Cone.tr {a u v w : V} (hu : Pos u) (hv : Pos v) (hw : Pos w) (hf : det u v w = 0) (h1 : 0 < det a u v) (h2 : 0 ≤ det a v w) : 0 < det a u w := by
  refine C.sgn hv (k := det a u w) ?_
  have e : det a u w * v = det a u v * w + det a v w * u := by
    have h := rel4 a u v w
    rw [hf, mul_zero_v, det_swap a u w] at h
    have hx := congrArg V.x h
    have hy := congrArg V.y h
    have hz := congrArg V.z h
    simp at hx hy hz
    exact ext (by simp; grind) (by simp; grind) (by simp; grind)
  rw [e]
  exact C.comb h1 h2 hw hu
theorem Cone.tr' {a u v w : V} (hu : Pos u) (hv : Pos v) (hw : Pos w) (hf : det u v w = 0) (h1 : 0 ≤ det a u v) (h2 : 0 < det a v w) : 0 < det a u w := by
  refine C.sgn hv (k := det a u w) ?_
  have e : det a u w * v = det a v w * u + det a u v * w := by
    have h := rel4 a u v w
    rw [hf, mul_zero_v, det_swap a u w] at h
    have hx := congrArg V.x h
    have hy := congrArg V.y h
    have hz := congrArg V.z h
    simp at hx hy hz
    exact ext (by simp; grind) (by simp; grind) (by simp; grind)
  rw [e]
  exact C.comb h2 h1 hu hw
end
/-- .. by what does not see a -/
structure ConeM (a : V) (Pos : V → Prop) : Prop extends Cone Pos where
  inv : ∀ {u} (k : Int), Pos u → Pos (u + k * a)
theorem ConeM.tr {a : V} {Pos : V → Prop} (C : ConeM a Pos) {u v w : V} (hu : Pos u) (hv : Pos v) (hw : Pos w) (h1 : 0 < det a u v) (h2 : 0 ≤ det a v w) : 0 < det a u w := by
  refine C.sgn hv (k := det a u w) ?_
  have e : det a u w * v = (det a u v * w + det a v w * u) + (- det u v w) * a := by
    have h := rel4 a u v w
    rw [det_swap a u w] at h
    have hx := congrArg V.x h
    have hy := congrArg V.y h
    have hz := congrArg V.z h
    simp at hx hy hz
    exact ext (by simp; grind) (by simp; grind) (by simp; grind)
  rw [e]
  exact C.inv _ (C.comb h1 h2 hw hu)
/-- the order of tuples -/
def lexPos (w : V) : Prop := 0 < w.x ∨ (w.x = 0 ∧ (0 < w.y ∨ (w.y = 0 ∧ 0 < w.z)))
instance (w : V) : Decidable (lexPos w) := inferInstanceAs (Decidable (_ ∨ _))
theorem lexCone : Cone lexPos where
  add := fun {u v} h1 h2 => by unfold lexPos at *; simp; lia
  mul := fun {k u} hk h => by
    unfold lexPos at *
    simp
    rcases h with h | ⟨h, h' | ⟨h', h''⟩⟩
    · exact .inl (Int.mul_pos hk h)
    · exact .inr ⟨by rw [h]; simp, .inl (Int.mul_pos hk h')⟩
    · exact .inr ⟨by rw [h]; simp, .inr ⟨by rw [h']; simp, Int.mul_pos hk h''⟩⟩
  irr := by unfold lexPos; simp
def lexNeg (w : V) : Prop := lexPos (-w)
theorem neg_zero_v : -(0 : V) = 0 := rfl
theorem lexConeN : Cone lexNeg where
  add := fun {u v} h1 h2 => by
    have e : -(u + v) = -u + -v := ext (by simp; lia) (by simp; lia) (by simp; lia)
    unfold lexNeg at *; rw [e]; exact lexCone.add h1 h2
  mul := fun {k u} hk h => by
    have e : -(k * u) = k * (-u) := ext (by simp; grind) (by simp; grind) (by simp; grind)
    unfold lexNeg at *; rw [e]; exact lexCone.mul hk h
  irr := by unfold lexNeg; rw [neg_zero_v]; exact lexCone.irr
theorem lex_tri (w : V) : lexPos w ∨ w = 0 ∨ lexNeg w := by
  unfold lexNeg lexPos
  rw [ext_iff']
  simp
  lia
end G

namespace DL
open PySem L2
/-! ### turns of a loop, all of which go on -/
def stepL (G : D → Ev → R Ev) (F : Ev → R Out) (d : D) (ρ : Ev) : R Out := match G d ρ with
  | .ok ρ1 => F ρ1
  | _ => .bad
@[simp] theorem stepL_name (i : Nat) (F : Ev → R Out) (d : D) (ρ : Ev) : stepL (fun d ρ => .ok (ρ.set i (Sl.v d))) F d ρ = F (ρ.set i (.v d)) := rfl
theorem forL_goes (Iv : Ev → Prop) : ∀ {ds : List D} {ρ : Ev}, (∀ d ∈ ds, ∀ ρ, Iv ρ → ∃ ρ2, stepL G F d ρ = .ok (.nx ρ2) ∧ Iv ρ2) → Iv ρ → ∃ ρ', forL G F ds ρ = .ok (.nx ρ') ∧ Iv ρ'
  | [], ρ, _, h => ⟨ρ, rfl, h⟩
  | d :: ds, ρ, ht, h => by
    obtain ⟨ρ2, e, h2⟩ := ht d List.mem_cons_self ρ h
    obtain ⟨ρ', e', h'⟩ := forL_goes Iv (ds := ds) (ρ := ρ2) (fun d hd => ht d (List.mem_cons_of_mem _ hd)) h2
    unfold stepL at e
    cases e1 : G d ρ with
    | ok ρ1 =>
      rw [e1] at e
      exact ⟨ρ', by rw [forL, e1]; dsimp only at e ⊢; rw [e]; exact e', h'⟩
    | ex x => rw [e1] at e; cases e
    | bad => rw [e1] at e; cases e
theorem ret_goes (Iv : Ev → Prop) (ht : ∀ d ∈ ds, ∀ ρ, Iv ρ → ∃ ρ2, stepL G F d ρ = .ok (.nx ρ2) ∧ Iv ρ2) (h0 : Iv ρ) (h2 : ∀ ρ', Iv ρ' → retR (F2 ρ') = .ok d) :
    retR (thenR (forL G F ds ρ) F2) = .ok d := by
  obtain ⟨ρ', e, h⟩ := forL_goes Iv ht h0
  rw [e]
  exact h2 ρ' h
@[simp] theorem forL_nil (G : D → Ev → R Ev) (F : Ev → R Out) (ρ : Ev) : forL G F [] ρ = .ok (.nx ρ) := rfl
/-- the usual loop: one name -/
theorem forL_name (h : F (ρ.set i (.v d)) = .ok (.nx ρ2)) : forL (fun d ρ => .ok (ρ.set i (Sl.v d))) F (d :: ds) ρ = forL (fun d ρ => .ok (ρ.set i (Sl.v d))) F ds ρ2 := by
  rw [forL]; dsimp only; rw [h]
theorem R_ok_inj {α : Type} {a b : α} : (R.ok a = R.ok b) = (a = b) := by simp

end DL
namespace DL
open PySem L2
/-! ### how great a number may be, found by its form -/
class Bd (a : Int) (n : outParam Nat) : Prop where
  h : bits a ≤ n
theorem bits_mono' (h : bits a ≤ m) (hm : m ≤ n) : bits a ≤ n := Nat.le_trans h hm
section

instance Bd.add [p : Bd a m] [q : Bd b n] : Bd (a + b) (m + n + 1) := ⟨bits_add (bits_mono' p.h (Nat.le_add_right m n)) (bits_mono' q.h (Nat.le_add_left n m))⟩
instance Bd.sub [p : Bd a m] [q : Bd b n] : Bd (a - b) (m + n + 1) := ⟨bits_sub (bits_mono' p.h (Nat.le_add_right m n)) (bits_mono' q.h (Nat.le_add_left n m))⟩
instance Bd.mul [p : Bd a m] [q : Bd b n] : Bd (a * b) (m + n) := ⟨bits_mul p.h q.h⟩
instance Bd.neg [p : Bd a m] : Bd (-a) m := ⟨bits_neg p.h⟩
instance Bd.fdiv [p : Bd a m] : Bd (a.fdiv b) m := ⟨bits_fdiv p.h⟩
theorem bits_nat (k : Nat) : bits (OfNat.ofNat k : Int) ≤ k.log2 + 1 := by
  refine bits_le ?_
  show ((k : Nat) : Int).natAbs < _
  rw [Int.natAbs_natCast]
  exact Nat.lt_log2_self
theorem mulR_bd [p : Bd a m] [q : Bd b n] (h1 : m ≤ 60000000) (h2 : n ≤ 60000000) : mulR (.int a) (.int b) = .ok (.int (a * b)) := mulR_int ⟨Nat.le_trans p.h h1, Nat.le_trans q.h h2⟩
end
instance Bd.l0 : Bd 0 1 := ⟨by decide⟩
instance Bd.l1 : Bd 1 1 := ⟨by decide⟩
instance Bd.l2 : Bd 2 2 := ⟨by decide⟩
instance Bd.l3 : Bd 3 2 := ⟨by decide⟩
instance Bd.l4 : Bd 4 3 := ⟨by decide⟩
instance Bd.l5 : Bd 5 3 := ⟨by decide⟩
instance Bd.l6 : Bd 6 3 := ⟨by decide⟩
instance Bd.l7 : Bd 7 3 := ⟨by decide⟩
instance Bd.l9 : Bd 9 4 := ⟨by decide⟩
instance Bd.l10 : Bd 10 4 := ⟨by decide⟩
theorem Bd.of (h : bits a ≤ n) : Bd a n := ⟨h⟩
/-- a rest -/
theorem Bd.fmod {a b : Int} {n : Nat} (h0 : b ≠ 0) [q : Bd b n] : Bd (a.fmod b) n := ⟨bits_fmod h0 q.h⟩
/-! ### points -/
abbrev vd (v : G.V) : D := .tup [.int v.x, .int v.y, .int v.z]
def Sz (n : Nat) (v : G.V) : Prop := bits v.x ≤ n ∧ bits v.y ≤ n ∧ bits v.z ≤ n
theorem Sz.mono (h : Sz m v) (hm : m ≤ n := by decide) : Sz n v := ⟨bits_mono' h.1 hm, bits_mono' h.2.1 hm, bits_mono' h.2.2 hm⟩
theorem Sz.sub (h : Sz n u) (h' : Sz n v) : Sz (n + 1) (u - v) := ⟨bits_sub h.1 h'.1, bits_sub h.2.1 h'.2.1, bits_sub h.2.2 h'.2.2⟩
theorem Sz.add (h : Sz n u) (h' : Sz n v) : Sz (n + 1) (u + v) := ⟨bits_add h.1 h'.1, bits_add h.2.1 h'.2.1, bits_add h.2.2 h'.2.2⟩
theorem Sz.smul (hk : bits k ≤ m) (h : Sz n v) : Sz (m + n) (k * v) := ⟨bits_mul hk h.1, bits_mul hk h.2.1, bits_mul hk h.2.2⟩
theorem Sz.cr (h : Sz m u) (h' : Sz n v) : Sz (m + n + 1) (G.cr u v) := ⟨bits_sub (bits_mul h.2.1 h'.2.2) (bits_mul h.2.2 h'.2.1), bits_sub (bits_mul h.2.2 h'.1) (bits_mul h.1 h'.2.2), bits_sub (bits_mul h.1 h'.2.1) (bits_mul h.2.1 h'.1)⟩
theorem bits_dot (h : Sz m u) (h' : Sz n v) : bits (G.dot u v) ≤ m + n + 2 := bits_add (bits_add (bits_mul h.1 h'.1) (bits_mul h.2.1 h'.2.1)) (bits_mono' (bits_mul h.2.2 h'.2.2) (Nat.le_succ _))
end DL

namespace M
open PySem L2 DL
@[simp] theorem sl9_0 (x0 x1 x2 x3 x4 x5 x6 x7 x8 : D) : slR (.lst [x0, x1, x2, x3, x4, x5, x6, x7, x8]) (some 0) (some 3) = .ok (.lst [x0, x1, x2]) := rfl
@[simp] theorem sl9_3 (x0 x1 x2 x3 x4 x5 x6 x7 x8 : D) : slR (.lst [x0, x1, x2, x3, x4, x5, x6, x7, x8]) (some 3) (some 6) = .ok (.lst [x3, x4, x5]) := rfl
@[simp] theorem sl9_6 (x0 x1 x2 x3 x4 x5 x6 x7 x8 : D) : slR (.lst [x0, x1, x2, x3, x4, x5, x6, x7, x8]) (some 6) (some 9) = .ok (.lst [x6, x7, x8]) := rfl
@[simp] theorem sl12_0 (x0 x1 x2 x3 x4 x5 x6 x7 x8 x9 x10 x11 : D) : slR (.lst [x0, x1, x2, x3, x4, x5, x6, x7, x8, x9, x10, x11]) (some 0) (some 3) = .ok (.lst [x0, x1, x2]) := rfl
@[simp] theorem sl12_3 (x0 x1 x2 x3 x4 x5 x6 x7 x8 x9 x10 x11 : D) : slR (.lst [x0, x1, x2, x3, x4, x5, x6, x7, x8, x9, x10, x11]) (some 3) (some 6) = .ok (.lst [x3, x4, x5]) := rfl
@[simp] theorem sl12_6 (x0 x1 x2 x3 x4 x5 x6 x7 x8 x9 x10 x11 : D) : slR (.lst [x0, x1, x2, x3, x4, x5, x6, x7, x8, x9, x10, x11]) (some 6) (some 9) = .ok (.lst [x6, x7, x8]) := rfl
@[simp] theorem sl12_9 (x0 x1 x2 x3 x4 x5 x6 x7 x8 x9 x10 x11 : D) : slR (.lst [x0, x1, x2, x3, x4, x5, x6, x7, x8, x9, x10, x11]) (some 9) (some 12) = .ok (.lst [x9, x10, x11]) := rfl
/-! ### the defs that several laws reach, as functions of data -/
abbrev pt (a b c : Int) : D := .tup [.int a, .int b, .int c]
abbrev sz3 (n : Nat) (a b c : Int) : Prop := bits a ≤ n ∧ bits b ≤ n ∧ bits c ≤ n
/-! ### mirrors by their arguments: a point, four ints, a list, a tuple, the end -/
def v1 (k : Int → Int → Int → List D → R D) : List D → R D
  | .tup [.int a, .int b, .int c] :: ds => k a b c ds
  | _ => .bad
def v4 (k : Int → Int → Int → Int → List D → R D) : List D → R D
  | .tup [.int a, .int b, .int c, .int d] :: ds => k a b c d ds
  | _ => .bad
def lsD (k : List D → List D → R D) : List D → R D
  | .lst xs :: ds => k xs ds
  | _ => .bad
def tpD (k : List D → List D → R D) : List D → R D
  | .tup xs :: ds => k xs ds
  | _ => .bad
def itD (k : Int → List D → R D) : List D → R D
  | .int a :: ds => k a ds
  | _ => .bad
theorem itD_ok {k : Int → List D → R D} {ds : List D} {r : D} (h : itD k ds = .ok r) : ∃ a e, ds = .int a :: e ∧ k a e = .ok r := by
  unfold itD at h
  split at h
  · exact ⟨_, _, rfl, h⟩
  · cases h
def nlD (q : R D) : List D → R D
  | [] => q
  | _ => .bad
theorem v1_ok (h : v1 k ds = .ok r) : ∃ a b c e, ds = .tup [.int a, .int b, .int c] :: e ∧ k a b c e = .ok r := by
  unfold v1 at h
  split at h
  · exact ⟨_, _, _, _, rfl, h⟩
  · cases h
theorem v4_ok (h : v4 k ds = .ok r) : ∃ a b c d e, ds = .tup [.int a, .int b, .int c, .int d] :: e ∧ k a b c d e = .ok r := by
  unfold v4 at h
  split at h
  · exact ⟨_, _, _, _, _, rfl, h⟩
  · cases h
theorem lsD_ok (h : lsD k ds = .ok r) : ∃ xs e, ds = .lst xs :: e ∧ k xs e = .ok r := by
  unfold lsD at h
  split at h
  · exact ⟨_, _, rfl, h⟩
  · cases h
theorem tpD_ok (h : tpD k ds = .ok r) : ∃ xs e, ds = .tup xs :: e ∧ k xs e = .ok r := by
  unfold tpD at h
  split at h
  · exact ⟨_, _, rfl, h⟩
  · cases h
theorem nlD_ok (h : nlD q ds = .ok r) : ds = [] ∧ q = .ok r := by
  unfold nlD at h
  split at h
  · exact ⟨rfl, h⟩
  · cases h
def m_way_between : List D → R D
  | [.tup [.int a, .int b, .int c], .tup [.int a', .int b', .int c']] => .ok (pt (a' - a) (b' - b) (c' - c))
  | _ => .bad
def m_cross_of : List D → R D
  | [.tup [.int a, .int b, .int c], .tup [.int d, .int e, .int f]] => if sz3 20000000 a b c ∧ sz3 20000000 d e f then .ok (pt (b * f - c * e) (c * d - a * f) (a * e - b * d)) else .bad
  | _ => .bad
def m_product_of : List D → R D
  | [.tup (.int a :: .int b :: .int c :: _), .tup [.int d, .int e, .int f]] => if sz3 50000000 a b c ∧ sz3 50000000 d e f then .ok (.int (a * d + b * e + c * f)) else .bad
  | _ => .bad
@[simp] theorem way_ok (P Q : G.V) : m_way_between [vd P, vd Q] = .ok (vd (Q - P)) := rfl
theorem cross_ok (h1 : Sz 20000000 u) (h2 : Sz 20000000 v) : m_cross_of [vd u, vd v] = .ok (vd (G.cr u v)) := if_pos ⟨h1, h2⟩
theorem prod_ok (h1 : Sz 50000000 u) (h2 : Sz 50000000 v) : m_product_of [vd u, vd v] = .ok (.int (G.dot u v)) := if_pos ⟨h1, h2⟩
/-- the lift -/
def liftV (P Q R S : G.V) : Int := G.dot (G.cr (Q - P) (R - P)) (S - P)
open Classical in
noncomputable def m_lift_of : List D → R D
  | [.tup [.int a, .int b, .int c], .tup [.int d, .int e, .int f], .tup [.int g, .int h, .int i], .tup [.int j, .int k, .int l]] =>
    if Sz 1000000 ⟨a, b, c⟩ ∧ Sz 1000000 ⟨d, e, f⟩ ∧ Sz 1000000 ⟨g, h, i⟩ ∧ Sz 1000000 ⟨j, k, l⟩ then .ok (.int (liftV ⟨a, b, c⟩ ⟨d, e, f⟩ ⟨g, h, i⟩ ⟨j, k, l⟩)) else .bad
  | _ => .bad
theorem lift_ok {P Q R S : G.V} (h1 : Sz 1000000 P) (h2 : Sz 1000000 Q) (h3 : Sz 1000000 R) (h4 : Sz 1000000 S) : m_lift_of [vd P, vd Q, vd R, vd S] = .ok (.int (liftV P Q R S)) := if_pos ⟨h1, h2, h3, h4⟩
def rule (k : Int) : Int := 7 * k * k + 10 * k + 3
def m_law_cell : List D → R D
  | [.lst xs, .int k] => if 0 ≤ k ∧ k ≤ 1000 then .ok (cellD rule xs k) else .bad
  | _ => .bad
def m_law_whole : List D → R D
  | [d] => .ok (.bl (wholeD d))
  | _ => .bad
def P64 : Int := 10 ^ 64
def P34 : Int := 10 ^ 34
def great : Int := P64 * P34
def num (c : Int) : Int :=
  if c.fmod 5 = 0 then (c.fdiv 5 * (great.fdiv 8675309 + 11)).fmod (2 * great + 1) - great
  else if c.fmod 5 = 1 then (c.fdiv 5).fmod 2000001 - 1000000 else (c.fdiv 5).fmod 15 - 7
def m_law_number : List D → R D
  | [.int c] => if bits c ≤ 2000000 then .ok (.int (num c)) else .bad
  | _ => .bad
theorem num_ok (h : bits c ≤ 2000000) : m_law_number [.int c] = .ok (.int (num c)) := if_pos h
theorem num_bits (c : Int) : bits (num c) ≤ 400 := by
  unfold num
  split
  · exact bits_mono (bits_sub (bits_fmod (by decide +kernel) (show bits (2 * great + 1) ≤ 390 by decide +kernel)) (show bits great ≤ 390 by decide +kernel))
  · split
    · exact bits_mono (bits_sub (bits_fmod (by decide) (show bits 2000001 ≤ 30 by decide)) (show bits 1000000 ≤ 30 by decide))
    · exact bits_mono (bits_sub (bits_fmod (by decide) (show bits 15 ≤ 30 by decide)) (show bits 7 ≤ 30 by decide))
theorem cell_ok (hi : IntsOf 1048576 xs) (k : Int) (h0 : 0 ≤ k) (h1 : k ≤ 100) : ∃ c, m_law_cell [.lst xs, .int k] = .ok (.int c) ∧ bits c ≤ 2000000 := by
  obtain ⟨c, e, hb⟩ := cellD_int hi rule k
  refine ⟨c, by rw [m_law_cell, if_pos ⟨h0, by omega⟩, e], ?_⟩
  rcases hb with hb | rfl
  · exact bits_mono hb
  · unfold rule
    have hk : bits k ≤ 10 := bits_of_abs (by omega) (by omega)
    have h7 : bits (7 * k) ≤ 20 := bits_mono (bits_mul (show bits 7 ≤ 10 by decide) hk)
    have h10 : bits (10 * k) ≤ 40 := bits_mono (bits_mul (show bits 10 ≤ 10 by decide) hk)
    exact bits_mono (bits_add (n := 41) (bits_add (n := 40) (bits_mono (bits_mul h7 hk)) h10) (show bits 3 ≤ 41 by decide))
/-- the sign -/
def sgn (x : Int) : Int := if 0 < x then 1 else if x < 0 then -1 else 0
def m_side_of : List D → R D := v4 fun a b c d => v1 fun x y z => nlD (if sz3 50000000 a b c ∧ sz3 50000000 x y z then .ok (.int (sgn (a * x + b * y + c * z - d))) else .bad)
theorem side_ok (h1 : sz3 50000000 a b c) (h2 : sz3 50000000 x y z) : m_side_of [.tup [.int a, .int b, .int c, .int d], pt x y z] = .ok (.int (sgn (a * x + b * y + c * z - d))) := if_pos ⟨h1, h2⟩
/-- the greatest common divisor, as the laws find it -/
def m_law_divisor : List D → R D
  | [.int a, .int b] => .ok (.int (Int.gcd a b))
  | _ => .bad
theorem gcd_fmod (a b : Int) : Int.gcd b (a.fmod b) = Int.gcd a b := by
  rw [Int.fmod_def, Int.gcd_sub_mul_left_right, Int.gcd_comm]
theorem fmod_lt {a b : Int} (h : b ≠ 0) : (a.fmod b).natAbs < b.natAbs := by
  have f := PyProof.Rows.fdiv_fmod_facts a b
  rcases Int.lt_trichotomy b 0 with z | z | z
  · have g := f.2.2.2 z; omega
  · exact absurd z h
  · have g := f.2.2.1 z; omega
/-- a turn for each lesser remainder -/
def fuel1 (i : Nat) (ρ : Ev) : Nat := match ρ[i]? with
  | some (.v (.int b)) => b.natAbs + 2
  | _ => 0
theorem bits_gcd (ha : bits a ≤ n) (hb : bits b ≤ n) : bits (Int.gcd a b) ≤ n := by
  refine bits_le ?_
  have h1 := lt_bits ha
  have h2 := lt_bits hb
  have e : ((Int.gcd a b : Nat) : Int).natAbs = Int.gcd a b := by simp
  rw [e]
  unfold Int.gcd
  rcases Nat.eq_zero_or_pos a.natAbs with z | z
  · rw [z, Nat.gcd_zero_left]; exact h2
  · exact Nat.lt_of_le_of_lt (Nat.gcd_le_left _ z) h1
end M

namespace G
theorem sub_self_v (v : V) : v - v = 0 := ext (by simp) (by simp) (by simp)
theorem det_zero3 (a u : V) : det a u 0 = 0 := by simp [det, dot]
theorem det_zero2 (a u : V) : det a 0 u = 0 := by simp [det, dot]
theorem det_neg3 (a u v : V) : det a u (-v) = - det a u v := by simp [det, dot]; grind
theorem det_neg2 (a u v : V) : det a (-u) v = - det a u v := by simp [det, dot]; grind
/-- points of a plane in a row -/
structure Row (n : V) (Pos : V → Prop) (T : V → Prop) : Prop where
  cone : Cone Pos
  nz : n ≠ 0
  pl : ∀ X Y, T X → T Y → dot n (X - Y) = 0
  tot : ∀ X Y, T X → T Y → X = Y ∨ Pos (X - Y) ∨ Pos (Y - X)
/-- X lies at the left of a .. b, or between -/
def Lft (n : V) (Pos : V → Prop) (a b X : V) : Prop := 0 ≤ det n (b - a) (X - a) ∧ (det n (b - a) (X - a) = 0 → (X = a ∨ Pos (X - a)) ∧ (X = b ∨ Pos (b - X)))
def turn (n P Q R : V) : Int := det n (Q - P) (R - Q)
def pops (n P : V) : List V → List V
  | b :: a :: r => if turn n a b P ≤ 0 then pops n P (a :: r) else b :: a :: r
  | r => r
def chain (n : V) (ps : List V) : List V := ps.foldl (fun c P => P :: pops n P c) []
def Edges : List V → List (V × V)
  | b :: a :: r => (a, b) :: Edges (a :: r)
  | _ => []
def Bends (n : V) : List V → Prop
  | b :: a :: a' :: r => 0 < det n (a - a') (b - a) ∧ Bends n (a :: a' :: r)
  | _ => True
theorem Bends.tail (h : Bends n (b :: r)) : Bends n r := by
  match r, h with
  | [], _ => trivial
  | [_], _ => trivial
  | _ :: _ :: _, h => exact h.2
theorem edges_tail (h : e ∈ Edges r) : e ∈ Edges (b :: r) := by
  match r, h with
  | a :: r, h => exact List.mem_cons_of_mem _ h
section
variable {n : V} {Pos : V → Prop} {T : V → Prop} (F : Row n Pos T)
include F
theorem Row.pl2 {A B C D : V} (hA : T A) (hB : T B) : dot n (A - B) = 0 := F.pl A B hA hB
theorem Row.flat (hA : T A) (hB : T B) (hC : T C) (hD : T D) (hE : T E) (hG : T G) : det (A - B) (C - D) (E - G) = 0 := det_flat F.nz (F.pl _ _ hA hB) (F.pl _ _ hC hD) (F.pl _ _ hE hG)
structure ChOk (n : V) (Pos : V → Prop) (done : V → Prop) (c : List V) : Prop where
  mem : ∀ X ∈ c, done X
  ed : ∀ e ∈ Edges c, Pos (e.2 - e.1) ∧ ∀ X, done X → Lft n Pos e.1 e.2 X
  bend : Bends n c
  last : ∀ X, done X → ∀ z, c.getLast? = some z → X = z ∨ Pos (X - z)
/-- strictly at the left of the last edge is at the left of all -/
theorem Row.left_all {done : V → Prop} (hd : ∀ X, done X → T X) (hx : Pos x) (hn : dot n x = 0) : ∀ (c : List V), (∀ X ∈ c, done X) → (∀ e ∈ Edges c, Pos (e.2 - e.1)) → Bends n c → (∀ b a r, c = b :: a :: r → 0 < det n (b - a) x) → ∀ e ∈ Edges c, 0 < det n (e.2 - e.1) x
  | [], _, _, _, _, e, he => by cases he
  | [_], _, _, _, _, e, he => by cases he
  | [b, a], _, _, _, h, e, he => by
    simp [Edges] at he; subst he; exact h b a [] rfl
  | b :: a :: a' :: r, hm, hp, hb, h, e, he => by
    have hba := h b a _ rfl
    rcases List.mem_cons.mp he with q | q
    · subst q; exact hba
    · refine Row.left_all hd hx hn (a :: a' :: r) (fun X hX => hm X (List.mem_cons_of_mem _ hX)) (fun e he => hp e (edges_tail he)) hb.tail ?_ e q
      intro b1 a1 r1 e1
      injection e1 with e1 e2
      injection e2 with e2 e3
      subst e1 e2
      have p1 := hp (a', a) (edges_tail (by simp [Edges]))
      have p2 := hp (a, b) (by simp [Edges])
      exact F.cone.tr p1 p2 hx (det_flat F.nz (F.pl _ _ (hd _ (hm _ (by simp))) (hd _ (hm _ (by simp)))) (F.pl _ _ (hd _ (hm _ (by simp))) (hd _ (hm _ (by simp)))) hn) hb.1 (Int.le_of_lt hba)
theorem Row.weak (hu : Pos u) (hv : Pos v) (hw : Pos w) (pu : dot n u = 0) (pv : dot n v = 0) (pw : dot n w = 0) (h1 : 0 ≤ det n u v) (h2 : 0 ≤ det n v w) : 0 ≤ det n u w := by
  have hf := det_flat F.nz pu pv pw
  by_cases z1 : 0 < det n u v
  · exact Int.le_of_lt (F.cone.tr hu hv hw hf z1 h2)
  · by_cases z2 : 0 < det n v w
    · exact Int.le_of_lt (F.cone.tr' hu hv hw hf h1 z2)
    · have e1 : det n u v = 0 := by lia
      have e2 : det n v w = 0 := by lia
      have h := rel4 n u v w
      rw [e1, e2, hf, mul_zero_v, mul_zero_v, mul_zero_v, zero_add_v, zero_add_v] at h
      by_cases z : det n w u = 0
      · rw [det_swap]; lia
      · exfalso
        have e : v = 0 := by
          have hx := congrArg V.x h
          have hy := congrArg V.y h
          have hz := congrArg V.z h
          simp at hx hy hz
          exact ext ((Int.mul_eq_zero.mp hx).resolve_left z) ((Int.mul_eq_zero.mp hy).resolve_left z) ((Int.mul_eq_zero.mp hz).resolve_left z)
        rw [e] at hv
        exact F.cone.irr hv
/-- the pops: X behind the head lies at the left of head .. P -/
theorem Row.pops_ok {done : V → Prop} (hd : ∀ X, done X → T X) (hP : T P) (hlt : ∀ X, done X → Pos (P - X)) : ∀ (c : List V), ChOk n Pos done c → c ≠ [] →
    (∀ X q, c.head? = some q → done X → (X = q ∨ Pos (X - q)) → 0 ≤ det n (P - q) (X - q)) →
    ∃ q r, pops n P c = q :: r ∧ ChOk n Pos done (q :: r) ∧ (∀ X, done X → (X = q ∨ Pos (X - q)) → 0 ≤ det n (P - q) (X - q)) ∧ ∀ a r', r = a :: r' → 0 < turn n a q P
  | [], _, h, _ => absurd rfl h
  | [b], ok, _, hh => ⟨b, [], rfl, ok, fun X hX h => hh X b rfl hX h, fun a r' e => by cases e⟩
  | b :: a :: r, ok, _, hh => by
    by_cases ht : turn n a b P ≤ 0
    · have e : pops n P (b :: a :: r) = pops n P (a :: r) := by rw [pops, if_pos ht]
      rw [e]
      have db := ok.mem b (by simp)
      have da := ok.mem a (by simp)
      have eb := ok.ed (a, b) (by simp [Edges])
      refine Row.pops_ok hd hP hlt (a :: r) ⟨fun X hX => ok.mem X (List.mem_cons_of_mem _ hX), fun e he => ok.ed e (edges_tail he), ok.bend.tail, fun X hX z hz => ok.last X hX z (by rw [List.getLast?_cons_cons]; exact hz)⟩ (by simp) ?_
      intro X q hq hX hXq
      have hq' : a = q := Option.some.inj hq
      subst hq'
      have hu : Pos (b - a) := eb.1
      have hp : Pos (P - b) := hlt b db
      have hpa : Pos (P - a) := hlt a da
      have pu : dot n (b - a) = 0 := F.pl _ _ (hd _ db) (hd _ da)
      have pp : dot n (P - b) = 0 := F.pl _ _ hP (hd _ db)
      have ppa : dot n (P - a) = 0 := F.pl _ _ hP (hd _ da)
      unfold turn at ht
      have hpu : 0 ≤ det n (P - b) (b - a) := by rw [det_swap]; lia
      rcases F.tot X b (hd X hX) (hd b db) with z | z | z
      · -- X is b
        subst z
        have e1 : P - a = (P - X) + (X - a) := ext (by simp; lia) (by simp; lia) (by simp; lia)
        rw [e1, det_add2, det_self]; lia
      · -- X behind b
        have hx := hh X b rfl hX (.inr z)
        have px : dot n (X - b) = 0 := F.pl _ _ (hd _ hX) (hd _ db)
        have hPX : Pos (P - X) := hlt X hX
        -- ([u,x] + [p,u] + [p,x]) p = [p,x](u+p) + [p,u](p-x)
        have key : det n (P - a) (X - a) * (P - b) = det n (P - b) (X - b) * (P - a) + det n (P - b) (b - a) * (P - X) := by
          have hr := rel4 n (b - a) (X - b) (P - b)
          rw [det_flat F.nz pu px pp, mul_zero_v] at hr
          have e1 : P - a = (b - a) + (P - b) := ext (by simp; lia) (by simp; lia) (by simp; lia)
          have e2 : X - a = (b - a) + (X - b) := ext (by simp; lia) (by simp; lia) (by simp; lia)
          have e3 : P - X = (P - b) - (X - b) := ext (by simp; lia) (by simp; lia) (by simp; lia)
          rw [e1, e2, e3]
          generalize b - a = u at *
          generalize X - b = x at *
          generalize P - b = p at *
          rw [det_add2, det_add3, det_add3, det_self]
          have hx := congrArg V.x hr
          have hy := congrArg V.y hr
          have hz := congrArg V.z hr
          rw [det_swap n p x] at hr hx hy hz
          simp at hx hy hz
          have s1 := det_swap n p x
          have s2 := det_swap n p u
          have s3 := det_swap n u x
          apply ext <;> simp <;> grind
        by_cases zz : 0 ≤ det n (P - a) (X - a)
        · exact zz
        · exfalso
          have h1 : Pos ((- det n (P - a) (X - a)) * (P - b)) := F.cone.mul (by lia) hp
          have h2 : Pos (- det n (P - a) (X - a) * (P - b) + (det n (P - b) (X - b) * (P - a) + det n (P - b) (b - a) * (P - X))) := by
            by_cases y1 : det n (P - b) (X - b) = 0
            · rw [y1, mul_zero_v, zero_add_v]
              by_cases y2 : det n (P - b) (b - a) = 0
              · rw [y2, mul_zero_v, add_zero_v]; exact h1
              · exact F.cone.add h1 (F.cone.mul (by lia) hPX)
            · exact F.cone.add h1 (F.cone.comb (by lia) hpu hpa hPX)
          rw [← key] at h2
          have e0 : - det n (P - a) (X - a) * (P - b) + det n (P - a) (X - a) * (P - b) = 0 := by apply ext <;> simp <;> grind
          rw [e0] at h2
          exact F.cone.irr h2
      · -- X between a and b
        rcases hXq with hXa | hXa
        · subst hXa; rw [sub_self_v, det_zero3]; exact Int.le_refl _
        · have hl := (eb.2 X hX).1
          have hpu' : 0 ≤ det n (P - a) (b - a) := by
            have e1 : P - a = (P - b) + (b - a) := ext (by simp; lia) (by simp; lia) (by simp; lia)
            rw [e1, det_add2, det_self]; lia
          exact F.weak hpa hu hXa ppa pu (F.pl _ _ (hd _ hX) (hd _ da)) hpu' hl
    · have e : pops n P (b :: a :: r) = b :: a :: r := by rw [pops, if_neg ht]
      refine ⟨b, a :: r, e, ok, fun X hX h => hh X b rfl hX h, fun a' r' e' => ?_⟩
      injection e' with e1 _
      subst e1
      lia
/-- one more point -/
theorem Row.push {done : V → Prop} (hd : ∀ X, done X → T X) (hP : T P) (hlt : ∀ X, done X → Pos (P - X)) (ok : ChOk n Pos done c) (hc : c ≠ []) (hh : ∀ X q, c.head? = some q → done X → X = q ∨ Pos (q - X)) :
    ChOk n Pos (fun X => done X ∨ X = P) (P :: pops n P c) := by
  obtain ⟨q, r, e, ok', hq, ht⟩ := F.pops_ok hd hP hlt c ok hc (fun X q hq hX h => by
    rcases h with h | h
    · subst h; rw [sub_self_v, det_zero3]; exact Int.le_refl _
    · exfalso
      rcases hh X q hq hX with z | z
      · subst z; rw [sub_self_v] at h; exact F.cone.irr h
      · have := F.cone.add h z
        have e0 : X - q + (q - X) = 0 := ext (by simp; lia) (by simp; lia) (by simp; lia)
        rw [e0] at this; exact F.cone.irr this)
  rw [e]
  have dq := ok'.mem q (by simp)
  have hpq : Pos (P - q) := hlt q dq
  have ppq : dot n (P - q) = 0 := F.pl _ _ hP (hd _ dq)
  refine ⟨fun X hX => ?_, fun g he => ?_, ?_, fun X hX z hz => ?_⟩
  · rcases List.mem_cons.mp hX with h | h
    · exact .inr h
    · exact .inl (ok'.mem X h)
  · rcases List.mem_cons.mp he with h | h
    · subst h
      refine ⟨hpq, fun X hX => ?_⟩
      rcases hX with hX | hX
      · rcases F.tot X q (hd _ hX) (hd _ dq) with z | z | z
        · subst z
          exact ⟨by rw [sub_self_v, det_zero3]; exact Int.le_refl _, fun _ => ⟨.inl rfl, .inr hpq⟩⟩
        · exact ⟨hq X hX (.inr z), fun _ => ⟨.inr z, .inr (hlt X hX)⟩⟩
        · -- X ahead of q
          have : 0 < det n (P - q) (X - q) := by
            match r, ht, ok' with
            | [], _, ok' =>
              rcases ok'.last X hX q rfl with y | y
              · subst y; rw [sub_self_v] at z; exact absurd z F.cone.irr
              · exfalso
                have := F.cone.add y z
                have e0 : X - q + (q - X) = 0 := ext (by simp; lia) (by simp; lia) (by simp; lia)
                rw [e0] at this; exact F.cone.irr this
            | a :: r', ht, ok' =>
              have h1 := ht a r' rfl
              unfold turn at h1
              have da := ok'.mem a (by simp)
              have ea := ok'.ed (a, q) (by simp [Edges])
              have hl := (ea.2 X hX).1
              have e1 : X - a = (q - a) - (q - X) := ext (by simp; lia) (by simp; lia) (by simp; lia)
              dsimp only at hl
              rw [e1, det_sub3, det_self] at hl
              have hl' : 0 ≤ det n (q - X) (q - a) := by rw [det_swap]; lia
              have := F.cone.tr' (a := n) z ea.1 hpq (det_flat F.nz (F.pl _ _ (hd _ dq) (hd _ hX)) (F.pl _ _ (hd _ dq) (hd _ da)) ppq) hl' h1
              have e2 : X - q = -(q - X) := ext (by simp; lia) (by simp; lia) (by simp; lia)
              rw [e2, det_neg3, det_swap]; lia
          exact ⟨Int.le_of_lt this, fun z => by dsimp only at z; lia⟩
      · subst hX
        exact ⟨by rw [det_self]; exact Int.le_refl _, fun _ => ⟨.inr hpq, .inl rfl⟩⟩
    · -- an edge that was there
      have hed := ok'.ed g h
      refine ⟨hed.1, fun X hX => ?_⟩
      rcases hX with hX | hX
      · exact hed.2 X hX
      · subst hX
        have h1 := F.left_all hd hpq ppq (q :: r) ok'.mem (fun e he => (ok'.ed e he).1) ok'.bend (fun b a r' e' => by
          injection e' with e1 e2
          subst e1
          exact ht a r' e2) g h
        have h2 := (hed.2 q dq).1
        have : 0 < det n (g.2 - g.1) (X - g.1) := by
          have e1 : X - g.1 = (q - g.1) + (X - q) := ext (by simp; lia) (by simp; lia) (by simp; lia)
          rw [e1, det_add3]; lia
        exact ⟨Int.le_of_lt this, fun z => by lia⟩
  · match r, ht, ok' with
    | [], _, _ => trivial
    | a :: r', ht, ok' => exact ⟨ht a r' rfl, ok'.bend⟩
  · rcases hX with hX | hX
    · exact ok'.last X hX z (by rw [List.getLast?_cons_cons] at hz; exact hz)
    · subst hX
      have hz' : (q :: r).getLast? = some z := by rw [List.getLast?_cons_cons] at hz; exact hz
      exact .inr (hlt z (ok'.mem z (List.mem_of_getLast? hz')))
end
end G

namespace G
section
variable {n : V} {Pos : V → Prop} {T : V → Prop} (F : Row n Pos T)
include F
theorem ChOk.congr {done done' : V → Prop} (ok : ChOk n Pos done c) (h : ∀ X, done X ↔ done' X) : ChOk n Pos done' c :=
  ⟨fun X hX => (h X).mp (ok.mem X hX), fun e he => ⟨(ok.ed e he).1, fun X hX => (ok.ed e he).2 X ((h X).mpr hX)⟩, ok.bend, fun X hX => ok.last X ((h X).mpr hX)⟩
theorem Row.fold : ∀ (rest : List V) (done : V → Prop) (c : List V), ChOk n Pos done c → c ≠ [] → (∀ X q, c.head? = some q → done X → X = q ∨ Pos (q - X)) → (∀ X, done X → T X) → (∀ X ∈ rest, T X) →
    (∀ X Y, done X → Y ∈ rest → Pos (Y - X)) → rest.Pairwise (fun a b => Pos (b - a)) →
    ChOk n Pos (fun X => done X ∨ X ∈ rest) (rest.foldl (fun c P => P :: pops n P c) c) ∧ rest.foldl (fun c P => P :: pops n P c) c ≠ [] ∧ (∀ X q, (rest.foldl (fun c P => P :: pops n P c) c).head? = some q → (done X ∨ X ∈ rest) → X = q ∨ Pos (q - X))
  | [], done, c, ok, hc, hh, hd, ht, hlt, hs => ⟨ChOk.congr F ok fun X => by simp, hc, fun X q hq hX => by
      rcases hX with hX | hX
      · exact hh X q hq hX
      · cases hX⟩
  | P :: rest, done, c, ok, hc, hh, hd, ht, hlt, hs => by
    have hP := ht P (by simp)
    have ok' := F.push hd hP (fun X hX => hlt X P hX (by simp)) ok hc hh
    have hs' := List.pairwise_cons.mp hs
    obtain ⟨h1, h2, h3⟩ := Row.fold rest (fun X => done X ∨ X = P) (P :: pops n P c) ok' (by simp) (fun X q hq hX => by
        have hq' : P = q := Option.some.inj hq
        subst hq'
        rcases hX with hX | hX
        · exact .inr (hlt X P hX (by simp))
        · exact .inl hX) (fun X hX => by
        rcases hX with hX | hX
        · exact hd X hX
        · subst hX; exact hP) (fun X hX => ht X (List.mem_cons_of_mem _ hX)) (fun X Y hX hY => by
        rcases hX with hX | hX
        · exact hlt X Y hX (List.mem_cons_of_mem _ hY)
        · subst hX; exact hs'.1 Y hY) hs'.2
    have e : ∀ X, ((done X ∨ X = P) ∨ X ∈ rest) ↔ (done X ∨ X ∈ P :: rest) := fun X => by simp [or_assoc]
    exact ⟨ChOk.congr F h1 e, h2, fun X q hq hX => h3 X q hq ((e X).mpr hX)⟩
theorem Row.chain_ok (hne : ps ≠ []) (ht : ∀ X ∈ ps, T X) (hs : ps.Pairwise (fun a b => Pos (b - a))) :
    ChOk n Pos (fun X => X ∈ ps) (chain n ps) ∧ chain n ps ≠ [] ∧ (∀ X q, (chain n ps).head? = some q → X ∈ ps → X = q ∨ Pos (q - X)) := by
  match ps, hne with
  | p :: rest, _ =>
    have hs' := List.pairwise_cons.mp hs
    have ok : ChOk n Pos (fun X => X = p) [p] := ⟨fun X hX => by simpa using hX, fun e he => by simp [Edges] at he, trivial, fun X hX z hz => by
      simp at hz; subst hz; exact .inl hX⟩
    obtain ⟨h1, h2, h3⟩ := F.fold rest (fun X => X = p) [p] ok (by simp) (fun X q hq hX => by
      have hq' : p = q := Option.some.inj hq
      subst hq'; exact .inl hX) (fun X hX => by subst hX; exact ht _ (by simp)) (fun X hX => ht X (List.mem_cons_of_mem _ hX)) (fun X Y hX hY => by subst hX; exact hs'.1 Y hY) hs'.2
    have e : ∀ X, (X = p ∨ X ∈ rest) ↔ X ∈ p :: rest := fun X => by simp
    refine ⟨ChOk.congr F h1 e, h2, fun X q hq hX => h3 X q hq ((e X).mpr hX)⟩
end
/-! ### the ring -/
def ringOf (n : V) (ts : List V) : List V := (chain n ts).reverse.dropLast ++ (chain n ts.reverse).reverse.dropLast
def consec : List V → List (V × V)
  | a :: b :: r => (a, b) :: consec (b :: r)
  | _ => []
theorem consec_snoc : ∀ (l : List V) (a b : V), consec (l ++ [a] ++ [b]) = consec (l ++ [a]) ++ [(a, b)]
  | [], a, b => rfl
  | [x], a, b => rfl
  | x :: y :: l, a, b => by
    have := consec_snoc (y :: l) a b
    simp only [List.cons_append, consec] at this ⊢
    rw [this]
theorem consec_rev : ∀ c : List V, consec c.reverse = (Edges c).reverse
  | [] => rfl
  | [_] => rfl
  | b :: a :: r => by
    have ih := consec_rev (a :: r)
    rw [List.reverse_cons, List.reverse_cons] at *
    rw [consec_snoc, ih, Edges, List.reverse_cons]
theorem consec_glue : ∀ (l : List V) (a : V) (m : List V), consec (l ++ a :: m) = consec (l ++ [a]) ++ consec (a :: m)
  | [], a, m => by cases m <;> rfl
  | [x], a, m => rfl
  | x :: y :: l, a, m => by
    have := consec_glue (y :: l) a m
    simp only [List.cons_append, consec] at this ⊢
    rw [this]
/-- the pairs round -/
def cyc (l : List V) : List (V × V) := l.zip (l.tail ++ l.take 1)
theorem zip_consec : ∀ (l : List V) (z : V), l.zip (l.tail ++ [z]) = consec (l ++ [z])
  | [], z => rfl
  | [a], z => rfl
  | a :: b :: r, z => by
    have := zip_consec (b :: r) z
    simp only [List.tail_cons, List.cons_append, consec, List.zip_cons_cons] at this ⊢
    rw [this]
theorem cyc_consec : cyc (a :: l) = consec (a :: l ++ [a]) := zip_consec (a :: l) a
/-- the ring's pairs are those of both chains -/
theorem cyc_ring (h1 : chain n ts = M :: c) (h2 : chain n ts.reverse = m :: d) (h3 : (M :: c).getLast? = some m) (h4 : (m :: d).getLast? = some M) (hc : c ≠ []) :
    cyc (ringOf n ts) = (Edges (chain n ts)).reverse ++ (Edges (chain n ts.reverse)).reverse := by
  rw [← consec_rev, ← consec_rev]
  unfold ringOf
  rw [h1, h2, List.reverse_cons, List.reverse_cons, List.dropLast_concat, List.dropLast_concat]
  -- c.reverse begins with m
  have e1 : ∃ c', c.reverse = m :: c' := by
    have : c.getLast? = some m := by
      match c, hc with
      | x :: c, _ => rw [List.getLast?_cons_cons] at h3; exact h3
    rw [← List.head?_reverse] at this
    match hh : c.reverse, this with
    | x :: r, this => exact ⟨r, by rw [show x = m from Option.some.inj this]⟩
  obtain ⟨c', e1⟩ := e1
  have e2 : ∃ d', d.reverse ++ [m] = M :: d' := by
    have : (m :: d).reverse.head? = some M := by rw [List.head?_reverse]; exact h4
    rw [List.reverse_cons] at this
    match hh : d.reverse ++ [m], this with
    | x :: r, this => exact ⟨r, by rw [show x = M from Option.some.inj this]⟩
  obtain ⟨d', e2⟩ := e2
  have e3 : c.reverse ++ d.reverse = m :: (c' ++ d.reverse) := by rw [e1]; rfl
  rw [e3, cyc_consec]
  have e4 : m :: (c' ++ d.reverse) ++ [m] = c.reverse ++ (d.reverse ++ [m]) := by rw [e1]; simp
  rw [e4, e2, consec_glue]
end G

namespace G
theorem neg_sub_v (a b : V) : -(a - b) = b - a := ext (by simp; lia) (by simp; lia) (by simp; lia)
theorem lexNeg_sub : lexNeg (a - b) ↔ lexPos (b - a) := by unfold lexNeg; rw [neg_sub_v]
theorem lex_irr (h : lexPos (a - a)) : False := by rw [sub_self_v] at h; exact lexCone.irr h
theorem lex_asym (h : lexPos (a - b)) (h' : lexPos (b - a)) : False := by
  have := lexCone.add h h'
  have e0 : a - b + (b - a) = 0 := ext (by simp; lia) (by simp; lia) (by simp; lia)
  rw [e0] at this; exact lexCone.irr this
theorem lex_trans (h : lexPos (b - a)) (h' : lexPos (c - b)) : lexPos (c - a) := by
  have := lexCone.add h h'
  have e0 : b - a + (c - b) = c - a := ext (by simp; lia) (by simp; lia) (by simp; lia)
  rwa [e0] at this
theorem lex_tot (a b : V) : a = b ∨ lexPos (a - b) ∨ lexPos (b - a) := by
  rcases lex_tri (a - b) with h | h | h
  · exact .inr (.inl h)
  · refine .inl (ext ?_ ?_ ?_)
    · have := congrArg V.x h; simp at this; lia
    · have := congrArg V.y h; simp at this; lia
    · have := congrArg V.z h; simp at this; lia
  · exact .inr (.inr (lexNeg_sub.mp h))
def Btw (P Q X : V) : Prop := (lexPos (Q - P) → (X = P ∨ lexPos (X - P)) ∧ (X = Q ∨ lexPos (Q - X))) ∧ (lexPos (P - Q) → (X = P ∨ lexPos (P - X)) ∧ (X = Q ∨ lexPos (X - Q)))
structure EdgeOf (n : V) (T : V → Prop) (P Q : V) : Prop where
  p : T P
  q : T Q
  ne : P ≠ Q
  left : ∀ X, T X → 0 ≤ det n (Q - P) (X - P)
  btw : ∀ X, T X → det n (Q - P) (X - P) = 0 → Btw P Q X
section
variable {n : V} {T : V → Prop}
theorem EdgeOf.next (h : EdgeOf n T P Q) (h' : EdgeOf n T P R) : Q = R := by
  have h1 := h.left R h'.q
  have h2 := h'.left Q h.q
  rw [det_swap] at h2
  have z1 : det n (Q - P) (R - P) = 0 := by lia
  have z2 : det n (R - P) (Q - P) = 0 := by rw [det_swap]; lia
  have b1 := h.btw R h'.q z1
  have b2 := h'.btw Q h.q z2
  rcases lex_tot Q P with e | e | e
  · exact absurd e.symm h.ne
  · have c1 := b1.1 e
    have c2 : lexPos (R - P) := c1.1.resolve_left (Ne.symm h'.ne)
    rcases c1.2 with q | q
    · exact q.symm
    · rcases (b2.1 c2).2 with q' | q'
      · exact q'
      · exact (lex_asym q q').elim
  · have c1 := b1.2 e
    have c2 : lexPos (P - R) := c1.1.resolve_left (Ne.symm h'.ne)
    rcases c1.2 with q | q
    · exact q.symm
    · rcases (b2.2 c2).2 with q' | q'
      · exact q'
      · exact (lex_asym q q').elim
theorem det_base (n P Q X : V) : det n (Q - P) (X - P) = det n (Q - P) (X - Q) := by
  have e : X - P = (X - Q) + (Q - P) := ext (by simp; lia) (by simp; lia) (by simp; lia)
  rw [e, det_add3, det_self]; lia
theorem det_turn (n P Q X : V) : det n (Q - P) (X - P) = det n (Q - X) (P - X) * -1 := by simp [det, dot]; grind
theorem EdgeOf.prev (h : EdgeOf n T P R) (h' : EdgeOf n T Q R) : P = Q := by
  have h1 := h.left Q h'.p
  have h2 := h'.left P h.p
  have e1 : det n (R - Q) (P - Q) = - det n (R - P) (Q - P) := by simp [det, dot]; grind
  have z1 : det n (R - P) (Q - P) = 0 := by lia
  have z2 : det n (R - Q) (P - Q) = 0 := by lia
  have b1 := h.btw Q h'.p z1
  have b2 := h'.btw P h.p z2
  rcases lex_tot R P with e | e | e
  · exact absurd e.symm h.ne
  · have c1 := b1.1 e
    have c2 : lexPos (R - Q) := c1.2.resolve_left h'.ne
    rcases c1.1 with q | q
    · exact q.symm
    · rcases (b2.1 c2).1 with q' | q'
      · exact q'
      · exact (lex_asym q q').elim
  · have c1 := b1.2 e
    have c2 : lexPos (Q - R) := c1.2.resolve_left h'.ne
    rcases c1.1 with q | q
    · exact q.symm
    · rcases (b2.2 c2).1 with q' | q'
      · exact q'
      · exact (lex_asym q q').elim
end
/-- amid the edges of a chain -/
theorem locate {Pos : V → Prop} (X : V) : ∀ (c : List V), (∀ Y ∈ c, X = Y ∨ Pos (X - Y) ∨ Pos (Y - X)) → (∀ q, c.head? = some q → X = q ∨ Pos (q - X)) → (∀ z, c.getLast? = some z → X = z ∨ Pos (X - z)) → c ≠ [] →
    (∀ u, Pos u → Pos (-u) → False) → X ∈ c ∨ ∃ a b, (a, b) ∈ Edges c ∧ Pos (X - a) ∧ Pos (b - X)
  | [], _, _, _, h, _ => absurd rfl h
  | [q], _, h1, h2, _, as => by
    rcases h1 q rfl with e | e
    · exact .inl (by simp [e])
    · rcases h2 q rfl with e' | e'
      · exact .inl (by simp [e'])
      · exact (as _ e (by rw [neg_sub_v]; exact e')).elim
  | b :: a :: r, ht, h1, h2, _, as => by
    rcases h1 b rfl with e | e
    · exact .inl (by simp [e])
    · rcases ht a (by simp) with y | y | y
      · exact .inl (by simp [y])
      · exact .inr ⟨a, b, by simp [Edges], y, e⟩
      · rcases locate X (a :: r) (fun Y hY => ht Y (List.mem_cons_of_mem _ hY)) (fun q hq => by
          have : a = q := Option.some.inj hq
          subst this; exact .inr y) (fun z hz => h2 z (by rw [List.getLast?_cons_cons]; exact hz)) (by simp) as with h | ⟨a', b', h, h'⟩
        · exact .inl (List.mem_cons_of_mem _ h)
        · exact .inr ⟨a', b', edges_tail h, h'⟩
theorem Row.no_amid {Pos : V → Prop} {T : V → Prop} (F : Row n Pos T) (ha : T a) (hb : T b) (hP : T P) (hQ : T Q) (h1 : Pos (P - a)) (h2 : Pos (b - P)) (h3 : Pos (Q - P)) (h4 : 0 ≤ det n (b - a) (P - a)) (h5 : 0 < det n (Q - P) (a - P)) (h6 : 0 ≤ det n (Q - P) (b - P)) : False := by
  have e1 : det n (Q - P) (a - P) = det n (P - a) (Q - P) := by
    have e : a - P = -(P - a) := (neg_sub_v _ _).symm
    rw [e, det_neg3, det_swap]; lia
  rw [e1] at h5
  have := F.cone.tr h1 h3 h2 (det_flat F.nz (F.pl _ _ hP ha) (F.pl _ _ hQ hP) (F.pl _ _ hb hP)) h5 h6
  have e2 : b - a = (b - P) + (P - a) := ext (by simp; lia) (by simp; lia) (by simp; lia)
  rw [e2, det_add2, det_self, det_swap] at h4
  lia
/-- points in order on a plane -/
structure Sheet (n : V) (ts : List V) : Prop where
  nz : n ≠ 0
  pl : ∀ X ∈ ts, ∀ Y ∈ ts, dot n (X - Y) = 0
  ord : ts.Pairwise (fun a b => lexPos (b - a))
  two : ∃ X ∈ ts, ∃ Y ∈ ts, X ≠ Y
section
variable {n : V} {ts : List V} (S : Sheet n ts)
include S
theorem Sheet.row : Row n lexPos (fun X => X ∈ ts) := ⟨lexCone, S.nz, fun X Y hX hY => S.pl X hX Y hY, fun X Y _ _ => lex_tot X Y⟩
theorem Sheet.rowN : Row n lexNeg (fun X => X ∈ ts) := ⟨lexConeN, S.nz, fun X Y hX hY => S.pl X hX Y hY, fun X Y _ _ => by
  rcases lex_tot X Y with h | h | h
  · exact .inl h
  · exact .inr (.inr (lexNeg_sub.mpr h))
  · exact .inr (.inl (lexNeg_sub.mpr h))⟩
theorem Sheet.ne : ts ≠ [] := by
  obtain ⟨X, hX, _⟩ := S.two
  intro e; rw [e] at hX; cases hX
theorem Sheet.chain1 : ChOk n lexPos (fun X => X ∈ ts) (chain n ts) ∧ chain n ts ≠ [] ∧ (∀ X q, (chain n ts).head? = some q → X ∈ ts → X = q ∨ lexPos (q - X)) :=
  S.row.chain_ok S.ne (fun _ h => h) S.ord
theorem Sheet.chain2 : ChOk n lexNeg (fun X => X ∈ ts) (chain n ts.reverse) ∧ chain n ts.reverse ≠ [] ∧ (∀ X q, (chain n ts.reverse).head? = some q → X ∈ ts → X = q ∨ lexNeg (q - X)) := by
  have h := S.rowN.chain_ok (ps := ts.reverse) (by simpa using S.ne) (fun X h => by simpa using h) (by
    rw [List.pairwise_reverse]
    exact S.ord.imp fun h => lexNeg_sub.mpr h)
  obtain ⟨h1, h2, h3⟩ := h
  exact ⟨ChOk.congr S.rowN h1 fun X => by simp, h2, fun X q hq hX => h3 X q hq (by simpa using hX)⟩
theorem Sheet.edge1 (h : (a, b) ∈ Edges (chain n ts)) (ha : a ∈ ts) (hb : b ∈ ts) : EdgeOf n (fun X => X ∈ ts) a b ∧ lexPos (b - a) := by
  obtain ⟨e1, e2⟩ := S.chain1.1.ed _ h
  dsimp only at e1 e2
  refine ⟨⟨ha, hb, fun e => by subst e; exact lex_irr e1, fun X hX => (e2 X hX).1, fun X hX z => ⟨fun _ => (e2 X hX).2 z, fun y => (lex_asym e1 y).elim⟩⟩, e1⟩
theorem Sheet.edge2 (h : (a, b) ∈ Edges (chain n ts.reverse)) (ha : a ∈ ts) (hb : b ∈ ts) : EdgeOf n (fun X => X ∈ ts) a b ∧ lexPos (a - b) := by
  obtain ⟨e1, e2⟩ := S.chain2.1.ed _ h
  dsimp only at e1 e2
  have e1' := lexNeg_sub.mp e1
  refine ⟨⟨ha, hb, fun e => by subst e; exact lex_irr e1', fun X hX => (e2 X hX).1, fun X hX z => ⟨fun y => (lex_asym e1' y).elim, fun _ => ?_⟩⟩, e1'⟩
  obtain ⟨q1, q2⟩ := (e2 X hX).2 z
  exact ⟨q1.imp id lexNeg_sub.mp, q2.imp id lexNeg_sub.mp⟩
theorem edges_mem (h : (a, b) ∈ Edges c) : a ∈ c ∧ b ∈ c := by
  induction c with
  | nil => cases h
  | cons x c ih =>
    match c, h, ih with
    | [], h, _ => cases h
    | y :: r, h, ih =>
      rcases List.mem_cons.mp h with e | e
      · cases e; simp
      · have := ih e
        exact ⟨List.mem_cons_of_mem _ this.1, List.mem_cons_of_mem _ this.2⟩
/-- the ends of the chains -/
theorem Sheet.ends : ∃ m M c d, m ∈ ts ∧ M ∈ ts ∧ lexPos (M - m) ∧ (∀ X ∈ ts, X = m ∨ lexPos (X - m)) ∧ (∀ X ∈ ts, X = M ∨ lexPos (M - X)) ∧ chain n ts = M :: c ∧ chain n ts.reverse = m :: d ∧ (M :: c).getLast? = some m ∧ (m :: d).getLast? = some M ∧ c ≠ [] ∧ d ≠ [] := by
  obtain ⟨o1, n1, h1⟩ := S.chain1
  obtain ⟨o2, n2, h2⟩ := S.chain2
  obtain ⟨M, c, e1⟩ := List.exists_cons_of_ne_nil n1
  obtain ⟨m, d, e2⟩ := List.exists_cons_of_ne_nil n2
  have hM : M ∈ ts := o1.mem M (by rw [e1]; simp)
  have hm : m ∈ ts := o2.mem m (by rw [e2]; simp)
  have lM : ∀ X ∈ ts, X = M ∨ lexPos (M - X) := fun X hX => h1 X M (by rw [e1]; rfl) hX
  have lm : ∀ X ∈ ts, X = m ∨ lexPos (X - m) := fun X hX => (h2 X m (by rw [e2]; rfl) hX).imp id lexNeg_sub.mp
  obtain ⟨z, hz⟩ : ∃ z, (M :: c).getLast? = some z := by simp [List.getLast?_cons]
  obtain ⟨y, hy⟩ : ∃ z, (m :: d).getLast? = some z := by simp [List.getLast?_cons]
  have zm : z = m := by
    have zt : z ∈ ts := o1.mem z (by rw [e1]; exact List.mem_of_getLast? hz)
    rcases o1.last m hm z (by rw [e1]; exact hz) with e | e
    · exact e.symm
    · rcases lm z zt with e' | e'
      · exact e'
      · exact (lex_asym e e').elim
  have yM : y = M := by
    have yt : y ∈ ts := o2.mem y (by rw [e2]; exact List.mem_of_getLast? hy)
    rcases o2.last M hM y (by rw [e2]; exact hy) with e | e
    · exact e.symm
    · rcases lM y yt with e' | e'
      · exact e'
      · exact (lex_asym (lexNeg_sub.mp e) e').elim
  subst zm yM
  have mM : lexPos (y - z) := by
    obtain ⟨X, hX, Y, hY, ne⟩ := S.two
    rcases lm y hM with e | e
    · exfalso
      subst e
      have k : ∀ W ∈ ts, W = y := fun W hW => by
        rcases lm W hW with e | e
        · exact e
        · rcases lM W hW with e' | e'
          · exact e'
          · exact (lex_asym e e').elim
      exact ne ((k X hX).trans (k Y hY).symm)
    · exact e
  refine ⟨z, y, c, d, hm, hM, mM, lm, lM, e1, e2, hz, hy, fun e => ?_, fun e => ?_⟩
  · subst e
    have : y = z := by simpa using hz
    subst this; exact lex_irr mM
  · subst e
    have : z = y := by simpa using hy
    subst this; exact lex_irr mM
/-- the ring's pairs are edges .. -/
theorem Sheet.pair (h : (P, Q) ∈ cyc (ringOf n ts)) : EdgeOf n (fun X => X ∈ ts) P Q := by
  obtain ⟨m, M, c, d, hm, hM, mM, lm, lM, e1, e2, h3, h4, hc, hd⟩ := S.ends
  rw [cyc_ring e1 e2 h3 h4 hc, List.mem_append, List.mem_reverse, List.mem_reverse] at h
  rcases h with h | h
  · have := edges_mem S h
    exact (S.edge1 h (S.chain1.1.mem _ this.1) (S.chain1.1.mem _ this.2)).1
  · have := edges_mem S h
    exact (S.edge2 h (S.chain2.1.mem _ this.1) (S.chain2.1.mem _ this.2)).1
theorem mem_cyc (h : P ∈ l) : ∃ Q, (P, Q) ∈ cyc l := by
  obtain ⟨i, hi, e⟩ := List.getElem_of_mem h
  have hl : l.length = (l.tail ++ l.take 1).length := by
    match l, hi with
    | a :: l, _ => simp
  refine ⟨(l.tail ++ l.take 1)[i]'(by lia), ?_⟩
  unfold cyc
  refine List.mem_of_getElem (i := i) (h := by rw [List.length_zip]; lia) ?_
  rw [List.getElem_zip, e]
/-- .. and all of them -/
theorem Sheet.on_ring (h : EdgeOf n (fun X => X ∈ ts) P Q) : P ∈ ringOf n ts := by
  obtain ⟨m, M, c, d, hm, hM, mM, lm, lM, e1, e2, h3, h4, hc, hd⟩ := S.ends
  obtain ⟨o1, n1, t1⟩ := S.chain1
  obtain ⟨o2, n2, t2⟩ := S.chain2
  unfold ringOf
  rw [List.mem_append, e1, e2, List.reverse_cons, List.reverse_cons, List.dropLast_concat, List.dropLast_concat, List.mem_reverse, List.mem_reverse]
  rcases lex_tot Q P with e | e | e
  · exact absurd e.symm h.ne
  · -- forth
    left
    rcases locate (Pos := lexPos) P (chain n ts) (fun Y _ => lex_tot P Y) (fun q hq => t1 P q hq h.p) (fun z hz => o1.last P h.p z hz) n1 (fun u a b => by
      have := lexCone.add a b
      have e0 : u + -u = 0 := ext (by simp; lia) (by simp; lia) (by simp; lia)
      rw [e0] at this; exact lexCone.irr this) with r | ⟨a, b, r, r1, r2⟩
    · rw [e1] at r
      rcases List.mem_cons.mp r with q | q
      · subst q
        rcases lM Q h.q with y | y
        · exact absurd y.symm h.ne
        · exact (lex_asym e y).elim
      · exact q
    · exfalso
      have mm := edges_mem S r
      have ta := o1.mem _ mm.1
      have tb := o1.mem _ mm.2
      have z5 := h.left a ta
      have z5' : det n (Q - P) (a - P) ≠ 0 := fun z => by
        rcases ((h.btw a ta z).1 e).1 with y | y
        · subst y; exact lex_irr r1
        · exact lex_asym r1 y
      exact S.row.no_amid ta tb h.p h.q r1 r2 e ((o1.ed _ r).2 P h.p).1 (by lia) (h.left b tb)
  · right
    rcases locate (Pos := lexNeg) P (chain n ts.reverse) (fun Y _ => S.rowN.tot P Y h.p (by rename_i hY; exact o2.mem Y hY)) (fun q hq => t2 P q hq h.p) (fun z hz => o2.last P h.p z hz) n2 (fun u a b => by
      have := lexConeN.add a b
      have e0 : u + -u = 0 := ext (by simp; lia) (by simp; lia) (by simp; lia)
      rw [e0] at this; exact lexConeN.irr this) with r | ⟨a, b, r, r1, r2⟩
    · rw [e2] at r
      rcases List.mem_cons.mp r with q | q
      · subst q
        rcases lm Q h.q with y | y
        · exact absurd y.symm h.ne
        · exact (lex_asym e y).elim
      · exact q
    · exfalso
      have mm := edges_mem S r
      have ta := o2.mem _ mm.1
      have tb := o2.mem _ mm.2
      have z5 := h.left a ta
      have r1' := lexNeg_sub.mp r1
      have z5' : det n (Q - P) (a - P) ≠ 0 := fun z => by
        rcases ((h.btw a ta z).2 e).1 with y | y
        · subst y; exact lex_irr r1'
        · exact lex_asym r1' y
      exact S.rowN.no_amid ta tb h.p h.q r1 r2 (lexNeg_sub.mpr e) ((o2.ed _ r).2 P h.p).1 (by lia) (h.left b tb)
theorem Sheet.pair_iff : (P, Q) ∈ cyc (ringOf n ts) ↔ EdgeOf n (fun X => X ∈ ts) P Q := by
  refine ⟨S.pair, fun h => ?_⟩
  obtain ⟨R, hR⟩ := mem_cyc S (S.on_ring h)
  have := (S.pair hR).next h
  subst this
  exact hR
end
end G

namespace G
theorem pairwise_of_edges {Pos : V → Prop} (C : Cone Pos) : ∀ (c : List V), (∀ e ∈ Edges c, Pos (e.2 - e.1)) → c.Pairwise (fun b a => Pos (b - a))
  | [], _ => List.Pairwise.nil
  | [x], _ => List.pairwise_singleton _ _
  | b :: a :: r, h => by
    have ih := pairwise_of_edges C (a :: r) (fun e he => h e (edges_tail he))
    have h0 := h (a, b) (by simp [Edges])
    refine List.pairwise_cons.mpr ⟨fun y hy => ?_, ih⟩
    rcases List.mem_cons.mp hy with e | e
    · subst e; exact h0
    · have := (List.pairwise_cons.mp ih).1 y e
      have s := C.add h0 this
      have e0 : b - a + (a - y) = b - y := ext (by simp; lia) (by simp; lia) (by simp; lia)
      dsimp only at s
      rwa [e0] at s
theorem edge_from : ∀ {h : V} {c : List V} {X : V}, X ∈ c → ∃ b, (X, b) ∈ Edges (h :: c)
  | h, [], X, hX => by cases hX
  | h, a :: r, X, hX => by
    rcases List.mem_cons.mp hX with e | e
    · subst e; exact ⟨h, by simp [Edges]⟩
    · obtain ⟨b, hb⟩ := edge_from (h := a) e
      exact ⟨b, edges_tail hb⟩
section
variable {n : V} {ts : List V} (S : Sheet n ts)
include S
theorem Sheet.ring_sub (h : X ∈ ringOf n ts) : X ∈ ts := by
  obtain ⟨Q, hQ⟩ := mem_cyc S h
  exact (S.pair hQ).p
theorem Sheet.ring_nodup : (ringOf n ts).Nodup := by
  obtain ⟨m, M, c, d, hm, hM, mM, lm, lM, e1, e2, h3, h4, hc, hd⟩ := S.ends
  obtain ⟨o1, n1, t1⟩ := S.chain1
  obtain ⟨o2, n2, t2⟩ := S.chain2
  unfold ringOf
  rw [e1, e2, List.reverse_cons, List.reverse_cons, List.dropLast_concat, List.dropLast_concat]
  have p1 := pairwise_of_edges lexCone (chain n ts) fun e he => (o1.ed e he).1
  have p2 := pairwise_of_edges lexConeN (chain n ts.reverse) fun e he => (o2.ed e he).1
  rw [e1] at p1
  rw [e2] at p2
  have q1 := (List.pairwise_cons.mp p1).2
  have q2 := (List.pairwise_cons.mp p2).2
  rw [List.nodup_append]
  refine ⟨?_, ?_, ?_⟩
  · rw [List.nodup_iff_pairwise_ne, List.pairwise_reverse]
    exact q1.imp fun {a b} h e => by subst e; exact lex_irr h
  · rw [List.nodup_iff_pairwise_ne, List.pairwise_reverse]
    exact q2.imp fun {a b} h e => by subst e; exact lex_irr (lexNeg_sub.mp h)
  · intro x hx y hy e
    subst e
    rw [List.mem_reverse] at hx hy
    obtain ⟨b, hb⟩ := edge_from (h := M) hx
    obtain ⟨b', hb'⟩ := edge_from (h := m) hy
    rw [← e1] at hb
    rw [← e2] at hb'
    have m1 := edges_mem S hb
    have m2 := edges_mem S hb'
    obtain ⟨g1, l1⟩ := S.edge1 hb (o1.mem _ m1.1) (o1.mem _ m1.2)
    obtain ⟨g2, l2⟩ := S.edge2 hb' (o2.mem _ m2.1) (o2.mem _ m2.2)
    have := g1.next g2
    subst this
    exact lex_asym l1 l2
/-- the ring begins with the least -/
theorem Sheet.ring_head : ∃ m r, ringOf n ts = m :: r ∧ m ∈ ts ∧ ∀ X ∈ ts, X = m ∨ lexPos (X - m) := by
  obtain ⟨m, M, c, d, hm, hM, mM, lm, lM, e1, e2, h3, h4, hc, hd⟩ := S.ends
  have e3 : ∃ c', c.reverse = m :: c' := by
    have : c.getLast? = some m := by
      match c, hc with
      | x :: c, _ => rw [List.getLast?_cons_cons] at h3; exact h3
    rw [← List.head?_reverse] at this
    match hh : c.reverse, this with
    | x :: r, this => exact ⟨r, by rw [show x = m from Option.some.inj this]⟩
  obtain ⟨c', e3⟩ := e3
  refine ⟨m, c' ++ d.reverse, ?_, hm, lm⟩
  unfold ringOf
  rw [e1, e2, List.reverse_cons, List.reverse_cons, List.dropLast_concat, List.dropLast_concat, e3]
  rfl
/-- an edge into each corner -/
theorem mem_cyc' (h : Q ∈ l) : ∃ P, (P, Q) ∈ cyc l := by
  match l, h with
  | a :: r, h =>
    have h' : Q ∈ r ++ [a] := by simpa [or_comm] using h
    obtain ⟨i, hi, e⟩ := List.getElem_of_mem h'
    have hi' : i < (a :: r).length := by simpa using hi
    refine ⟨(a :: r)[i], ?_⟩
    show _ ∈ (a :: r).zip (r ++ [a])
    refine List.mem_of_getElem (i := i) (h := by rw [List.length_zip]; simp; omega) ?_
    rw [List.getElem_zip, e]
theorem cyc_mem (h : (P, Q) ∈ cyc l) : P ∈ l ∧ Q ∈ l := by
  have h' := List.of_mem_zip h
  refine ⟨h'.1, ?_⟩
  match l, h'.2 with
  | a :: r, z => simpa [or_comm] using z
/-- corners of a ring do not lie between two others -/
theorem Sheet.strict (h : EdgeOf n (fun X => X ∈ ts) P Q) (hX : X ∈ ringOf n ts) (h1 : X ≠ P) (h2 : X ≠ Q) : 0 < det n (Q - P) (X - P) := by
  have tX := S.ring_sub hX
  have h0 := h.left X tX
  by_cases z : det n (Q - P) (X - P) = 0
  · exfalso
    have b := h.btw X tX z
    obtain ⟨Y, hY⟩ := mem_cyc S hX
    have g := S.pair hY
    have l1 := g.left P h.p
    have l2 := g.left Q h.q
    -- P - X and Q - X go unlike ways
    rcases lex_tot Q P with e | e | e
    · exact h.ne e.symm
    · have b1 := b.1 e
      have c1 := b1.1.resolve_left h1
      have c2 := b1.2.resolve_left h2
      -- [X-P, Q-X] = 0
      have zz : det n (X - P) (Q - X) = 0 := by
        have e1 : Q - P = (Q - X) + (X - P) := ext (by simp; lia) (by simp; lia) (by simp; lia)
        rw [e1, det_add2, det_self, det_swap] at z; lia
      have l1' : 0 ≤ det n (X - P) (Y - X) := by
        have e1 : P - X = -(X - P) := (neg_sub_v _ _).symm
        rw [e1, det_neg3] at l1; rw [det_swap]; lia
      rcases lex_tot Y X with y | y | y
      · exact g.ne y.symm
      · have w1 := S.row.weak c1 y c2 (S.pl _ tX _ h.p) (S.pl _ g.q _ tX) (S.pl _ h.q _ tX) l1' l2
        by_cases p1 : 0 < det n (X - P) (Y - X)
        · have := lexCone.tr c1 y c2 (det_flat S.nz (S.pl _ tX _ h.p) (S.pl _ g.q _ tX) (S.pl _ h.q _ tX)) p1 l2
          lia
        · have z1 : det n (Y - X) (P - X) = 0 := by
            have e1 : P - X = -(X - P) := (neg_sub_v _ _).symm
            rw [e1, det_neg3, det_swap]; lia
          rcases ((g.btw P h.p z1).1 y).1 with k | k
          · exact h1 k.symm
          · exact lex_asym k c1
      · have y' : lexPos (X - Y) := y
        have m1 : 0 ≤ det n (X - Y) (X - P) := by
          have e1 : Y - X = -(X - Y) := (neg_sub_v _ _).symm
          rw [e1, det_neg3, det_swap] at l1'; lia
        have m2 : 0 ≤ det n (Q - X) (X - Y) := by
          have e1 : Y - X = -(X - Y) := (neg_sub_v _ _).symm
          rw [e1, det_neg2, det_swap] at l2; lia
        by_cases p1 : 0 < det n (Q - X) (X - Y)
        · have := lexCone.tr c2 y' c1 (det_flat S.nz (S.pl _ h.q _ tX) (S.pl _ tX _ g.q) (S.pl _ tX _ h.p)) p1 m1
          rw [det_swap] at this; lia
        · have z1 : det n (Y - X) (Q - X) = 0 := by
            have e1 : Y - X = -(X - Y) := (neg_sub_v _ _).symm
            rw [e1, det_neg2, det_swap]; lia
          rcases ((g.btw Q h.q z1).2 y').1 with k | k
          · exact h2 k.symm
          · exact lex_asym k c2
    · have b1 := b.2 e
      have c1 := b1.1.resolve_left h1
      have c2 := b1.2.resolve_left h2
      have zz : det n (P - X) (X - Q) = 0 := by
        have e1 : Q - P = -((P - X) + (X - Q)) := ext (by simp; lia) (by simp; lia) (by simp; lia)
        have e2 : X - P = -(P - X) := (neg_sub_v _ _).symm
        rw [e1, e2, det_neg2, det_neg3, det_add2, det_self, det_swap] at z; lia
      rcases lex_tot Y X with y | y | y
      · exact g.ne y.symm
      · -- l1 : [Y-X, P-X] >= 0 ; l2 : [Y-X, Q-X] >= 0
        have m2 : 0 ≤ det n (X - Q) (Y - X) := by
          have e1 : Q - X = -(X - Q) := (neg_sub_v _ _).symm
          rw [e1, det_neg3, det_swap] at l2; lia
        by_cases p1 : 0 < det n (X - Q) (Y - X)
        · have := lexCone.tr c2 y c1 (det_flat S.nz (S.pl _ tX _ h.q) (S.pl _ g.q _ tX) (S.pl _ h.p _ tX)) p1 l1
          rw [det_swap] at this; lia
        · have z1 : det n (Y - X) (Q - X) = 0 := by
            have e1 : Q - X = -(X - Q) := (neg_sub_v _ _).symm
            rw [e1, det_neg3, det_swap]; lia
          rcases ((g.btw Q h.q z1).1 y).1 with k | k
          · exact h2 k.symm
          · exact lex_asym k c2
      · have y' : lexPos (X - Y) := y
        have m1 : 0 ≤ det n (P - X) (X - Y) := by
          have e1 : Y - X = -(X - Y) := (neg_sub_v _ _).symm
          rw [e1, det_neg2, det_swap] at l1; lia
        have m2 : 0 ≤ det n (X - Y) (X - Q) := by
          have e1 : Y - X = -(X - Y) := (neg_sub_v _ _).symm
          have e2 : Q - X = -(X - Q) := (neg_sub_v _ _).symm
          rw [e1, e2, det_neg2, det_neg3] at l2; lia
        by_cases p1 : 0 < det n (P - X) (X - Y)
        · have := lexCone.tr c1 y' c2 (det_flat S.nz (S.pl _ h.p _ tX) (S.pl _ tX _ g.q) (S.pl _ tX _ h.q)) p1 m2
          lia
        · have z1 : det n (Y - X) (P - X) = 0 := by
            have e1 : Y - X = -(X - Y) := (neg_sub_v _ _).symm
            rw [e1, det_neg2, det_swap]; lia
          rcases ((g.btw P h.p z1).2 y').1 with k | k
          · exact h1 k.symm
          · exact lex_asym k c1
  · lia
end
end G

namespace G
theorem ne_zero_comp {a : V} (h : a ≠ 0) : a.x ≠ 0 ∨ a.y ≠ 0 ∨ a.z ≠ 0 := by
  by_cases p : a.x = 0
  · by_cases q : a.y = 0
    · by_cases r : a.z = 0
      · exact absurd (ext p q r) h
      · exact .inr (.inr r)
    · exact .inr (.inl q)
  · exact .inl p
theorem par_of_cr {a w : V} (ha : a ≠ 0) (h : cr a w = 0) : ∃ k m : Int, 0 < k ∧ k * w = m * a := by
  have h1 := congrArg V.x h
  have h2 := congrArg V.y h
  have h3 := congrArg V.z h
  simp at h1 h2 h3
  have key : ∀ k m : Int, k ≠ 0 → k * w = m * a → ∃ k m : Int, 0 < k ∧ k * w = m * a := fun k m hk e => by
    by_cases p : 0 < k
    · exact ⟨k, m, p, e⟩
    · refine ⟨-k, -m, by lia, ?_⟩
      have q1 := congrArg V.x e
      have q2 := congrArg V.y e
      have q3 := congrArg V.z e
      simp at q1 q2 q3
      apply ext <;> simp <;> grind
  rcases ne_zero_comp ha with p | p | p
  · exact key a.x w.x p (by apply ext <;> simp <;> grind)
  · exact key a.y w.y p (by apply ext <;> simp <;> grind)
  · exact key a.z w.z p (by apply ext <;> simp <;> grind)
theorem ConeM.npar {Pos : V → Prop} (C : ConeM a Pos) (ha : a ≠ 0) (hw : Pos w) : cr a w ≠ 0 := fun h => by
  obtain ⟨k, m, hk, e⟩ := par_of_cr ha h
  have h1 := C.inv (-m) (C.mul hk hw)
  rw [e] at h1
  have e0 : m * a + -m * a = 0 := by apply ext <;> simp <;> grind
  rw [e0] at h1
  exact C.irr h1
def sweep (a A : V) : List V → V → V → V × V
  | [], up, out => (up, out)
  | P :: Ps, up, out => if up = 0 ∨ 0 < dot up (P - A) then sweep a A Ps (cr a (P - A)) P else sweep a A Ps up out
def SwOk (a A : V) (Pos : V → Prop) (seen : V → Prop) (up out : V) : Prop :=
  (up = 0 ∧ ∀ P, seen P → cr a (P - A) = 0) ∨ (seen out ∧ Pos (out - A) ∧ up = cr a (out - A) ∧ ∀ P, seen P → det a (out - A) (P - A) ≤ 0)
theorem det_par3 (h : cr a w = 0) (u : V) : det a u w = 0 := by
  have e : det a u w = - dot (cr a w) u := by simp [det, dot]; grind
  rw [e, h]; simp [dot]
theorem sweep_run {Pos : V → Prop} (C : ConeM a Pos) (ha : a ≠ 0) : ∀ (pts : List V) (seen : V → Prop) (up out : V), SwOk a A Pos seen up out → (∀ P, seen P → Pos (P - A) ∨ cr a (P - A) = 0) → (∀ P ∈ pts, Pos (P - A) ∨ cr a (P - A) = 0) →
    SwOk a A Pos (fun P => seen P ∨ P ∈ pts) (sweep a A pts up out).1 (sweep a A pts up out).2
  | [], seen, up, out, h, _, _ => by
    show SwOk a A Pos _ up out
    rcases h with ⟨h1, h2⟩ | ⟨h1, h2, h3, h4⟩
    · exact .inl ⟨h1, fun P hP => h2 P (by simpa using hP)⟩
    · exact .inr ⟨.inl h1, h2, h3, fun P hP => h4 P (by simpa using hP)⟩
  | Q :: pts, seen, up, out, h, hs, hp => by
    have hQ := hp Q (by simp)
    have stp : SwOk a A Pos (fun P => seen P ∨ P = Q) (if up = 0 ∨ 0 < dot up (Q - A) then (cr a (Q - A)) else up) (if up = 0 ∨ 0 < dot up (Q - A) then Q else out) := by
      rcases h with ⟨h1, h2⟩ | ⟨h1, h2, h3, h4⟩
      · rw [if_pos (.inl h1), if_pos (.inl h1)]
        by_cases z : cr a (Q - A) = 0
        · exact .inl ⟨z, fun P hP => by
            rcases hP with hP | hP
            · exact h2 P hP
            · subst hP; exact z⟩
        · refine .inr ⟨.inr rfl, hQ.resolve_right z, rfl, fun P hP => ?_⟩
          rcases hP with hP | hP
          · rw [det_par3 (h2 P hP)]; exact Int.le_refl _
          · subst hP; rw [det_self]; exact Int.le_refl _
      · have hne : up ≠ 0 := by rw [h3]; exact C.npar ha h2
        have ed : dot up (Q - A) = det a (out - A) (Q - A) := by rw [h3, dot_cr']
        by_cases z : 0 < dot up (Q - A)
        · rw [if_pos (.inr z), if_pos (.inr z)]
          have hq : Pos (Q - A) := by
            rcases hQ with q | q
            · exact q
            · rw [ed, det_par3 q] at z; lia
          refine .inr ⟨.inr rfl, hq, rfl, fun P hP => ?_⟩
          rcases hP with hP | hP
          · by_cases zz : det a (Q - A) (P - A) ≤ 0
            · exact zz
            · exfalso
              have hP' : Pos (P - A) := by
                rcases hs P hP with q | q
                · exact q
                · rw [det_par3 q] at zz; lia
              have := C.tr h2 hq hP' (by rw [← ed]; exact z) (by lia)
              have := h4 P hP
              lia
          · subst hP; rw [det_self]; exact Int.le_refl _
        · rw [if_neg (by rintro (q | q); exact hne q; exact z q), if_neg (by rintro (q | q); exact hne q; exact z q)]
          refine .inr ⟨.inl h1, h2, h3, fun P hP => ?_⟩
          rcases hP with hP | hP
          · exact h4 P hP
          · subst hP; rw [← ed]; lia
    have r := sweep_run C ha pts (fun P => seen P ∨ P = Q) _ _ stp (fun P hP => by
      rcases hP with hP | hP
      · exact hs P hP
      · subst hP; exact hQ) (fun P hP => hp P (List.mem_cons_of_mem _ hP))
    have e : sweep a A (Q :: pts) up out = sweep a A pts (if up = 0 ∨ 0 < dot up (Q - A) then (cr a (Q - A)) else up) (if up = 0 ∨ 0 < dot up (Q - A) then Q else out) := by
      rw [sweep]; split <;> rfl
    rw [e]
    have ee : (fun P => (seen P ∨ P = Q) ∨ P ∈ pts) = (fun P => seen P ∨ P ∈ Q :: pts) := by
      funext P; simp [or_assoc]
    rw [← ee]
    exact r
theorem sweep_ok {Pos : V → Prop} (C : ConeM a Pos) (ha : a ≠ 0) (hp : ∀ P ∈ pts, Pos (P - A) ∨ cr a (P - A) = 0) (hx : ∃ P ∈ pts, Pos (P - A)) :
    (sweep a A pts 0 A).2 ∈ pts ∧ Pos ((sweep a A pts 0 A).2 - A) ∧ ∀ P ∈ pts, det a ((sweep a A pts 0 A).2 - A) (P - A) ≤ 0 := by
  have h := sweep_run C ha pts (fun _ => False) 0 A (.inl ⟨rfl, fun _ h => h.elim⟩) (fun _ h => h.elim) hp
  rcases h with ⟨h1, h2⟩ | ⟨h1, h2, h3, h4⟩
  · obtain ⟨P, hP, hq⟩ := hx
    exact absurd (h2 P (.inr hP)) (C.npar ha hq)
  · exact ⟨by simpa using h1, h2, fun P hP => h4 P (.inr hP)⟩

/-! ### planes -/
def gcd3 (v : V) : Nat := Nat.gcd (Nat.gcd v.x.natAbs v.y.natAbs) v.z.natAbs
def divV (v : V) (g : Int) : V := ⟨v.x / g, v.y / g, v.z / g⟩
def Prim (n : V) : Prop := gcd3 n = 1
theorem gcd3_mul (k : Int) (v : V) : gcd3 (k * v) = k.natAbs * gcd3 v := by
  unfold gcd3
  simp [Int.natAbs_mul, Nat.gcd_mul_left]
theorem gcd3_zero (h : gcd3 v = 0) : v = 0 := by
  unfold gcd3 at h
  have h1 := Nat.gcd_eq_zero_iff.mp h
  have h2 := Nat.gcd_eq_zero_iff.mp h1.1
  exact ext (Int.natAbs_eq_zero.mp h2.1) (Int.natAbs_eq_zero.mp h2.2) (Int.natAbs_eq_zero.mp h1.2)
theorem gcd3_dvd (v : V) : (gcd3 v : Int) ∣ v.x ∧ (gcd3 v : Int) ∣ v.y ∧ (gcd3 v : Int) ∣ v.z := by
  unfold gcd3
  refine ⟨?_, ?_, ?_⟩
  · exact Int.ofNat_dvd_left.mpr (Nat.dvd_trans (Nat.gcd_dvd_left _ _) (Nat.gcd_dvd_left _ _))
  · exact Int.ofNat_dvd_left.mpr (Nat.dvd_trans (Nat.gcd_dvd_left _ _) (Nat.gcd_dvd_right _ _))
  · exact Int.ofNat_dvd_left.mpr (Nat.gcd_dvd_right _ _)
theorem divV_spec (h : c ≠ 0) : 0 < (gcd3 c : Int) ∧ c = (gcd3 c : Int) * divV c (gcd3 c) ∧ Prim (divV c (gcd3 c)) := by
  have hg : gcd3 c ≠ 0 := fun z => h (gcd3_zero z)
  have hp : 0 < (gcd3 c : Int) := by lia
  obtain ⟨d1, d2, d3⟩ := gcd3_dvd c
  have e : c = (gcd3 c : Int) * divV c (gcd3 c) := by
    apply ext
    · show _ = _ * (c.x / _); rw [Int.mul_ediv_cancel' d1]
    · show _ = _ * (c.y / _); rw [Int.mul_ediv_cancel' d2]
    · show _ = _ * (c.z / _); rw [Int.mul_ediv_cancel' d3]
  refine ⟨hp, e, ?_⟩
  have := congrArg gcd3 e
  rw [gcd3_mul] at this
  simp only [Int.natAbs_natCast] at this
  unfold Prim
  have h2 : gcd3 c * 1 = gcd3 c * gcd3 (divV c (gcd3 c)) := by lia
  exact (Nat.eq_of_mul_eq_mul_left (by lia) h2).symm
theorem Prim.ne (h : Prim n) : n ≠ 0 := fun e => by subst e; unfold Prim at h; exact absurd h (by decide)
/-- two primitive ones that go the same way -/
theorem prim_eq {n m : V} {k l : Int} (hn : Prim n) (hm : Prim m) (hk : 0 < k) (hl : 0 < l) (e : k * n = l * m) : n = m := by
  have := congrArg gcd3 e
  rw [gcd3_mul, gcd3_mul, hn, hm] at this
  have ekl : k = l := by lia
  subst ekl
  have h1 := congrArg V.x e
  have h2 := congrArg V.y e
  have h3 := congrArg V.z e
  simp at h1 h2 h3
  exact ext (Int.eq_of_mul_eq_mul_left (by lia) h1) (Int.eq_of_mul_eq_mul_left (by lia) h2) (Int.eq_of_mul_eq_mul_left (by lia) h3)
def planeThrough (P Q R : V) : V × Int := let n := divV (cr (Q - P) (R - P)) (gcd3 (cr (Q - P) (R - P))); (n, dot n P)
structure IsFace (pts : List V) (n : V) (d : Int) : Prop where
  prim : Prim n
  sup : ∀ X ∈ pts, dot n X ≤ d
  three : ∃ A ∈ pts, ∃ B ∈ pts, ∃ C ∈ pts, dot n A = d ∧ dot n B = d ∧ dot n C = d ∧ cr (B - A) (C - A) ≠ 0
theorem cr_perp (hu : dot n u = 0) (hv : dot n v = 0) : cr n (cr u v) = 0 := by
  simp [dot] at hu hv
  apply ext <;> simp <;> grind
theorem cr_par (hc : c ≠ 0) (h1 : cr n c = 0) (h2 : cr m c = 0) : cr n m = 0 := by
  have s1 : cr c n = 0 := by
    have := congrArg V.x h1; have := congrArg V.y h1; have := congrArg V.z h1
    simp at *; apply ext <;> simp <;> grind
  have s2 : cr c m = 0 := by
    have := congrArg V.x h2; have := congrArg V.y h2; have := congrArg V.z h2
    simp at *; apply ext <;> simp <;> grind
  obtain ⟨k, p, hk, e1⟩ := par_of_cr hc s1
  obtain ⟨l, q, hl, e2⟩ := par_of_cr hc s2
  have e : (k * l) * cr n m = 0 := by
    have : (k * l) * cr n m = cr (k * n) (l * m) := by apply ext <;> simp <;> grind
    rw [this, e1, e2]
    apply ext <;> simp <;> grind
  have hkl : k * l ≠ 0 := fun z => by rcases Int.mul_eq_zero.mp z with q | q <;> lia
  have h1 := congrArg V.x e
  have h2 := congrArg V.y e
  have h3 := congrArg V.z e
  simp only [mul_x, mul_y, mul_z, zero_x, zero_y, zero_z] at h1 h2 h3
  exact ext ((Int.mul_eq_zero.mp h1).resolve_left hkl) ((Int.mul_eq_zero.mp h2).resolve_left hkl) ((Int.mul_eq_zero.mp h3).resolve_left hkl)
/-- planes with three common points not on a line -/
theorem face_eq {pts : List V} {n m : V} {d e : Int} (hn : Prim n) (hm : Prim m) (sn : ∀ X ∈ pts, dot n X ≤ d) (sm : ∀ X ∈ pts, dot m X ≤ e) {A B C Z : V} (hA : dot n A = d) (hB : dot n B = d) (hC : dot n C = d) (hA' : dot m A = e) (hB' : dot m B = e) (hC' : dot m C = e)
    (hc : cr (B - A) (C - A) ≠ 0) (hZ : Z ∈ pts) (hz : dot n Z < d) : n = m ∧ d = e := by
  have n1 : cr n (cr (B - A) (C - A)) = 0 := cr_perp (by rw [dot_sub]; lia) (by rw [dot_sub]; lia)
  have m1 : cr m (cr (B - A) (C - A)) = 0 := cr_perp (by rw [dot_sub]; lia) (by rw [dot_sub]; lia)
  have p := cr_par hc m1 n1
  obtain ⟨k, l, hk, e1⟩ := par_of_cr hm.ne p
  have hl : 0 < l := by
    have q := congrArg (fun v => dot v (Z - A)) e1
    rw [mul_dot, mul_dot] at q
    have q1 : dot n (Z - A) < 0 := by rw [dot_sub]; lia
    have q2 : dot m (Z - A) ≤ 0 := by rw [dot_sub]; have := sm Z hZ; lia
    have q3 : k * dot n (Z - A) < 0 := Int.mul_neg_of_pos_of_neg hk q1
    by_cases z : 0 < l
    · exact z
    · exfalso
      have : 0 ≤ l * dot m (Z - A) := by
        have := Int.mul_nonneg (show 0 ≤ -l by lia) (show 0 ≤ -dot m (Z - A) by lia)
        rwa [Int.neg_mul_neg] at this
      lia
  have e2 := prim_eq hn hm hk hl e1
  subst e2
  exact ⟨rfl, by lia⟩
end G

namespace G
/-- the plane about a pair -/
def planeAbout (A B : V) (pts : List V) : V × Int := planeThrough A B (sweep (B - A) A pts 0 A).2
/-- what lies on a plane -/
def onP (n : V) (d : Int) (pts : List V) : List V := pts.filter fun X => decide (dot n X = d)
theorem mem_onP : X ∈ onP n d pts ↔ X ∈ pts ∧ dot n X = d := by simp [onP]
theorem plane_spec (h : cr (Q - P) (R - P) ≠ 0) : ∃ g : Int, 0 < g ∧ cr (Q - P) (R - P) = g * (planeThrough P Q R).1 ∧ Prim (planeThrough P Q R).1 ∧ (planeThrough P Q R).2 = dot (planeThrough P Q R).1 P := by
  obtain ⟨h1, h2, h3⟩ := divV_spec h
  exact ⟨_, h1, h2, h3, rfl⟩
/-- the plane about a pair that the body touches: no point above, the outermost on it -/
theorem about_ok {Pos : V → Prop} (C : ConeM (B - A) Pos) (hAB : B - A ≠ 0) (hp : ∀ P ∈ pts, Pos (P - A) ∨ cr (B - A) (P - A) = 0) (hx : ∃ P ∈ pts, Pos (P - A)) :
    ∃ (out : V) (g : Int), out ∈ pts ∧ Pos (out - A) ∧ 0 < g ∧ cr (B - A) (out - A) = g * (planeAbout A B pts).1 ∧ Prim (planeAbout A B pts).1 ∧ (planeAbout A B pts).2 = dot (planeAbout A B pts).1 A ∧
      (∀ P ∈ pts, dot (planeAbout A B pts).1 P ≤ (planeAbout A B pts).2) ∧ dot (planeAbout A B pts).1 B = (planeAbout A B pts).2 ∧ dot (planeAbout A B pts).1 out = (planeAbout A B pts).2 ∧
      (∀ P ∈ pts, dot (planeAbout A B pts).1 P = (planeAbout A B pts).2 → det (B - A) (out - A) (P - A) = 0) := by
  obtain ⟨h1, h2, h3⟩ := sweep_ok C hAB hp hx
  have hc := C.npar hAB h2
  obtain ⟨g, g0, ge, gp, gd⟩ := plane_spec hc
  have key : ∀ w : V, g * dot (planeAbout A B pts).1 w = det (B - A) ((sweep (B - A) A pts 0 A).2 - A) w := fun w => by
    have : dot (cr (B - A) ((sweep (B - A) A pts 0 A).2 - A)) w = det (B - A) ((sweep (B - A) A pts 0 A).2 - A) w := dot_cr' _ _ _
    rw [← this, ge, mul_dot]; rfl
  have eA : (planeAbout A B pts).2 = dot (planeAbout A B pts).1 A := gd
  have z0 : ∀ w : V, det (B - A) ((sweep (B - A) A pts 0 A).2 - A) w = 0 → dot (planeAbout A B pts).1 w = 0 := fun w hw => by
    have := key w
    rw [hw] at this
    exact (Int.mul_eq_zero.mp this).resolve_left (by lia)
  refine ⟨_, g, h1, h2, g0, ge, gp, gd, fun P hP => ?_, ?_, ?_, fun P hP e => ?_⟩
  · have h := h3 P hP
    rw [← key] at h
    have : dot (planeAbout A B pts).1 (P - A) ≤ 0 := by
      by_cases z : dot (planeAbout A B pts).1 (P - A) ≤ 0
      · exact z
      · have := Int.mul_pos g0 (show 0 < dot (planeAbout A B pts).1 (P - A) by lia)
        lia
    rw [dot_sub] at this
    lia
  · have := z0 (B - A) (by simp [det, dot]; grind)
    rw [dot_sub] at this; lia
  · have := z0 ((sweep (B - A) A pts 0 A).2 - A) (det_self _ _)
    rw [dot_sub] at this; lia
  · rw [← key, dot_sub]
    have : dot (planeAbout A B pts).1 P - dot (planeAbout A B pts).1 A = 0 := by lia
    rw [this]; simp
/-- two that lie on one plane about an axis go the same way from it -/
theorem same_way {Pos : V → Prop} (C : ConeM a Pos) (ha : a ≠ 0) (ho : Pos o) (hw : Pos w) (h : det a o w = 0) : 0 < dot (cr a o) (cr a w) := by
  by_cases z : 0 < dot (cr a o) (cr a w)
  · exact z
  · exfalso
    have hne := C.npar ha ho
    have hpos := dot_self_pos hne
    have h1 : Pos (dot (cr a o) (cr a o) * w + (- dot (cr a o) (cr a w)) * o) := C.comb hpos (by lia) hw ho
    refine C.npar ha h1 ?_
    -- the cross with a is c1.c1 c2 - c1.c2 c1
    have hx : cr (cr a o) (cr a w) = det a o w * a := by simp [det, dot]; apply ext <;> simp <;> grind
    rw [h, mul_zero_v] at hx
    have e1 : cr a (dot (cr a o) (cr a o) * w + (- dot (cr a o) (cr a w)) * o) = dot (cr a o) (cr a o) * cr a w + (- dot (cr a o) (cr a w)) * cr a o := by
      apply ext <;> simp <;> grind
    rw [e1]
    have e2 : ∀ p q : V, dot p p * q + (- dot p q) * p = cr p (cr q p) := fun p q => by simp [dot]; apply ext <;> simp <;> grind
    rw [e2]
    have e3 : cr (cr a w) (cr a o) = 0 := by
      have q1 := congrArg V.x hx; have q2 := congrArg V.y hx; have q3 := congrArg V.z hx
      simp only [cr_x, cr_y, cr_z, zero_x, zero_y, zero_z] at q1 q2 q3
      apply ext <;> simp only [cr_x, cr_y, cr_z, zero_x, zero_y, zero_z] <;> grind
    rw [e3]
    apply ext <;> simp
theorem Btw.symm (h : Btw P Q X) : Btw Q P X := ⟨fun a => ⟨(h.2 a).2, (h.2 a).1⟩, fun a => ⟨(h.1 a).2, (h.1 a).1⟩⟩
/-- the cone about an edge of a face -/
theorem edge_cone (hn : n ≠ 0) (hab : dot n (a - b) = 0) : ConeM (a - b) (fun w => dot n w < 0 ∨ (dot n w = 0 ∧ 0 < det n (b - a) w)) where
  add := fun {u v} h1 h2 => by
    rw [dot_add, det_add3]
    lia
  mul := fun {k u} hk h => by
    rw [dot_mul, det_mul3]
    rcases h with h | ⟨h, h'⟩
    · exact .inl (Int.mul_neg_of_pos_of_neg hk h)
    · exact .inr ⟨by rw [h]; simp, Int.mul_pos hk h'⟩
  irr := by rw [dot_zero, det_zero3]; lia
  inv := fun {u} k h => by
    have e : det n (b - a) (a - b) = 0 := by
      have : a - b = -(b - a) := (neg_sub_v _ _).symm
      rw [this, det_neg3, det_self]; rfl
    rw [dot_add, det_add3, dot_mul, det_mul3, hab, e]
    simpa using h
theorem cr_zero_of (hn : n ≠ 0) (hu : dot n u = 0) (hw : dot n w = 0) (h : det n u w = 0) : cr u w = 0 := by
  have h1 : cr n (cr u w) = 0 := cr_perp hu hw
  obtain ⟨k, m, hk, e⟩ := par_of_cr hn h1
  have q := congrArg (dot n) e
  rw [dot_mul, dot_mul] at q
  have : dot n (cr u w) = 0 := h
  rw [this] at q
  have hm : m = 0 := by
    have := dot_self_pos hn
    have q' : m * dot n n = 0 := by lia
    rcases Int.mul_eq_zero.mp q' with z | z
    · exact z
    · lia
  rw [hm, mul_zero_v] at e
  have q1 := congrArg V.x e; have q2 := congrArg V.y e; have q3 := congrArg V.z e
  simp only [mul_x, mul_y, mul_z, zero_x, zero_y, zero_z] at q1 q2 q3
  exact ext ((Int.mul_eq_zero.mp q1).resolve_left (by lia)) ((Int.mul_eq_zero.mp q2).resolve_left (by lia)) ((Int.mul_eq_zero.mp q3).resolve_left (by lia))
theorem cr_swap0 (h : cr u w = 0) : cr (-u) w = 0 := by
  have q1 := congrArg V.x h; have q2 := congrArg V.y h; have q3 := congrArg V.z h
  simp only [cr_x, cr_y, cr_z, zero_x, zero_y, zero_z] at q1 q2 q3
  apply ext <;> simp <;> grind
/-- turning about an edge leads to a face that walks it the other way -/
theorem turn_face (hn : n ≠ 0) (hs : ∀ X ∈ pts, dot n X ≤ d) (hz : ∃ Z ∈ pts, dot n Z < d) (h : EdgeOf n (fun X => X ∈ onP n d pts) a b) :
    IsFace pts (planeAbout b a pts).1 (planeAbout b a pts).2 ∧ EdgeOf (planeAbout b a pts).1 (fun X => X ∈ onP (planeAbout b a pts).1 (planeAbout b a pts).2 pts) b a := by
  obtain ⟨pa, da⟩ := mem_onP.mp h.p
  obtain ⟨pb, db⟩ := mem_onP.mp h.q
  have hab : dot n (a - b) = 0 := by rw [dot_sub]; lia
  have hba : dot n (b - a) = 0 := by rw [dot_sub]; lia
  have C := edge_cone (n := n) hn hab
  have hne : a - b ≠ 0 := fun e => h.ne (by
    have q1 := congrArg V.x e; have q2 := congrArg V.y e; have q3 := congrArg V.z e
    simp at q1 q2 q3
    exact ext (by lia) (by lia) (by lia))
  have hp : ∀ P ∈ pts, (dot n (P - b) < 0 ∨ (dot n (P - b) = 0 ∧ 0 < det n (b - a) (P - b))) ∨ cr (a - b) (P - b) = 0 := fun P hP => by
    have h1 := hs P hP
    by_cases z : dot n P < d
    · exact .inl (.inl (by rw [dot_sub]; lia))
    · have e : dot n P = d := by lia
      have tP : P ∈ onP n d pts := mem_onP.mpr ⟨hP, e⟩
      have l := h.left P tP
      rw [det_base] at l
      have e0 : dot n (P - b) = 0 := by rw [dot_sub]; lia
      by_cases y : 0 < det n (b - a) (P - b)
      · exact .inl (.inr ⟨e0, y⟩)
      · have y0 : det n (b - a) (P - b) = 0 := by lia
        have := cr_swap0 (cr_zero_of hn hba e0 y0)
        rw [neg_sub_v] at this
        exact .inr this
  obtain ⟨Z, hZ, hz⟩ := hz
  obtain ⟨out, g, o1, o2, g0, ge, gp, gd, sup, sB, sO, sP⟩ := about_ok C hne hp ⟨Z, hZ, .inl (by rw [dot_sub]; lia)⟩
  refine ⟨⟨gp, sup, b, pb, a, pa, out, o1, gd.symm, sB, sO, C.npar hne o2⟩, ⟨mem_onP.mpr ⟨pb, gd.symm⟩, mem_onP.mpr ⟨pa, sB⟩, fun e => h.ne e.symm, fun X hX => ?_, fun X hX e => ?_⟩⟩
  · obtain ⟨pX, eX⟩ := mem_onP.mp hX
    have z := sP X pX eX
    have e1 : g * det (planeAbout b a pts).1 (a - b) (X - b) = dot (cr (a - b) (out - b)) (cr (a - b) (X - b)) := by
      rw [ge]; unfold det; rw [mul_dot]
    have : 0 ≤ dot (cr (a - b) (out - b)) (cr (a - b) (X - b)) := by
      rcases hp X pX with q | q
      · exact Int.le_of_lt (same_way C hne o2 q z)
      · rw [q, dot_zero]; exact Int.le_refl _
    rw [← e1] at this
    by_cases zz : 0 ≤ det (planeAbout b a pts).1 (a - b) (X - b)
    · exact zz
    · have := Int.mul_neg_of_pos_of_neg g0 (show det (planeAbout b a pts).1 (a - b) (X - b) < 0 by lia)
      lia
  · obtain ⟨pX, eX⟩ := mem_onP.mp hX
    have z := sP X pX eX
    have e1 : g * det (planeAbout b a pts).1 (a - b) (X - b) = dot (cr (a - b) (out - b)) (cr (a - b) (X - b)) := by
      rw [ge]; unfold det; rw [mul_dot]
    rw [e] at e1
    rcases hp X pX with q | q
    · have := same_way C hne o2 q z
      rw [← e1] at this; simp at this
    · -- on the line of the edge
      have dX : dot n X = d := by
        obtain ⟨k, m, hk, e⟩ := par_of_cr hne q
        have q := congrArg (dot n) e
        rw [dot_mul, dot_mul, hab] at q
        have : dot n (X - b) = 0 := (Int.mul_eq_zero.mp (show k * dot n (X - b) = 0 by lia)).resolve_left (by lia)
        rw [dot_sub] at this; lia
      refine (h.btw X (mem_onP.mpr ⟨pX, dX⟩) ?_).symm
      rw [det_base]
      have : cr (b - a) (X - b) = 0 := by
        have := cr_swap0 q
        rwa [neg_sub_v] at this
      unfold det; rw [this, dot_zero]
end G

namespace G
/-! ### the dimension -/
def firstReal : List V → Option V
  | [] => none
  | w :: ws => if w ≠ 0 then some w else firstReal ws
theorem firstReal_some (h : firstReal ws = some w) : w ∈ ws ∧ w ≠ 0 := by
  induction ws with
  | nil => cases h
  | cons v ws ih =>
    unfold firstReal at h
    split at h
    · rename_i hv
      cases h; exact ⟨by simp, hv⟩
    · have := ih h
      exact ⟨List.mem_cons_of_mem _ this.1, this.2⟩
theorem firstReal_none (h : firstReal ws = none) : ∀ w ∈ ws, w = 0 := by
  induction ws with
  | nil => intro w hw; cases hw
  | cons v ws ih =>
    unfold firstReal at h
    split at h
    · cases h
    · rename_i hv
      intro w hw
      rcases List.mem_cons.mp hw with e | e
      · subst e; exact Decidable.not_not.mp hv
      · exact ih h w e
def dimM : List V → Nat
  | [] => 0
  | p :: ps =>
    let ways := (p :: ps).map (· - p)
    match firstReal ways with
    | none => 0
    | some along => match firstReal (ways.map (cr along)) with
      | none => 1
      | some up => if ways.any (fun w => decide (dot up w ≠ 0)) then 3 else 2
/-- points that are not on a plane -/
def Solid (pts : List V) : Prop := ∃ A ∈ pts, ∃ B ∈ pts, ∃ C ∈ pts, ∃ D ∈ pts, det (B - A) (C - A) (D - A) ≠ 0
theorem dim_solid (h : dimM pts = 3) : Solid pts := by
  match pts, h with
  | p :: ps, h =>
    unfold dimM at h
    dsimp only at h
    split at h
    · cases h
    · rename_i along h1
      split at h
      · cases h
      · rename_i up h2
        split at h
        · rename_i h3
          obtain ⟨m1, n1⟩ := firstReal_some h1
          obtain ⟨m2, n2⟩ := firstReal_some h2
          obtain ⟨w2, m2, e2⟩ := List.mem_map.mp m2
          rw [List.any_eq_true] at h3
          obtain ⟨w3, m3, e3⟩ := h3
          obtain ⟨B, hB, eB⟩ := List.mem_map.mp m1
          obtain ⟨C, hC, eC⟩ := List.mem_map.mp m2
          obtain ⟨D, hD, eD⟩ := List.mem_map.mp m3
          refine ⟨p, by simp, B, hB, C, hC, D, hD, ?_⟩
          rw [eB, eC, eD]
          have e3' : dot up w3 ≠ 0 := by simpa using e3
          rw [← e2, dot_cr'] at e3'
          exact e3'
        · cases h
/-- below 3: a plane has them all -/
theorem dim_flat (h : dimM pts ≠ 3) : ¬ Solid pts := by
  rintro ⟨A, hA, B, hB, C, hC, D, hD, hd⟩
  match pts, h, hA, hB, hC, hD with
  | p :: ps, h, hA, hB, hC, hD =>
    unfold dimM at h
    dsimp only at h
    have mm : ∀ X ∈ p :: ps, X - p ∈ (p :: ps).map (· - p) := fun X hX => List.mem_map.mpr ⟨X, hX, rfl⟩
    -- a functional that is 0 on all ways
    have fin : ∀ n : V, n ≠ 0 → (∀ X ∈ p :: ps, dot n (X - p) = 0) → False := fun n hn hz => by
      have q : ∀ X ∈ p :: ps, dot n (X - A) = 0 := fun X hX => by
        have h1 := hz X hX
        have h2 := hz A hA
        rw [dot_sub] at *; lia
      exact hd (det_flat hn (q B hB) (q C hC) (q D hD))
    split at h
    · rename_i h1
      have z := firstReal_none h1
      refine fin ⟨1, 0, 0⟩ (fun e => by have := congrArg V.x e; simp at this) fun X hX => ?_
      rw [z _ (mm X hX)]; exact dot_zero _
    · rename_i along h1
      obtain ⟨m1, n1⟩ := firstReal_some h1
      split at h
      · rename_i h2
        have z := firstReal_none h2
        have z' : ∀ X ∈ p :: ps, cr along (X - p) = 0 := fun X hX => z _ (List.mem_map.mpr ⟨_, mm X hX, rfl⟩)
        -- some vector across along
        obtain ⟨u, hu, hu'⟩ : ∃ u : V, cr along u ≠ 0 ∧ True := by
          rcases ne_zero_comp n1 with q | q | q
          · exact ⟨⟨0, 1, 0⟩, fun e => q (by have := congrArg V.z e; simpa using this), trivial⟩
          · exact ⟨⟨1, 0, 0⟩, fun e => q (by have := congrArg V.z e; simpa using this), trivial⟩
          · exact ⟨⟨0, 1, 0⟩, fun e => q (by have := congrArg V.x e; simpa using this), trivial⟩
        refine fin (cr along u) hu fun X hX => ?_
        rw [dot_cr', det_par3 (z' X hX)]
      · rename_i up h2
        obtain ⟨m2, n2⟩ := firstReal_some h2
        split at h
        · exact h rfl
        · rename_i h3
          refine fin up n2 fun X hX => ?_
          by_cases z : dot up (X - p) = 0
          · exact z
          · exact absurd (List.any_eq_true.mpr ⟨X - p, mm X hX, by simpa using z⟩) h3
/-- below 2: a line has them all -/
theorem dim_line (h : dimM pts < 2) : ∀ X ∈ pts, ∀ Y ∈ pts, ∀ Z ∈ pts, cr (Y - X) (Z - X) = 0 := by
  match pts, h with
  | [], _ => intro X hX; cases hX
  | p :: ps, h =>
    unfold dimM at h
    dsimp only at h
    have mm : ∀ X ∈ p :: ps, X - p ∈ (p :: ps).map (· - p) := fun X hX => List.mem_map.mpr ⟨X, hX, rfl⟩
    intro X hX Y hY Z hZ
    split at h
    · rename_i h1
      have z := firstReal_none h1
      have e : ∀ W ∈ p :: ps, W = p := fun W hW => by
        have := z _ (mm W hW)
        have q1 := congrArg V.x this; have q2 := congrArg V.y this; have q3 := congrArg V.z this
        simp at q1 q2 q3
        exact ext (by lia) (by lia) (by lia)
      rw [e X hX, e Y hY, sub_self_v]
      apply ext <;> simp
    · rename_i along h1
      obtain ⟨m1, n1⟩ := firstReal_some h1
      split at h
      · rename_i h2
        have z := firstReal_none h2
        have z' : ∀ X ∈ p :: ps, cr along (X - p) = 0 := fun X hX => z _ (List.mem_map.mpr ⟨_, mm X hX, rfl⟩)
        have k : ∀ U ∈ p :: ps, ∀ W ∈ p :: ps, cr (U - W) along = 0 := fun U hU W hW => by
          have q1 := z' U hU
          have q2 := z' W hW
          have a1 := congrArg V.x q1; have a2 := congrArg V.y q1; have a3 := congrArg V.z q1
          have b1 := congrArg V.x q2; have b2 := congrArg V.y q2; have b3 := congrArg V.z q2
          simp at a1 a2 a3 b1 b2 b3
          apply ext <;> simp <;> grind
        exact cr_par n1 (k Y hY X hX) (k Z hZ X hX)
      · split at h <;> lia
/-- 2 and more: three are not on a line -/
theorem dim_plane (h : 2 ≤ dimM pts) : ∃ X ∈ pts, ∃ Y ∈ pts, ∃ Z ∈ pts, cr (Y - X) (Z - X) ≠ 0 := by
  match pts, h with
  | [], h => exact absurd h (by simp [dimM])
  | p :: ps, h =>
    unfold dimM at h
    dsimp only at h
    split at h
    · lia
    · rename_i along h1
      obtain ⟨m1, n1⟩ := firstReal_some h1
      split at h
      · lia
      · rename_i up h2
        obtain ⟨m2, n2⟩ := firstReal_some h2
        obtain ⟨w2, m2, e2⟩ := List.mem_map.mp m2
        obtain ⟨B, hB, eB⟩ := List.mem_map.mp m1
        obtain ⟨C, hC, eC⟩ := List.mem_map.mp m2
        exact ⟨p, by simp, B, hB, C, hC, by rw [eB, eC, e2]; exact n2⟩
theorem Solid.off (h : Solid pts) (hn : n ≠ 0) : ∃ Z ∈ pts, dot n Z ≠ d := by
  obtain ⟨A, hA, B, hB, C, hC, D, hD, hd⟩ := h
  by_cases a : dot n A = d
  · by_cases b : dot n B = d
    · by_cases c : dot n C = d
      · by_cases e : dot n D = d
        · exact absurd (det_flat hn (by rw [dot_sub]; lia) (by rw [dot_sub]; lia) (by rw [dot_sub]; lia)) hd
        · exact ⟨D, hD, e⟩
      · exact ⟨C, hC, c⟩
    · exact ⟨B, hB, b⟩
  · exact ⟨A, hA, a⟩
theorem Solid.below (h : Solid pts) (hn : n ≠ 0) (hs : ∀ X ∈ pts, dot n X ≤ d) : ∃ Z ∈ pts, dot n Z < d := by
  obtain ⟨Z, hZ, e⟩ := h.off (d := d) hn
  exact ⟨Z, hZ, by have := hs Z hZ; lia⟩

/-! ### the first pair -/
def kk : V := ⟨0, 0, 1⟩
def firstPair (m : V) (pts : List V) : V × V :=
  let u := planeAbout m (m + kk) pts
  let touched := onP u.1 u.2 pts
  if dimM touched = 2 then (m, m + kk) else (touched.getD 0 0, touched.getD 1 0)
theorem up_cone : ConeM kk (fun w => 0 < w.x ∨ (w.x = 0 ∧ 0 < w.y)) where
  add := fun {u v} h1 h2 => by simp; lia
  mul := fun {k u} hk h => by
    simp
    rcases h with h | ⟨h, h'⟩
    · exact .inl (Int.mul_pos hk h)
    · exact .inr ⟨by rw [h]; simp, Int.mul_pos hk h'⟩
  irr := by simp
  inv := fun {u} k h => by simpa [kk] using h
theorem plane_cone (h : dot n a = 0) : ConeM a (fun w => dot n w < 0) where
  add := fun {u v} h1 h2 => by rw [dot_add]; lia
  mul := fun {k u} hk h => by rw [dot_mul]; exact Int.mul_neg_of_pos_of_neg hk h
  irr := by rw [dot_zero]; lia
  inv := fun {u} k h' => by rw [dot_add, dot_mul, h]; simpa using h'
theorem add_sub_v (m k : V) : m + k - m = k := ext (by simp; lia) (by simp; lia) (by simp; lia)
/-- the first pair leads to a face -/
theorem first_face (hs : Solid pts) (ho : pts.Pairwise (fun a b => lexPos (b - a))) (hm : m ∈ pts) (hl : ∀ X ∈ pts, X = m ∨ lexPos (X - m)) :
    IsFace pts (planeAbout (firstPair m pts).1 (firstPair m pts).2 pts).1 (planeAbout (firstPair m pts).1 (firstPair m pts).2 pts).2 := by
  have C : ConeM (m + kk - m) (fun w => 0 < w.x ∨ (w.x = 0 ∧ 0 < w.y)) := by rw [add_sub_v]; exact up_cone
  have hne : m + kk - m ≠ 0 := by rw [add_sub_v]; intro e; have := congrArg V.z e; simp [kk] at this
  have hp : ∀ P ∈ pts, (0 < (P - m).x ∨ ((P - m).x = 0 ∧ 0 < (P - m).y)) ∨ cr (m + kk - m) (P - m) = 0 := fun P hP => by
    rw [add_sub_v]
    rcases hl P hP with e | e
    · right; subst e; rw [sub_self_v]; apply ext <;> simp
    · unfold lexPos at e
      rcases e with e | ⟨e1, e | ⟨e2, e3⟩⟩
      · exact .inl (.inl e)
      · exact .inl (.inr ⟨e1, e⟩)
      · right
        apply ext
        · simp [kk]; simp at e2; lia
        · simp [kk]; simp at e1; lia
        · simp [kk]
  have hx : ∃ P ∈ pts, 0 < (P - m).x ∨ ((P - m).x = 0 ∧ 0 < (P - m).y) := by
    by_cases z : ∃ P ∈ pts, 0 < (P - m).x ∨ ((P - m).x = 0 ∧ 0 < (P - m).y)
    · exact z
    · exfalso
      obtain ⟨Z, hZ, e⟩ := hs.off (n := ⟨1, 0, 0⟩) (d := m.x) (fun e => by have := congrArg V.x e; simp at this)
      have w := (hp Z hZ).resolve_left fun q => z ⟨Z, hZ, q⟩
      rw [add_sub_v] at w
      have := congrArg V.y w
      simp [kk] at this
      simp [dot] at e
      lia
  obtain ⟨out, g, o1, o2, g0, ge, gp, gd, sup, sB, sO, sP⟩ := about_ok C hne hp hx
  have tm : m ∈ onP (planeAbout m (m + kk) pts).1 (planeAbout m (m + kk) pts).2 pts := mem_onP.mpr ⟨hm, gd.symm⟩
  have to : out ∈ onP (planeAbout m (m + kk) pts).1 (planeAbout m (m + kk) pts).2 pts := mem_onP.mpr ⟨o1, sO⟩
  have hmo : m ≠ out := fun e => by subst e; rw [sub_self_v] at o2; simp at o2
  by_cases h2 : dimM (onP (planeAbout m (m + kk) pts).1 (planeAbout m (m + kk) pts).2 pts) = 2
  · have e : firstPair m pts = (m, m + kk) := by unfold firstPair; simp only [h2, if_true]
    rw [e]
    obtain ⟨X, hX, Y, hY, Z, hZ, hc⟩ := dim_plane (pts := onP (planeAbout m (m + kk) pts).1 (planeAbout m (m + kk) pts).2 pts) (by lia)
    have hX := mem_onP.mp hX
    have hY := mem_onP.mp hY
    have hZ := mem_onP.mp hZ
    exact ⟨gp, sup, X, hX.1, Y, hY.1, Z, hZ.1, hX.2, hY.2, hZ.2, hc⟩
  · -- on a line
    have h1 : dimM (onP (planeAbout m (m + kk) pts).1 (planeAbout m (m + kk) pts).2 pts) ≠ 3 := fun z => by
      obtain ⟨A, hA, B, hB, C, hC, D, hD, hd⟩ := dim_solid z
      have hA := mem_onP.mp hA
      have hB := mem_onP.mp hB
      have hC := mem_onP.mp hC
      have hD := mem_onP.mp hD
      exact hd (det_flat gp.ne (by rw [dot_sub]; lia) (by rw [dot_sub]; lia) (by rw [dot_sub]; lia))
    have hlt : dimM (onP (planeAbout m (m + kk) pts).1 (planeAbout m (m + kk) pts).2 pts) < 2 := by
      have : dimM (onP (planeAbout m (m + kk) pts).1 (planeAbout m (m + kk) pts).2 pts) ≤ 3 := by
        generalize onP (planeAbout m (m + kk) pts).1 (planeAbout m (m + kk) pts).2 pts = t
        unfold dimM
        split
        · lia
        · dsimp only; split
          · lia
          · split
            · lia
            · split <;> lia
      lia
    have line := dim_line hlt
    have e : firstPair m pts = ((onP (planeAbout m (m + kk) pts).1 (planeAbout m (m + kk) pts).2 pts).getD 0 0, (onP (planeAbout m (m + kk) pts).1 (planeAbout m (m + kk) pts).2 pts).getD 1 0) := by
      unfold firstPair; simp only [h2, if_false]
    rw [e]
    have ord : (onP (planeAbout m (m + kk) pts).1 (planeAbout m (m + kk) pts).2 pts).Pairwise (fun a b => lexPos (b - a)) := List.Pairwise.filter _ ho
    have onm : ∀ X, X ∈ onP (planeAbout m (m + kk) pts).1 (planeAbout m (m + kk) pts).2 pts ↔ X ∈ pts ∧ dot (planeAbout m (m + kk) pts).1 X = (planeAbout m (m + kk) pts).2 := fun X => mem_onP
    generalize onP (planeAbout m (m + kk) pts).1 (planeAbout m (m + kk) pts).2 pts = t at *
    match t, tm, to with
    | [], tm, _ => cases tm
    | [x], tm, to =>
      simp at tm to
      exact absurd (tm.trans to.symm) hmo
    | x :: y :: r, tm, to =>
      dsimp only [List.getD_cons_zero, List.getD_cons_succ]
      have hxy : lexPos (y - x) := (List.pairwise_cons.mp ord).1 y (by simp)
      have ox := (onm x).mp (by simp)
      have oy := (onm y).mp (by simp)
      have hyx : y - x ≠ 0 := fun z => by rw [z] at hxy; exact lexCone.irr hxy
      have na : dot (planeAbout m (m + kk) pts).1 (y - x) = 0 := by rw [dot_sub]; lia
      have C2 := plane_cone na
      obtain ⟨Z, hZ, hz⟩ := hs.below gp.ne sup
      obtain ⟨out2, g2, p1, p2, p0, pe, pp, pd, sup2, sB2, sO2, sP2⟩ := about_ok C2 hyx (pts := pts) (fun P hP => by
        have := sup P hP
        by_cases q : dot (planeAbout m (m + kk) pts).1 P < (planeAbout m (m + kk) pts).2
        · exact .inl (by rw [dot_sub]; lia)
        · exact .inr (line x (by simp) y (by simp) P ((onm P).mpr ⟨hP, by lia⟩))) ⟨Z, hZ, by rw [dot_sub]; lia⟩
      exact ⟨pp, sup2, x, ox.1, y, oy.1, out2, p1, pd.symm, sB2, sO2, C2.npar hyx p2⟩
end G

namespace DL
open PySem PySem.Spec L2
open PyProof.Rows hiding St
/-! ### sums, the greatest and the least of ints -/
theorem vals_ints : ∀ {ns : List Int} {us : List Value}, Vals (ns.map V.int) us → IntsAre us ns
  | [], _, .nil => .nil
  | n :: ns, _, .cons r t => by
    obtain ⟨tk, rfl⟩ := r
    exact .cons n tk (vals_ints t)
section

theorem call_sumR (hc : X.calm = true) : CallR X (.builtin "sum") (fun xs H Q => ∃ (p : Addr) (ns : List Int), xs = [.ref p] ∧ SqL X.K H p (ns.map V.int) ∧ Q (.int ns.sum) H) := by
  intro pins s σ H xs us Q I r h
  obtain ⟨p, ns, rfl, hq, q⟩ := h
  obtain ⟨u, rfl, rx⟩ := vals1 r
  cases rx
  obtain ⟨its, r', pl, hz⟩ := I.list hq
  have hi := vals_ints r'
  obtain ⟨ys, e⟩ := hi.allInts.items
  have hl := pl.isList
  rw [e] at hl
  refine sum_intListG (I.ok.hd hc) hl fun h' tk t' hk => ?_
  have en : preSum (numAt ys) ys.size = ns.sum := by
    have h1 := nums_intItems ys
    rw [← e] at h1
    have h2 := hi.numsOf
    rw [show its.toArray.toList = its from rfl, h2] at h1
    rw [preSum_eq, List.take_of_length_le (by simp), h1]
  rw [en]
  exact ⟨.int ns.sum, H, I.kept hk, ⟨t', rfl⟩, q⟩
/-- a list of ints -/
def intsD : List D → Option (List Int)
  | [] => some []
  | .int i :: r => (intsD r).map (i :: ·)
  | _ => none
theorem intsD_map : ∀ {ds : List D} {ns : List Int}, intsD ds = some ns → ds = ns.map D.int
  | [], ns, h => by cases h; rfl
  | .int i :: r, ns, h => by
    simp only [intsD, Option.map_eq_some_iff] at h
    obtain ⟨m, h1, rfl⟩ := h
    rw [intsD_map h1]; rfl
  | .non :: _, _, h => by cases h
  | .bl _ :: _, _, h => by cases h
  | .str _ :: _, _, h => by cases h
  | .tup _ :: _, _, h => by cases h
  | .lst _ :: _, _, h => by cases h
  | .dct :: _, _, h => by cases h
theorem intsD_of : ∀ ns : List Int, intsD (ns.map D.int) = some ns
  | [] => rfl
  | n :: ns => by simp [intsD, intsD_of ns]
theorem reps_ints {K : PySem.W.Frag} {H : Hp} {O : Addr → Prop} : ∀ {vs : List V} {ns : List Int}, Reps K H O vs (ns.map D.int) → vs = ns.map V.int
  | [], [], _ => rfl
  | v :: vs, n :: ns, .cons h t => by cases h; rw [reps_ints t]; rfl
def sumR : List D → R D
  | [.lst xs] => match intsD xs with
    | some ns => .ok (.int ns.sum)
    | none => .bad
  | _ => .bad
variable [Tabs] in
theorem cd_sum (hc : X.calm = true) : CallD X (.builtin "sum") sumR := by
  intro H O vs ds Q fr r q
  match ds, q with
  | [.lst xs], q =>
    obtain ⟨v, rfl, z⟩ := pr1 r
    obtain ⟨p, ys, rfl, h1, h2⟩ := z.lstI
    simp only [sumR] at q
    cases e : intsD xs with
    | none => rw [e] at q; exact q.elim
    | some ns =>
      rw [e] at q
      rw [intsD_map e] at h2
      rw [reps_ints h2] at h1
      exact ⟨_, call_sumR hc, p, ns, rfl, h1, q _ H (Same.refl _) .int⟩
end
@[simp] theorem sumR4 (a b c d : Int) : sumR [.lst [.int a, .int b, .int c, .int d]] = .ok (.int (a + (b + (c + d)))) := by simp [sumR, intsD]
/-! ### loops by what is left -/
theorem forL_left (Iv : List D → Ev → Prop) (ht : ∀ d ds ρ, Iv (d :: ds) ρ → ∃ ρ2, stepL G F d ρ = .ok (.nx ρ2) ∧ Iv ds ρ2) : ∀ {ds : List D} {ρ : Ev}, Iv ds ρ → ∃ ρ', forL G F ds ρ = .ok (.nx ρ') ∧ Iv [] ρ'
  | [], ρ, h => ⟨ρ, rfl, h⟩
  | d :: ds, ρ, h => by
    obtain ⟨ρ2, e, h2⟩ := ht d ds ρ h
    obtain ⟨ρ', e', h'⟩ := forL_left Iv ht h2
    unfold stepL at e
    cases e1 : G d ρ with
    | ok ρ1 =>
      rw [e1] at e
      exact ⟨ρ', by rw [forL, e1]; dsimp only at e ⊢; rw [e]; exact e', h'⟩
    | ex x => rw [e1] at e; cases e
    | bad => rw [e1] at e; cases e
theorem ret_left (Iv : List D → Ev → Prop) (ht : ∀ d ds ρ, Iv (d :: ds) ρ → ∃ ρ2, stepL G F d ρ = .ok (.nx ρ2) ∧ Iv ds ρ2) (h0 : Iv ds ρ) (h2 : ∀ ρ', Iv [] ρ' → retR (F2 ρ') = .ok d) :
    retR (thenR (forL G F ds ρ) F2) = .ok d := by
  obtain ⟨ρ', e, h⟩ := forL_left Iv ht h0
  rw [e]
  exact h2 ρ' h
theorem ex_while {Post : Ev → Prop} (Iv : Nat → Ev → Prop) (ht : ∀ n ρ, Iv (n + 1) ρ → c ρ = .ok false ∨ (c ρ = .ok true ∧ ∃ ρ2, F ρ = .ok (.nx ρ2) ∧ Iv n ρ2)) (h00 : ∀ ρ, ¬ Iv 0 ρ) (h0 : Iv n ρ) (hp : ∀ m ρ', Iv m ρ' → c ρ' = .ok false → Post ρ') : ∃ ρ2, whileN c F n ρ = .ok (.nx ρ2) ∧ Post ρ2 := by
  obtain ⟨m, ρ', e, h, hc⟩ := whileN_inv Iv ht h00 n ρ h0
  exact ⟨ρ', e, hp m ρ' h hc⟩
end DL
namespace M
open PySem L2 DL
/-! ### planes -/
abbrev pd4 (n : G.V) (d : Int) : D := .tup [.int n.x, .int n.y, .int n.z, .int d]
def m_common_divisor : List D → R D
  | [.tup [.int a, .int b, .int c]] => .ok (.int (G.gcd3 ⟨a, b, c⟩))
  | _ => .bad
theorem divisor_ok (v : G.V) : m_common_divisor [vd v] = .ok (.int (G.gcd3 v)) := rfl
/-- three points not too great -/
def Sz3 (P Q R : G.V) : Prop := Sz 1000 P ∧ Sz 1000 Q ∧ Sz 1000 R
open Classical in
noncomputable def m_plane_through : List D → R D := v1 fun a b c => v1 fun d e f => v1 fun g h i => nlD (
    if Sz3 ⟨a, b, c⟩ ⟨d, e, f⟩ ⟨g, h, i⟩ ∧ G.cr ((⟨d, e, f⟩ : G.V) - ⟨a, b, c⟩) ((⟨g, h, i⟩ : G.V) - ⟨a, b, c⟩) ≠ 0 then .ok (pd4 (G.planeThrough ⟨a, b, c⟩ ⟨d, e, f⟩ ⟨g, h, i⟩).1 (G.planeThrough ⟨a, b, c⟩ ⟨d, e, f⟩ ⟨g, h, i⟩).2) else .bad)
theorem plane_ok {P Q R : G.V} (h : Sz3 P Q R) (hc : G.cr (Q - P) (R - P) ≠ 0) : m_plane_through [vd P, vd Q, vd R] = .ok (pd4 (G.planeThrough P Q R).1 (G.planeThrough P Q R).2) := if_pos ⟨h, hc⟩
theorem bits_gcd3 (h : Sz n v) : bits (G.gcd3 v : Nat) ≤ n := by
  have e : ((G.gcd3 v : Nat) : Int) = Int.gcd (Int.gcd v.x v.y : Nat) v.z := by simp [G.gcd3, Int.gcd]
  rw [e]
  exact bits_gcd (bits_gcd h.1 h.2.1) h.2.2
theorem fdiv_pos {a g : Int} (h : 0 < g) : a.fdiv g = a / g := Int.fdiv_eq_ediv_of_nonneg a (Int.le_of_lt h)
end M

/-! A comprehension as a new list; xs[k] = a new list of ints, where the comprehension reads xs; str of an int, join, {k: v}; all. -/
namespace DL
open PySem PySem.Spec L2
open PyProof.Rows hiding St
variable [Tabs]
section
theorem pf_comp (own fr : List Str) (js : List Nat) (hc : X.calm = true) (S : CompSc X scope own fr js) (hi : PID X tg iter fi) (hX : ∀ (pins : List (Addr × Obj)) (fp : List Addr) (X' : Cx), (∃ s₀ H₁ C, X' = cxC X pins s₀ H₁ (own ++ fr) scope (blkC X scope C) C fp) → PGD X' tg G ∧ PTs X' ifs ft ∧ PD X' elt fe) (hG : ∀ ρ d ρ1, G d (blockEv own js ρ) = .ok ρ1 → Weak ρ1 (blockEv own js ρ)) (hs : ∀ x, foldedSetIterable iter X.env x = pure x := by intro _; rfl) :
    PF X (.ListComp elt [⟨tg, iter, ifs, 0⟩] scope pos) (fun ρ => (fi ρ).bind fun ds => if ds.length ≤ sizeLine then compL G ft fe (blockEv own js ρ) ds else .bad) := by
  refine mkE fun pins s σ H Q I H₀ O₀ O ρ E q => ?_
  dsimp only at q
  rw [eval_ListComp]
  refine wpAny_comprehension_free (use := none) rfl hs (closureFor_eq (Inv.has_cells I S)) S.kind S.names ?_
  refine thn (hi pins s σ H (fun J H1 => ∃ ds rs, Same H H1 ∧ ItD X.K J H1 O ds ∧ ds.length ≤ sizeLine ∧ compL G ft fe (blockEv own js ρ) ds = .ok rs ∧ ∀ vs H1 a, Same H H1 → H1 a = none → Reps X.K H1 O vs rs → Q (.ref a) (upd H1 a (.lst vs))) I ⟨H₀, O₀, O, ρ, E, offK I O E.trk, ?_⟩) fun v s1 h1 => thn h1 fun itv s2 h2 => ?_
  · cases e1 : fi ρ with
    | ex x => rw [e1] at q; exact q
    | bad => rw [e1] at q; exact q
    | ok ds =>
      rw [e1, R.bind_ok] at q
      intro J H1 s1 hJ
      by_cases hl : ds.length ≤ sizeLine
      · rw [if_pos hl] at q
        cases e2 : compL G ft fe (blockEv own js ρ) ds with
        | ex x => rw [e2] at q; exact (q H (Same.refl _)).elim
        | bad => rw [e2] at q; exact q.elim
        | ok rs => rw [e2] at q; exact ⟨ds, rs, s1, hJ, hl, e2, q⟩
      · rw [if_neg hl] at q; exact q.elim
  · obtain ⟨it, fp, tn, J, H2, e, I2, T, st2, f2, ds, rs, sm, hJ, hl, hrs, q⟩ := h2
    subst e
    refine comp_run (RR := fun acc C => compPost (model X.prog X.w) X.A X.xe none (EP X pins σ Q) acc C) hc S (hX pins fp) (hG ρ) I2 T st2 f2 (E.grow sm) hJ hrs hl ?_
    intro acc C s' H' m hn _ _ _ sm' r nw _ hI
    obtain ⟨H1, vs, s1', ha1, eH, rr⟩ := nw
    subst eH
    exact ⟨m, hn, fun h' hs' => ⟨.ref acc, _, hI h' hs', rfl, q vs H1 acc (sm.trans s1') ha1 rr⟩⟩
theorem star_lst {xs es : List Expr} {p : Pos} {env : Env} : starEach (.List xs p :: es) env = (false, eval (.List xs p) env) :: starEach es env := rfl
def lsG (ds : List D) : R (List D) := if ds.length ≤ sizeLine then .ok ds else .bad
theorem pf_lstG (h : PAD X es f) : PF X (.List es pos) (fun ρ => (f ρ).bind lsG) := pf_lst h
theorem lsG_ok (h : ds.length ≤ 1000) : lsG ds = .ok ds := if_pos (Nat.le_trans h (by decide))
theorem PSD.congr {X : Cx} {sm : Stmt} {F F' : Ev → R Out} (h : PSD X sm F) (e : ∀ ρ, F ρ = F' ρ) : PSD X sm F' := by
  have : F = F' := funext e
  rw [← this]; exact h
theorem PD.congr {X : Cx} {e : Expr} {f f' : Ev → R D} (h : PD X e f) (hf : ∀ ρ, f ρ = f' ρ) : PD X e f' := by
  have : f = f' := funext hf
  rw [← this]; exact h
abbrev cE (a : Int) (p : Pos) : Expr := Expr.Constant (Const.int a) 0 p
abbrev rowE (a b c : Int) (p1 p2 p3 q : Pos) : Expr := Expr.List [cE a p1, cE b p2, cE c p3] q
abbrev row3 (a b c : Int) : D := D.lst [D.int a, D.int b, D.int c]
theorem pd_row3 {X : Cx} {a b c : Int} {p1 p2 p3 q : Pos} : PD X (rowE a b c p1 p2 p3 q) (fun _ => R.ok (row3 a b c)) := by
  have h3 : PAD X [cE c p3] (consR (evC (D.int c)) nilR) := pad_cons pd_int pad_nil rfl
  have h2 : PAD X [cE b p2, cE c p3] (consR (evC (D.int b)) (consR (evC (D.int c)) nilR)) := pad_cons pd_int h3 rfl
  have h1 : PAD X [cE a p1, cE b p2, cE c p3] (consR (evC (D.int a)) (consR (evC (D.int b)) (consR (evC (D.int c)) nilR))) := pad_cons pd_int h2 rfl
  refine PD.congr (pd_lst h1) fun ρ => ?_
  show lstR [D.int a, D.int b, D.int c] = _
  exact if_pos (by rw [sizeLine_eq]; simp)
theorem swaps_lst {xs : List Expr} {p : Pos} {t : Option Expr} {l : Nat} {env : Env} : swapsWith (Expr.List xs p) t l env = pure false := rfl
theorem psd_ownC (i : Nat) {x : Str} {eL : Expr} {g : Ev → R (List D)} {vals : List D} {pos' pos : Pos} (h1 : PF X eL g) (he : ∀ ρ, g ρ = R.ok vals) (hN : X.N.Nodup) (h2 : swapsWith eL (some (Expr.Name x pos')) pos.line X.env = pure false) (hi : X.N[i]? = some x) (hx : Loc X.env.scope x) (hf : X.fn x = true ∨ X.env.scope.names.lookup x = some .local) : PSD X (Stmt.Assign [Expr.Name x pos'] eL pos) (fun ρ => R.ok (Out.nx (ρ.set i (Sl.o vals)))) :=
  PSD.congr (psd_own i h1 hN hi hx h2 hf) fun ρ => by rw [he]; rfl
theorem psd_r9 (i : Nat) {x : Str} {a1 a2 a3 a4 a5 a6 a7 a8 a9 : Int} {p1 p2 p3 p4 p5 p6 p7 p8 p9 q1 q2 q3 q pos' pos : Pos} (hN : X.N.Nodup) (hi : X.N[i]? = some x := by rfl) (hx : Loc X.env.scope x := by first | exact Or.inl rfl | exact Or.inr rfl) (hf : X.fn x = true ∨ X.env.scope.names.lookup x = some .local := by first | exact .inl rfl | exact .inr rfl | assumption) :
    PSD X (Stmt.Assign [Expr.Name x pos'] (Expr.List [rowE a1 a2 a3 p1 p2 p3 q1, rowE a4 a5 a6 p4 p5 p6 q2, rowE a7 a8 a9 p7 p8 p9 q3] q) pos) (fun ρ => R.ok (Out.nx (ρ.set i (Sl.o [row3 a1 a2 a3, row3 a4 a5 a6, row3 a7 a8 a9])))) := by
  have h3 : PAD X [rowE a7 a8 a9 p7 p8 p9 q3] (consR (fun _ => R.ok (row3 a7 a8 a9)) nilR) := by with_reducible exact pad_cons pd_row3 pad_nil star_lst
  have h2 : PAD X [rowE a4 a5 a6 p4 p5 p6 q2, rowE a7 a8 a9 p7 p8 p9 q3] (consR (fun _ => R.ok (row3 a4 a5 a6)) (consR (fun _ => R.ok (row3 a7 a8 a9)) nilR)) := by with_reducible exact pad_cons pd_row3 h3 star_lst
  have h1 : PAD X [rowE a1 a2 a3 p1 p2 p3 q1, rowE a4 a5 a6 p4 p5 p6 q2, rowE a7 a8 a9 p7 p8 p9 q3] (consR (fun _ => R.ok (row3 a1 a2 a3)) (consR (fun _ => R.ok (row3 a4 a5 a6)) (consR (fun _ => R.ok (row3 a7 a8 a9)) nilR))) := by with_reducible exact pad_cons pd_row3 h2 star_lst
  have e : ∀ ρ, ((consR (fun _ => R.ok (row3 a1 a2 a3)) (consR (fun _ => R.ok (row3 a4 a5 a6)) (consR (fun _ => R.ok (row3 a7 a8 a9)) nilR))) ρ).bind lsG = R.ok [row3 a1 a2 a3, row3 a4 a5 a6, row3 a7 a8 a9] := fun ρ => lsG_ok (by simp)
  have hp := pf_lstG (X := X) (pos := q) h1
  with_reducible exact psd_ownC i hp e hN swaps_lst hi hx hf
def intB : D → Bool
  | .int _ => true
  | _ => false
theorem Reps.anyO {K : PySem.W.Frag} : ∀ {vs : List V} {ds : List D}, Reps K H O vs ds → ds.all intB = true → Reps K H' O' vs ds
  | _, _, .nil, _ => .nil
  | _, _, .cons (d := d) h t, e => by
    rw [List.all_cons, Bool.and_eq_true] at e
    cases d with
    | int i => cases h; exact .cons .int (Reps.anyO t e.2)
    | _ => cases e.1
/-- xs[k] = a new list of ints, whose making reads xs -/
theorem psd_storeF (i : Nat) {x : Str} {e k : Expr} {f : Ev → R (List D)} {g : Ev → R D} {p ps pos : Pos} (he : PF X e f) (hk : PD X k g) (hN : X.N[i]? = some x := by rfl) (hv : Vis X.env.scope x := by first | exact Or.inl rfl | exact Or.inr (Or.inl rfl) | exact Or.inr (Or.inr rfl)) (hd : (x == ("__debug__" : Str)) = false := by decide) (hcd : (x == ("__classdict__" : Str)) = false := by decide) (ha : ∀ v, assign (.Subscript (.Name x p) k ps) X.env v = (do
      let ov ← holding [v] (eval (.Name x p) X.env)
      let iv ← holding [v, ov] (eval k X.env)
      standAt ps
      holding [v, ov, iv] (setItem ov iv v)
      release [v, ov, iv] []) := by intro _; rfl) (hs : swapsWithSole [.Subscript (.Name x p) k ps] e pos.line X.env = pure false := by rfl) (hw : swappedStores [.Subscript (.Name x p) k ps] e X.env = pure none := by rfl) (h1 : (assignEach [.Subscript (.Name x p) k ps] X.env).map (·.2) = [assign (.Subscript (.Name x p) k ps) X.env] := by rfl) :
    PSD X (.Assign [.Subscript (.Name x p) k ps] e pos) (fun ρ => (f (disE i ρ)).bind fun ds => if ds.all intB = true then (g ρ).bind fun kd => stoR i ρ kd (.lst ds) else .bad) := fun H₀ O₀ =>
  psI (ps_asg he (pg_sub (pe_var hN hv hd hcd) hk set_list ha) hs hw h1) fun D σ H O ρ E fk q => by
    obtain ⟨O', E'⟩ : ∃ O', EnvOk X.K H₀ O₀ H O' σ (disE i ρ) := by
      unfold disE
      cases e : ρ[i]? with
      | none => exact ⟨O, E⟩
      | some sl =>
        cases sl with
        | o xs => obtain ⟨O', E', _⟩ := E.disown e; exact ⟨O', E'⟩
        | _ => exact ⟨O, E⟩
    refine ⟨H₀, O₀, O', disE i ρ, E', ?_⟩
    cases e1 : f (disE i ρ) with
    | ex x => rw [e1] at q; exact fun H' s => q H' (E.same.trans s)
    | bad => rw [e1] at q; exact q
    | ok ds =>
      rw [e1, R.bind_ok] at q
      intro vs H0 a s0 ha0 r0
      by_cases hb : ds.all intB = true
      · rw [if_pos hb] at q
        have s1 : Same H (upd H0 a (.lst vs)) := s0.trans (same_upd ha0 _)
        have r1 : Rep X.K (upd H0 a (.lst vs)) O (.ref a) (.lst ds) := .lst (SqL.of upd_same) ((E.grow s0).fresh ha0) (r0.anyO hb)
        have E1 := E.grow s1
        cases e2 : g ρ with
        | ok kd =>
          rw [e2, R.bind_ok] at q
          unfold stoR at q
          cases e3 : ρ[i]? with
          | none => rw [e3] at q; exact (show False from q).elim
          | some sl =>
            rw [e3] at q
            cases sl with
            | o xs =>
              obtain ⟨a', vs', h1, h2, h3, h4, h5⟩ := E1.own i xs e3
              refine ⟨_, h1, H₀, O₀, O, ρ, E1, ?_⟩
              rw [e2]
              intro kv H2 s2 r2
              have E2 := E1.grow s2
              cases kd with
              | int kk =>
                dsimp only at q
                cases e4 : ixN xs.length kk with
                | none => rw [e4] at q; exact (show False from q).elim
                | some j =>
                  rw [e4] at q
                  cases r2
                  refine ⟨a', vs', kk, j, rfl, rfl, s2 _ _ h4, by rw [h5.length]; exact e4, ?_⟩
                  obtain ⟨E3, k3⟩ := E2.write e3 h1 ((h5.same s2).set (r1.same s2) j)
                  exact q σ _ O E3 fk (((Kp.of s1).trans (Kp.of s2)).trans k3)
              | _ => exact (show False from q).elim
            | _ => exact (show False from q).elim
        | ex x => rw [e2] at q; exact (q H E.same).elim
        | bad => rw [e2] at q; exact (show False from q).elim
      · rw [if_neg hb] at q; exact q.elim
/-- str(i) -/
def strR : List D → R D
  | [.int i] => if i.natAbs.log2 < 1920 then .ok (.str (toString i)) else .bad
  | _ => .bad
theorem cd_str : CallD X (.type "str") strR := by
  intro H O vs ds Q fr r q
  match ds, q with
  | [.int i], q =>
    obtain ⟨v, rfl, z⟩ := pr1 r
    cases z.intI
    simp only [strR] at q
    split at q
    · rename_i hz; exact ⟨_, call_str_int, i, rfl, hz, q _ H (Same.refl _) .str⟩
    · exact q.elim
/-- x.join(list of texts) -/
def strsD : List D → Option (List Str)
  | [] => some []
  | .str x :: ds => (strsD ds).map (x :: ·)
  | _ :: _ => none
theorem strsD_map : ∀ (xs : List Str), strsD (xs.map D.str) = some xs
  | [] => rfl
  | x :: xs => by rw [List.map_cons, strsD, strsD_map xs]; rfl
theorem strs_vals {K : PySem.W.Frag} : ∀ {vs : List V} {ds : List D} {us : List Value} {xs : List Str}, Reps K H O vs ds → strsD ds = some xs → Vals vs us → StrsAre us xs
  | _, _, _, _, .nil, e, r => by cases e; cases r; exact .nil
  | _, _, _, _, .cons (d := d) h t, e, r => by
    cases d with
    | str x =>
      rw [strsD] at e
      cases e2 : strsD _ with
      | none => rw [e2] at e; cases e
      | some ys =>
        rw [e2] at e
        cases e
        cases h
        cases r with
        | cons r1 r2 =>
          obtain ⟨t1, rfl⟩ := r1
          exact .cons _ _ (strs_vals t e2 r2)
    | _ => cases e
def joinR (sep : Str) : D → R D
  | .lst ds => match strsD ds with
    | some xs => if sep.length ≤ 16 ∧ (xs.map (·.length)).sum + xs.length ≤ 1048576 then .ok (.str (Txt.join sep xs)) else .bad
    | none => .bad
  | _ => .bad
def rJoin (K : PySem.W.Frag) : V → List V → Hp → VK → Prop := fun x vs H Q => ∃ sep l ws xs O ds, x = .str sep ∧ vs = [.ref l] ∧ SqL K H l ws ∧ Reps K H O ws ds ∧ strsD ds = some xs ∧ sep.length ≤ 16 ∧ (xs.map (·.length)).sum + xs.length ≤ 1048576 ∧ Q (.str (Txt.join sep xs)) H
theorem mt_join : MtR X "str.join" (rJoin X.K) := by
  intro pins s σ H x vs v us Q I rx rv h
  obtain ⟨sep, l, ws, xs, O, ds, rfl, rfl, hq, r, e, h1, h2, q⟩ := h
  obtain ⟨t, rfl⟩ := rx
  obtain ⟨u, rfl, ru⟩ := rv.one
  cases ru
  obtain ⟨its, r2, pl, _⟩ := I.list hq
  exact join_listW pl.isList (by simpa using strs_vals r e r2) h1 h2 fun t' k => ⟨.str _, H, I.tok _, ⟨_, rfl⟩, q⟩
theorem pd_join {sep : Str} {e : Expr} {f : Ev → R D} {j p0 apos cpos} (he : PD X e f) (hbase : attributeBase (.Constant (.str sep) j p0) "join" X.env (eval (.Constant (.str sep) j p0) X.env) = eval (.Constant (.str sep) j p0) X.env := by rfl) (hfew : ((backTo cpos (starEach [e] X.env)).all (fun x => !x.1) && (backToKw cpos (keywordEach [] X.env)).all (fun x => x.1.isSome)
      && decide ([e].length + ([] : List Keyword).length + (if ([] : List Keyword).isEmpty then 0 else 1) < 30)) = true := by rfl) (hline : (apos.endLine == cpos.line) = true := by rfl) (hs : starEach [e] X.env = (false, eval e X.env) :: starEach [] X.env := by rfl) (hplain : (backTo cpos (starEach [] X.env)).any (·.1) = false := by rfl) :
    PD X (.Call (.Attribute (.Constant (.str sep) j p0) "join" apos) [e] [] cpos) (fun ρ => (f ρ).bind (joinR sep)) :=
  peI (pe_bm PySem.F.plainAttrs_str PySem.F.slot_str_join PySem.F.type_str_join mt_join pe_str (pad_cons he pad_nil hs) hbase hfew hline hs hplain) fun σ H Q H₀ O₀ O ρ E q => by
    dsimp only at q
    refine ⟨rfl, H₀, O₀, O, ρ, E, ?_⟩
    show RCs X H O ((f ρ).bind fun d => (R.ok []).bind fun ds => .ok (d :: ds)) _
    cases e1 : f ρ with
    | ex x => rw [e1] at q; exact q
    | bad => rw [e1] at q; exact q
    | ok d =>
      rw [e1, R.bind_ok] at q
      intro us H1 s1 r1
      cases r1 with
      | cons r1 rn =>
        cases rn
        cases d with
        | lst ds =>
          obtain ⟨l, ws, rfl, h1, h2⟩ := (RepB.of r1).lstI
          simp only [joinR] at q
          cases e2 : strsD ds with
          | none => rw [e2] at q; exact (show False from q).elim
          | some xs =>
            rw [e2] at q
            dsimp only at q
            split at q
            · rename_i hz
              exact ⟨sep, l, ws, xs, O, ds, rfl, rfl, h1, h2, e2, hz.1, hz.2, q _ H1 s1 .str⟩
            · exact (show False from q).elim
        | _ => exact (show False from q).elim
/-- {k: v}, k an int: a dict of which no more is known -/
theorem pd_dict {k : Int} {v : Expr} {f : Ev → R D} {j p1 pos} (hv : PD X v f) : PD X (.Dict [some (.Constant (.int k) j p1)] [v] pos) (fun ρ => (f ρ).bind fun _ => .ok .dct) := by
  refine mkE fun pins s σ H Q I H₀ O₀ O ρ E q => ?_
  dsimp only at q
  have gn : (s.heap.push { cls := .type "dict", data := .dict #[] }).get? s.heap.objs.size = some { cls := .type "dict", data := .dict #[] } := Heap.get?_push_size _ rfl
  have hn := I.hok.fresh (Nat.le_refl s.heap.objs.size)
  have I1 := I.laid (a := s.heap.objs.size) (o := .ext fun h => h.get? s.heap.objs.size = some { cls := .type "dict", data := .dict #[] }) (h' := s.heap.push { cls := .type "dict", data := .dict #[] }) (t' := s.toks) (fun _ _ q => Heap.get?_push_of_some _ q) (Nat.le_refl _)
    ⟨gn, ⟨_, gn⟩, fun h1 h2 e k => k _ e⟩
  have s1 := same_upd hn (.ext fun h => h.get? s.heap.objs.size = some { cls := .type "dict", data := .dict #[] })
  refine wpAny_Dict_walk (knd := intKind X.prog X.w) rfl rfl (by simp) (by simp) (pairTrees_cons_walk (thn (pe_int pins _ σ _ (fun w H2 => w = V.int k ∧ H2 = upd H s.heap.objs.size (.ext fun h => h.get? s.heap.objs.size = some { cls := .type "dict", data := .dict #[] })) I1 ⟨rfl, rfl⟩) fun u s2 ⟨x, H2, I2, r2, ex, eH⟩ => ?_))
  subst ex eH
  obtain ⟨t, rfl⟩ := r2
  refine thn (hv pins s2 σ _ (fun w H3 => Same (upd H s.heap.objs.size (.ext fun h => h.get? s.heap.objs.size = some { cls := .type "dict", data := .dict #[] })) H3 ∧ RC X H O (.ok .dct) Q) I2 ⟨H₀, O₀, O, ρ, E.grow s1, ?_⟩) fun u2 s3 ⟨y, H3, I3, r3, sm, q3⟩ => pairTrees_nil_walk ?_
  · cases e : f ρ with
    | ok d => rw [e] at q; exact fun v H' sm _ => ⟨sm, q⟩
    | ex z => rw [e] at q; exact fun H' s => q H' (s1.trans s)
    | bad => rw [e] at q; exact q
  · refine ⟨[(k, u2)], ⟨by simp [intKind, Value.isInt], rfl, trivial⟩, ?_, fun h' hD hs => ?_⟩
    · have g3 := (I3.hok _ _ (sm _ _ upd_same)).1
      obtain ⟨o, es, ep, a1, a2, a3, a4, a5, a6⟩ := Heap.DictOf.new (knd := intKind X.prog X.w) s.heap
      rw [gn] at a1
      cases a1
      exact ⟨_, es, ep, g3, a2, a3, a4, a5, a6⟩
    · obtain ⟨o', es', ep', g', ex', _⟩ := hD
      have I4 := I3.write (x := s.heap.objs.size) (e := s.heap.objs.size) (o := .ext fun h => h.get? s.heap.objs.size = some o') (h' := h') (t' := s3.toks + 1) (by rw [sm _ _ upd_same]; trivial) (.inl rfl) (fun b u hb e => (hs.2 b hb).trans e) ⟨o', g'⟩ ⟨g', ⟨o', g'⟩, fun h1 h2 e k => k _ e⟩
      refine ⟨.ref s.heap.objs.size, _, I4, rfl, q3 _ _ (fun b o hb => ?_) (.dct upd_same ex' (E.fresh hn))⟩
      have hne : b ≠ s.heap.objs.size := ne_of_none hb hn
      rw [upd_ne hne]
      exact sm b o (by rw [upd_ne hne]; exact hb)
/-! any, all -/
def boolsD : List D → Option (List Bool)
  | [] => some []
  | .bl b :: ds => (boolsD ds).map (b :: ·)
  | _ :: _ => none
theorem boolsD_get : ∀ {ds : List D} {bs : List Bool}, boolsD ds = some bs → ds = bs.map D.bl
  | [], bs, h => by cases h; rfl
  | .bl b :: ds, bs, h => by
    unfold boolsD at h
    cases e : boolsD ds with
    | none => rw [e] at h; cases h
    | some l =>
      rw [e] at h
      have h' : b :: l = bs := Option.some.inj h
      subst h'
      rw [boolsD_get e]; rfl
  | .non :: _, _, h | .int _ :: _, _, h | .str _ :: _, _, h | .tup _ :: _, _, h | .lst _ :: _, _, h | .dct :: _, _, h => by cases h
def allR : List D → R D
  | [.lst ds] => match boolsD ds with
    | some bs => .ok (.bl (bs.all id))
    | none => .bad
  | _ => .bad
theorem bool_items {K : PySem.W.Frag} {H : Hp} {O : Addr → Prop} {ws : List V} {bs : List Bool} {its : List Value} (r : Reps K H O ws (bs.map D.bl)) (v : Vals ws its) : its = bs.map Value.bool := by
  induction bs generalizing ws its with
  | nil => cases r; cases v; rfl
  | cons b bs ih =>
    cases r with
    | cons r t =>
      cases v with
      | cons rv tv =>
        cases r
        have : _ = Value.bool b := rv
        rw [this, ih t tv]; rfl
theorem range_all (bs : List Bool) : (List.range bs.length).all (fun i => bs.getD i false) = bs.all id := by
  rw [Bool.eq_iff_iff, List.all_eq_true, List.all_eq_true]
  constructor
  · intro h b hb
    obtain ⟨i, hi, rfl⟩ := List.getElem_of_mem hb
    have := h i (by simpa using hi)
    simpa [List.getD_eq_getElem?_getD, List.getElem?_eq_getElem hi] using this
  · intro h i hi
    have hi' : i < bs.length := by simpa using hi
    have := h bs[i] (List.getElem_mem hi')
    simpa [List.getD_eq_getElem?_getD, List.getElem?_eq_getElem hi'] using this
theorem cd_all (hc : X.calm = true) : CallD X (.builtin "all") allR := by
  intro H O vs ds Q fr r q
  match ds, q with
  | [.lst xs], q =>
    obtain ⟨v, rfl, z⟩ := pr1 r
    obtain ⟨p, ws, rfl, h1, h2⟩ := z.lstI
    simp only [allR] at q
    cases e : boolsD xs with
    | none => rw [e] at q; exact q.elim
    | some bs =>
      rw [e] at q
      rw [boolsD_get e] at h2
      refine ⟨fun vs H' Q' => vs = [.ref p] ∧ H' = H ∧ Q' = Q, fun pins s σ H' xs us Q' I rv ⟨e1, e2, e3⟩ => ?_, rfl, rfl, rfl⟩
      subst e1 e2 e3
      obtain ⟨u, rfl, ru⟩ := vals1 rv
      cases ru
      obtain ⟨its, rv2, ⟨oL, nL, gL, cL, dL, sL⟩, zL⟩ := I.list h1
      have ei := bool_items h2 rv2
      have hl : s.heap.IsList p its.toArray := ⟨oL, gL, cL, nL, sL⟩
      refine call_all_walk (wpAny_pyIter_list hl ⟨s.heap.objs.size, _, _, its.toArray.size, _, _, fun i => bs.getD i false, rfl, Walks.list (by simp [I.ok.hd hc]) s.heap.objs.size p (Nat.ne_of_lt (Heap.lt_size gL)) its.toArray, ⟨⟨_, Heap.get?_push_size _ rfl, rfl, rfl⟩, hl.push _⟩, fun i v s' Q E hP hq => ?_, fun h' tk kp => ?_⟩)
      · have hP : its.toArray[i]? = some v := hP
        have hq : Q (bs.getD i false) s' := hq
        rw [List.getElem?_toArray, ei, List.getElem?_map] at hP
        cases eb : bs[i]? with
        | none => rw [eb] at hP; cases hP
        | some b =>
          rw [eb] at hP
          have : Value.bool b = v := Option.some.inj hP
          subst this
          rw [List.getD_eq_getElem?_getD, eb] at hq
          exact wpAny_truthy_bool hq
      · have I2 := I.kept (h' := h') (t' := tk) fun b o e => kp b o (by simp only [List.mem_singleton]; exact Nat.ne_of_lt (Heap.lt_size e)) (Heap.get?_push_of_some _ e)
        refine ⟨.bl (bs.all id), _, I2, ?_, q _ _ (Same.refl _) .bl⟩
        show Value.bool _ = Value.bool _
        rw [List.size_toArray, ei, List.length_map, range_all]
end
end DL

namespace DL
open PySem PySem.Spec L2
theorem _root_.L2.Room.u130 (r : Room k A) : A.units + 130 < cLine := by have := r.un; lia
/-- a def of the module, by the part K of the heap -/
def Got (K : PySem.W.Frag) (x : Str) (st : Stmt) : Prop := ∃ f fd, PySem.W.nsIn K mainGlobals x = some (some (.ref f)) ∧ Fun K x x st f fd
/-- the same, by the module's names -/
def Def (K : PySem.W.Frag) (mg : Str → Option Value) (x : Str) (st : Stmt) : Prop := ∃ f fd, mg x = some (.ref f) ∧ Fun K x x st f fd
section
variable {kV doc pm cdv ct : Value}
theorem got_mk (a : PySem.W.nsIn K mainGlobals x = some (some (.ref f))) (l : K.lookup f = some ⟨oc, od, .func (PySem.W.fnOf x x (defArgs st) (defBody st) (defScope st) .none kV doc pm an cdv ct), osl⟩)
    (c : PySem.W.codeIn K cdv x = true) (k : PySem.W.keepIn K (.ref f) = true) : Got K x st := ⟨f, _, a, fun_mk l c k⟩
theorem Got.def (g : Got K x st) (X : K.In h) (G : h.Ns mainGlobals mg) : Def K mg x st := let ⟨f, fd, a, b⟩ := g; ⟨f, fd, PySem.W.mg_of X G a, b⟩
theorem scOk (h1 : sc.kind = .function := by rfl) (h2 : sc.isCoroutine = false := by rfl) (h3 : sc.isGenerator = false := by rfl) (h4 : N.Nodup := by decide +kernel) (h5 : N.take ps.length = ps := by rfl) (h6 : ∀ x ∈ ps, sc.names.lookup x = some .local ∨ sc.names.lookup x = some .cell := by decide +kernel) (h7 : ∀ y ∈ sc.names, y.2 ≠ .free := by decide +kernel) : FnScope N ps sc := ⟨h1, h2, h3, h4, h5, h6, h7⟩
variable [Tabs]

theorem cal_def (g : Def K mg x st) (S : FnScope N ps (defScope st)) (hb : ∀ {f : Addr} {cdv : Value} {A : Around} {outer : List Env} {s : Shared} {H : Hp} {E : XK}, Room k (A.deeper (PyProof.Rows.envOfC x (defScope st) s.heap.objs.size f cdv)) → (A.deeper (PyProof.Rows.envOfC x (defScope st) s.heap.objs.size f cdv)).units + 64 < cLine → (A.deeper (PyProof.Rows.envOfC x (defScope st) s.heap.objs.size f cdv)).units + 130 < cLine → N.Nodup →
      PSsD (cxN P w K mg base N x (defScope st) f cdv A outer s H E) (defBody st) F) (hm : ∀ ds d, ds.length = ps.length → m ds = .ok d → retR (F (startD N ds)) = .ok d) (hb0 : ∀ (kV doc pm : Value) (an : Option Addr) (cdv ct : Value) (us : List Value), us.length = ps.length → bindArgs (PySem.W.fnOf x x (defArgs st) (defBody st) (defScope st) .none kV doc pm an cdv ct) ⟨us, []⟩ = pure (ps.zip us) := by
      intro _ _ _ _ _ _ us hl; rcases us with _ | ⟨_, _ | ⟨_, _ | ⟨_, _ | ⟨_, _ | ⟨_, _ | ⟨_, _ | ⟨_, _⟩⟩⟩⟩⟩⟩⟩ <;> first | rfl | exact absurd hl (by simp)) : Cal P w K mg base (k + 1) x ps.length m := by
  obtain ⟨f, fd, hmg, F0⟩ := g
  exact cal_of F0 S (F0.binds hb0) hmg (fun cdv A outer s H E hr => hb hr hr.units hr.u130 S.nd) hm
end
end DL

namespace DL
open PySem PySem.Spec L2
open PyProof.Rows hiding St
variable [Tabs]
/-! ### frequent pieces of a derivation, shortly -/
section

abbrev St1 (X : Cx) (e : Expr) (es : List Expr) : Prop := starEach (e :: es) X.env = (false, eval e X.env) :: starEach es X.env
theorem pbi {i : Int} {j} : PB X (.Constant (.int i) j pos) (evC (.int i)) := pd_int.pb
theorem pc1 {e1 : Expr} {f1 : Ev → R D} (c : Cal X.prog X.w X.K X.mg X.base k x 1 m) (hr : Room k' X.A) (a1 : PD X e1 f1) (hk : k ≤ k' := by decide) (s1 : St1 X e1 [] := by rfl) (hg : Gl X x := by rfl) (hdb : (x == ("__debug__" : Str)) = false := by decide) (hpl : (backTo pos (starEach [] X.env)).any (·.1) = false := by rfl) :
    PD X (.Call (.Name x p) [e1] [] pos) (fun ρ => ((consR f1 nilR) ρ).bind m) := pd_cal c (hr.mono hk) (pad_cons a1 pad_nil s1) (lenR_cons lenR_nil) hg hdb s1 hpl
theorem pc2 {e1 e2 : Expr} {f1 f2 : Ev → R D} (c : Cal X.prog X.w X.K X.mg X.base k x 2 m) (hr : Room k' X.A) (a1 : PD X e1 f1) (a2 : PD X e2 f2) (hk : k ≤ k' := by decide) (s1 : St1 X e1 [e2] := by rfl) (s2 : St1 X e2 [] := by rfl) (hg : Gl X x := by rfl) (hdb : (x == ("__debug__" : Str)) = false := by decide) (hpl : (backTo pos (starEach [e2] X.env)).any (·.1) = false := by rfl) :
    PD X (.Call (.Name x p) [e1, e2] [] pos) (fun ρ => ((consR f1 (consR f2 nilR)) ρ).bind m) := pd_cal c (hr.mono hk) (pad_cons a1 (pad_cons a2 pad_nil s2) s1) (lenR_cons (lenR_cons lenR_nil)) hg hdb s1 hpl
theorem pc3 {e1 e2 e3 : Expr} {f1 f2 f3 : Ev → R D} (c : Cal X.prog X.w X.K X.mg X.base k x 3 m) (hr : Room k' X.A) (a1 : PD X e1 f1) (a2 : PD X e2 f2) (a3 : PD X e3 f3) (hk : k ≤ k' := by decide) (s1 : St1 X e1 [e2, e3] := by rfl) (s2 : St1 X e2 [e3] := by rfl) (s3 : St1 X e3 [] := by rfl) (hg : Gl X x := by rfl) (hdb : (x == ("__debug__" : Str)) = false := by decide) (hpl : (backTo pos (starEach [e2, e3] X.env)).any (·.1) = false := by rfl) :
    PD X (.Call (.Name x p) [e1, e2, e3] [] pos) (fun ρ => ((consR f1 (consR f2 (consR f3 nilR))) ρ).bind m) := pd_cal c (hr.mono hk) (pad_cons a1 (pad_cons a2 (pad_cons a3 pad_nil s3) s2) s1) (lenR_cons (lenR_cons (lenR_cons lenR_nil))) hg hdb s1 hpl
theorem pc4 {e1 e2 e3 e4 : Expr} {f1 f2 f3 f4 : Ev → R D} (c : Cal X.prog X.w X.K X.mg X.base k x 4 m) (hr : Room k' X.A) (a1 : PD X e1 f1) (a2 : PD X e2 f2) (a3 : PD X e3 f3) (a4 : PD X e4 f4) (hk : k ≤ k' := by decide) (s1 : St1 X e1 [e2, e3, e4] := by rfl) (s2 : St1 X e2 [e3, e4] := by rfl) (s3 : St1 X e3 [e4] := by rfl) (s4 : St1 X e4 [] := by rfl) (hg : Gl X x := by rfl) (hdb : (x == ("__debug__" : Str)) = false := by decide) (hpl : (backTo pos (starEach [e2, e3, e4] X.env)).any (·.1) = false := by rfl) :
    PD X (.Call (.Name x p) [e1, e2, e3, e4] [] pos) (fun ρ => ((consR f1 (consR f2 (consR f3 (consR f4 nilR)))) ρ).bind m) := pd_cal c (hr.mono hk) (pad_cons a1 (pad_cons a2 (pad_cons a3 (pad_cons a4 pad_nil s4) s3) s2) s1) (lenR_cons (lenR_cons (lenR_cons (lenR_cons lenR_nil)))) hg hdb s1 hpl
theorem pt2 {e1 e2 : Expr} {f1 f2 : Ev → R D} {j} (a1 : PD X e1 f1) (a2 : PD X e2 f2) (s1 : St1 X e1 [e2] := by rfl) (s2 : St1 X e2 [] := by rfl) : PD X (.Tuple [e1, e2] j pos) (fun ρ => ((consR f1 (consR f2 nilR)) ρ).bind tupR) := pd_tup (pad_cons a1 (pad_cons a2 pad_nil s2) s1)
theorem pt3 {e1 e2 e3 : Expr} {f1 f2 f3 : Ev → R D} {j} (a1 : PD X e1 f1) (a2 : PD X e2 f2) (a3 : PD X e3 f3) (s1 : St1 X e1 [e2, e3] := by rfl) (s2 : St1 X e2 [e3] := by rfl) (s3 : St1 X e3 [] := by rfl) : PD X (.Tuple [e1, e2, e3] j pos) (fun ρ => ((consR f1 (consR f2 (consR f3 nilR))) ρ).bind tupR) := pd_tup (pad_cons a1 (pad_cons a2 (pad_cons a3 pad_nil s3) s2) s1)
theorem pcb {id : String} {g : List D → R D} {e : Expr} {f : Ev → R D} (hc : CallD X (.builtin id) g) (a : PB X e f) (hg : Gl X x := by rfl) (hm : X.mg x = none := by assumption) (hv : bootBuiltins x = some (.builtin id) := by decide +kernel) (hn : x ≠ "__name__" := by decide) (hdb : (x == ("__debug__" : Str)) = false := by decide) (s1 : St1 X e [] := by rfl) (hpl : (backTo pos (starEach [] X.env)).any (·.1) = false := by rfl) :
    PD X (.Call (.Name x p) [e] [] pos) (fun ρ => (consR f nilR ρ).bind g) := pd_callB hc (pab_cons a pab_nil s1) hg hm hv hn hdb s1 hpl
theorem hx1 {fr : List Str} {scope : Scope} {tp : Pos} {elt : Expr} {fe : Ev → R D} (h : ∀ pins fp s0 H1 C, PD (cxC X pins s0 H1 ([x] ++ fr) scope (blkC X scope C) C fp) elt fe) (nd : ([x] ++ fr).Nodup := by decide +kernel) (hx : Loc (relabel scope X.env) x := by first | exact Or.inl rfl | exact Or.inr rfl) (hf : (scope.names.lookup x == some .cell) = true ∨ (relabel scope X.env).names.lookup x = some .local := by first | exact .inl rfl | exact .inr rfl) :
    ∀ (pins : List (Addr × Obj)) (fp : List Addr) (X' : Cx), (∃ s₀ H₁ C, X' = cxC X pins s₀ H₁ ([x] ++ fr) scope (blkC X scope C) C fp) → PGD X' (.Name x tp) (fun d ρ => .ok (ρ.set 0 (.v d))) ∧ PTs X' [] (fun _ => .ok true) ∧ PD X' elt fe := by
  rintro pins fp X2 ⟨s0, H1, C, rfl⟩
  exact ⟨pgd_name 0 nd rfl hx hf, pts_nil, h pins fp s0 H1 C⟩
theorem hxt {fr : List Str} {scope : Scope} {tp : Pos} {elt c : Expr} {fe : Ev → R D} {ft : Ev → R Bool} (h : ∀ pins fp s0 H1 C, PTD (cxC X pins s0 H1 ([x] ++ fr) scope (blkC X scope C) C fp) c ft ∧ PD (cxC X pins s0 H1 ([x] ++ fr) scope (blkC X scope C) C fp) elt fe) (nd : ([x] ++ fr).Nodup := by decide +kernel) (hx : Loc (relabel scope X.env) x := by first | exact Or.inl rfl | exact Or.inr rfl) (hf : (scope.names.lookup x == some .cell) = true ∨ (relabel scope X.env).names.lookup x = some .local := by first | exact .inl rfl | exact .inr rfl) :
    ∀ (pins : List (Addr × Obj)) (fp : List Addr) (X' : Cx), (∃ s₀ H₁ C, X' = cxC X pins s₀ H₁ ([x] ++ fr) scope (blkC X scope C) C fp) → PGD X' (.Name x tp) (fun d ρ => .ok (ρ.set 0 (.v d))) ∧ PTs X' [c] ft ∧ PD X' elt fe := by
  rintro pins fp X2 ⟨s0, H1, C, rfl⟩
  exact ⟨pgd_name 0 nd rfl hx hf, pts_one (h pins fp s0 H1 C).1, (h pins fp s0 H1 C).2⟩
end
end DL

namespace M
open PySem L2 DL
variable [Tabs]
theorem modP {a b : Int} (h : 0 < b) : modR (.int a) (.int b) = .ok (.int (a.fmod b)) := modR_int (by omega)
theorem fdivP {a b : Int} (h : 0 < b) (h2 : b < 1000000000000000) : fdivR (.int a) (.int b) = .ok (.int (a.fdiv b)) := fdivR_int ⟨by omega, bits_mono (bits_of_abs (n := 60) (by omega) (by omega))⟩
theorem fmodR {a b : Int} (h : 0 < b) : 0 ≤ a.fmod b ∧ a.fmod b < b := by
  have f := PyProof.Rows.fdiv_fmod_facts a b
  have g := f.2.2.1 h
  omega
theorem r_step (h1 : r = .ok (.nx ρ)) (h2 : retR (F ρ) = x) : retR (thenR r F) = x := by rw [h1]; exact h2
theorem r_done (h1 : r = .ok (.rt d)) : retR (thenR r F) = .ok d := by rw [h1]; rfl
theorem x_step {J : Ev → Prop} (h1 : r = .ok (.nx ρ)) (h2 : ∃ ρ2, F ρ = .ok (.nx ρ2) ∧ J ρ2) : ∃ ρ2, thenR r F = .ok (.nx ρ2) ∧ J ρ2 := by rw [h1]; exact h2
theorem x_goes {J : Ev → Prop} (Iv : Ev → Prop) (ht : ∀ d ∈ ds, ∀ ρ, Iv ρ → ∃ ρ2, stepL G F d ρ = .ok (.nx ρ2) ∧ Iv ρ2) (h0 : Iv ρ) (h2 : ∀ ρ', Iv ρ' → ∃ ρ2, F2 ρ' = .ok (.nx ρ2) ∧ J ρ2) : ∃ ρ2, thenR (forL G F ds ρ) F2 = .ok (.nx ρ2) ∧ J ρ2 := by
  obtain ⟨ρ', e, h⟩ := forL_goes Iv ht h0
  rw [e]
  exact h2 ρ' h
theorem x_last {J : Ev → Prop} (Iv : Ev → Prop) (ht : ∀ d ∈ ds, ∀ ρ, Iv ρ → ∃ ρ2, stepL G F d ρ = .ok (.nx ρ2) ∧ Iv ρ2) (h0 : Iv ρ) (h2 : ∀ ρ', Iv ρ' → J ρ') : ∃ ρ2, forL G F ds ρ = .ok (.nx ρ2) ∧ J ρ2 := by
  obtain ⟨ρ', e, h⟩ := forL_goes Iv ht h0
  exact ⟨ρ', e, h2 ρ' h⟩
/-! ### moves -/
def det (a b c d e f g h i : Int) : Int := a * (e * i - f * h) + b * (f * g - d * i) + c * (d * h - e * g)
def dueB : D → Bool
  | .tup [.int a, .int b, .int c, .int d, .int e, .int f, .int g, .int h, .int i, .int _, .int _, .int _] => det a b c d e f g h i == 1 || det a b c d e f g h i == -1
  | _ => false
/-- the ints of a tuple are not too great -/
def okT : D → Prop
  | .tup xs => (∀ i, D.int i ∈ xs → bits i ≤ 100000) ∧ deps xs ≤ 30
  | _ => True
theorem deps_le {k : Nat} : ∀ {xs : List D}, (∀ d ∈ xs, dep d ≤ k) → deps xs ≤ k
  | [], _ => by rw [deps]; exact Nat.zero_le _
  | x :: xs, h => by rw [deps]; exact Nat.max_le.mpr ⟨h x List.mem_cons_self, deps_le fun d hd => h d (List.mem_cons_of_mem _ hd)⟩
theorem dep_le {k : Nat} {xs : List D} (h : deps xs ≤ k) : ∀ d ∈ xs, dep d ≤ k := fun d hd => by
  obtain ⟨j, hj, rfl⟩ := List.getElem_of_mem hd
  exact Nat.le_trans (dep_mem (List.getElem?_eq_getElem hj)) h
theorem dep_ints (ns : List Int) : ∀ d ∈ ns.map D.int, dep d ≤ 0 := fun d hd => by
  obtain ⟨j, _, rfl⟩ := List.mem_map.mp hd
  simp [dep]
open Classical in
noncomputable def m_due : List D → R D
  | [d] => if okT d then .ok (.bl (dueB d)) else .bad
  | _ => .bad
theorem due_ok (h : okT d) : m_due [d] = .ok (.bl (dueB d)) := if_pos h
def m_rows_in : List D → R D
  | [.tup [a, b, c, d, e, f, g, h, i, p, q, r]] => .ok (.lst [.tup [a, b, c], .tup [d, e, f], .tup [g, h, i]])
  | _ => .bad
def m_stretch : List D → R D
  | [.lst [.tup [.int a, .int b, .int c], .tup [.int d, .int e, .int f], .tup [.int g, .int h, .int i]]] => if sz3 100000 a b c ∧ sz3 100000 d e f ∧ sz3 100000 g h i then .ok (.int (det a b c d e f g h i)) else .bad
  | _ => .bad
theorem not_ints : ∀ {xs : List D}, xs.all wholeD = false → dueB (.tup xs) = false := fun {xs} h => by
  unfold dueB
  split
  · rename_i e
    injection e with e
    subst e
    simp [wholeD] at h
  · rfl
theorem not12 {xs : List D} (h : xs.length ≠ 12) : dueB (.tup xs) = false := by
  unfold dueB
  split
  · rename_i e
    injection e with e
    subst e
    simp at h
  · rfl
theorem ints_12 {xs : List D} (h : xs.length = 12) (hw : xs.all wholeD = true) : ∃ a b c d e f g h i p q r : Int, xs = [.int a, .int b, .int c, .int d, .int e, .int f, .int g, .int h, .int i, .int p, .int q, .int r] := by
  have go : ∀ xs : List D, xs.all wholeD = true → ∃ ns : List Int, xs = ns.map D.int := fun xs => by
    induction xs with
    | nil => exact fun _ => ⟨[], rfl⟩
    | cons x xs ih =>
      intro hx
      rw [List.all_cons, Bool.and_eq_true] at hx
      obtain ⟨ns, rfl⟩ := ih hx.2
      cases x with
      | int i => exact ⟨i :: ns, rfl⟩
      | _ => cases hx.1
  obtain ⟨ns, rfl⟩ := go xs hw
  rw [List.length_map] at h
  match ns, h with
  | [a, b, c, d, e, f, g, h, i, p, q, r], _ => exact ⟨a, b, c, d, e, f, g, h, i, p, q, r, rfl⟩
/-! ### rows -/
abbrev R3 := G.V × G.V × G.V
def vl (v : G.V) : D := .lst [.int v.x, .int v.y, .int v.z]
def rowsD (r : R3) : List D := [vl r.1, vl r.2.1, vl r.2.2]
def rget (r : R3) (i : Int) : G.V := if i = 0 then r.1 else if i = 1 then r.2.1 else r.2.2
def rset (r : R3) (i : Int) (v : G.V) : R3 := if i = 0 then (v, r.2.1, r.2.2) else if i = 1 then (r.1, v, r.2.2) else (r.1, r.2.1, v)
def tms (c : Int) : Int := if (c.fdiv 210).fmod 8 = 5 then ((c.fdiv 6).fmod 7 - 3) * 1000000007 else (c.fdiv 6).fmod 7 - 3
def jx (c : Int) : Int := (c.fmod 3 + 1 + (c.fdiv 3).fmod 2).fmod 3
def rstep (r : R3) (c : Int) : R3 :=
  if (c.fdiv 42).fmod 5 < 3 then rset r (jx c) ⟨(rget r (jx c)).x + tms c * (rget r (c.fmod 3)).x, (rget r (jx c)).y + tms c * (rget r (c.fmod 3)).y, (rget r (jx c)).z + tms c * (rget r (c.fmod 3)).z⟩
  else if (c.fdiv 42).fmod 5 = 3 then rset (rset r (c.fmod 3) (rget r (jx c))) (jx c) (rget r (c.fmod 3))
  else rset r (c.fmod 3) ⟨-(rget r (c.fmod 3)).x, -(rget r (c.fmod 3)).y, -(rget r (c.fmod 3)).z⟩
def one3 : R3 := (⟨1, 0, 0⟩, ⟨0, 1, 0⟩, ⟨0, 0, 1⟩)
def toI0 : D → Int
  | .int i => i
  | _ => 0
def rowsV (xs : List D) : R3 := (xs.map toI0).foldl rstep one3
def SzR (n : Nat) (r : R3) : Prop := Sz n r.1 ∧ Sz n r.2.1 ∧ Sz n r.2.2
theorem SzR.get (h : SzR n r) (i : Int) : Sz n (rget r i) := by
  unfold rget
  split
  · exact h.1
  · split
    · exact h.2.1
    · exact h.2.2
theorem SzR.set (h : SzR n r) (i : Int) (hv : Sz n v) : SzR n (rset r i v) := by
  unfold rset
  split
  · exact ⟨hv, h.2.1, h.2.2⟩
  · split
    · exact ⟨h.1, hv, h.2.2⟩
    · exact ⟨h.1, h.2.1, hv⟩
theorem SzR.mono (h : SzR m r) (hm : m ≤ n) : SzR n r := ⟨h.1.mono hm, h.2.1.mono hm, h.2.2.mono hm⟩
theorem tms_bits (c : Int) : bits (tms c) ≤ 38 := by
  have h := fmodR (a := c.fdiv 6) (b := 7) (by decide)
  unfold tms
  split
  · exact bits_of_abs (by omega) (by omega)
  · exact bits_of_abs (by omega) (by omega)
theorem rstep_sz (h : SzR n r) (c : Int) : SzR (n + 40) (rstep r c) := by
  have ht := tms_bits c
  have ad : ∀ {x y : Int}, bits x ≤ n → bits y ≤ n → bits (x + tms c * y) ≤ n + 40 := fun h1 h2 => bits_mono' (bits_add (bits_mono' h1 (Nat.le_add_left n 38)) (bits_mul ht h2)) (by omega)
  have hi := h.get (c.fmod 3)
  have hj := h.get (jx c)
  unfold rstep
  split
  · exact (h.mono (Nat.le_add_right n 40)).set _ ⟨ad hj.1 hi.1, ad hj.2.1 hi.2.1, ad hj.2.2 hi.2.2⟩
  · split
    · exact ((h.set _ hj).set _ hi).mono (Nat.le_add_right n 40)
    · exact (h.set _ ⟨bits_neg hi.1, bits_neg hi.2.1, bits_neg hi.2.2⟩).mono (Nat.le_add_right n 40)
theorem fold_sz : ∀ (cs : List Int) {n : Nat} {r : R3}, SzR n r → SzR (n + 40 * cs.length) (cs.foldl rstep r)
  | [], n, r, h => h
  | c :: cs, n, r, h => (fold_sz cs (rstep_sz h c)).mono (by rw [List.length_cons]; omega)
theorem rowsV_sz (xs : List D) (h : xs.length ≤ 5) : SzR 300 (rowsV xs) := (fold_sz (xs.map toI0) (n := 1) (r := one3) ⟨⟨by decide, by decide, by decide⟩, ⟨by decide, by decide, by decide⟩, by decide, by decide, by decide⟩).mono (by rw [List.length_map]; omega)
theorem vl_0 (v : G.V) : ixR (vl v) (.int 0) = .ok (.int v.x) := rfl
theorem vl_1 (v : G.V) : ixR (vl v) (.int 1) = .ok (.int v.y) := rfl
theorem vl_2 (v : G.V) : ixR (vl v) (.int 2) = .ok (.int v.z) := rfl
theorem vl_only (v : G.V) : lstOnly (vl v) = .ok [.int v.x, .int v.y, .int v.z] := rfl
theorem dis_1 (a : Sl) (xs : List D) (r : Ev) : disE 1 (a :: .o xs :: r) = a :: .v (.lst xs) :: r := rfl
theorem sto_1 (r : R3) {i : Int} (h0 : 0 ≤ i) (h1 : i < 3) (v : G.V) (a : Sl) (ρ : Ev) : stoR 1 (a :: .o (rowsD r) :: ρ) (.int i) (vl v) = .ok (.nx (a :: .o (rowsD (rset r i v)) :: ρ)) := by
  rcases (show i = 0 ∨ i = 1 ∨ i = 2 by omega) with rfl | rfl | rfl <;> rfl
theorem sto_2 (r : R3) {i : Int} (h0 : 0 ≤ i) (h1 : i < 3) (x y z : Int) (a : Sl) (ρ : Ev) : stoR 1 (a :: .o (rowsD r) :: ρ) (.int i) (.lst [.int x, .int y, .int z]) = .ok (.nx (a :: .o (rowsD (rset r i ⟨x, y, z⟩)) :: ρ)) := sto_1 r h0 h1 ⟨x, y, z⟩ a ρ
/-! ### slices of tuples -/
theorem tcut_to {xs : List D} {i : Int} (h0 : 0 ≤ i) (h : i < xs.length) : slR (.tup xs) none (some i) = .ok (.tup (xs.take i.toNat)) := by
  obtain ⟨n, rfl⟩ := Int.eq_ofNat_of_zero_le h0
  have hn : n < xs.length := by omega
  show (if HT.sIx xs.length 0 none = 0 ∧ HT.sIx xs.length xs.length (some (n : Int)) = xs.length then R.bad else R.ok (D.tup (cutD xs none (some (n : Int))))) = _
  unfold cutD
  rw [HT.sIx_nat, HT.sIx_none, Nat.min_eq_left (by omega), if_neg (by omega)]
  simp
theorem tcut_from {xs : List D} {i : Int} (h0 : 0 < i) (h : i ≤ xs.length) : slR (.tup xs) (some i) none = .ok (.tup (xs.drop i.toNat)) := by
  obtain ⟨n, rfl⟩ := Int.eq_ofNat_of_zero_le (Int.le_of_lt h0)
  have hn : n ≤ xs.length := by omega
  show (if HT.sIx xs.length 0 (some (n : Int)) = 0 ∧ HT.sIx xs.length xs.length none = xs.length then R.bad else R.ok (D.tup (cutD xs (some (n : Int)) none))) = _
  unfold cutD
  rw [HT.sIx_nat, HT.sIx_none, Nat.min_eq_left hn, if_neg (by omega), List.take_of_length_le (by simp)]
  simp
theorem tcut_mid {xs : List D} {i j : Int} (h0 : 0 ≤ i) (hij : i ≤ j) (h : j ≤ xs.length) (hn : 0 < i ∨ j < xs.length) : slR (.tup xs) (some i) (some j) = .ok (.tup ((xs.drop i.toNat).take (j.toNat - i.toNat))) := by
  obtain ⟨n, rfl⟩ := Int.eq_ofNat_of_zero_le h0
  obtain ⟨m, rfl⟩ := Int.eq_ofNat_of_zero_le (Int.le_trans h0 hij)
  show (if HT.sIx xs.length 0 (some (n : Int)) = 0 ∧ HT.sIx xs.length xs.length (some (m : Int)) = xs.length then R.bad else R.ok (D.tup (cutD xs (some (n : Int)) (some (m : Int))))) = _
  unfold cutD
  rw [HT.sIx_nat, HT.sIx_nat, Nat.min_eq_left (by omega), Nat.min_eq_left (by omega), if_neg (by omega)]
  simp
theorem cat_t {xs ys : List D} (h : xs.length + ys.length ≤ 1000) : addR (.tup xs) (.tup ys) = .ok (.tup (xs ++ ys)) := by
  have hs : (1000 : Nat) ≤ sizeLine := by decide
  cases xs with
  | nil => rfl
  | cons x xs =>
    cases ys with
    | nil =>
      show (if (x :: xs).length ≤ sizeLine then _ else _) = _
      rw [if_pos (by simp at h ⊢; omega), List.append_nil]
    | cons y ys =>
      show (if (x :: xs).length + (y :: ys).length ≤ sizeLine then _ else _) = _
      rw [if_pos (by omega)]
theorem catI (as bs : List Int) (h : as.length + bs.length ≤ 1000) : addR (.tup (as.map D.int)) (.tup (bs.map D.int)) = .ok (.tup ((as ++ bs).map D.int)) := by
  rw [cat_t (by simpa using h), List.map_append]
theorem compE (g : Int → D) {fe : Ev → R D} {i : Nat} {ρ : Ev} {ms : List Int} (h : ∀ m ∈ ms, fe (ρ.set i (.v (.int m))) = .ok (g m)) : compL (fun d ρ => .ok (ρ.set i (Sl.v d))) (fun _ => .ok true) fe ρ (ms.map D.int) = .ok (ms.map g) := by
  induction ms with
  | nil => rfl
  | cons m ms ih =>
    rw [List.map_cons, compL_name, h m List.mem_cons_self, ih fun k hk => h k (List.mem_cons_of_mem _ hk)]
    rfl
theorem log_ok (h : bits i ≤ 300) : i.natAbs.log2 < 1920 := by
  by_cases h0 : i = 0
  · subst h0; decide
  · exact Nat.lt_trans (log2_bits h0 h) (by decide)
theorem join_ok {ns : List Int} (h : ∀ i ∈ ns, bits i ≤ 300) (hl : ns.length = 12) : joinR "," (.lst (ns.map fun i => D.str (Str.ofString (toString i)))) = .ok (.str (Txt.join "," (ns.map fun i => Str.ofString (toString i)))) := by
  have e := strsD_map (ns.map fun i => Str.ofString (toString i))
  rw [List.map_map] at e
  have e : strsD (ns.map fun i => D.str (Str.ofString (toString i))) = some (ns.map fun i => Str.ofString (toString i)) := e
  simp only [joinR, e]
  refine if_pos ⟨by decide, ?_⟩
  have go : ∀ ms : List Int, (∀ i ∈ ms, bits i ≤ 300) → ((ms.map fun i => Str.ofString (toString i)).map (·.length)).sum ≤ ms.length * 1921 := fun ms => by
    induction ms with
    | nil => intro _; exact Nat.le_refl _
    | cons m ms ih =>
      intro hm
      have h1 := ih fun i hi => hm i (List.mem_cons_of_mem _ hi)
      have h2 := PyProof.Rows.int_text_len_1921 (log_ok (hm m List.mem_cons_self))
      simp only [List.map_cons, List.sum_cons, List.length_cons] at h1 ⊢
      omega
  have := go ns h
  rw [List.length_map]
  omega
theorem at_lst {xs : List D} {i : Int} (h0 : 0 ≤ i) (h : i < xs.length) : ixR (.lst xs) (.int i) = .ok (xs.getD i.toNat .non) := ixR_l (by
  rw [atI_nn h0, List.getD_eq_getElem?_getD, List.getElem?_eq_getElem (show i.toNat < xs.length by omega)]; rfl)
theorem t12_0 (x0 x1 x2 x3 x4 x5 x6 x7 x8 x9 x10 x11 : D) : slR (.tup [x0, x1, x2, x3, x4, x5, x6, x7, x8, x9, x10, x11]) (some 0) (some 3) = .ok (.tup [x0, x1, x2]) := rfl
theorem t12_3 (x0 x1 x2 x3 x4 x5 x6 x7 x8 x9 x10 x11 : D) : slR (.tup [x0, x1, x2, x3, x4, x5, x6, x7, x8, x9, x10, x11]) (some 3) (some 6) = .ok (.tup [x3, x4, x5]) := rfl
theorem t12_6 (x0 x1 x2 x3 x4 x5 x6 x7 x8 x9 x10 x11 : D) : slR (.tup [x0, x1, x2, x3, x4, x5, x6, x7, x8, x9, x10, x11]) (some 6) (some 9) = .ok (.tup [x6, x7, x8]) := rfl
theorem t12_9 (x0 x1 x2 x3 x4 x5 x6 x7 x8 x9 x10 x11 : D) : slR (.tup [x0, x1, x2, x3, x4, x5, x6, x7, x8, x9, x10, x11]) none (some 9) = .ok (.tup [x0, x1, x2, x3, x4, x5, x6, x7, x8]) := rfl
theorem compL_filter (p : D → Bool) {i : Nat} {ft : Ev → R Bool} {fe : Ev → R D} {ρ : Ev} : ∀ {ds : List D}, (∀ d ∈ ds, ft (ρ.set i (.v d)) = .ok (p d) ∧ fe (ρ.set i (.v d)) = .ok d) → compL (fun d ρ => .ok (ρ.set i (Sl.v d))) ft fe ρ ds = .ok (ds.filter p)
  | [], _ => rfl
  | d :: ds, h => by
    obtain ⟨e1, e2⟩ := h d List.mem_cons_self
    rw [compL_test, e1, R.bind_ok, compL_filter p fun d hd => h d (List.mem_cons_of_mem _ hd)]
    cases hp : p d with
    | true => rw [if_pos rfl, e2, List.filter_cons_of_pos hp]; rfl
    | false => rw [if_neg Bool.false_ne_true, List.filter_cons_of_neg (by simp [hp])]
theorem ne_nil {xs : List D} (h : deps xs ≤ 30) : neR (.lst xs) (.lst []) = .ok (.bl (!xs.isEmpty)) := by
  unfold neR
  rw [if_pos ⟨by rw [dep]; omega, by simp [dep, deps]⟩]
  cases xs <;> simp [eqD, eqDs]
theorem bools_map (l : List Bool) : boolsD (l.map D.bl) = some l := by
  induction l with
  | nil => rfl
  | cons b l ih => rw [List.map_cons, boolsD, ih]; rfl
theorem all_bl (l : List Bool) : allR [.lst (l.map D.bl)] = .ok (.bl (l.all id)) := by
  simp only [allR, bools_map]
theorem three {i : Int} (h0 : 0 ≤ i) (h1 : i < 3) : i = 0 ∨ i = 1 ∨ i = 2 := by omega
theorem rows_at (r : R3) {i : Int} (h0 : 0 ≤ i) (h1 : i < 3) : ixR (.lst (rowsD r)) (.int i) = .ok (vl (rget r i)) := by
  rcases three h0 h1 with rfl | rfl | rfl <;> rfl
theorem rows_sto (r : R3) {i : Int} (h0 : 0 ≤ i) (h1 : i < 3) (v : G.V) (k : Nat) (ρ : Ev) (h : ρ[k]? = some (.o (rowsD r))) : stoR k ρ (.int i) (vl v) = .ok (.nx (ρ.set k (.o (rowsD (rset r i v))))) := by
  unfold stoR
  rw [h]
  rcases three h0 h1 with rfl | rfl | rfl <;> rfl
open Classical in
noncomputable def m_rows : List D → R D := lsD fun xs => nlD (if IntsOf 2000000 xs ∧ xs.length ≤ 5 then .ok (.lst (rowsD (rowsV xs))) else .bad)
def offL (f : Int) : List D := [.int (f.fmod 41 - 20), .int ((f.fdiv 41).fmod 2001 - 1000), .int ((f.fdiv 7).fmod 1000000000000 - 1000000)]
def mvI (r : R3) (f : Int) : List Int := [r.1.x, r.1.y, r.1.z, r.2.1.x, r.2.1.y, r.2.1.z, r.2.2.x, r.2.2.y, r.2.2.z, f.fmod 41 - 20, (f.fdiv 41).fmod 2001 - 1000, (f.fdiv 7).fmod 1000000000000 - 1000000]
open Classical in
noncomputable def m_move : List D → R D := lsD fun xs => itD fun f => nlD (if IntsOf 2000000 xs ∧ xs.length ≤ 5 ∧ bits f ≤ 2000000 then .ok (.tup ((mvI (rowsV xs) f).map D.int)) else .bad)
/-- twelve ints that are not too great -/
def L12 (n : Nat) (ns : List Int) : Prop := ns.length = 12 ∧ ∀ i ∈ ns, bits i ≤ n
theorem mv_12 (xs : List D) (h : xs.length ≤ 5) (f : Int) : L12 300 (mvI (rowsV xs) f) := by
  obtain ⟨⟨a, b, c⟩, ⟨d, e, g⟩, i, j, k⟩ := rowsV_sz xs h
  have h1 := fmodR (a := f) (b := 41) (by decide)
  have h2 := fmodR (a := f.fdiv 41) (b := 2001) (by decide)
  have h3 := fmodR (a := f.fdiv 7) (b := 1000000000000) (by decide)
  have k1 : bits (f.fmod 41 - 20) ≤ 300 := bits_mono (bits_of_abs (n := 50) (by omega) (by omega))
  have k2 : bits ((f.fdiv 41).fmod 2001 - 1000) ≤ 300 := bits_mono (bits_of_abs (n := 50) (by omega) (by omega))
  have k3 : bits ((f.fdiv 7).fmod 1000000000000 - 1000000) ≤ 300 := bits_mono (bits_of_abs (n := 50) (by omega) (by omega))
  refine ⟨rfl, fun x hx => ?_⟩
  simp only [mvI, List.mem_cons, List.not_mem_nil, or_false] at hx
  rcases hx with rfl | rfl | rfl | rfl | rfl | rfl | rfl | rfl | rfl | rfl | rfl | rfl <;> assumption
theorem L12.ok (h : L12 n ns) (hn : n ≤ 100000) : okT (.tup (ns.map D.int)) := ⟨fun i hi => by
  obtain ⟨j, hj, e⟩ := List.mem_map.mp hi
  cases e
  exact Nat.le_trans (h.2 _ hj) hn, Nat.le_trans (deps_le (dep_ints ns)) (by decide)⟩
/-! ### a move changed -/
def chg (ns : List Int) (c : Int) : List Int :=
  let a := ((c.fdiv 16).fmod 12).toNat
  let w := c.fmod 16
  let r := (3 * ((c.fdiv 16).fmod 12).fmod 3).toNat
  let o := (3 * (((c.fdiv 16).fmod 12).fdiv 3).fmod 3).toNat
  if w < 2 then ns.take a ++ [ns.getD a 0 + 1 - 2 * w] ++ ns.drop (a + 1)
  else if w = 2 then ns.take a ++ [(c.fdiv 192).fmod 100000000000000000000] ++ ns.drop (a + 1)
  else if w < 5 then ns.take r ++ ((ns.drop r).take 3).map (· * (w - 1)) ++ ns.drop (r + 3)
  else if w = 5 then ns.take r ++ (ns.drop o).take 3 ++ ns.drop (r + 3)
  else ns
open Classical in
noncomputable def m_changed : List D → R D
  | [.tup xs, .int c] => if (∃ ns, xs = ns.map D.int ∧ L12 5000 ns) ∧ bits c ≤ 2000000 then .ok (.tup ((chg (xs.map toI0) c).map D.int)) else .bad
  | _ => .bad
theorem toI0_map (ns : List Int) : (ns.map D.int).map toI0 = ns := by
  rw [List.map_map]
  exact List.map_id ns
theorem chg_ok (h : L12 5000 ns) (hc : bits c ≤ 2000000) : m_changed [.tup (ns.map D.int), .int c] = .ok (.tup ((chg ns c).map D.int)) := by
  refine (if_pos ⟨⟨ns, rfl, h⟩, hc⟩).trans ?_
  rw [toI0_map]
theorem chg_12 (h : L12 n ns) (hn : 100 ≤ n) (c : Int) : L12 (n + 8) (chg ns c) := by
  have ha := fmodR (a := c.fdiv 16) (b := 12) (by decide)
  have hw := fmodR (a := c) (b := 16) (by decide)
  have hr := fmodR (a := (c.fdiv 16).fmod 12) (b := 3) (by decide)
  have ho := fmodR (a := ((c.fdiv 16).fmod 12).fdiv 3) (b := 3) (by decide)
  have hz := fmodR (a := c.fdiv 192) (b := 100000000000000000000) (by decide)
  have tk : ∀ k, ∀ i ∈ ns.take k, bits i ≤ n + 8 := fun k i hi => Nat.le_trans (h.2 i (List.mem_of_mem_take hi)) (Nat.le_add_right _ _)
  have dr : ∀ k, ∀ i ∈ ns.drop k, bits i ≤ n + 8 := fun k i hi => Nat.le_trans (h.2 i (List.mem_of_mem_drop hi)) (Nat.le_add_right _ _)
  have hl := h.1
  have go : ∀ (k j : Nat) (ms : List Int), (∀ i ∈ ms, bits i ≤ n + 8) → k + ms.length = j → j ≤ 12 → L12 (n + 8) (ns.take k ++ ms ++ ns.drop j) := fun k j ms hm hj h12 => by
    refine ⟨by simp [hl]; omega, fun i hi => ?_⟩
    rcases List.mem_append.mp hi with hi | hi
    · rcases List.mem_append.mp hi with hi | hi
      · exact tk k i hi
      · exact hm i hi
    · exact dr j i hi
  unfold chg
  dsimp only
  split
  · refine go _ _ _ (fun i hi => ?_) rfl (by omega)
    rw [List.mem_singleton.mp hi]
    have hg : bits (ns.getD ((c.fdiv 16).fmod 12).toNat 0) ≤ n := by
      rw [List.getD_eq_getElem?_getD]
      cases e : ns[((c.fdiv 16).fmod 12).toNat]? with
      | none => exact Nat.le_trans (show bits 0 ≤ 1 by decide) (by omega)
      | some y => exact h.2 _ (List.mem_of_getElem? e)
    have h2 : bits (2 * c.fmod 16) ≤ n + 1 := Nat.le_trans (bits_of_abs (n := 10) (by omega) (by omega)) (by omega)
    exact Nat.le_trans (bits_sub (bits_add hg (Nat.le_trans (show bits 1 ≤ 1 by decide) (by omega))) h2) (by omega)
  · split
    · refine go _ _ _ (fun i hi => ?_) rfl (by omega)
      rw [List.mem_singleton.mp hi]
      exact Nat.le_trans (bits_of_abs (n := 70) (by omega) (by omega)) (by omega)
    · have h3 : ∀ k : Nat, k ≤ 9 → ((ns.drop k).take 3).length = 3 := fun k hk => by simp [hl]; omega
      split
      · refine go _ _ _ (fun i hi => ?_) (by rw [List.length_map, h3 _ (by omega)]) (by omega)
        obtain ⟨j, hj, rfl⟩ := List.mem_map.mp hi
        exact Nat.le_trans (bits_mul (h.2 j (List.mem_of_mem_drop (List.mem_of_mem_take hj))) (show bits (c.fmod 16 - 1) ≤ 8 from bits_of_abs (by omega) (by omega))) (Nat.le_refl _)
      · split
        · exact go _ _ _ (fun i hi => dr _ i (List.mem_of_mem_take hi)) (by rw [h3 _ (by omega)]) (by omega)
        · exact ⟨hl, fun i hi => Nat.le_trans (h.2 i hi) (Nat.le_add_right _ _)⟩
/-! ### other things -/
def trD : Int → D := fun i => if i = 1 ∨ i = 0 then .bl (i == 1) else .int i
def things (ns : List Int) : List D := [.lst (ns.map D.int), .tup ((ns.take 11).map D.int), .tup ((ns ++ [0]).map D.int), .tup (ns.map trD), .str (Txt.join "," (ns.map fun i => Str.ofString (toString i))), .dct, .non, .int 1, .tup [], .tup [.tup (ns.map D.int)], .tup ((ns.take 9).map D.int), .tup (ns.map fun i => .tup [.int i]), .bl true]
open Classical in
noncomputable def m_things : List D → R D
  | [.tup xs, .int k] => if (∃ ns, xs = ns.map D.int ∧ L12 300 ns) ∧ bits k ≤ 3000000 then .ok (.lst [(things (xs.map toI0)).getD (k.fmod 13).toNat .non, (things (xs.map toI0)).getD ((k + 5).fmod 13).toNat .non]) else .bad
  | _ => .bad
theorem things_ok (h : L12 300 ns) (hk : bits k ≤ 3000000) : m_things [.tup (ns.map D.int), .int k] = .ok (.lst [(things ns).getD (k.fmod 13).toNat .non, (things ns).getD ((k + 5).fmod 13).toNat .non]) := by
  refine (if_pos ⟨⟨ns, rfl, h⟩, hk⟩).trans ?_
  rw [toI0_map]
theorem things_sz (h : L12 300 ns) (k : Nat) : okT ((things ns).getD k .non) := by
  have hI : ∀ ms : List Int, (∀ i ∈ ms, bits i ≤ 300) → okT (.tup (ms.map D.int)) := fun ms hm => ⟨fun i hi => by
    obtain ⟨j, hj, e⟩ := List.mem_map.mp hi
    cases e
    exact Nat.le_trans (hm _ hj) (by decide), Nat.le_trans (deps_le (dep_ints ms)) (by decide)⟩
  have all : ∀ d ∈ things ns, okT d := fun d hd => by
    simp only [things, List.mem_cons, List.not_mem_nil, or_false] at hd
    rcases hd with rfl | rfl | rfl | rfl | rfl | rfl | rfl | rfl | rfl | rfl | rfl | rfl | rfl
    · trivial
    · exact hI _ fun i hi => h.2 i (List.mem_of_mem_take hi)
    · refine hI _ fun i hi => ?_
      rcases List.mem_append.mp hi with hi | hi
      · exact h.2 i hi
      · rw [List.mem_singleton.mp hi]; decide
    · refine ⟨fun i hi => ?_, Nat.le_trans (deps_le (k := 0) fun d hd => ?_) (by decide)⟩
      · obtain ⟨j, hj, e⟩ := List.mem_map.mp hi
        unfold trD at e
        split at e
        · cases e
        · cases e; exact Nat.le_trans (h.2 _ hj) (by decide)
      · obtain ⟨j, _, rfl⟩ := List.mem_map.mp hd
        unfold trD
        split <;> simp [dep]
    · trivial
    · trivial
    · trivial
    · trivial
    · exact ⟨fun i hi => (nomatch hi), Nat.zero_le _⟩
    · refine ⟨fun i hi => by simp at hi, Nat.le_trans (deps_le (k := 1) fun d hd => ?_) (by decide)⟩
      rw [List.mem_singleton.mp hd, dep]
      exact Nat.succ_le_succ (deps_le (dep_ints ns))
    · exact hI _ fun i hi => h.2 i (List.mem_of_mem_take hi)
    · refine ⟨fun i hi => by simp at hi, Nat.le_trans (deps_le (k := 1) fun d hd => ?_) (by decide)⟩
      obtain ⟨j, _, rfl⟩ := List.mem_map.mp hd
      simp [dep, deps]
    · trivial
  rw [List.getD_eq_getElem?_getD]
  cases e : (things ns)[k]? with
  | none => trivial
  | some d => exact all d (List.mem_of_getElem? e)
open Classical in
noncomputable def m_law : List D → R D
  | [.lst xs] => if xs.length ≤ 63 ∧ IntsOf 1048576 xs then .ok (.bl true) else .bad
  | _ => .bad
end M

set_option maxHeartbeats 4000000
namespace K71
open PySem L2 DL M
def top (i : Nat) : Stmt := PySem.Challenge.pw_stakebodies_k71_what_is_a_move.main.body.getD i (.Pass ⟨0, 0, 0, 0⟩)
abbrev s_is_whole : Stmt := top 1
abbrev N_is_whole : List Str := ["thing"]
theorem sc_is_whole : FnScope N_is_whole ["thing"] (defScope s_is_whole) := scOk
abbrev s_cross_of : Stmt := top 2
abbrev N_cross_of : List Str := ["u", "v"]
theorem sc_cross_of : FnScope N_cross_of ["u", "v"] (defScope s_cross_of) := scOk
abbrev s_product_of : Stmt := top 3
abbrev N_product_of : List Str := ["u", "v"]
theorem sc_product_of : FnScope N_product_of ["u", "v"] (defScope s_product_of) := scOk
abbrev s_rows_in : Stmt := top 5
abbrev N_rows_in : List Str := ["move"]
theorem sc_rows_in : FnScope N_rows_in ["move"] (defScope s_rows_in) := scOk
abbrev s_stretch_of : Stmt := top 6
abbrev N_stretch_of : List Str := ["rows"]
theorem sc_stretch_of : FnScope N_stretch_of ["rows"] (defScope s_stretch_of) := scOk
abbrev s_is_move : Stmt := top 7
abbrev N_is_move : List Str := ["thing"]
theorem sc_is_move : FnScope N_is_move ["thing"] (defScope s_is_move) := scOk
abbrev s__law_cell : Stmt := top 9
abbrev N__law_cell : List Str := ["script", "k"]
theorem sc__law_cell : FnScope N__law_cell ["script", "k"] (defScope s__law_cell) := scOk
abbrev s__law_rows : Stmt := top 10
abbrev N__law_rows : List Str := ["cells", "rows", "cell", "i", "j", "times", "kept"]
theorem sc__law_rows : FnScope N__law_rows ["cells"] (defScope s__law_rows) := scOk
abbrev s__law_move : Stmt := top 11
abbrev N__law_move : List Str := ["cells", "far", "rows", "off"]
theorem sc__law_move : FnScope N__law_move ["cells", "far"] (defScope s__law_move) := scOk
abbrev s__law_due : Stmt := top 12
abbrev N__law_due : List Str := ["thing", "a", "b", "c", "d", "e", "f", "g", "h", "i", "room"]
theorem sc__law_due : FnScope N__law_due ["thing"] (defScope s__law_due) := scOk
abbrev s__law_changed : Stmt := top 13
abbrev N__law_changed : List Str := ["move", "cell", "at", "way", "row", "other"]
theorem sc__law_changed : FnScope N__law_changed ["move", "cell"] (defScope s__law_changed) := scOk
abbrev s__law_things : Stmt := top 14
abbrev N__law_things : List Str := ["move", "k", "truths", "some"]
theorem sc__law_things : FnScope N__law_things ["move", "k"] (defScope s__law_things) := scOk
abbrev s_law : Stmt := top 15
abbrev N_law : List Str := ["script", "k", "cells", "move", "thing", "found"]
theorem sc_law : FnScope N_law ["script"] (defScope s_law) := scOk
section
variable [Tabs]
variable {P : Program} {w : World} {K : PySem.W.Frag} {mg : Str → Option Value} {base : Heap}
theorem c_is_whole (b_isinstance : mg "isinstance" = none) (b_bool : mg "bool" = none) (b_int : mg "int" = none) (g : Def K mg "is_whole" s_is_whole) : Cal P w K mg base 1 "is_whole" 1 m_law_whole := by
  refine' cal_def (k := 0) (F := _) g sc_is_whole (fun hr hu hu1 nd => ?b) fun ds d hl h => ?_
  case b =>
    refine' (pssd_one (psd_ret (pd_and (pd_isa isa_int (pb_var 0)) (pd_one (pd_not (pd_isa isa_bool (pb_var 0)))))))
  match ds, h with
  | [x], h =>
    rw [← h]
    cases x <;> rfl
theorem c_cross_of (g : Def K mg "cross_of" s_cross_of) : Cal P w K mg base 1 "cross_of" 2 m_cross_of := by
  refine' cal_def (k := 0) (F := _) g sc_cross_of (fun hr hu hu1 nd => ?b) fun ds d hl h => ?_
  case b =>
    refine' (pssd_one (psd_ret (pt3 (pd_bin od_sub (PD.pb (pd_bin od_mul (PD.pb (pd_ix (pb_var 0) pd_int)) (PD.pb (pd_ix (pb_var 1) pd_int)))) (PD.pb (pd_bin od_mul (PD.pb (pd_ix (pb_var 0) pd_int)) (PD.pb (pd_ix (pb_var 1) pd_int))))) (pd_bin od_sub (PD.pb (pd_bin od_mul (PD.pb (pd_ix (pb_var 0) pd_int)) (PD.pb (pd_ix (pb_var 1) pd_int)))) (PD.pb (pd_bin od_mul (PD.pb (pd_ix (pb_var 0) pd_int)) (PD.pb (pd_ix (pb_var 1) pd_int))))) (pd_bin od_sub (PD.pb (pd_bin od_mul (PD.pb (pd_ix (pb_var 0) pd_int)) (PD.pb (pd_ix (pb_var 1) pd_int)))) (PD.pb (pd_bin od_mul (PD.pb (pd_ix (pb_var 0) pd_int)) (PD.pb (pd_ix (pb_var 1) pd_int))))))))
  match ds, h with
  | [.tup [.int a, .int b, .int c], .tup [.int a', .int b', .int c']], h =>
    simp only [m_cross_of] at h
    split at h
    · rename_i hz
      obtain ⟨⟨h1, h2, h3⟩, h4, h5, h6⟩ := hz
      rw [← h]
      simp [startD, mulR_int (MulSz.of h2 h6), mulR_int (MulSz.of h3 h5), mulR_int (MulSz.of h3 h4), mulR_int (MulSz.of h1 h6), mulR_int (MulSz.of h1 h5), mulR_int (MulSz.of h2 h4)]
    · cases h
theorem c_product_of (g : Def K mg "product_of" s_product_of) : Cal P w K mg base 1 "product_of" 2 m_product_of := by
  refine' cal_def (k := 0) (F := _) g sc_product_of (fun hr hu hu1 nd => ?b) fun ds d hl h => ?_
  case b =>
    refine' (pssd_one (psd_ret (pd_bin od_add (PD.pb (pd_bin od_add (PD.pb (pd_bin od_mul (PD.pb (pd_ix (pb_var 0) pd_int)) (PD.pb (pd_ix (pb_var 1) pd_int)))) (PD.pb (pd_bin od_mul (PD.pb (pd_ix (pb_var 0) pd_int)) (PD.pb (pd_ix (pb_var 1) pd_int)))))) (PD.pb (pd_bin od_mul (PD.pb (pd_ix (pb_var 0) pd_int)) (PD.pb (pd_ix (pb_var 1) pd_int)))))))
  match ds, h with
  | [.tup (.int a :: .int b :: .int c :: r), .tup [.int a', .int b', .int c']], h =>
    simp only [m_product_of] at h
    split at h
    · rename_i hz
      obtain ⟨⟨h1, h2, h3⟩, h4, h5, h6⟩ := hz
      rw [← h]
      simp [startD, ixc_0, ixc_1, ixc_2, mulR_int (MulSz.of h1 h4), mulR_int (MulSz.of h2 h5), mulR_int (MulSz.of h3 h6)]
    · cases h
theorem c_rows_in (g : Def K mg "rows_in" s_rows_in) : Cal P w K mg base 1 "rows_in" 1 m_rows_in := by
  refine' cal_def (k := 0) (F := _) g sc_rows_in (fun hr hu hu1 nd => ?b) fun ds d hl h => ?_
  case b =>
    refine' (pssd_one (psd_ret (pd_lst (pad_cons (pd_sl (pb_var 0) (pto_some pd_int) (pto_some pd_int)) (pad_cons (pd_sl (pb_var 0) (pto_some pd_int) (pto_some pd_int)) (pad_cons (pd_sl (pb_var 0) (pto_some pd_int) (pto_some pd_int)) pad_nil))))))
  match ds, h with
  | [.tup [a, b, c, d, e, f, g, h', i, p, q, r]], h =>
    rw [← h]
    simp [startD, t12_0, t12_3, t12_6, m_rows_in, lstR, sizeLine]
theorem c_stretch_of (c_product_of : Cal P w K mg base 1 "product_of" 2 m_product_of) (c_cross_of : Cal P w K mg base 1 "cross_of" 2 m_cross_of) (g : Def K mg "stretch_of" s_stretch_of) : Cal P w K mg base 2 "stretch_of" 1 m_stretch := by
  refine' cal_def (k := 1) (F := _) g sc_stretch_of (fun hr hu hu1 nd => ?b) fun ds d hl h => ?_
  case b =>
    refine' (pssd_one (psd_ret (pc2 c_product_of hr (pd_ix (pb_var 0) pd_int) (pc2 c_cross_of hr (pd_ix (pb_var 0) pd_int) (pd_ix (pb_var 0) pd_int)))))
  match ds, h with
  | [.lst [.tup [.int a, .int b, .int c], .tup [.int d, .int e, .int f], .tup [.int g, .int h', .int i]]], h =>
    simp only [m_stretch] at h
    split at h
    · rename_i hz
      obtain ⟨p, q, r⟩ := hz
      rw [← h]
      have p' : Sz 100000 ⟨a, b, c⟩ := p
      have q' : Sz 100000 ⟨d, e, f⟩ := q
      have r' : Sz 100000 ⟨g, h', i⟩ := r
      have c1 := cross_ok (u := ⟨d, e, f⟩) (v := ⟨g, h', i⟩) q'.mono r'.mono
      have c2 := prod_ok (u := ⟨a, b, c⟩) (v := G.cr ⟨d, e, f⟩ ⟨g, h', i⟩) p'.mono (q'.cr r').mono
      simp only [vd, G.cr_x, G.cr_y, G.cr_z] at c1 c2
      simp [startD, c1, c2, det, G.dot]
    · cases h
theorem c_is_move (c_stretch_of : Cal P w K mg base 2 "stretch_of" 1 m_stretch) (c_rows_in : Cal P w K mg base 1 "rows_in" 1 m_rows_in) (c_is_whole : Cal P w K mg base 1 "is_whole" 1 m_law_whole) (b_len : mg "len" = none) (b_isinstance : mg "isinstance" = none) (b_tuple : mg "tuple" = none) (b_abs : mg "abs" = none) (b_all : mg "all" = none) (g : Def K mg "is_move" s_is_move) : Cal P w K mg base 3 "is_move" 1 m_due := by
  refine' cal_def (k := 2) (F := _) g sc_is_move (fun hr hu hu1 nd => ?b) fun ds d hl h => ?_
  case b =>
    refine' (pssd_cons (psd_if (PWD.pt (pwd_or (ptd_not (ptd_val (pd_isa isa_tuple (pb_var 0)))) (pwd_or1 (ptd_cmp (od_ne hu) (PD.pb (pcb cd_len (pb_var 0))) pbi)))) (pssd_one (psd_ret pd_bl)) pssd_nil)
      (pssd_one (psd_ret (pd_and (pcb (cd_all rfl) (PD.pb (pd_comp ["number"] [] [] rfl (compSc (sc := defScope s_is_move) (N := N_is_move)) (pid_tup (pd_var 0)) (hx1 fun _ _ _ _ _ => (pc1 c_is_whole hr (pd_var 0))) (fun _ => weak_name0)))) (pd_one (pd_cmp (od_eq hu) (PD.pb (pcb cd_abs (PD.pb (pc1 c_stretch_of hr (pc1 c_rows_in hr (pd_var 0)))))) pbi))))))
  match ds, h with
  | [x], h =>
    simp only [m_due] at h
    split at h
    · rename_i hk
      rw [← h]
      cases x with
      | tup xs =>
        obtain ⟨hb, hd⟩ := hk
        by_cases hl : xs.length = 12
        · have hl' : (xs.length : Int) = 12 := by lia
          have hz : xs.length ≤ sizeLine := by rw [hl]; decide
          have cm : compL (fun d ρ => R.ok (List.set ρ 0 (Sl.v d))) (fun _ => R.ok true) (fun ρ => ((evV 0 ρ).bind fun d => R.ok [d]).bind m_law_whole) [Sl.no] xs = .ok (xs.map fun d => D.bl (wholeD d)) := compL_map _ fun d hd => ⟨_, rfl, rfl⟩
          have al := all_bl (xs.map wholeD)
          rw [List.map_map] at al
          have al : allR [.lst (xs.map fun d => D.bl (wholeD d))] = .ok (.bl ((xs.map wholeD).all id)) := al
          have ea : (xs.map wholeD).all id = xs.all wholeD := by rw [List.all_map]; rfl
          rw [ea] at al
          by_cases hw : xs.all wholeD = true
          · rw [hw] at al
            obtain ⟨a, b, c, d, e, f, g, h', i, p, q, r, rfl⟩ := ints_12 hl hw
            have st : m_stretch [.lst [.tup [.int a, .int b, .int c], .tup [.int d, .int e, .int f], .tup [.int g, .int h', .int i]]] = .ok (.int (det a b c d e f g h' i)) := if_pos ⟨⟨hb a (by simp), hb b (by simp), hb c (by simp)⟩, ⟨hb d (by simp), hb e (by simp), hb f (by simp)⟩, hb g (by simp), hb h' (by simp), hb i (by simp)⟩
            simp only [dueB]
            generalize det a b c d e f g h' i = dt at *
            have fin : ((if dt < 0 then -dt else dt) == 1) = (dt == 1 || dt == -1) := by
              rw [Bool.eq_iff_iff]
              simp
              split <;> lia
            simp only [List.map_cons, List.map_nil, wholeD] at al
            simp [startD, blockEv, sizeLine, m_law_whole, m_rows_in, wholeD, al, st, fin]
          · have hw : xs.all wholeD = false := by simpa using hw
            rw [hw] at al
            rw [not_ints hw]
            simp [startD, blockEv, hl', hz, cm, al]
        · have hl' : ¬ (xs.length : Int) = 12 := by lia
          rw [not12 hl]
          simp [startD, hl']
      | _ => simp [startD, dueB, isaD, tyD]
    · cases h
theorem c__law_cell (b_len : mg "len" = none) (g : Def K mg "_law_cell" s__law_cell) : Cal P w K mg base 1 "_law_cell" 2 m_law_cell := by
  refine' cal_def (k := 0) (F := _) g sc__law_cell (fun hr hu hu1 nd => ?b) fun ds d hl h => ?_
  case b =>
    refine' (pssd_cons (psd_if (ptd_cmp od_lt (pb_var 1) (PD.pb (pcb cd_len (pb_var 0)))) (pssd_one (psd_ret (pd_ix (pb_var 0) (pd_var 1)))) pssd_nil)
      (pssd_one (psd_ret (pd_bin od_add (PD.pb (pd_bin od_add (PD.pb (pd_bin od_mul (PD.pb (pd_bin od_mul pbi (pb_var 1))) (pb_var 1))) (PD.pb (pd_bin od_mul pbi (pb_var 1))))) pbi))))
  match ds, h with
  | [.lst xs, .int k], h =>
    simp only [m_law_cell] at h
    split at h
    · rename_i hz
      obtain ⟨h0, h1⟩ := hz
      rw [← h]
      have hb : bits k ≤ 20 := bits_of_abs (by lia) (by lia)
      have hb2 : bits (7 * k) ≤ 30 := bits_of_abs (by lia) (by lia)
      by_cases hk : k < xs.length
      · have e : xs[k.toNat]? = some xs[k.toNat] := List.getElem?_eq_getElem (by lia)
        have e2 : atI xs k = some xs[k.toNat] := by rw [atI_nn h0, e]
        simp [startD, hk, ixR_l e2, cellD, e]
      · have e : xs[k.toNat]? = none := List.getElem?_eq_none_iff.mpr (by lia)
        simp [startD, hk, cellD, e, mulR_int (MulSz.of (show bits 7 ≤ 10 by decide) hb), mulR_int (MulSz.of hb2 hb), mulR_int (MulSz.of (show bits 10 ≤ 10 by decide) hb), M.rule]
    · cases h
section
seal PySem.eval
theorem c__law_rows (b_range : mg "range" = none) (g : Def K mg "_law_rows" s__law_rows) : Cal P w K mg base 1 "_law_rows" 1 m_rows := by
  refine' cal_def (k := 0) (F := _) g sc__law_rows (fun hr hu hu1 nd => ?b) fun ds d hl h => ?_
  case b =>
    refine' (pssd_cons (psd_r9 1 nd)
      (pssd_cons (psd_for PassesOwn.never rfl (pid_list (pd_var 0)) (pgd_name 2 nd) (pssd_cons (psd_set 3 (pd_bin od_mod (pb_var 2) pbi) nd)
      (pssd_cons (psd_set 4 (pd_bin od_mod (PD.pb (pd_bin od_add (PD.pb (pd_bin od_add (pb_var 3) pbi)) (PD.pb (pd_bin od_mod (PD.pb (pd_bin od_fdiv (pb_var 2) pbi)) pbi)))) pbi) nd)
      (pssd_cons (psd_set 5 (pd_bin od_sub (PD.pb (pd_bin od_mod (PD.pb (pd_bin od_fdiv (pb_var 2) pbi)) pbi)) pbi) nd)
      (pssd_cons (psd_if (ptd_cmp (od_eq hu) (PD.pb (pd_bin od_mod (PD.pb (pd_bin od_fdiv (pb_var 2) pbi)) pbi)) pbi) (pssd_one (psd_set 5 (pd_bin od_mul (pb_var 5) (PD.pb (pd_bin od_add (PD.pb (pd_bin od_pow pbi pbi)) pbi))) nd)) pssd_nil)
      (pssd_cons (psd_if (ptd_cmp od_lt (PD.pb (pd_bin od_mod (PD.pb (pd_bin od_fdiv (pb_var 2) pbi)) pbi)) pbi) (pssd_one (psd_storeF 1 (pf_comp ["k"] ["times", "rows", "j", "i"] [5, 1, 4, 3] rfl (compSc (sc := defScope s__law_rows) (N := N__law_rows)) (pid_range (pab_cons pbi pab_nil)) (hx1 fun _ _ _ _ _ => (pd_bin od_add (PD.pb (pd_ix (PD.pb (pd_ix (pb_var 2) (pd_var 3))) (pd_var 0))) (PD.pb (pd_bin od_mul (pb_var 1) (PD.pb (pd_ix (PD.pb (pd_ix (pb_var 2) (pd_var 4))) (pd_var 0))))))) (fun _ => weak_name0)) (pd_var 4))) pssd_nil)
      (pssd_cons (psd_if (ptd_cmp (od_eq hu) (PD.pb (pd_bin od_mod (PD.pb (pd_bin od_fdiv (pb_var 2) pbi)) pbi)) pbi) (pssd_cons (psd_set 6 (pd_ix (pb_var 1) (pd_var 3)) nd)
      (pssd_cons (psd_store 1 (pd_ix (pb_var 1) (pd_var 4)) (pd_var 3))
      (pssd_one (psd_store 1 (pd_var 6) (pd_var 4))))) pssd_nil)
      (pssd_one (psd_if (ptd_cmp (od_eq hu) (PD.pb (pd_bin od_mod (PD.pb (pd_bin od_fdiv (pb_var 2) pbi)) pbi)) pbi) (pssd_one (psd_store 1 (pd_comp ["number"] [] [] rfl (compSc (sc := defScope s__law_rows) (N := N__law_rows)) (pid_list (pd_ix (pb_var 1) (pd_var 3))) (hx1 fun _ _ _ _ _ => (pd_neg (pd_var 0))) (fun _ => weak_name0)) (pd_var 3))) pssd_nil)))))))))
      (pssd_one (psd_dis 1 (psd_ret (pd_var 1))))))
  replace h := lsD_ok h; obtain ⟨xs, ds, rfl, h⟩ := h
  replace h := nlD_ok h; obtain ⟨rfl, h⟩ := h
  · skip
    split at h
    · rename_i hz
      obtain ⟨hi, hl⟩ := hz
      rw [← h]
      simp only [startD, List.map_cons, List.map_nil, List.cons_append, List.nil_append, List.length_cons, List.length_nil, Nat.reduceAdd, Nat.reduceSub, List.replicate_succ, List.replicate_zero]
      refine r_step (ρ := [Sl.v (.lst xs), .o (rowsD one3), .no, .no, .no, .no, .no]) rfl ?_
      simp only [evV_s, evV_z, R.bind_ok, lstOnly_l]
      refine ret_left (fun rest ρ => ∃ (r : R3) (a b c d e : Sl), ρ = [Sl.v (.lst xs), .o (rowsD r), a, b, c, d, e] ∧ IntsOf 2000000 rest ∧ rest.length ≤ 5 ∧ SzR (201 - 40 * rest.length) r ∧ (rest.map toI0).foldl rstep r = rowsV xs) ?_ ⟨one3, _, _, _, _, _, rfl, hi, hl, SzR.mono (m := 1) ⟨⟨by decide, by decide, by decide⟩, ⟨by decide, by decide, by decide⟩, by decide, by decide, by decide⟩ (by lia), rfl⟩ ?_
      · rintro x rest ρ ⟨r, a, b, c', d, e, rfl, hi2, hl2, sr, fr⟩
        obtain ⟨c, rfl, hc⟩ := hi2 x List.mem_cons_self
        rw [List.length_cons] at hl2 sr
        have sr' := rstep_sz sr c
        have sr2 : SzR 300 r := sr.mono (by lia)
        have fr' : (rest.map toI0).foldl rstep (rstep r c) = rowsV xs := fr
        have hi3 : IntsOf 2000000 rest := fun y hy => hi2 y (List.mem_cons_of_mem _ hy)
        have keep : ∀ ρ2, (∃ (s1 s2 s3 s4 s5 : Sl), ρ2 = [Sl.v (.lst xs), .o (rowsD (rstep r c)), s1, s2, s3, s4, s5]) → ∃ (r : R3) (a b c d e : Sl), ρ2 = [Sl.v (.lst xs), .o (rowsD r), a, b, c, d, e] ∧ IntsOf 2000000 rest ∧ rest.length ≤ 5 ∧ SzR (201 - 40 * rest.length) r ∧ (rest.map toI0).foldl rstep r = rowsV xs := fun ρ2 ⟨s1, s2, s3, s4, s5, h⟩ => ⟨_, s1, s2, s3, s4, s5, h, hi3, by lia, sr'.mono (by lia), fr'⟩
        suffices hh : ∃ ρ2, stepL (fun d ρ => R.ok (ρ.set 2 (Sl.v d))) _ (D.int c) [Sl.v (.lst xs), .o (rowsD r), a, b, c', d, e] = .ok (.nx ρ2) ∧ ∃ (s1 s2 s3 s4 s5 : Sl), ρ2 = [Sl.v (.lst xs), .o (rowsD (rstep r c)), s1, s2, s3, s4, s5] by
          obtain ⟨ρ2, h1, h2⟩ := hh
          exact ⟨ρ2, h1, keep ρ2 h2⟩
        clear keep fr fr' hi2 hi3 sr sr' hl2
        have m3 : modR (.int c) (.int 3) = .ok (.int (c.fmod 3)) := modP (by decide)
        have d3 : fdivR (.int c) (.int 3) = .ok (.int (c.fdiv 3)) := fdivP (by decide) (by decide)
        have m2 : modR (.int (c.fdiv 3)) (.int 2) = .ok (.int ((c.fdiv 3).fmod 2)) := modP (by decide)
        have m3' : modR (.int (c.fmod 3 + 1 + (c.fdiv 3).fmod 2)) (.int 3) = .ok (.int (jx c)) := modP (by decide)
        have d6 : fdivR (.int c) (.int 6) = .ok (.int (c.fdiv 6)) := fdivP (by decide) (by decide)
        have m7 : modR (.int (c.fdiv 6)) (.int 7) = .ok (.int ((c.fdiv 6).fmod 7)) := modP (by decide)
        have d210 : fdivR (.int c) (.int 210) = .ok (.int (c.fdiv 210)) := fdivP (by decide) (by decide)
        have m8 : modR (.int (c.fdiv 210)) (.int 8) = .ok (.int ((c.fdiv 210).fmod 8)) := modP (by decide)
        have d42 : fdivR (.int c) (.int 42) = .ok (.int (c.fdiv 42)) := fdivP (by decide) (by decide)
        have m5 : modR (.int (c.fdiv 42)) (.int 5) = .ok (.int ((c.fdiv 42).fmod 5)) := modP (by decide)
        have p9 : powR (.int 10) (.int 9) = .ok (.int 1000000000) := rfl
        have i0 := fmodR (a := c) (b := 3) (by decide)
        have j0 : 0 ≤ jx c ∧ jx c < 3 := fmodR (by decide)
        have q0 := fmodR (a := c.fdiv 42) (b := 5) (by decide)
        have t0 := fmodR (a := c.fdiv 6) (b := 7) (by decide)
        have mt : mulR (.int ((c.fdiv 6).fmod 7 - 3)) (.int 1000000007) = .ok (.int (((c.fdiv 6).fmod 7 - 3) * 1000000007)) := mulR_int (MulSz.of (bits_of_abs (n := 10) (by lia) (by lia)) (show bits 1000000007 ≤ 40 by decide))
        have tb := tms_bits c
        have gi := sr2.get (c.fmod 3)
        have mx : ∀ y, bits y ≤ 300 → mulR (.int (tms c)) (.int y) = .ok (.int (tms c * y)) := fun y hy => mulR_int (MulSz.of tb hy)
        have mx1 := mx _ gi.1
        have mx2 := mx _ gi.2.1
        have mx3 := mx _ gi.2.2
        have ai : ∀ r, ixR (.lst (rowsD r)) (.int (c.fmod 3)) = .ok (vl (rget r (c.fmod 3))) := fun r => rows_at r i0.1 i0.2
        have aj : ∀ r, ixR (.lst (rowsD r)) (.int (jx c)) = .ok (vl (rget r (jx c))) := fun r => rows_at r j0.1 j0.2
        have si := fun r v a ρ => sto_1 r i0.1 i0.2 v a ρ
        have sj := fun r v a ρ => sto_1 r j0.1 j0.2 v a ρ
        have si2 := fun r x y z a ρ => sto_2 r i0.1 i0.2 x y z a ρ
        have sj2 := fun r x y z a ρ => sto_2 r j0.1 j0.2 x y z a ρ
        unfold rstep
        have et : tms c = if (c.fdiv 210).fmod 8 = 5 then ((c.fdiv 6).fmod 7 - 3) * 1000000007 else (c.fdiv 6).fmod 7 - 3 := rfl
        generalize tms c = tt at *
        generalize jx c = jj at *
        generalize c.fmod 3 = ii at *
        generalize (c.fdiv 42).fmod 5 = qq at *
        by_cases h8 : (c.fdiv 210).fmod 8 = 5
        · rw [if_pos h8] at et
          rw [← et] at mt
          by_cases q1 : qq < 3
          · have q3 : ¬ qq = 3 := by lia
            have q4 : ¬ qq = 4 := by lia
            simp [m3, d3, m2, m3', d6, m7, d210, m8, d42, m5, p9, h8, mt, q1, q3, q4, dis_1, blockEv, sizeLine, ai, aj, vl_0, vl_1, vl_2, mx1, mx2, mx3, intB, sj2]
          · by_cases q3 : qq = 3
            · subst q3
              simp [m3, d3, m2, m3', d6, m7, d210, m8, d42, m5, p9, h8, mt, ai, aj, si, sj]
            · have q4 : qq = 4 := by lia
              subst q4
              simp [m3, d3, m2, m3', d6, m7, d210, m8, d42, m5, p9, h8, mt, ai, aj, blockEv, sizeLine, vl_only, si2]
        · rw [if_neg h8] at et
          rw [← et] at mt
          by_cases q1 : qq < 3
          · have q3 : ¬ qq = 3 := by lia
            have q4 : ¬ qq = 4 := by lia
            simp [m3, d3, m2, m3', d6, m7, d210, m8, d42, m5, h8, ← et, q1, q3, q4, dis_1, blockEv, sizeLine, ai, aj, vl_0, vl_1, vl_2, mx1, mx2, mx3, intB, sj2]
          · by_cases q3 : qq = 3
            · subst q3
              simp [m3, d3, m2, m3', d6, m7, d210, m8, d42, m5, h8, ai, aj, si, sj]
            · have q4 : qq = 4 := by lia
              subst q4
              simp [m3, d3, m2, m3', d6, m7, d210, m8, d42, m5, h8, ai, aj, blockEv, sizeLine, vl_only, si2]
      · rintro ρ ⟨r, a, b, c, d, e, rfl, _, _, _, fr⟩
        have fr : r = rowsV xs := fr
        rw [fr]
        simp [disE]
    · cases h
end
theorem c__law_move (c__law_rows : Cal P w K mg base 1 "_law_rows" 1 m_rows) (b_tuple : mg "tuple" = none) (g : Def K mg "_law_move" s__law_move) : Cal P w K mg base 2 "_law_move" 2 m_move := by
  refine' cal_def (k := 1) (F := _) g sc__law_move (fun hr hu hu1 nd => ?b) fun ds d hl h => ?_
  case b =>
    refine' (pssd_cons (psd_set 2 (pc1 c__law_rows hr (pd_var 0)) nd)
      (pssd_cons (psd_set 3 (pt3 (pd_bin od_sub (PD.pb (pd_bin od_mod (pb_var 1) pbi)) pbi) (pd_bin od_sub (PD.pb (pd_bin od_mod (PD.pb (pd_bin od_fdiv (pb_var 1) pbi)) pbi)) pbi) (pd_bin od_sub (PD.pb (pd_bin od_mod (PD.pb (pd_bin od_fdiv (pb_var 1) pbi)) (PD.pb (pd_bin od_pow pbi pbi)))) (PD.pb (pd_bin od_pow pbi pbi)))) nd)
      (pssd_one (psd_ret (pd_bin od_add (PD.pb (pd_callTy cd_tuple (pab_cons (PD.pb (pd_bin od_add (PD.pb (pd_bin od_add (PD.pb (pd_ix (pb_var 2) pd_int)) (PD.pb (pd_ix (pb_var 2) pd_int)))) (PD.pb (pd_ix (pb_var 2) pd_int)))) pab_nil))) (pb_var 3))))))
  replace h := lsD_ok h; obtain ⟨xs, ds, rfl, h⟩ := h
  replace h := itD_ok h; obtain ⟨f, ds, rfl, h⟩ := h
  replace h := nlD_ok h; obtain ⟨rfl, h⟩ := h
  · skip
    split at h
    · rename_i hz
      obtain ⟨hi, hl, hf⟩ := hz
      rw [← h]
      have e : m_rows [.lst xs] = .ok (.lst (rowsD (rowsV xs))) := if_pos ⟨hi, hl⟩
      generalize rowsV xs = r at *
      have p12 : powR (.int 10) (.int 12) = .ok (.int 1000000000000) := rfl
      have p6 : powR (.int 10) (.int 6) = .ok (.int 1000000) := rfl
      have m41 : modR (.int f) (.int 41) = .ok (.int (f.fmod 41)) := modP (by decide)
      have d41 : fdivR (.int f) (.int 41) = .ok (.int (f.fdiv 41)) := fdivP (by decide) (by decide)
      have m2001 : modR (.int (f.fdiv 41)) (.int 2001) = .ok (.int ((f.fdiv 41).fmod 2001)) := modP (by decide)
      have d7 : fdivR (.int f) (.int 7) = .ok (.int (f.fdiv 7)) := fdivP (by decide) (by decide)
      have mT : modR (.int (f.fdiv 7)) (.int 1000000000000) = .ok (.int ((f.fdiv 7).fmod 1000000000000)) := modP (by decide)
      have x0 : ixR (.lst (rowsD r)) (.int 0) = .ok (vl r.1) := rfl
      have x1 : ixR (.lst (rowsD r)) (.int 1) = .ok (vl r.2.1) := rfl
      have x2 : ixR (.lst (rowsD r)) (.int 2) = .ok (vl r.2.2) := rfl
      have ad1 : addR (vl r.1) (vl r.2.1) = .ok (.lst [.int r.1.x, .int r.1.y, .int r.1.z, .int r.2.1.x, .int r.2.1.y, .int r.2.1.z]) := rfl
      have ad2 : addR (.lst [.int r.1.x, .int r.1.y, .int r.1.z, .int r.2.1.x, .int r.2.1.y, .int r.2.1.z]) (vl r.2.2) = .ok (.lst [.int r.1.x, .int r.1.y, .int r.1.z, .int r.2.1.x, .int r.2.1.y, .int r.2.1.z, .int r.2.2.x, .int r.2.2.y, .int r.2.2.z]) := rfl
      have ad3 := cat_t (xs := [.int r.1.x, .int r.1.y, .int r.1.z, .int r.2.1.x, .int r.2.1.y, .int r.2.1.z, .int r.2.2.x, .int r.2.2.y, .int r.2.2.z]) (ys := [.int (f.fmod 41 - 20), .int ((f.fdiv 41).fmod 2001 - 1000), .int ((f.fdiv 7).fmod 1000000000000 - 1000000)]) (by simp)
      simp [startD, e, p12, p6, m41, d41, m2001, d7, mT, x0, x1, x2, ad1, ad2, ad3, mvI]
    · cases h
theorem c__law_due (b_len : mg "len" = none) (b_isinstance : mg "isinstance" = none) (b_tuple : mg "tuple" = none) (b_bool : mg "bool" = none) (b_int : mg "int" = none) (g : Def K mg "_law_due" s__law_due) : Cal P w K mg base 1 "_law_due" 1 m_due := by
  refine' cal_def (k := 0) (F := _) g sc__law_due (fun hr hu hu1 nd => ?b) fun ds d hl h => ?_
  case b =>
    refine' (pssd_cons (psd_if (PWD.pt (pwd_or (ptd_not (ptd_val (pd_isa isa_tuple (pb_var 0)))) (pwd_or1 (ptd_cmp (od_ne hu) (PD.pb (pcb cd_len (pb_var 0))) pbi)))) (pssd_one (psd_ret pd_bl)) pssd_nil)
      (pssd_cons (psd_if (ptd_cmp (od_ne hu) (PD.pb (pd_comp ["number"] [] [] rfl (compSc (sc := defScope s__law_due) (N := N__law_due)) (pid_tup (pd_var 0)) (hxt fun _ _ _ _ _ => ⟨(PWD.pt (pwd_or (ptd_not (ptd_val (pd_isa isa_int (pb_var 0)))) (pwd_or1 (ptd_val (pd_isa isa_bool (pb_var 0)))))), (pd_var 0)⟩) (fun _ => weak_name0))) (PD.pb (pd_lst pad_nil))) (pssd_one (psd_ret pd_bl)) pssd_nil)
      (pssd_cons (psd_asg (pd_sl (pb_var 0) pto_none (pto_some pd_int)) (pgd_tup (n := 9) rfl (pgsd_cons (pgd_name 1 nd) (pgsd_cons (pgd_name 2 nd) (pgsd_cons (pgd_name 3 nd) (pgsd_cons (pgd_name 4 nd) (pgsd_cons (pgd_name 5 nd) (pgsd_cons (pgd_name 6 nd) (pgsd_cons (pgd_name 7 nd) (pgsd_cons (pgd_name 8 nd) (pgsd_cons (pgd_name 9 nd) pgsd_nil)))))))))))
      (pssd_cons (psd_set 10 (pd_bin od_mul (pb_var 1) (PD.pb (pd_bin od_sub (PD.pb (pd_bin od_mul (pb_var 5) (pb_var 9))) (PD.pb (pd_bin od_mul (pb_var 6) (pb_var 8)))))) nd)
      (pssd_cons (psd_set 10 (pd_bin od_add (pb_var 10) (PD.pb (pd_bin od_mul (pb_var 2) (PD.pb (pd_bin od_sub (PD.pb (pd_bin od_mul (pb_var 6) (pb_var 7))) (PD.pb (pd_bin od_mul (pb_var 4) (pb_var 9)))))))) nd)
      (pssd_cons (psd_set 10 (pd_bin od_add (pb_var 10) (PD.pb (pd_bin od_mul (pb_var 3) (PD.pb (pd_bin od_sub (PD.pb (pd_bin od_mul (pb_var 4) (pb_var 8))) (PD.pb (pd_bin od_mul (pb_var 5) (pb_var 7)))))))) nd)
      (pssd_one (psd_ret (pd_or (pd_cmp (od_eq hu) (pb_var 10) pbi) (pd_one (pd_cmp (od_eq hu) (pb_var 10) (PD.pb (pd_neg pd_int)))))))))))))
  match ds, h with
  | [x], h =>
    simp only [m_due] at h
    split at h
    · rename_i hk
      rw [← h]
      cases x with
      | tup xs =>
        obtain ⟨hb, hd⟩ := hk
        by_cases hl : xs.length = 12
        · have hl' : (xs.length : Int) = 12 := by lia
          have hz : xs.length ≤ sizeLine := by rw [hl]; decide
          by_cases hw : xs.all wholeD = true
          · obtain ⟨a, b, c, d, e, f, g, h', i, p, q, r, rfl⟩ := ints_12 hl hw
            haveI : Bd a 100000 := ⟨hb a (by simp)⟩
            haveI : Bd b 100000 := ⟨hb b (by simp)⟩
            haveI : Bd c 100000 := ⟨hb c (by simp)⟩
            haveI : Bd d 100000 := ⟨hb d (by simp)⟩
            haveI : Bd e 100000 := ⟨hb e (by simp)⟩
            haveI : Bd f 100000 := ⟨hb f (by simp)⟩
            haveI : Bd g 100000 := ⟨hb g (by simp)⟩
            haveI : Bd h' 100000 := ⟨hb h' (by simp)⟩
            haveI : Bd i 100000 := ⟨hb i (by simp)⟩
            have nn := ne_nil (xs := []) (by simp [deps])
            simp [startD, blockEv, sizeLine, nn, t12_9, asgR, gTupR, gConsR, gNilR, mulR_bd, dueB, det]
            by_cases h1 : a * (e * i - f * h') + b * (f * g - d * i) + c * (d * h' - e * g) = 1
            · rw [if_pos h1, h1]; rfl
            · rw [if_neg h1, R.bind_ok, beq_false_of_ne h1]; rfl
          · have hw : xs.all wholeD = false := by simpa using hw
            rw [not_ints hw]
            have cf : compL (fun d ρ => R.ok (List.set ρ 0 (Sl.v d))) (orB (notB fun ρ => ((evB 0 ρ).bind fun d => R.ok (D.bl (isaD "int" d))).bind toB) fun ρ => ((evB 0 ρ).bind fun d => R.ok (D.bl (isaD "bool" d))).bind toB) (evV 0) [Sl.no] xs = .ok (xs.filter fun d => !wholeD d) := compL_filter _ fun d hd => ⟨by cases d <;> rfl, rfl⟩
            have nn := ne_nil (xs := xs.filter fun d => !wholeD d) (deps_le fun d hd' => dep_le hd d (List.mem_filter.mp hd').1)
            have ne : (xs.filter fun d => !wholeD d).isEmpty = false := by
              rw [List.isEmpty_eq_false_iff_exists_mem]
              rw [← Bool.not_eq_true, List.all_eq_true] at hw
              obtain ⟨d, hd1⟩ := Classical.not_forall.mp hw
              obtain ⟨hd1, hd2⟩ := Classical.not_imp.mp hd1
              exact ⟨d, List.mem_filter.mpr ⟨hd1, by simpa using hd2⟩⟩
            rw [ne] at nn
            simp [startD, blockEv, hl', hz, cf, nn]
        · have hl' : ¬ (xs.length : Int) = 12 := by lia
          rw [not12 hl]
          simp [startD, hl']
      | _ => simp [startD, dueB, isaD, tyD]
    · cases h
theorem c__law_changed (b_tuple : mg "tuple" = none) (g : Def K mg "_law_changed" s__law_changed) : Cal P w K mg base 1 "_law_changed" 2 m_changed := by
  refine' cal_def (k := 0) (F := _) g sc__law_changed (fun hr hu hu1 nd => ?b) fun ds d hl h => ?_
  case b =>
    refine' (pssd_cons (psd_set 2 (pd_bin od_mod (PD.pb (pd_bin od_fdiv (pb_var 1) pbi)) pbi) nd)
      (pssd_cons (psd_set 3 (pd_bin od_mod (pb_var 1) pbi) nd)
      (pssd_cons (psd_if (ptd_cmp od_lt (pb_var 3) pbi) (pssd_one (psd_ret (pd_bin od_add (PD.pb (pd_bin od_add (PD.pb (pd_sl (pb_var 0) pto_none (pto_some (pd_var 2)))) (PD.pb (pd_tup (pad_cons (pd_bin od_sub (PD.pb (pd_bin od_add (PD.pb (pd_ix (pb_var 0) (pd_var 2))) pbi)) (PD.pb (pd_bin od_mul pbi (pb_var 3)))) pad_nil))))) (PD.pb (pd_sl (pb_var 0) (pto_some (pd_bin od_add (pb_var 2) pbi)) pto_none))))) pssd_nil)
      (pssd_cons (psd_if (ptd_cmp (od_eq hu) (pb_var 3) pbi) (pssd_one (psd_ret (pd_bin od_add (PD.pb (pd_bin od_add (PD.pb (pd_sl (pb_var 0) pto_none (pto_some (pd_var 2)))) (PD.pb (pd_tup (pad_cons (pd_bin od_mod (PD.pb (pd_bin od_fdiv (pb_var 1) pbi)) (PD.pb (pd_bin od_pow pbi pbi))) pad_nil))))) (PD.pb (pd_sl (pb_var 0) (pto_some (pd_bin od_add (pb_var 2) pbi)) pto_none))))) pssd_nil)
      (pssd_cons (psd_set 4 (pd_bin od_mul pbi (PD.pb (pd_bin od_mod (pb_var 2) pbi))) nd)
      (pssd_cons (psd_set 5 (pd_bin od_mul pbi (PD.pb (pd_bin od_mod (PD.pb (pd_bin od_fdiv (pb_var 2) pbi)) pbi))) nd)
      (pssd_cons (psd_if (ptd_cmp od_lt (pb_var 3) pbi) (pssd_one (psd_ret (pd_bin od_add (PD.pb (pd_bin od_add (PD.pb (pd_sl (pb_var 0) pto_none (pto_some (pd_var 4)))) (PD.pb (pd_callTy cd_tuple (pab_cons (PD.pb (pd_comp ["number"] ["way"] [3] rfl (compSc (sc := defScope s__law_changed) (N := N__law_changed)) (pid_tup (pd_sl (pb_var 0) (pto_some (pd_var 4)) (pto_some (pd_bin od_add (pb_var 4) pbi)))) (hx1 fun _ _ _ _ _ => (pd_bin od_mul (pb_var 0) (PD.pb (pd_bin od_sub (pb_var 1) pbi)))) (fun _ => weak_name0))) pab_nil))))) (PD.pb (pd_sl (pb_var 0) (pto_some (pd_bin od_add (pb_var 4) pbi)) pto_none))))) pssd_nil)
      (pssd_cons (psd_if (ptd_cmp (od_eq hu) (pb_var 3) pbi) (pssd_one (psd_ret (pd_bin od_add (PD.pb (pd_bin od_add (PD.pb (pd_sl (pb_var 0) pto_none (pto_some (pd_var 4)))) (PD.pb (pd_sl (pb_var 0) (pto_some (pd_var 5)) (pto_some (pd_bin od_add (pb_var 5) pbi)))))) (PD.pb (pd_sl (pb_var 0) (pto_some (pd_bin od_add (pb_var 4) pbi)) pto_none))))) pssd_nil)
      (pssd_one (psd_ret (pd_var 0)))))))))))
  match ds, h with
  | [.tup xs, .int c], h =>
    simp only [m_changed] at h
    split at h
    · rename_i hz
      obtain ⟨⟨ns, rfl, hn, hb⟩, hc⟩ := hz
      rw [toI0_map] at h
      rw [← h]
      clear h hl
      have hl : (ns.map D.int).length = 12 := by rw [List.length_map]; exact hn
      have d16 : fdivR (.int c) (.int 16) = .ok (.int (c.fdiv 16)) := fdivP (by decide) (by decide)
      have m12 : modR (.int (c.fdiv 16)) (.int 12) = .ok (.int ((c.fdiv 16).fmod 12)) := modP (by decide)
      have m16 : modR (.int c) (.int 16) = .ok (.int (c.fmod 16)) := modP (by decide)
      have d192 : fdivR (.int c) (.int 192) = .ok (.int (c.fdiv 192)) := fdivP (by decide) (by decide)
      have p20 : powR (.int 10) (.int 20) = .ok (.int 100000000000000000000) := rfl
      have m20 : modR (.int (c.fdiv 192)) (.int 100000000000000000000) = .ok (.int ((c.fdiv 192).fmod 100000000000000000000)) := modP (by decide)
      have ha := fmodR (a := c.fdiv 16) (b := 12) (by decide)
      have hw := fmodR (a := c) (b := 16) (by decide)
      unfold chg
      dsimp only
      generalize (c.fdiv 192).fmod 100000000000000000000 = z at *
      generalize (c.fdiv 16).fmod 12 = at_ at *
      generalize c.fmod 16 = w at *
      have m3 : modR (.int at_) (.int 3) = .ok (.int (at_.fmod 3)) := modP (by decide)
      have d3 : fdivR (.int at_) (.int 3) = .ok (.int (at_.fdiv 3)) := fdivP (by decide) (by decide)
      have m3' : modR (.int (at_.fdiv 3)) (.int 3) = .ok (.int ((at_.fdiv 3).fmod 3)) := modP (by decide)
      have hr := fmodR (a := at_) (b := 3) (by decide)
      have ho := fmodR (a := at_.fdiv 3) (b := 3) (by decide)
      generalize at_.fmod 3 = r3 at *
      generalize (at_.fdiv 3).fmod 3 = o3 at *
      have k3 : mulR (.int 3) (.int r3) = .ok (.int (3 * r3)) := mulR_int (MulSz.of (show bits 3 ≤ 5 by decide) (bits_of_abs (n := 10) (by lia) (by lia)))
      have k3' : mulR (.int 3) (.int o3) = .ok (.int (3 * o3)) := mulR_int (MulSz.of (show bits 3 ≤ 5 by decide) (bits_of_abs (n := 10) (by lia) (by lia)))
      have k2 : mulR (.int 2) (.int w) = .ok (.int (2 * w)) := mulR_int (MulSz.of (show bits 2 ≤ 5 by decide) (bits_of_abs (n := 10) (by lia) (by lia)))
      have T1 := tcut_to (xs := ns.map D.int) (i := at_) ha.1 (by rw [hl]; lia)
      have T2 := tcut_from (xs := ns.map D.int) (i := at_ + 1) (by lia) (by rw [hl]; lia)
      have T3 := tcut_to (xs := ns.map D.int) (i := 3 * r3) (by lia) (by rw [hl]; lia)
      have T4 := tcut_from (xs := ns.map D.int) (i := 3 * r3 + 3) (by lia) (by rw [hl]; lia)
      have T5 := tcut_mid (xs := ns.map D.int) (i := 3 * r3) (j := 3 * r3 + 3) (by lia) (by lia) (by rw [hl]; lia) (by rw [hl]; lia)
      have T6 := tcut_mid (xs := ns.map D.int) (i := 3 * o3) (j := 3 * o3 + 3) (by lia) (by lia) (by rw [hl]; lia) (by rw [hl]; lia)
      have e1 : (at_ + 1).toNat = at_.toNat + 1 := by lia
      have e2 : (3 * r3 + 3).toNat = (3 * r3).toNat + 3 := by lia
      have e3 : (3 * r3 + 3).toNat - (3 * r3).toNat = 3 := by lia
      have e4 : (3 * o3 + 3).toNat - (3 * o3).toNat = 3 := by lia
      rw [e1] at T2; rw [e2] at T4; rw [e3] at T5; rw [e4] at T6
      have ix : ixR (.tup (ns.map D.int)) (.int at_) = .ok (.int (ns.getD at_.toNat 0)) := ixR_t (by
        rw [atI_nn ha.1, List.getElem?_map, List.getD_eq_getElem?_getD, List.getElem?_eq_getElem (show at_.toNat < ns.length by lia)]; rfl)
      rw [← List.map_take] at T1 T3
      rw [← List.map_drop] at T2 T4
      rw [← List.map_drop, ← List.map_take] at T5 T6
      have lt : ∀ k, (ns.take k).length ≤ 12 := fun k => by rw [List.length_take, hn]; exact Nat.min_le_right _ _
      have ld : ∀ k, (ns.drop k).length ≤ 12 := fun k => by rw [List.length_drop, hn]; exact Nat.sub_le _ _
      have lx : ∀ k, ((ns.drop k).take 3).length ≤ 3 := fun k => by rw [List.length_take]; exact Nat.min_le_left _ _
      have A1 : ∀ (k : Nat) (x : Int), addR (.tup ((ns.take k).map D.int)) (.tup [.int x]) = .ok (.tup ((ns.take k ++ [x]).map D.int)) := fun k x => catI (ns.take k) [x] (by have := lt k; simp at this ⊢; lia)
      have A2 : ∀ (k j : Nat) (x : Int), addR (.tup ((ns.take k ++ [x]).map D.int)) (.tup ((ns.drop j).map D.int)) = .ok (.tup ((ns.take k ++ [x] ++ ns.drop j).map D.int)) := fun k j x => catI _ _ (by have := lt k; have := ld j; rw [List.length_append]; simp only [List.length_cons, List.length_nil]; lia)
      have A3 : ∀ (k : Nat) (ms : List Int), ms.length ≤ 3 → addR (.tup ((ns.take k).map D.int)) (.tup (ms.map D.int)) = .ok (.tup ((ns.take k ++ ms).map D.int)) := fun k ms h => catI _ _ (by have := lt k; lia)
      have A4 : ∀ (k j : Nat) (ms : List Int), ms.length ≤ 3 → addR (.tup ((ns.take k ++ ms).map D.int)) (.tup ((ns.drop j).map D.int)) = .ok (.tup ((ns.take k ++ ms ++ ns.drop j).map D.int)) := fun k j ms h => catI _ _ (by have := lt k; have := ld j; rw [List.length_append]; lia)
      by_cases w2 : w < 2
      · rw [if_pos w2]
        have B1 := A1 at_.toNat (ns.getD at_.toNat 0 + 1 - 2 * w)
        have B2 := A2 at_.toNat (at_.toNat + 1) (ns.getD at_.toNat 0 + 1 - 2 * w)
        clear A1 A2 A3 A4 T3 T4 T5 T6
        generalize (ns.take at_.toNat ++ [ns.getD at_.toNat 0 + 1 - 2 * w] ++ ns.drop (at_.toNat + 1)).map D.int = R1 at *
        generalize (ns.take at_.toNat ++ [ns.getD at_.toNat 0 + 1 - 2 * w]).map D.int = R2 at *
        generalize (ns.take at_.toNat).map D.int = R3 at *
        generalize (ns.drop (at_.toNat + 1)).map D.int = R4 at *
        generalize ns.getD at_.toNat 0 = g0 at *
        simp [startD, d16, m12, m16, w2, T1, ix, k2, B1, T2, B2, tupR, sizeLine]
      · rw [if_neg w2]
        by_cases w3 : w = 2
        · rw [if_pos w3]
          have B1 := A1 at_.toNat z
          have B2 := A2 at_.toNat (at_.toNat + 1) z
          clear A1 A2 A3 A4 T3 T4 T5 T6
          generalize (ns.take at_.toNat ++ [z] ++ ns.drop (at_.toNat + 1)).map D.int = R1 at *
          generalize (ns.take at_.toNat ++ [z]).map D.int = R2 at *
          generalize (ns.take at_.toNat).map D.int = R3 at *
          generalize (ns.drop (at_.toNat + 1)).map D.int = R4 at *
          simp [startD, d16, m12, m16, w3, d192, p20, m20, T1, B1, T2, B2, tupR, sizeLine]
        · rw [if_neg w3]
          by_cases w5 : w < 5
          · rw [if_pos w5]
            have hz : (((ns.drop (3 * r3).toNat).take 3).map D.int).length ≤ sizeLine := by rw [List.length_map]; exact Nat.le_trans (lx _) (by decide)
            have mw : ∀ m ∈ (ns.drop (3 * r3).toNat).take 3, mulR (.int m) (.int (w - 1)) = .ok (.int (m * (w - 1))) := fun m hm => mulR_int (MulSz.of (hb m (List.mem_of_mem_drop (List.mem_of_mem_take hm))) (bits_of_abs (n := 10) (by lia) (by lia)))
            have cm : compL (fun d ρ => R.ok (List.set ρ 0 (Sl.v d))) (fun _ => R.ok true) (fun ρ => (evB 0 ρ).bind fun x => ((evB 1 ρ).bind fun x => subR x (D.int 1)).bind fun y => mulR x y) [Sl.no, Sl.v (.int w)] (((ns.drop (3 * r3).toNat).take 3).map D.int) = .ok (((ns.drop (3 * r3).toNat).take 3).map fun m => D.int (m * (w - 1))) := compE _ fun m hm => mw m hm
            have em : (((ns.drop (3 * r3).toNat).take 3).map fun m => D.int (m * (w - 1))) = (((ns.drop (3 * r3).toNat).take 3).map fun m => m * (w - 1)).map D.int := by rw [List.map_map]; rfl
            rw [em] at cm
            have B3 := A3 (3 * r3).toNat (((ns.drop (3 * r3).toNat).take 3).map fun m => m * (w - 1)) (by rw [List.length_map]; exact lx _)
            have B4 := A4 (3 * r3).toNat ((3 * r3).toNat + 3) (((ns.drop (3 * r3).toNat).take 3).map fun m => m * (w - 1)) (by rw [List.length_map]; exact lx _)
            generalize (((ns.drop (3 * r3).toNat).take 3).map fun m => m * (w - 1)) = MS at *
            generalize ((ns.drop (3 * r3).toNat).take 3).map D.int = M0 at *
            clear A1 A2 A3 A4 T1 T2 T6 em
            generalize (ns.take (3 * r3).toNat ++ MS ++ ns.drop ((3 * r3).toNat + 3)).map D.int = R1 at *
            generalize (ns.take (3 * r3).toNat ++ MS).map D.int = R2 at *
            generalize (ns.take (3 * r3).toNat).map D.int = R3 at *
            generalize (ns.drop ((3 * r3).toNat + 3)).map D.int = R4 at *
            generalize MS.map D.int = R5 at *
            have hz' : M0.length ≤ 16777216 := hz
            simp [startD, blockEv, d16, m12, m16, w2, w3, w5, m3, d3, m3', k3, k3', T3, T5, hz, hz', cm, T4, B3, B4]
          · rw [if_neg w5]
            by_cases w6 : w = 5
            · rw [if_pos w6]
              have B3 := A3 (3 * r3).toNat ((ns.drop (3 * o3).toNat).take 3) (lx _)
              have B4 := A4 (3 * r3).toNat ((3 * r3).toNat + 3) ((ns.drop (3 * o3).toNat).take 3) (lx _)
              generalize (ns.drop (3 * o3).toNat).take 3 = MS at *
              clear A1 A2 A3 A4 T1 T2 T5
              generalize (ns.take (3 * r3).toNat ++ MS ++ ns.drop ((3 * r3).toNat + 3)).map D.int = R1 at *
              generalize (ns.take (3 * r3).toNat ++ MS).map D.int = R2 at *
              generalize (ns.take (3 * r3).toNat).map D.int = R3 at *
              generalize (ns.drop ((3 * r3).toNat + 3)).map D.int = R4 at *
              generalize MS.map D.int = R5 at *
              simp [startD, d16, m12, m16, w6, m3, d3, m3', k3, k3', T3, T6, T4, B3, B4]
            · rw [if_neg w6]
              simp [startD, d16, m12, m16, w2, w3, w5, w6, m3, d3, m3', k3, k3']
    · cases h
theorem c__law_things (b_tuple : mg "tuple" = none) (b_int : mg "int" = none) (b_str : mg "str" = none) (b_list : mg "list" = none) (g : Def K mg "_law_things" s__law_things) : Cal P w K mg base 1 "_law_things" 2 m_things := by
  refine' cal_def (k := 0) (F := _) g sc__law_things (fun hr hu hu1 nd => ?b) fun ds d hl h => ?_
  case b =>
    refine' (pssd_cons (psd_set 2 (pd_callTy cd_tuple (pab_cons (PD.pb (pd_comp ["number"] [] [] rfl (compSc (sc := defScope s__law_things) (N := N__law_things)) (pid_tup (pd_var 0)) (hx1 fun _ _ _ _ _ => (pd_ix (PD.pb (pd_lst (pad_cons (pd_var 0) (pad_cons (pd_cmp (od_eq hu) (pb_var 0) pbi) pad_nil)))) (pd_callTy cd_int (pab_cons (PD.pb (pd_or (pd_cmp (od_eq hu) (pb_var 0) pbi) (pd_one (pd_cmp (od_eq hu) (pb_var 0) pbi)))) pab_nil)))) (fun _ => weak_name0))) pab_nil)) nd)
      (pssd_cons (psd_set 3 (pd_lst (pad_cons (pd_callTy cd_list (pab_cons (pb_var 0) pab_nil)) (pad_cons (pd_sl (pb_var 0) pto_none (pto_some pd_int)) (pad_cons (pd_bin od_add (pb_var 0) (PD.pb (pd_tup (pad_cons pd_int pad_nil)))) (pad_cons (pd_var 2) (pad_cons (pd_join (pd_comp ["number"] [] [] rfl (compSc (sc := defScope s__law_things) (N := N__law_things)) (pid_tup (pd_var 0)) (hx1 fun _ _ _ _ _ => (pd_callTy cd_str (pab_cons (pb_var 0) pab_nil))) (fun _ => weak_name0))) pad_nil)))))) nd)
      (pssd_cons (psd_set 3 (pd_bin od_add (pb_var 3) (PD.pb (pd_lst (pad_cons (pd_dict (pd_var 0)) (pad_cons pd_non (pad_cons pd_int (pad_cons (pd_tup pad_nil) (pad_cons (pd_tup (pad_cons (pd_var 0) pad_nil)) (pad_cons (pd_sl (pb_var 0) pto_none (pto_some pd_int)) (pad_cons (pd_callTy cd_tuple (pab_cons (PD.pb (pd_comp ["number"] [] [] rfl (compSc (sc := defScope s__law_things) (N := N__law_things)) (pid_tup (pd_var 0)) (hx1 fun _ _ _ _ _ => (pd_tup (pad_cons (pd_var 0) pad_nil))) (fun _ => weak_name0))) pab_nil)) (pad_cons pd_bl pad_nil))))))))))) nd)
      (pssd_one (psd_ret (pd_lst (pad_cons (pd_ix (pb_var 3) (pd_bin od_mod (pb_var 1) pbi)) (pad_cons (pd_ix (pb_var 3) (pd_bin od_mod (PD.pb (pd_bin od_add (pb_var 1) pbi)) pbi)) pad_nil))))))))
  match ds, h with
  | [.tup xs, .int k], h =>
    simp only [m_things] at h
    split at h
    · rename_i hz
      obtain ⟨⟨ns, rfl, hn, hb⟩, hk⟩ := hz
      rw [toI0_map] at h
      rw [← h]
      clear h hl
      have hl : (ns.map D.int).length = 12 := by rw [List.length_map]; exact hn
      have hz : (ns.map D.int).length ≤ sizeLine := by rw [hl]; decide
      have m13 : modR (.int k) (.int 13) = .ok (.int (k.fmod 13)) := modP (by decide)
      have m13' : modR (.int (k + 5)) (.int 13) = .ok (.int ((k + 5).fmod 13)) := modP (by decide)
      have k0 := fmodR (a := k) (b := 13) (by decide)
      have k1 := fmodR (a := k + 5) (b := 13) (by decide)
      have x0 := at_lst (xs := things ns) k0.1 (by simp [things]; lia)
      have x1 := at_lst (xs := things ns) k1.1 (by simp [things]; lia)
      generalize (k + 5).fmod 13 = j1 at *
      generalize k.fmod 13 = j0 at *
      have T1 := tcut_to (xs := ns.map D.int) (i := 11) (by decide) (by rw [hl]; decide)
      have T2 := tcut_to (xs := ns.map D.int) (i := 9) (by decide) (by rw [hl]; decide)
      rw [← List.map_take] at T1 T2
      have T1 : slR (.tup (ns.map D.int)) none (some 11) = .ok (.tup ((ns.take 11).map D.int)) := T1
      have T2 : slR (.tup (ns.map D.int)) none (some 9) = .ok (.tup ((ns.take 9).map D.int)) := T2
      have A1 : addR (.tup (ns.map D.int)) (.tup [.int 0]) = .ok (.tup ((ns ++ [0]).map D.int)) := catI ns [0] (by simp [hn])
      have jn := join_ok hb hn
      simp only [startD, List.map_cons, List.map_nil, List.cons_append, List.nil_append, List.length_cons, List.length_nil, Nat.reduceAdd, Nat.reduceSub, List.replicate_succ, List.replicate_zero]
      refine r_step (ρ := [Sl.v (.tup (ns.map D.int)), .v (.int k), .v (.tup (ns.map trD)), .no]) ?_ ?_
      · simp only [evB_s, evB_z, evV_s, evV_z, R.bind_ok, tupOnly_t, consR_eq, nilR_eq]
        rw [if_pos hz, compE trD fun m hm => ?_]
        · rfl
        · have l0 : ∀ x y : D, ixR (.lst [x, y]) (.int 0) = .ok x := fun _ _ => rfl
          have l1 : ∀ x y : D, ixR (.lst [x, y]) (.int 1) = .ok y := fun _ _ => rfl
          unfold trD
          by_cases h1 : m = 1
          · subst h1; simp [blockEv, lstR, sizeLine, l0, l1]
          · by_cases h0 : m = 0
            · subst h0; simp [blockEv, lstR, sizeLine, l0, l1]
            · simp [blockEv, lstR, sizeLine, l0, l1, h0, h1]
      refine r_step (ρ := [Sl.v (.tup (ns.map D.int)), .v (.int k), .v (.tup (ns.map trD)), .v (.lst [.lst (ns.map D.int), .tup ((ns.take 11).map D.int), .tup ((ns ++ [0]).map D.int), .tup (ns.map trD), .str (Txt.join "," (ns.map fun i => Str.ofString (toString i)))])]) ?_ ?_
      · have cs : compL (fun d ρ => R.ok (List.set ρ 0 (Sl.v d))) (fun _ => R.ok true) (fun ρ => ((evB 0 ρ).bind fun d => R.ok [d]).bind strR) [Sl.no] (ns.map D.int) = .ok (ns.map fun i => D.str (Str.ofString (toString i))) := compE _ fun m hm => if_pos (log_ok (hb m hm))
        clear m13 m13' k0 k1 x0 x1
        generalize (ns.map fun i => D.str (Str.ofString (toString i))) = SS at *
        generalize Txt.join "," (ns.map fun i => Str.ofString (toString i)) = JJ at *
        generalize (ns ++ [0]).map D.int = R1 at *
        generalize (ns.take 11).map D.int = R2 at *
        generalize (ns.take 9).map D.int = R3 at *
        generalize ns.map trD = TT at *
        have hz' : (ns.map D.int).length ≤ 16777216 := hz
        generalize ns.map D.int = NN at *
        simp [T1, A1, jn, cs, hz, hz', lstR, tupR, sizeLine, blockEv]
      refine r_step (ρ := [Sl.v (.tup (ns.map D.int)), .v (.int k), .v (.tup (ns.map trD)), .v (.lst (things ns))]) ?_ ?_
      · have ct : compL (fun d ρ => R.ok (List.set ρ 0 (Sl.v d))) (fun _ => R.ok true) (fun ρ => ((evV 0 ρ).bind fun d => R.ok [d]).bind tupR) [Sl.no] (ns.map D.int) = .ok (ns.map fun i => D.tup [D.int i]) := compE _ fun m hm => rfl
        have ad : ∀ a b c d e f g h i j k l m : D, addR (.lst [a, b, c, d, e]) (.lst [f, g, h, i, j, k, l, m]) = .ok (.lst [a, b, c, d, e, f, g, h, i, j, k, l, m]) := fun _ _ _ _ _ _ _ _ _ _ _ _ _ => rfl
        clear m13 m13' k0 k1 x0 x1
        unfold things
        generalize (ns.map fun i => D.tup [D.int i]) = UU at *
        generalize Txt.join "," (ns.map fun i => Str.ofString (toString i)) = JJ at *
        generalize (ns ++ [0]).map D.int = R1 at *
        generalize (ns.take 11).map D.int = R2 at *
        generalize (ns.take 9).map D.int = R3 at *
        generalize ns.map trD = TT at *
        have hz' : (ns.map D.int).length ≤ 16777216 := hz
        generalize ns.map D.int = NN at *
        simp [T2, ct, hz, hz', lstR, tupR, sizeLine, blockEv, ad]
      simp [m13, m13', x0, x1, lstR, sizeLine]
    · cases h
theorem o_law {f : Addr} {fd : FuncData} (c__law_cell : Cal P w K mg base 1 "_law_cell" 2 m_law_cell) (c__law_move : Cal P w K mg base 2 "_law_move" 2 m_move) (c__law_changed : Cal P w K mg base 1 "_law_changed" 2 m_changed) (c_is_move : Cal P w K mg base 3 "is_move" 1 m_due) (c__law_due : Cal P w K mg base 1 "_law_due" 1 m_due) (c__law_things : Cal P w K mg base 1 "_law_things" 2 m_things) (b_range : mg "range" = none) (b_max : mg "max" = none) (b_min : mg "min" = none) (b_len : mg "len" = none) (b_isinstance : mg "isinstance" = none) (b_bool : mg "bool" = none) (F0 : Fun K "law" "law" s_law f fd) : FnOk P w K mg base CX0 4 f fd ["script"] (spD K 1 m_law) := by
  refine' fnD (k := 3) (F := _) F0 sc_law (fun cdv A outer s H E hr => ?b) fun ds d hl h => ?_
  case b =>
    have hu := hr.units
    have hu1 := hr.u130
    have nd := sc_law.nd
    refine' (pssd_cons (psd_for PassesOwn.never rfl (pid_range (pab_cons pbi (pab_cons (PD.pb (pd_callB (cd_max2 rfl) (pab_cons pbi (pab_cons (PD.pb (pd_callB (cd_min2 rfl) (pab_cons (PD.pb (pcb cd_len (pb_var 0))) (pab_cons pbi pab_nil)))) pab_nil)))) (pab_cons pbi pab_nil)))) (pgd_name 1 nd) (pssd_cons (psd_comp 2 ["j"] ["script", "k"] [0, 1] nd rfl (compSc (sc := defScope s_law) (N := N_law)) (pid_range (pab_cons pbi pab_nil)) (hx1 fun _ _ _ _ _ => (pc2 c__law_cell hr (pd_var 1) (pd_bin od_add (pb_var 2) (pb_var 0)))) (fun _ => weak_name0))
      (pssd_cons (psd_set 3 (pc2 c__law_move hr (pd_sl (pb_var 2) pto_none (pto_some pd_int)) (pd_ix (pb_var 2) pd_int)) nd)
      (pssd_cons (psd_for PassesOwn.never rfl (pid_list (pd_lst (pad_cons (pd_var 3) (pad_cons (pc2 c__law_changed hr (pd_var 3) (pd_ix (pb_var 2) pd_int)) (pad_cons (pc2 c__law_changed hr (pc2 c__law_changed hr (pd_var 3) (pd_ix (pb_var 2) pd_int)) (pd_ix (pb_var 2) pd_int)) pad_nil))))) (pgd_name 4 nd) (pssd_cons (psd_set 5 (pc1 c_is_move hr (pd_var 4)) nd)
      (pssd_one (psd_if (PWD.pt (pwd_or (ptd_not (ptd_val (pd_isa isa_bool (pb_var 5)))) (pwd_or (ptd_cmp (od_ne hu) (pb_var 5) (PD.pb (pc1 c__law_due hr (pd_var 4)))) (pwd_or1 (ptd_cmp (od_ne hu) (PD.pb (pc1 c_is_move hr (pd_var 4))) (pb_var 5)))))) (pssd_one (psd_ret pd_bl)) pssd_nil))))
      (pssd_one (psd_for PassesOwn.never rfl (pid_list (pc2 c__law_things hr (pd_var 3) (pd_bin od_add (PD.pb (pd_bin od_fdiv (PD.pb (pd_ix (pb_var 2) pd_int)) pbi)) (pb_var 1)))) (pgd_name 4 nd) (pssd_cons (psd_set 5 (pc1 c_is_move hr (pd_var 4)) nd)
      (pssd_one (psd_if (PWD.pt (pwd_or (ptd_not (ptd_val (pd_isa isa_bool (pb_var 5)))) (pwd_or1 (ptd_cmp (od_ne hu) (pb_var 5) (PD.pb (pc1 c__law_due hr (pd_var 4))))))) (pssd_one (psd_ret pd_bl)) pssd_nil)))))))))
      (pssd_one (psd_ret pd_bl)))
  match ds, h with
  | [.lst xs], h =>
    simp only [m_law] at h
    split at h
    · rename_i hz
      obtain ⟨hlen, hi⟩ := hz
      rw [← h]
      obtain ⟨M, hM, hM0, hM1⟩ : ∃ M : Int, (if (if (60 : Int) < (xs.length : Int) then (60 : Int) else (xs.length : Int)) > 6 then (if (60 : Int) < (xs.length : Int) then (60 : Int) else (xs.length : Int)) else 6) = M ∧ 0 < M ∧ M ≤ 60 := ⟨_, rfl, by split <;> omega, by split <;> split <;> omega⟩
      simp only [startD, List.map_cons, List.map_nil, List.cons_append, List.nil_append, consR_eq, nilR_eq, evB_z, evC_eq, R.bind_ok, lenR_l, min2R_i, max2R_i, hM, rng_all (show rngOk 0 M 6 by refine ⟨by decide, by decide, by decide, by decide, by omega, by omega⟩)]
      refine ret_goes (fun ρ => ∃ a b c e f, ρ = [Sl.v (.lst xs), a, b, c, e, f]) ?_ ⟨_, _, _, _, _, rfl⟩ (by rintro ρ' ⟨a, b, c, e, f, rfl⟩; rfl)
      rintro d hd ρ ⟨a, b, c, e, f, rfl⟩
      obtain ⟨ii, hin, rfl⟩ := mem_rngD hd
      have hk := rngN_le hM0 (by decide) ii hin
      obtain ⟨k, hk0, hkd⟩ : ∃ k : Int, 0 + (ii : Int) * 6 = k ∧ 0 ≤ k ∧ k < 60 := ⟨_, rfl, by omega, by omega⟩
      rw [hk0]
      obtain ⟨c0, e0, hb0⟩ := cell_ok hi (k + 0) (by lia) (by lia)
      obtain ⟨c1, e1, hb1⟩ := cell_ok hi (k + 1) (by lia) (by lia)
      obtain ⟨c2, e2, hb2⟩ := cell_ok hi (k + 2) (by lia) (by lia)
      obtain ⟨c3, e3, hb3⟩ := cell_ok hi (k + 3) (by lia) (by lia)
      obtain ⟨c4, e4, hb4⟩ := cell_ok hi (k + 4) (by lia) (by lia)
      obtain ⟨c5, e5, hb5⟩ := cell_ok hi (k + 5) (by lia) (by lia)
      rw [Int.add_zero] at e0
      rw [stepL_name]
      have hI : IntsOf 2000000 [D.int c0, D.int c1, D.int c2, D.int c3, D.int c4] := ints_of (ns := [c0, c1, c2, c3, c4]) (by simp [hb0, hb1, hb2, hb3, hb4])
      have mv : m_move [.lst [.int c0, .int c1, .int c2, .int c3, .int c4], .int c5] = .ok (.tup ((mvI (rowsV [.int c0, .int c1, .int c2, .int c3, .int c4]) c5).map D.int)) := if_pos ⟨hI, by simp, hb5⟩
      have l0 := mv_12 [.int c0, .int c1, .int c2, .int c3, .int c4] (by simp) c5
      generalize mvI (rowsV [.int c0, .int c1, .int c2, .int c3, .int c4]) c5 = mm at *
      have l1 := chg_12 l0 (by decide) c5
      have l2 := chg_12 l0 (by decide) c0
      have l3 := chg_12 l2 (by decide) c1
      have up : ∀ {n : Nat} {ns : List Int}, L12 n ns → n ≤ 5000 → L12 5000 ns := fun h hn => ⟨h.1, fun i hi => Nat.le_trans (h.2 i hi) hn⟩
      have g1 := chg_ok (c := c5) (up l0 (by decide)) hb5
      have g2 := chg_ok (c := c0) (up l0 (by decide)) hb0
      have g3 := chg_ok (c := c1) (up l2 (by decide)) hb1
      have u0 := due_ok (l0.ok (by decide))
      have u1 := due_ok (l1.ok (by decide))
      have u3 := due_ok (l3.ok (by decide))
      have f5 : fdivR (.int c4) (.int 5) = .ok (.int (c4.fdiv 5)) := fdivP (by decide) (by decide)
      have hk3 : bits (c4.fdiv 5 + k) ≤ 3000000 := bits_mono (bits_add (n := 2000000) (bits_fdiv hb4) (bits_mono (bits_of_abs (a := k) (n := 10) (by omega) (by omega))))
      have th := things_ok l0 hk3
      have v1 := due_ok (things_sz l0 ((c4.fdiv 5 + k).fmod 13).toNat)
      have v2 := due_ok (things_sz l0 ((c4.fdiv 5 + k + 5).fmod 13).toNat)
      generalize (things mm).getD ((c4.fdiv 5 + k).fmod 13).toNat .non = t1 at *
      generalize (things mm).getD ((c4.fdiv 5 + k + 5).fmod 13).toNat .non = t2 at *
      generalize (chg (chg mm c0) c1) = m3 at *
      generalize chg mm c5 = m1 at *
      have s5 : slR (.lst [D.int c0, D.int c1, D.int c2, D.int c3, D.int c4, D.int c5]) none (some 5) = .ok (.lst [.int c0, .int c1, .int c2, .int c3, .int c4]) := rfl
      have x5 : ixR (.lst [D.int c0, D.int c1, D.int c2, D.int c3, D.int c4, D.int c5]) (.int 5) = .ok (.int c5) := rfl
      have x0 : ixR (.lst [D.int c0, D.int c1, D.int c2, D.int c3, D.int c4, D.int c5]) (.int 0) = .ok (.int c0) := rfl
      have x1 : ixR (.lst [D.int c0, D.int c1, D.int c2, D.int c3, D.int c4, D.int c5]) (.int 1) = .ok (.int c1) := rfl
      have x4 : ixR (.lst [D.int c0, D.int c1, D.int c2, D.int c3, D.int c4, D.int c5]) (.int 4) = .ok (.int c4) := rfl
      have nb : ∀ z : Bool, neR (.bl z) (.bl z) = .ok (.bl false) := fun z => by cases z <;> rfl
      have r6 : rngR [.int 6] = .ok [.int 0, .int 1, .int 2, .int 3, .int 4, .int 5] := rfl
      refine x_step (ρ := [Sl.v (.lst xs), .v (.int k), .v (.lst [.int c0, .int c1, .int c2, .int c3, .int c4, .int c5]), c, e, f]) (by simp [blockEv, r6, sizeLine, e0, e1, e2, e3, e4, e5]) ?_
      refine x_step (ρ := [Sl.v (.lst xs), .v (.int k), .v (.lst [.int c0, .int c1, .int c2, .int c3, .int c4, .int c5]), .v (.tup (mm.map D.int)), e, f]) (by simp [s5, x5, mv]) ?_
      have its : ∀ d ∈ [D.tup (mm.map D.int), D.tup (m1.map D.int), D.tup (m3.map D.int)], ∃ b, m_due [d] = .ok (.bl b) := fun d hd => by
        simp only [List.mem_cons, List.not_mem_nil, or_false] at hd
        rcases hd with rfl | rfl | rfl
        · exact ⟨_, u0⟩
        · exact ⟨_, u1⟩
        · exact ⟨_, u3⟩
      have its2 : ∀ d ∈ [t1, t2], ∃ b, m_due [d] = .ok (.bl b) := fun d hd => by
        simp only [List.mem_cons, List.not_mem_nil, or_false] at hd
        rcases hd with rfl | rfl
        · exact ⟨_, v1⟩
        · exact ⟨_, v2⟩
      have isb : ∀ z : Bool, isaD "bool" (.bl z) = true := fun _ => rfl
      simp only [evB_s, evB_z, evV_s, evV_z, evC_eq, R.bind_ok, consR_eq, nilR_eq, x5, x0, x1, g1, g2, g3, lstR, List.length_cons, List.length_nil, sizeLine, Nat.reduceAdd, Nat.reduceLeDiff, if_true, lstOnly_l]
      refine x_goes (fun ρ => ∃ e f, ρ = [Sl.v (.lst xs), .v (.int k), .v (.lst [.int c0, .int c1, .int c2, .int c3, .int c4, .int c5]), .v (.tup (mm.map D.int)), e, f]) (fun d hd ρ ⟨e, f, hρ⟩ => ?_) ⟨_, _, rfl⟩ (fun ρ ⟨e, f, hρ⟩ => ?_)
      · subst hρ
        obtain ⟨b, hb⟩ := its d hd
        simp [hb, nb, isb]
      · subst hρ
        simp only [evB_s, evB_z, evV_s, evV_z, evC_eq, R.bind_ok, consR_eq, nilR_eq, x4, f5, addR_ii, th, lstOnly_l]
        refine x_last (fun ρ => ∃ e f, ρ = [Sl.v (.lst xs), .v (.int k), .v (.lst [.int c0, .int c1, .int c2, .int c3, .int c4, .int c5]), .v (.tup (mm.map D.int)), e, f]) (fun d hd ρ ⟨e, f, hρ⟩ => ?_) ⟨_, _, rfl⟩ (fun ρ ⟨e, f, hρ⟩ => ⟨_, _, _, _, _, hρ⟩)
        subst hρ
        obtain ⟨b, hb⟩ := its2 d hd
        simp [hb, nb, isb]
    · cases h
end
end K71

set_option maxHeartbeats 4000000
namespace K71
open PySem L2 DL M
instance tabs0 : Tabs := ⟨[]⟩
theorem truth (ns : List Int) (h1 : ns.length ≤ 63) (h2 : ∀ x ∈ ns, Builtin.Int.intBits x ≤ 1048576) : m_law [.lst (ns.map D.int)] = .ok (.bl true) := by
  unfold m_law
  exact if_pos ⟨by simpa using h1, ints_of h2⟩
end K71
namespace K71
open PySem L2 DL M
theorem all_mk {l : PySem.W.OpenLaw} {w : World} {K : PySem.W.Frag} {h : Heap} {mg : Str → Option Value} {fa f12 : Addr} (X : K.In h) (G : h.Ns mainGlobals mg) (hfa : mg "law" = some (.ref fa))
    (g0 : Got K "is_whole" s_is_whole)
    (g1 : Got K "cross_of" s_cross_of)
    (g2 : Got K "product_of" s_product_of)
    (g3 : Got K "rows_in" s_rows_in)
    (g4 : Got K "stretch_of" s_stretch_of)
    (g5 : Got K "is_move" s_is_move)
    (g6 : Got K "_law_cell" s__law_cell)
    (g7 : Got K "_law_rows" s__law_rows)
    (g8 : Got K "_law_move" s__law_move)
    (g9 : Got K "_law_due" s__law_due)
    (g10 : Got K "_law_changed" s__law_changed)
    (g11 : Got K "_law_things" s__law_things)
    {od12 an12 : Option Addr} {sl12 : Array (Option Value)} {oc12 kV12 dc12 pm12 cd12 ct12 : Value}
    (a12 : PySem.W.nsIn K mainGlobals "law" = some (some (.ref f12))) (l12 : K.lookup f12 = some ⟨oc12, od12, .func (PySem.W.fnOf "law" "law" (defArgs s_law) (defBody s_law) (defScope s_law) .none kV12 dc12 pm12 an12 cd12 ct12), sl12⟩) (e12 : PySem.W.codeIn K cd12 "law" = true) (k12 : PySem.W.keepIn K (.ref f12) = true)
    (z_isinstance : PySem.W.nsIn K mainGlobals "isinstance" = some none)
    (z_bool : PySem.W.nsIn K mainGlobals "bool" = some none)
    (z_int : PySem.W.nsIn K mainGlobals "int" = some none)
    (z_len : PySem.W.nsIn K mainGlobals "len" = some none)
    (z_tuple : PySem.W.nsIn K mainGlobals "tuple" = some none)
    (z_abs : PySem.W.nsIn K mainGlobals "abs" = some none)
    (z_all : PySem.W.nsIn K mainGlobals "all" = some none)
    (z_range : PySem.W.nsIn K mainGlobals "range" = some none)
    (z_str : PySem.W.nsIn K mainGlobals "str" = some none)
    (z_list : PySem.W.nsIn K mainGlobals "list" = some none)
    (z_max : PySem.W.nsIn K mainGlobals "max" = some none)
    (z_min : PySem.W.nsIn K mainGlobals "min" = some none)
    (truth : ∀ ns : List Int, ns.length ≤ 63 → (∀ x ∈ ns, Builtin.Int.intBits x ≤ 1048576) → m_law [.lst (ns.map D.int)] = .ok (.bl true)) :
    ∃ fd : FuncData, (∀ (s : Shared) (v : Value), BindsTo s fd ⟨[v], []⟩ [("script", v)]) ∧ ∀ base : Heap, K.In base → base.Ns mainGlobals mg → FnOk l.prog w K mg base CX0 4 fa fd ["script"] (spLawD K) := by
  have e := hfa.symm.trans (PySem.W.mg_of X G a12)
  cases e
  have b_isinstance := PySem.W.mg_none_of X G z_isinstance
  have b_bool := PySem.W.mg_none_of X G z_bool
  have b_int := PySem.W.mg_none_of X G z_int
  have b_len := PySem.W.mg_none_of X G z_len
  have b_tuple := PySem.W.mg_none_of X G z_tuple
  have b_abs := PySem.W.mg_none_of X G z_abs
  have b_all := PySem.W.mg_none_of X G z_all
  have b_range := PySem.W.mg_none_of X G z_range
  have b_str := PySem.W.mg_none_of X G z_str
  have b_list := PySem.W.mg_none_of X G z_list
  have b_max := PySem.W.mg_none_of X G z_max
  have b_min := PySem.W.mg_none_of X G z_min
  refine ⟨PySem.W.fnOf "law" "law" (defArgs s_law) (defBody s_law) (defScope s_law) .none kV12 dc12 pm12 an12 cd12 ct12, fun s v => .of_eq rfl, fun base _ _ => ?_⟩
  have r_is_whole : Cal l.prog w K mg base 1 "is_whole" 1 m_law_whole := c_is_whole b_isinstance b_bool b_int (g0.def X G)
  have r_cross_of : Cal l.prog w K mg base 1 "cross_of" 2 m_cross_of := c_cross_of  (g1.def X G)
  have r_product_of : Cal l.prog w K mg base 1 "product_of" 2 m_product_of := c_product_of  (g2.def X G)
  have r_rows_in : Cal l.prog w K mg base 1 "rows_in" 1 m_rows_in := c_rows_in  (g3.def X G)
  have r_stretch_of := c_stretch_of r_product_of r_cross_of (g4.def X G)
  have r_is_move := c_is_move r_stretch_of r_rows_in r_is_whole b_len b_isinstance b_tuple b_abs b_all (g5.def X G)
  have r__law_cell : Cal l.prog w K mg base 1 "_law_cell" 2 m_law_cell := c__law_cell b_len (g6.def X G)
  have r__law_rows : Cal l.prog w K mg base 1 "_law_rows" 1 m_rows := c__law_rows b_range (g7.def X G)
  have r__law_move := c__law_move r__law_rows b_tuple (g8.def X G)
  have r__law_due : Cal l.prog w K mg base 1 "_law_due" 1 m_due := c__law_due b_len b_isinstance b_tuple b_bool b_int (g9.def X G)
  have r__law_changed : Cal l.prog w K mg base 1 "_law_changed" 2 m_changed := c__law_changed b_tuple (g10.def X G)
  have r__law_things : Cal l.prog w K mg base 1 "_law_things" 2 m_things := c__law_things b_tuple b_int b_str b_list (g11.def X G)
  exact law_of rfl (o_law r__law_cell r__law_move r__law_changed r_is_move r__law_due r__law_things b_range b_max b_min b_len b_isinstance b_bool (fun_mk (st := s_law) l12 e12 k12)) truth
end K71
open PySem PySem.W PyProof.Rows
set_option maxRecDepth 100000 in
set_option maxHeartbeats 0 in
theorem PySem.Challenge.cw_stakebodies_k71_what_is_a_move_holds : PySem.Challenge.rw_stakebodies_k71_what_is_a_move.Holds := by
  w_on; o_law; k_head; (case hw => w_witness2)
  k_fill
  refine DL.walk_D (l := PySem.Challenge.rw_stakebodies_k71_what_is_a_move) (k := 4) rfl rfl ⟨rfl, by decide, by decide⟩ (fun w h Y => PySem.W.kIn_of Y) ?F
  case F =>
    intro w mg fa h KX G hmg
    refine' K71.all_mk KX G hmg ?_ ?_ ?_ ?_ ?_ ?_ ?_ ?_ ?_ ?_ ?_ ?_ ?a12 ?l12 ?e12 ?k12 ?z_isinstance ?z_bool ?z_int ?z_len ?z_tuple ?z_abs ?z_all ?z_range ?z_str ?z_list ?z_max ?z_min K71.truth
    all_goals first | (refine' DL.got_mk ?a ?l ?c ?k; (case a => k_is); (case l => k_is); (case c => k_is); (case k => k_is)) | k_is | k_exc | kit_is | skip


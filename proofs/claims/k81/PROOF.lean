import PyProof.Rows.All
import Wide.All
import OpenK.AllK
import Wide.FinOn
import Lean
import PyProof.EqAt
import PyProof.EqKinds
import PyProof.TupleCall
import PyProof.NeKinds
import KE.RegKIsAll
import PyProof.ExcClass3
import KE.KIntText
import PyProof.StrBlockI
import PyProof.SliceStr
import OpenK.KOwn
import KE.KNestM
import PyProof.Rows.StrWeight2
import PyProof.Rows.StrNews
import PyProof.Rows.StrSplitAre
import PyProof.FactsAll.str_4
import PyProof.FactsAll.str_6
import PyProof.FactsAll.str_7
import PyProof.StrWalks
import KE.KIsAll
import PyProof.Rows.StrSplitMax
import PyProof.StrCalls6
import KE.IntText
import PyProof.StrLawsOcc
import KE.KDictOf
import PyProof.AttrMissHeap
import PyProof.Walks
import PyProof.FitsInt
import PySem.Challenge.RW_stakebodies_k81_points_read
set_option Elab.async false
set_option linter.all false
set_option backward.eqns.nonrecursive false
set_option maxRecDepth 100000
set_option maxHeartbeats 4000000
namespace G
structure V where
  x : Int
  y : Int
  z : Int
deriving DecidableEq
instance : Add V := ⟨fun u v => ⟨u.x + v.x, u.y + v.y, u.z + v.z⟩⟩
instance : Sub V := ⟨fun u v => ⟨u.x - v.x, u.y - v.y, u.z - v.z⟩⟩
instance : Neg V := ⟨fun u => ⟨-u.x, -u.y, -u.z⟩⟩
instance : HMul Int V V := ⟨fun k u => ⟨k * u.x, k * u.y, k * u.z⟩⟩
instance : OfNat V 0 := ⟨⟨0, 0, 0⟩⟩
@[simp] theorem add_x (u v : V) : (u + v).x = u.x + v.x := rfl
@[simp] theorem add_y (u v : V) : (u + v).y = u.y + v.y := rfl
@[simp] theorem add_z (u v : V) : (u + v).z = u.z + v.z := rfl
@[simp] theorem sub_x (u v : V) : (u - v).x = u.x - v.x := rfl
@[simp] theorem sub_y (u v : V) : (u - v).y = u.y - v.y := rfl
@[simp] theorem sub_z (u v : V) : (u - v).z = u.z - v.z := rfl
@[simp] theorem neg_x (u : V) : (-u).x = -u.x := rfl
@[simp] theorem neg_y (u : V) : (-u).y = -u.y := rfl
@[simp] theorem neg_z (u : V) : (-u).z = -u.z := rfl
@[simp] theorem mul_x (k : Int) (u : V) : (k * u).x = k * u.x := rfl
@[simp] theorem mul_y (k : Int) (u : V) : (k * u).y = k * u.y := rfl
@[simp] theorem mul_z (k : Int) (u : V) : (k * u).z = k * u.z := rfl
@[simp] theorem zero_x : (0 : V).x = 0 := rfl
@[simp] theorem zero_y : (0 : V).y = 0 := rfl
@[simp] theorem zero_z : (0 : V).z = 0 := rfl
def cr (u v : V) : V := ⟨u.y * v.z - u.z * v.y, u.z * v.x - u.x * v.z, u.x * v.y - u.y * v.x⟩
@[simp] theorem cr_x (u v : V) : (cr u v).x = u.y * v.z - u.z * v.y := rfl
@[simp] theorem cr_y (u v : V) : (cr u v).y = u.z * v.x - u.x * v.z := rfl
@[simp] theorem cr_z (u v : V) : (cr u v).z = u.x * v.y - u.y * v.x := rfl
end G

namespace L2
open PySem PySem.Spec PyProof.Rows

abbrev Key := Sum Int Str
def keyIs : Key → Value → Bool
  | .inl k, v => Value.isInt k v
  | .inr x, v => Value.isStrOf x v
def keyH (w : World) : Key → Int
  | .inl k => hashInt k
  | .inr x => hashStr w x
theorem keyIs_shape : ∀ {k : Key} {v : Value}, keyIs k v = true → (∃ i t, k = Sum.inl i ∧ v = Value.int i t) ∨ (∃ x t, k = Sum.inr x ∧ v = Value.str x t)
  | .inl i, v, h => by
    obtain ⟨t, e⟩ := Value.isInt_shape (v := v) h
    exact .inl ⟨i, t, rfl, e⟩
  | .inr x, v, h => by
    obtain ⟨t, e⟩ := Value.isStrOf_shape (v := v) h
    exact .inr ⟨x, t, rfl, e⟩
theorem key_ll (a b : Int) : decide ((Sum.inl a : Key) = Sum.inl b) = (a == b) := by
  grind
theorem key_rr (a b : Str) : decide ((Sum.inr a : Key) = Sum.inr b) = decide (a = b) := by
  grind
theorem key_lr (a : Int) (b : Str) : decide ((Sum.inl a : Key) = Sum.inr b) = false := by lia
theorem key_rl (a : Str) (b : Int) : decide ((Sum.inr a : Key) = Sum.inl b) = false := by lia

def mixKind (prog : Program) (w : World) : PySem.KeyKind prog w Key where
  is := keyIs
  hash := keyH w
  inj := fun v a b ha hb => by
    rcases keyIs_shape ha with ⟨i, t, rfl, rfl⟩ | ⟨x, t, rfl, rfl⟩
    · rcases keyIs_shape hb with ⟨j, u, rfl, e⟩ | ⟨y, u, rfl, e⟩
      · injection e with e1 _; rw [e1]
      · exact nomatch e
    · rcases keyIs_shape hb with ⟨j, u, rfl, e⟩ | ⟨y, u, rfl, e⟩
      · exact nomatch e
      · injection e with e1 _; rw [e1]
  byValue := fun k v h => by
    rcases keyIs_shape h with ⟨i, t, rfl, rfl⟩ | ⟨x, t, rfl, rfl⟩ <;> rfl
  pyHash := fun hv h => by
    rcases keyIs_shape hv with ⟨i, t, rfl, rfl⟩ | ⟨x, t, rfl, rfl⟩
    · exact wpAny_pyHash_int h
    · exact wpAny_pyHash_str h
  eqBool := fun hu hv h => by
    rcases keyIs_shape hu with ⟨i, t, rfl, rfl⟩ | ⟨x, t, rfl, rfl⟩
    · rcases keyIs_shape hv with ⟨j, u, rfl, rfl⟩ | ⟨y, u, rfl, rfl⟩
      · rw [key_ll] at h; exact wpAny_eqBool_int h
      · rw [key_lr] at h; exact SeqAt.EqAt.int_str i t y u _ _ _ _ h
    · rcases keyIs_shape hv with ⟨j, u, rfl, rfl⟩ | ⟨y, u, rfl, rfl⟩
      · rw [key_rl] at h; exact SeqAt.EqAt.str_int x t j u _ _ _ _ h
      · rw [key_rr] at h; exact wpAny_eqBool_str h
  «strs» := fun k x t v h => by
    rcases keyIs_shape h with ⟨i, u, rfl, e⟩ | ⟨y, u, rfl, e⟩
    · exact nomatch e
    · injection e with e1 _
      subst e1
      cases v <;> rfl

end L2

namespace L2
open PySem PySem.Spec PyProof.Rows

inductive V where
  | non | bl (b : Bool) | int (i : Int) | str (x : Str) | byt (b : Array UInt8) | flt (b : UInt64) | ref (a : Addr) | ty (n : String)
  deriving DecidableEq

def RelV : V → Value → Prop
  | .non, u => u = Value.none
  | .bl b, u => u = Value.bool b
  | .int i, u => ∃ t, u = Value.int i t
  | .str x, u => ∃ t, u = Value.str x t
  | .byt b, u => ∃ t, u = Value.bytes b t
  | .flt b, u => ∃ t, u = Value.float b t
  | .ref a, u => u = Value.ref a
  | .ty n, u => u = Value.type n

abbrev Vals : List V → List Value → Prop := Paired RelV
theorem Vals.length {xs : List V} {us : List Value} (r : Vals xs us) : xs.length = us.length := Paired.length r
theorem Vals.get : ∀ {xs : List V} {us : List Value} {i : Nat} {x : V}, Vals xs us → xs[i]? = some x → ∃ u, us[i]? = some u ∧ RelV x u := by
  intro _ _ z1 x z2 e
  cases z2 with
  | nil => simp at e
  | cons r t =>
    cases z1 with
    | zero => simp_all
    | succ i =>
      obtain ⟨u, h1, h2⟩ := Vals.get t (by simpa using e)
      exact ⟨u, by simpa using h1, h2⟩
theorem Vals.append : ∀ {xs ys : List V} {us ws : List Value}, Vals xs us → Vals ys ws → Vals (xs ++ ys) (us ++ ws) := by
  intro _ _ _ _ z1 s
  cases z1 with
  | nil => exact s
  | cons r t => exact .cons r (Vals.append t s)
theorem Vals.take : ∀ {xs : List V} {us : List Value} (n : Nat), Vals xs us → Vals (xs.take n) (us.take n) := by
  intro _ _ z1 z2
  cases z1 with
  | zero => exact .nil
  | succ n =>
    cases z2 with
    | nil => exact .nil
    | cons r t => exact .cons r (Vals.take n t)
theorem Vals.drop : ∀ {xs : List V} {us : List Value} (n : Nat), Vals xs us → Vals (xs.drop n) (us.drop n)
  | _, _, 0, r => r
  | _, _, _ + 1, .nil => .nil
  | _, _, n + 1, .cons _ t => Vals.drop n t
def RelO : Option V → Option Value → Prop
  | some v, some u => RelV v u
  | none, none => True
  | _, _ => False
def KV {κ : Type} : List (κ × V) → List (κ × Value) → Prop := Paired fun (p : κ × V) (q : κ × Value) => p.1 = q.1 ∧ RelV p.2 q.2

def kV : Key → V
  | .inl i => .int i
  | .inr x => .str x

inductive HO where
  /-- a list -/
  | lst (xs : List V)
  /-- a tuple (never changes) -/
  | tup (xs : List V)
  /-- a dict whose keys are ints and texts; one whose keys are tuples of ints and texts (the empty one is both) -/
  | dK (kvs : List (Key × V)) | dT (kvs : List (List Key × V))
  /-- a set of ints: its members, its size -/
  | set (S : Int → Bool) (n : Nat)
  /-- an instance of the class at C, its dict at dx, its attributes -/
  | ins (C dx : Addr) (fs : List (Str × V))
  /-- the dict of the instance at x -/
  | own (x : Addr)
  /-- the dict of an exception -/
  | xd (fs : List (Str × V))
  /-- a bound method, f of x -/
  | met (f x : Addr)
  /-- a range object lo, lo + 1, .. below hi -/
  | rng (lo hi : Int)
  /-- a thing that is known to the object (the script; a dict while a loop walks it): read, never written while it is so -/
  | frz (o : Obj) (u : HO)
  /-- a code object's table -/
  | tbl (tb : List (Pos × Str))
  /-- any other thing, by what is true of its one object (a def of one's own: SetO a S n := HO.ext fun h => ..) -/
  | ext (φ : Heap → Prop)

abbrev Hp := Addr → Option HO
def upd (H : Hp) (a : Addr) (o : HO) : Hp := fun b => if b = a then some o else H b
theorem upd_same : upd H a o a = some o := by unfold upd; rw [if_pos rfl]
theorem upd_ne (h : b ≠ a) : upd H a o b = H b := by unfold upd; rw [if_neg h]
theorem ne_of_none {H : Hp} {a b : Addr} {o : HO} (h : H a = some o) (h' : H b = none) : a ≠ b := by lia

section
variable (P : Program) (w : World)
def ObjOk (H : Hp) (h : Heap) (a : Addr) : HO → Prop
  | .lst xs => xs.length ≤ sizeLine ∧ ∃ (its : List Value) (n : Nat), Vals xs its ∧ h.get? a = some { cls := .type "list", data := .seq its.toArray n }
  | .tup xs => xs.length ≤ sizeLine ∧ ∃ its : List Value, Vals xs its ∧ IsTup h a its.toArray
  | .dK kvs => kvs.length ≤ sizeLine ∧ (a == sysModules) = false ∧ ∃ vs, KV kvs vs ∧ h.DictOf (mixKind P w) a vs
  | .dT kvs => kvs.length ≤ sizeLine ∧ (a == sysModules) = false ∧ ∃ xs : List (List Key × Addr × Value),
      Paired (fun (p : List Key × V) (q : List Key × Addr × Value) => p.1 = q.1 ∧ H q.2.1 = some (.tup (p.1.map kV)) ∧ RelV p.2 q.2.2) kvs xs ∧
      ∃ o es ep, h.get? a = some o ∧ o.ExactDict ∧ o.data = .dict es ep ∧ es.toList = xs.map (entryOfKey (tupleKind (mixKind P w))) ∧ (xs.map (·.1)).Nodup
  | .set S n => h.SetOf (intKind P w) a S n
  | .ins C dx fs => H dx = some (.own a) ∧ fs.length ≤ 1000 ∧ dx ≠ a ∧ h.get? a = some (PySem.W.instObj C dx) ∧
      ∃ mA, h.Ns1 dx mA ∧ (∀ f, RelO (fs.lookup f) (mA f)) ∧ PySem.Within mA (fs.map (·.1))
  | .own _ => ∃ o, h.get? a = some o
  | .xd fs => ∃ mA, h.Ns1 a mA ∧ ∀ f, RelO (fs.lookup f) (mA f)
  | .rng lo hi => ∃ t u v, h.get? a = some { cls := .type "range", data := .fields #[.int lo t, .int hi u, .int 1 v] }
  | .frz o u => h.get? a = some o ∧ ObjOk H h a u
  | .tbl tb => ∃ ps : Array Value, h.get? a = some { cls := .none, data := .fields ps } ∧ TriplesOk ps.toList ∧ ∀ p ∈ tb, codeAmong p.1 ps.toList = none ∨ ∃ c oc vs t, codeAmong p.1 ps.toList = some (.ref c) ∧ H c = some (.frz oc (.own c)) ∧ oc.data = .fields vs ∧ vs[1]? = some (.str p.2 t)
  | .met f x => h.get? a = some (PySem.W.methodObj (.ref f) (.ref x))
  | .ext φ => φ h ∧ (∃ o, h.get? a = some o) ∧ ∀ h1 h2 : Heap, φ h1 → (∀ o, h1.get? a = some o → h2.get? a = some o) → φ h2
def Fixed : HO → Prop
  | .tup _ => True
  | .frz o _ => ∃ vs, o.data = .fields vs
  | _ => False
def HOk (H : Hp) (h : Heap) : Prop := ∀ a o, H a = some o → ObjOk P w H h a o
end

section
variable {P : Program} {w : World} {H H' : Hp} {h h' : Heap} {a : Addr} {o : HO}
theorem ObjOk.lt (x : ObjOk P w H h a o) : a < h.objs.size := by
  cases o with
  | lst xs => obtain ⟨_, _, _, _, e⟩ := x; exact Heap.lt_size e
  | tup xs => obtain ⟨_, _, _, p⟩ := x; exact p.lt
  | dK kvs => obtain ⟨_, _, _, _, o, _, _, e, _⟩ := x; exact Heap.lt_size e
  | dT kvs => obtain ⟨_, _, _, _, o, _, _, e, _⟩ := x; exact Heap.lt_size e
  | set S n => obtain ⟨o, _, _, _, e, _⟩ := x; exact Heap.lt_size e
  | ins C dx fs => obtain ⟨_, _, _, e, _⟩ := x; exact Heap.lt_size e
  | own y => obtain ⟨_, e⟩ := x; exact Heap.lt_size e
  | xd fs => obtain ⟨_, ⟨_, _, _, e, _⟩, _⟩ := x; exact Heap.lt_size e
  | rng lo hi => obtain ⟨_, _, _, e⟩ := x; exact Heap.lt_size e
  | frz ob u => obtain ⟨e, _⟩ := x; exact Heap.lt_size e
  | tbl tb => obtain ⟨_, e, _⟩ := x; exact Heap.lt_size e
  | met f y => exact Heap.lt_size (x)
  | ext φ => obtain ⟨_, ⟨_, e⟩, _⟩ := x; exact Heap.lt_size e
theorem Paired.mapP {α β : Type} {F G : α → β → Prop} : ∀ {l₁ : List α} {l₂ : List β}, Paired F l₁ l₂ → (∀ a b, F a b → G a b) → Paired G l₁ l₂ := by
  intro _ _ z1 f
  cases z1 with
  | nil => exact .nil
  | cons r t => exact .cons (f _ _ r) (Paired.mapP t f)
theorem ObjOk.stay (x : ObjOk P w H h a o) (k : ∀ b u, (b = a ∨ H b = some (.own a)) → h.get? b = some u → h'.get? b = some u)
    (ho : ∀ b, H b = some (.own a) → H' b = some (.own a)) (ht : ∀ b u, Fixed u → H b = some u → H' b = some u) : ObjOk P w H' h' a o := by
  induction o with
  | lst xs => obtain ⟨z, its, n, r, e⟩ := x; exact ⟨z, its, n, r, k _ _ (.inl rfl) e⟩
  | tup xs => obtain ⟨z, its, r, ob, e, c⟩ := x; exact ⟨z, its, r, ob, k _ _ (.inl rfl) e, c⟩
  | dK kvs => obtain ⟨z, y, vs, r, ob, es, ep, e, c⟩ := x; exact ⟨z, y, vs, r, ob, es, ep, k _ _ (.inl rfl) e, c⟩
  | dT kvs =>
    obtain ⟨z, y, xs, r, ob, es, ep, e, c⟩ := x
    exact ⟨z, y, xs, Paired.mapP r fun p q z => ⟨z.1, ht _ _ trivial z.2.1, z.2.2⟩, ob, es, ep, k _ _ (.inl rfl) e, c⟩
  | set S n => obtain ⟨ob, es, ep, t, e, c⟩ := x; exact ⟨ob, es, ep, t, k _ _ (.inl rfl) e, c⟩
  | ins C dx fs =>
    obtain ⟨d, z, ne, e, mA, ⟨od, es, ep, e2, c⟩, r⟩ := x
    exact ⟨ho _ d, z, ne, k _ _ (.inl rfl) e, mA, ⟨od, es, ep, k _ _ (.inr d) e2, c⟩, r⟩
  | own y => obtain ⟨ob, e⟩ := x; exact ⟨ob, k _ _ (.inl rfl) e⟩
  | xd fs => obtain ⟨mA, ⟨od, es, ep, e, c⟩, r⟩ := x; exact ⟨mA, ⟨od, es, ep, k _ _ (.inl rfl) e, c⟩, r⟩
  | rng lo hi => obtain ⟨t, u, v, e⟩ := x; exact ⟨t, u, v, k _ _ (.inl rfl) e⟩
  | frz ob u ih => obtain ⟨e, q⟩ := x; exact ⟨k _ _ (.inl rfl) e, ih q⟩
  | tbl tb =>
    obtain ⟨ps, e, t, f⟩ := x
    exact ⟨ps, k a _ (.inl rfl) e, t, fun p hp => (f p hp).imp id fun ⟨c, oc, vs, t, e1, e2, e3⟩ => ⟨c, oc, vs, t, e1, ht _ _ ⟨vs, e3.1⟩ e2, e3⟩⟩
  | met f y =>
    have e := x
    show h'.get? a = some (PySem.W.methodObj (.ref f) (.ref y))
    exact k a _ (.inl rfl) e
  | ext φ => obtain ⟨p, ⟨o, e⟩, st⟩ := x; exact ⟨st _ _ p fun o q => k _ _ (.inl rfl) q, ⟨o, k _ _ (.inl rfl) e⟩, st⟩
theorem HOk.lt (x : HOk P w H h) (e : H a = some o) : a < h.objs.size := (x a o e).lt
theorem HOk.fresh (x : HOk P w H h) (e : h.objs.size ≤ a) : H a = none := by
  cases q : H a with
  | none => rfl
  | some u => exact absurd (Nat.lt_of_lt_of_le (x.lt q) e) (Nat.lt_irrefl _)
theorem HOk.kept (x : HOk P w H h) (k : ∀ b u, h.get? b = some u → h'.get? b = some u) : HOk P w H h' := fun a o e =>
  (x a o e).stay (fun b u _ q => k b u q) (fun _ q => q) fun _ _ _ q => q
theorem HOk.laid (x : HOk P w H h) (k : ∀ b u, h.get? b = some u → h'.get? b = some u) (hp : h.objs.size ≤ a) (new : ObjOk P w (upd H a o) h' a o) : HOk P w (upd H a o) h' := fun b u e => by
  have hn := x.fresh hp
  by_cases hb : b = a
  · subst hb; rw [upd_same] at e; cases e; exact new
  · rw [upd_ne hb] at e
    exact (x b u e).stay (fun c v _ q => k c v q) (fun c q => by rw [upd_ne (ne_of_none q hn)]; exact q) fun c xs _ q => by rw [upd_ne (ne_of_none q hn)]; exact q
end

def Rd (H : Hp) (a : Addr) (u : HO) : Prop := H a = some u ∨ ∃ o, H a = some (.frz o u)
theorem Rd.ok (r : Rd H a u) (x : HOk P w H h) : ObjOk P w H h a u := by
  rcases r with r | ⟨o, r⟩
  · exact x a u r
  · obtain ⟨_, q⟩ := x a _ r
    exact q
def Mut : Option HO → Prop
  | some (.lst _) => True
  | some (.dK _) => True
  | some (.dT _) => True
  | some (.set _ _) => True
  | some (.ins _ _ _) => True
  | some (.ext _) => True
  | _ => False
section
variable {P : Program} {w : World} {H : Hp} {h h' : Heap} {x e : Addr} {o' : HO}
theorem HOk.write (ok : HOk P w H h) (mu : Mut (H x)) (he : e = x ∨ H e = some (.own x)) (k : ∀ b u, b ≠ e → h.get? b = some u → h'.get? b = some u) (heo : ∃ u, h'.get? e = some u)
    (new : ObjOk P w (upd H x o') h' x o') : HOk P w (upd H x o') h' := fun b u q => by
  have nown : ∀ c y, H c = some (.own y) → c ≠ x := fun c y r z => by subst z; rw [r] at mu; exact mu
  have ntup : ∀ c u, Fixed u → H c = some u → c ≠ x := fun c u f r z => by subst z; rw [r] at mu; cases u <;> first | exact mu | exact f
  by_cases hb : b = x
  · subst hb; rw [upd_same] at q; cases q; exact new
  · rw [upd_ne hb] at q
    by_cases hbe : b = e
    · have q' : H b = some (.own x) := by
        lia
      rw [q] at q'; cases q'
      obtain ⟨v, hv⟩ := heo
      exact ⟨v, by rw [hbe]; exact hv⟩
    · refine (ok b u q).stay (fun c v hc r => k c v ?_ r) (fun c r => by rw [upd_ne (nown c b r)]; exact r) fun c xs f r => by rw [upd_ne (ntup c xs f r)]; exact r
      grind
end

structure Un (fs ex : List Addr) (H H' : Hp) (h h' : Heap) : Prop where
  keep : ∀ b o, h.get? b = some o → H b = none → b ∉ fs → b ∉ ex → h'.get? b = some o
  slot : ∀ b o, h.get? b = some o → H b = none → b ∈ fs → b ∉ ex → ∃ sl, h'.get? b = some { o with slots := sl }
  free : ∀ b o, h.get? b = some o → H b = none → b ∉ ex → H' b = none
  there : ∀ b o, h.get? b = some o → b ∉ ex → ∃ o', h'.get? b = some o'
  tups : ∀ b xs, H b = some (.tup xs) → H' b = some (.tup xs)
  frzs : ∀ b o u, H b = some (.frz o u) → H' b = some (.frz o u)
  tbls : ∀ b tb, H b = some (.tbl tb) → H' b = some (.tbl tb)
section
variable {fs fs' ex ex' : List Addr} {H H1 H2 : Hp} {h h1 h2 h' : Heap} {a x e : Addr} {o : HO}
theorem Un.any (u : Un fs ex H H1 h h1) (q : h.get? b = some ob) (n : H b = none) (hx : b ∉ ex) : ∃ sl, h1.get? b = some { ob with slots := sl } := by
  by_cases hb : b ∈ fs
  · exact u.slot b ob q n hb hx
  · exact ⟨ob.slots, u.keep b ob q n hb hx⟩
theorem Un.kept (k : ∀ b u, h.get? b = some u → h'.get? b = some u) : Un fs ex H H h h' :=
  ⟨fun b ob q _ _ _ => k b ob q, fun b ob q _ _ _ => ⟨ob.slots, k b ob q⟩, fun _ _ _ n _ => n, fun b ob q _ => ⟨ob, k b ob q⟩, fun _ _ q => q, fun _ _ _ q => q, fun _ _ q => q⟩
theorem Un.refl : Un fs ex H H h h := Un.kept fun _ _ q => q
theorem Un.laid (k : ∀ b u, h.get? b = some u → h'.get? b = some u) (hp : h.objs.size ≤ a) (hn : H a = none) : Un fs ex H (upd H a o) h h' where
  keep := fun b u q _ _ _ => k b u q
  slot := fun b u q _ _ _ => ⟨u.slots, k b u q⟩
  free := fun b u q n _ => by rw [upd_ne (Nat.ne_of_lt (Nat.lt_of_lt_of_le (Heap.lt_size q) hp))]; exact n
  there := fun b u q _ => ⟨u, k b u q⟩
  tups := fun b xs q => by rw [upd_ne (ne_of_none q hn)]; exact q
  frzs := fun b u xs q => by rw [upd_ne (ne_of_none q hn)]; exact q
  tbls := fun b ps q => by rw [upd_ne (ne_of_none q hn)]; exact q
theorem Un.write (mu : Mut (H x)) (he : e = x ∨ H e = some (.own x)) (k : ∀ b u, b ≠ e → h.get? b = some u → h'.get? b = some u) (heo : ∃ u, h'.get? e = some u) : Un fs ex H (upd H x o) h h' := by
  have hx : ∀ b, H b = none → b ≠ x := fun b n z => by subst z; rw [n] at mu; exact mu
  have hb : ∀ b, H b = none → b ≠ e := fun b n z => by
    subst z
    simp_all
  have hm : ∀ b u, H b = some u → ¬ Mut (some u) → b ≠ x := fun b u q nm z => by subst z; rw [q] at mu; exact nm mu
  refine ⟨fun b u q n _ _ => k b u (hb b n) q, fun b u q n _ _ => ⟨u.slots, k b u (hb b n) q⟩, fun b u q n _ => by rw [upd_ne (hx b n)]; exact n, fun b u q _ => ?_,
    fun b xs q => by rw [upd_ne (hm b _ q fun z => z)]; exact q, fun b u xs q => by rw [upd_ne (hm b _ q fun z => z)]; exact q, fun b ps q => by rw [upd_ne (hm b _ q fun z => z)]; exact q⟩
  by_cases hbe : b = e
  · simp_all
  · exact ⟨u, k b u hbe q⟩
end

def trk (h : Heap) (H : Hp) : List Addr := (List.range h.objs.size).filter fun a => (H a).isSome
def hidT (h : Heap) (H : Hp) : Heap := PySem.W.hideAll h (trk h H)
theorem hidT_size (h : Heap) (H : Hp) : (hidT h H).objs.size = h.objs.size := PySem.W.hideAll_size _ _
theorem hidT_get (e : h.get? b = some o) (n : H b = none) : (hidT h H).get? b = some o :=
  PySem.W.hideAll_get _ e fun hm => by
    have q : (H b).isSome = true := (List.mem_filter.mp hm).2
    rw [n] at q; simp at q
theorem of_hidT (e : (hidT h H).get? b = some o) : h.get? b = some o ∧ H b = none := by
  have e' : h.get? b = some o := PySem.W.of_hideAll (trk h H) e
  refine ⟨e', ?_⟩
  cases q : H b with
  | none => rfl
  | some x =>
    have hm : b ∈ trk h H := List.mem_filter.mpr ⟨List.mem_range.mpr (Heap.lt_size e'), by simp [q]⟩
    have z : (hidT h H).get? b = none := PySem.W.hideAll_none (trk h H) hm
    rw [z] at e; cases e

def allNews (g h : Heap) (L : Addr) : List (Addr × Obj) := (List.range h.objs.size).filterMap fun a => if a = L ∨ (g.get? a).isSome = true then none else (h.get? a).map fun o => (a, o)
def rest (g h : Heap) (L d : Addr) : List (Addr × Obj) := (allNews g h L).filter fun p => decide (p.1 ≠ d)
end L2

namespace L2
open PySem PySem.Spec PyProof.Rows

structure Mod (K : PySem.W.Frag) (mg : Str → Option Value) (base : Heap) : Prop where
  kin : K.In base
  glob : base.Ns mainGlobals mg
  blt : ∃ mb, base.Ns builtinsNs mb ∧ ∀ x : Str, x ≠ "__name__" → mb x = bootBuiltins x
  nolimit : base.NoLimit

structure Cx where
  prog : Program
  w : World
  K : PySem.W.Frag
  mg : Str → Option Value
  base : Heap
  A : Around
  N : List Str
  s₀ : Shared
  H₀ : Hp
  env : Env
  outer : List Env
  stack : List Env
  ex : List Addr
  fn : Str → Bool
  calm : Bool
  pn : List (Addr × Obj)
  xe : Value → Shared → Prop
def frs (l : List Env) : List Addr := l.filterMap (·.frame)
abbrev Cx.fs (X : Cx) : List Addr := frs X.outer

def Vis (sc : Scope) (x : Str) : Prop := sc.names.lookup x = some .local ∨ sc.names.lookup x = some .cell ∨ sc.names.lookup x = some .free
def Loc (sc : Scope) (x : Str) : Prop := sc.names.lookup x = some .local ∨ sc.names.lookup x = some .cell
def Look (env : Env) (h : Heap) (m : Str → Option Value) (x : Str) (u : Value) : Prop :=
  (env.kindOf x = some .local ∧ m x = some u) ∨ ((env.kindOf x = some .cell ∨ env.kindOf x = some .free) ∧ ∃ c, env.cells.lookup x = some c ∧ h.IsCell c (some u))

structure Cx.Ok (X : Cx) : Prop where
  mod : Mod X.K X.mg X.base
  kind : X.env.scope.kind = .function
  glob : X.env.globals = mainGlobals
  blt : X.env.builtins = builtinsNs
  above : X.s₀.heap.objs.size ≤ X.env.locals
  inj : ∀ x y c, X.env.cells.lookup x = some c → X.env.cells.lookup y = some c → x = y
  has : ∀ x, (X.env.kindOf x = some .cell ∨ X.env.kindOf x = some .free) → ∃ c, X.env.cells.lookup x = some c
  cab : ∀ x c, X.fn x = true → X.env.cells.lookup x = some c → X.s₀.heap.objs.size ≤ c
  hd : X.calm = true → X.A.handled = none
  frames : X.A.frames = some X.stack
  stk : X.stack = X.outer ∨ (X.stack = X.env :: X.outer ∧ X.env.frame = some X.env.locals)
  exf : ∀ b ∈ X.ex, b ≠ X.env.locals ∧ ∀ x c, X.env.cells.lookup x = some c → c ≠ b
  bs : ∀ b o, X.base.get? b = some o → X.s₀.heap.get? b = some o ∧ X.H₀ b = none
  bsz : X.base.objs.size ≤ X.s₀.heap.objs.size
  noex : ∀ b o, X.base.get? b = some o → b ∉ X.ex
  exfs : ∀ b ∈ X.ex, b ∉ X.fs
  funs : X.s₀.heap.FunFrames X.base X.outer
  frf : ∀ b ∈ X.fs, X.H₀ b = none

structure Inv (X : Cx) (pins : List (Addr × Obj)) (σ : List (Option V)) (H : Hp) (s : Shared) : Prop where
  ok : X.Ok
  os : s.os = X.s₀.os
  bare : AllBare s.gens
  base : Un X.fs X.ex X.H₀ H X.s₀.heap s.heap
  loc : ∃ m, s.heap.Ns X.env.locals m ∧ ∀ (i : Nat) (x : Str) (v : V), X.N[i]? = some x → σ[i]? = some (some v) → Vis X.env.scope x → ∃ u, RelV v u ∧ Look X.env s.heap m x u
  cell : ∀ x c, X.env.cells.lookup x = some c → ∃ v, s.heap.IsCell c v
  free : H X.env.locals = none
  freeC : ∀ x c, X.env.cells.lookup x = some c → H c = none
  pin : ∀ p ∈ X.pn ++ pins, s.heap.get? p.1 = some p.2 ∧ H p.1 = none ∧ p.1 ≠ X.env.locals ∧ p.1 ∉ X.fs ∧ ∀ v, p.2.data ≠ .cell v
  hok : HOk X.prog X.w H s.heap
  len : σ.length = X.N.length

section
variable {X : Cx} {pins : List (Addr × Obj)} {σ : List (Option V)} {H H' : Hp} {s : Shared} {h' : Heap}

theorem Cx.Ok.nofr (ok : X.Ok) (e : X.base.get? b = some o) : b ∉ X.fs := fun hb => by
  have := (ok.funs.mem hb).1
  lia
theorem Inv.bs (I : Inv X pins σ H s) : ∀ b o, X.base.get? b = some o → s.heap.get? b = some o ∧ H b = none := fun b o e =>
  ⟨I.base.keep b o (I.ok.bs b o e).1 (I.ok.bs b o e).2 (I.ok.nofr e) (I.ok.noex b o e), I.base.free b o (I.ok.bs b o e).1 (I.ok.bs b o e).2 (I.ok.noex b o e)⟩
theorem Inv.bk (I : Inv X pins σ H s) : ∀ b o, X.base.get? b = some o → s.heap.get? b = some o := fun b o e => (I.bs b o e).1
theorem Inv.mod (I : Inv X pins σ H s) : Mod X.K X.mg X.base := I.ok.mod
theorem Inv.kIn (I : Inv X pins σ H s) : X.K.In s.heap := I.ok.mod.kin.keeps I.bk
theorem Inv.lt (I : Inv X pins σ H s) : X.env.locals < s.heap.objs.size := let ⟨_, hn, _⟩ := I.loc; hn.lt
theorem Inv.sz (I : Inv X pins σ H s) : X.s₀.heap.objs.size ≤ s.heap.objs.size := Nat.le_trans I.ok.above (Nat.le_of_lt I.lt)
theorem Inv.nofs (I : Inv X pins σ H s) (h : s.heap.objs.size ≤ a) : a ∉ X.fs := fun hb => by
  obtain ⟨_, o, ho, _⟩ := I.ok.funs.mem hb
  exact absurd (Nat.lt_of_lt_of_le (Heap.lt_size ho) (Nat.le_trans I.sz h)) (Nat.lt_irrefl _)
theorem Inv.cne (I : Inv X pins σ H s) : ∀ x c, X.env.cells.lookup x = some c → c ≠ X.env.locals := fun x c e z => by
  obtain ⟨v, o, ho, hd⟩ := I.cell x c e
  obtain ⟨m, ⟨o', es, ep, ho', hd', _⟩, _⟩ := I.loc
  lia
theorem Inv.funs (I : Inv X pins σ H s) : s.heap.FunFrames X.base X.outer := by
  have all : ∀ (l : List Env), (∀ b ∈ frs l, b ∈ X.fs) → X.s₀.heap.FunFrames X.base l → s.heap.FunFrames X.base l := by
    intro l
    induction l with
    | nil => intro _ _; trivial
    | cons env r ih =>
      intro hs hl
      obtain ⟨hk, ⟨L, o, hf, hn, ho, hd⟩, hr⟩ := hl
      have hL := hs L (by unfold frs; rw [List.filterMap_cons, hf]; exact List.mem_cons_self)
      obtain ⟨sl, e⟩ := I.base.slot L o ho (I.ok.frf L hL) hL fun z => I.ok.exfs L z hL
      exact ⟨hk, ⟨L, _, hf, hn, e, hd⟩, ih (fun b hb => hs b (by unfold frs; rw [List.filterMap_cons, hf]; exact List.mem_cons_of_mem _ hb)) hr⟩
  exact all X.outer (fun _ hb => hb) I.ok.funs

theorem Inv.stack (I : Inv X pins σ H s) : s.heap.FunFrames X.base X.stack := by
  rcases I.ok.stk with e | ⟨e, hf⟩
  · rw [e]; exact I.funs
  · rw [e]
    obtain ⟨m, hn, _⟩ := I.loc
    exact .cons (by rw [I.ok.kind]; decide) hf hn (Heap.get?_none_of_le (Nat.le_trans I.ok.bsz I.ok.above)) I.funs
theorem Inv.stkSub (I : Inv X pins σ H s) : ∀ b ∈ frs X.stack, b ∈ X.env.locals :: X.fs := fun b hb => by
  rcases I.ok.stk with e | ⟨e, hf⟩
  · rw [e] at hb; exact List.mem_cons_of_mem _ hb
  · rw [e] at hb
    unfold frs at hb
    rw [List.filterMap_cons, hf] at hb
    exact hb
theorem Inv.stkFree (I : Inv X pins σ H s) : ∀ b ∈ frs X.stack, H b = none := fun b hb => by
  rcases List.mem_cons.mp (I.stkSub b hb) with e | hb
  · rw [e]; exact I.free
  · obtain ⟨_, o, ho, _⟩ := I.ok.funs.mem hb
    exact I.base.free b o ho (I.ok.frf b hb) fun z => I.ok.exfs b z hb

theorem Inv.step {g' : Array GenState} {t' : Nat} {d' : Drawn} {ch : List Addr} (I : Inv X pins σ H s)
    (hch : ∀ b ∈ ch, (b ∈ X.ex ∨ X.s₀.heap.objs.size ≤ b) ∧ b ≠ X.env.locals ∧ (∀ x c, X.env.cells.lookup x = some c → c ≠ b) ∧ ∀ p ∈ X.pn ++ pins, p.1 ≠ b)
    (keep : ∀ b o, b ≠ X.env.locals → b ∉ X.fs → b ∉ ch → s.heap.get? b = some o → H b = none → h'.get? b = some o)
    (slot : ∀ b o, b ≠ X.env.locals → b ∈ X.fs → b ∉ ch → s.heap.get? b = some o → H b = none → ∃ sl, h'.get? b = some { o with slots := sl }) (free : ∀ b o, b ∉ ch → s.heap.get? b = some o → H b = none → H' b = none)
    (there : ∀ b o, b ∉ ch → s.heap.get? b = some o → ∃ o', h'.get? b = some o')
    (tups : ∀ b xs, H b = some (.tup xs) → H' b = some (.tup xs)) (frzs : ∀ b o u, H b = some (.frz o u) → H' b = some (.frz o u)) (tbls : ∀ b tb, H b = some (.tbl tb) → H' b = some (.tbl tb))
    (ns : ∀ m, s.heap.Ns X.env.locals m → h'.Ns X.env.locals m) (hok : HOk X.prog X.w H' h') (hg : AllBare g') :
    Inv X pins σ H' { s with heap := h', gens := g', drawn := d', toks := t' } := by
  have neL : ∀ b o, X.s₀.heap.get? b = some o → b ≠ X.env.locals := fun b o e => Nat.ne_of_lt (Nat.lt_of_lt_of_le (Heap.lt_size e) I.ok.above)
  have neC : ∀ b o, X.s₀.heap.get? b = some o → b ∉ X.ex → b ∉ ch := fun b o e hx hb => by
    rcases (hch b hb).1 with z | z
    · exact hx z
    · exact absurd (Nat.lt_of_lt_of_le (Heap.lt_size e) z) (Nat.lt_irrefl _)
  have cellK : ∀ x c, X.env.cells.lookup x = some c → ∀ v, s.heap.IsCell c v → h'.IsCell c v := fun x c e v ⟨o, ho, hd⟩ => by
    have nch : c ∉ ch := fun z => (hch c z).2.2.1 x c e rfl
    by_cases hc : c ∈ X.fs
    · obtain ⟨sl, q⟩ := slot c o (I.cne x c e) hc nch ho (I.freeC x c e)
      exact ⟨_, q, hd⟩
    · exact ⟨o, keep c o (I.cne x c e) hc nch ho (I.freeC x c e), hd⟩
  refine ⟨I.ok, I.os, hg, ⟨fun b o e n hb hx => ?_, fun b o e n hb hx => ?_, fun b o e n hx => ?_, fun b o e hx => ?_, fun b xs e => tups b xs (I.base.tups b xs e), fun b o xs e => frzs b o xs (I.base.frzs b o xs e), fun b ps e => ?_⟩, ?_, fun x c e => ?_, ?_, fun x c e => ?_, fun p hp => ?_, hok, I.len⟩
  · exact keep b o (neL b o e) hb (neC b o e hx) (I.base.keep b o e n hb hx) (I.base.free b o e n hx)
  · obtain ⟨sl, e1⟩ := I.base.slot b o e n hb hx
    obtain ⟨sl', e2⟩ := slot b _ (neL b o e) hb (neC b o e hx) e1 (I.base.free b o e n hx)
    exact ⟨sl', e2⟩
  · obtain ⟨o', e1⟩ := I.base.there b o e hx
    exact free b o' (neC b o e hx) e1 (I.base.free b o e n hx)
  · obtain ⟨o', e1⟩ := I.base.there b o e hx
    exact there b o' (neC b o e hx) e1
  · exact tbls b ps (I.base.tbls b ps e)
  · obtain ⟨m, hn, hl⟩ := I.loc
    refine ⟨m, ns m hn, fun i x v e1 e2 e3 => ?_⟩
    obtain ⟨u, r, l⟩ := hl i x v e1 e2 e3
    refine ⟨u, r, ?_⟩
    rcases l with l | ⟨k, c, e, z⟩
    · exact .inl l
    · exact .inr ⟨k, c, e, cellK x c e _ z⟩
  · obtain ⟨v, z⟩ := I.cell x c e
    exact ⟨v, cellK x c e v z⟩
  · obtain ⟨m, ⟨o, _, _, ho, _⟩, _⟩ := I.loc
    exact free _ o (fun z => (hch _ z).2.1 rfl) ho I.free
  · obtain ⟨v, o, ho, hd⟩ := I.cell x c e
    exact free c o (fun z => (hch c z).2.2.1 x c e rfl) ho (I.freeC x c e)
  · obtain ⟨e, n, ne, nf, d⟩ := I.pin p hp
    have nch : p.1 ∉ ch := fun z => (hch p.1 z).2.2.2 p hp rfl
    exact ⟨keep p.1 p.2 ne nf nch e n, free p.1 p.2 nch e n, ne, nf, d⟩
theorem Inv.un {t' : Nat} (I : Inv X pins σ H s) (u : Un X.fs [] H H' s.heap h') (hok : HOk X.prog X.w H' h') : Inv X pins σ H' { s with heap := h', toks := t' } := by
  obtain ⟨m, ⟨o, es, ep, ho, r⟩, _⟩ := id I.loc
  obtain ⟨sl, hL⟩ := u.any ho I.free (by simp)
  exact I.step (g' := s.gens) (d' := s.drawn) (ch := []) (fun _ z => nomatch z) (fun b o _ hb _ e n => u.keep b o e n hb (by simp)) (fun b o _ hb _ e n => u.slot b o e n hb (by simp)) (fun b o _ e n => u.free b o e n (by simp)) (fun b o _ e => u.there b o e (by simp)) u.tups u.frzs u.tbls (fun m' hm => by
    obtain ⟨o', es', ep', ho', r'⟩ := hm
    rw [ho] at ho'; cases ho'
    exact ⟨_, es', ep', hL, r'⟩) hok I.bare
theorem Inv.call {g' : Array GenState} {t' : Nat} {d' : Drawn} {ch : List Addr} (I : Inv X pins σ H s) (u : Un (frs X.stack) ch H H' s.heap h') (hok : HOk X.prog X.w H' h') (hg : AllBare g')
    (hch : ∀ b ∈ ch, (b ∈ X.ex ∨ X.s₀.heap.objs.size ≤ b) ∧ b ≠ X.env.locals ∧ (∀ x c, X.env.cells.lookup x = some c → c ≠ b) ∧ ∀ p ∈ X.pn ++ pins, p.1 ≠ b) :
    Inv X pins σ H' { s with heap := h', gens := g', drawn := d', toks := t' } := by
  obtain ⟨m, ⟨o, es, ep, ho, r⟩, _⟩ := id I.loc
  obtain ⟨sl, hL⟩ := u.any ho I.free fun z => (hch _ z).2.1 rfl
  exact I.step hch (fun b o hL hb hc e n => u.keep b o e n (fun z => (List.mem_cons.mp (I.stkSub b z)).elim hL hb) hc) (fun b o _ _ hc e n => u.any e n hc) (fun b o hc e n => u.free b o e n hc) (fun b o hc e => u.there b o e hc) u.tups u.frzs u.tbls (fun m' hm => by
    obtain ⟨o', es', ep', ho', r'⟩ := hm
    rw [ho] at ho'; cases ho'
    exact ⟨_, es', ep', hL, r'⟩) hok hg
theorem Inv.turned {t' : Nat} {it : Addr} (I : Inv X pins σ H s) (k : ∀ b o, b ≠ it → s.heap.get? b = some o → h'.get? b = some o) (hn : H it = none) (hL : it ≠ X.env.locals)
    (h1 : it ∈ X.ex ∨ X.s₀.heap.objs.size ≤ it) (h2 : ∀ x c, X.env.cells.lookup x = some c → c ≠ it) (h3 : ∀ p ∈ X.pn ++ pins, p.1 ≠ it) : Inv X pins σ H { s with heap := h', toks := t' } := by
  have nit : ∀ b u, H b = some u → b ≠ it := fun b u e z => by rw [z, hn] at e; cases e
  refine I.step (g' := s.gens) (d' := s.drawn) (ch := [it]) (fun b hb => ?_) (fun b o _ _ hc e _ => k b o (fun z => hc (by simp [z])) e) (fun b o _ _ hc e _ => ⟨o.slots, k b o (fun z => hc (by simp [z])) e⟩) (fun _ _ _ _ n => n)
    (fun b o hc e => ⟨o, k b o (fun z => hc (by simp [z])) e⟩) (fun _ _ e => e) (fun _ _ _ e => e) (fun _ _ e => e) (fun m hm => ?_) (fun b u e => ?_) I.bare
  · have e : b = it := by simpa using hb
    subst e
    exact ⟨h1, hL, h2, h3⟩
  · obtain ⟨o, es, ep, ho, r⟩ := hm
    exact ⟨o, es, ep, k _ o (Ne.symm hL) ho, r⟩
  · refine (I.hok b u e).stay (fun c v hc q => k c v ?_ q) (fun _ q => q) fun _ _ _ q => q
    rcases hc with z | z
    · rw [z]; exact nit b u e
    · exact nit c _ z
theorem Inv.tok (I : Inv X pins σ H s) (t : Nat) : Inv X pins σ H { s with toks := t } := I.un (h' := s.heap) (t' := t) Un.refl I.hok
theorem Inv.kept (I : Inv X pins σ H s) (k : ∀ b u, s.heap.get? b = some u → h'.get? b = some u) : Inv X pins σ H { s with heap := h', toks := t' } := I.un (Un.kept k) (I.hok.kept k)
theorem Inv.laid (I : Inv X pins σ H s) (k : ∀ b u, s.heap.get? b = some u → h'.get? b = some u) (hp : s.heap.objs.size ≤ a) (new : ObjOk X.prog X.w (upd H a o) h' a o) :
    Inv X pins σ (upd H a o) { s with heap := h', toks := t' } := I.un (Un.laid k hp (I.hok.fresh hp)) (I.hok.laid k hp new)
theorem Inv.write (I : Inv X pins σ H s) (mu : Mut (H x)) (he : e = x ∨ H e = some (.own x)) (k : ∀ b u, b ≠ e → s.heap.get? b = some u → h'.get? b = some u) (heo : ∃ u, h'.get? e = some u) (new : ObjOk X.prog X.w (upd H x o) h' x o) : Inv X pins σ (upd H x o) { s with heap := h', toks := t' } := I.un (Un.write mu he k heo) (I.hok.write mu he k heo new)
theorem Inv.pins_of (I : Inv X pins σ H s) (h : ∀ p ∈ pins', s.heap.get? p.1 = some p.2 ∧ H p.1 = none ∧ p.1 ≠ X.env.locals ∧ p.1 ∉ X.fs ∧ ∀ v, p.2.data ≠ .cell v) : Inv X pins' σ H s :=
  ⟨I.ok, I.os, I.bare, I.base, I.loc, I.cell, I.free, I.freeC, fun p hp => (List.mem_append.mp hp).elim (fun z => I.pin p (List.mem_append_left _ z)) (h p), I.hok, I.len⟩

theorem nodup_ix {N : List Str} (hN : N.Nodup) {i j : Nat} {x : Str} (a : N[i]? = some x) (b : N[j]? = some x) : i = j := by
  obtain ⟨h1, e1⟩ := List.getElem?_eq_some_iff.mp a
  obtain ⟨h2, e2⟩ := List.getElem?_eq_some_iff.mp b
  exact (List.getElem_inj hN).mp (e1.trans e2.symm)

theorem store_ok2 {M : Model} {A : Around} {E : Value → Shared → Prop} {i : Nat} {x : Str} {v : V} {u : Value} {Q : Unit → Shared → Prop} (I : Inv X pins σ H s) (hN : X.N.Nodup) (hi : X.N[i]? = some x) (hx : Loc X.env.scope x) (r : RelV v u)
    (h : ∀ s', Inv X pins (σ.set i (some v)) H s' → (∃ a, Heap.SameBut a s.heap s'.heap ∧ (a = X.env.locals ∨ X.env.cells.lookup x = some a)) → Q () s') (hf : X.fn x = true ∨ X.env.scope.names.lookup x = some .local := by first | exact .inl rfl | exact .inr rfl | assumption) : wpAny M A (storeName X.env x u) Q E s := by
  obtain ⟨m, hn, hl⟩ := id I.loc
  have hcls : (X.env.scope.kind == .class || (X.env.scope.kind == .module && X.env.locals != X.env.globals)) = false := by rw [I.ok.kind]; rfl
  have hiσ : i < σ.length := by rw [I.len]; exact (List.getElem?_eq_some_iff.mp hi).1
  have cne := I.cne
  have tracked : ∀ {a : Addr} {h' : Heap}, (∃ o, s.heap.get? a = some o ∧ H a = none) → Heap.SameBut a s.heap h' → HOk X.prog X.w H h' := fun {a h'} ha hs b ob e => by
    obtain ⟨_, _, hfree⟩ := ha
    refine (I.hok b ob e).stay (fun c w' hc q => (hs.2 c ?_).trans q) (fun _ q => q) fun _ _ _ q => q
    grind
  rcases hx with hk | hk
  · refine wpAny_storeName_local hk hn (fun h' hn' hs => ?_) hcls
    obtain ⟨oL, _, _, hoL, _⟩ := id hn
    refine h _ ⟨I.ok, I.os, I.bare, ⟨fun b o e n hb hx => ?_, fun b o e n hb hx => ?_, I.base.free, fun b o e hx => ?_, I.base.tups, I.base.frzs, I.base.tbls⟩, ⟨_, hn', fun j y v' e1 e2 e3 => ?_⟩, fun y c e => ?_, I.free, I.freeC, fun p hp => ?_, tracked ⟨oL, hoL, I.free⟩ hs, by simpa using I.len⟩ ⟨_, hs, .inl rfl⟩
    · exact (hs.2 b (Nat.ne_of_lt (Nat.lt_of_lt_of_le (Heap.lt_size e) I.ok.above))).trans (I.base.keep b o e n hb hx)
    · obtain ⟨sl, e1⟩ := I.base.slot b o e n hb hx
      exact ⟨sl, (hs.2 b (Nat.ne_of_lt (Nat.lt_of_lt_of_le (Heap.lt_size e) I.ok.above))).trans e1⟩
    · obtain ⟨o', e1⟩ := I.base.there b o e hx
      exact ⟨o', (hs.2 b (Nat.ne_of_lt (Nat.lt_of_lt_of_le (Heap.lt_size e) I.ok.above))).trans e1⟩
    · by_cases hj : j = i
      · subst hj
        rw [hi] at e1; cases e1
        rw [List.getElem?_set_self hiσ] at e2
        cases e2
        exact ⟨u, r, .inl ⟨hk, by simp⟩⟩
      · rw [List.getElem?_set_ne (Ne.symm hj)] at e2
        obtain ⟨u', r', q⟩ := hl j y v' e1 e2 e3
        refine ⟨u', r', ?_⟩
        rcases q with ⟨k, e⟩ | ⟨k, c, e, z⟩
        · refine .inl ⟨k, ?_⟩
          have : y ≠ x := fun e => hj (nodup_ix hN e1 (e ▸ hi))
          simp [this, e]
        · exact .inr ⟨k, c, e, z.sameBut hs (cne y c e)⟩
    · obtain ⟨w', z⟩ := I.cell y c e
      exact ⟨w', z.sameBut hs (cne y c e)⟩
    · obtain ⟨e, n, ne, nf, d⟩ := I.pin p hp
      exact ⟨(hs.2 p.1 ne).trans e, n, ne, nf, d⟩
  · have hfn : X.fn x = true := by
      grind
    obtain ⟨c, hc⟩ := I.ok.has x (.inl hk)
    obtain ⟨w', z⟩ := I.cell x c hc
    refine wpAny_storeName_cell I.ok.kind hk hc z (fun h' hc' hs => ?_)
    obtain ⟨oc, hoc, hocd⟩ := id z
    refine h { s with heap := h' } ⟨I.ok, I.os, I.bare, ⟨fun b o e n hb hx => ?_, fun b o e n hb hx => ?_, I.base.free, fun b o e hx => ?_, I.base.tups, I.base.frzs, I.base.tbls⟩, ⟨m, hn.sameBut hs (Ne.symm (cne x c hc)), fun j y v' e1 e2 e3 => ?_⟩, fun y c' e => ?_, I.free, I.freeC, fun p hp => ?_, tracked ⟨oc, hoc, I.freeC x c hc⟩ hs, by simpa using I.len⟩ ⟨c, hs, .inr hc⟩
    · exact (hs.2 b (Nat.ne_of_lt (Nat.lt_of_lt_of_le (Heap.lt_size e) (I.ok.cab x c hfn hc)))).trans (I.base.keep b o e n hb hx)
    · obtain ⟨sl, e1⟩ := I.base.slot b o e n hb hx
      exact ⟨sl, (hs.2 b (Nat.ne_of_lt (Nat.lt_of_lt_of_le (Heap.lt_size e) (I.ok.cab x c hfn hc)))).trans e1⟩
    · obtain ⟨o', e1⟩ := I.base.there b o e hx
      exact ⟨o', (hs.2 b (Nat.ne_of_lt (Nat.lt_of_lt_of_le (Heap.lt_size e) (I.ok.cab x c hfn hc)))).trans e1⟩
    · by_cases hj : j = i
      · subst hj
        rw [hi] at e1; cases e1
        rw [List.getElem?_set_self hiσ] at e2
        cases e2
        exact ⟨u, r, .inr ⟨.inl hk, c, hc, hc'⟩⟩
      · rw [List.getElem?_set_ne (Ne.symm hj)] at e2
        obtain ⟨u', r', q⟩ := hl j y v' e1 e2 e3
        refine ⟨u', r', ?_⟩
        rcases q with q | ⟨k, c', e, z'⟩
        · exact .inl q
        · refine .inr ⟨k, c', e, z'.sameBut hs ?_⟩
          rintro rfl
          exact hj (nodup_ix hN e1 (I.ok.inj _ _ _ e hc ▸ hi))
    · by_cases hcc : c' = c
      · subst hcc; exact ⟨_, hc'⟩
      · obtain ⟨w2, z2⟩ := I.cell y c' e
        exact ⟨w2, z2.sameBut hs hcc⟩
    · obtain ⟨e, n, ne, nf, d⟩ := I.pin p hp
      refine ⟨(hs.2 p.1 ?_).trans e, n, ne, nf, d⟩
      intro q
      rw [q, hoc] at e
      grind
theorem store_ok {E : Value → Shared → Prop} {Q : Unit → Shared → Prop} (I : Inv X pins σ H s) (hN : X.N.Nodup) (hi : X.N[i]? = some x) (hx : Loc X.env.scope x) (r : RelV v u) (h : ∀ s', Inv X pins (σ.set i (some v)) H s' → Q () s') (hf : X.fn x = true ∨ X.env.scope.names.lookup x = some .local := by first | exact .inl rfl | exact .inr rfl | assumption) : wpAny M A (storeName X.env x u) Q E s :=
  store_ok2 I hN hi hx r (fun s' I' _ => h s' I') hf
theorem Inv.call' (I : Inv X pins σ H s) (ho : s'.os = s.os) (u : Un (frs X.stack) ch H H' s.heap s'.heap) (hok : HOk X.prog X.w H' s'.heap) (hg : AllBare s'.gens) (hch : ∀ b ∈ ch, (b ∈ X.ex ∨ X.s₀.heap.objs.size ≤ b) ∧ b ≠ X.env.locals ∧ (∀ x c, X.env.cells.lookup x = some c → c ≠ b) ∧ ∀ p ∈ X.pn ++ pins, p.1 ≠ b) : Inv X pins σ H' s' := by
  obtain ⟨h', g', d', t', o'⟩ := s'
  subst ho
  exact I.call (g' := g') (t' := t') (d' := d') u hok hg hch
end

abbrev XK := Value → Option Addr → Hp → Prop
abbrev St := List (Option V)
abbrev VK := V → Hp → Prop
abbrev TE := St → Hp → VK → Prop
abbrev TT := St → Hp → (Bool → Hp → Prop) → Prop
abbrev TA := St → Hp → (List V → Hp → Prop) → Prop
structure Ends where
  nx : St → Hp → Prop
  rt : VK
  bk : St → Hp → Prop := fun _ _ => False
  ct : St → Hp → Prop := fun _ _ => False
abbrev TS := Ends → St → Hp → Prop

def EP (X : Cx) (pins : List (Addr × Obj)) (σ : St) (Q : VK) (u : Value) (s' : Shared) : Prop := ∃ v H', Inv X pins σ H' s' ∧ RelV v u ∧ Q v H'
def TP (X : Cx) (pins : List (Addr × Obj)) (σ : St) (Q : Bool → Hp → Prop) (b : Bool) (s' : Shared) : Prop := ∃ H', Inv X pins σ H' s' ∧ Q b H'
def AP (X : Cx) (pins : List (Addr × Obj)) (σ : St) (Q : List V → Hp → Prop) (us : List Value) (s' : Shared) : Prop := ∃ vs H', Inv X pins σ H' s' ∧ Vals vs us ∧ Q vs H'
def SP (X : Cx) (pins : List (Addr × Obj)) (D : Ends) (f : Flow) (s' : Shared) : Prop :=
  match f with
  | .next => ∃ σ' H', Inv X pins σ' H' s' ∧ D.nx σ' H'
  | .brk => ∃ σ' H', Inv X pins σ' H' s' ∧ D.bk σ' H'
  | .cont => ∃ σ' H', Inv X pins σ' H' s' ∧ D.ct σ' H'
  | .ret u => ∃ v σ' H', Inv X pins σ' H' s' ∧ RelV v u ∧ D.rt v H'

def PE (X : Cx) (e : Expr) (t : TE) : Prop :=
  ∀ (pins : List (Addr × Obj)) (s : Shared) (σ : St) (H : Hp) (Q : VK), Inv X pins σ H s → t σ H Q → wpAny (model X.prog X.w) X.A (eval e X.env) (EP X pins σ Q) X.xe s
def PT (X : Cx) (e : Expr) (t : TT) : Prop :=
  ∀ (pins : List (Addr × Obj)) (s : Shared) (σ : St) (H : Hp) (Q : Bool → Hp → Prop), Inv X pins σ H s → t σ H Q → wpAny (model X.prog X.w) X.A (isTrue e X.env (eval e X.env)) (TP X pins σ Q) X.xe s
def PW (X : Cx) (e : Expr) (t : TT) : Prop :=
  ∀ (whole : Sem Value) (pins : List (Addr × Obj)) (s : Shared) (σ : St) (H : Hp) (Q : Bool → Hp → Prop), Inv X pins σ H s → t σ H Q → wpAny (model X.prog X.w) X.A (isTrue e X.env whole) (TP X pins σ Q) X.xe s
theorem PW.pt (h : PW X e t) : PT X e t := h _
def PA (X : Cx) (es : List Expr) (t : TA) : Prop :=
  ∀ (pos : Pos) (pins : List (Addr × Obj)) (s : Shared) (σ : St) (H : Hp) (Q : List V → Hp → Prop), Inv X pins σ H s → t σ H Q → wpAny (model X.prog X.w) X.A (spliced (backTo pos (starEach es X.env))) (AP X pins σ Q) X.xe s
def PS (X : Cx) (st : Stmt) (t : TS) : Prop :=
  ∀ (pins : List (Addr × Obj)) (s : Shared) (σ : St) (H : Hp) (D : Ends), Inv X pins σ H s → t D σ H → wpAny (model X.prog X.w) X.A (exec st X.env) (SP X pins D) X.xe s
def PSs (X : Cx) (st : List Stmt) (t : TS) : Prop :=
  ∀ (pins : List (Addr × Obj)) (s : Shared) (σ : St) (H : Hp) (D : Ends), Inv X pins σ H s → t D σ H → wpAny (model X.prog X.w) X.A (execs st X.env) (SP X pins D) X.xe s
theorem thn {α : Type} {t : Sem α} {Q Q' : α → Shared → Prop} {M : Model} {A : Around} {E : Value → Shared → Prop} {s : Shared} (h : wpAny M A t Q E s) (hQ : ∀ a s, Q a s → Q' a s) : wpAny M A t Q' E s := wpAny_mono h hQ fun _ _ x => x
end L2

namespace L2
open PySem PySem.Spec PyProof.Rows
section
variable {X : Cx}

def tVar (i : Nat) : TE := fun σ H Q => ∃ v, σ[i]? = some (some v) ∧ Q v H
def tC (v : V) : TE := fun _ H Q => Q v H
theorem pe_var (hN : X.N[i]? = some x) (hv : Vis X.env.scope x) (hd : (x == ("__debug__" : Str)) = false := by decide) (hcd : (x == ("__classdict__" : Str)) = false := by decide) : PE X (.Name x pos) (tVar i) := by
  intro pins s σ H Q I h
  obtain ⟨v, e, h⟩ := h
  obtain ⟨m, hn, hl⟩ := I.loc
  obtain ⟨u, r, l⟩ := hl i x v hN e hv
  have fin : EP X pins σ Q u s := ⟨v, H, I, r, h⟩
  rcases l with ⟨hk, hm⟩ | ⟨hk, c, hc, hcell⟩
  · exact wpAny_Name (wpAny_loadName_local I.ok.kind hk hn hm fin) hd
  · rcases hk with hk | hk
    · exact wpAny_Name (wpAny_loadName_cell I.ok.kind hk hc hcell fin) hd
    · exact wpAny_Name (wpAny_loadName_free I.ok.kind hk hc hcell fin hcd) hd
theorem pe_int {i j pos} : PE X (.Constant (.int i) j pos) (tC (.int i)) := fun _ _ _ H _ I h => wpAny_Constant_int ⟨.int i, H, I.tok _, ⟨_, rfl⟩, h⟩
theorem pe_bl {b j pos} : PE X (.Constant (.bool b) j pos) (tC (.bl b)) := fun _ _ _ H _ I h => Constant_bool ⟨.bl b, H, I, rfl, h⟩
theorem pe_non {j pos} : PE X (.Constant .none j pos) (tC .non) := fun _ _ _ H _ I h => Constant_none ⟨.non, H, I, rfl, h⟩
theorem pe_str {x j pos} : PE X (.Constant (.str x) j pos) (tC (.str x)) := fun _ _ _ H _ I h => Calls.Constant_str ⟨.str x, H, I.tok _, ⟨_, rfl⟩, h⟩

def Gl (X : Cx) (x : Str) : Prop := X.env.kindOf x = some .globalImplicit
theorem ld_glob {E : Value → Shared → Prop} {Q : Value → Shared → Prop} (I : Inv X pins σ H s) (hg : Gl X x) (hm : X.mg x = some u) (h : Q u s) (hd : (x == ("__debug__" : Str)) = false := by decide) : wpAny (model X.prog X.w) X.A (eval (.Name x pos) X.env) Q E s :=
  Calls.Name_function_global I.ok.kind hg (Calls.loadGlobal_global (I.ok.glob ▸ I.mod.glob.keeps I.bk) hm h) hd
theorem ld_blt {E : Value → Shared → Prop} {Q : Value → Shared → Prop} (I : Inv X pins σ H s) (hg : Gl X x) (hm : X.mg x = none) (hv : bootBuiltins x = some u) (h : Q u s) (hn : x ≠ "__name__" := by decide) (hd : (x == ("__debug__" : Str)) = false := by decide) : wpAny (model X.prog X.w) X.A (eval (.Name x pos) X.env) Q E s := by
  obtain ⟨mb, h1, h2⟩ := I.mod.blt
  exact Calls.Name_function_global I.ok.kind hg (Calls.loadGlobal_builtin (I.ok.glob ▸ I.mod.glob.keeps I.bk) hm (I.ok.blt ▸ h1.keeps I.bk) ((h2 x hn).trans hv) h) hd
theorem pe_glob (hg : Gl X x) (hm : X.mg x = some u) (r : RelV v u) (hd : (x == ("__debug__" : Str)) = false := by decide) : PE X (.Name x pos) (tC v) :=
  fun _ _ _ H _ I h => ld_glob I hg hm ⟨v, H, I, r, h⟩ hd
theorem pe_bltn (hg : Gl X x) (hm : X.mg x = none) (hv : bootBuiltins x = some u) (r : RelV v u) (hn : x ≠ "__name__" := by decide) (hd : (x == ("__debug__" : Str)) = false := by decide) : PE X (.Name x pos) (tC v) :=
  fun _ _ _ H _ I h => ld_blt I hg hm hv ⟨v, H, I, r, h⟩ hn hd

variable {a b : Expr} {ta tb : TE} {pos : Pos}
def tB (t : TE) : TT := fun σ H Q => t σ H fun x H1 => ∃ c, x = .bl c ∧ Q c H1
theorem pt_val {e : Expr} {t : TE} (h : PE X e t) (he : ∀ whole, isTrue e X.env whole = (do let v ← whole; standAt e.pos; holding [v] (truthy v)) := by intro _; rfl) : PT X e (tB t) := by
  intro pins s σ H Q I hw
  refine isTrue_plain (thn (h pins s σ H _ I hw) fun v s1 ⟨x, H1, I1, r1, q1⟩ => ?_) (he _)
  obtain ⟨d, rfl, q⟩ := q1
  cases r1
  exact wpAny_truthy_bool ⟨H1, I1, q⟩

variable {tA tB' : TT} {rest : List Expr}
def tAnd (t u : TT) : TT := fun σ H Q => t σ H fun c H1 => if c = true then u σ H1 Q else Q false H1
def tOr (t u : TT) : TT := fun σ H Q => t σ H fun c H1 => if c = true then Q true H1 else u σ H1 Q
def tNot (t : TT) : TT := fun σ H Q => t σ H fun c H1 => Q (!c) H1
theorem pw_and1 (ha : PT X a tA) : PW X (.BoolOp .And [a] pos) tA := by
  intro wh pins s σ H Q I h
  refine isTrue_and (thn (ha pins s σ H Q I h) fun c s1 e => ?_)
  cases c with
  | true => exact isTrue_and_nil e
  | false => exact e
theorem pw_or1 (ha : PT X a tA) : PW X (.BoolOp .Or [a] pos) tA := by
  intro wh pins s σ H Q I h
  refine isTrue_or (thn (ha pins s σ H Q I h) fun c s1 e => ?_)
  cases c with
  | false => exact isTrue_or_nil e
  | true => exact e
theorem pw_and (ha : PT X a tA) (hb : PW X (.BoolOp .And (b :: rest) pos) tB') : PW X (.BoolOp .And (a :: b :: rest) pos) (tAnd tA tB') := by
  intro wh pins s σ H Q I h
  refine isTrue_and (thn (ha pins s σ H _ I h) fun c s1 ⟨H1, I1, q1⟩ => ?_)
  cases c with
  | true => exact hb wh pins s1 σ H1 Q I1 q1
  | false => exact ⟨H1, I1, q1⟩
theorem pw_or (ha : PT X a tA) (hb : PW X (.BoolOp .Or (b :: rest) pos) tB') : PW X (.BoolOp .Or (a :: b :: rest) pos) (tOr tA tB') := by
  intro wh pins s σ H Q I h
  refine isTrue_or (thn (ha pins s σ H _ I h) fun c s1 ⟨H1, I1, q1⟩ => ?_)
  cases c with
  | true => exact ⟨H1, I1, q1⟩
  | false => exact hb wh pins s1 σ H1 Q I1 q1
theorem pt_not (ha : PT X a tA) : PT X (.UnaryOp .Not a pos) (tNot tA) := by
  intro pins s σ H Q I h
  exact isTrue_not (ha pins s σ H (fun c H1 => Q (!c) H1) I h)
def tAndV (ta tb : TE) : TE := fun σ H Q => ta σ H fun x H1 => ∃ c, x = .bl c ∧ if c = true then tb σ H1 Q else Q (.bl false) H1
def tOrV (ta tb : TE) : TE := fun σ H Q => ta σ H fun x H1 => ∃ c, x = .bl c ∧ if c = true then Q (.bl true) H1 else tb σ H1 Q
def tNotV (ta : TE) : TE := fun σ H Q => ta σ H fun x H1 => ∃ c, x = .bl c ∧ Q (.bl (!c)) H1
theorem pe_one {op} (h : PE X a t) : PE X (.BoolOp op [a] pos) t := fun pins s σ H Q I hw => BoolOp_one (h pins s σ H Q I hw)
theorem pe_and (ha : PE X a ta) (hb : PE X (.BoolOp .And (b :: rest) pos) tb) : PE X (.BoolOp .And (a :: b :: rest) pos) (tAndV ta tb) := by
  intro pins s σ H Q I h
  refine BoolOp_and (thn (ha pins s σ H _ I h) fun v s1 ⟨x, H1, I1, r1, q1⟩ => ?_)
  obtain ⟨c, rfl, q1⟩ := q1
  cases r1
  refine wpAny_truthy_bool ?_
  cases c with
  | true => exact hb pins s1 σ H1 Q I1 q1
  | false => exact ⟨.bl false, H1, I1, rfl, q1⟩
theorem pe_or (ha : PE X a ta) (hb : PE X (.BoolOp .Or (b :: rest) pos) tb) : PE X (.BoolOp .Or (a :: b :: rest) pos) (tOrV ta tb) := by
  intro pins s σ H Q I h
  refine BoolOp_or (thn (ha pins s σ H _ I h) fun v s1 ⟨x, H1, I1, r1, q1⟩ => ?_)
  obtain ⟨c, rfl, q1⟩ := q1
  cases r1
  refine wpAny_truthy_bool ?_
  cases c with
  | false => exact hb pins s1 σ H1 Q I1 q1
  | true => exact ⟨.bl true, H1, I1, rfl, q1⟩
theorem pe_not (ha : PE X a ta) : PE X (.UnaryOp .Not a pos) (tNotV ta) := by
  intro pins s σ H Q I h
  refine UnaryOp_ (thn (ha pins s σ H _ I h) fun v s1 ⟨x, H1, I1, r1, q1⟩ => ?_)
  obtain ⟨c, rfl, q1⟩ := q1
  cases r1
  exact not_of (wpAny_truthy_bool ⟨.bl (!c), H1, I1, rfl, q1⟩)
def tIf (t : TT) (ta tb : TE) : TE := fun σ H Q => t σ H fun c H1 => if c = true then ta σ H1 Q else tb σ H1 Q
theorem pe_ifExp {c : Expr} (hc : PT X c tA) (ha : PE X a ta) (hb : PE X b tb) : PE X (.IfExp c a b pos) (tIf tA ta tb) := by
  intro pins s σ H Q I h
  refine wpAny_IfExp (thn (hc pins s σ H _ I h) fun d s1 ⟨H1, I1, q1⟩ => ?_)
  cases d with
  | true => exact ha pins s1 σ H1 Q I1 q1
  | false => exact hb pins s1 σ H1 Q I1 q1
end
end L2

namespace L2
open PySem PySem.Spec PyProof.Rows

def SqL (K : PySem.W.Frag) (H : Hp) (a : Addr) (xs : List V) : Prop :=
  Rd H a (.lst xs) ∨
    ∃ (o : Obj) (its : Array Value) (n : Nat), K.lookup a = some o ∧ o.cls = .type "list" ∧ o.dict = none ∧ o.data = .seq its n ∧ its.size ≤ sizeLine ∧ Vals xs its.toList
def SqT (K : PySem.W.Frag) (H : Hp) (a : Addr) (xs : List V) : Prop :=
  Rd H a (.tup xs) ∨
    ∃ (o : Obj) (its : Array Value) (n : Nat), K.lookup a = some o ∧ o.cls = .type "tuple" ∧ o.data = .seq its n ∧ its.size ≤ sizeLine ∧ Vals xs its.toList
def absV : Value → Option V
  | .none => some .non
  | .bool b => some (.bl b)
  | .int i _ => some (.int i)
  | .str x _ => some (.str x)
  | .bytes b _ => some (.byt b)
  | .float b _ => some (.flt b)
  | .ref a => some (.ref a)
  | .type n => some (.ty n)
  | _ => none
theorem RelV.abs (r : RelV x u) : absV u = some x := by
  cases x with
  | non => cases r; rfl
  | bl _ => cases r; rfl
  | int _ => obtain ⟨t, rfl⟩ := r; rfl
  | str _ => obtain ⟨t, rfl⟩ := r; rfl
  | byt _ => obtain ⟨t, rfl⟩ := r; rfl
  | flt _ => obtain ⟨t, rfl⟩ := r; rfl
  | ref _ => cases r; rfl
  | ty _ => cases r; rfl
theorem RelV.inj {x y : V} {u : Value} (r : RelV x u) (q : RelV y u) : x = y := Option.some.inj (r.abs.symm.trans q.abs)
theorem Vals.inj : ∀ {xs ys : List V} {us : List Value}, Vals xs us → Vals ys us → xs = ys := by
  intro _ _ _ z1 z2
  cases z1 with
  | nil =>
    cases z2 with
    | nil => rfl
  | cons r t =>
    cases z2 with
    | cons r' t' => rw [r.inj r', Vals.inj t t']
section
variable {X : Cx} {pins : List (Addr × Obj)} {σ : St} {H : Hp} {s : Shared} {a : Addr} {xs ys : List V}
theorem SqL.of {K : PySem.W.Frag} (h : H a = some (.lst xs)) : SqL K H a xs := .inl (.inl h)
theorem SqT.of {K : PySem.W.Frag} (h : H a = some (.tup xs)) : SqT K H a xs := .inl (.inl h)
theorem Inv.list (I : Inv X pins σ H s) (h : SqL X.K H a xs) : ∃ its : List Value, Vals xs its ∧ PlainL s.heap a its.toArray ∧ xs.length ≤ sizeLine := by
  rcases h with h | ⟨o, its, n, hk, hc, hd, hs, hz, r⟩
  · obtain ⟨z, its, n, r, e⟩ := h.ok I.hok
    exact ⟨its, r, ⟨_, n, e, rfl, rfl, rfl⟩, z⟩
  · refine ⟨its.toList, r, ⟨o, n, I.kIn a o hk, hc, hd, by simpa using hs⟩, ?_⟩
    have e := r.length
    simp only [Array.length_toList] at e
    lia
theorem Inv.tuple (I : Inv X pins σ H s) (h : SqT X.K H a xs) : ∃ its : List Value, Vals xs its ∧ IsTup s.heap a its.toArray ∧ xs.length ≤ sizeLine := by
  rcases h with h | ⟨o, its, n, hk, hc, hs, hz, r⟩
  · obtain ⟨z, its, r, p⟩ := h.ok I.hok
    exact ⟨its, r, p, z⟩
  · refine ⟨its.toList, r, ⟨o, I.kIn a o hk, hc, n, by simpa using hs⟩, ?_⟩
    have e := r.length
    grind
theorem Inv.list_inj (I : Inv X pins σ H s) (h : SqL X.K H a xs) (h' : SqL X.K H a ys) : xs = ys := by
  obtain ⟨its, r, ⟨o, n, e, _, _, d⟩, _⟩ := I.list h
  obtain ⟨its', r', ⟨o', n', e', _, _, d'⟩, _⟩ := I.list h'
  rw [e] at e'; cases e'
  rw [d] at d'
  injection d' with d1 _
  have : its = its' := by simpa using congrArg Array.toList d1
  subst this
  exact r.inj r'
theorem Inv.tuple_inj (I : Inv X pins σ H s) (h : SqT X.K H a xs) (h' : SqT X.K H a ys) : xs = ys := by
  obtain ⟨its, r, ⟨o, e, _, n, d⟩, _⟩ := I.tuple h
  obtain ⟨its', r', ⟨o', e', _, n', d'⟩, _⟩ := I.tuple h'
  rw [e] at e'; cases e'
  rw [d] at d'
  injection d' with d1 _
  have : its = its' := by grind
  subst this
  exact r.inj r'
end

abbrev Cx.wish (X : Cx) (E : Value → Shared → Prop) : Cx := { X with xe := E }
abbrev Cx.nox (X : Cx) : Cx := X.wish fun _ _ => False
theorem Cx.Ok.wish {X : Cx} (ok : X.Ok) (E : Value → Shared → Prop) : (X.wish E).Ok :=
  ⟨ok.mod, ok.kind, ok.glob, ok.blt, ok.above, ok.inj, ok.has, ok.cab, ok.hd, ok.frames, ok.stk, ok.exf, ok.bs, ok.bsz, ok.noex, ok.exfs, ok.funs, ok.frf⟩
theorem Cx.Ok.unwish {X : Cx} {E : Value → Shared → Prop} (ok : (X.wish E).Ok) : X.Ok :=
  ⟨ok.mod, ok.kind, ok.glob, ok.blt, ok.above, ok.inj, ok.has, ok.cab, ok.hd, ok.frames, ok.stk, ok.exf, ok.bs, ok.bsz, ok.noex, ok.exfs, ok.funs, ok.frf⟩
section
variable {X : Cx} {pins : List (Addr × Obj)} {σ : St} {H : Hp} {s : Shared} {E : Value → Shared → Prop}
theorem Inv.wish (I : Inv X pins σ H s) (E : Value → Shared → Prop) : Inv (X.wish E) pins σ H s := ⟨I.ok.wish E, I.os, I.bare, I.base, I.loc, I.cell, I.free, I.freeC, I.pin, I.hok, I.len⟩
theorem Inv.unwish (I : Inv (X.wish E) pins σ H s) : Inv X pins σ H s := ⟨I.ok.unwish, I.os, I.bare, I.base, I.loc, I.cell, I.free, I.freeC, I.pin, I.hok, I.len⟩
theorem SP.unwish (h : SP (X.wish E) pins D f s') : SP X pins D f s' := by
  cases f with
  | next => obtain ⟨σ', H', I, q⟩ := h; exact ⟨σ', H', I.unwish, q⟩
  | brk => obtain ⟨σ', H', I, q⟩ := h; exact ⟨σ', H', I.unwish, q⟩
  | cont => obtain ⟨σ', H', I, q⟩ := h; exact ⟨σ', H', I.unwish, q⟩
  | ret u => obtain ⟨v, σ', H', I, r, q⟩ := h; exact ⟨v, σ', H', I.unwish, r, q⟩
theorem PSs.nox {st : List Stmt} {t : TS} (h : PSs X.nox st t) : PSs X st t := fun pins s σ H D I hw =>
  wpAny_mono (h pins s σ H D (I.wish _) hw) (fun _ _ q => q.unwish) fun _ _ z => False.elim z
end

section
variable {X : Cx} {st : Stmt} {rest : List Stmt} {t u : TS} {e : Expr} {te : TE} {pos : Pos}
def tNext : TS := fun D σ H => D.nx σ H
def tSeq (t u : TS) : TS := fun D σ H => t { D with nx := u D } σ H
theorem pss_nil : PSs X [] tNext := fun _ _ σ H _ I h => wpAny_execs_nil ⟨σ, H, I, h⟩
theorem pss_cons (h1 : PS X st t) (h2 : PSs X rest u) : PSs X (st :: rest) (tSeq t u) := by
  intro pins s σ H D I h
  refine wpAny_execs_cons (thn (h1 pins s σ H { D with nx := u D } I h) fun f s1 q => ?_)
  cases f with
  | next =>
    obtain ⟨σ', H', I', q⟩ := q
    exact h2 pins s1 σ' H' D I' q
  | ret v => exact q
  | brk => exact q
  | cont => exact q
theorem pss_one (h1 : PS X st t) : PSs X [st] t := by
  intro pins s σ H D I h
  refine wpAny_execs_cons (thn (h1 pins s σ H D I h) fun f s1 q => ?_)
  cases f with
  | next => exact wpAny_execs_nil q
  | ret v => exact q
  | brk => exact q
  | cont => exact q
theorem Inv.quiet (I : Inv X pins σ H s) : interactive X.env = false := by simp [interactive, I.ok.kind]
def tDrop (te : TE) : TS := fun D σ H => te σ H fun _ H1 => D.nx σ H1
theorem ps_expr (he : PE X e te) (hs : swapsWith e none pos.line X.env = pure false := by rfl) : PS X (.Expr e pos) (tDrop te) := by
  intro pins s σ H D I h
  exact wpAny_Expr_any (thn (he pins s σ H _ I h) fun v s1 ⟨x, H1, I1, r1, q1⟩ => ⟨σ, H1, I1, q1⟩) I.quiet hs
def tRet (te : TE) : TS := fun D σ H => te σ H D.rt
theorem ps_ret (he : PE X e te) : PS X (.Return (some e) pos) (tRet te) := by
  intro pins s σ H D I h
  exact wpAny_Return_some (thn (he pins s σ H _ I h) fun v s1 ⟨x, H1, I1, r1, q1⟩ => ⟨x, σ, H1, I1, r1, q1⟩)
def tIfS (c : TT) (t u : TS) : TS := fun D σ H => c σ H fun b H1 => if b = true then t D σ H1 else u D σ H1
theorem ps_if {c : Expr} {a b : List Stmt} {tc : TT} (hc : PT X c tc) (ha : PSs X a t) (hb : PSs X b u) : PS X (.If c a b pos) (tIfS tc t u) := by
  intro pins s σ H D I h
  refine wpAny_If (thn (hc pins s σ H _ I h) fun d s1 ⟨H1, I1, q1⟩ => ?_)
  cases d with
  | true => exact ha pins s1 σ H1 D I1 q1
  | false => exact hb pins s1 σ H1 D I1 q1
def tNever : TS := fun _ _ _ => False
theorem ps_never : PS X st tNever := fun _ _ _ _ _ _ h => h.elim
end

abbrev TG := V → St → Hp → (St → Hp → Prop) → Prop
abbrev TGs := List V → St → Hp → (St → Hp → Prop) → Prop
def PG (X : Cx) (target : Expr) (t : TG) : Prop :=
  ∀ (pins : List (Addr × Obj)) (s : Shared) (σ : St) (H : Hp) (v : V) (u : Value) (Q : St → Hp → Prop), Inv X pins σ H s → RelV v u → t v σ H Q →
    wpAny (model X.prog X.w) X.A (assign target X.env u) (fun _ s' => ∃ σ' H', Inv X pins σ' H' s' ∧ Q σ' H') X.xe s
def PGs (X : Cx) (ts : List Expr) (t : TGs) : Prop :=
  ∀ (pins : List (Addr × Obj)) (s : Shared) (σ : St) (H : Hp) (vs : List V) (us : List Value) (Q : St → Hp → Prop), Inv X pins σ H s → Vals vs us → t vs σ H Q →
    wpAny (model X.prog X.w) X.A (assignInOrder ((assignEach ts X.env).map (·.2)) us) (fun _ s' => ∃ σ' H', Inv X pins σ' H' s' ∧ Q σ' H') X.xe s
section
variable {X : Cx} {pos : Pos}
def gName (i : Nat) : TG := fun v σ H Q => Q (σ.set i (some v)) H
theorem pg_name (hN : X.N.Nodup) (hi : X.N[i]? = some x) (hx : Loc X.env.scope x) (hf : X.fn x = true ∨ X.env.scope.names.lookup x = some .local := by first | exact .inl rfl | exact .inr rfl | assumption) : PG X (.Name x pos) (gName i) := by
  intro pins s σ H v u Q I r h
  exact wpAny_assign_Name (store_ok I hN hi hx r (fun s' I' => ⟨_, H, I', h⟩) hf)
def gNil : TGs := fun vs σ H Q => vs = [] ∧ Q σ H
def gCons (t : TG) (u : TGs) : TGs := fun vs σ H Q => ∃ v r, vs = v :: r ∧ t v σ H fun σ' H' => u r σ' H' Q
theorem pgs_nil : PGs X [] gNil := by
  intro pins s σ H vs us Q I r h
  obtain ⟨e, h⟩ := h
  subst e
  exact assignInOrder_nil ⟨σ, H, I, h⟩
theorem pgs_cons {e : Expr} {es : List Expr} {t : TG} {u : TGs} (h1 : PG X e t) (h2 : PGs X es u)
    (hs : (assignEach (e :: es) X.env).map (·.2) = assign e X.env :: (assignEach es X.env).map (·.2) := by rfl) : PGs X (e :: es) (gCons t u) := by
  intro pins s σ H vs us Q I r h
  obtain ⟨v, vr, e1, h⟩ := h
  subst e1
  cases r with
  | cons r rr =>
    rw [hs]
    refine assignInOrder_cons (thn (h1 pins s σ H _ _ _ I r h) fun _ s1 ⟨σ1, H1, I1, q1⟩ => ?_)
    exact h2 pins s1 σ1 H1 _ _ Q I1 rr q1
def tAsg (te : TE) (g : TG) : TS := fun D σ H => te σ H fun x H1 => g x σ H1 D.nx
theorem ps_asg {tg e : Expr} {te : TE} {g : TG} (he : PE X e te) (hg : PG X tg g) (hs : swapsWithSole [tg] e pos.line X.env = pure false := by rfl) (hw : swappedStores [tg] e X.env = pure none := by rfl)
    (h1 : (assignEach [tg] X.env).map (·.2) = [assign tg X.env] := by rfl) : PS X (.Assign [tg] e pos) (tAsg te g) := by
  intro pins s σ H D I h
  refine wpAny_Assign_stores (thn (he pins s σ H _ I h) fun v s1 ⟨x, H1, I1, r1, q1⟩ => ?_) hs hw
  rw [h1]
  exact thn (hg pins s1 σ H1 x v _ I1 r1 q1) fun _ s2 q => q
theorem ps_set {i : Nat} {x : Str} {e : Expr} {te : TE} {pos' : Pos} (hN : X.N.Nodup) (hi : X.N[i]? = some x) (hx : Loc X.env.scope x) (he : PE X e te) (hs : swapsWith e (some (.Name x pos')) pos.line X.env = pure false := by rfl) (hf : X.fn x = true ∨ X.env.scope.names.lookup x = some .local := by first | exact .inl rfl | exact .inr rfl | assumption) :
    PS X (.Assign [.Name x pos'] e pos) (tAsg te (gName i)) := by
  intro pins s σ H D I h
  exact wpAny_Assign_Name (thn (he pins s σ H _ I h) fun v s1 ⟨y, H1, I1, r1, q1⟩ => (store_ok I1 hN hi hx r1 (fun s2 I2 => ⟨_, H1, I2, q1⟩) hf)) hs
end

section
variable {X : Cx} {pos : Pos}
end

structure It where
  go : Nat → Hp → Prop
  yld : Nat → Hp → V → Hp → Prop
  stop : Nat → Hp → Prop
def FpOk (X : Cx) (pins : List (Addr × Obj)) (H : Hp) (b : Addr) : Prop :=
  H b = none ∧ b ≠ X.env.locals ∧ b ∉ X.fs ∧ (b ∈ X.ex ∨ X.s₀.heap.objs.size ≤ b) ∧ (∀ x c, X.env.cells.lookup x = some c → c ≠ b) ∧ ∀ p ∈ X.pn ++ pins, p.1 ≠ b
theorem Inv.fpOk (I : Inv X pins σ H s) (hb : s.heap.objs.size ≤ b) (hn : H' b = none) : FpOk X pins H' b := by
  refine ⟨hn, Nat.ne_of_gt (Nat.lt_of_lt_of_le I.lt hb), I.nofs hb, .inr (Nat.le_trans I.sz hb), fun x c e z => ?_, fun p hp z => ?_⟩
  · obtain ⟨v, q⟩ := I.cell x c e
    exact absurd (Nat.lt_of_lt_of_le q.lt (by lia)) (Nat.lt_irrefl _)
  · exact absurd (Nat.lt_of_lt_of_le (Heap.lt_size (I.pin p hp).1) (z ▸ hb)) (Nat.lt_irrefl _)
structure Turn (P : Program) (w : World) (K : PySem.W.Frag) (tg : Expr) (J : It) (fp : List Addr) (it : Addr) (tn : Nat → Heap → Prop) : Prop where
  mem : it ∈ fp
  obj : ∀ i h, tn i h → ∀ b ∈ fp, ∃ o, h.get? b = some o ∧ ∀ v, o.data ≠ .cell v
  keep : ∀ i h h', tn i h → (∀ b ∈ fp, ∀ o, h.get? b = some o → h'.get? b = some o) → tn i h'
  item : ∀ (X : Cx), X.prog = P → X.w = w → X.K = K → X.calm = true → ∀ (i : Nat) (pins : List (Addr × Obj)) (s : Shared) (σ : St) (H : Hp) (E : Value → Shared → Prop), Inv X pins σ H s → (∀ b ∈ fp, FpOk X pins H b) → tn i s.heap → J.go i H →
    wpAny (model P w) X.A (pyNext (.ref it)) (fun r s1 => ∃ u, r = some u ∧
      wpAny (model P w) X.A (letOwnedTupleGo tg (.ref it) u) (fun _ s2 => ∃ x H', Inv X pins σ H' s2 ∧ RelV x u ∧ J.yld i H x H' ∧ tn (i + 1) s2.heap ∧ ∀ b ∈ fp, H' b = none) E s1) E s
  done : ∀ (X : Cx), X.prog = P → X.w = w → X.K = K → X.calm = true → ∀ (i : Nat) (pins : List (Addr × Obj)) (s : Shared) (σ : St) (H : Hp) (E : Value → Shared → Prop), Inv X pins σ H s → (∀ b ∈ fp, FpOk X pins H b) → tn i s.heap → J.stop i H →
    wpAny (model P w) X.A (pyNext (.ref it)) (fun r s1 => r = none ∧ Inv X pins σ H s1) E s
  self : ∀ (A : Around) (i : Nat) (s : Shared) (Q : Value → Shared → Prop) (E : Value → Shared → Prop), tn i s.heap → Q (.ref it) s → wpAny (model P w) A (pyIter (.ref it)) Q E s
abbrev TI := St → Hp → (It → Hp → Prop) → Prop
def PIE (X : Cx) (pins : List (Addr × Obj)) (σ : St) (tg : Expr) (R : It → Hp → Prop) (itv : Value) (s2 : Shared) : Prop :=
  ∃ (it : Addr) (fp : List Addr) (tn : Nat → Heap → Prop) (J : It) (H' : Hp), itv = .ref it ∧ Inv X pins σ H' s2 ∧ Turn X.prog X.w X.K tg J fp it tn ∧ tn 0 s2.heap ∧ (∀ b ∈ fp, FpOk X pins H' b) ∧ R J H'
def PI (X : Cx) (tg iter : Expr) (wi : TI) : Prop :=
  ∀ (pins : List (Addr × Obj)) (s : Shared) (σ : St) (H : Hp) (R : It → Hp → Prop), Inv X pins σ H s → wi σ H R →
    wpAny (model X.prog X.w) X.A (eval iter X.env) (fun v s1 => wpAny (model X.prog X.w) X.A (pyIter v) (PIE X pins σ tg R) X.xe s1) X.xe s

theorem go_of {E : Value → Shared → Prop} {Q : Unit → Shared → Prop} (ho : s.heap.get? it = some o) (hc : o.cls = .type n) (hd : o.data = .fields vs) (hn : ["enumerate", "zip", "dict_itemiterator", "dict_reverseitemiterator", "odict_iterator", "itertools.zip_longest", "itertools.pairwise"].contains n = false) (hQ : Q () s) : wpAny M A (letOwnedTupleGo tg (.ref it) u) Q E s := by
  cases tg <;> first
    | exact wpAny_pure hQ
    | (cases u <;> first
        | exact wpAny_pure hQ
        | (refine wpAny_bind (wpAny_load ho ?_)
           rw [hc, hd]
           show wpAny M A (if (["enumerate", "zip", "dict_itemiterator", "dict_reverseitemiterator", "odict_iterator", "itertools.zip_longest", "itertools.pairwise"].contains n && vs[0]? == some (rawInt _)) = true then _ else _) Q E s
           rw [if_neg (by lia)]
           exact wpAny_pure hQ))

def Itl (K : PySem.W.Frag) (a : Addr) : It :=
  ⟨fun i H => ∃ xs x, SqL K H a xs ∧ xs[i]? = some x, fun i H x H' => H' = H ∧ ∀ xs, SqL K H a xs → xs[i]? = some x, fun i H => ∃ xs, SqL K H a xs ∧ xs.length ≤ i⟩
def Itt (K : PySem.W.Frag) (a : Addr) : It :=
  ⟨fun i H => ∃ xs x, SqT K H a xs ∧ xs[i]? = some x, fun i H x H' => H' = H ∧ ∀ xs, SqT K H a xs → xs[i]? = some x, fun i H => ∃ xs, SqT K H a xs ∧ xs.length ≤ i⟩
theorem turn_list {P : Program} {w : World} {K : PySem.W.Frag} {tg : Expr} (a it : Addr) : Turn P w K tg (Itl K a) [it] it (fun i h => h.IsListIter it a i) where
  mem := by simp
  obj := fun i h st b hb => by
    have e : b = it := by simpa using hb
    subst e
    obtain ⟨o, e, c, d⟩ := st
    grind
  keep := fun i h h' st k => st.at fun o e => k it (by simp) o e
  item := by
    intro X hP hw hK hc i pins s σ H E I hf st hg
    subst hP hw hK
    obtain ⟨xs, x, hq, hx⟩ := hg
    obtain ⟨its, rv, p, hz⟩ := I.list hq
    obtain ⟨u, hu, ru⟩ := rv.get hx
    obtain ⟨f0, f1, f2, f3, f4, f5⟩ := hf it (by simp)
    refine wpAny_pyNext_list_item st p.isList (by simpa using hu) fun h' st' sb => ?_
    have I1 : Inv X pins σ H { s with heap := h' } := I.turned (t' := s.toks) (fun b o hb e => (sb.2 b hb).trans e) f0 f1 f3 f4 f5
    obtain ⟨o, e, c, d⟩ := id st'
    exact ⟨u, rfl, go_of e c d (by decide) ⟨x, H, I1, ru, ⟨rfl, fun ys hy => by rw [I.list_inj hy hq]; exact hx⟩, st', fun b hb => (hf b hb).1⟩⟩
  done := by
    intro X hP hw hK hc i pins s σ H E I hf st hg
    subst hP hw hK
    obtain ⟨xs, hq, hx⟩ := hg
    obtain ⟨its, rv, p, hz⟩ := I.list hq
    obtain ⟨f0, f1, f2, f3, f4, f5⟩ := hf it (by simp)
    have hl := rv.length
    exact wpAny_pyNext_list_end (I.ok.hd hc) st p.isList (by simp; lia) fun h' eb => ⟨rfl, I.turned (t' := s.toks) (fun b o hb e => eb b o hb e) f0 f1 f3 f4 f5⟩
  self := fun _ _ _ _ _ st h => wpAny_pyIter_listiter st h
theorem turn_tuple {P : Program} {w : World} {K : PySem.W.Frag} {tg : Expr} (a it : Addr) : Turn P w K tg (Itt K a) [it] it (fun i h => h.IsTupleIter it a i) where
  mem := by simp
  obj := fun i h st b hb => by
    have e : b = it := by simpa using hb
    subst e
    obtain ⟨o, e, c, d⟩ := st
    grind
  keep := fun i h h' st k => st.at fun o e => k it (by simp) o e
  item := by
    intro X hP hw hK hc i pins s σ H E I hf st hg
    subst hP hw hK
    obtain ⟨xs, x, hq, hx⟩ := hg
    obtain ⟨its, rv, p, hz⟩ := I.tuple hq
    obtain ⟨u, hu, ru⟩ := rv.get hx
    obtain ⟨f0, f1, f2, f3, f4, f5⟩ := hf it (by simp)
    refine wpAny_pyNext_tuple_item st (p) (x := u) (by simpa using hu) fun h' st' sb => ?_
    have I1 : Inv X pins σ H { s with heap := h' } := I.turned (t' := s.toks) (fun b o hb e => (sb.2 b hb).trans e) f0 f1 f3 f4 f5
    obtain ⟨o, e, c, d⟩ := id st'
    exact ⟨u, rfl, go_of (s := { s with heap := h' }) e c d (by decide) ⟨x, H, I1, ru, ⟨rfl, fun ys hy => by rw [I.tuple_inj hy hq]; exact hx⟩, st', fun b hb => (hf b hb).1⟩⟩
  done := by
    intro X hP hw hK hc i pins s σ H E I hf st hg
    subst hP hw hK
    obtain ⟨xs, hq, hx⟩ := hg
    obtain ⟨its, rv, p, hz⟩ := I.tuple hq
    obtain ⟨f0, f1, f2, f3, f4, f5⟩ := hf it (by simp)
    have hl := rv.length
    exact wpAny_pyNext_tuple_end (I.ok.hd hc) st (p) (by simp; lia) fun h' eb => ⟨rfl, I.turned (t' := s.toks) (fun b o hb e => eb b o hb e) f0 f1 f3 f4 f5⟩
  self := fun _ _ _ _ _ st h => wpAny_pyIter_tupleiter st h
end L2

namespace L2
open PySem PySem.Spec PyProof.Rows
section
variable {X : Cx} {tg : Expr}
def iList (K : PySem.W.Frag) (tl : TE) : TI := fun σ H R => tl σ H fun x H1 => ∃ a, x = .ref a ∧ (∃ xs, SqL K H1 a xs) ∧ R (Itl K a) H1
def iTup (K : PySem.W.Frag) (tl : TE) : TI := fun σ H R => tl σ H fun x H1 => ∃ a, x = .ref a ∧ (∃ xs, SqT K H1 a xs) ∧ R (Itt K a) H1
theorem pi_list (hl : PE X l tl) : PI X tg l (iList X.K tl) := by
  intro pins s σ H R I h
  refine thn (hl pins s σ H _ I h) fun v s1 ⟨x, H1, I1, r1, q1⟩ => ?_
  obtain ⟨a, e, ⟨xs, hq⟩, q⟩ := q1
  subst e
  cases r1
  obtain ⟨its, rv, p, hz⟩ := I1.list hq
  refine wpAny_pyIter_list p.isList (⟨s1.heap.objs.size, [s1.heap.objs.size], _, _, H1, rfl, I1.kept (t' := s1.toks) fun b o e => Heap.get?_push_of_some _ e, turn_list a _, ⟨_, Heap.get?_push_size _ rfl, rfl, rfl⟩, fun b hb => ?_, q⟩)
  have e : b = s1.heap.objs.size := by simpa using hb
  subst e
  exact I1.fpOk (Nat.le_refl _) (I1.hok.fresh (Nat.le_refl _))
theorem pi_tup {l : Expr} {tl : TE} (hl : PE X l tl) : PI X tg l (iTup X.K tl) := by
  intro pins s σ H R I h
  refine thn (hl pins s σ H _ I h) fun v s1 ⟨x, H1, I1, r1, q1⟩ => ?_
  obtain ⟨a, e, ⟨xs, hq⟩, q⟩ := q1
  subst e
  cases r1
  obtain ⟨its, rv, p, hz⟩ := I1.tuple hq
  refine wpAny_pyIter_tuple (p) (⟨s1.heap.objs.size, [s1.heap.objs.size], _, _, H1, rfl, I1.kept (t' := s1.toks) fun b o e => Heap.get?_push_of_some _ e, turn_tuple a _, ⟨_, Heap.get?_push_size _ rfl, rfl, rfl⟩, fun b hb => ?_, q⟩)
  have e : b = s1.heap.objs.size := by grind
  subst e
  exact I1.fpOk (Nat.le_refl _) (I1.hok.fresh (Nat.le_refl _))
def tFor (wi : TI) (g : TG) (tb : TS) : TS := fun D σ H => wi σ H fun J H1 => ∃ W : Nat → Nat → St → Hp → Prop, (∃ m, W 0 m σ H1) ∧ ∀ i m σ H, W i m σ H →
  (J.stop i H ∧ D.nx σ H) ∨ (J.go i H ∧ ∃ N : St → Hp → Prop, (∀ σ' H', N σ' H' → ∃ m', m' < m ∧ W (i + 1) m' σ' H') ∧ ∀ x H', J.yld i H x H' → g x σ H' fun σ2 H2 => tb { D with nx := N, ct := N, bk := D.nx } σ2 H2)
def pinsAt (fp : List Addr) (h : Heap) : List (Addr × Obj) := fp.filterMap fun b => (h.get? b).map fun o => (b, o)
theorem mem_pinsAt (hb : b ∈ fp) (e : h.get? b = some o) : (b, o) ∈ pinsAt fp h := List.mem_filterMap.mpr ⟨b, hb, by rw [e]; rfl⟩
theorem of_pinsAt (hp : p ∈ pinsAt fp h) : p.1 ∈ fp ∧ h.get? p.1 = some p.2 := by
  obtain ⟨b, hb, e⟩ := List.mem_filterMap.mp hp
  cases q : h.get? b with
  | none => rw [q] at e; cases e
  | some o =>
    grind
theorem Inv.pinned (I : Inv X pins σ H s) (hf : ∀ b ∈ fp, FpOk X pins H b) (ho : ∀ b ∈ fp, ∃ o, s.heap.get? b = some o ∧ ∀ v, o.data ≠ .cell v) : Inv X (pins ++ pinsAt fp s.heap) σ H s :=
  I.pins_of fun p hp => (List.mem_append.mp hp).elim (fun z => I.pin p (List.mem_append_right _ z)) fun z => by
    obtain ⟨hb, e⟩ := of_pinsAt z
    obtain ⟨f0, f1, f2, _⟩ := hf p.1 hb
    obtain ⟨o, e', d⟩ := ho p.1 hb
    rw [e] at e'; cases e'
    exact ⟨e, f0, f1, f2, d⟩
theorem Inv.unpinned (I : Inv X (pins ++ pl) σ H s) : Inv X pins σ H s := I.pins_of fun p hp => I.pin p (List.mem_append_right _ (List.mem_append_left _ hp))
theorem ps_for (hp : PassesOwn (model X.prog X.w) X.A X.env X.xe) (hc : X.calm = true) (hi : PI X tg iter wi) (hg : PG X tg g) (hb : PSs X body tb) (hs : ∀ x, foldedSetIterable iter X.env x = pure x := by intro _; rfl) : PS X (.For tg iter body [] pos) (tFor wi g tb) := by
  intro pins s σ H D I h
  refine wpAny_For (thn (hi pins s σ H _ I h) fun v s1 h1 => thn h1 fun itv s2 h2 => ?_) hs
  obtain ⟨it, fp, tn, J, H2, e, I2, T, st2, f2, W, ⟨m0, w0⟩, turn⟩ := h2
  subst e
  -- what stays true of the iterator's objects through the loop
  have stat : ∀ {H' : Hp}, (∀ b ∈ fp, H' b = none) → ∀ b ∈ fp, FpOk X pins H' b := fun hn b hb => ⟨hn b hb, (f2 b hb).2⟩
  refine codeAny_forLoop_any (fun n s' => ∃ i σ' H', Inv X pins σ' H' s' ∧ tn i s'.heap ∧ (∀ b ∈ fp, H' b = none) ∧ W i n σ' H') ?_ m0 ⟨0, σ, H2, I2, st2, fun b hb => (f2 b hb).1, w0⟩
  rintro n s3 ⟨i, σ3, H3, I3, st3, fr3, w3⟩
  rcases turn i n σ3 H3 w3 with ⟨stop, qn⟩ | ⟨go, N, hN, step⟩
  · refine wpAny_passesOwn hp (thn (T.done X rfl rfl rfl hc i pins s3 σ3 H3 X.xe I3 (stat fr3) st3 stop) fun r s4 ⟨hr, I4⟩ => ?_)
    subst hr
    exact wpAny_execs_nil ⟨σ3, H3, I4, qn⟩
  · refine wpAny_passesOwn hp (thn (T.item X rfl rfl rfl hc i pins s3 σ3 H3 X.xe I3 (stat fr3) st3 go) fun r s4 ⟨u, hr, h4⟩ => ?_)
    subst hr
    refine wpAny_passesOwn hp (thn h4 fun _ s5 ⟨x, H5, I5, r5, y5, st5, fr5⟩ => ?_)
    have I5' := I5.pinned (stat fr5) (T.obj _ _ st5)
    refine wpAny_passesOwn hp (thn (hg _ s5 σ3 H5 x u _ I5' r5 (step x H5 y5)) fun _ s6 ⟨σ6, H6, I6, q6⟩ => (wpAny_passesOwn hp (thn (hb _ s6 σ6 H6 _ I6 q6) fun f s7 q7 => ?_)))
    have again : ∀ {σ7 : St} {H7 : Hp}, Inv X (pins ++ pinsAt fp s5.heap) σ7 H7 s7 → N σ7 H7 → ∃ m, m < n ∧ ∃ i σ' H', Inv X pins σ' H' s7 ∧ tn i s7.heap ∧ (∀ b ∈ fp, H' b = none) ∧ W i m σ' H' := fun {σ7 H7} I7 n7 => by
      obtain ⟨m', hm, w7⟩ := hN σ7 H7 n7
      refine ⟨m', hm, i + 1, σ7, H7, I7.unpinned, T.keep _ _ _ st5 fun b hb o e => (I7.pin (b, o) (List.mem_append_right _ (List.mem_append_right _ (mem_pinsAt hb e)))).1, fun b hb => ?_, w7⟩
      obtain ⟨o, e, d⟩ := T.obj _ _ st5 b hb
      exact (I7.pin (b, o) (List.mem_append_right _ (List.mem_append_right _ (mem_pinsAt hb e)))).2.1
    cases f with
    | next => obtain ⟨σ7, H7, I7, n7⟩ := q7; exact again I7 n7
    | cont => obtain ⟨σ7, H7, I7, n7⟩ := q7; exact again I7 n7
    | brk => obtain ⟨σ7, H7, I7, q7⟩ := q7; exact ⟨σ7, H7, I7.unpinned, q7⟩
    | ret v => obtain ⟨x7, σ7, H7, I7, r7, q7⟩ := q7; exact ⟨x7, σ7, H7, I7.unpinned, r7, q7⟩
end

end L2

namespace L2
open PySem PySem.Spec PyProof.Rows

abbrev R2 := V → V → Hp → VK → Prop
def OpR (X : Cx) (f : Value → Value → Sem Value) (r : R2) : Prop :=
  ∀ (pins : List (Addr × Obj)) (s : Shared) (σ : St) (H : Hp) (x y : V) (v u : Value) (Q : VK), Inv X pins σ H s → RelV x v → RelV y u → r x y H Q →
    wpAny (model X.prog X.w) X.A (f v u) (EP X pins σ Q) X.xe s
def UnR (X : Cx) (f : Value → Sem Value) (r : V → Hp → VK → Prop) : Prop :=
  ∀ (pins : List (Addr × Obj)) (s : Shared) (σ : St) (H : Hp) (x : V) (v : Value) (Q : VK), Inv X pins σ H s → RelV x v → r x H Q →
    wpAny (model X.prog X.w) X.A (f v) (EP X pins σ Q) X.xe s
def CallR (X : Cx) (f : Value) (r : List V → Hp → VK → Prop) : Prop :=
  ∀ (pins : List (Addr × Obj)) (s : Shared) (σ : St) (H : Hp) (xs : List V) (us : List Value) (Q : VK), Inv X pins σ H s → Vals xs us → r xs H Q →
    wpAny (model X.prog X.w) X.A (call f us) (EP X pins σ Q) X.xe s
def tUn (r : V → Hp → VK → Prop) (ta : TE) : TE := fun σ H Q => ta σ H fun x H1 => r x H1 Q
def rI (C : Int → Int → Prop) (g : Int → Int → V) : R2 := fun x y H Q => ∃ i j, x = .int i ∧ y = .int j ∧ C i j ∧ Q (g i j) H
def rI0 (g : Int → Int → V) : R2 := fun x y H Q => ∃ i j, x = .int i ∧ y = .int j ∧ Q (g i j) H
def rU (g : Int → V) : V → Hp → VK → Prop := fun x H Q => ∃ i, x = .int i ∧ Q (g i) H

section
variable {X : Cx} {a b c : Expr} {ta tb tc : TE} {pos : Pos}

theorem binT (ha : PE X a ta) (hb : PE X b tb) {pins : List (Addr × Obj)} {s : Shared} {σ : St} {H : Hp} {R : V → V → Hp → Prop} (I : Inv X pins σ H s)
    (h : ta σ H fun x H1 => tb σ H1 fun y H2 => R x y H2) {Q : Value → Shared → Prop} {f : Value → Value → Sem Value}
    (hf : ∀ v u s2 x y H2, Inv X pins σ H2 s2 → RelV x v → RelV y u → R x y H2 → wpAny (model X.prog X.w) X.A (f v u) Q X.xe s2) :
    wpAny (model X.prog X.w) X.A (eval a X.env) (fun v s₁ => wpAny (model X.prog X.w) X.A (eval b X.env) (fun u s₂ => wpAny (model X.prog X.w) X.A (f v u) Q X.xe s₂) X.xe s₁) X.xe s := by
  refine thn (ha pins s σ H _ I h) fun v s1 ⟨x, H1, I1, r1, q1⟩ => ?_
  exact thn (hb pins s1 σ H1 _ I1 q1) fun u s2 ⟨y, H2, I2, r2, q2⟩ => (hf v u s2 x y H2 I2 r1 r2 q2)

theorem pe_un {r : V → Hp → VK → Prop} (ho : UnR X (unaryOp op) r) (ha : PE X a ta) : PE X (.UnaryOp op a pos) (tUn r ta) := by
  intro pins s σ H Q I h
  exact UnaryOp_ (thn (ha pins s σ H _ I h) fun v s1 ⟨x, H1, I1, r1, q1⟩ => ho pins s1 σ H1 x v Q I1 r1 q1)
theorem opI {f : Value → Value → Sem Value} {C : Int → Int → Prop} {g : Int → Int → Int}
    (rule : ∀ (i j : Int) (t u : Tok) (s : Shared) (Q : Value → Shared → Prop) (E : Value → Shared → Prop), C i j → Q (.int (g i j) s.toks) { s with toks := s.toks + 1 } → wpAny (model X.prog X.w) X.A (f (.int i t) (.int j u)) Q E s) :
    OpR X f (rI C fun i j => .int (g i j)) := by
  intro pins s σ H x y v u Q I rx ry h
  obtain ⟨i, j, rfl, rfl, hc, q⟩ := h
  obtain ⟨t, rfl⟩ := rx
  obtain ⟨t', rfl⟩ := ry
  exact rule i j t t' s _ _ hc ⟨.int (g i j), H, I.tok _, ⟨_, rfl⟩, q⟩
theorem opI0 {f : Value → Value → Sem Value} {g : Int → Int → Int}
    (rule : ∀ (i j : Int) (t u : Tok) (s : Shared) (Q : Value → Shared → Prop) (E : Value → Shared → Prop), Q (.int (g i j) s.toks) { s with toks := s.toks + 1 } → wpAny (model X.prog X.w) X.A (f (.int i t) (.int j u)) Q E s) :
    OpR X f (rI0 fun i j => .int (g i j)) := by
  intro pins s σ H x y v u Q I rx ry h
  obtain ⟨i, j, rfl, rfl, q⟩ := h
  obtain ⟨t, rfl⟩ := rx
  obtain ⟨t', rfl⟩ := ry
  exact rule i j t t' s _ _ ⟨.int (g i j), H, I.tok _, ⟨_, rfl⟩, q⟩
theorem opB0 {f : Value → Value → Sem Value} {g : Int → Int → Bool}
    (rule : ∀ (i j : Int) (t u : Tok) (s : Shared) (Q : Value → Shared → Prop) (E : Value → Shared → Prop), Q (.bool (g i j)) s → wpAny (model X.prog X.w) X.A (f (.int i t) (.int j u)) Q E s) :
    OpR X f (rI0 fun i j => .bl (g i j)) := by
  intro pins s σ H x y v u Q I rx ry h
  obtain ⟨i, j, rfl, rfl, q⟩ := h
  obtain ⟨t, rfl⟩ := rx
  obtain ⟨t', rfl⟩ := ry
  exact rule i j t t' s _ _ ⟨.bl (g i j), H, I, rfl, q⟩

def CPow (i j : Int) : Prop := 0 ≤ j ∧ j ≤ 1000000 ∧ i.natAbs < 2 ^ 64
theorem op_add : OpR X (binaryOp .Add) (rI0 fun i j => .int (i + j)) := opI0 fun _ _ _ _ _ _ _ q => add_int q
theorem op_sub : OpR X (binaryOp .Sub) (rI0 fun i j => .int (i - j)) := opI0 fun _ _ _ _ _ _ _ q => sub_int q
theorem op_modN : OpR X (binaryOp .Mod) (rI (fun _ j => j ≠ 0) fun i j => .int (i.fmod j)) := opI fun _ _ _ _ _ _ _ hc q => mod_int' hc q
theorem op_pow : OpR X (binaryOp .Pow) (rI CPow fun i j => .int (i ^ j.toNat)) := opI fun _ _ _ _ _ _ _ hc q => pow_int_small hc.1 hc.2.1 hc.2.2 q
theorem unI {f : Value → Sem Value} {g : Int → Int}
    (rule : ∀ (i : Int) (t : Tok) (s : Shared) (Q : Value → Shared → Prop) (E : Value → Shared → Prop), Q (.int (g i) s.toks) { s with toks := s.toks + 1 } → wpAny (model X.prog X.w) X.A (f (.int i t)) Q E s) :
    UnR X f (rU fun i => .int (g i)) := by
  intro pins s σ H x v Q I rx h
  obtain ⟨i, rfl, q⟩ := h
  obtain ⟨t, rfl⟩ := rx
  exact rule i t s _ _ ⟨.int (g i), H, I.tok _, ⟨_, rfl⟩, q⟩
theorem un_neg : UnR X (unaryOp .USub) (rU fun i => .int (-i)) := unI fun _ _ _ _ _ q => neg_int q
end

section
variable {X : Cx} {a b c : Expr} {ta tb tc : TE} {pos : Pos}
theorem fin_bl (I : Inv X pins σ H s) (q : Q (.bl k) H) (e : k = k') : EP X pins σ Q (.bool k') s := by
  subst e
  exact ⟨.bl k, H, I, rfl, q⟩
theorem op_lt : OpR X (compareOp .Lt) (rI0 fun i j => .bl (decide (i < j))) := opB0 fun _ _ _ _ _ _ _ q => lt_int q
theorem op_le : OpR X (compareOp .LtE) (rI0 fun i j => .bl (decide (i ≤ j))) := opB0 fun _ _ _ _ _ _ _ q => le_int q
theorem op_gt : OpR X (compareOp .Gt) (rI0 fun i j => .bl (decide (j < i))) := opB0 fun _ _ _ _ _ _ _ q => gt_int q
theorem op_in_str : OpR X (compareOp .In) (fun x y H Q => ∃ i j, x = .str i ∧ y = .str j ∧ Q (.bl (!(Builtin.Str.occurrences j i 0 j.length 1).isEmpty)) H) := by
  intro pins s σ H x y v u Q I rx ry h
  obtain ⟨i, j, rfl, rfl, q⟩ := h
  obtain ⟨t, rfl⟩ := rx
  obtain ⟨t', rfl⟩ := ry
  exact in_str (fin_bl I q rfl)

theorem op_isN : OpR X (compareOp .Is) (fun x y H Q => y = .non ∧ Q (.bl (decide (x = .non))) H) := by
  intro pins s σ H x y v u Q I rx ry h
  obtain ⟨rfl, q⟩ := h
  cases ry
  refine is_none_gen (fin_bl I q ?_)
  cases x <;> first
    | (cases rx; rfl)
    | (obtain ⟨t, rfl⟩ := rx; rfl)
theorem op_notin_str : OpR X (compareOp .NotIn) (fun x y H Q => ∃ i j, x = .str i ∧ y = .str j ∧ Q (.bl (!(!(Builtin.Str.occurrences j i 0 j.length 1).isEmpty))) H) := by
  intro pins s σ H x y v u Q I rx ry h
  obtain ⟨i, j, rfl, rfl, q⟩ := h
  obtain ⟨t, rfl⟩ := rx
  obtain ⟨t', rfl⟩ := ry
  exact notIn_str (fin_bl I q rfl)
theorem nomark (b : Expr) (h : op ≠ .In := by decide) (h2 : op ≠ .NotIn := by decide) : behindInMarks op b = false := by
  have e1 : (op == CmpOp.In) = false := by cases op <;> first | rfl | exact absurd rfl h
  have e2 : (op == CmpOp.NotIn) = false := by cases op <;> first | rfl | exact absurd rfl h2
  cases b <;> simp [behindInMarks, e1, e2]
def tTest (t : TE) : TT := fun σ H Q => t σ H fun x H' => ∃ k, x = .bl k ∧ Q k H'
def tChain (r r' : R2) (ta tb tc : TE) : TE := fun σ H Q => ta σ H fun x H1 => tb σ H1 fun y H2 => r x y H2 fun z H3 => ∃ k, z = .bl k ∧
  (if k = true then tc σ H3 fun w' H4 => r' y w' H4 Q else Q (.bl false) H3)
theorem pt_chain (ho : OpR X (compareOp op) r) (ho' : OpR X (compareOp op') r') (ha : PE X a ta) (hb : PE X b tb) (hc : PE X c tc) (hm : lastMarks [op, op'] [b, c] = false := by with_unfolding_all rfl) : PT X (.Compare a [op, op'] [b, c] pos) (tTest (tChain r r' ta tb tc)) := by
  intro pins s σ H Q I h
  refine isTrue_chain (thn (ha pins s σ H _ I h) fun v s1 ⟨x, H1, I1, r1, q1⟩ => test_link (thn (hb pins s1 σ H1 _ I1 q1) fun u s2 ⟨y, H2, I2, r2, q2⟩ =>
    thn (ho pins s2 σ H2 x y v u _ I2 r1 r2 q2) fun d s3 ⟨z, H3, I3, r3, k, e, q3⟩ => ?_)) hm
  subst e
  cases r3
  refine wpAny_truthy_bool ?_
  cases k with
  | false =>
    obtain ⟨k', e', q'⟩ := q3
    cases e'
    exact ite_ff ⟨H3, I3, q'⟩
  | true =>
    refine ite_tt (test_last (thn (hc pins s3 σ H3 _ I3 q3) fun w' s4 ⟨z', H4, I4, r4, q4⟩ => thn (ho' pins s4 σ H4 y z' u w' _ I4 r2 r4 q4) fun d' s5 ⟨z2, H5, I5, r5, k2, e2, q5⟩ => ?_))
    subst e2
    cases r5
    exact wpAny_truthy_bool ⟨H5, I5, q5⟩

theorem line63 : (sizeLine : Nat) < 2 ^ 63 := by rw [sizeLine_eq]; decide
theorem op_add_str : OpR X (binaryOp .Add) (fun x y H Q => ∃ i j, x = .str i ∧ y = .str j ∧ i.length + j.length ≤ sizeLine ∧ Q (.str (i ++ j)) H) := by
  intro pins s σ H x y v u Q I rx ry h
  obtain ⟨i, j, rfl, rfl, hz, q⟩ := h
  obtain ⟨t, rfl⟩ := rx
  obtain ⟨t', rfl⟩ := ry
  exact add_str (fun t' tk => ⟨.str (i ++ j), H, I.tok _, ⟨_, rfl⟩, q⟩) hz
theorem vals1 (r : Vals [x] us) : ∃ u, us = [u] ∧ RelV x u := by
  cases r with
  | cons r1 r2 => cases r2; exact ⟨_, rfl, r1⟩
theorem vals2 (r : Vals [x, y] us) : ∃ u w', us = [u, w'] ∧ RelV x u ∧ RelV y w' := by
  cases r with
  | cons r1 r2 =>
    cases r2 with
    | cons r3 r4 => cases r4; exact ⟨_, _, rfl, r1, r3⟩
theorem call_max2 (hc : X.calm = true) : CallR X (.builtin "max") (fun xs H Q => ∃ i j, xs = [.int i, .int j] ∧ Q (.int (if j > i then j else i)) H) := by
  intro pins s σ H xs us Q I r h
  obtain ⟨i, j, rfl, q⟩ := h
  obtain ⟨u, w', rfl, ⟨t, rfl⟩, ⟨t', rfl⟩⟩ := vals2 r
  refine max_two_ints (I.ok.hd hc) fun h' tk k => ⟨_, H, I.kept k, ?_, q⟩
  by_cases hj : j > i
  · rw [if_pos hj, if_pos hj]; exact ⟨_, rfl⟩
  · rw [if_neg hj, if_neg hj]; exact ⟨_, rfl⟩
theorem call_min2 (hc : X.calm = true) : CallR X (.builtin "min") (fun xs H Q => ∃ i j, xs = [.int i, .int j] ∧ Q (.int (if j < i then j else i)) H) := by
  intro pins s σ H xs us Q I r h
  obtain ⟨i, j, rfl, q⟩ := h
  obtain ⟨u, w', rfl, ⟨t, rfl⟩, ⟨t', rfl⟩⟩ := vals2 r
  refine min_two_ints (I.ok.hd hc) fun h' tk k => ⟨_, H, I.kept k, ?_, q⟩
  by_cases hj : j < i
  · rw [if_pos hj, if_pos hj]; exact ⟨_, rfl⟩
  · rw [if_neg hj, if_neg hj]; exact ⟨_, rfl⟩
theorem call_int1 : CallR X (.type "int") (fun xs H Q => (∃ i, xs = [.int i] ∧ Q (.int i) H) ∨ ∃ k, xs = [.bl k] ∧ Q (.int (if k then 1 else 0)) H) := by
  intro pins s σ H xs us Q I r h
  rcases h with ⟨i, rfl, q⟩ | ⟨k, rfl, q⟩
  · obtain ⟨u, rfl, t, rfl⟩ := vals1 r
    exact call_int_int ⟨.int i, H, I, ⟨_, rfl⟩, q⟩
  · obtain ⟨u, rfl, r1⟩ := vals1 r
    cases r1
    exact call_int_bool ⟨.int (if k then 1 else 0), H, I.tok _, ⟨_, rfl⟩, q⟩
theorem call_str_int : CallR X (.type "str") (fun xs H Q => ∃ i, xs = [.int i] ∧ i.natAbs.log2 < 1920 ∧ Q (.str (toString i)) H) := by
  intro pins s σ H xs us Q I r h
  obtain ⟨i, rfl, hz, q⟩ := h
  obtain ⟨u, rfl, t, rfl⟩ := vals1 r
  exact PySem.P.str_of_int hz ⟨.str _, H, I.tok _, ⟨_, rfl⟩, q⟩
end
end L2

namespace L2
open PySem PySem.Spec PyProof.Rows

section
variable {prog : Program} {w : World} {A : Around} {E : Value → Shared → Prop} {s : Shared} {K : PySem.W.Frag} {x dx C f : Addr} {mA : Str → Option Value} {name : Str} {v : Value}

end

section
variable {P : Program} {w : World} {H H' : Hp} {h h' : Heap} {a C dx : Addr} {fs fs' : List (Str × V)}
end

section
variable {X : Cx} {pins : List (Addr × Obj)} {σ : St} {H : Hp} {s : Shared} {a C dx : Addr} {fs : List (Str × V)} {f : Str} {v : V} {A : Around} {E : Value → Shared → Prop}

end

section
variable {X : Cx} {o e value : Expr} {f : Str} {pos pos' tpos : Pos} {ta tv : TE}
end

section
variable {X : Cx} {pins : List (Addr × Obj)} {σ : St} {H : Hp} {s : Shared} {A : Around} {E : Value → Shared → Prop} {Q : Value → Shared → Prop} {c : Value} {b : Bool}
end
end L2

namespace L2
open PySem PySem.Spec PyProof.Rows

structure Room (k : Nat) (A : Around) : Prop where
  hd : A.handled = none
  dp : A.depth + 3 * k + 5 < recursionLimit
  un : A.units + 16 * k + 200 < cLine
theorem Room.mono (r : Room k A) (h : j ≤ k) : Room j A := ⟨r.hd, by have := r.dp; lia, by have := r.un; lia⟩
theorem Room.deeper (r : Room (k + 1) A) (env : Env) : Room k (A.deeper env) :=
  ⟨r.hd, by have := r.dp; show A.depth + 1 + 3 * k + 5 < _; lia, by have := r.un; show A.units + 3 + 16 * k + 200 < _; lia⟩
theorem Room.depth (r : Room k A) : A.depth < recursionLimit := by have := r.dp; lia
theorem Room.units (r : Room k A) : A.units + 64 < cLine := by have := r.un; lia
def tNil : TA := fun _ H Q => Q [] H
def tCons (ta : TE) (tr : TA) : TA := fun σ H Q => ta σ H fun x H1 => tr σ H1 fun xs H2 => Q (x :: xs) H2
section
variable {X : Cx} {e : Expr} {es : List Expr} {te : TE} {t : TA} {pos : Pos}
theorem pa_nil : PA X [] tNil := fun _ _ _ _ H Q I h => Calls.spliced_nil ⟨[], H, I, .nil, h⟩
theorem pa_cons (ha : PE X e te) (hr : PA X es t) (hs : starEach (e :: es) X.env = (false, eval e X.env) :: starEach es X.env := by rfl) : PA X (e :: es) (tCons te t) := by
  intro pos pins s σ H Q I h
  rw [hs]
  show wpAny _ _ (spliced ((false, eval e X.env) :: backTo pos (starEach es X.env))) _ _ s
  refine Calls.spliced_cons (thn (ha pins s σ H _ I h) fun u s1 ⟨x, H1, I1, r1, q1⟩ => ?_)
  exact thn (hr pos pins s1 σ H1 _ I1 q1) fun us s2 ⟨xs, H2, I2, r2, q2⟩ => ⟨x :: xs, H2, I2, .cons r1 r2, q2⟩

def tTup (t : TA) : TE := fun σ H Q => t σ H fun xs H1 => xs.length ≤ sizeLine ∧ ∀ p, H1 p = none → Q (.ref p) (upd H1 p (.tup xs))
def tLst (t : TA) : TE := fun σ H Q => t σ H fun xs H1 => xs.length ≤ sizeLine ∧ ∀ p, H1 p = none → Q (.ref p) (upd H1 p (.lst xs))
theorem pe_tup {x1} (h : PA X es t) : PE X (.Tuple es x1 pos) (tTup t) := by
  intro pins s σ H Q I hq
  refine wpAny_Tuple_spliced (thn (h pos pins s σ H _ I hq) fun us s1 ⟨xs, H1, I1, r, z, q⟩ => ⟨by rw [← r.length]; exact z, ?_⟩)
  have hf : H1 s1.heap.objs.size = none := I1.hok.fresh (Nat.le_refl _)
  refine ⟨.ref s1.heap.objs.size, upd H1 s1.heap.objs.size (.tup xs), I1.laid (t' := s1.toks) (fun b u e => Heap.get?_push_of_some _ e) (Nat.le_refl _) ?_, rfl, q _ hf⟩
  exact ⟨z, us, r, ⟨_, Heap.get?_push_size _ rfl, rfl, _, rfl⟩⟩
theorem pe_lst (h : PA X es t) : PE X (.List es pos) (tLst t) := by
  intro pins s σ H Q I hq
  refine wpAny_List_spliced (thn (h pos pins s σ H _ I hq) fun us s1 ⟨xs, H1, I1, r, z, q⟩ => ⟨by rw [← r.length]; exact z, ?_⟩)
  have hf : H1 s1.heap.objs.size = none := I1.hok.fresh (Nat.le_refl _)
  refine ⟨.ref s1.heap.objs.size, upd H1 s1.heap.objs.size (.lst xs), I1.laid (t' := s1.toks) (fun b u e => Heap.get?_push_of_some _ e) (Nat.le_refl _) ?_, rfl, q _ hf⟩
  exact ⟨z, us, 0, r, Heap.get?_push_size _ rfl⟩
end

abbrev Sp := List V → Hp → VK → XK → Prop
abbrev CXT := List Env → Hp → Shared → XK → Value → Shared → Prop

structure Env0 (P : Program) (w : World) (K : PySem.W.Frag) (mg : Str → Option Value) (base : Heap) (A : Around) (outer : List Env) (s : Shared) (H : Hp) : Prop where
  frames : A.frames = some outer
  mod : Mod K mg base
  bs : ∀ b o, base.get? b = some o → s.heap.get? b = some o ∧ H b = none
  bsz : base.objs.size ≤ s.heap.objs.size
  funs : s.heap.FunFrames base outer
  frf : ∀ b ∈ frs outer, H b = none
  hok : HOk P w H s.heap
  bare : AllBare s.gens
def CE (outer : List Env) (P : Program) (w : World) (H : Hp) (s : Shared) (Q : VK) (u : Value) (s' : Shared) : Prop :=
  ∃ v H', s'.os = s.os ∧ AllBare s'.gens ∧ Un (frs outer) [] H H' s.heap s'.heap ∧ HOk P w H' s'.heap ∧ RelV v u ∧ Q v H'
def CR (CX : CXT) (outer : List Env) (P : Program) (w : World) (H : Hp) (s : Shared) (Q : VK) (E : XK) (r : Result) (s' : Shared) : Prop :=
  match r with
  | .ok (.ret u) => CE outer P w H s Q u s'
  | .ok _ => False
  | .error e => CX outer H s E e s'
structure FnOk (P : Program) (w : World) (K : PySem.W.Frag) (mg : Str → Option Value) (base : Heap) (CX : CXT) (k : Nat) (f : Addr) (fd : FuncData) (ps : List Str) (sp : Sp) : Prop where
  len : ∀ vs H Q E, sp vs H Q E → vs.length = ps.length
  run : ∀ (A : Around) (outer : List Env) (s : Shared) (H : Hp) (args : Args) (us : List Value) (vs : List V) (Q : VK) (E : XK), Room k A → Env0 P w K mg base A outer s H → BindsTo s fd args (ps.zip us) → Vals vs us → sp vs H Q E →
    codeAny (model P w) A (.call (.ref f) args) (CR CX outer P w H s Q E) s
theorem FnOk.imp {P : Program} {w : World} {K : PySem.W.Frag} {mg : Str → Option Value} {base : Heap} {CX : CXT} {k : Nat} {f : Addr} {fd : FuncData} {ps : List Str} {sp sp' : Sp} (F : FnOk P w K mg base CX k f fd ps sp)
    (h : ∀ vs H Q E, sp' vs H Q E → sp vs H Q E) : FnOk P w K mg base CX k f fd ps sp' :=
  ⟨fun vs H Q E q => F.len vs H Q E (h _ _ _ _ q), fun A outer s H args us vs Q E hr he hb hv hs => F.run A outer s H args us vs Q E hr he hb hv (h _ _ _ _ hs)⟩

section
variable {X : Cx} {pins : List (Addr × Obj)} {σ : St} {H : Hp} {s s' : Shared}
theorem Inv.env0 (I : Inv X pins σ H s) : Env0 X.prog X.w X.K X.mg X.base X.A X.stack s H :=
  ⟨I.ok.frames, I.ok.mod, I.bs, Nat.le_trans I.ok.bsz I.sz, I.stack, I.stkFree, I.hok, I.bare⟩
theorem Inv.after (I : Inv X pins σ H s) (h : CE X.stack X.prog X.w H s Q u s') : EP X pins σ Q u s' := by
  obtain ⟨v, H', os, bare, un, hok, r, q⟩ := h
  obtain ⟨hh, g, d, t, os'⟩ := s'
  obtain rfl : os' = s.os := os
  exact ⟨v, H', I.call (h' := hh) (g' := g) (d' := d) (t' := t) un hok bare (fun b z => absurd z (by simp)), r, q⟩
end

def tCall (sp : Sp) (dvs : List V) (E : XK) (t : TA) : TE := fun σ H Q => t σ H fun vs H1 => sp (vs ++ dvs) H1 Q E
def Binds (K : PySem.W.Frag) (fd : FuncData) (ps : List Str) (ds : List Value) : Prop :=
  ∀ (s : Shared) (us : List Value), K.In s.heap → (us ++ ds).length = ps.length → BindsTo s fd ⟨us, []⟩ (ps.zip (us ++ ds))
theorem Binds.all {K : PySem.W.Frag} {fd : FuncData} {ps : List Str} (h : ∀ us : List Value, us.length = ps.length → bindArgs fd ⟨us, []⟩ = pure (ps.zip us)) : Binds K fd ps [] := fun s us _ hl => by
  rw [List.append_nil] at hl ⊢
  exact .of_eq (h us hl)

def Passes (CX : CXT) (X : Cx) (E : XK) : Prop := ∀ (pins : List (Addr × Obj)) (σ : St) (H : Hp) (s : Shared) (e : Value) (s' : Shared), Inv X pins σ H s → CX X.stack H s E e s' → X.xe e s'

section
variable {X : Cx} {CX : CXT} {k : Nat} {f C : Addr} {fd : FuncData} {ps : List Str} {sp : Sp} {dvs : List V} {ds : List Value} {E : XK} {x m : Str} {p pos apos : Pos} {e o : Expr} {es : List Expr} {ta : TE} {t : TA}

theorem run_fn (F : FnOk X.prog X.w X.K X.mg X.base CX k f fd ps sp) (hr : Room k X.A) (hb : Binds X.K fd ps ds) (hd : Vals dvs ds) (hx : Passes CX X E) (I : Inv X pins σ H s) (r : Vals vs us) (h : sp (vs ++ dvs) H Q E) : wpAny (model X.prog X.w) X.A (call (.ref f) us) (EP X pins σ Q) X.xe s := by
  have r2 := r.append hd
  have hl : (us ++ ds).length = ps.length := by rw [← r2.length]; exact F.len _ _ _ _ h
  refine wpAny_call (codeAny_mono (F.run X.A X.stack s H ⟨us, []⟩ (us ++ ds) (vs ++ dvs) Q E hr I.env0 (hb s us I.kIn hl) r2 h) fun r s' hq => ?_)
  cases r with
  | error e => exact hx pins σ H s e s' I hq
  | ok fl =>
    cases fl with
    | ret u => exact I.after hq
    | next => exact False.elim hq
    | brk => exact False.elim hq
    | cont => exact False.elim hq

theorem pe_call (F : FnOk X.prog X.w X.K X.mg X.base CX k f fd ps sp) (hr : Room k X.A) (hg : Gl X x) (hm : X.mg x = some (.ref f)) (hk : PySem.W.keepIn X.K (.ref f) = true) (hb : Binds X.K fd ps ds) (hd : Vals dvs ds) (hx : Passes CX X E)
    (ha : PA X (e :: es) t) (hdb : (x == ("__debug__" : Str)) = false := by decide) (he : starEach (e :: es) X.env = (false, eval e X.env) :: starEach es X.env := by rfl) (hpl : (backTo pos (starEach es X.env)).any (·.1) = false := by rfl) :
    PE X (.Call (.Name x p) (e :: es) [] pos) (tCall sp dvs E t) := by
  intro pins s σ H Q I h
  refine wpAny_Call_Name_kw (ld_glob I hg hm ?_ hdb)
  exact PySem.W.callWith_K I.ok.mod.kin hk (thn (ha pos pins s σ H _ I h) fun us s1 ⟨vs, H1, I1, r, q⟩ => ⟨I1.kIn, (run_fn F hr hb hd hx I1 r q)⟩) he hpl
end

section
variable {X : Cx} {CX : CXT} {k : Nat} {f C : Addr} {fd : FuncData} {ps ks : List Str} {sp : Sp} {E : XK} {x m : Str} {p pos apos kpos : Pos} {e o : Expr} {es : List Expr} {kws : List Keyword} {te ta : TE} {t tk : TA} {nm : Option Str}
variable {g : List Value → List Value → List Value} {gV : List V → List V → List V}
end

structure FnScope (N P : List Str) (sc : Scope) : Prop where
  kind : sc.kind = .function
  co : sc.isCoroutine = false
  gen : sc.isGenerator = false
  nd : N.Nodup
  pre : N.take P.length = P
  par : ∀ x ∈ P, sc.names.lookup x = some .local ∨ sc.names.lookup x = some .cell
  nofree : ∀ y ∈ sc.names, y.2 ≠ .free

theorem bindL_out {kindOf : Str → Option NameKind} {x : Str} : ∀ {binds : List (Str × Value)} {m : Str → Option Value}, (∀ v, (x, v) ∉ binds) → bindL kindOf binds m x = m x
  | [], _, _ => rfl
  | (n, v) :: r, m, h => by
    unfold bindL
    rw [bindL_out fun w hw => h w (List.mem_cons_of_mem _ hw)]
    split
    · grind
    · rfl
theorem bindC_out {kindOf : Str → Option NameKind} {x : Str} : ∀ {binds : List (Str × Value)} {m : Str → Option Value}, (∀ v, (x, v) ∉ binds) → bindC kindOf binds m x = m x
  | [], _, _ => rfl
  | (n, v) :: r, m, h => by
    unfold bindC
    rw [bindC_out fun w hw => h w (List.mem_cons_of_mem _ hw)]
    split
    · rfl
    · grind
theorem bindL_get {kindOf : Str → Option NameKind} {x : Str} {v : Value} : ∀ {P : List Str} {vs : List Value} {i : Nat} {m : Str → Option Value}, P.Nodup → P[i]? = some x → vs[i]? = some v → kindOf x = some .local →
    bindL kindOf (P.zip vs) m x = some v := by
  intro z1 z2 z3 m nd h h2 hk
  cases z1 with
  | nil => simp at h
  | cons p P =>
    cases z2 with
    | nil => simp at h2
    | cons w vs =>
      cases z3 with
      | zero =>
        simp at h h2; subst h; subst h2
        show bindL kindOf ((p, w) :: P.zip vs) m p = _
        unfold bindL
        rw [bindL_out fun v hv => (List.nodup_cons.mp nd).1 (List.of_mem_zip hv).1, if_pos hk]
        simp
      | succ i =>
        show bindL kindOf ((p, w) :: P.zip vs) m x = _
        unfold bindL
        exact bindL_get (i := i) (List.nodup_cons.mp nd).2 (by grind) (by simpa using h2) hk
theorem bindC_get {kindOf : Str → Option NameKind} {x : Str} {v : Value} : ∀ {P : List Str} {vs : List Value} {i : Nat} {m : Str → Option Value}, P.Nodup → P[i]? = some x → vs[i]? = some v → kindOf x ≠ some .local →
    bindC kindOf (P.zip vs) m x = some v := by
  intro z1 z2 z3 m nd h h2 hk
  cases z1 with
  | nil => simp at h
  | cons p P =>
    cases z2 with
    | nil => simp at h2
    | cons w vs =>
      cases z3 with
      | zero =>
        simp at h h2; subst h; subst h2
        show bindC kindOf ((p, w) :: P.zip vs) m p = _
        unfold bindC
        rw [bindC_out fun v hv => (List.nodup_cons.mp nd).1 (List.of_mem_zip hv).1, if_neg hk]
        simp
      | succ i =>
        show bindC kindOf ((p, w) :: P.zip vs) m x = _
        unfold bindC
        exact bindC_get (i := i) (List.nodup_cons.mp nd).2 (by grind) (by grind) hk

def start (N : List Str) (vs : List V) : St := vs.map some ++ List.replicate (N.length - vs.length) none

def cxOf (CX : CXT) (P : Program) (w : World) (K : PySem.W.Frag) (mg : Str → Option Value) (base : Heap) (N : List Str) (qual : Str) (scope : Scope) (f : Addr) (cd : Value) (A : Around) (outer : List Env) (s : Shared) (H : Hp) (E : XK) : Cx where
  prog := P
  w := w
  K := K
  mg := mg
  base := base
  A := A.deeper (envOfC qual scope s.heap.objs.size f cd)
  N := N
  s₀ := s
  H₀ := H
  env := envOfC qual scope s.heap.objs.size f cd
  outer := outer
  stack := envOfC qual scope s.heap.objs.size f cd :: outer
  ex := []
  calm := true
  fn := fun _ => true
  pn := []
  xe := fun e s' => wpAny (model P w) (A.deeper (envOfC qual scope s.heap.objs.size f cd)) (leaving (envOfC qual scope s.heap.objs.size f cd) e) (fun _ s'' => CX outer H s E e s'') (fun e' s'' => CX outer H s E e' s'') s'

theorem cell_has {sc : Scope} {n : Nat} {x : Str} (h : sc.names.lookup x = some .cell) : ∃ c, (cellsFrom n sc.names []).lookup x = some c := by
  have q := PySem.W.cellsFrom_some sc.names n [] (.inl h)
  exact Option.isSome_iff_exists.mp q

theorem inv_start {CX : CXT} {P : Program} {w : World} {K : PySem.W.Frag} {mg : Str → Option Value} {base : Heap} {N ps : List Str} {qual : Str} {scope : Scope} {f : Addr} {cd : Value} {A : Around} {outer : List Env} {s s1 : Shared} {H : Hp} {E : XK} {us : List Value} {vs : List V}
    (S : FnScope N ps scope) (hd : A.handled = none) (e0 : Env0 P w K mg base A outer s H) (hl : vs.length = ps.length) (r : Vals vs us)
    (x : InCallC s s.heap.objs.size (bindL (envOfC qual scope s.heap.objs.size f cd).kindOf (ps.zip us) fun _ => none) (cellsFrom (s.heap.objs.size + 1) scope.names []) (bindC (envOfC qual scope s.heap.objs.size f cd).kindOf (ps.zip us) fun _ => none) s1) :
    Inv (cxOf CX P w K mg base N qual scope f cd A outer s H E) [] (start N vs) H s1 := by
  have hpl : ps.length ≤ N.length := by have := congrArg List.length S.pre; rw [List.length_take] at this; lia
  obtain ⟨h1, tk, rfl, hk⟩ := x.done
  have noA : ∀ b : Addr, b ∉ (cxOf CX P w K mg base N qual scope f cd A outer s H E).ex := fun b z => absurd (show b ∈ ([] : List Addr) from z) (by simp)
  refine ⟨⟨e0.mod, S.kind, rfl, rfl, Nat.le_refl _, fun y z c h1 h2 => ?_, fun y hy => ?_, fun y c _ h => ?_, fun _ => hd, Around.frames_deeper e0.frames, .inr ⟨rfl, rfl⟩, fun b z => absurd z (noA b), e0.bs, e0.bsz, fun b _ _ => noA b, fun b z => absurd z (noA b), e0.funs, e0.frf⟩,
    rfl, e0.bare, Un.kept hk, ⟨_, x.toInCall.ns, fun i y v h1 h2 h3 => ?_⟩, fun y c h => ⟨_, x.cell y c h⟩, e0.hok.fresh (Nat.le_refl _), fun y c h => ?_, fun p hp => absurd (show p ∈ ([] : List (Addr × Obj)) from hp) (by simp), e0.hok.kept hk, ?_⟩
  · exact name_of_addr x.apart (PySem.mem_of_lookup h1) (PySem.mem_of_lookup h2)
  · have hy := hy
    rcases hy with hy | hy
    · exact cell_has hy
    · exact absurd rfl (S.nofree _ (PySem.mem_of_lookup hy))
  · exact Nat.le_of_lt (x.above y c (PySem.mem_of_lookup h))
  · have hi : i < vs.length := by
      unfold start at h2
      grind
    have ha : vs[i]? = some v := by
      unfold start at h2
      rw [List.getElem?_append_left (by simpa using hi), List.getElem?_map] at h2
      grind
    obtain ⟨u, hu, rv⟩ := r.get ha
    have hp : ps[i]? = some y := by
      rw [← S.pre, List.getElem?_take_of_lt (by lia)]; exact h1
    have ndP : ps.Nodup := by rw [← S.pre]; exact S.nd.sublist (List.take_sublist _ _)
    refine ⟨u, rv, ?_⟩
    rcases S.par y (List.mem_of_getElem? hp) with k | k
    · exact .inl ⟨k, bindL_get ndP hp hu k⟩
    · obtain ⟨c, e⟩ := cell_has (n := s.heap.objs.size + 1) k
      refine .inr ⟨.inl k, c, e, ?_⟩
      have q := x.cell y c e
      rw [bindC_get ndP hp hu (by show scope.names.lookup y ≠ _; rw [k]; decide)] at q
      exact q
  · exact e0.hok.fresh (Nat.le_of_lt (x.above y c (PySem.mem_of_lookup h)))
  · unfold start
    show _ = N.length
    rw [List.length_append, List.length_map, List.length_replicate]
    lia

theorem fn_of {CX : CXT} {P : Program} {w : World} {K : PySem.W.Frag} {mg : Str → Option Value} {base : Heap} {k : Nat} {f : Addr} {name qual : Str} {params : Arguments} {body : List Stmt} {scope : Scope} {dV kV doc pm cdv ct oc : Value} {an od : Option Addr}
    {osl : Array (Option Value)} {N ps : List Str} {sp : Sp} (lk : K.lookup f = some ⟨oc, od, .func (PySem.W.fnOf name qual params body scope dV kV doc pm an cdv ct), osl⟩) (hcd : PySem.W.codeIn K cdv qual = true) (S : FnScope N ps scope)
    (len : ∀ vs H Q E, sp vs H Q E → vs.length = ps.length)
    (hbody : ∀ (A : Around) (outer : List Env) (s : Shared) (H : Hp) (vs : List V) (Q : VK) (E : XK), Room k (A.deeper (envOfC qual scope s.heap.objs.size f cdv)) → sp vs H Q E →
      ∃ t, PSs (cxOf CX P w K mg base N qual scope f cdv A outer s H E) body t ∧ t { nx := fun _ H' => Q .non H', rt := Q } (start N vs) H) :
    FnOk P w K mg base CX (k + 1) f (PySem.W.fnOf name qual params body scope dV kV doc pm an cdv ct) ps sp := by
  refine ⟨len, fun A outer s H args us vs Q E hr e0 hb r hsp => ?_⟩
  have hl := len _ _ _ _ hsp
  have KX : K.In s.heap := e0.mod.kin.keeps fun b o e => (e0.bs b o e).1
  have lim : s.heap.NoLimit := e0.mod.nolimit.keeps fun b o e => (e0.bs b o e).1
  have hkind : ∀ y ∈ ps.zip us, scope.names.lookup y.1 = some .local ∨ (scope.names.lookup y.1 = some .cell ∧ ((cellsFrom (s.heap.objs.size + 1) scope.names []).lookup y.1).isSome = true) := fun ⟨n, v⟩ hy => by
    rcases S.par n (List.of_mem_zip hy).1 with q | q
    · exact .inl q
    · exact .inr ⟨q, PySem.W.cellsFrom_some _ _ _ (.inl q)⟩
  refine codeAny_call_function hr.depth (KX _ _ lk) rfl S.co S.gen rfl (PySem.W.codeRec_of KX hcd) (hb _ _ _ _ ?_)
  refine wpAny_newFunctionEnv_cells S.kind hkind fun env he s1 x => ?_
  subst he
  refine ⟨lim.keeps x.toInCall.keep, codeAny_func ?_⟩
  obtain ⟨t, ht, hq⟩ := hbody A outer s H vs Q E (hr.deeper _) hsp
  have I : Inv (cxOf CX P w K mg base N qual scope f cdv A outer s H E) [] (start N vs) H s1 := inv_start S hr.hd e0 hl r x
  refine wpAny_mono (ht [] s1 (start N vs) H _ I hq) (fun fl s' hs => ?_) fun e s' hs => hs
  have fin : ∀ {σ' : St} {H' : Hp} {v : V} {u : Value}, Inv (cxOf CX P w K mg base N qual scope f cdv A outer s H E) [] σ' H' s' → RelV v u → Q v H' → CE outer P w H s Q u s' :=
    fun {σ' H' v u} J rv q => ⟨v, H', J.os, J.bare, J.base, J.hok, rv, q⟩
  cases fl with
  | ret u =>
    obtain ⟨v, σ', H', J, rv, q⟩ := hs
    exact fin J rv q
  | next =>
    obtain ⟨σ', H', J, q⟩ := hs
    exact fin (v := V.non) (u := Value.none) J rfl q
  | brk =>
    obtain ⟨_, _, _, q⟩ := hs
    exact False.elim q
  | cont =>
    obtain ⟨_, _, _, q⟩ := hs
    exact False.elim q
end L2

namespace L2
open PySem PySem.Spec PyProof.Rows
section
variable {X : Cx} {x : Str} {p pos : Pos} {e : Expr} {es : List Expr} {t : TA} {id T : String} {r : List V → Hp → VK → Prop}

end
end L2

namespace HT
open PySem PyProof.Rows

section
open PySem.SeqAt
open PySem.AutoSeq1 (wpAny_loadPart')
open PySem.MeetsSeq PySem.MeetsSeq2 PySem.MeetsSeq3

end

section
variable {prog : Program} {w : World} {A : Around} {E : Value → Shared → Prop} {s : Shared}

theorem cat_tup {Q : Value → Shared → Prop} (ht : IsTup s.heap t vs.toArray) (hb : IsTup s.heap b ws.toArray) (hv : vs ≠ []) (h1 : ws = [] → Q (.ref t) s) (h2 : ws ≠ [] → Q (.ref s.heap.objs.size) { s with heap := s.heap.push { cls := .type "tuple", data := .seq (vs ++ ws).toArray } }) (hsz : vs.length + ws.length ≤ sizeLine) : wpAny (model prog w) A (binaryOp .Add (.ref t) (.ref b)) Q E s := by
  obtain ⟨⟨cls, dd, data, sl⟩, ho, hc, n, hd⟩ := id ht
  obtain ⟨⟨cls2, dd2, data2, sl2⟩, ho2, hc2, n2, hd2⟩ := id hb
  simp only at hc hd hc2 hd2
  subst hc hd hc2 hd2
  have e : vs.toArray ++ ws.toArray = (vs ++ ws).toArray := by simp
  by_cases hw : ws = []
  · exact concat_meets ⟨_, ho, rfl⟩ ⟨_, ho2, rfl⟩ noFill_tuple_add seq_tuple_add PySem.F.slot_tuple_add PySem.F.entry_tuple_add (PySem.F.args_tuple_add_2 _ _)
      (tuple_addW1 t b vs.toArray ws.toArray n n2 dd dd2 sl sl2 (by simpa using hv) (by simp [hw])) ⟨ho, ho2, h1 hw⟩
  · refine concat_meets ⟨_, ho, rfl⟩ ⟨_, ho2, rfl⟩ noFill_tuple_add seq_tuple_add PySem.F.slot_tuple_add PySem.F.entry_tuple_add (PySem.F.args_tuple_add_2 _ _)
      (tuple_addW2 t b vs.toArray ws.toArray n n2 dd dd2 sl sl2 (by simpa using hv) (by simpa using hw) (by simp_all)) ⟨ho, ho2, ?_⟩
    rw [e]
    exact h2 hw

def sIx (n d : Nat) : Option Int → Nat
  | none => d
  | some v => if v < 0 then (v + (n : Int)).toNat else min v.toNat n
theorem sIx_le (n d : Nat) (hd : d ≤ n) (o : Option Int) : sIx n d o ≤ n := by
  cases o with
  | none => exact hd
  | some v =>
    show (if v < 0 then (v + (n : Int)).toNat else min v.toNat n) ≤ n
    lia
theorem clip_eq (v : Int) (n d : Nat) : (if v < 0 then max (v + (n : Int)) 0 else min v (n : Int)) = ((sIx n d (some v) : Nat) : Int) := by
  show (if v < 0 then max (v + (n : Int)) 0 else min v (n : Int)) = (((if v < 0 then (v + (n : Int)).toNat else min v.toNat n) : Nat) : Int)
  lia
theorem adjust_gen (lo hi : Option Int) (n : Nat) : Builtin.Slice.sliceAdjust lo hi 1 (n : Int) = (((sIx n 0 lo : Nat) : Int), ((sIx n n hi : Nat) : Int)) := by
  have h1 : ¬ ((1 : Int) < 0) := by lia
  unfold Builtin.Slice.sliceAdjust
  refine Prod.ext ?_ ?_
  · cases lo with
    | none => rfl
    | some v => exact clip_eq v n 0
  · cases hi with
    | none => rfl
    | some v => exact clip_eq v n n
theorem places_gen (i j : Nat) : Builtin.Slice.slicePlaces (i : Int) (j : Int) 1 = j - i := by
  unfold Builtin.Slice.slicePlaces
  lia
theorem slicePart_ {Q : Option Int → Shared → Prop} (p : IsPart v o) (h : Q o s) : wpAny (model prog w) A (Builtin.Slice.slicePartIndex v) Q E s := by
  cases p with
  | none => exact slicePart_none h
  | int i t => exact slicePart_int h
theorem sliceApplied_gen {sl : Addr} {vl vu : Value} {lo hi : Option Int} {n : Nat} {Q : Int × Int × Nat → Shared → Prop} (hs : s.heap.IsSliceOf sl vl vu .none) (pl : IsPart vl lo) (pu : IsPart vu hi)
    (h : Q (((sIx n 0 lo : Nat) : Int), 1, sIx n n hi - sIx n 0 lo) s) : wpAny (model prog w) A (Builtin.Slice.sliceApplied (.ref sl) (pure (n : Int))) Q E s := by
  obtain ⟨os, hos, hcs, hds⟩ := id hs
  refine wpAny_bind (wpAny_bind (wpAny_field hos hds (x := vl) rfl (wpAny_bind (wpAny_field hos hds (x := vu) rfl (wpAny_bind (wpAny_field hos hds (x := .none) rfl (wpAny_pure (wpAny_bind (slicePart_none ?_)))))))))
  refine wpAny_bind (slicePart_ pl (wpAny_bind (slicePart_ pu (wpAny_bind (wpAny_pure ?_)))))
  show wpAny _ _ (match Builtin.Slice.sliceAdjust lo hi 1 (n : Int) with | (lo, hi) => pure (lo, (1 : Int), Builtin.Slice.slicePlaces lo hi 1)) _ _ s
  rw [adjust_gen lo hi n]
  show wpAny _ _ (pure (((sIx n 0 lo : Nat) : Int), (1 : Int), Builtin.Slice.slicePlaces ((sIx n 0 lo : Nat) : Int) ((sIx n n hi : Nat) : Int) 1)) _ _ s
  rw [places_gen]
  exact wpAny_pure h
theorem pick_gen (xs : Array Value) (i k : Nat) : ((List.range k).filterMap fun (m : Nat) => xs[((i : Int) + (m : Int) * 1).toNat]?).toArray = ((xs.toList.drop i).take k).toArray := by
  have e : (fun (m : Nat) => xs[((i : Int) + (m : Int) * 1).toNat]?) = fun m => xs[i + m]? := by
    grind
  rw [e]
  have := pick_run xs i k
  rw [List.filterMap_map] at this
  have e2 : ((fun x => xs[x]?) ∘ fun x => i + x) = fun m => xs[i + m]? := rfl
  lia

theorem getItem_tuple_cut {t sl : Addr} {items : Array Value} {vl vu : Value} {lo hi : Option Int} {Q : Value → Shared → Prop} (ht : IsTup s.heap t items) (hs : s.heap.IsSliceOf sl vl vu .none) (pl : IsPart vl lo) (pu : IsPart vu hi)
    (hw : ¬ (sIx items.size 0 lo = 0 ∧ sIx items.size items.size hi = items.size))
    (h : Q (.ref s.heap.objs.size) { s with heap := s.heap.push { cls := .type "tuple", data := .seq ((items.toList.drop (sIx items.size 0 lo)).take (sIx items.size items.size hi - sIx items.size 0 lo)).toArray } })
    (hsz : items.size ≤ sizeLine) : wpAny (model prog w) A (getItem (.ref t) (.ref sl)) Q E s := by
  have htake : sizeOk (.seq ((items.toList.drop (sIx items.size 0 lo)).take (sIx items.size items.size hi - sIx items.size 0 lo)).toArray) := by
    show ((items.toList.drop (sIx items.size 0 lo)).take (sIx items.size items.size hi - sIx items.size 0 lo)).toArray.size ≤ sizeLine
    simp only [List.size_toArray, List.length_take, List.length_drop]
    exact Nat.le_trans (Nat.min_le_right _ _) (Nat.le_trans (Nat.sub_le _ _) hsz)
  have hj : sIx items.size items.size hi ≤ items.size := sIx_le _ _ (Nat.le_refl _) hi
  obtain ⟨os, hos, hcs, hds⟩ := id hs
  unfold getItem
  try with_reducible refine wpAny_holding ?_
  first | refine wpAny_bind (wpAny_pure ?_) | skip
  refine wpAny_bind (wpAny_sequenceKey ht.typeIs (by decide) ?_)
  refine wpAny_bind (wpAny_callSpecial?_slot ht.typeIs PyProof.Rows.slot_tuple_getitem
    (wpAny_call_entry PyProof.Rows.slot_tuple_getitem ht.typeIs entry_tuple_getitem ?_ (args_tuple_getitem _ _)))
  show wpAny _ _ (Builtin.Tuple.tupleItemsOf (.ref t) >>= _) _ _ s
  refine wpAny_bind (tupleItemsOf_ ht (wpAny_bind (wpAny_typeOf (⟨os, hos, hcs⟩) ?_)))
  rw [if_pos (by decide)]
  refine wpAny_bind (sliceApplied_gen hs pl pu ?_)
  have hno : ¬ ((((sIx items.size 0 lo : Nat) : Int) == 0 && (1 : Int) == 1 && (sIx items.size items.size hi - sIx items.size 0 lo) == items.size) = true) := by
    intro q
    rw [Bool.and_eq_true, Bool.and_eq_true] at q
    have q1 := eq_of_beq q.1.1
    grind
  show wpAny _ _ (if (((sIx items.size 0 lo : Nat) : Int) == 0 && (1 : Int) == 1 && (sIx items.size items.size hi - sIx items.size 0 lo) == items.size) = true then _ else _) _ _ s
  rw [if_neg hno, pick_gen]
  first
    | exact wpAny_bind (m := Builtin.Tuple.tupleExact _) (wpAny_newObj_type (wpAny_pure ⟨_, rfl, wpAny_pure h⟩) htake)
    | exact wpAny_bind (m := Builtin.Tuple.tupleExact _) (wpAny_newObj_type (wpAny_bind (wpAny_pure (wpAny_pure ⟨_, rfl, wpAny_pure h⟩))) htake)
    | exact wpAny_bind (wpAny_bind (m := Builtin.Tuple.tupleExact _) (wpAny_newObj_type (wpAny_pure (wpAny_pure ⟨_, rfl, wpAny_pure h⟩)) htake))
    | exact wpAny_bind (wpAny_bind (m := Builtin.Tuple.tupleExact _) (wpAny_newObj_type (wpAny_pure ⟨_, rfl, wpAny_pure h⟩) htake))
end
end HT

namespace L2
open PySem PySem.Spec PyProof.Rows

abbrev TO := St → Hp → (Option Int → Hp → Prop) → Prop
def PO (X : Cx) (e : Option Expr) (t : TO) : Prop :=
  ∀ (pins : List (Addr × Obj)) (s : Shared) (σ : St) (H : Hp) (Q : Option Int → Hp → Prop), Inv X pins σ H s → t σ H Q →
    wpAny (model X.prog X.w) X.A (evalPart e X.env) (fun u s' => ∃ o H', Inv X pins σ H' s' ∧ IsPart u o ∧ Q o H') X.xe s
def tNoPart : TO := fun _ H Q => Q none H
def tPart (t : TE) : TO := fun σ H Q => t σ H fun x H1 => ∃ i, x = .int i ∧ Q (some i) H1

section
variable {X : Cx} {e : Expr} {te : TE} {lo hi : Option Expr} {tl th : TO} {pos p2 : Pos}

theorem po_none : PO X none tNoPart := by
  intro pins s σ H Q I h
  exact wpAny_pure ⟨none, H, I, .none, h⟩
theorem po_some (h : PE X e te) : PO X (some e) (tPart te) := by
  intro pins s σ H Q I hw
  refine thn (h pins s σ H _ I hw) fun u s1 ⟨x, H1, I1, r1, q1⟩ => ?_
  obtain ⟨i, rfl, q⟩ := q1
  obtain ⟨t, rfl⟩ := r1
  exact ⟨some i, H1, I1, .int i t, q⟩

def SlR (X : Cx) (r : V → Option Int → Option Int → Hp → VK → Prop) : Prop :=
  ∀ (pins : List (Addr × Obj)) (s : Shared) (σ : St) (H : Hp) (x : V) (v vl vu : Value) (lo hi : Option Int) (sl : Addr) (Q : VK), Inv X pins σ H s → RelV x v → s.heap.IsSliceOf sl vl vu .none → IsPart vl lo → IsPart vu hi → r x lo hi H Q →
    ∃ T id, typeLookup (.type T) "__getitem__" = pure (some (.builtin id)) ∧ s.TypeIs v T ∧ wpAny (model X.prog X.w) X.A (getItem v (.ref sl)) (EP X pins σ Q) X.xe s
theorem SlR.or {r r' : V → Option Int → Option Int → Hp → VK → Prop} (h : SlR X r) (h' : SlR X r') : SlR X (fun x lo hi H Q => r x lo hi H Q ∨ r' x lo hi H Q) := by
  intro pins s σ H x v vl vu lo hi sl Q I rx hs pl pu q
  rcases q with q | q
  · exact h pins s σ H x v vl vu lo hi sl Q I rx hs pl pu q
  · exact h' pins s σ H x v vl vu lo hi sl Q I rx hs pl pu q
def tSl (r : V → Option Int → Option Int → Hp → VK → Prop) (te : TE) (tl th : TO) : TE := fun σ H Q => te σ H fun x H1 => tl σ H1 fun l H2 => th σ H2 fun u H3 => r x l u H3 Q
theorem pe_slice {r : V → Option Int → Option Int → Hp → VK → Prop} (hr : SlR X r) (he : PE X e te) (hl : PO X lo tl) (hu : PO X hi th) : PE X (.Subscript e (.Slice lo hi none p2) pos) (tSl r te tl th) := by
  intro pins s σ H Q I h
  refine Subscript_ (thn (he pins s σ H _ I h) fun v s1 ⟨x, H1, I1, r1, q1⟩ => (wpAny_Slice (thn (hl pins s1 σ H1 _ I1 q1) fun vl s2 ⟨l, H2, I2, pl, q2⟩ => thn (hu pins s2 σ H2 _ I2 q2) fun vu s3 ⟨u, H3, I3, pu, q3⟩ => ?_)))
  refine wpAny_pure ?_
  have I4 : Inv X pins σ H3 { s3 with heap := s3.heap.push { cls := .type "slice", data := .fields #[vl, vu, .none] } } := I3.kept (t' := s3.toks) fun b ob q => Heap.get?_push_of_some _ q
  obtain ⟨T, id, hT, ht, hg⟩ := hr pins { s3 with heap := s3.heap.push { cls := .type "slice", data := .fields #[vl, vu, .none] } } σ H3 x v vl vu l u s3.heap.objs.size Q I4 r1 (Heap.IsSliceOf.new ..) pl pu q3
  exact tail_any ht hT hg (by with_unfolding_all rfl)

def cutV (xs : List V) (lo hi : Option Int) : List V := (xs.drop (HT.sIx xs.length 0 lo)).take (HT.sIx xs.length xs.length hi - HT.sIx xs.length 0 lo)
theorem cutV_length (xs : List V) (lo hi : Option Int) : (cutV xs lo hi).length ≤ xs.length := by
  unfold cutV
  rw [List.length_take, List.length_drop]
  lia
def rSlT (K : PySem.W.Frag) : V → Option Int → Option Int → Hp → VK → Prop := fun x lo hi H Q => ∃ a xs, x = .ref a ∧ SqT K H a xs ∧
  ¬ (HT.sIx xs.length 0 lo = 0 ∧ HT.sIx xs.length xs.length hi = xs.length) ∧ ∀ p, H p = none → Q (.ref p) (upd H p (.tup (cutV xs lo hi)))
theorem sl_tup : SlR X (rSlT X.K) := by
  intro pins s σ H x v vl vu lo hi sl Q I rx hs pl pu h
  obtain ⟨a, xs, rfl, hx, hw, q⟩ := h
  cases rx
  obtain ⟨its, r, ht, hz⟩ := I.tuple hx
  have hlen : its.toArray.size = xs.length := by rw [List.size_toArray]; exact r.length.symm
  refine ⟨"tuple", _, PyProof.Rows.slot_tuple_getitem.lookup, ht.typeIs, (HT.getItem_tuple_cut ht hs pl pu (hlen ▸ hw) ?_ (hlen ▸ hz))⟩
  rw [hlen]
  refine ⟨.ref s.heap.objs.size, _, I.laid (t' := s.toks) (fun b ob q => Heap.get?_push_of_some _ q) (Nat.le_refl _) ?_, rfl, q _ (I.hok.fresh (Nat.le_refl _))⟩
  exact ⟨Nat.le_trans (cutV_length xs lo hi) hz, _, (r.drop (HT.sIx xs.length 0 lo)).take (HT.sIx xs.length xs.length hi - HT.sIx xs.length 0 lo), IsTup.new _ _⟩

def rCatT (K : PySem.W.Frag) : R2 := fun x y H Q => ∃ a b xs ys, x = .ref a ∧ y = .ref b ∧ SqT K H a xs ∧ SqT K H b ys ∧ xs ≠ [] ∧ xs.length + ys.length ≤ sizeLine ∧
  (ys = [] → Q (.ref a) H) ∧ (ys ≠ [] → ∀ p, H p = none → Q (.ref p) (upd H p (.tup (xs ++ ys))))
theorem Vals.nil_iff (r : Vals xs us) : us = [] ↔ xs = [] := by
  cases r with
  | nil => simp
  | cons _ _ => simp
theorem op_catT : OpR X (binaryOp .Add) (rCatT X.K) := by
  intro pins s σ H x y v u Q I rx ry h
  obtain ⟨a, b, xs, ys, rfl, rfl, ha, hb, hx, hz, q1, q2⟩ := h
  cases rx
  cases ry
  obtain ⟨its, r1, p1, _⟩ := I.tuple ha
  obtain ⟨its2, r2, p2, _⟩ := I.tuple hb
  refine HT.cat_tup p1 p2 (fun z => hx (r1.nil_iff.mp z)) (fun z => ⟨.ref a, H, I, rfl, q1 (r2.nil_iff.mp z)⟩) (fun z => ?_) (by rw [← r1.length, ← r2.length]; exact hz)
  refine ⟨.ref s.heap.objs.size, _, I.laid (t' := s.toks) (o := .tup (xs ++ ys)) (fun b ob q => Heap.get?_push_of_some _ q) (Nat.le_refl _) ?_, rfl, q2 (fun w => z (r2.nil_iff.mpr w)) _ (I.hok.fresh (Nat.le_refl _))⟩
  exact ⟨by rw [List.length_append]; exact hz, _, r1.append r2, IsTup.new _ _⟩
end
end L2

namespace L2
open PySem PySem.Spec PyProof.Rows

def ixN (n : Nat) (i : Int) : Option Nat := if 0 ≤ i then (if i < n then some i.toNat else none) else if -(n : Int) ≤ i then some (i + n).toNat else none
def atI {α : Type} (xs : List α) (i : Int) : Option α := (ixN xs.length i).bind fun j => xs[j]?
theorem ixN_seq (h : ixN n i = some j) : seqIndex? i n = some j ∧ j < n ∧ -(n : Int) ≤ i ∧ i < n := by
  unfold ixN at h
  by_cases h0 : 0 ≤ i
  · rw [if_pos h0] at h
    by_cases h1 : i < n
    · rw [if_pos h1] at h
      have e : i.toNat = j := Option.some.inj h
      exact ⟨by rw [seqIndex_of h0 h1, e], by lia, by lia, h1⟩
    · rw [if_neg h1] at h; cases h
  · rw [if_neg h0] at h
    by_cases h1 : -(n : Int) ≤ i
    · rw [if_pos h1] at h
      exact ⟨by rw [seqIndex_neg (by lia) h1, (Option.some.inj h)], by lia, h1, by lia⟩
    · rw [if_neg h1] at h; cases h
theorem atI_get {α : Type} {xs : List α} {i : Int} {v : α} (h : atI xs i = some v) : ∃ j, seqIndex? i xs.length = some j ∧ xs[j]? = some v ∧ j < xs.length ∧ -(xs.length : Int) ≤ i ∧ i < xs.length := by
  unfold atI at h
  cases e : ixN xs.length i with
  | none => simp_all
  | some j =>
    rw [e] at h
    obtain ⟨h1, h2, h3, h4⟩ := ixN_seq e
    exact ⟨j, h1, h, h2, h3, h4⟩
def PlainIx (b : Expr) : Prop := ∀ o i, subscripted b false o i = operate [o, i] (getItem o i)
def IxR (X : Cx) (r : R2) : Prop :=
  ∀ (value slice : Expr) (pins : List (Addr × Obj)) (s : Shared) (σ : St) (H : Hp) (x y : V) (v u : Value) (Q : VK), Inv X pins σ H s → RelV x v → RelV y u → r x y H Q →
    subscripted slice false v u = operate [v, u] (getItem v u) → wpAny (model X.prog X.w) X.A (subscriptTail value slice v u) (EP X pins σ Q) X.xe s
def MtR (X : Cx) (id : String) (r : V → List V → Hp → VK → Prop) : Prop :=
  ∀ (pins : List (Addr × Obj)) (s : Shared) (σ : St) (H : Hp) (x : V) (xs : List V) (v : Value) (us : List Value) (Q : VK), Inv X pins σ H s → RelV x v → Vals xs us → r x xs H Q →
    wpAny (model X.prog X.w) X.A (call (.builtin id) (v :: us)) (EP X pins σ Q) X.xe s
section
variable {X : Cx} {a b : Expr} {ta tb : TE} {pos : Pos}
def rIxL (K : PySem.W.Frag) : R2 := fun x y H Q => ∃ p xs i v, x = .ref p ∧ y = .int i ∧ SqL K H p xs ∧ atI xs i = some v ∧ Q v H
def rIxT (K : PySem.W.Frag) : R2 := fun x y H Q => ∃ p xs i v, x = .ref p ∧ y = .int i ∧ SqT K H p xs ∧ atI xs i = some v ∧ Q v H
def rIxS : R2 := fun x y H Q => ∃ z i c, x = .str z ∧ y = .int i ∧ z.length ≤ sizeLine ∧ atI z.cps.toList i = some c ∧ Q (.str ⟨#[c]⟩) H
theorem ix_list : IxR X (rIxL X.K) := by
  intro value slice pins s σ H x y v u Q I rx ry h hs
  obtain ⟨p, xs, i, z, rfl, rfl, hq, he, q⟩ := h
  cases rx
  obtain ⟨t, rfl⟩ := ry
  obtain ⟨its, r, pl, hz⟩ := I.list hq
  obtain ⟨j, h1, h2, h3, h4, h5⟩ := atI_get he
  obtain ⟨w, ew, rw'⟩ := r.get h2
  have hl := r.length
  have hn := line63
  have fin : EP X pins σ Q w s := ⟨z, H, I, rw', q⟩
  by_cases h0 : 0 ≤ i
  · have hj : i.toNat = j := by
      rw [seqIndex_of h0 h5] at h1
      exact Option.some.inj h1
    exact item_listR pl.isList h0 (by lia) (by rw [hj]; simpa using ew) fin hs
  · have hj : (i + (its.toArray.size : Int)).toNat = j := by
      rw [seqIndex_neg (by lia) h4] at h1
      simp_all
    exact subscriptTail_builtinR (x := w) pl.isList.typeIs slot_list_getitem.lookup
      (wpAny_getItem_list_neg pl.isList (by lia) (by grind) (by lia) (by rw [hj]; simpa using ew) ⟨rfl, fin⟩) hs
theorem ix_tup : IxR X (rIxT X.K) := by
  intro value slice pins s σ H x y v u Q I rx ry h hs
  obtain ⟨p, xs, i, z, rfl, rfl, hq, he, q⟩ := h
  cases rx
  obtain ⟨t, rfl⟩ := ry
  obtain ⟨its, r, pl, hz⟩ := I.tuple hq
  obtain ⟨j, h1, h2, h3, h4, h5⟩ := atI_get he
  obtain ⟨w, ew, rw'⟩ := r.get h2
  have hl := r.length
  have hn := line63
  have fin : EP X pins σ Q w s := ⟨z, H, I, rw', q⟩
  exact subscriptTail_builtinR pl.typeIs slot_tuple_getitem.lookup
    (getItem_tuple (j := j) pl (by lia) (by lia) (by simp_all) (by simpa using ew) ⟨rfl, fin⟩) hs
theorem ix_str : IxR X rIxS := by
  intro value slice pins s σ H x y v u Q I rx ry h hs
  obtain ⟨z, i, c, rfl, rfl, hz, he, q⟩ := h
  obtain ⟨t, rfl⟩ := rx
  obtain ⟨t', rfl⟩ := ry
  obtain ⟨j, h1, h2, h3, h4, h5⟩ := atI_get he
  have hl : z.cps.toList.length = z.length := by simp [Str.length]
  rw [hl] at h1 h4 h5
  have hn := line63
  exact tail_any (typeIs_str s z t) slot_str_getitem.lookup (getItem_str (c := c) (by
    have e1 : decide (i < -(2 ^ 63 : Int)) = false := decide_eq_false (by lia)
    have e2 : decide (i ≥ 2 ^ 63) = false := decide_eq_false (by lia)
    rw [e1, e2, Bool.or_false]) (by rw [h1]; simpa using h2) ⟨.str ⟨#[c]⟩, H, I.tok _, ⟨_, rfl⟩, q⟩) hs
theorem slice_bounds (lo hi : Option Int) (n : Nat) : (sliceBounds lo hi none n).1 = ((HT.sIx n 0 lo : Nat) : Int) ∧ (sliceBounds lo hi none n).2.1 = ((HT.sIx n n hi : Nat) : Int) ∧ (sliceBounds lo hi none n).2.2 = 1 := by
  have key : ∀ i : Int, (sliceBounds (some i) none none n).1 = ((HT.sIx n 0 (some i) : Nat) : Int) := fun i => by
    simp only [sliceBounds, HT.sIx, Option.getD_none, show (1 : Int) > 0 by decide, if_true]
    by_cases h : i < 0
    · simp only [h, if_true] <;> lia
    · simp only [h, if_false] <;> lia
  refine ⟨?_, ?_, rfl⟩
  · cases lo with
    | none => simp [sliceBounds, HT.sIx]
    | some i => exact key i
  · cases hi with
    | none => simp [sliceBounds, HT.sIx]
    | some i => exact key i
theorem slicePick_cut (its : List Value) (lo hi : Option Int) : slicePick its.toArray lo hi none = ((its.drop (HT.sIx its.length 0 lo)).take (HT.sIx its.length its.length hi - HT.sIx its.length 0 lo)).toArray := by
  obtain ⟨h1, h2, h3⟩ := slice_bounds lo hi its.toArray.size
  unfold slicePick
  rw [h1, h2, h3]
  simp only [sliceRange_one, pick_run] <;> rfl
def rSlL (K : PySem.W.Frag) : V → Option Int → Option Int → Hp → VK → Prop := fun x lo hi H Q => ∃ a xs, x = .ref a ∧ SqL K H a xs ∧ ∀ p, H p = none → Q (.ref p) (upd H p (.lst (cutV xs lo hi)))
theorem sl_list : SlR X (rSlL X.K) := by
  intro pins s σ H x v vl vu lo hi sl Q I rx hs pl pu h
  obtain ⟨a, xs, rfl, hx, q⟩ := h
  cases rx
  obtain ⟨its, r, ht, hz⟩ := I.list hx
  have hlen := r.length
  refine ⟨"list", _, slot_list_getitem.lookup, ht.isList.typeIs, (wpAny_getItem_list_slice ht.isList hs pl pu .none (by simp) ?_ (by simp_all))⟩
  rw [slicePick_cut, ← hlen]
  refine ⟨.ref s.heap.objs.size, _, I.laid (t' := s.toks) (fun b ob q => Heap.get?_push_of_some _ q) (Nat.le_refl _) ?_, rfl, q _ (I.hok.fresh (Nat.le_refl _))⟩
  exact ⟨Nat.le_trans (cutV_length xs lo hi) hz, _, 0, (r.drop (HT.sIx xs.length 0 lo)).take (HT.sIx xs.length xs.length hi - HT.sIx xs.length 0 lo), Heap.get?_push_size _ rfl⟩

theorem call_len_seq : CallR X (.builtin "len") (fun xs H Q => ∃ p ys, xs = [.ref p] ∧ (SqL X.K H p ys ∨ SqT X.K H p ys) ∧ Q (.int ys.length) H) := by
  intro pins s σ H xs us Q I r h
  obtain ⟨p, ys, rfl, hq, q⟩ := h
  obtain ⟨u, rfl, rx⟩ := vals1 r
  cases rx
  have hn := line63
  rcases hq with hq | hq
  · obtain ⟨its, r', pl, hz⟩ := I.list hq
    have hlen := r'.length
    exact Calls.call_len_list pl.isList (by simp only [List.size_toArray] <;> lia) ⟨.int ys.length, H, I.tok _, ⟨s.toks + 1, by rw [List.size_toArray, hlen]⟩, q⟩
  · obtain ⟨its, r', pl, hz⟩ := I.tuple hq
    have hlen := r'.length
    exact len_tuple pl (by grind) ⟨.int ys.length, H, I.tok _, ⟨s.toks + 1, by rw [List.size_toArray, hlen]⟩, q⟩
theorem call_len_str : CallR X (.builtin "len") (fun xs H Q => ∃ z, xs = [.str z] ∧ z.length ≤ sizeLine ∧ Q (.int z.length) H) := by
  intro pins s σ H xs us Q I r h
  obtain ⟨z, rfl, hz, q⟩ := h
  obtain ⟨u, rfl, t, rfl⟩ := vals1 r
  have hn := line63
  exact len_str (by lia) ⟨.int z.length, H, I.tok _, ⟨_, rfl⟩, q⟩
theorem call_list_of : CallR X (.type "list") (fun xs H Q => ∃ p ys, xs = [.ref p] ∧ (SqL X.K H p ys ∨ SqT X.K H p ys) ∧ ∀ l, H l = none → Q (.ref l) (upd H l (.lst ys))) := by
  intro pins s σ H xs us Q I r h
  obtain ⟨p, ys, rfl, hq, q⟩ := h
  obtain ⟨u, rfl, rx⟩ := vals1 r
  cases rx
  have fin : ∀ (its : List Value), Vals ys its → ys.length ≤ sizeLine → ∀ (h' : Heap) (c' : Nat), (∀ b o', s.heap.get? b = some o' → h'.get? b = some o') →
      h'.get? s.heap.objs.size = some { cls := .type "list", dict := none, data := .seq its.toArray c', slots := #[] } → EP X pins σ Q (.ref s.heap.objs.size) { s with heap := h' } := fun its r' hz h' c' kp e =>
    ⟨.ref s.heap.objs.size, _, I.laid (t' := s.toks) kp (Nat.le_refl _) (show ObjOk X.prog X.w _ h' _ (.lst ys) from ⟨hz, its, c', r', e⟩), rfl, q _ (I.hok.fresh (Nat.le_refl _))⟩
  rcases hq with hq | hq
  · obtain ⟨its, r', pl, hz⟩ := I.list hq
    have hlen := r'.length
    obtain ⟨o, ho, hc, n, hd⟩ := pl.isList
    exact call_list_seq p (.inl rfl) ho hc hd (fun h' c' kp e => fin its r' hz h' c' kp e) (by simp_all)
  · obtain ⟨its, r', pl, hz⟩ := I.tuple hq
    have hlen := r'.length
    obtain ⟨o, ho, hc, n, hd⟩ := pl
    exact call_list_seq p (.inr rfl) ho hc hd (fun h' c' kp e => fin its r' hz h' c' kp e) (by grind)
theorem call_tuple_of : CallR X (.type "tuple") (fun xs H Q => ∃ p ys, xs = [.ref p] ∧ ((SqL X.K H p ys ∧ ∀ l, H l = none → Q (.ref l) (upd H l (.tup ys))) ∨ (SqT X.K H p ys ∧ Q (.ref p) H))) := by
  intro pins s σ H xs us Q I r h
  obtain ⟨p, ys, rfl, h⟩ := h
  obtain ⟨u, rfl, rx⟩ := vals1 r
  cases rx
  rcases h with ⟨hq, q⟩ | ⟨hq, q⟩
  · obtain ⟨its, r', pl, hz⟩ := I.list hq
    have hlen := r'.length
    refine call_tuple_list pl.isList (fun h' kp => ?_) (by grind)
    have I1 : Inv X pins σ H { s with heap := h' } := I.kept (t' := s.toks) kp
    have I2 : Inv X pins σ (upd H h'.objs.size (.tup ys)) { s with heap := h'.push { cls := .type "tuple", data := .seq its.toArray } } :=
      I1.laid (t' := s.toks) (fun b o e => Heap.get?_push_of_some _ e) (Nat.le_refl _) (⟨hz, its, r', IsTup.new _ _⟩)
    exact ⟨.ref h'.objs.size, _, I2, rfl, q _ (I1.hok.fresh (Nat.le_refl _))⟩
  · obtain ⟨its, r', pl, hz⟩ := I.tuple hq
    exact call_tuple_same pl ⟨.ref p, H, I, rfl, q⟩

def tyV (K : PySem.W.Frag) (T : String) (x : V) (H : Hp) : Prop := match x with
  | .str _ => T = "str"
  | .int _ => T = "int"
  | .ref p => (T = "list" ∧ ∃ xs, SqL K H p xs) ∨ (T = "tuple" ∧ ∃ o, K.lookup p = some o ∧ o.cls = .type "tuple" ∧ o.dict = none) ∨
      (T = "dict" ∧ ((∃ kvs, H p = some (.dK kvs)) ∨ ∃ kvs, H p = some (.dT kvs))) ∨ (T = "set" ∧ ∃ S n, H p = some (.set S n))
  | _ => False
theorem tyV_is (I : Inv X pins σ H s) (r : RelV x v) (ty : tyV X.K T x H) :
    s.TypeIs v T ∧ ∀ a, v = .ref a → ∃ ob, s.heap.get? a = some ob ∧ ob.dict = none := by
  cases x with
  | str z =>
    obtain ⟨t, rfl⟩ := r
    cases (show T = "str" from ty)
    exact ⟨typeIs_str s z t, fun _ e => nomatch e⟩
  | int i =>
    obtain ⟨t, rfl⟩ := r
    cases (show T = "int" from ty)
    exact ⟨typeIs_int s i t, fun _ e => nomatch e⟩
  | ref p =>
    cases r
    rcases ty with ⟨rfl, xs, hq⟩ | ⟨rfl, o, hk, hc, hd⟩ | ⟨rfl, hk⟩ | ⟨rfl, S, n, hk⟩
    · obtain ⟨its, _, pl, _⟩ := I.list hq
      refine ⟨pl.isList.typeIs, fun a e => ?_⟩
      cases e
      obtain ⟨o, n, e, c, hd, _⟩ := pl
      exact ⟨o, e, hd⟩
    · refine ⟨⟨o, I.kIn p o hk, hc⟩, fun a e => ?_⟩
      cases e
      exact ⟨o, I.kIn _ o hk, hd⟩
    · have z : ∃ o, s.heap.get? p = some o ∧ o.ExactDict := by
        rcases hk with ⟨kvs, hk⟩ | ⟨kvs, hk⟩
        · obtain ⟨_, _, _, _, o, _, _, e, ex, _⟩ := I.hok p _ hk
          exact ⟨o, e, ex⟩
        · obtain ⟨_, _, _, _, o, _, _, e, ex, _⟩ := I.hok p _ hk
          exact ⟨o, e, ex⟩
      obtain ⟨o, e, ex⟩ := z
      refine ⟨⟨o, e, ex.1⟩, fun a e2 => ?_⟩
      cases e2
      exact ⟨o, e, ex.2.1⟩
    · obtain ⟨o, _, _, _, e, ex, _⟩ := I.hok p _ hk
      refine ⟨⟨o, e, ex.1⟩, fun a e2 => ?_⟩
      cases e2
      exact ⟨o, e, ex.2.1⟩
  | _ => exact False.elim ty
def tBM (K : PySem.W.Frag) (T : String) (r : V → List V → Hp → VK → Prop) (to : TE) (t : TA) : TE := fun σ H Q => to σ H fun x H1 => tyV K T x H1 ∧ t σ H1 fun xs H2 => r x xs H2 Q
variable {o e : Expr} {es : List Expr} {to : TE} {t : TA} {name : Str} {apos cpos : Pos} {T id : String} {r : V → List V → Hp → VK → Prop}
theorem pe_bm (pa : PlainAttrs T) (slot : Slot T name id) (hty : typeOf (.builtin id) = pure (.type "method_descriptor")) (hm : MtR X id r) (ho : PE X o to) (ha : PA X (e :: es) t)
    (hbase : attributeBase o name X.env (eval o X.env) = eval o X.env := by rfl)
    (hfew : ((backTo cpos (starEach (e :: es) X.env)).all (fun x => !x.1) && (backToKw cpos (keywordEach [] X.env)).all (fun x => x.1.isSome)
      && decide ((e :: es).length + ([] : List Keyword).length + (if ([] : List Keyword).isEmpty then 0 else 1) < 30)) = true := by rfl)
    (hline : (apos.endLine == cpos.line) = true := by rfl) (hs : starEach (e :: es) X.env = (false, eval e X.env) :: starEach es X.env := by rfl) (hplain : (backTo cpos (starEach es X.env)).any (·.1) = false := by rfl) :
    PE X (.Call (.Attribute o name apos) (e :: es) [] cpos) (tBM X.K T r to t) := by
  intro pins s σ H Q I h
  refine wpAny_Call_method_late hbase hfew hline rfl (thn (ho pins s σ H _ I h) fun v s1 ⟨x, H1, I1, r1, ty, q1⟩ => ?_)
  obtain ⟨h1, h2⟩ := tyV_is I1 r1 ty
  refine ⟨T, id, pa, slot, hty, h1, h2, ?_⟩
  have hA := ha cpos pins s1 σ H1 _ I1 q1
  rw [hs] at hA ⊢
  exact Calls.callWith_builtin (by show (false || (backTo cpos (starEach es X.env)).any (·.1)) = false; rw [hplain] <;> rfl) (Calls.evalArgs_plain (thn hA fun us s2 ⟨vs, H2, I2, r2, q2⟩ => hm pins s2 σ H2 x vs v us Q I2 r1 r2 q2))
/- xs.append(e), list.index on a module's tuple .. are MtR facts of 06m -/
end
end L2

namespace L2
open PySem PySem.Spec PyProof.Rows

def MtM (X : Cx) (id : String) (r : V → List V → Hp → VK → Prop) : Prop :=
  ∀ (pins : List (Addr × Obj)) (s : Shared) (σ : St) (H : Hp) (x : V) (xs : List V) (v : Value) (us : List Value) (Q : VK), Inv X pins σ H s → RelV x v → Vals xs us → r x xs H Q →
    wpAny (model X.prog X.w) X.A (call (.builtin id) (v :: us)) (EP X pins σ Q) X.xe s

theorem Vals.one : ∀ {x : V} {us : List Value}, Vals [x] us → ∃ u, us = [u] ∧ RelV x u := by
  intro _ _ z1
  cases z1 with
  | cons r z2 =>
    cases z2 with
    | nil => exact ⟨_, rfl, r⟩
theorem Vals.zero : ∀ {us : List Value}, Vals [] us → us = []
  | _, .nil => rfl
section
variable {X : Cx} {pins : List (Addr × Obj)} {σ : St} {H : Hp} {s : Shared} {l b : Addr} {xs ys zs : List V}

theorem Inv.lset {its its' : List Value} {n : Nat} {f : Array Value → Array Value} {t' : Nat} (I : Inv X pins σ H s) (hH : H l = some (.lst xs))
    (e : s.heap.get? l = some { cls := .type "list", data := .seq its.toArray n }) (hf : f its.toArray = its'.toArray) (hv : Vals ys its') (hz : ys.length ≤ sizeLine) :
    Inv X pins σ (upd H l (.lst ys)) { s with heap := s.heap.update l (Obj.mapSeq f), toks := t' } := by
  have q := PySem.IsL.update e f
  rw [hf] at q
  refine I.write (hH ▸ trivial) (.inl rfl) (fun b' u hb hu => (Heap.get?_update_other s.heap (Obj.mapSeq f) (Ne.symm hb)).trans hu) ⟨_, q⟩ ?_
  exact ⟨hz, its', _, hv, q⟩
theorem Inv.lnew (I : Inv X pins σ H s) (hv : Vals ys its) (hz : ys.length ≤ sizeLine) :
    Inv X pins σ (upd H s.heap.objs.size (.lst ys)) { s with heap := s.heap.push { cls := .type "list", data := .seq its.toArray }, toks := t' } :=
  I.laid (fun _ _ q => Heap.get?_push_of_some _ q) (Nat.le_refl _) ⟨hz, its, 0, hv, Heap.get?_push_size _ rfl⟩
theorem Inv.fresh (I : Inv X pins σ H s) : H s.heap.objs.size = none := I.hok.fresh (Nat.le_refl _)
theorem Inv.lstM (I : Inv X pins σ H s) (hH : H l = some (.lst xs)) : xs.length ≤ sizeLine ∧ ∃ (its : List Value) (n : Nat), Vals xs its ∧ xs.length = its.length ∧ s.heap.get? l = some { cls := .type "list", data := .seq its.toArray n } := by
  obtain ⟨z, its, n, r, e⟩ := I.hok l _ hH
  exact ⟨z, its, n, r, r.length, e⟩

end

section
variable {X : Cx}

def rAppend : V → List V → Hp → VK → Prop := fun x vs H Q => ∃ l xs y, x = .ref l ∧ vs = [y] ∧ H l = some (.lst xs) ∧ xs.length < sizeLine ∧ Q .non (upd H l (.lst (xs ++ [y])))
theorem mt_append : MtM X "list.append" rAppend := by
  intro pins s σ H x vs v us Q I rx rv h
  obtain ⟨l, xs, y, rfl, rfl, hH, hz, q⟩ := h
  cases rx
  obtain ⟨u, rfl, ru⟩ := rv.one
  obtain ⟨z, its, n, r, hl, e⟩ := I.lstM hH
  refine call_meets F.slot_list_append ⟨_, e, rfl⟩ F.entry_list_append (F.args_list_append_2 _ _) (PySem.list_append l its.toArray n u (by simp_all)) ⟨e, (⟨.non, _, I.lset (its' := its ++ [u]) hH e (by simp) (r.append (.cons ru .nil)) ?_, rfl, q⟩)⟩
  grind

end

section
variable {prog : Program} {w : World} {A : Around} {E : Value → Shared → Prop} {s : Shared}
end

section
variable {X : Cx}
end
end L2

namespace Att
open PySem PySem.W PySem.Calls PyProof.Rows

theorem ints_of_wellAll : ∀ (ns : List Int) (vs : List Value), WellAll P h vs (ns.map WData.int) → IntsAre vs ns := by
  intro ns
  induction ns with
  | nil =>
    intro vs w
    rw [List.map_nil] at w
    cases w
    exact .nil
  | cons n ns ih =>
    intro vs w
    rw [List.map_cons] at w
    cases w with
    | cons a b =>
      cases a
      exact .cons _ _ (ih _ b)

theorem script_of {l : OpenLaw} {n : Nat} (hn : l.most = some n) {P : Params} {h : Heap} {args : List WData} {vals : List Value}
    (hpre : l.row.toRowW.claim.pre args = true) (hwl : WellAll P h vals args) :
    ∃ a vs ns, vals = [Value.ref a] ∧ args = [WData.list (ns.map WData.int)] ∧ h.get? a = some { cls := .type "list", data := .seq vs.toArray } ∧ IntsAre vs ns ∧ ns.length ≤ n := by
  have hsh := (pre_splitW hpre).1
  have hc : l.pre.holds [] { args := args } = true := (pre_splitW hpre).2
  obtain ⟨d, r, rfl, h1, h2⟩ := hasAllW_cons hsh
  obtain rfl := hasAllW_nil h2
  obtain ⟨xs, rfl, h3⟩ := hasW_list h1
  obtain ⟨ns, rfl⟩ := items_int h3
  have hlen : ns.length ≤ n := by
    unfold OpenLaw.pre at hc
    have h4 : (WTm.not (.lt (.lit (.int (n : Int))) (.len (.arg 0)))).holds [] { args := [.list (ns.map .int)] } = true := by
      have h4 := (holds_andW hc).1
      rw [hn] at h4
      exact h4
    have h5 := condW_of h4 (w_not (w_lt w_lit (w_len_list (w_arg rfl))))
    simp_all
  cases hwl with
  | cons w1 w2 =>
    cases w2
    cases w1 with
    | list ho hall => exact ⟨_, _, ns, rfl, rfl, ho, ints_of_wellAll ns _ hall, hlen⟩

theorem post_true (l : OpenLaw) (args : List WData) : l.row.toRowW.claim.post args (.bool true) args = true :=
  postW_of (r := l.row.toRowW) (X := (true == true))
    (show WShape.has [] (.bool true) .bool = true by first | rfl | decide | simp [WShape.has, WShape.arms, WShape.armsAll])
    (show (WTm.eq .res (.lit (.bool true))).value [] { args := args, res := some (.bool true), after := args } = some (.bool (true == true)) from w_eq_bool (w_res rfl) w_lit) rfl

section
variable {prog : Program} {w : World} {A : Around} {E : Value → Shared → Prop} {s : Shared} {K : Frag}

def ledger (h : Heap) (L d : Addr) : List (Addr × Obj) := (List.range h.objs.size).filterMap fun a => if a = L ∨ a = d then none else (h.get? a).map fun o => (a, o)
end
end Att

namespace L2
open PySem PySem.Spec PyProof.Rows

theorem vals_ints : ∀ {vs : List Value} {ns : List Int}, IntsAre vs ns → Vals (ns.map V.int) vs := by
  intro _ _ z1
  cases z1 with
  | nil => exact .nil
  | cons n t h => exact .cons ⟨t, rfl⟩ (vals_ints h)

def Only (H : Hp) : Prop := ∀ b, H b = none ∨ ∃ o xs, H b = some (.frz o (.lst xs))

theorem law_call {P : Program} {w : World} {K : PySem.W.Frag} {mg mb : Str → Option Value} {CX : CXT} {k : Nat} {fa a : Addr} {fd : FuncData} {x : Str} {sp : Sp} {s₁ : Shared} {vs : List Value} {ns : List Int}
    (KX : K.In s₁.heap) (hns : s₁.heap.Ns mainGlobals mg) (hb : s₁.heap.Ns builtinsNs mb) (hbb : ∀ x : Str, x ≠ "__name__" → mb x = bootBuiltins x) (hlim : s₁.heap.NoLimit) (hg : s₁.gens = #[])
    (ha : s₁.heap.get? a = some { cls := .type "list", data := .seq vs.toArray }) (hi : IntsAre vs ns) (hl : ns.length ≤ sizeLine) (hr : Room k callerA)
    (F : ∀ base : Heap, K.In base → base.Ns mainGlobals mg → FnOk P w K mg base CX k fa fd [x] sp) (hbind : ∀ (s : Shared) (u : Value), BindsTo s fd ⟨[u], []⟩ [(x, u)])
    (hsp : ∀ H : Hp, Only H → SqL K H a (ns.map V.int) → sp [.ref a] H (fun v _ => v = .bl true) fun _ _ _ => False)
    (hCX : ∀ H e s', CX [] H s₁ (fun _ _ _ => False) e s' → False) :
    codeAny (model P w) callerA (.call (.ref fa) ⟨[.ref a], []⟩) (fun r s' => r = .ok (.ret (.bool true)) ∧ OldK s₁.heap s'.heap ∧ s'.os = s₁.os ∧ AllBare s'.gens) s₁ := by
  have rv := vals_ints hi
  have lenV := hi.length
  -- from an abstract heap in which nothing but the script may be tracked
  have core : ∀ H : Hp, Only H → SqL K H a (ns.map V.int) → HOk P w H s₁.heap → (∀ b, H b ≠ none → b = a) → (H a ≠ none → K.lookup a = none) →
      codeAny (model P w) callerA (.call (.ref fa) ⟨[.ref a], []⟩) (fun r s' => r = .ok (.ret (.bool true)) ∧ OldK s₁.heap s'.heap ∧ s'.os = s₁.os ∧ AllBare s'.gens) s₁ := by
    intro H hO hS hok hA hK
    have base_of : ∀ {b : Addr} {o : Obj}, s₁.heap.get? b = some o → H b = none → (hidT s₁.heap H).get? b = some o := fun e n => hidT_get e n
    have noA : ∀ {b : Addr} {o : Obj} {es : Array DictEntry} {ep : Nat}, s₁.heap.get? b = some o → o.data = .dict es ep → H b = none := fun {b o es ep} e d => by
      cases q : H b with
      | none => rfl
      | some u =>
        have e' : b = a := hA b (by rw [q]; simp)
        subst e'
        rw [ha] at e; cases e
        have d' : Data.seq vs.toArray _ = Data.dict es ep := d
        cases d'
    have nsK : ∀ {b : Addr} {m : Str → Option Value}, s₁.heap.Ns b m → (hidT s₁.heap H).Ns b m := fun {b m} ⟨o, es, ep, e, d, r⟩ => ⟨o, es, ep, base_of e (noA e d), d, r⟩
    have hKb : K.In (hidT s₁.heap H) := fun b o e => base_of (KX b o e) (by
      cases q : H b with
      | none => rfl
      | some u =>
        have e' : b = a := hA b (by rw [q]; simp)
        subst e'
        rw [hK (by rw [q]; simp)] at e; cases e)
    have hM : Mod K mg (hidT s₁.heap H) := ⟨hKb, nsK hns, ⟨mb, nsK hb, hbb⟩, let ⟨mc, h1, h2⟩ := hlim; ⟨mc, nsK h1, h2⟩⟩
    have e0 : Env0 P w K mg (hidT s₁.heap H) callerA [] s₁ H := ⟨rfl, hM, fun b o e => of_hidT e, Nat.le_of_eq (hidT_size _ _), trivial, fun b hb => absurd (show b ∈ ([] : List Addr) from hb) (by simp), hok, .of_eq hg⟩
    refine codeAny_mono ((F _ hKb (nsK hns)).run callerA [] s₁ H ⟨[.ref a], []⟩ [.ref a] [.ref a] _ _ hr e0 (hbind s₁ (.ref a)) (.cons rfl .nil) (hsp H hO hS)) fun r s' h => ?_
    cases r with
    | error e => exact (hCX H e s' h).elim
    | ok fl =>
      cases fl with
      | next => exact False.elim h
      | brk => exact False.elim h
      | cont => exact False.elim h
      | ret u =>
        obtain ⟨v, H', os, bare, un, hok', r', q⟩ := h
        have q' : v = .bl true := q
        subst q'
        obtain rfl : u = Value.bool true := r'
        refine ⟨rfl, OldK.of_keep fun b o e => ?_, os, bare⟩
        cases q : H b with
        | none => exact un.keep b o e q (by intro z; exact absurd (show b ∈ ([] : List Addr) from z) (by simp)) (by simp)
        | some u =>
          rcases hO b with z | ⟨ob, xs, z⟩
          · rw [q] at z; cases z
          · have z2 := un.frzs b ob _ z
            obtain ⟨e1, _⟩ := hok b _ z
            obtain ⟨e2, _⟩ := hok' b _ z2
            rw [e] at e1; cases e1
            exact e2
  cases hk : K.lookup a with
  | some o =>
    -- the script is one of the module's own objects
    have e := KX a o hk
    rw [ha] at e
    cases e
    refine core (fun _ => none) (fun _ => .inl rfl) (.inr ⟨_, vs.toArray, _, hk, rfl, rfl, rfl, by rw [List.size_toArray, lenV]; exact hl, by simpa using rv⟩) (fun b u z => by have z' : (none : Option HO) = some u := z; cases z') (fun b z => absurd rfl z) fun z => absurd rfl z
  | none =>
    refine core (fun b => if b = a then some (.frz { cls := .type "list", data := .seq vs.toArray } (.lst (ns.map V.int))) else none) (fun b => ?_) (.inl (.inr ⟨{ cls := .type "list", data := .seq vs.toArray }, if_pos rfl⟩)) (fun b u z => ?_) (fun b z => ?_) fun _ => hk
    · by_cases hb : b = a
      · exact .inr ⟨_, _, if_pos hb⟩
      · exact .inl (if_neg hb)
    · by_cases hb : b = a
      · have z' := (if_pos hb).symm.trans z
        cases z'
        subst hb
        exact ⟨ha, by rw [List.length_map]; exact hl, vs, _, rv, ha⟩
      · have z' := (if_neg hb).symm.trans z
        cases z'
    · by_cases hb : b = a
      · exact hb
      · exact absurd (if_neg hb) z
end L2

namespace L2
open PySem PySem.Spec PyProof.Rows

end L2

/- THE LAST THEOREM (shape; LID, My.* are yours):
   My.Adr: a structure of the addresses that your layer names (classes, functions); My.Txt K t: a structure (Prop) of the equations over K;
   My.txt_mk : {K} {implicit addresses ..} (e1 : nsIn K mainGlobals "law" = some (some (.ref f))) (e2 : K.lookup f = some ⟨oc, od, .func (fnOf "law" "law" params body scope dV kV doc pm an cdv ct), sl⟩) (e3 : codeIn K cdv "law" = true) .. : ∃ t, My.Txt K t

(the tactic k_is has no namespace: write k_is) -/

namespace L2
open PySem PySem.Spec PyProof.Rows

def defArgs (s : Stmt) : Arguments := match s with
  | .FunctionDef _ a _ _ _ _ _ _ _ _ => a
  | _ => { posonlyargs := [], args := [], vararg := none, kwonlyargs := [], kw_defaults := [], kwarg := none, defaults := [] }
def defBody (s : Stmt) : List Stmt := match s with
  | .FunctionDef _ _ b _ _ _ _ _ _ _ => b
  | _ => []
def defScope (s : Stmt) : Scope := match s with
  | .FunctionDef _ _ _ _ _ _ sc _ _ _ => sc
  | _ => { kind := .function, names := [], isGenerator := false, isCoroutine := false }

abbrev CX0 : CXT := fun _ _ _ _ _ _ => False
abbrev E0 : XK := fun _ _ _ => False
theorem pass0 : Passes CX0 X E0 := fun _ _ _ _ _ _ _ h => h.elim

structure Fun (K : PySem.W.Frag) (x qual : Str) (st : Stmt) (f : Addr) (fd : FuncData) : Prop where
  ex : ∃ (oc : Value) (od : Option Addr) (kV doc pm : Value) (an : Option Addr) (cdv ct : Value) (osl : Array (Option Value)),
    fd = PySem.W.fnOf x qual (defArgs st) (defBody st) (defScope st) .none kV doc pm an cdv ct ∧ K.lookup f = some ⟨oc, od, .func fd, osl⟩ ∧ PySem.W.codeIn K cdv qual = true
  kp : PySem.W.keepIn K (.ref f) = true
section
variable {P : Program} {w : World} {K : PySem.W.Frag} {mg : Str → Option Value} {base : Heap}
theorem Fun.ok {x qual : Str} {st : Stmt} {f : Addr} {fd : FuncData} {N ps : List Str} {k : Nat} {sp : Sp} (F : Fun K x qual st f fd) (S : FnScope N ps (defScope st)) (len : ∀ vs H Q E, sp vs H Q E → vs.length = ps.length)
    (hbody : ∀ (cdv : Value) (A : Around) (outer : List Env) (s : Shared) (H : Hp) (vs : List V) (Q : VK) (E : XK), Room k (A.deeper (envOfC qual (defScope st) s.heap.objs.size f cdv)) → sp vs H Q E →
      ∃ t, PSs (cxOf CX0 P w K mg base N qual (defScope st) f cdv A outer s H E).nox (defBody st) t ∧ t { nx := fun _ H' => Q .non H', rt := Q } (start N vs) H) : FnOk P w K mg base CX0 (k + 1) f fd ps sp := by
  obtain ⟨oc, od, kV, doc, pm, an, cdv, ct, osl, rfl, lk, hcd⟩ := F.ex
  refine fn_of lk hcd S len fun A outer s H vs Q E hr hsp => ?_
  obtain ⟨t, h, q⟩ := hbody cdv A outer s H vs Q E hr hsp
  exact ⟨t, h.nox, q⟩
theorem Fun.binds {x qual : Str} {st : Stmt} {f : Addr} {fd : FuncData} {ps : List Str} (F : Fun K x qual st f fd)
    (h : ∀ (kV doc pm : Value) (an : Option Addr) (cdv ct : Value) (us : List Value), us.length = ps.length → bindArgs (PySem.W.fnOf x qual (defArgs st) (defBody st) (defScope st) .none kV doc pm an cdv ct) ⟨us, []⟩ = pure (ps.zip us)) : Binds K fd ps [] := by
  obtain ⟨oc, od, kV, doc, pm, an, cdv, ct, osl, rfl, lk, hcd⟩ := F.ex
  exact .all (h kV doc pm an cdv ct)
theorem fun_mk {x qual : Str} {st : Stmt} {f : Addr} {oc : Value} {od an : Option Addr} {osl : Array (Option Value)} {kV doc pm cdv ct : Value} (l : K.lookup f = some ⟨oc, od, .func (PySem.W.fnOf x qual (defArgs st) (defBody st) (defScope st) .none kV doc pm an cdv ct), osl⟩)
    (c : PySem.W.codeIn K cdv qual = true) (k : PySem.W.keepIn K (.ref f) = true) : Fun K x qual st f (PySem.W.fnOf x qual (defArgs st) (defBody st) (defScope st) .none kV doc pm an cdv ct) := ⟨⟨oc, od, kV, doc, pm, an, cdv, ct, osl, rfl, l, c⟩, k⟩
end
theorem small1000 (h : n ≤ 1000) : n < sizeLine := Nat.lt_of_le_of_lt h (by decide)

section
variable {X : Cx}
end

def Same (H H' : Hp) : Prop := ∀ b o, H b = some o → H' b = some o
theorem Same.refl (H : Hp) : Same H H := fun _ _ h => h
theorem Same.trans (a : Same H H1) (b : Same H1 H2) : Same H H2 := fun c o h => b c o (a c o h)
theorem Same.seq {K : PySem.W.Frag} {H H' : Hp} {a : Addr} {xs : List V} (e : Same H H') (h : SqL K H a xs) : SqL K H' a xs := by
  rcases h with (h | ⟨o, h⟩) | h
  · exact .inl (.inl (e _ _ h))
  · exact .inl (.inr ⟨o, e _ _ h⟩)
  · exact .inr h

end L2

namespace DL
open PySem PySem.Spec L2
open PyProof.Rows hiding St

inductive D where
  | non | bl (b : Bool) | int (i : Int) | str (x : Str) | tup (xs : List D) | lst (xs : List D) | dct (kvs : List (D × D))

mutual
def hashD : D → Int
  | .int i => hashInt i
  | .tup xs => reduceHash (Builtin.Tuple.tupleHashOf (hashDs xs))
  | _ => 0
def hashDs : List D → List Int
  | [] => []
  | x :: xs => hashD x :: hashDs xs
end
def keyN : Nat → D → Bool
  | _, .int _ => true
  | n + 1, .tup xs => xs.all (keyN n)
  | _, _ => false
inductive R (α : Type) where
  | ok (a : α) | ex (e : Str) | bad
def R.bind {α β : Type} : R α → (α → R β) → R β
  | .ok a, f => f a
  | .ex e, _ => .ex e
  | .bad, _ => .bad
@[simp] theorem R.bind_ok {α β : Type} (a : α) (f : α → R β) : (R.ok a).bind f = f a := rfl
@[simp] theorem R.bind_ex {α β : Type} (e : Str) (f : α → R β) : (R.ex e : R α).bind f = .ex e := rfl
@[simp] theorem R.bind_bad {α β : Type} (f : α → R β) : (R.bad : R α).bind f = .bad := rfl

def DObj (a : Addr) (o : Obj) (es : List DictEntry) : Prop := (a == sysModules) = false ∧ o.ExactDict ∧ ∃ ea ep, o.data = .dict ea ep ∧ ea.toList = es
section
variable (K : PySem.W.Frag) (H : Hp) (O : Addr → Prop)
mutual
inductive Rep : V → D → Prop
  | non : Rep .non .non
  | bl {b : Bool} : Rep (.bl b) (.bl b)
  | int {i : Int} : Rep (.int i) (.int i)
  | str {x : Str} : Rep (.str x) (.str x)
  | tup {a : Addr} {vs : List V} {ds : List D} (h : SqT K H a vs) (r : Reps vs ds) : Rep (.ref a) (.tup ds)
  | lst {a : Addr} {vs : List V} {ds : List D} (h : SqL K H a vs) (n : ¬ O a) (r : Reps vs ds) : Rep (.ref a) (.lst ds)
  | dct {a : Addr} {o : Obj} {es : List DictEntry} {kvs : List (D × D)} (h : H a = some (.ext fun h => h.get? a = some o)) (x : DObj a o es) (n : ¬ O a) (nd : (kvs.map (·.1)).Nodup) (r : RepsD es kvs) : Rep (.ref a) (.dct kvs)
inductive Reps : List V → List D → Prop
  | nil : Reps [] []
  | cons {v : V} {d : D} {vs : List V} {ds : List D} (h : Rep v d) (t : Reps vs ds) : Reps (v :: vs) (d :: ds)
inductive RepsD : List DictEntry → List (D × D) → Prop
  | nil : RepsD [] []
  | cons {e : DictEntry} {k v : D} {a : Addr} {x : V} {es : List DictEntry} {kvs : List (D × D)} (hk : e.key = .ref a) (rk : Rep (.ref a) k) (hv : RelV x e.val) (rv : Rep x v) (hh : e.hash = hashD k ∧ keyN 7 k = true) (t : RepsD es kvs) : RepsD (e :: es) ((k, v) :: kvs)
end
end

section
variable {K : PySem.W.Frag}
theorem _root_.L2.Same.tup {a : Addr} {xs : List V} (e : Same H H') (h : SqT K H a xs) : SqT K H' a xs := by
  rcases h with (h | ⟨o, h⟩) | h
  · exact .inl (.inl (e _ _ h))
  · exact .inl (.inr ⟨o, e _ _ h⟩)
  · exact .inr h
mutual
theorem Rep.mono (hT : ∀ a xs, SqT K H a xs → SqT K H' a xs) (hL : ∀ a xs, ¬ O a → SqL K H a xs → ¬ O' a ∧ SqL K H' a xs) (hD : ∀ a φ, ¬ O a → H a = some (.ext φ) → ¬ O' a ∧ H' a = some (.ext φ)) : ∀ {v : V} {d : D}, Rep K H O v d → Rep K H' O' v d := by
  intro _ _ z1
  cases z1 with
  | non => exact .non
  | bl => exact .bl
  | int => exact .int
  | str => exact .str
  | tup h r => exact .tup (hT _ _ h) (Reps.mono hT hL hD r)
  | lst h n r => exact .lst (hL _ _ n h).2 (hL _ _ n h).1 (Reps.mono hT hL hD r)
  | dct h x n nd r => exact .dct (hD _ _ n h).2 x (hD _ _ n h).1 nd (RepsD.mono hT hL hD r)
theorem Reps.mono (hT : ∀ a xs, SqT K H a xs → SqT K H' a xs) (hL : ∀ a xs, ¬ O a → SqL K H a xs → ¬ O' a ∧ SqL K H' a xs) (hD : ∀ a φ, ¬ O a → H a = some (.ext φ) → ¬ O' a ∧ H' a = some (.ext φ)) : ∀ {vs : List V} {ds : List D}, Reps K H O vs ds → Reps K H' O' vs ds := by
  intro _ _ z1
  cases z1 with
  | nil => exact .nil
  | cons h t => exact .cons (Rep.mono hT hL hD h) (Reps.mono hT hL hD t)
theorem RepsD.mono (hT : ∀ a xs, SqT K H a xs → SqT K H' a xs) (hL : ∀ a xs, ¬ O a → SqL K H a xs → ¬ O' a ∧ SqL K H' a xs) (hD : ∀ a φ, ¬ O a → H a = some (.ext φ) → ¬ O' a ∧ H' a = some (.ext φ)) : ∀ {es : List DictEntry} {kvs : List (D × D)}, RepsD K H O es kvs → RepsD K H' O' es kvs
  | _, _, .nil => .nil
  | _, _, .cons hk rk hv rv hh t => .cons hk (Rep.mono hT hL hD rk) hv (Rep.mono hT hL hD rv) hh (RepsD.mono hT hL hD t)
end
theorem Rep.same (e : Same H H') (r : Rep K H O v d) : Rep K H' O v d := r.mono (fun _ _ h => e.tup h) (fun _ _ n h => ⟨n, e.seq h⟩) fun _ _ n h => ⟨n, e _ _ h⟩
theorem Reps.same (e : Same H H') (r : Reps K H O v d) : Reps K H' O v d := r.mono (fun _ _ h => e.tup h) (fun _ _ n h => ⟨n, e.seq h⟩) fun _ _ n h => ⟨n, e _ _ h⟩
theorem Rep.sub (e : ∀ a, O' a → O a) (r : Rep K H O v d) : Rep K H O' v d := r.mono (fun _ _ h => h) (fun _ _ n h => ⟨fun z => n (e _ z), h⟩) fun _ _ n h => ⟨fun z => n (e _ z), h⟩
theorem Reps.sub (e : ∀ a, O' a → O a) (r : Reps K H O v d) : Reps K H O' v d := r.mono (fun _ _ h => h) (fun _ _ n h => ⟨fun z => n (e _ z), h⟩) fun _ _ n h => ⟨fun z => n (e _ z), h⟩
theorem Reps.length : ∀ {vs : List V} {ds : List D}, Reps K H O vs ds → vs.length = ds.length
  | _, _, .nil => rfl
  | _, _, .cons _ t => by simp [Reps.length t]
theorem Reps.get : ∀ {vs : List V} {ds : List D} {i : Nat} {d : D}, Reps K H O vs ds → ds[i]? = some d → ∃ v, vs[i]? = some v ∧ Rep K H O v d := by
  intro _ _ z1 d z2 e
  cases z2 with
  | nil => simp at e
  | cons r t =>
    cases z1 with
    | zero => simp at e; subst e; exact ⟨_, rfl, r⟩
    | succ i =>
      obtain ⟨u, h1, h2⟩ := Reps.get (i := i) (d := d) t (by simpa using e)
      exact ⟨u, by simpa using h1, h2⟩
theorem Reps.append : ∀ {vs ws : List V} {ds es : List D}, Reps K H O vs ds → Reps K H O ws es → Reps K H O (vs ++ ws) (ds ++ es) := by
  intro _ _ _ _ z1 s
  cases z1 with
  | nil => exact s
  | cons r t => exact .cons r (Reps.append t s)
theorem Reps.take : ∀ {vs : List V} {ds : List D} (n : Nat), Reps K H O vs ds → Reps K H O (vs.take n) (ds.take n)
  | _, _, 0, _ => .nil
  | _, _, _ + 1, .nil => .nil
  | _, _, n + 1, .cons r t => .cons r (Reps.take n t)
theorem Reps.drop : ∀ {vs : List V} {ds : List D} (n : Nat), Reps K H O vs ds → Reps K H O (vs.drop n) (ds.drop n)
  | _, _, 0, r => r
  | _, _, _ + 1, .nil => .nil
  | _, _, n + 1, .cons _ t => Reps.drop n t
theorem Reps.snoc (r : Reps K H O vs ds) (h : Rep K H O v d) : Reps K H O (vs ++ [v]) (ds ++ [d]) := r.append (.cons h .nil)
theorem Reps.ints : ∀ (ns : List Int), Reps K H O (ns.map V.int) (ns.map D.int)
  | [] => .nil
  | _ :: ns => .cons .int (Reps.ints ns)
end

def Kp (H : Hp) (O : Addr → Prop) (H' : Hp) (O' : Addr → Prop) : Prop := ∀ b o, H b = some o → ¬ O b → H' b = some o ∧ ¬ O' b
section

theorem Kp.refl (H : Hp) (O : Addr → Prop) : Kp H O H O := fun _ _ h n => ⟨h, n⟩
theorem Kp.of (s : Same H H') : Kp H O H' O := fun b o h n => ⟨s b o h, n⟩
theorem Kp.trans (a : Kp H O H' O') (b : Kp H' O' H'' O'') : Kp H O H'' O'' := fun c o h n => by obtain ⟨h1, n1⟩ := a c o h n; exact b c o h1 n1
end
class Tabs where
  tbs : List (Addr × List (Pos × Str))
inductive Sl where
  | no | v (d : D) | o (xs : List D) | x (C : Value) | c (m : List D → R D) (φ : Hp → (Addr → Prop) → Addr → Prop) | d (kvs : List (D × D))
abbrev Ev := List Sl

def Mt : HO → Prop
  | .lst _ => True
  | .dK _ => True
  | .dT _ => True
  | .ext _ => True
  | _ => False
def DRep (K : PySem.W.Frag) (H : Hp) (O : Addr → Prop) (es : List DictEntry) (kvs : List (D × D)) : Prop :=
  Paired (fun (e : DictEntry) (p : D × D) => (∃ a, e.key = .ref a ∧ Rep K H O (.ref a) p.1) ∧ (∃ v, RelV v e.val ∧ Rep K H O v p.2) ∧ e.hash = hashD p.1 ∧ keyN 7 p.1 = true) es kvs
def Own : Sl → Prop
  | .o _ => True
  | .d _ => True
  | _ => False
section
variable (K : PySem.W.Frag) (H₀ H : Hp) (O : Addr → Prop)
def SlOk (x : Option (Option V)) : Sl → Prop
  | .no => True
  | .v d => ∃ v, x = some (some v) ∧ Rep K H O v d
  | .o xs => ∃ a vs, x = some (some (V.ref a)) ∧ O a ∧ H₀ a = none ∧ H a = some (.lst vs) ∧ Reps K H O vs xs
  | .x C => ∃ a o, x = some (some (V.ref a)) ∧ H a = some (.frz o (.own a)) ∧ o.cls = C
  | .c m φ => ∃ a, x = some (some (V.ref a)) ∧ ∀ H2 O2, Kp H O H2 O2 → φ H2 O2 a
  | .d kvs => ∃ a o es, x = some (some (V.ref a)) ∧ O a ∧ H₀ a = none ∧ H a = some (.ext fun h => h.get? a = some o) ∧ DObj a o es ∧ DRep K H O es kvs ∧ (kvs.map (·.1)).Nodup
end
variable [Tabs]
def Tb (H : Hp) : Prop := ∀ p ∈ Tabs.tbs, H p.1 = some (.tbl p.2)
structure EnvOk (K : PySem.W.Frag) (H₀ : Hp) (O₀ : Addr → Prop) (H : Hp) (O : Addr → Prop) (σ : St) (ρ : Ev) : Prop where
  len : σ.length = ρ.length
  same : Same H₀ H
  sub : ∀ a, O₀ a → O a
  trk : ∀ a, O a → ∃ o, H a = some o ∧ Mt o
  trk₀ : ∀ a, O₀ a → ∃ o, H₀ a = some o
  tab : Tb H
  slot : ∀ (i : Nat) (sl : Sl), ρ[i]? = some sl → SlOk K H₀ H O σ[i]? sl
  inj : ∀ (i j : Nat) (x y : Sl) (a : Addr), ρ[i]? = some x → ρ[j]? = some y → Own x → Own y → σ[i]? = some (some (V.ref a)) → σ[j]? = some (some (V.ref a)) → i = j

section
variable {K : PySem.W.Frag} {O₀ O O' : Addr → Prop}
theorem Tb.same (h : Tb H) (s : Same H H') : Tb H' := fun p hp => s _ _ (h p hp)
theorem EnvOk.val (E : EnvOk K H₀ O₀ H O σ ρ) (i : Nat) (d : D) (h : ρ[i]? = some (Sl.v d)) : ∃ v, σ[i]? = some (some v) ∧ Rep K H O v d := E.slot i _ h
theorem EnvOk.own (E : EnvOk K H₀ O₀ H O σ ρ) (i : Nat) (xs : List D) (h : ρ[i]? = some (Sl.o xs)) : ∃ a vs, σ[i]? = some (some (V.ref a)) ∧ O a ∧ H₀ a = none ∧ H a = some (.lst vs) ∧ Reps K H O vs xs := E.slot i _ h
theorem EnvOk.exc (E : EnvOk K H₀ O₀ H O σ ρ) (i : Nat) (C : Value) (h : ρ[i]? = some (Sl.x C)) : ∃ a o, σ[i]? = some (some (V.ref a)) ∧ H a = some (.frz o (.own a)) ∧ o.cls = C := E.slot i _ h
theorem DRep.mono (f : ∀ {v : V} {d : D}, Rep K H O v d → Rep K H' O' v d) : ∀ {kvs : List (D × D)}, DRep K H O es kvs → DRep K H' O' es kvs := fun {_} r =>
  Paired.mapP r <| by rintro _ _ ⟨⟨v, h1, h2⟩, ⟨w, h3, h4⟩, h5⟩; exact ⟨⟨v, h1, f h2⟩, ⟨w, h3, f h4⟩, h5⟩
theorem SlOk.move (h : SlOk K H₀ H O x sl) (hT : ∀ a xs, SqT K H a xs → SqT K H' a xs) (hL : ∀ a xs, ¬ O a → SqL K H a xs → ¬ O' a ∧ SqL K H' a xs) (hF : ∀ a o u, H a = some (.frz o u) → H' a = some (.frz o u)) (hk : Kp H O H' O') (ho : Own sl → ∀ a o, x = some (some (V.ref a)) → O a → H a = some o → O' a ∧ H' a = some o) : SlOk K H₀ H' O' x sl := by
  have hD : ∀ a φ, ¬ O a → H a = some (.ext φ) → ¬ O' a ∧ H' a = some (.ext φ) := fun a φ n h => ⟨(hk a _ h n).2, (hk a _ h n).1⟩
  cases sl with
  | no => trivial
  | v d => obtain ⟨v, h1, h2⟩ := h; exact ⟨v, h1, h2.mono hT hL hD⟩
  | o xs =>
    obtain ⟨a, vs, h1, h2, h3, h4, h5⟩ := h
    obtain ⟨h6, h7⟩ := ho trivial a _ h1 h2 h4
    exact ⟨a, vs, h1, h6, h3, h7, h5.mono hT hL hD⟩
  | x C => obtain ⟨a, o, h1, h2, h3⟩ := h; exact ⟨a, o, h1, hF _ _ _ h2, h3⟩
  | c m φ => obtain ⟨a, h1, h2⟩ := h; exact ⟨a, h1, fun H2 O2 k => h2 H2 O2 (hk.trans k)⟩
  | d kvs =>
    obtain ⟨a, o, es, h1, h2, h3, h4, h5, h6⟩ := h
    obtain ⟨h7, h8⟩ := ho trivial a _ h1 h2 h4
    exact ⟨a, o, es, h1, h7, h3, h8, h5, h6.1.mono fun r => r.mono hT hL hD, h6.2⟩
theorem SlOk.grow (h : SlOk K H₀ H O x sl) (e : Same H H') : SlOk K H₀ H' O x sl :=
  h.move (fun _ _ q => e.tup q) (fun _ _ n q => ⟨n, e.seq q⟩) (fun _ _ _ q => e _ _ q) (Kp.of e) fun _ _ _ _ q1 q2 => ⟨q1, e _ _ q2⟩
theorem EnvOk.grow (E : EnvOk K H₀ O₀ H O σ ρ) (e : Same H H') : EnvOk K H₀ O₀ H' O σ ρ where
  len := E.len
  same := E.same.trans e
  sub := E.sub
  trk := fun a h => by obtain ⟨o, q, m⟩ := E.trk a h; exact ⟨o, e a o q, m⟩
  trk₀ := E.trk₀
  tab := E.tab.same e
  slot := fun i sl h => (E.slot i sl h).grow e
  inj := E.inj
theorem EnvOk.fresh (E : EnvOk K H₀ O₀ H O σ ρ) (h : H p = none) : ¬ O p := fun z => by
  obtain ⟨o, q, _⟩ := E.trk p z
  lia
theorem set_get_ne {α : Type} {l : List α} {i j : Nat} {x : α} (h : i ≠ j) : (l.set i x)[j]? = l[j]? := List.getElem?_set_ne h
theorem set_get_some {α : Type} {l : List α} {i : Nat} {x y : α} (h : (l.set i x)[i]? = some y) : y = x ∧ i < l.length := by
  have hl : i < l.length := by
    have := (List.getElem?_eq_some_iff.mp h).1
    simpa using this
  rw [List.getElem?_set_self hl] at h
  exact ⟨(Option.some.inj h).symm, hl⟩
theorem EnvOk.put (E : EnvOk K H₀ O₀ H O σ ρ) {v : Option V} {sl : Sl} (i : Nat) (no : ¬ Own sl) (r : SlOk K H₀ H O (some v) sl) : EnvOk K H₀ O₀ H O (σ.set i v) (ρ.set i sl) where
  len := by simpa using E.len
  same := E.same
  sub := E.sub
  trk := E.trk
  trk₀ := E.trk₀
  tab := E.tab
  slot := fun j s h => by
    by_cases hj : i = j
    · subst hj
      obtain ⟨e, hl⟩ := set_get_some h
      subst e
      rw [List.getElem?_set_self (E.len ▸ hl)]
      exact r
    · rw [set_get_ne hj] at h ⊢
      exact E.slot j s h
  inj := fun j k x y a h1 h2 o1 o2 h3 h4 => by
    have ne : ∀ (l : Nat) (z : Sl), (ρ.set i sl)[l]? = some z → Own z → i ≠ l := fun l z q o e => by
      subst e
      obtain ⟨e, _⟩ := set_get_some q
      subst e
      exact no o
    have n1 := ne j x h1 o1
    have n2 := ne k y h2 o2
    rw [set_get_ne n1] at h1 h3
    rw [set_get_ne n2] at h2 h4
    exact E.inj j k x y a h1 h2 o1 o2 h3 h4
theorem EnvOk.set (E : EnvOk K H₀ O₀ H O σ ρ) (i : Nat) (r : Rep K H O v d) : EnvOk K H₀ O₀ H O (σ.set i (some v)) (ρ.set i (.v d)) := E.put i (fun z => z) ⟨v, rfl, r⟩
theorem SlOk.at_ (h : SlOk K H₀ H O x sl) (o : Own sl) : ∃ a u, x = some (some (V.ref a)) ∧ O a ∧ H₀ a = none ∧ H a = some u ∧ Mt u := by
  cases sl with
  | o xs => obtain ⟨a, vs, h1, h2, h3, h4, _⟩ := h; exact ⟨a, _, h1, h2, h3, h4, trivial⟩
  | d kvs => obtain ⟨a, u, es, h1, h2, h3, h4, _⟩ := h; exact ⟨a, _, h1, h2, h3, h4, trivial⟩
  | _ => exact o.elim
theorem EnvOk.putOwn (E : EnvOk K H₀ O₀ H O σ ρ) {a : Addr} {sl : Sl} (i : Nat) (hn : ∀ (j : Nat) (y : Sl), i ≠ j → ρ[j]? = some y → Own y → σ[j]? ≠ some (some (V.ref a))) (r : SlOk K H₀ H O (some (some (V.ref a))) sl) :
    EnvOk K H₀ O₀ H O (σ.set i (some (V.ref a))) (ρ.set i sl) where
  len := by simpa using E.len
  same := E.same
  sub := E.sub
  trk := E.trk
  trk₀ := E.trk₀
  tab := E.tab
  slot := fun j s h => by
    by_cases hj : i = j
    · subst hj
      obtain ⟨e, hl⟩ := set_get_some h
      subst e
      rw [List.getElem?_set_self (by rw [E.len]; exact hl)]
      exact r
    · rw [set_get_ne hj] at h ⊢
      exact E.slot j s h
  inj := fun j k x y b h1 h2 o1 o2 h3 h4 => by
    have at_ : ∀ (l : Nat), i = l → (σ.set i (some (V.ref a)))[l]? = some (some (V.ref b)) → b = a := fun l e q => by
      subst e
      obtain ⟨e, _⟩ := set_get_some q
      injection e with e; injection e
    by_cases hj : i = j
    · by_cases hk : i = k
      · exact hj.symm.trans hk
      · exfalso
        have eb := at_ j hj h3
        subst eb
        rw [set_get_ne hk] at h2 h4
        exact hn k y hk h2 o2 h4
    · by_cases hk : i = k
      · exfalso
        have eb := at_ k hk h4
        subst eb
        rw [set_get_ne hj] at h1 h3
        exact hn j x hj h1 o1 h3
      · rw [set_get_ne hj] at h1 h3
        rw [set_get_ne hk] at h2 h4
        exact E.inj j k x y b h1 h2 o1 o2 h3 h4
theorem same_upd (h : H p = none) (o : HO) : Same H (upd H p o) := fun b u q => by rw [upd_ne (ne_of_none q h)]; exact q
theorem EnvOk.besideO (E : EnvOk K H₀ O₀ H O σ ρ) (h : H a = none) (hk : K.lookup a = none) (m : Mt u) : EnvOk K H₀ O₀ (upd H a u) (fun b => O b ∨ b = a) σ ρ := by
  have s := same_upd h u
  have ne : ∀ b xs, SqL K H b xs → b ≠ a := fun b xs q z => by
    subst z
    rcases q with (q | ⟨o, q⟩) | ⟨o, _, _, q, _⟩
    · grind
    · lia
    · grind
  refine ⟨E.len, E.same.trans s, fun b z => .inl (E.sub b z), fun b z => ?_, E.trk₀, E.tab.same s, fun i sl e => ?_, E.inj⟩
  · rcases z with z | z
    · obtain ⟨o, q, m⟩ := E.trk b z; exact ⟨o, s b o q, m⟩
    · subst z; exact ⟨_, upd_same, m⟩
  · exact (E.slot i sl e).move (fun _ _ q => s.tup q) (fun b xs n q => ⟨fun z => z.elim n (ne b xs q), s.seq q⟩) (fun _ _ _ q => s _ _ q) (fun b o hb n => ⟨s b o hb, fun z => z.elim n fun e => by subst e; rw [h] at hb; cases hb⟩) fun _ b o _ q1 q2 => ⟨.inl q1, s _ _ q2⟩
theorem sqL_ne (h : H a = none) (hk : K.lookup a = none) (q : SqL K H b xs) : b ≠ a := fun z => by
  subst z
  rcases q with (q | ⟨o, q⟩) | ⟨o, _, _, q, _⟩
  · simp_all
  · grind
  · simp_all
theorem Reps.besideO (h : H a = none) (hk : K.lookup a = none) (r : Reps K H O v d) : Reps K (upd H a u) (fun b => O b ∨ b = a) v d :=
  r.mono (fun _ _ q => (same_upd h u).tup q) (fun b xs n q => ⟨fun z => z.elim n (sqL_ne h hk q), (same_upd h u).seq q⟩) fun b φ n q => ⟨fun z => z.elim n (ne_of_none q h), same_upd h u _ _ q⟩
theorem EnvOk.newOwn (E : EnvOk K H₀ O₀ H O σ ρ) (i : Nat) (h : H a = none) (hk : K.lookup a = none) (m : Mt u) (r : H₀ a = none → SlOk K H₀ (upd H a u) (fun b => O b ∨ b = a) (some (some (V.ref a))) sl) :
    EnvOk K H₀ O₀ (upd H a u) (fun b => O b ∨ b = a) (σ.set i (some (.ref a))) (ρ.set i sl) := by
  have h0 : H₀ a = none := by
    cases e : H₀ a with
    | none => rfl
    | some o => have := E.same a o e; rw [h] at this; cases this
  refine (E.besideO h hk m).putOwn i (fun j y _ e o q => ?_) (r h0)
  obtain ⟨b, w, p1, _, _, p4, _⟩ := (E.slot j y e).at_ o
  simp_all
theorem sqT_upd (h : H a = some u) (m : Mt u) (q : SqT K H b xs) : SqT K (upd H a u') b xs := by
  have ne : ∀ w, H b = some w → ¬ Mt w → b ≠ a := fun w e n z => by subst z; rw [h] at e; cases e; exact n m
  rcases q with (q | ⟨o, q⟩) | q
  · exact .inl (.inl ((upd_ne (ne _ q fun z => z)) ▸ q))
  · exact .inl (.inr ⟨o, by rw [upd_ne (ne _ q fun z => z)]; exact q⟩)
  · exact .inr q
theorem sqL_upd (hO : O a) (n : ¬ O b) (q : SqL K H b xs) : SqL K (upd H a u') b xs := by
  have ne : b ≠ a := fun z => by subst z; exact n hO
  rcases q with (q | ⟨o, q⟩) | q
  · exact .inl (.inl ((upd_ne ne) ▸ q))
  · exact .inl (.inr ⟨o, by rw [upd_ne ne]; exact q⟩)
  · exact .inr q
theorem Reps.upd (h : H a = some u) (m : Mt u) (hO : O a) (r : Reps K H O v d) : Reps K (upd H a u') O v d := r.mono (fun _ _ q => sqT_upd h m q) (fun _ _ n q => ⟨n, sqL_upd hO n q⟩) fun b _ n q => ⟨n, by rw [upd_ne (fun z => n (by rw [z]; exact hO))]; exact q⟩
theorem EnvOk.writeO {i : Nat} {sl sl' : Sl} {a : Addr} {u u' : HO} (E : EnvOk K H₀ O₀ H O σ ρ) (e : ρ[i]? = some sl) (ow : Own sl) (h1 : σ[i]? = some (some (V.ref a))) (hu : H a = some u) (m' : Mt u') (ow' : Own sl')
    (r : O a → H₀ a = none → Mt u → SlOk K H₀ (upd H a u') O (some (some (V.ref a))) sl') : EnvOk K H₀ O₀ (upd H a u') O σ (ρ.set i sl') ∧ Kp H O (upd H a u') O := by
  obtain ⟨b, w, p1, p2, p3, p4, m⟩ := (E.slot i sl e).at_ ow
  rw [h1] at p1
  injection p1 with p1; injection p1 with p1; injection p1 with p1
  subst p1
  rw [hu] at p4; cases p4
  have kp : Kp H O (upd H a u') O := fun b o hb n => ⟨by rw [upd_ne (fun z => by subst z; exact n p2)]; exact hb, n⟩
  have nf : ∀ b w, H b = some w → ¬ Mt w → upd H a u' b = some w := fun b w q n => by rw [upd_ne (fun z => by subst z; rw [hu] at q; cases q; exact n m)]; exact q
  refine ⟨⟨by simpa using E.len, fun b o q => ?_, E.sub, fun b z => ?_, E.trk₀, fun p hp => nf _ _ (E.tab p hp) fun z => z, fun j s h => ?_, fun j k x y b q1 q2 o1 o2 q3 q4 => ?_⟩, kp⟩
  · rw [upd_ne (fun z => by subst z; rw [p3] at q; cases q)]; exact E.same b o q
  · by_cases hb : b = a
    · subst hb; exact ⟨_, upd_same, m'⟩
    · obtain ⟨o, q, m⟩ := E.trk b z
      exact ⟨o, by rw [upd_ne hb]; exact q, m⟩
  · by_cases hj : i = j
    · subst hj
      obtain ⟨e', _⟩ := set_get_some h
      subst e'
      rw [h1]
      exact r p2 p3 m
    · rw [set_get_ne hj] at h
      refine (E.slot j s h).move (fun _ _ q => sqT_upd hu m q) (fun _ _ n q => ⟨n, sqL_upd p2 n q⟩) (fun b o w q => nf _ _ q fun z => z) kp fun o b w q1 q2 q3 => ⟨q2, ?_⟩
      rw [upd_ne (fun z => by subst z; exact hj (E.inj i j sl s b e h ow o h1 q1))]
      exact q3
  · have fin : ∀ l z, (ρ.set i sl')[l]? = some z → Own z → ∃ z', ρ[l]? = some z' ∧ Own z' := fun l z q o => by
      by_cases hl : i = l
      · subst hl; exact ⟨sl, e, ow⟩
      · rw [set_get_ne hl] at q; exact ⟨z, q, o⟩
    obtain ⟨x', u1, o1'⟩ := fin j x q1 o1
    obtain ⟨y', u2, o2'⟩ := fin k y q2 o2
    exact E.inj j k x' y' b u1 u2 o1' o2' q3 q4
theorem EnvOk.disownO {i : Nat} {sl sl' : Sl} {a : Addr} (E : EnvOk K H₀ O₀ H O σ ρ) (e : ρ[i]? = some sl) (ow : Own sl) (h1 : σ[i]? = some (some (V.ref a))) (no : ¬ Own sl') (r : SlOk K H₀ H (fun b => O b ∧ b ≠ a) (some (some (V.ref a))) sl') :
    EnvOk K H₀ O₀ H (fun b => O b ∧ b ≠ a) σ (ρ.set i sl') := by
  obtain ⟨b, w, p1, p2, p3, p4, m⟩ := (E.slot i sl e).at_ ow
  rw [h1] at p1
  injection p1 with p1; injection p1 with p1; injection p1 with p1
  subst p1
  refine ⟨by simpa using E.len, E.same, fun b z => ⟨E.sub b z, fun q => ?_⟩, fun b z => E.trk b z.1, E.trk₀, E.tab, fun j s h => ?_, fun j k x y b q1 q2 o1 o2 q3 q4 => ?_⟩
  · subst q; obtain ⟨o, q⟩ := E.trk₀ b z; rw [p3] at q; cases q
  · by_cases hj : i = j
    · subst hj
      obtain ⟨e', _⟩ := set_get_some h
      simp_all
    · rw [set_get_ne hj] at h
      refine (E.slot j s h).move (fun _ _ q => q) (fun _ _ n q => ⟨fun z => n z.1, q⟩) (fun _ _ _ q => q) (fun b o hb n => ⟨hb, fun z => n z.1⟩) fun o b w q1 q2 q3 => ⟨⟨q2, fun z => ?_⟩, q3⟩
      subst z
      exact hj (E.inj i j sl s b e h ow o h1 q1)
  · have n1 : i ≠ j := fun z => by subst z; obtain ⟨e', _⟩ := set_get_some q1; subst e'; exact no o1
    have n2 : i ≠ k := fun z => by subst z; obtain ⟨e', _⟩ := set_get_some q2; subst e'; exact no o2
    rw [set_get_ne n1] at q1
    rw [set_get_ne n2] at q2
    exact E.inj j k x y b q1 q2 o1 o2 q3 q4
end

def XW (X : Cx) (e : Str) (H : Hp) : Prop := False
def RC (X : Cx) (H : Hp) (O : Addr → Prop) (r : R D) (Q : VK) : Prop := match r with
  | .ok d => ∀ v H', Same H H' → Rep X.K H' O v d → Q v H'
  | .ex e => ∀ H', Same H H' → XW X e H'
  | .bad => False
def RepB (K : PySem.W.Frag) (H : Hp) (O : Addr → Prop) (v : V) (d : D) : Prop := Rep K H O v d ∨ ∃ a vs ds, v = .ref a ∧ d = .lst ds ∧ SqL K H a vs ∧ Reps K H O vs ds
def RCB (X : Cx) (H : Hp) (O : Addr → Prop) (r : R D) (Q : VK) : Prop := match r with
  | .ok d => ∀ v H', Same H H' → RepB X.K H' O v d → Q v H'
  | .ex e => ∀ H', Same H H' → XW X e H'
  | .bad => False
def RCT (X : Cx) (H : Hp) (r : R Bool) (Q : Bool → Hp → Prop) : Prop := match r with
  | .ok b => ∀ H', Same H H' → Q b H'
  | .ex e => ∀ H', Same H H' → XW X e H'
  | .bad => False
def RCs (X : Cx) (H : Hp) (O : Addr → Prop) (r : R (List D)) (Q : List V → Hp → Prop) : Prop := match r with
  | .ok ds => ∀ vs H', Same H H' → Reps X.K H' O vs ds → Q vs H'
  | .ex e => ∀ H', Same H H' → XW X e H'
  | .bad => False
def RCBs (X : Cx) (H : Hp) (O : Addr → Prop) (r : R (List D)) (Q : List V → Hp → Prop) : Prop := match r with
  | .ok ds => ∀ vs H', Same H H' → Paired (RepB X.K H' O) vs ds → Q vs H'
  | .ex e => ∀ H', Same H H' → XW X e H'
  | .bad => False

def tD (X : Cx) (f : Ev → R D) : TE := fun σ H Q => ∃ H₀ O₀ O ρ, EnvOk X.K H₀ O₀ H O σ ρ ∧ RC X H O (f ρ) Q
def tDB (X : Cx) (f : Ev → R D) : TE := fun σ H Q => ∃ H₀ O₀ O ρ, EnvOk X.K H₀ O₀ H O σ ρ ∧ RCB X H O (f ρ) Q
def tDT (X : Cx) (f : Ev → R Bool) : TT := fun σ H Q => ∃ H₀ O₀ O ρ, EnvOk X.K H₀ O₀ H O σ ρ ∧ RCT X H (f ρ) Q
def tDs (X : Cx) (f : Ev → R (List D)) : TA := fun σ H Q => ∃ H₀ O₀ O ρ, EnvOk X.K H₀ O₀ H O σ ρ ∧ RCs X H O (f ρ) Q
def tDBs (X : Cx) (f : Ev → R (List D)) : TA := fun σ H Q => ∃ H₀ O₀ O ρ, EnvOk X.K H₀ O₀ H O σ ρ ∧ RCBs X H O (f ρ) Q
def PD (X : Cx) (e : Expr) (f : Ev → R D) : Prop := PE X e (tD X f)
def PB (X : Cx) (e : Expr) (f : Ev → R D) : Prop := PE X e (tDB X f)
def PTD (X : Cx) (e : Expr) (f : Ev → R Bool) : Prop := PT X e (tDT X f)
def PAD (X : Cx) (es : List Expr) (f : Ev → R (List D)) : Prop := PA X es (tDs X f)
def PAB (X : Cx) (es : List Expr) (f : Ev → R (List D)) : Prop := PA X es (tDBs X f)

theorem peI {r : Hp → (Addr → Prop) → Ev → VK → Prop} (h : PE X e t) (i : ∀ σ H Q H₀ O₀ O ρ, EnvOk X.K H₀ O₀ H O σ ρ → r H O ρ Q → t σ H Q) : PE X e fun σ H Q => ∃ H₀ O₀ O ρ, EnvOk X.K H₀ O₀ H O σ ρ ∧ r H O ρ Q := fun pins s σ H Q I q => h pins s σ H Q I (let ⟨H₀, O₀, O, ρ, E, q⟩ := q; i σ H Q H₀ O₀ O ρ E q)
theorem ptI {r : Hp → (Addr → Prop) → Ev → (Bool → Hp → Prop) → Prop} (h : PT X e t) (i : ∀ σ H Q H₀ O₀ O ρ, EnvOk X.K H₀ O₀ H O σ ρ → r H O ρ Q → t σ H Q) : PT X e fun σ H Q => ∃ H₀ O₀ O ρ, EnvOk X.K H₀ O₀ H O σ ρ ∧ r H O ρ Q := fun pins s σ H Q I q => h pins s σ H Q I (let ⟨H₀, O₀, O, ρ, E, q⟩ := q; i σ H Q H₀ O₀ O ρ E q)
theorem paI {r : Hp → (Addr → Prop) → Ev → (List V → Hp → Prop) → Prop} (h : PA X es t) (i : ∀ σ H Q H₀ O₀ O ρ, EnvOk X.K H₀ O₀ H O σ ρ → r H O ρ Q → t σ H Q) : PA X es fun σ H Q => ∃ H₀ O₀ O ρ, EnvOk X.K H₀ O₀ H O σ ρ ∧ r H O ρ Q := fun pos pins s σ H Q I q => h pos pins s σ H Q I (let ⟨H₀, O₀, O, ρ, E, q⟩ := q; i σ H Q H₀ O₀ O ρ E q)
theorem mkE {β : Type} {r : Hp → (Addr → Prop) → Ev → β → Prop} {G : List (Addr × Obj) → Shared → St → Hp → β → Prop} (h : ∀ pins s σ H Q, Inv X pins σ H s → ∀ H₀ O₀ O ρ, EnvOk X.K H₀ O₀ H O σ ρ → r H O ρ Q → G pins s σ H Q) (pins s σ H Q) (I : Inv X pins σ H s) (q : ∃ H₀ O₀ O ρ, EnvOk X.K H₀ O₀ H O σ ρ ∧ r H O ρ Q) : G pins s σ H Q := by grind
theorem PD.pb (h : PD X e f) : PB X e f := peI h fun σ H Q H₀ O₀ O ρ E q => ⟨H₀, O₀, O, ρ, E, by
  cases e : f ρ with
  | ok d => rw [e] at q; exact fun v H' s r => q v H' s (.inl r)
  | ex x => rw [e] at q; exact q
  | bad => rw [e] at q; exact q⟩

theorem RC.seq {O : Addr → Prop} (h : RC X H O (r.bind g) Q) :
    RC X H O r fun v H1 => ∃ d, r = .ok d ∧ Same H H1 ∧ Rep X.K H1 O v d ∧ RC X H1 O (g d) Q := by
  cases r with
  | ok d =>
    intro v H1 s1 r1
    refine ⟨d, rfl, s1, r1, ?_⟩
    have h' : RC X H O (g d) Q := h
    cases e : g d with
    | ok d' => rw [e] at h'; exact fun w H2 s2 r2 => h' w H2 (s1.trans s2) r2
    | ex x => rw [e] at h'; exact fun H2 s2 => h' H2 (s1.trans s2)
    | bad => rw [e] at h'; exact h'
  | ex x => exact h
  | bad => exact h
theorem RCB.seq {O : Addr → Prop} (h : RC X H O (r.bind g) Q) :
    RCB X H O r fun v H1 => ∃ d, r = .ok d ∧ Same H H1 ∧ RepB X.K H1 O v d ∧ RC X H1 O (g d) Q := by
  cases r with
  | ok d =>
    intro v H1 s1 r1
    refine ⟨d, rfl, s1, r1, ?_⟩
    have h' : RC X H O (g d) Q := h
    cases e : g d with
    | ok d' => rw [e] at h'; exact fun w H2 s2 r2 => h' w H2 (s1.trans s2) r2
    | ex x => rw [e] at h'; exact fun H2 s2 => h' H2 (s1.trans s2)
    | bad => rw [e] at h'; exact h'
  | ex x => exact h
  | bad => exact h
theorem RC.grow {O : Addr → Prop} (h : RC X H O r Q) (s1 : Same H H1) : RC X H1 O r Q := by
  cases r with
  | ok d => exact fun w H2 s2 r2 => h w H2 (s1.trans s2) r2
  | ex x => exact fun H2 s2 => h H2 (s1.trans s2)
  | bad => exact h
end DL

namespace DL
open PySem PySem.Spec L2
open PyProof.Rows hiding St
variable [Tabs]

section
variable {X : Cx}
theorem RepB.same (e : Same H H') (r : RepB X.K H O v d) : RepB X.K H' O v d := by
  rcases r with r | ⟨a, vs, ds, h1, h2, h3, h4⟩
  · exact .inl (r.same e)
  · exact .inr ⟨a, vs, ds, h1, h2, e.seq h3, h4.same e⟩
theorem RepB.of {K : PySem.W.Frag} (r : Rep K H O v d) : RepB K H O v d := .inl r
theorem RepB.lstI {K : PySem.W.Frag} {ds : List D} (r : RepB K H O v (.lst ds)) : ∃ a vs, v = .ref a ∧ SqL K H a vs ∧ Reps K H O vs ds := by
  rcases r with r | ⟨a, vs, es, h1, h2, h3, h4⟩
  · cases r with | lst h n r => exact ⟨_, _, rfl, h, r⟩
  · injection h2 with h2; subst h2; exact ⟨a, vs, h1, h3, h4⟩
theorem RepB.dctI {K : PySem.W.Frag} {kvs : List (D × D)} (r : RepB K H O v (.dct kvs)) : ∃ a o es, v = .ref a ∧ H a = some (.ext fun h => h.get? a = some o) ∧ DObj a o es ∧ RepsD K H O es kvs ∧ (kvs.map (·.1)).Nodup := by
  rcases r with r | ⟨a, vs, es, h1, h2, h3, h4⟩
  · cases r with | dct h x n nd r => exact ⟨_, _, _, rfl, h, x, r, nd⟩
  · cases h2
theorem RepB.tupI {K : PySem.W.Frag} {ds : List D} (r : RepB K H O v (.tup ds)) : ∃ a vs, v = .ref a ∧ SqT K H a vs ∧ Reps K H O vs ds := by
  rcases r with r | ⟨a, vs, es, h1, h2, h3, h4⟩
  · cases r with | tup h r => exact ⟨_, _, rfl, h, r⟩
  · cases h2
theorem RepB.intI {K : PySem.W.Frag} {i : Int} (r : RepB K H O v (.int i)) : v = .int i := by
  rcases r with r | ⟨a, vs, es, h1, h2, h3, h4⟩
  · cases r; rfl
  · cases h2
theorem RepB.blI {K : PySem.W.Frag} {i : Bool} (r : RepB K H O v (.bl i)) : v = .bl i := by
  rcases r with r | ⟨a, vs, es, h1, h2, h3, h4⟩
  · cases r; rfl
  · cases h2
theorem RepB.nonI {K : PySem.W.Frag} (r : RepB K H O v .non) : v = .non := by
  rcases r with r | ⟨a, vs, es, h1, h2, h3, h4⟩
  · cases r; rfl
  · cases h2
theorem RepB.strI {K : PySem.W.Frag} {i : Str} (r : RepB K H O v (.str i)) : v = .str i := by
  rcases r with r | ⟨a, vs, es, h1, h2, h3, h4⟩
  · cases r; rfl
  · cases h2
end

def evV (i : Nat) (ρ : Ev) : R D := match ρ[i]? with
  | some (.v d) => .ok d
  | _ => .bad
def evB (i : Nat) (ρ : Ev) : R D := match ρ[i]? with
  | some (.v d) => .ok d
  | some (.o xs) => .ok (.lst xs)
  | _ => .bad
section

theorem pd_var (i : Nat) (hN : X.N[i]? = some x := by rfl) (hv : Vis X.env.scope x := by first | exact Or.inl rfl | exact Or.inr (Or.inl rfl) | exact Or.inr (Or.inr rfl)) (hd : (x == ("__debug__" : Str)) = false := by decide) (hcd : (x == ("__classdict__" : Str)) = false := by decide) : PD X (.Name x pos) (evV i) := peI (pe_var hN hv hd hcd) fun σ H Q H₀ O₀ O ρ E q => by
  unfold evV at q
  cases e : ρ[i]? with
  | none => rw [e] at q; exact q.elim
  | some sl =>
    rw [e] at q
    cases sl with
    | no => exact q.elim
    | x C => exact q.elim
    | c m φ => exact q.elim
    | d kvs => exact q.elim
    | o xs => exact q.elim
    | v d =>
      obtain ⟨v, h1, h2⟩ := E.val i d e
      exact ⟨v, h1, q v H (Same.refl H) h2⟩
theorem pb_var (i : Nat) (hN : X.N[i]? = some x := by rfl) (hv : Vis X.env.scope x := by first | exact Or.inl rfl | exact Or.inr (Or.inl rfl) | exact Or.inr (Or.inr rfl)) (hd : (x == ("__debug__" : Str)) = false := by decide) (hcd : (x == ("__classdict__" : Str)) = false := by decide) : PB X (.Name x pos) (evB i) := peI (pe_var hN hv hd hcd) fun σ H Q H₀ O₀ O ρ E q => by
  unfold evB at q
  cases e : ρ[i]? with
  | none => rw [e] at q; exact q.elim
  | some sl =>
    rw [e] at q
    cases sl with
    | no => exact q.elim
    | x C => exact q.elim
    | c m φ => exact q.elim
    | d kvs => exact q.elim
    | o xs =>
      obtain ⟨a, vs, h1, h2, h3, h4, h5⟩ := E.own i xs e
      exact ⟨_, h1, q _ H (Same.refl H) (.inr ⟨a, vs, xs, rfl, rfl, SqL.of h4, h5⟩)⟩
    | v d =>
      obtain ⟨v, h1, h2⟩ := E.val i d e
      exact ⟨v, h1, q v H (Same.refl H) (.inl h2)⟩
def evC (d : D) (_ : Ev) : R D := .ok d
theorem pd_con (h : PE X e (tC v)) (r : ∀ H O, Rep X.K H O v d) : PD X e (evC d) := peI h fun σ H Q H₀ O₀ O ρ E q => q v H (Same.refl H) (r H O)
theorem pd_int {j pos} : PD X (.Constant (.int i) j pos) (evC (.int i)) := pd_con pe_int fun _ _ => .int
theorem pd_bl {j pos} : PD X (.Constant (.bool i) j pos) (evC (.bl i)) := pd_con pe_bl fun _ _ => .bl
theorem pd_str {j pos} : PD X (.Constant (.str i) j pos) (evC (.str i)) := pd_con pe_str fun _ _ => .str
theorem pd_non {j pos} : PD X (.Constant .none j pos) (evC .non) := pd_con pe_non fun _ _ => .non

def OpD (X : Cx) (f : Value → Value → Sem Value) (g : D → D → R D) : Prop :=
  ∀ (H : Hp) (O : Addr → Prop) (x y : V) (dx dy : D) (Q : VK), (∀ p, H p = none → ¬ O p) → RepB X.K H O x dx → RepB X.K H O y dy → RC X H O (g dx dy) Q → ∃ r, OpR X f r ∧ r x y H Q
def rTwo (X : Cx) (O : Addr → Prop) (g : D → D → R D) (Q : VK) : V → V → Hp → Prop := fun x y H => ∃ dx dy, (∀ p, H p = none → ¬ O p) ∧ RepB X.K H O x dx ∧ RepB X.K H O y dy ∧ RC X H O (g dx dy) Q
theorem two_ops {O₀ O : Addr → Prop} (E : EnvOk X.K H₀ O₀ H O σ ρ) (q : RC X H O ((f1 ρ).bind fun x => (f2 ρ).bind fun y => g x y) Q) :
    tDB X f1 σ H fun x H1 => tDB X f2 σ H1 fun y H2 => rTwo X O g Q x y H2 := by
  refine ⟨H₀, O₀, O, ρ, E, ?_⟩
  have h1 := RCB.seq q
  revert h1
  cases e1 : f1 ρ with
  | ok d1 =>
    intro h1 x H1 s1 r1
    obtain ⟨d, e, _, r, h2⟩ := h1 x H1 s1 r1
    cases e
    have E1 := E.grow s1
    refine ⟨H₀, O₀, O, ρ, E1, ?_⟩
    have h3 := RCB.seq h2
    revert h3
    cases e2 : f2 ρ with
    | ok d2 =>
      intro h3 y H2 s2 r2
      obtain ⟨d', e, _, r', h4⟩ := h3 y H2 s2 r2
      cases e
      exact ⟨d1, d2, fun p hp => (E1.grow s2).fresh hp, r.same s2, r', h4⟩
    | ex x => intro h3; exact h3
    | bad => intro h3; exact h3
  | ex x => intro h1; exact h1
  | bad => intro h1; exact h1
theorem pd_bin (ho : OpD X (binaryOp op) g) (ha : PB X a f1) (hb : PB X b f2) : PD X (.BinOp a op b pos) (fun ρ => (f1 ρ).bind fun x => (f2 ρ).bind fun y => g x y) := by
  refine mkE fun pins s σ H Q I H₀ O₀ O ρ E q => (wpAny_BinOp (binT ha hb I (two_ops E q) fun v u s2 x y H2 I2 rx ry h => ?_))
  obtain ⟨dx, dy, fr, r1, r2, q⟩ := h
  obtain ⟨r, hr, hq⟩ := ho H2 O x y dx dy Q fr r1 r2 q
  exact hr pins s2 σ H2 x y v u Q I2 rx ry hq
theorem pd_cmp (ho : OpD X (compareOp op) g) (ha : PB X a f1) (hb : PB X b f2) (hm : behindInMarks op b = false := by first | exact nomark _ | with_unfolding_all rfl) :
    PD X (.Compare a [op] [b] pos) (fun ρ => (f1 ρ).bind fun x => (f2 ρ).bind fun y => g x y) := by
  refine mkE fun pins s σ H Q I H₀ O₀ O ρ E q => (wpAny_Compare1 (binT ha hb I (two_ops E q) fun v u s2 x y H2 I2 rx ry h => ?_) hm)
  obtain ⟨dx, dy, fr, r1, r2, q⟩ := h
  obtain ⟨r, hr, hq⟩ := ho H2 O x y dx dy Q fr r1 r2 q
  exact hr pins s2 σ H2 x y v u Q I2 rx ry hq
def toB : D → R Bool
  | .bl b => .ok b
  | _ => .bad
theorem test_of {O : Addr → Prop} {Q : Bool → Hp → Prop} (h : RCT X H (r.bind toB) Q) : RC X H O r fun v H1 => ∃ c, v = .bl c ∧ Q c H1 := by
  cases r with
  | ok d =>
    cases d with
    | bl b =>
      intro v H1 s1 r1
      cases r1
      exact ⟨b, rfl, h H1 s1⟩
    | _ => exact (h).elim
  | ex x => exact h
  | bad => exact h
theorem ptd_cmp (ho : OpD X (compareOp op) g) (ha : PB X a f1) (hb : PB X b f2) (hm : behindInMarks op b = false := by first | exact nomark _ | with_unfolding_all rfl) :
    PTD X (.Compare a [op] [b] pos) (fun ρ => ((f1 ρ).bind fun x => (f2 ρ).bind fun y => g x y).bind toB) := by
  refine mkE fun pins s σ H Q I H₀ O₀ O ρ E q => ?_
  have q' := test_of (O := O) q
  refine wpAny_isTrue_Compare1 (binT ha hb I (two_ops E q') fun v u s2 x y H2 I2 rx ry h => ?_) hm
  obtain ⟨dx, dy, fr, r1, r2, q⟩ := h
  obtain ⟨r, hr, hq⟩ := ho H2 O x y dx dy _ fr r1 r2 q
  refine thn (hr pins s2 σ H2 x y v u _ I2 rx ry hq) fun c s3 z9 => ?_
  obtain ⟨z, H3, I3, r3, k, e, q3⟩ := z9
  subst e
  cases r3
  exact wpAny_truthy_bool ⟨H3, I3, q3⟩
theorem ptd_val (h : PD X e f) (he : ∀ whole, isTrue e X.env whole = (do let v ← whole; standAt e.pos; holding [v] (truthy v)) := by intro _; rfl) : PTD X e (fun ρ => (f ρ).bind toB) := by
  refine ptI (pt_val h he) fun σ H Q H₀ O₀ O ρ E q => ⟨H₀, O₀, O, ρ, E, test_of q⟩

theorem RCT.seq {Q : Bool → Hp → Prop} (h : RCT X H (r.bind g) Q) : RCT X H r fun b H1 => r = .ok b ∧ Same H H1 ∧ RCT X H1 (g b) Q := by
  cases r with
  | ok d =>
    intro H1 s1
    refine ⟨rfl, s1, ?_⟩
    have h' : RCT X H (g d) Q := h
    cases e : g d with
    | ok d' => rw [e] at h'; exact fun H2 s2 => h' H2 (s1.trans s2)
    | ex x => rw [e] at h'; exact fun H2 s2 => h' H2 (s1.trans s2)
    | bad => rw [e] at h'; exact h'
  | ex x => exact h
  | bad => exact h
theorem RCT.seqD {O : Addr → Prop} (h : RC X H O (r.bind g) Q) : RCT X H r fun b H1 => r = .ok b ∧ Same H H1 ∧ RC X H1 O (g b) Q := by
  cases r with
  | ok d =>
    intro H1 s1
    refine ⟨rfl, s1, ?_⟩
    have h' : RC X H O (g d) Q := h
    exact h'.grow s1
  | ex x => exact h
  | bad => exact h
theorem RCT.mono {Q Q' : Bool → Hp → Prop} (h : RCT X H r Q) (i : ∀ b H1, Q b H1 → Q' b H1) : RCT X H r Q' := by
  cases r with
  | ok d => exact fun H1 s1 => i _ _ (h H1 s1)
  | ex x => exact h
  | bad => exact h
theorem RC.mono {O : Addr → Prop} (h : RC X H O r Q) (i : ∀ b H1, Q b H1 → Q' b H1) : RC X H O r Q' := by
  cases r with
  | ok d => exact fun v H1 s1 r1 => i _ _ (h v H1 s1 r1)
  | ex x => exact h
  | bad => exact h
def PWD (X : Cx) (e : Expr) (f : Ev → R Bool) : Prop := PW X e (tDT X f)
def andB (f g : Ev → R Bool) : Ev → R Bool := fun ρ => (f ρ).bind fun b => if b = true then g ρ else .ok false
def orB (f g : Ev → R Bool) : Ev → R Bool := fun ρ => (f ρ).bind fun b => if b = true then .ok true else g ρ
def notB (f : Ev → R Bool) : Ev → R Bool := fun ρ => (f ρ).bind fun b => .ok (!b)
variable {rest : List Expr}
theorem pwd_and1 (ha : PTD X a f) : PWD X (.BoolOp .And [a] pos) f := pw_and1 ha
theorem pwd_or1 (ha : PTD X a f) : PWD X (.BoolOp .Or [a] pos) f := pw_or1 ha
theorem pw_imp (h : PW X e t) (i : ∀ σ H Q, t' σ H Q → t σ H Q) : PW X e t' := fun wh pins s σ H Q I q => h wh pins s σ H Q I (i σ H Q q)
theorem pwd_and (ha : PTD X a f) (hb : PWD X (.BoolOp .And (b :: rest) pos) g) : PWD X (.BoolOp .And (a :: b :: rest) pos) (andB f g) :=
  pw_imp (pw_and ha hb) fun σ H Q ⟨H₀, O₀, O, ρ, E, q⟩ => ⟨H₀, O₀, O, ρ, E, RCT.mono (RCT.seq q) <| by
    rintro b H1 ⟨_, s1, h1⟩
    cases b with
    | true => rw [if_pos rfl]; exact ⟨H₀, O₀, O, ρ, E.grow s1, h1⟩
    | false => rw [if_neg Bool.false_ne_true]; exact h1 H1 (Same.refl _)⟩
theorem pwd_or (ha : PTD X a f) (hb : PWD X (.BoolOp .Or (b :: rest) pos) g) : PWD X (.BoolOp .Or (a :: b :: rest) pos) (orB f g) :=
  pw_imp (pw_or ha hb) fun σ H Q ⟨H₀, O₀, O, ρ, E, q⟩ => ⟨H₀, O₀, O, ρ, E, RCT.mono (RCT.seq q) <| by
    rintro b H1 ⟨_, s1, h1⟩
    cases b with
    | false => rw [if_neg Bool.false_ne_true]; exact ⟨H₀, O₀, O, ρ, E.grow s1, h1⟩
    | true => rw [if_pos rfl]; exact h1 H1 (Same.refl _)⟩
theorem PWD.pt (h : PWD X e f) : PTD X e f := PW.pt h
theorem ptd_not (ha : PTD X a f) : PTD X (.UnaryOp .Not a pos) (notB f) :=
  ptI (pt_not ha) fun σ H Q H₀ O₀ O ρ E q => ⟨H₀, O₀, O, ρ, E, RCT.mono (RCT.seq q) <| by rintro b H1 ⟨_, s1, h1⟩; exact h1 H1 (Same.refl _)⟩
def andV (f : Ev → R D) (g : Ev → R D) : Ev → R D := fun ρ => ((f ρ).bind toB).bind fun b => if b = true then g ρ else .ok (.bl false)
def orV (f : Ev → R D) (g : Ev → R D) : Ev → R D := fun ρ => ((f ρ).bind toB).bind fun b => if b = true then .ok (.bl true) else g ρ
def notV (f : Ev → R D) : Ev → R D := fun ρ => ((f ρ).bind toB).bind fun b => .ok (.bl (!b))
theorem pd_one {op} {f : Ev → R D} (h : PD X a f) : PD X (.BoolOp op [a] pos) f := pe_one h
theorem pd_and {f g : Ev → R D} (ha : PD X a f) (hb : PD X (.BoolOp .And (b :: rest) pos) g) : PD X (.BoolOp .And (a :: b :: rest) pos) (andV f g) :=
  peI (pe_and ha hb) fun σ H Q H₀ O₀ O ρ E q => ⟨H₀, O₀, O, ρ, E, RC.mono (test_of (RCT.seqD q)) fun v H1 ⟨c, e, _, s1, h1⟩ => ⟨c, e, by
    cases c with
    | true => rw [if_pos rfl]; exact ⟨H₀, O₀, O, ρ, E.grow s1, h1⟩
    | false => rw [if_neg Bool.false_ne_true]; exact h1 _ H1 (Same.refl _) .bl⟩⟩
theorem pd_or {f g : Ev → R D} (ha : PD X a f) (hb : PD X (.BoolOp .Or (b :: rest) pos) g) : PD X (.BoolOp .Or (a :: b :: rest) pos) (orV f g) :=
  peI (pe_or ha hb) fun σ H Q H₀ O₀ O ρ E q => ⟨H₀, O₀, O, ρ, E, RC.mono (test_of (RCT.seqD q)) fun v H1 ⟨c, e, _, s1, h1⟩ => ⟨c, e, by
    cases c with
    | false => rw [if_neg Bool.false_ne_true]; exact ⟨H₀, O₀, O, ρ, E.grow s1, h1⟩
    | true => rw [if_pos rfl]; exact h1 _ H1 (Same.refl _) .bl⟩⟩
theorem pd_not {f : Ev → R D} (ha : PD X a f) : PD X (.UnaryOp .Not a pos) (notV f) :=
  peI (pe_not ha) fun σ H Q H₀ O₀ O ρ E q => ⟨H₀, O₀, O, ρ, E, RC.mono (test_of (RCT.seqD q)) <| by rintro v H1 ⟨c, e, _, s1, h1⟩; exact ⟨c, e, h1 _ H1 (Same.refl _) .bl⟩⟩
def iteV (c : Ev → R Bool) (f g : Ev → R D) : Ev → R D := fun ρ => (c ρ).bind fun b => if b = true then f ρ else g ρ
theorem pd_ite {c : Expr} {fc : Ev → R Bool} {f g : Ev → R D} (hc : PTD X c fc) (ha : PD X a f) (hb : PD X b g) : PD X (.IfExp c a b pos) (iteV fc f g) :=
  peI (pe_ifExp hc ha hb) fun σ H Q H₀ O₀ O ρ E q => ⟨H₀, O₀, O, ρ, E, RCT.mono (RCT.seqD q) <| by
    rintro c H1 ⟨_, s1, h1⟩
    cases c with
    | false => rw [if_neg Bool.false_ne_true]; exact ⟨H₀, O₀, O, ρ, E.grow s1, h1⟩
    | true => rw [if_pos rfl]; exact ⟨H₀, O₀, O, ρ, E.grow s1, h1⟩⟩
def negD : D → R D
  | .int i => .ok (.int (-i))
  | _ => .bad
theorem pd_neg {f : Ev → R D} (ha : PD X a f) : PD X (.UnaryOp .USub a pos) (fun ρ => (f ρ).bind negD) :=
  peI (pe_un un_neg ha) fun σ H Q H₀ O₀ O ρ E q => ⟨H₀, O₀, O, ρ, E, by
    refine RC.mono (RC.seq q) fun v H1 z9 => ?_
    obtain ⟨d, _, s1, r1, h1⟩ := z9
    cases d with
    | int i => cases r1; exact ⟨i, rfl, h1 _ H1 (Same.refl _) .int⟩
    | _ => exact (show False from h1).elim⟩

theorem RCs.seq {H : Hp} {O : Addr → Prop} {r : R (List D)} {g : List D → R D} {Q : VK} (h : RC X H O (r.bind g) Q) :
    RCs X H O r fun v H1 => ∃ d, r = .ok d ∧ Same H H1 ∧ Reps X.K H1 O v d ∧ RC X H1 O (g d) Q := by
  cases r with
  | ok d => exact fun v H1 s1 r1 => ⟨d, rfl, s1, r1, (h).grow s1⟩
  | ex x => exact h
  | bad => exact h
theorem RCs.mono {O : Addr → Prop} {Q Q' : List V → Hp → Prop} (h : RCs X H O r Q) (i : ∀ b H1, Q b H1 → Q' b H1) : RCs X H O r Q' := by
  cases r with
  | ok d => exact fun v H1 s1 r1 => i _ _ (h v H1 s1 r1)
  | ex x => exact h
  | bad => exact h
theorem RCBs.seq {H : Hp} {O : Addr → Prop} {r : R (List D)} {g : List D → R D} {Q : VK} (h : RC X H O (r.bind g) Q) :
    RCBs X H O r fun v H1 => ∃ d, r = .ok d ∧ Same H H1 ∧ Paired (RepB X.K H1 O) v d ∧ RC X H1 O (g d) Q := by
  cases r with
  | ok d => exact fun v H1 s1 r1 => ⟨d, rfl, s1, r1, (h).grow s1⟩
  | ex x => exact h
  | bad => exact h
theorem RCB.mono {O : Addr → Prop} (h : RCB X H O r Q) (i : ∀ b H1, Q b H1 → Q' b H1) : RCB X H O r Q' := by
  cases r with
  | ok d => exact fun v H1 s1 r1 => i _ _ (h v H1 s1 r1)
  | ex x => exact h
  | bad => exact h
def consR (f : Ev → R D) (g : Ev → R (List D)) : Ev → R (List D) := fun ρ => (f ρ).bind fun d => (g ρ).bind fun ds => .ok (d :: ds)
def nilR : Ev → R (List D) := fun _ => .ok []

theorem pad_nil : PAD X [] nilR := paI pa_nil fun σ H Q H₀ O₀ O ρ E q => q [] H (Same.refl _) .nil
theorem pad_cons {f : Ev → R D} {g : Ev → R (List D)} (ha : PD X e f) (hr : PAD X es g) (hs : starEach (e :: es) X.env = (false, eval e X.env) :: starEach es X.env := by rfl) : PAD X (e :: es) (consR f g) :=
  paI (pa_cons ha hr hs) fun σ H Q H₀ O₀ O ρ E q => ⟨H₀, O₀, O, ρ, E, by
    unfold consR at q
    cases e1 : f ρ with
    | ok d =>
      rw [e1] at q
      intro v H1 s1 r1
      refine ⟨H₀, O₀, O, ρ, E.grow s1, ?_⟩
      cases e2 : g ρ with
      | ok ds =>
        rw [e2] at q
        exact fun vs H2 s2 r2 => q (v :: vs) H2 (s1.trans s2) (.cons (r1.same s2) r2)
      | ex x => rw [e2] at q; exact fun H2 s2 => q H2 (s1.trans s2)
      | bad => rw [e2] at q; exact q
    | ex x => rw [e1] at q; exact q
    | bad => rw [e1] at q; exact q⟩
theorem pab_nil : PAB X [] nilR := paI pa_nil fun σ H Q H₀ O₀ O ρ E q => q [] H (Same.refl _) .nil
theorem pab_cons {f : Ev → R D} {g : Ev → R (List D)} (ha : PB X e f) (hr : PAB X es g) (hs : starEach (e :: es) X.env = (false, eval e X.env) :: starEach es X.env := by rfl) : PAB X (e :: es) (consR f g) :=
  paI (pa_cons ha hr hs) fun σ H Q H₀ O₀ O ρ E q => ⟨H₀, O₀, O, ρ, E, by
    unfold consR at q
    cases e1 : f ρ with
    | ok d =>
      rw [e1] at q
      intro v H1 s1 r1
      refine ⟨H₀, O₀, O, ρ, E.grow s1, ?_⟩
      cases e2 : g ρ with
      | ok ds =>
        rw [e2] at q
        exact fun vs H2 s2 r2 => q (v :: vs) H2 (s1.trans s2) (.cons (r1.same s2) r2)
      | ex x => rw [e2] at q; exact fun H2 s2 => q H2 (s1.trans s2)
      | bad => rw [e2] at q; exact q
    | ex x => rw [e1] at q; exact q
    | bad => rw [e1] at q; exact q⟩
def tupR (ds : List D) : R D := if ds.length ≤ sizeLine then .ok (.tup ds) else .bad
def lstR (ds : List D) : R D := if ds.length ≤ sizeLine then .ok (.lst ds) else .bad
theorem pd_tup {f : Ev → R (List D)} {x1} (h : PAD X es f) : PD X (.Tuple es x1 pos) (fun ρ => (f ρ).bind tupR) :=
  peI (pe_tup h) fun σ H Q H₀ O₀ O ρ E q => ⟨H₀, O₀, O, ρ, E, RCs.mono (RCs.seq q) <| by
    rintro vs H1 ⟨ds, _, s1, r1, h1⟩
    unfold tupR at h1
    split at h1
    · rename_i hz
      exact ⟨by rw [r1.length]; exact hz, fun p hp => h1 (.ref p) _ (same_upd hp _) (.tup (SqT.of upd_same) (r1.same (same_upd hp _)))⟩
    · exact h1.elim⟩
theorem pd_lst {f : Ev → R (List D)} (h : PAD X es f) : PD X (.List es pos) (fun ρ => (f ρ).bind lstR) :=
  peI (pe_lst h) fun σ H Q H₀ O₀ O ρ E q => ⟨H₀, O₀, O, ρ, E, RCs.mono (RCs.seq q) <| by
    rintro vs H1 ⟨ds, _, s1, r1, h1⟩
    unfold lstR at h1
    split at h1
    · rename_i hz
      exact ⟨by rw [r1.length]; exact hz, fun p hp => h1 (.ref p) _ (same_upd hp _) (.lst (SqL.of upd_same) ((E.grow s1).fresh hp) (r1.same (same_upd hp _)))⟩
    · exact h1.elim⟩

def CallD (X : Cx) (f : Value) (g : List D → R D) : Prop :=
  ∀ (H : Hp) (O : Addr → Prop) (vs : List V) (ds : List D) (Q : VK), (∀ p, H p = none → ¬ O p) → Paired (RepB X.K H O) vs ds → RC X H O (g ds) Q → ∃ r, CallR X f r ∧ r vs H Q
theorem pd_callB {x : Str} {id : String} {p : Pos} {f : Ev → R (List D)} {g : List D → R D} (hc : CallD X (.builtin id) g) (ha : PAB X (e :: es) f) (hg : Gl X x := by rfl) (hm : X.mg x = none := by assumption) (hv : bootBuiltins x = some (.builtin id) := by decide +kernel) (hn : x ≠ "__name__" := by decide)
    (hdb : (x == ("__debug__" : Str)) = false := by decide) (he : starEach (e :: es) X.env = (false, eval e X.env) :: starEach es X.env := by rfl) (hpl : (backTo pos (starEach es X.env)).any (·.1) = false := by rfl) :
    PD X (.Call (.Name x p) (e :: es) [] pos) (fun ρ => (f ρ).bind g) := by
  refine mkE fun pins s σ H Q I H₀ O₀ O ρ E q => (wpAny_Call_Name_kw (ld_blt I hg hm hv ?_ hn hdb))
  refine PyProof.Rows.callWith_builtin1 (thn (ha pos pins s σ H _ I ⟨H₀, O₀, O, ρ, E, RCBs.seq q⟩) fun us s1 z => ?_) he hpl
  obtain ⟨vs, H1, I1, r1, d, _, sm, r, h⟩ := z
  obtain ⟨r', hr, hq⟩ := hc H1 O vs d Q (fun p hp => (E.grow sm).fresh hp) r h
  exact hr pins s1 σ H1 vs us Q I1 r1 hq
theorem pd_callTy {x : Str} {T : String} {p : Pos} {f : Ev → R (List D)} {g : List D → R D} (hc : CallD X (.type T) g) (ha : PAB X (e :: es) f) (hg : Gl X x := by rfl) (hm : X.mg x = none := by assumption) (hv : bootBuiltins x = some (.type T) := by decide +kernel) (hn : x ≠ "__name__" := by decide)
    (hdb : (x == ("__debug__" : Str)) = false := by decide) (he : starEach (e :: es) X.env = (false, eval e X.env) :: starEach es X.env := by rfl) (hpl : (backTo pos (starEach es X.env)).any (·.1) = false := by rfl) :
    PD X (.Call (.Name x p) (e :: es) [] pos) (fun ρ => (f ρ).bind g) := by
  refine mkE fun pins s σ H Q I H₀ O₀ O ρ E q => (wpAny_Call_Name_kw (ld_blt I hg hm hv ?_ hn hdb))
  refine PyProof.Rows.callWith_type1 (thn (ha pos pins s σ H _ I ⟨H₀, O₀, O, ρ, E, RCBs.seq q⟩) fun us s1 z => ?_) he hpl
  obtain ⟨vs, H1, I1, r1, d, _, sm, r, h⟩ := z
  obtain ⟨r', hr, hq⟩ := hc H1 O vs d Q (fun p hp => (E.grow sm).fresh hp) r h
  exact hr pins s1 σ H1 vs us Q I1 r1 hq
end
end DL

namespace DL
open PySem PySem.Spec L2
open PyProof.Rows hiding St
variable [Tabs]

mutual
def eqD : D → D → Bool
  | .non, .non => true
  | .bl a, .bl b => a == b
  | .bl a, .int b => (if a then 1 else 0) == b
  | .int a, .bl b => a == (if b then 1 else 0)
  | .int a, .int b => a == b
  | .str a, .str b => a == b
  | .tup xs, .tup ys => eqDs xs ys
  | .lst xs, .lst ys => eqDs xs ys
  | .dct _, .dct _ => true
  | _, _ => false
def eqDs : List D → List D → Bool
  | [], [] => true
  | x :: xs, y :: ys => eqD x y && eqDs xs ys
  | _, _ => false
end
mutual
def dep : D → Nat
  | .tup xs => deps xs + 1
  | .lst xs => deps xs + 1
  | .dct _ => cLine
  | _ => 0
def deps : List D → Nat
  | [] => 0
  | x :: xs => max (dep x) (deps xs)
end
mutual
theorem eqD_refl : ∀ d : D, eqD d d = true := by
  intro z1
  cases z1 with
  | non => simp [eqD]
  | bl b => simp [eqD]
  | int i => simp [eqD]
  | str x => simp [eqD]
  | tup xs => rw [eqD]; exact eqDs_refl xs
  | lst xs => rw [eqD]; exact eqDs_refl xs
  | dct => simp [eqD]
theorem eqDs_refl : ∀ ds : List D, eqDs ds ds = true
  | [] => by simp [eqDs]
  | x :: xs => by rw [eqDs, eqD_refl x, eqDs_refl xs]; rfl
end
def eqAtJ (xs ys : List D) (j : Nat) : Bool := match xs[j]?, ys[j]? with
  | some a, some b => eqD a b
  | _, _ => false
theorem eqDs_range : ∀ (xs ys : List D), eqDs xs ys = ((List.range (min xs.length ys.length)).all (eqAtJ xs ys) && (xs.length == ys.length))
  | [], [] => by simp [eqDs]
  | [], _ :: _ => by simp [eqDs]
  | _ :: _, [] => by simp [eqDs]
  | x :: xs, y :: ys => by
    rw [eqDs, eqDs_range xs ys, List.length_cons, List.length_cons, Nat.succ_min_succ, List.range_succ_eq_map, List.all_cons, List.all_map]
    have e1 : eqAtJ (x :: xs) (y :: ys) 0 = eqD x y := rfl
    have e2 : (eqAtJ (x :: xs) (y :: ys) ∘ Nat.succ) = eqAtJ xs ys := by
      funext j
      simp [eqAtJ]
    have e3 : (xs.length + 1 == ys.length + 1) = (xs.length == ys.length) := by
      rw [Bool.eq_iff_iff]
      simp
    rw [e1, e2, e3, Bool.and_assoc]
theorem dep_mem : ∀ {xs : List D} {d : D} {j : Nat}, xs[j]? = some d → dep d ≤ deps xs := by
  intro z1 d z2 h
  cases z1 with
  | nil => simp at h
  | cons x xs =>
    cases z2 with
    | zero => simp at h; subst h; exact Nat.le_max_left _ _
    | succ j => rw [deps]; exact Nat.le_trans (dep_mem (j := j) (by simpa using h)) (Nat.le_max_right _ _)

section

theorem ref_in {K : PySem.W.Frag} {H : Hp} {O : Addr → Prop} {a : Addr} {d : D} (h : Rep K H O (.ref a) d) : (∃ vs ds, d = .tup ds ∧ SqT K H a vs ∧ Reps K H O vs ds) ∨ (∃ vs ds, d = .lst ds ∧ SqL K H a vs ∧ Reps K H O vs ds) ∨ (∃ kvs, d = .dct kvs ∧ ∃ (o : Obj) (es : List DictEntry), H a = some (.ext fun h => h.get? a = some o) ∧ DObj a o es ∧ RepsD K H O es kvs) := by
  cases h with
  | tup h r => exact .inl ⟨_, _, rfl, h, r⟩
  | lst h n r => exact .inr (.inl ⟨_, _, rfl, h, r⟩)
  | dct h x n nd r => exact .inr (.inr ⟨_, rfl, _, _, h, x, r⟩)
theorem no_tl (I : Inv X pins σ H s) (h : SqT X.K H a vs) (h' : SqL X.K H a ws) : False := by
  obtain ⟨its, _, p, _⟩ := I.tuple h
  obtain ⟨its', _, p', _⟩ := I.list h'
  exact absurd rfl (SeqAt.ne_of_list_tuple p'.isList p)
theorem no_td {o : Obj} (I : Inv X pins σ H s) (h' : SqT X.K H a vs) (h : H a = some (.ext fun h => h.get? a = some o)) (x : o.ExactDict) : False := by
  obtain ⟨its, _, ⟨o', g, c, _⟩, _⟩ := I.tuple h'
  have e : s.heap.get? _ = some _ := (I.hok _ _ h).1
  rw [g] at e; cases e
  exact absurd (c.symm.trans x.1) (by decide)
theorem no_ld {o : Obj} (I : Inv X pins σ H s) (h' : SqL X.K H a vs) (h : H a = some (.ext fun h => h.get? a = some o)) (x : o.ExactDict) : False := by
  obtain ⟨its, _, p, _⟩ := I.list h'
  obtain ⟨o', g, c, _⟩ := p.isList
  have e : s.heap.get? _ = some _ := (I.hok _ _ h).1
  rw [g] at e; cases e
  exact absurd (c.symm.trans x.1) (by decide)
mutual
theorem Rep.inj (I : Inv X pins σ H s) : ∀ {v : V} {d : D}, Rep X.K H O v d → ∀ {d' : D}, Rep X.K H O' v d' → d = d' := by
  intro _ _ z1
  cases z1 with
  | non => intro _ h; cases h; rfl
  | bl => intro _ h; cases h; rfl
  | int => intro _ h; cases h; rfl
  | str => intro _ h; cases h; rfl
  | tup h r =>
    intro _ h'
    rcases ref_in h' with ⟨_, _, rfl, h2, r2⟩ | ⟨_, _, rfl, h2, _⟩ | ⟨_, rfl, _, _, h2, x, _⟩
    · have e := I.tuple_inj h h2
      subst e
      rw [Reps.inj I r r2]
    · exact (no_tl I h h2).elim
    · exact (no_td I h h2 x.2.1).elim
  | lst h _ r =>
    intro _ h'
    rcases ref_in h' with ⟨_, _, rfl, h2, _⟩ | ⟨_, _, rfl, h2, r2⟩ | ⟨_, rfl, _, _, h2, x, _⟩
    · exact (no_tl I h2 h).elim
    · have e := I.list_inj h h2
      subst e
      rw [Reps.inj I r r2]
    · exact (no_ld I h h2 x.2.1).elim
  | dct h x _ _ r =>
    intro _ h'
    rcases ref_in h' with ⟨_, _, rfl, h2, _⟩ | ⟨_, _, rfl, h2, _⟩ | ⟨_, rfl, _, _, h2, x2, r2⟩
    · exact (no_td I h2 h x.2.1).elim
    · exact (no_ld I h2 h x.2.1).elim
    · have e1 : s.heap.get? _ = some _ := (I.hok _ _ h).1
      have e2 : s.heap.get? _ = some _ := (I.hok _ _ h2).1
      rw [e1] at e2
      injection e2 with e2
      subst e2
      obtain ⟨_, _, ea, ep, d1, l1⟩ := x
      obtain ⟨_, _, ea2, ep2, d2, l2⟩ := x2
      rw [d1] at d2
      injection d2 with d2 _
      subst d2
      rw [← l1] at r
      rw [← l2] at r2
      rw [RepsD.inj I r r2]
theorem Reps.inj (I : Inv X pins σ H s) : ∀ {v : List V} {d : List D}, Reps X.K H O v d → ∀ {d' : List D}, Reps X.K H O' v d' → d = d' := by
  intro _ _ z1
  cases z1 with
  | nil => intro _ h; cases h; rfl
  | cons h t =>
    intro _ h2
    cases h2 with
    | cons h' t' => rw [Rep.inj I h h', Reps.inj I t t']
theorem RepsD.inj (I : Inv X pins σ H s) : ∀ {es : List DictEntry} {kvs : List (D × D)}, RepsD X.K H O es kvs → ∀ {kvs' : List (D × D)}, RepsD X.K H O' es kvs' → kvs = kvs'
  | _, _, .nil => fun h => by cases h; rfl
  | _, _, .cons hk rk hv rv hh t => fun h2 => by
    cases h2 with
    | cons hk' rk' hv' rv' hh' t' =>
      rw [hk] at hk'
      cases hk'
      cases RelV.inj hv hv'
      rw [Rep.inj I rk rk', Rep.inj I rv rv', RepsD.inj I t t']
end
def PairsAt (A : Around) (s : Shared) (us ws : List Value) (xs ys : List D) : Prop := ∀ (j : Nat) (u w : Value), us[j]? = some u → ws[j]? = some w → SeqAt.EqAt A.in1 s u w (eqAtJ xs ys j)
theorem rc_lists (hl : s.heap.IsList l us.toArray) (hb : s.heap.IsList b ws.toArray) (e1 : us.length = xs.length) (e2 : ws.length = ys.length) (hu : A.units < cLine) (hp : PairsAt A s us ws xs ys) : SeqAt.RcAt A s (.ref l) (.ref b) (eqDs xs ys) ∧ SeqAt.RcNeAt A s (.ref l) (.ref b) (!eqDs xs ys) := by
  rw [eqDs_range]
  by_cases hsz : xs.length = ys.length
  · have hz : us.toArray.size = ws.toArray.size := by simp [e1, e2, hsz]
    have hm : min xs.length ys.length = us.toArray.size := by simp [e1, hsz]
    have hq : (xs.length == ys.length) = true := by simp [hsz]
    have he : ∀ j (h1 : j < us.toArray.size) (h2 : j < ws.toArray.size), SeqAt.EqAt A.in1 s us.toArray[j] ws.toArray[j] (eqAtJ xs ys j) := fun j h1 h2 => hp j _ _ (by simp) (by simp)
    rw [hq, Bool.and_true, hm]
    exact ⟨SeqAt.RcAt.lists hl hb hz hu he, SeqAt.RcNeAt.lists hl hb hz hu he⟩
  · have hz : (us.toArray.size != ws.toArray.size) = true := by simp [e1, e2, hsz]
    have hq : (xs.length == ys.length) = false := by simp [hsz]
    rw [hq, Bool.and_false]
    exact ⟨SeqAt.RcAt.lists_lengths hl hb hz hu, SeqAt.RcNeAt.lists_lengths hl hb hz hu⟩
theorem rc_tuples (hl : IsTup s.heap l us.toArray) (hb : IsTup s.heap b ws.toArray) (e1 : us.length = xs.length) (e2 : ws.length = ys.length) (hu : A.units < cLine) (hp : PairsAt A s us ws xs ys) : SeqAt.RcAt A s (.ref l) (.ref b) (eqDs xs ys) ∧ SeqAt.RcNeAt A s (.ref l) (.ref b) (!eqDs xs ys) := by
  rw [eqDs_range]
  have hm : min xs.length ys.length = min us.toArray.size ws.toArray.size := by simp [e1, e2]
  have hq : (xs.length == ys.length) = (us.toArray.size == ws.toArray.size) := by simp [e1, e2]
  have he : ∀ j (h1 : j < us.toArray.size) (h2 : j < ws.toArray.size), SeqAt.EqAt A.in1 s us.toArray[j] ws.toArray[j] (eqAtJ xs ys j) := fun j h1 h2 => hp j _ _ (by simp [List.getElem?_eq_getElem (show j < us.length by simpa using h1)]) (by simp [List.getElem?_eq_getElem (show j < ws.length by simpa using h2)])
  rw [hq, hm]
  exact ⟨SeqAt.RcAt.tuples hl hb hu he, SeqAt.RcNeAt.tuples hl hb hu he⟩
theorem in1_units (A : Around) : A.in1.units = A.units + 1 := rfl
mutual
theorem eqAt_D (I : Inv X pins σ H s) : ∀ {x y : V} {dx dy : D} {v u : Value} {A : Around}, Rep X.K H O x dx → Rep X.K H O' y dy → RelV x v → RelV y u → A.units + dep dx < cLine → A.units + dep dy < cLine → SeqAt.EqAt A s v u (eqD dx dy) := by
  intro _ _ _ _ v u A z1 ry rv ru hu hv
  cases z1 with
  | non =>
    have hu' : A.units < cLine := by lia
    cases rv
    cases ry with
    | dct => exact absurd hv (by rw [dep]; lia)
    | non => cases ru; exact SeqAt.EqAt.same _
    | bl => cases ru; simp only [eqD]; exact SeqAt.EqAt.none_bool _
    | int => obtain ⟨t, rfl⟩ := ru; simp only [eqD]; exact SeqAt.EqAt.none_int _ _
    | str => obtain ⟨t, rfl⟩ := ru; simp only [eqD]; exact SeqAt.EqAt.none_str _ _
    | tup h r => cases ru; obtain ⟨_, _, p, _⟩ := I.tuple h; simp only [eqD]; exact SeqAt.EqAt.none_tuple p hu'
    | lst h _ r => cases ru; obtain ⟨_, _, p, _⟩ := I.list h; simp only [eqD]; exact SeqAt.EqAt.none_list p.isList hu'
  | bl =>
    have hu' : A.units < cLine := by lia
    cases rv
    cases ry with
    | dct => exact absurd hv (by rw [dep]; lia)
    | non => cases ru; simp only [eqD]; exact SeqAt.EqAt.bool_none _
    | bl => cases ru; simp only [eqD]; exact SeqAt.EqAt.bool_bool _ _
    | int => obtain ⟨t, rfl⟩ := ru; simp only [eqD]; exact SeqAt.EqAt.bool_int _ _ _
    | str => obtain ⟨t, rfl⟩ := ru; simp only [eqD]; exact SeqAt.EqAt.bool_str _ _ _
    | tup h r => cases ru; obtain ⟨_, _, p, _⟩ := I.tuple h; simp only [eqD]; exact SeqAt.EqAt.bool_tuple _ p hu'
    | lst h _ r => cases ru; obtain ⟨_, _, p, _⟩ := I.list h; simp only [eqD]; exact SeqAt.EqAt.bool_list _ p.isList hu'
  | int =>
    have hu' : A.units < cLine := by lia
    obtain ⟨t1, rfl⟩ := rv
    cases ry with
    | dct => exact absurd hv (by rw [dep]; lia)
    | non => cases ru; simp only [eqD]; exact SeqAt.EqAt.int_none _ _
    | bl => cases ru; simp only [eqD]; exact SeqAt.EqAt.int_bool _ _ _
    | int => obtain ⟨t, rfl⟩ := ru; simp only [eqD]; exact SeqAt.EqAt.int_int _ _ _ _
    | str => obtain ⟨t, rfl⟩ := ru; simp only [eqD]; exact SeqAt.EqAt.int_str _ _ _ _
    | tup h r => cases ru; obtain ⟨_, _, p, _⟩ := I.tuple h; simp only [eqD]; exact SeqAt.EqAt.int_tuple _ _ p hu'
    | lst h _ r => cases ru; obtain ⟨_, _, p, _⟩ := I.list h; simp only [eqD]; exact SeqAt.EqAt.int_list _ _ p.isList hu'
  | str =>
    have hu' : A.units < cLine := by lia
    obtain ⟨t1, rfl⟩ := rv
    cases ry with
    | dct => exact absurd hv (by rw [dep]; lia)
    | non => cases ru; simp only [eqD]; exact SeqAt.EqAt.str_none _ _
    | bl => cases ru; simp only [eqD]; exact SeqAt.EqAt.str_bool _ _ _
    | int => obtain ⟨t, rfl⟩ := ru; simp only [eqD]; exact SeqAt.EqAt.str_int _ _ _ _
    | str => obtain ⟨t, rfl⟩ := ru; simp only [eqD]; exact SeqAt.EqAt.str_str _ _ _ _
    | tup h r => cases ru; obtain ⟨_, _, p, _⟩ := I.tuple h; simp only [eqD]; exact SeqAt.EqAt.str_tuple _ _ p hu'
    | lst h _ r => cases ru; obtain ⟨_, _, p, _⟩ := I.list h; simp only [eqD]; exact SeqAt.EqAt.str_list _ _ p.isList hu'
  | @tup a vs ds h r =>
    have hu' : A.units < cLine := by lia
    cases rv
    obtain ⟨its, rr, p, _⟩ := I.tuple h
    cases ry with
    | dct => exact absurd hv (by rw [dep]; lia)
    | non => cases ru; simp only [eqD]; exact SeqAt.EqAt.tuple_none p hu'
    | bl => cases ru; simp only [eqD]; exact SeqAt.EqAt.tuple_bool _ p hu'
    | int => obtain ⟨t, rfl⟩ := ru; simp only [eqD]; exact SeqAt.EqAt.tuple_int _ _ p hu'
    | str => obtain ⟨t, rfl⟩ := ru; simp only [eqD]; exact SeqAt.EqAt.tuple_str _ _ p hu'
    | @tup a' vs' ds' h' r' =>
      cases ru
      obtain ⟨its', rr', p', _⟩ := I.tuple h'
      by_cases e : a = a'
      · subst e
        have e2 := I.tuple_inj h h'
        subst e2
        have e3 := Reps.inj I r r'
        subst e3
        rw [eqD_refl]; exact SeqAt.EqAt.same _
      · simp only [eqD]
        refine SeqAt.EqAt.of_refs e (rc_tuples p p' (by rw [← rr.length, r.length]) (by rw [← rr'.length, r'.length]) hu' (eqAt_Ds I r r' rr rr' ?_ ?_)).1
        · rw [dep] at hu; rw [in1_units]; lia
        · rw [dep] at hv; rw [in1_units]; lia
    | lst h' _ r' => cases ru; obtain ⟨_, _, p', _⟩ := I.list h'; simp only [eqD]; exact SeqAt.EqAt.tuple_list p p'.isList hu'
  | @lst a vs ds h nO r =>
    have hu' : A.units < cLine := by lia
    cases rv
    obtain ⟨its, rr, p, _⟩ := I.list h
    cases ry with
    | dct => exact absurd hv (by rw [dep]; lia)
    | non => cases ru; simp only [eqD]; exact SeqAt.EqAt.list_none p.isList hu'
    | bl => cases ru; simp only [eqD]; exact SeqAt.EqAt.list_bool _ p.isList hu'
    | int => obtain ⟨t, rfl⟩ := ru; simp only [eqD]; exact SeqAt.EqAt.list_int _ _ p.isList hu'
    | str => obtain ⟨t, rfl⟩ := ru; simp only [eqD]; exact SeqAt.EqAt.list_str _ _ p.isList hu'
    | tup h' r' => cases ru; obtain ⟨_, _, p', _⟩ := I.tuple h'; simp only [eqD]; exact SeqAt.EqAt.list_tuple p.isList p' hu'
    | @lst a' vs' ds' h' nO' r' =>
      cases ru
      obtain ⟨its', rr', p', _⟩ := I.list h'
      by_cases e : a = a'
      · subst e
        have e2 := I.list_inj h h'
        subst e2
        have e3 := Reps.inj I r r'
        subst e3
        rw [eqD_refl]; exact SeqAt.EqAt.same _
      · simp only [eqD]
        refine SeqAt.EqAt.of_refs e (rc_lists p.isList p'.isList (by rw [← rr.length, r.length]) (by rw [← rr'.length, r'.length]) hu' (eqAt_Ds I r r' rr rr' ?_ ?_)).1
        · rw [dep] at hu; rw [in1_units]; lia
        · rw [dep] at hv; rw [in1_units]; lia
  | dct => exact absurd hu (by rw [dep]; lia)
theorem eqAt_Ds (I : Inv X pins σ H s) : ∀ {vs ws : List V} {xs ys : List D} {us ts : List Value} {A : Around}, Reps X.K H O vs xs → Reps X.K H O' ws ys → Vals vs us → Vals ws ts → A.in1.units + deps xs < cLine → A.in1.units + deps ys < cLine → PairsAt A s us ts xs ys := by
  intro _ _ _ _ us ts A rx ry rv ru hu hv j u w h1 h2
  cases rx with
  | nil => cases rv; simp at h1
  | cons h t =>
    cases ry with
    | nil => cases ru; simp at h2
    | cons h' t' =>
      cases rv with
      | cons r1 r2 =>
        cases ru with
        | cons r1' r2' =>
          rw [deps] at hu hv
          cases j with
          | zero =>
            simp only [List.getElem?_cons_zero, Option.some.injEq] at h1 h2
            subst h1 h2
            exact eqAt_D I h h' r1 r1' (by lia) (by lia)
          | succ j =>
            simp only [List.getElem?_cons_succ] at h1 h2
            exact eqAt_Ds I (A := A) t t' r2 r2' (by lia) (by lia) j u w h1 h2
end
theorem rc_D (I : Inv X pins σ H s) (r1 : RepB X.K H O x dx) (r2 : RepB X.K H O' y dy) (rv : RelV x v) (ru : RelV y u) (hu : A.units + dep dx < cLine) (hv : A.units + dep dy < cLine) :
    SeqAt.RcAt A s v u (eqD dx dy) ∧ SeqAt.RcNeAt A s v u (!eqD dx dy) := by
  have hu' : A.units < cLine := by lia
  cases dx with
  | dct => exact absurd hu (by rw [dep]; lia)
  | non =>
    cases r1.nonI; cases rv
    cases dy with
    | dct => exact absurd hv (by rw [dep]; lia)
    | non => cases r2.nonI; cases ru; simp only [eqD]; exact ⟨SeqAt.RcAt.none_none, SeqAt.RcNeAt.none_none⟩
    | bl => cases r2.blI; cases ru; simp only [eqD]; exact ⟨SeqAt.RcAt.none_bool _, SeqAt.RcNeAt.none_bool _⟩
    | int => cases r2.intI; obtain ⟨t, rfl⟩ := ru; simp only [eqD]; exact ⟨SeqAt.RcAt.none_int _ _, SeqAt.RcNeAt.none_int _ _⟩
    | str => cases r2.strI; obtain ⟨t, rfl⟩ := ru; simp only [eqD]; exact ⟨SeqAt.RcAt.none_str _ _, SeqAt.RcNeAt.none_str _ _⟩
    | tup ys => obtain ⟨a, vs, rfl, h, r⟩ := r2.tupI; cases ru; obtain ⟨_, _, p, _⟩ := I.tuple h; simp only [eqD]; exact ⟨SeqAt.RcAt.none_tuple p hu', SeqAt.RcNeAt.none_tuple p hu'⟩
    | lst ys => obtain ⟨a, vs, rfl, h, r⟩ := r2.lstI; cases ru; obtain ⟨_, _, p, _⟩ := I.list h; simp only [eqD]; exact ⟨SeqAt.RcAt.none_list p.isList hu', SeqAt.RcNeAt.none_list p.isList hu'⟩
  | bl =>
    cases r1.blI; cases rv
    cases dy with
    | dct => exact absurd hv (by rw [dep]; lia)
    | non => cases r2.nonI; cases ru; simp only [eqD]; exact ⟨SeqAt.RcAt.bool_none _, SeqAt.RcNeAt.bool_none _⟩
    | bl => cases r2.blI; cases ru; simp only [eqD]; exact ⟨SeqAt.RcAt.bool_bool _ _, SeqAt.RcNeAt.bool_bool _ _⟩
    | int => cases r2.intI; obtain ⟨t, rfl⟩ := ru; simp only [eqD]; exact ⟨SeqAt.RcAt.bool_int _ _ _, SeqAt.RcNeAt.bool_int _ _ _⟩
    | str => cases r2.strI; obtain ⟨t, rfl⟩ := ru; simp only [eqD]; exact ⟨SeqAt.RcAt.bool_str _ _ _, SeqAt.RcNeAt.bool_str _ _ _⟩
    | tup ys => obtain ⟨a, vs, rfl, h, r⟩ := r2.tupI; cases ru; obtain ⟨_, _, p, _⟩ := I.tuple h; simp only [eqD]; exact ⟨SeqAt.RcAt.bool_tuple _ p hu', SeqAt.RcNeAt.bool_tuple _ p hu'⟩
    | lst ys => obtain ⟨a, vs, rfl, h, r⟩ := r2.lstI; cases ru; obtain ⟨_, _, p, _⟩ := I.list h; simp only [eqD]; exact ⟨SeqAt.RcAt.bool_list _ p.isList hu', SeqAt.RcNeAt.bool_list _ p.isList hu'⟩
  | int =>
    cases r1.intI; obtain ⟨t1, rfl⟩ := rv
    cases dy with
    | dct => exact absurd hv (by rw [dep]; lia)
    | non => cases r2.nonI; cases ru; simp only [eqD]; exact ⟨SeqAt.RcAt.int_none _ _, SeqAt.RcNeAt.int_none _ _⟩
    | bl => cases r2.blI; cases ru; simp only [eqD]; exact ⟨SeqAt.RcAt.int_bool _ _ _, SeqAt.RcNeAt.int_bool _ _ _⟩
    | int => cases r2.intI; obtain ⟨t, rfl⟩ := ru; simp only [eqD]; exact ⟨SeqAt.RcAt.int_int _ _ _ _, SeqAt.RcNeAt.int_int _ _ _ _⟩
    | str => cases r2.strI; obtain ⟨t, rfl⟩ := ru; simp only [eqD]; exact ⟨SeqAt.RcAt.int_str _ _ _ _, SeqAt.RcNeAt.int_str _ _ _ _⟩
    | tup ys => obtain ⟨a, vs, rfl, h, r⟩ := r2.tupI; cases ru; obtain ⟨_, _, p, _⟩ := I.tuple h; simp only [eqD]; exact ⟨SeqAt.RcAt.int_tuple _ _ p hu', SeqAt.RcNeAt.int_tuple _ _ p hu'⟩
    | lst ys => obtain ⟨a, vs, rfl, h, r⟩ := r2.lstI; cases ru; obtain ⟨_, _, p, _⟩ := I.list h; simp only [eqD]; exact ⟨SeqAt.RcAt.int_list _ _ p.isList hu', SeqAt.RcNeAt.int_list _ _ p.isList hu'⟩
  | str =>
    cases r1.strI; obtain ⟨t1, rfl⟩ := rv
    cases dy with
    | dct => exact absurd hv (by rw [dep]; lia)
    | non => cases r2.nonI; cases ru; simp only [eqD]; exact ⟨SeqAt.RcAt.str_none _ _, SeqAt.RcNeAt.str_none _ _⟩
    | bl => cases r2.blI; cases ru; simp only [eqD]; exact ⟨SeqAt.RcAt.str_bool _ _ _, SeqAt.RcNeAt.str_bool _ _ _⟩
    | int => cases r2.intI; obtain ⟨t, rfl⟩ := ru; simp only [eqD]; exact ⟨SeqAt.RcAt.str_int _ _ _ _, SeqAt.RcNeAt.str_int _ _ _ _⟩
    | str => cases r2.strI; obtain ⟨t, rfl⟩ := ru; simp only [eqD]; exact ⟨SeqAt.RcAt.str_str _ _ _ _, SeqAt.RcNeAt.str_str _ _ _ _⟩
    | tup ys => obtain ⟨a, vs, rfl, h, r⟩ := r2.tupI; cases ru; obtain ⟨_, _, p, _⟩ := I.tuple h; simp only [eqD]; exact ⟨SeqAt.RcAt.str_tuple _ _ p hu', SeqAt.RcNeAt.str_tuple _ _ p hu'⟩
    | lst ys => obtain ⟨a, vs, rfl, h, r⟩ := r2.lstI; cases ru; obtain ⟨_, _, p, _⟩ := I.list h; simp only [eqD]; exact ⟨SeqAt.RcAt.str_list _ _ p.isList hu', SeqAt.RcNeAt.str_list _ _ p.isList hu'⟩
  | tup xs =>
    obtain ⟨a, vs, rfl, h, r⟩ := r1.tupI; cases rv
    obtain ⟨its, rr, p, _⟩ := I.tuple h
    cases dy with
    | dct => exact absurd hv (by rw [dep]; lia)
    | non => cases r2.nonI; cases ru; simp only [eqD]; exact ⟨SeqAt.RcAt.tuple_none p hu', SeqAt.RcNeAt.tuple_none p hu'⟩
    | bl => cases r2.blI; cases ru; simp only [eqD]; exact ⟨SeqAt.RcAt.tuple_bool _ p hu', SeqAt.RcNeAt.tuple_bool _ p hu'⟩
    | int => cases r2.intI; obtain ⟨t, rfl⟩ := ru; simp only [eqD]; exact ⟨SeqAt.RcAt.tuple_int _ _ p hu', SeqAt.RcNeAt.tuple_int _ _ p hu'⟩
    | str => cases r2.strI; obtain ⟨t, rfl⟩ := ru; simp only [eqD]; exact ⟨SeqAt.RcAt.tuple_str _ _ p hu', SeqAt.RcNeAt.tuple_str _ _ p hu'⟩
    | tup ys =>
      obtain ⟨a', vs', rfl, h', r'⟩ := r2.tupI; cases ru; obtain ⟨its', rr', p', _⟩ := I.tuple h'; simp only [eqD]
      refine rc_tuples p p' (by rw [← rr.length, r.length]) (by rw [← rr'.length, r'.length]) hu' (eqAt_Ds I r r' rr rr' ?_ ?_)
      · rw [dep] at hu; rw [in1_units]; lia
      · rw [dep] at hv; rw [in1_units]; lia
    | lst ys => obtain ⟨a', vs', rfl, h', r'⟩ := r2.lstI; cases ru; obtain ⟨_, _, p', _⟩ := I.list h'; simp only [eqD]; exact ⟨SeqAt.RcAt.tuple_list p p'.isList hu', SeqAt.RcNeAt.tuple_list p p'.isList hu'⟩
  | lst xs =>
    obtain ⟨a, vs, rfl, h, r⟩ := r1.lstI; cases rv
    obtain ⟨its, rr, p, _⟩ := I.list h
    cases dy with
    | dct => exact absurd hv (by rw [dep]; lia)
    | non => cases r2.nonI; cases ru; simp only [eqD]; exact ⟨SeqAt.RcAt.list_none p.isList hu', SeqAt.RcNeAt.list_none p.isList hu'⟩
    | bl => cases r2.blI; cases ru; simp only [eqD]; exact ⟨SeqAt.RcAt.list_bool _ p.isList hu', SeqAt.RcNeAt.list_bool _ p.isList hu'⟩
    | int => cases r2.intI; obtain ⟨t, rfl⟩ := ru; simp only [eqD]; exact ⟨SeqAt.RcAt.list_int _ _ p.isList hu', SeqAt.RcNeAt.list_int _ _ p.isList hu'⟩
    | str => cases r2.strI; obtain ⟨t, rfl⟩ := ru; simp only [eqD]; exact ⟨SeqAt.RcAt.list_str _ _ p.isList hu', SeqAt.RcNeAt.list_str _ _ p.isList hu'⟩
    | tup ys => obtain ⟨a', vs', rfl, h', r'⟩ := r2.tupI; cases ru; obtain ⟨_, _, p', _⟩ := I.tuple h'; simp only [eqD]; exact ⟨SeqAt.RcAt.list_tuple p.isList p' hu', SeqAt.RcNeAt.list_tuple p.isList p' hu'⟩
    | lst ys =>
      obtain ⟨a', vs', rfl, h', r'⟩ := r2.lstI; cases ru; obtain ⟨its', rr', p', _⟩ := I.list h'; simp only [eqD]
      refine rc_lists p.isList p'.isList (by rw [← rr.length, r.length]) (by rw [← rr'.length, r'.length]) hu' (eqAt_Ds I r r' rr rr' ?_ ?_)
      · rw [dep] at hu; rw [in1_units]; lia
      · rw [dep] at hv; rw [in1_units]; lia
end
def eqR (x y : D) : R D := if dep x ≤ 40 ∧ dep y ≤ 40 then .ok (.bl (eqD x y)) else .bad
def neR (x y : D) : R D := if dep x ≤ 40 ∧ dep y ≤ 40 then .ok (.bl (!eqD x y)) else .bad
section

theorem od_eq (hu : X.A.units + 64 < cLine) : OpD X (compareOp .Eq) eqR := by
  intro H O x y dx dy Q fr r1 r2 q
  unfold eqR at q
  split at q
  · rename_i hd
    refine ⟨fun x' y' H' Q' => x' = x ∧ y' = y ∧ H' = H ∧ Q' (.bl (eqD dx dy)) H, ?_, rfl, rfl, rfl, q _ H (Same.refl _) .bl⟩
    intro pins s σ H' x' y' v u Q' I rx ry ⟨e1, e2, e3, q'⟩
    subst e1 e2 e3
    exact (rc_D I r1 r2 rx ry (by lia) (by lia)).1 _ _ _ _ ⟨.bl _, _, I, rfl, q'⟩
  · exact q.elim
theorem od_ne (hu : X.A.units + 64 < cLine) : OpD X (compareOp .NotEq) neR := by
  intro H O x y dx dy Q fr r1 r2 q
  unfold neR at q
  split at q
  · rename_i hd
    refine ⟨fun x' y' H' Q' => x' = x ∧ y' = y ∧ H' = H ∧ Q' (.bl (!eqD dx dy)) H, ?_, rfl, rfl, rfl, q _ H (Same.refl _) .bl⟩
    intro pins s σ H' x' y' v u Q' I rx ry ⟨e1, e2, e3, q'⟩
    subst e1 e2 e3
    exact (rc_D I r1 r2 rx ry (by lia) (by lia)).2 _ _ _ _ ⟨.bl _, _, I, rfl, q'⟩
  · exact q.elim
end
end DL

namespace DL
open PySem PySem.Spec L2
open PyProof.Rows hiding St
variable [Tabs]

def addR : D → D → R D
  | .int a, .int b => .ok (.int (a + b))
  | .lst a, .lst b => if a.length + b.length ≤ sizeLine then .ok (.lst (a ++ b)) else .bad
  | .tup [], .tup b => .ok (.tup b)
  | .tup (x :: a), .tup [] => if (x :: a).length ≤ sizeLine then .ok (.tup (x :: a)) else .bad
  | .tup (x :: a), .tup (y :: b) => if (x :: a).length + (y :: b).length ≤ sizeLine then .ok (.tup ((x :: a) ++ (y :: b))) else .bad
  | .str a, .str b => if a.length + b.length ≤ sizeLine then .ok (.str (a ++ b)) else .bad
  | _, _ => .bad
def subR : D → D → R D
  | .int a, .int b => .ok (.int (a - b))
  | _, _ => .bad
def MulSz (a b : Int) : Prop := Builtin.Int.intBits a ≤ 60000000 ∧ Builtin.Int.intBits b ≤ 60000000
instance (a b : Int) : Decidable (MulSz a b) := inferInstanceAs (Decidable (_ ∧ _))
def mulR : D → D → R D
  | .int a, .int b => if MulSz a b then .ok (.int (a * b)) else .bad
  | _, _ => .bad
def DivOk (b : Int) : Prop := b ≠ 0 ∧ Builtin.Int.intBits b ≤ 9000
instance (b : Int) : Decidable (DivOk b) := inferInstanceAs (Decidable (_ ∧ _))
def fdivR : D → D → R D
  | .int a, .int b => if DivOk b then .ok (.int (a.fdiv b)) else .bad
  | _, _ => .bad
def modR : D → D → R D
  | .int a, .int b => if b ≠ 0 then .ok (.int (a.fmod b)) else .bad
  | _, _ => .bad
def powR : D → D → R D
  | .int a, .int b => if 0 ≤ b ∧ b ≤ 1000000 ∧ a.natAbs < 2 ^ 64 then .ok (.int (a ^ b.toNat)) else .bad
  | _, _ => .bad
def ltR : D → D → R D
  | .int a, .int b => .ok (.bl (decide (a < b)))
  | _, _ => .bad
def leR : D → D → R D
  | .int a, .int b => .ok (.bl (decide (a ≤ b)))
  | _, _ => .bad
def gtR : D → D → R D
  | .int a, .int b => .ok (.bl (decide (b < a)))
  | _, _ => .bad
theorem log2_bits (h0 : b ≠ 0) (h : Builtin.Int.intBits b ≤ n) : b.natAbs.log2 < n := by
  unfold Builtin.Int.intBits at h
  split at h
  · rename_i z; exact absurd (by simpa using z) h0
  · omega
theorem mulSz_ok (h : MulSz a b) : IntMulOk a b := mulOk_of_bits (m := 60000000) (n := 60000000) h.1 h.2 (by decide)

section

theorem OpD.of_int {f : Value → Value → Sem Value} {g : D → D → R D} {C : Int → Int → Prop} {w : Int → Int → V} {dw : Int → Int → D} (hr : OpR X f (rI C w)) (hg : ∀ dx dy d, g dx dy = .ok d → ∃ i j, dx = .int i ∧ dy = .int j ∧ C i j ∧ d = dw i j)
    (hb : ∀ dx dy e, g dx dy ≠ .ex e) (hw : ∀ K H O i j, Rep K H O (w i j) (dw i j)) : OpD X f g := by
  intro H O x y dx dy Q fr r1 r2 q
  cases e : g dx dy with
  | ok d =>
    rw [e] at q
    obtain ⟨i, j, rfl, rfl, hc, rfl⟩ := hg dx dy d e
    cases r1.intI; cases r2.intI
    exact ⟨_, hr, i, j, rfl, rfl, hc, q _ H (Same.refl _) (hw _ _ _ _ _)⟩
  | ex x => exact absurd e (hb _ _ _)
  | bad => rw [e] at q; exact q.elim
theorem OpR.c0 (h : OpR X f (rI0 w)) : OpR X f (rI (fun _ _ => True) w) := by rintro pins s σ H x y v u Q I rx ry ⟨i, j, e1, e2, _, q⟩; exact h pins s σ H x y v u Q I rx ry ⟨i, j, e1, e2, q⟩
theorem od_sub : OpD X (binaryOp .Sub) subR := OpD.of_int (dw := fun i j => .int (i - j)) (OpR.c0 op_sub) (fun dx dy d h => by
  cases dx <;> cases dy <;> simp only [subR, R.ok.injEq, reduceCtorEq] at h
  exact ⟨_, _, rfl, rfl, trivial, h.symm⟩) (fun dx dy e h => by cases dx <;> cases dy <;> simp only [subR, reduceCtorEq] at h) fun _ _ _ _ _ => .int
theorem od_lt : OpD X (compareOp .Lt) ltR := OpD.of_int (dw := fun i j => .bl (decide (i < j))) (OpR.c0 op_lt) (fun dx dy d h => by
  cases dx <;> cases dy <;> simp only [ltR, R.ok.injEq, reduceCtorEq] at h
  exact ⟨_, _, rfl, rfl, trivial, h.symm⟩) (fun dx dy e h => by cases dx <;> cases dy <;> simp only [ltR, reduceCtorEq] at h) fun _ _ _ _ _ => .bl
theorem od_le : OpD X (compareOp .LtE) leR := OpD.of_int (dw := fun i j => .bl (decide (i ≤ j))) (OpR.c0 op_le) (fun dx dy d h => by
  cases dx <;> cases dy <;> simp only [leR, R.ok.injEq, reduceCtorEq] at h
  exact ⟨_, _, rfl, rfl, trivial, h.symm⟩) (fun dx dy e h => by cases dx <;> cases dy <;> simp only [leR, reduceCtorEq] at h) fun _ _ _ _ _ => .bl
theorem od_gt : OpD X (compareOp .Gt) gtR := OpD.of_int (dw := fun i j => .bl (decide (j < i))) (OpR.c0 op_gt) (fun dx dy d h => by
  cases dx <;> cases dy <;> simp only [gtR, R.ok.injEq, reduceCtorEq] at h
  exact ⟨_, _, rfl, rfl, trivial, h.symm⟩) (fun dx dy e h => by cases dx <;> cases dy <;> simp only [gtR, reduceCtorEq] at h) fun _ _ _ _ _ => .bl
theorem op_fdivB : OpR X (binaryOp .FloorDiv) (rI (fun _ j => DivOk j) fun i j => .int (i.fdiv j)) := opI fun _ _ _ _ _ _ _ hc q => floordiv_int hc.1 q (.inl (PyProof.noPylong_of_log2 (log2_bits hc.1 hc.2)))
theorem od_fdiv : OpD X (binaryOp .FloorDiv) fdivR := OpD.of_int (dw := fun i j => .int (i.fdiv j)) op_fdivB (fun dx dy d h => by
  cases dx <;> cases dy <;> simp only [fdivR, reduceCtorEq] at h
  split at h
  · rename_i hc; cases h; exact ⟨_, _, rfl, rfl, hc, rfl⟩
  · cases h) (fun dx dy e h => by
    cases dx <;> cases dy <;> simp only [fdivR, reduceCtorEq] at h
    split at h <;> cases h) fun _ _ _ _ _ => .int
theorem od_mod : OpD X (binaryOp .Mod) modR := OpD.of_int (dw := fun i j => .int (i.fmod j)) op_modN (fun dx dy d h => by
  cases dx <;> cases dy <;> simp only [modR, reduceCtorEq] at h
  split at h
  · rename_i hc; cases h; exact ⟨_, _, rfl, rfl, hc, rfl⟩
  · cases h) (fun dx dy e h => by
    cases dx <;> cases dy <;> simp only [modR, reduceCtorEq] at h
    split at h <;> cases h) fun _ _ _ _ _ => .int
theorem od_pow : OpD X (binaryOp .Pow) powR := OpD.of_int (dw := fun i j => .int (i ^ j.toNat)) op_pow (fun dx dy d h => by
  cases dx <;> cases dy <;> simp only [powR, reduceCtorEq] at h
  split at h
  · rename_i hc; cases h; exact ⟨_, _, rfl, rfl, hc, rfl⟩
  · cases h) (fun dx dy e h => by
    cases dx <;> cases dy <;> simp only [powR, reduceCtorEq] at h
    split at h <;> cases h) fun _ _ _ _ _ => .int
theorem op_mulB : OpR X (binaryOp .Mult) (rI MulSz fun i j => .int (i * j)) := opI fun _ _ _ _ _ _ _ hc q => mul_int q (mulSz_ok hc)
theorem od_mul : OpD X (binaryOp .Mult) mulR := OpD.of_int (dw := fun i j => .int (i * j)) op_mulB (fun dx dy d h => by
  cases dx <;> cases dy <;> simp only [mulR, reduceCtorEq] at h
  split at h
  · rename_i hc; cases h; exact ⟨_, _, rfl, rfl, hc, rfl⟩
  · cases h) (fun dx dy e h => by
    cases dx <;> cases dy <;> simp only [mulR, reduceCtorEq] at h
    split at h <;> cases h) fun _ _ _ _ _ => .int
theorem op_catB : OpR X (binaryOp .Add) (fun x y H Q => ∃ l b xs zs, x = .ref l ∧ y = .ref b ∧ SqL X.K H l xs ∧ SqL X.K H b zs ∧ xs.length + zs.length ≤ sizeLine ∧ ∀ p, H p = none → Q (.ref p) (upd H p (.lst (xs ++ zs)))) := by
  intro pins s σ H x y v u Q I rx ry h
  obtain ⟨l, b, xs, zs, rfl, rfl, hH, hB, hz, q⟩ := h
  cases rx
  cases ry
  obtain ⟨its, r, p, _⟩ := I.list hH
  obtain ⟨its2, r2, p2, _⟩ := I.list hB
  obtain ⟨⟨cls, dd, data, sl⟩, ho, hc, n, hd⟩ := p.isList
  obtain ⟨⟨cls2, dd2, data2, sl2⟩, ho2, hc2, n2, hd2⟩ := p2.isList
  simp only at hc hd hc2 hd2
  subst hc hd hc2 hd2
  have hsz : its.toArray.size + its2.toArray.size ≤ sizeLine := by rw [List.size_toArray, List.size_toArray, ← r.length, ← r2.length]; exact hz
  have ea : its.toArray ++ its2.toArray = (its ++ its2).toArray := by simp
  refine concat_meets ⟨_, ho, rfl⟩ ⟨_, ho2, rfl⟩ noFill_list_add seq_list_add PySem.F.slot_list_add PySem.F.entry_list_add (PySem.F.args_list_add_2 _ _) (list_addW l b its.toArray its2.toArray n n2 dd dd2 sl sl2 hsz) ⟨ho, ho2, ?_⟩
  rw [ea]
  exact ⟨.ref _, _, I.lnew (t' := s.toks) (r.append r2) (by rw [List.length_append]; omega), rfl, q _ I.fresh⟩
theorem op_catT0 : OpR X (binaryOp .Add) (fun x y H Q => ∃ a b ys, x = .ref a ∧ y = .ref b ∧ SqT X.K H a [] ∧ SqT X.K H b ys ∧ Q (.ref b) H) := by
  intro pins s σ H x y v u Q I rx ry h
  obtain ⟨t, b, ys, rfl, rfl, ha, hb, q⟩ := h
  cases rx
  cases ry
  obtain ⟨its, r1, p1, _⟩ := I.tuple ha
  obtain ⟨ws, r2, p2, _⟩ := I.tuple hb
  cases r1
  obtain ⟨⟨cls, dd, data, sl⟩, ho, hc, n, hd⟩ := p1
  obtain ⟨⟨cls2, dd2, data2, sl2⟩, ho2, hc2, n2, hd2⟩ := p2
  simp only at hc hd hc2 hd2
  subst hc hd hc2 hd2
  exact concat_meets ⟨_, ho, rfl⟩ ⟨_, ho2, rfl⟩ noFill_tuple_add seq_tuple_add PySem.F.slot_tuple_add PySem.F.entry_tuple_add (PySem.F.args_tuple_add_2 _ _) (tuple_addW0 t b _ _ n n2 dd dd2 sl sl2 (by simp)) ⟨ho, ho2, .ref b, H, I, rfl, q⟩
theorem od_add : OpD X (binaryOp .Add) addR := by
  intro H O x y dx dy Q fr r1 r2 q
  cases dx with
  | int i =>
    cases dy with
    | int j => cases r1.intI; cases r2.intI; exact ⟨_, op_add, i, j, rfl, rfl, q _ H (Same.refl _) .int⟩
    | _ => exact (q).elim
  | lst a =>
    cases dy with
    | lst b =>
      simp only [addR] at q
      split at q
      · rename_i hz
        obtain ⟨l, vs, rfl, h1, h2⟩ := r1.lstI
        obtain ⟨l', vs', rfl, h1', h2'⟩ := r2.lstI
        exact ⟨_, op_catB, l, l', vs, vs', rfl, rfl, h1, h1', by rw [h2.length, h2'.length]; exact hz, fun p hp => q _ _ (same_upd hp _) (.lst (SqL.of upd_same) (fr p hp) ((h2.append h2').same (same_upd hp _)))⟩
      · exact q.elim
    | _ => exact (q).elim
  | tup a =>
    cases dy with
    | tup b =>
      cases a with
      | nil =>
        obtain ⟨l, vs, rfl, h1, h2⟩ := r1.tupI
        obtain ⟨l', vs', rfl, h1', h2'⟩ := r2.tupI
        cases h2
        exact ⟨_, op_catT0, l, l', vs', rfl, rfl, h1, h1', q _ H (Same.refl _) (.tup h1' h2')⟩
      | cons x a =>
        cases b with
        | nil =>
          obtain ⟨l, vs, rfl, h1, h2⟩ := r1.tupI
          obtain ⟨l', vs', rfl, h1', h2'⟩ := r2.tupI
          cases h2'
          have n1 : vs ≠ [] := fun z => by subst z; have := h2.length; simp at this
          simp only [addR] at q
          split at q
          · rename_i hz
            exact ⟨_, op_catT, l, l', vs, [], rfl, rfl, h1, h1', n1, by rw [h2.length]; exact hz, fun _ => q _ H (Same.refl _) (.tup h1 h2), fun z => absurd rfl z⟩
          · exact q.elim
        | cons y b =>
          simp only [addR] at q
          split at q
          · rename_i hz
            obtain ⟨l, vs, rfl, h1, h2⟩ := r1.tupI
            obtain ⟨l', vs', rfl, h1', h2'⟩ := r2.tupI
            have n1 : vs ≠ [] := fun z => by subst z; have := h2.length; simp at this
            have n2 : vs' ≠ [] := fun z => by subst z; have := h2'.length; simp at this
            exact ⟨_, op_catT, l, l', vs, vs', rfl, rfl, h1, h1', n1, by rw [h2.length, h2'.length]; exact hz, fun z => absurd z n2, fun _ p hp => q _ _ (same_upd hp _) (.tup (SqT.of upd_same) ((h2.append h2').same (same_upd hp _)))⟩
          · exact q.elim
    | _ => cases a <;> exact (q).elim
  | str a =>
    cases dy with
    | str b =>
      simp only [addR] at q
      split at q
      · rename_i hz
        cases r1.strI
        cases r2.strI
        exact ⟨_, op_add_str, a, b, rfl, rfl, hz, q _ H (Same.refl _) .str⟩
      · exact q.elim
    | _ => exact (q).elim
  | _ => exact (q).elim

def ixR (x y : D) : R D := match x, y with
  | .lst xs, .int i => match atI xs i with | some d => .ok d | none => .bad
  | .tup xs, .int i => match atI xs i with | some d => .ok d | none => .bad
  | .str z, .int i => if z.length ≤ sizeLine then (match atI z.cps.toList i with | some c => .ok (.str ⟨#[c]⟩) | none => .bad) else .bad
  | _, _ => .bad
theorem atI_reps {K : PySem.W.Frag} {H : Hp} {O : Addr → Prop} {vs : List V} {ds : List D} {i : Int} {d : D} (r : Reps K H O vs ds) (h : atI ds i = some d) : ∃ v, atI vs i = some v ∧ Rep K H O v d := by
  unfold atI at h ⊢
  rw [r.length]
  cases e : ixN ds.length i with
  | none => simp_all
  | some j =>
    rw [e] at h
    exact r.get h

theorem pd_ix (ha : PB X a f) (hb : PD X b g) (hs : PlainIx b := by exact fun _ _ => rfl) : PD X (.Subscript a b pos) (fun ρ => (f ρ).bind fun x => (g ρ).bind fun y => ixR x y) := by
  refine mkE fun pins s σ H Q I H₀ O₀ O ρ E q => ?_
  refine Subscript_ (binT ha hb.pb I (two_ops E q) fun v u s2 x y H2 I2 rx ry h => ?_)
  obtain ⟨dx, dy, fr, r1, r2, q⟩ := h
  cases dy with
  | int i =>
    cases r2.intI
    cases dx with
    | lst xs =>
      simp only [ixR] at q
      cases e : atI xs i with
      | none => rw [e] at q; exact q.elim
      | some d =>
        rw [e] at q
        obtain ⟨p, vs, rfl, h1, h2⟩ := r1.lstI
        obtain ⟨w, h3, h4⟩ := atI_reps h2 e
        exact ix_list a b pins s2 σ H2 _ _ v u Q I2 rx ry ⟨p, vs, i, w, rfl, rfl, h1, h3, q w H2 (Same.refl _) h4⟩ (hs _ _)
    | tup xs =>
      simp only [ixR] at q
      cases e : atI xs i with
      | none => rw [e] at q; exact q.elim
      | some d =>
        rw [e] at q
        obtain ⟨p, vs, rfl, h1, h2⟩ := r1.tupI
        obtain ⟨w, h3, h4⟩ := atI_reps h2 e
        exact ix_tup a b pins s2 σ H2 _ _ v u Q I2 rx ry ⟨p, vs, i, w, rfl, rfl, h1, h3, q w H2 (Same.refl _) h4⟩ (hs _ _)
    | str z =>
      simp only [ixR] at q
      split at q
      · rename_i hz
        cases e : atI z.cps.toList i with
        | none => rw [e] at q; exact q.elim
        | some c =>
          rw [e] at q
          cases r1.strI
          exact ix_str a b pins s2 σ H2 _ _ v u Q I2 rx ry ⟨z, i, c, rfl, rfl, hz, e, q _ H2 (Same.refl _) .str⟩ (hs _ _)
      · exact q.elim
    | _ => exact (q).elim
  | _ => cases dx <;> exact (q).elim

def cutD (xs : List D) (lo hi : Option Int) : List D := (xs.drop (HT.sIx xs.length 0 lo)).take (HT.sIx xs.length xs.length hi - HT.sIx xs.length 0 lo)
theorem cutD_reps {K : PySem.W.Frag} {H : Hp} {O : Addr → Prop} {vs : List V} {ds : List D} {lo hi : Option Int} (r : Reps K H O vs ds) : Reps K H O (cutV vs lo hi) (cutD ds lo hi) := by
  unfold cutV cutD
  rw [r.length]
  exact (r.drop _).take _
def PTO (X : Cx) (e : Option Expr) (f : Ev → R (Option Int)) : Prop := PO X e fun σ H Q => ∃ H₀ O₀ O ρ, EnvOk X.K H₀ O₀ H O σ ρ ∧ match f ρ with
  | .ok o => ∀ H', Same H H' → Q o H'
  | .ex e => ∀ H', Same H H' → XW X e H'
  | .bad => False
def toI : D → R (Option Int)
  | .int i => .ok (some i)
  | _ => .bad
theorem pto_none : PTO X none (fun _ => .ok none) := by rintro pins s σ H Q I ⟨H₀, O₀, O, ρ, E, q⟩; exact po_none pins s σ H Q I (q H (Same.refl _))
theorem pto_some (h : PD X e f) : PTO X (some e) (fun ρ => (f ρ).bind toI) := by rintro pins s σ H Q I ⟨H₀, O₀, O, ρ, E, q⟩; exact po_some h pins s σ H Q I ⟨H₀, O₀, O, ρ, E, by
  dsimp only at q
  cases e : f ρ with
  | ok d =>
    rw [e] at q
    cases d with
    | int i => exact fun v H1 s1 r1 => by cases r1; exact ⟨i, rfl, q H1 s1⟩
    | _ => exact (q).elim
  | ex x => rw [e] at q; exact q
  | bad => rw [e] at q; exact q⟩
def rSlS : V → Option Int → Option Int → Hp → VK → Prop := fun x lo hi H Q => ∃ z, x = .str z ∧ z.length ≤ sizeLine ∧ Q (.str (Txt.slice z lo hi)) H
theorem sl_str : SlR X rSlS := by
  intro pins s σ H x v vl vu lo hi sl Q I rx hs pl pu h
  obtain ⟨z, rfl, hz, q⟩ := h
  obtain ⟨t, rfl⟩ := rx
  have fin : ∀ (l u : Option (Int × Tok)), s.heap.IsSlice sl l u none → l.map (·.1) = lo → u.map (·.1) = hi → wpAny (model X.prog X.w) X.A (getItem (.str z t) (.ref sl)) (EP X pins σ Q) X.xe s := fun l u hs e1 e2 => by
    subst e1 e2
    exact wpAny_getItem_str_slice (l := l) (u := u) (st := none) hs rfl (post_val_or_str ⟨Nat.le_trans (Txt.slice_le z _ _) hz, fun t' k => ⟨.str _, H, I.tok k, ⟨_, rfl⟩, q⟩⟩)
  refine ⟨"str", _, F.slot_str_getitem.lookup, typeIs_str _ _ _, ?_⟩
  obtain ⟨o, ho, hc, hd⟩ := hs
  cases pl with
  | none =>
    cases pu with
    | none => exact fin none none ⟨o, ho, hc, hd⟩ rfl rfl
    | int => exact fin none (some (_, _)) ⟨o, ho, hc, hd⟩ rfl rfl
  | int =>
    cases pu with
    | none => exact fin (some (_, _)) none ⟨o, ho, hc, hd⟩ rfl rfl
    | int => exact fin (some (_, _)) (some (_, _)) ⟨o, ho, hc, hd⟩ rfl rfl
def slR (x : D) (lo hi : Option Int) : R D := match x with
  | .lst xs => .ok (.lst (cutD xs lo hi))
  | .tup xs => if HT.sIx xs.length 0 lo = 0 ∧ HT.sIx xs.length xs.length hi = xs.length then .bad else .ok (.tup (cutD xs lo hi))
  | .str z => if z.length ≤ sizeLine then .ok (.str (Txt.slice z lo hi)) else .bad
  | _ => .bad
theorem pd_sl {lo hi : Option Expr} {p2 : Pos} {fl fh : Ev → R (Option Int)} (he : PB X a f) (hl : PTO X lo fl) (hu : PTO X hi fh) :
    PD X (.Subscript a (.Slice lo hi none p2) pos) (fun ρ => (f ρ).bind fun x => (fl ρ).bind fun l => (fh ρ).bind fun h => slR x l h) := by
  refine mkE fun pins s σ H Q I H₀ O₀ O ρ E q => ?_
  have fin : ∀ x d l h H', RepB X.K H' O x d → (∀ p, H' p = none → ¬ O p) → RC X H' O (slR d l h) Q → (rSlL X.K x l h H' Q ∨ rSlT X.K x l h H' Q) ∨ rSlS x l h H' Q := fun x d l h H' r fr q => by
    cases d with
    | lst xs =>
      obtain ⟨p, vs, rfl, h1, h2⟩ := r.lstI
      exact .inl <| .inl ⟨p, vs, rfl, h1, fun p hp => q _ _ (same_upd hp _) (.lst (SqL.of upd_same) (fr p hp) ((cutD_reps h2).same (same_upd hp _)))⟩
    | tup xs =>
      obtain ⟨p, vs, rfl, h1, h2⟩ := r.tupI
      simp only [slR] at q
      split at q
      · exact q.elim
      · rename_i hn
        exact .inl <| .inr ⟨p, vs, rfl, h1, by rw [h2.length]; exact hn, fun p hp => q _ _ (same_upd hp _) (.tup (SqT.of upd_same) ((cutD_reps h2).same (same_upd hp _)))⟩
    | str z =>
      simp only [slR] at q
      split at q
      · rename_i hz
        cases r.strI
        exact .inr ⟨z, rfl, hz, q _ _ (Same.refl _) .str⟩
      · exact q.elim
    | _ => exact (q).elim
  refine pe_slice ((sl_list.or sl_tup).or sl_str) he hl hu pins s σ H Q I ⟨H₀, O₀, O, ρ, E, ?_⟩
  dsimp only at q
  cases e1 : f ρ with
  | ok d =>
    rw [e1] at q
    intro x H1 s1 r1
    refine ⟨H₀, O₀, O, ρ, E.grow s1, ?_⟩
    cases e2 : fl ρ with
    | ok l =>
      rw [e2] at q
      intro H2 s2
      refine ⟨H₀, O₀, O, ρ, (E.grow s1).grow s2, ?_⟩
      cases e3 : fh ρ with
      | ok h =>
        rw [e3] at q
        intro H3 s3
        have q' : RC X H O (slR d l h) Q := q
        exact fin x d l h H3 ((r1.same s2).same s3) (fun p hp => (((E.grow s1).grow s2).grow s3).fresh hp) (q'.grow (s1.trans (s2.trans s3)))
      | ex x => rw [e3] at q; exact fun H3 s3 => q H3 (s1.trans (s2.trans s3))
      | bad => rw [e3] at q; exact q
    | ex x => rw [e2] at q; exact fun H3 s3 => q H3 (s1.trans s3)
    | bad => rw [e2] at q; exact q
  | ex x => rw [e1] at q; exact q
  | bad => rw [e1] at q; exact q

theorem pr1 {K : PySem.W.Frag} {H : Hp} {O : Addr → Prop} {vs : List V} {d : D} (r : Paired (RepB K H O) vs [d]) : ∃ v, vs = [v] ∧ RepB K H O v d := by
  cases r with
  | cons r1 r2 => cases r2; exact ⟨_, rfl, r1⟩
theorem pr2 {K : PySem.W.Frag} {H : Hp} {O : Addr → Prop} {vs : List V} {d d' : D} (r : Paired (RepB K H O) vs [d, d']) : ∃ v v', vs = [v, v'] ∧ RepB K H O v d ∧ RepB K H O v' d' := by
  cases r with
  | cons r1 r2 =>
    obtain ⟨v', e, r'⟩ := pr1 r2
    subst e
    exact ⟨_, _, rfl, r1, r'⟩
def lenR : List D → R D
  | [.lst xs] => .ok (.int xs.length)
  | [.tup xs] => .ok (.int xs.length)
  | [.str z] => if z.length ≤ sizeLine then .ok (.int z.length) else .bad
  | _ => .bad
theorem cd_len : CallD X (.builtin "len") lenR := by
  intro H O vs ds Q fr r q
  match ds, q with
  | [.lst xs], q =>
    obtain ⟨v, rfl, z⟩ := pr1 r
    obtain ⟨p, ys, rfl, h1, h2⟩ := z.lstI
    exact ⟨_, call_len_seq, p, ys, rfl, .inl h1, q _ H (Same.refl _) (h2.length ▸ .int)⟩
  | [.tup xs], q =>
    obtain ⟨v, rfl, z⟩ := pr1 r
    obtain ⟨p, ys, rfl, h1, h2⟩ := z.tupI
    exact ⟨_, call_len_seq, p, ys, rfl, .inr h1, q _ H (Same.refl _) (h2.length ▸ .int)⟩
  | [.str z], q =>
    obtain ⟨v, rfl, z'⟩ := pr1 r
    cases z'.strI
    simp only [lenR] at q
    split at q
    · rename_i hz; exact ⟨_, call_len_str, z, rfl, hz, q _ H (Same.refl _) .int⟩
    · exact q.elim
def max2R : List D → R D
  | [.int i, .int j] => .ok (.int (if j > i then j else i))
  | _ => .bad
def min2R : List D → R D
  | [.int i, .int j] => .ok (.int (if j < i then j else i))
  | _ => .bad
theorem cd_max2 (hc : X.calm = true) : CallD X (.builtin "max") max2R := by
  intro H O vs ds Q fr r q
  match ds, q with
  | [.int i, .int j], q =>
    obtain ⟨v, v', rfl, z, z'⟩ := pr2 r
    cases z.intI; cases z'.intI
    exact ⟨_, call_max2 hc, i, j, rfl, q _ H (Same.refl _) .int⟩
theorem cd_min2 (hc : X.calm = true) : CallD X (.builtin "min") min2R := by
  intro H O vs ds Q fr r q
  match ds, q with
  | [.int i, .int j], q =>
    obtain ⟨v, v', rfl, z, z'⟩ := pr2 r
    cases z.intI; cases z'.intI
    exact ⟨_, call_min2 hc, i, j, rfl, q _ H (Same.refl _) .int⟩
def intR : List D → R D
  | [.int i] => .ok (.int i)
  | [.bl b] => .ok (.int (if b then 1 else 0))
  | [.str z] => if z.length ≤ 640 then (match intText? z with | some n => .ok (.int n) | none => .bad) else .bad
  | _ => .bad
theorem call_int_text : CallR X (.type "int") (fun xs H Q => ∃ z n, xs = [.str z] ∧ z.length ≤ 640 ∧ intText? z = some n ∧ Q (.int n) H) := by
  intro pins s σ H xs us Q I r h
  obtain ⟨z, n, rfl, hl, hn, q⟩ := h
  obtain ⟨u, rfl, t, rfl⟩ := vals1 r
  exact PySem.W.KIN.call_text hn hl ⟨.int n, H, I.tok _, ⟨_, rfl⟩, q⟩
theorem cd_int : CallD X (.type "int") intR := by
  intro H O vs ds Q fr r q
  match ds, q with
  | [.int i], q =>
    obtain ⟨v, rfl, z⟩ := pr1 r
    cases z.intI
    exact ⟨_, call_int1, .inl ⟨i, rfl, q _ H (Same.refl _) .int⟩⟩
  | [.bl i], q =>
    obtain ⟨v, rfl, z⟩ := pr1 r
    cases z.blI
    exact ⟨_, call_int1, .inr ⟨i, rfl, q _ H (Same.refl _) .int⟩⟩
  | [.str z], q =>
    obtain ⟨v, rfl, z'⟩ := pr1 r
    cases z'.strI
    simp only [intR] at q
    split at q
    · rename_i hz
      cases e : intText? z with
      | none => rw [e] at q; exact q.elim
      | some n => rw [e] at q; exact ⟨_, call_int_text, z, n, rfl, hz, e, q _ H (Same.refl _) .int⟩
    · exact q.elim
def tupleR : List D → R D
  | [.lst xs] => .ok (.tup xs)
  | [.tup xs] => .ok (.tup xs)
  | _ => .bad
theorem cd_tuple : CallD X (.type "tuple") tupleR := by
  intro H O vs ds Q fr r q
  match ds, q with
  | [.lst xs], q =>
    obtain ⟨v, rfl, z⟩ := pr1 r
    obtain ⟨p, ys, rfl, h1, h2⟩ := z.lstI
    exact ⟨_, call_tuple_of, p, ys, rfl, .inl ⟨h1, fun l hl => q _ _ (same_upd hl _) (.tup (SqT.of upd_same) (h2.same (same_upd hl _)))⟩⟩
  | [.tup xs], q =>
    obtain ⟨v, rfl, z⟩ := pr1 r
    obtain ⟨p, ys, rfl, h1, h2⟩ := z.tupI
    exact ⟨_, call_tuple_of, p, ys, rfl, .inr ⟨h1, q _ _ (Same.refl _) (.tup h1 h2)⟩⟩
def listR : List D → R D
  | [.lst xs] => .ok (.lst xs)
  | [.tup xs] => .ok (.lst xs)
  | _ => .bad
theorem cd_list : CallD X (.type "list") listR := by
  intro H O vs ds Q fr r q
  match ds, q with
  | [.lst xs], q =>
    obtain ⟨v, rfl, z⟩ := pr1 r
    obtain ⟨p, ys, rfl, h1, h2⟩ := z.lstI
    exact ⟨_, call_list_of, p, ys, rfl, .inl h1, fun l hl => q _ _ (same_upd hl _) (.lst (SqL.of upd_same) (fr l hl) (h2.same (same_upd hl _)))⟩
  | [.tup xs], q =>
    obtain ⟨v, rfl, z⟩ := pr1 r
    obtain ⟨p, ys, rfl, h1, h2⟩ := z.tupI
    exact ⟨_, call_list_of, p, ys, rfl, .inr h1, fun l hl => q _ _ (same_upd hl _) (.lst (SqL.of upd_same) (fr l hl) (h2.same (same_upd hl _)))⟩

def tyD : D → String
  | .non => "NoneType" | .bl _ => "bool" | .int _ => "int" | .str _ => "str" | .tup _ => "tuple" | .lst _ => "list" | .dct _ => "dict"
def isaD (T : String) (d : D) : Bool := tyD d == T || (T == "int" && tyD d == "bool")
def IsaOk (T : String) : Prop := ∀ (K : PySem.W.Frag) (d : D), PySem.W.kitOne K (.type (tyD d)) (.type T) = some (isaD T d)
theorem isa_int : IsaOk "int" := fun K d => by cases d <;> with_unfolding_all rfl
theorem isa_bool : IsaOk "bool" := fun K d => by cases d <;> with_unfolding_all rfl
theorem isa_tuple : IsaOk "tuple" := fun K d => by cases d <;> with_unfolding_all rfl
theorem isa_list : IsaOk "list" := fun K d => by cases d <;> with_unfolding_all rfl
theorem isa_str : IsaOk "str" := fun K d => by cases d <;> with_unfolding_all rfl
theorem isa_run {O : Addr → Prop} (I : Inv X pins σ H s) (ht : IsaOk T) (r : RepB X.K H O v d) (ru : RelV v u) (q : Q (.bl (isaD T d)) H) :
    wpAny (model X.prog X.w) X.A (call (.builtin "isinstance") [u, .type T]) (EP X pins σ Q) X.xe s := by
  have e := ht X.K d
  have fin : ∀ tk, EP X pins σ Q (.bool (isaD T d)) { s with toks := tk } := fun tk => ⟨.bl _, H, I.tok _, rfl, q⟩
  cases d with
  | non => cases r.nonI; cases ru; exact PySem.W.kia_one PySem.W.kitx_none I.kIn True.intro e (fun z => nomatch z) fin
  | bl => cases r.blI; cases ru; exact PySem.W.kia_one PySem.W.kitx_bool I.kIn True.intro e (fun z => nomatch z) fin
  | int => cases r.intI; obtain ⟨t, rfl⟩ := ru; exact PySem.W.kia_one PySem.W.kitx_int I.kIn True.intro e (fun z => nomatch z) fin
  | str => cases r.strI; obtain ⟨t, rfl⟩ := ru; exact PySem.W.kia_one PySem.W.kitx_str I.kIn True.intro e (fun z => nomatch z) fin
  | tup xs =>
    obtain ⟨a, vs, rfl, h, _⟩ := r.tupI
    cases ru
    obtain ⟨its, _, p, _⟩ := I.tuple h
    obtain ⟨o, h1, h2, _⟩ := p
    exact PySem.W.kia_one PySem.W.kitx_tuple I.kIn ⟨o, h1, h2⟩ e (fun z => nomatch z) fin
  | lst xs =>
    obtain ⟨a, vs, rfl, h, _⟩ := r.lstI
    cases ru
    obtain ⟨its, _, p, _⟩ := I.list h
    obtain ⟨o, n, h1, h2, _⟩ := p
    exact PySem.W.kia_one PySem.W.kitx_list I.kIn ⟨o, h1, h2⟩ e (fun z => nomatch z) fin
  | dct =>
    obtain ⟨a, o, es, rfl, h, x, _⟩ := r.dctI
    cases ru
    exact PySem.W.kia_one PySem.W.kitx_dict I.kIn ⟨o, (I.hok _ _ h).1, x.2.1.1⟩ e (fun z => nomatch z) fin
theorem pd_isa (ht : IsaOk T) (ha : PB X a f) (hT : bootBuiltins x = some (.type T) := by decide +kernel) (hm : X.mg "isinstance" = none := by assumption) (hmT : X.mg x = none := by assumption) (hg : Gl X "isinstance" := by rfl) (hgT : Gl X x := by rfl) (hdb : (x == ("__debug__" : Str)) = false := by decide) (hn : x ≠ "__name__" := by decide) (he : starEach [a, .Name x pt] X.env = (false, eval a X.env) :: starEach [.Name x pt] X.env := by rfl) (he2 : starEach [Expr.Name x pt] X.env = [(false, eval (.Name x pt) X.env)] := by rfl) (hpl : (backTo pos (starEach [Expr.Name x pt] X.env)).any (·.1) = false := by rfl) :
    PD X (.Call (.Name "isinstance" p) [a, .Name x pt] [] pos) (fun ρ => (f ρ).bind fun d => .ok (.bl (isaD T d))) := by
  refine mkE fun pins s σ H Q I H₀ O₀ O ρ E q => (wpAny_Call_Name_kw (ld_blt (u := .builtin "isinstance") I hg hm (by decide +kernel) ?_))
  have hb : PE X (.Name x pt) (tC (.ty T)) := pe_bltn hgT hmT hT rfl hn hdb
  have h := pa_cons ha (pa_cons hb pa_nil (by rw [he2]; rfl)) he pos pins s σ H (fun vs H1 => ∃ v d, vs = [v, .ty T] ∧ RepB X.K H1 O v d ∧ Q (.bl (isaD T d)) H1) I ⟨H₀, O₀, O, ρ, E, by
    refine RCB.mono (RCB.seq q) fun v H1 z9 => ?_
    obtain ⟨d, _, s1, r1, h1⟩ := z9
    exact ⟨v, d, rfl, r1, h1 _ H1 (Same.refl _) .bl⟩⟩
  refine PyProof.Rows.callWith_builtin1 (thn h fun us s1 z9 => ?_) he hpl
  obtain ⟨vs, H1, I1, r1, v, d, e, r, h⟩ := z9
  subst e
  obtain ⟨u, w, rfl, ru, rw'⟩ := vals2 r1
  cases rw'
  exact isa_run I1 ht r ru h
end
end DL

namespace DL
open PySem PySem.Spec L2
open PyProof.Rows hiding St
variable [Tabs]

section
variable {K : PySem.W.Frag}
theorem Kp.lst (k : Kp H O H' O') {a : Addr} {xs : List V} (n : ¬ O a) (h : SqL K H a xs) (hK : ∀ o, K.lookup a = some o → ¬ O' a) : ¬ O' a ∧ SqL K H' a xs := by
  rcases h with (h | ⟨o, h⟩) | h
  · exact ⟨(k _ _ h n).2, .inl (.inl (k _ _ h n).1)⟩
  · exact ⟨(k _ _ h n).2, .inl (.inr ⟨o, (k _ _ h n).1⟩)⟩
  · obtain ⟨o, its, m, h1, h2⟩ := h
    exact ⟨hK o h1, .inr ⟨o, its, m, h1, h2⟩⟩
theorem Kp.tup (k : Kp H O H' O') (hO : ∀ a, O a → ∃ o, H a = some o ∧ Mt o) {a : Addr} {xs : List V} (h : SqT K H a xs) : SqT K H' a xs := by
  rcases h with (h | ⟨o, h⟩) | h
  · exact .inl (.inl (k _ _ h fun z => by obtain ⟨o, q, m⟩ := hO a z; rw [h] at q; cases q; exact m).1)
  · exact .inl (.inr ⟨o, (k _ _ h fun z => by obtain ⟨o, q, m⟩ := hO a z; rw [h] at q; cases q; exact m).1⟩)
  · exact .inr h
end
def OffK (K : PySem.W.Frag) (O : Addr → Prop) : Prop := ∀ a o, K.lookup a = some o → ¬ O a
theorem Kp.reps {K : PySem.W.Frag} {H H' : Hp} {O O' : Addr → Prop} (k : Kp H O H' O') (hO : ∀ a, O a → ∃ o, H a = some o ∧ Mt o) (hK : OffK K O') {v : List V} {d : List D} (r : Reps K H O v d) : Reps K H' O' v d :=
  r.mono (fun _ _ h => k.tup hO h) (fun a _ n h => k.lst n h fun o q => hK a o q) fun a _ n h => ⟨(k a _ h n).2, (k a _ h n).1⟩

inductive Out where
  | nx (ρ : Ev) | rt (d : D) | bk (ρ : Ev) | ct (ρ : Ev)
def RS (X : Cx) (H₀ : Hp) (O₀ : Addr → Prop) (H : Hp) (O : Addr → Prop) (r : R Out) (D : Ends) : Prop := match r with
  | .ok (.nx ρ) => ∀ σ' H' O', EnvOk X.K H₀ O₀ H' O' σ' ρ → OffK X.K O' → Kp H O H' O' → D.nx σ' H'
  | .ok (.bk ρ) => ∀ σ' H' O', EnvOk X.K H₀ O₀ H' O' σ' ρ → OffK X.K O' → Kp H O H' O' → D.bk σ' H'
  | .ok (.ct ρ) => ∀ σ' H' O', EnvOk X.K H₀ O₀ H' O' σ' ρ → OffK X.K O' → Kp H O H' O' → D.ct σ' H'
  | .ok (.rt d) => ∀ v H', Same H₀ H' → Rep X.K H' O₀ v d → D.rt v H'
  | .ex e => ∀ H', Same H₀ H' → XW X e H'
  | .bad => False
def tS (X : Cx) (H₀ : Hp) (O₀ : Addr → Prop) (F : Ev → R Out) : TS := fun D σ H => ∃ O ρ, EnvOk X.K H₀ O₀ H O σ ρ ∧ OffK X.K O ∧ RS X H₀ O₀ H O (F ρ) D
def PSD (X : Cx) (st : Stmt) (F : Ev → R Out) : Prop := ∀ H₀ O₀, PS X st (tS X H₀ O₀ F)
def PSsD (X : Cx) (st : List Stmt) (F : Ev → R Out) : Prop := ∀ H₀ O₀, PSs X st (tS X H₀ O₀ F)
theorem ps_imp {X : Cx} {st : Stmt} {t t' : TS} (h : PS X st t) (i : ∀ D σ H, t' D σ H → t D σ H) : PS X st t' := fun pins s σ H D I q => h pins s σ H D I (i D σ H q)
theorem pss_imp {X : Cx} {st : List Stmt} {t t' : TS} (h : PSs X st t) (i : ∀ D σ H, t' D σ H → t D σ H) : PSs X st t' := fun pins s σ H D I q => h pins s σ H D I (i D σ H q)
theorem psI {X : Cx} {st : Stmt} {t : TS} {F : Ev → R Out} {H₀ : Hp} {O₀ : Addr → Prop} (h : PS X st t) (i : ∀ D σ H O ρ, EnvOk X.K H₀ O₀ H O σ ρ → OffK X.K O → RS X H₀ O₀ H O (F ρ) D → t D σ H) : PS X st (tS X H₀ O₀ F) := ps_imp h fun D σ H ⟨O, ρ, E, f, q⟩ => i D σ H O ρ E f q
theorem pssI {X : Cx} {st : List Stmt} {t : TS} {F : Ev → R Out} {H₀ : Hp} {O₀ : Addr → Prop} (h : PSs X st t) (i : ∀ D σ H O ρ, EnvOk X.K H₀ O₀ H O σ ρ → OffK X.K O → RS X H₀ O₀ H O (F ρ) D → t D σ H) : PSs X st (tS X H₀ O₀ F) := pss_imp h fun D σ H ⟨O, ρ, E, f, q⟩ => i D σ H O ρ E f q
theorem RS.grow {X : Cx} {H₀ : Hp} {O₀ : Addr → Prop} {H H1 : Hp} {O O1 : Addr → Prop} {r : R Out} {D : Ends} (h : RS X H₀ O₀ H O r D) (k : Kp H O H1 O1) : RS X H₀ O₀ H1 O1 r D := by
  cases r with
  | ok o =>
    cases o with
    | nx ρ => exact fun σ' H' O' E f q => h σ' H' O' E f (k.trans q)
    | bk ρ => exact fun σ' H' O' E f q => h σ' H' O' E f (k.trans q)
    | ct ρ => exact fun σ' H' O' E f q => h σ' H' O' E f (k.trans q)
    | rt d => exact h
  | ex e => exact h
  | bad => exact h
def thenR (r : R Out) (F : Ev → R Out) : R Out := match r with
  | .ok (.nx ρ) => F ρ
  | r => r
section
variable {st : Stmt} {rest : List Stmt}
theorem RS.seq {H₀ : Hp} {O₀ : Addr → Prop} {H : Hp} {O : Addr → Prop} {r : R Out} {D : Ends} (h : RS X H₀ O₀ H O (thenR r G) D) : RS X H₀ O₀ H O r { D with nx := tS X H₀ O₀ G D } := by
  cases r with
  | ok o =>
    cases o with
    | nx ρ => exact fun σ' H' O' E f k => ⟨O', ρ, E, f, (h).grow k⟩
    | bk ρ => exact h
    | ct ρ => exact h
    | rt d => exact h
  | ex e => exact h
  | bad => exact h
theorem pssd_nil : PSsD X [] (fun ρ => .ok (.nx ρ)) := fun H₀ O₀ => pssI pss_nil fun D σ H O ρ E f q => q σ H O E f (Kp.refl _ _)
theorem pssd_cons (h1 : PSD X st F) (h2 : PSsD X rest G) : PSsD X (st :: rest) (fun ρ => thenR (F ρ) G) := fun H₀ O₀ => pssI (pss_cons (h1 H₀ O₀) (h2 H₀ O₀)) fun D σ H O ρ E f q => ⟨O, ρ, E, f, RS.seq q⟩
theorem pssd_one (h1 : PSD X st F) : PSsD X [st] F := fun H₀ O₀ => pss_one (h1 H₀ O₀)
theorem psd_ret {e : Expr} {f : Ev → R D} (he : PD X e f) : PSD X (.Return (some e) pos) (fun ρ => (f ρ).bind fun d => .ok (.rt d)) := fun H₀ O₀ => psI (ps_ret he) fun D σ H O ρ E fk q => ⟨H₀, O₀, O, ρ, E, by
  cases e1 : f ρ with
  | ok d => rw [e1] at q; exact fun v H' s r => q v H' (E.same.trans s) (r.sub E.sub)
  | ex x => rw [e1] at q; exact fun H' s => q H' (E.same.trans s)
  | bad => rw [e1] at q; exact q⟩
theorem psd_set (i : Nat) {x : Str} {e : Expr} {f : Ev → R D} {pos' : Pos} (he : PD X e f) (hN : X.N.Nodup) (hi : X.N[i]? = some x := by rfl) (hx : Loc X.env.scope x := by first | exact Or.inl rfl | exact Or.inr rfl)
    (hs : swapsWith e (some (.Name x pos')) pos.line X.env = pure false := by rfl) (hf : X.fn x = true ∨ X.env.scope.names.lookup x = some .local := by first | exact .inl rfl | exact .inr rfl | assumption) :
    PSD X (.Assign [.Name x pos'] e pos) (fun ρ => (f ρ).bind fun d => .ok (.nx (ρ.set i (.v d)))) := fun H₀ O₀ => psI (ps_set hN hi hx he hs hf) fun D σ H O ρ E fk q => ⟨H₀, O₀, O, ρ, E, by
  cases e1 : f ρ with
  | ok d => rw [e1] at q; exact fun v H' s r => q _ H' O ((E.grow s).set i r) fk (Kp.of s)
  | ex x => rw [e1] at q; exact fun H' s => q H' (E.same.trans s)
  | bad => rw [e1] at q; exact q⟩
theorem psd_if {c : Expr} {a b : List Stmt} {fc : Ev → R Bool} (hc : PTD X c fc) (ha : PSsD X a F) (hb : PSsD X b G) : PSD X (.If c a b pos) (fun ρ => (fc ρ).bind fun t => if t = true then F ρ else G ρ) := fun H₀ O₀ => psI (ps_if hc (ha H₀ O₀) (hb H₀ O₀)) fun D σ H O ρ E fk q => ⟨H₀, O₀, O, ρ, E, by
  cases e1 : fc ρ with
  | ok t =>
    rw [e1] at q
    intro H' s
    cases t with
    | true => rw [if_pos rfl]; exact ⟨O, ρ, E.grow s, fk, RS.grow q (Kp.of s)⟩
    | false => rw [if_neg Bool.false_ne_true]; exact ⟨O, ρ, E.grow s, fk, RS.grow q (Kp.of s)⟩
  | ex x => rw [e1] at q; exact fun H' s => q H' (E.same.trans s)
  | bad => rw [e1] at q; exact q⟩

def ItD (K : PySem.W.Frag) (J : It) (H : Hp) (O : Addr → Prop) (ds : List D) : Prop := ∀ H2 O2, Kp H O H2 O2 → OffK K O2 → (∀ a, O a → ∃ o, H a = some o ∧ Mt o) → (∀ a, O2 a → ∃ o, H2 a = some o ∧ Mt o) → ∀ i : Nat,
  (∀ d, ds[i]? = some d → J.go i H2 ∧ ∀ x H', J.yld i H2 x H' → Same H2 H' ∧ Rep K H' O2 x d) ∧ (ds[i]? = none → J.stop i H2)
def tI (X : Cx) (f : Ev → R (List D)) : TI := fun σ H R => ∃ H₀ O₀ O ρ, EnvOk X.K H₀ O₀ H O σ ρ ∧ OffK X.K O ∧ match f ρ with
  | .ok ds => ∀ J H', Same H H' → ItD X.K J H' O ds → R J H'
  | .ex e => ∀ H', Same H H' → XW X e H'
  | .bad => False
def PID (X : Cx) (tg iter : Expr) (f : Ev → R (List D)) : Prop := PI X tg iter (tI X f)
theorem pi_imp (h : PI X tg iter t) (i : ∀ σ H R, t' σ H R → t σ H R) : PI X tg iter t' := fun pins s σ H R I q => h pins s σ H R I (i σ H R q)
def lstOnly : D → R (List D)
  | .lst xs => .ok xs
  | _ => .bad
def tupOnly : D → R (List D)
  | .tup xs => .ok xs
  | _ => .bad

theorem pid_list (h : PD X iter f) : PID X tg iter (fun ρ => (f ρ).bind lstOnly) := pi_imp (pi_list h) fun σ H R z => by
  obtain ⟨H₀, O₀, O, ρ, E, fk, q⟩ := z
  refine ⟨H₀, O₀, O, ρ, E, ?_⟩
  dsimp only at q
  cases e : f ρ with
  | ok d =>
    rw [e] at q
    cases d with
    | lst xs =>
      intro v H' s r
      cases r with
      | lst h n r =>
        rename_i a vs
        refine ⟨a, rfl, ⟨vs, h⟩, q (Itl X.K a) H' s ?_⟩
        intro H2 O2 k hK hO hO2 i
        obtain ⟨n2, h2⟩ := k.lst n h fun o q => hK a o q
        have r2 := k.reps hO hK r
        refine ⟨fun d e => ?_, fun e => ⟨vs, h2, by rw [r.length]; exact List.getElem?_eq_none_iff.mp e⟩⟩
        obtain ⟨v, h3, h4⟩ := r2.get e
        exact ⟨⟨vs, v, h2, h3⟩, by
          rintro x H3 ⟨e1, e2⟩
          subst e1
          have := e2 vs h2
          rw [h3] at this
          cases this
          exact ⟨Same.refl _, h4⟩⟩
    | _ => exact (q).elim
  | ex x => rw [e] at q; exact q
  | bad => rw [e] at q; exact q
theorem pid_tup (h : PD X iter f) : PID X tg iter (fun ρ => (f ρ).bind tupOnly) := pi_imp (pi_tup h) fun σ H R z => by
  obtain ⟨H₀, O₀, O, ρ, E, fk, q⟩ := z
  refine ⟨H₀, O₀, O, ρ, E, ?_⟩
  dsimp only at q
  cases e : f ρ with
  | ok d =>
    rw [e] at q
    cases d with
    | tup xs =>
      intro v H' s r
      cases r with
      | tup h r =>
        rename_i a vs
        refine ⟨a, rfl, ⟨vs, h⟩, q (Itt X.K a) H' s ?_⟩
        intro H2 O2 k hK hO hO2 i
        have h2 := k.tup hO h
        have r2 := k.reps hO hK r
        refine ⟨fun d e => ?_, fun e => ⟨vs, h2, by rw [r.length]; exact List.getElem?_eq_none_iff.mp e⟩⟩
        obtain ⟨v, h3, h4⟩ := r2.get e
        exact ⟨⟨vs, v, h2, h3⟩, by
          rintro x H3 ⟨e1, e2⟩
          subst e1
          have := e2 vs h2
          rw [h3] at this
          cases this
          exact ⟨Same.refl _, h4⟩⟩
    | _ => exact (q).elim
  | ex x => rw [e] at q; exact q
  | bad => rw [e] at q; exact q
def ItrS (lo c : Int) (n : Nat) : It := ⟨fun i _ => i < n, fun i H x H' => H' = H ∧ x = .int (lo + i * c), fun i _ => n ≤ i⟩
theorem turn_rangeS {P : Program} {w : World} {K : PySem.W.Frag} {tg : Expr} (it : Addr) (lo c : Int) (n : Nat) : Turn P w K tg (ItrS lo c n) [it] it (fun i h => IsRangeIter h it (lo + (i : Nat) * c) ((n : Int) - (i : Nat)) c) where
  mem := by simp
  obj := fun i h st b hb => by
    simp_all
  keep := fun i h h' st k => k it (by simp) _ st
  item := by
    intro X hP hw hK hc i pins s σ H E I hf st hg
    obtain ⟨f0, f1, f2, f3, f4, f5⟩ := hf it (by simp)
    refine (Walks.range (I.ok.hd hc) it lo c n).item i s _ _ hg st fun v h' tk hv st' kk => ?_
    obtain ⟨t, rfl⟩ := hv
    have I1 : Inv X pins σ H { s with heap := h', toks := tk } := I.turned (fun b o hb e => kk b o (by simp_all) e) f0 f1 f3 f4 f5
    exact ⟨_, rfl, go_of st' rfl rfl (by decide) ⟨.int (lo + i * c), H, I1, ⟨t, rfl⟩, ⟨rfl, rfl⟩, st', fun b hb => (hf b hb).1⟩⟩
  done := by
    intro X hP hw hK hc i pins s σ H E I hf st hg
    obtain ⟨f0, f1, f2, f3, f4, f5⟩ := hf it (by simp)
    exact wpAny_pyNext_range_end (I.ok.hd hc) st (by have : n ≤ i := hg; lia) fun h' eb => ⟨rfl, I.turned (t' := s.toks) (fun b o hb e => eb b o hb e) f0 f1 f3 f4 f5⟩
  self := fun _ _ _ _ _ st h => wpAny_pyIter_rangeiter st h
def rngD (lo c : Int) (n : Nat) : List D := (List.range n).map fun (k : Nat) => D.int (lo + (k : Int) * c)
theorem itd_range (K : PySem.W.Frag) (H : Hp) (O : Addr → Prop) (lo c : Int) (n : Nat) : ItD K (ItrS lo c n) H O (rngD lo c n) := by
  intro H2 O2 k hK hO hO2 i
  unfold rngD
  rw [List.getElem?_map]
  by_cases hi : i < n
  · rw [List.getElem?_range hi]
    refine ⟨fun d e => ?_, fun e => (by cases e)⟩
    cases e
    exact ⟨hi, by rintro x H' ⟨e1, e2⟩; subst e1 e2; exact ⟨Same.refl _, .int⟩⟩
  · rw [List.getElem?_eq_none_iff.mpr (by simpa using hi)]
    exact ⟨fun d e => (by cases e), fun _ => Nat.le_of_not_lt hi⟩

def rngN (a b c : Int) : Nat := if a < b then ((b - a - 1) / c + 1).toNat else 0
theorem rngN_size (hc : 0 < c) : Builtin.Range.rangeSize a b c = (rngN a b c : Int) := by
  unfold Builtin.Range.rangeSize rngN
  rw [if_pos (by lia)]
  split
  · have : 0 ≤ (b - a - 1) / c := Int.ediv_nonneg (by lia) (by lia)
    lia
  · rfl
theorem small_pos (hc : 0 < c) (hc2 : c < 2 ^ 30) (ha : -(2 ^ 60) ≤ a) (ha' : a < 2 ^ 60) (hb : -(2 ^ 60) ≤ b) (hb' : b < 2 ^ 60) : Builtin.Range.small a b c = true := by
  unfold Builtin.Range.small
  have e : Builtin.Range.rangeSize a b c = if a < b then (b - a - 1) / c + 1 else 0 := by
    unfold Builtin.Range.rangeSize
    simp_all
  rw [e]
  have h1 : a < b → (b - a - 1) / c ≤ b - a - 1 := fun h => Int.ediv_le_self _ (by lia)
  have h2 : a < b → 0 ≤ (b - a - 1) / c := fun h => Int.ediv_nonneg (by lia) (by lia)
  simp only [Builtin.Range.rangeFitsLong, Bool.and_eq_true, Bool.or_eq_true, decide_eq_true_eq, beq_iff_eq, show c > 0 by omega, if_true]
  omega
def rngOk (a b c : Int) : Prop := 0 < c ∧ c < 2 ^ 30 ∧ -(2 ^ 60) ≤ a ∧ a < 2 ^ 60 ∧ -(2 ^ 60) ≤ b ∧ b < 2 ^ 60
instance (a b c : Int) : Decidable (rngOk a b c) := inferInstanceAs (Decidable (_ ∧ _))
def rngR : List D → R (List D)
  | [.int b] => if rngOk 0 b 1 then .ok (rngD 0 1 (rngN 0 b 1)) else .bad
  | [.int a, .int b] => if rngOk a b 1 then .ok (rngD a 1 (rngN a b 1)) else .bad
  | [.int a, .int b, .int c] => if rngOk a b c then .ok (rngD a c (rngN a b c)) else .bad
  | _ => .bad
theorem rng_no (h : rngR ds = .ex x) : False := by
  unfold rngR at h
  split at h <;> first | cases h | split at h <;> cases h
theorem rng_in (h : rngR ds = .ok d) : (∃ b, ds = [.int b]) ∨ (∃ a b, ds = [.int a, .int b]) ∨ ∃ a b c, ds = [.int a, .int b, .int c] := by
  unfold rngR at h
  split at h
  · exact .inl ⟨_, rfl⟩
  · exact .inr (.inl ⟨_, _, rfl⟩)
  · exact .inr (.inr ⟨_, _, _, rfl⟩)
  · cases h
theorem range_itS {R : It → Hp → Prop} {E : Value → Shared → Prop} (I : Inv X pins σ H s) (h : rngOk a b c) (q : R (ItrS a c (rngN a b c)) H) : wpAny (model X.prog X.w) X.A (pyIter (.ref s.heap.objs.size)) (PIE X pins σ tg R) E { s with heap := s.heap.push { cls := .type "range", data := .fields #[.int a t, .int b u, .int c v] }, toks := tk } := by
  obtain ⟨h1, h2, h3, h4, h5, h6⟩ := h
  refine wpAny_pyIter_range (IsRange.new ..) (small_pos h1 h2 h3 h4 h5 h6) ?_
  have I1 : Inv X pins σ H { s with heap := s.heap.push { cls := .type "range", data := .fields #[.int a t, .int b u, .int c v] }, toks := tk } := I.kept fun b o e => Heap.get?_push_of_some _ e
  refine ⟨(s.heap.push { cls := .type "range", data := .fields #[.int a t, .int b u, .int c v] }).objs.size, [(s.heap.push { cls := .type "range", data := .fields #[.int a t, .int b u, .int c v] }).objs.size], _, _, H, rfl,
    I1.kept (t' := tk) fun b o e => Heap.get?_push_of_some _ e, turn_rangeS _ a c (rngN a b c), ?_, fun bb hb => ?_, q⟩
  · have e1 : a + ((0 : Nat) : Int) * c = a := by simp
    have e2 : ((rngN a b c : Nat) : Int) - ((0 : Nat) : Int) = Builtin.Range.rangeSize a b c := by rw [rngN_size h1]; simp
    rw [e1, e2]
    exact Heap.get?_push_size _ rfl
  · have e : bb = (s.heap.push { cls := .type "range", data := .fields #[.int a t, .int b u, .int c v] }).objs.size := by simpa using hb
    subst e
    exact I1.fpOk (Nat.le_refl _) (I1.hok.fresh (Nat.le_refl _))
theorem call_rng {R : It → Hp → Prop} {O : Addr → Prop} (I : Inv X pins σ H s) (r : Paired (RepB X.K H O) vs ds) (ru : Vals vs us) (h : rngR ds = .ok ds') (q : ∀ J, ItD X.K J H O ds' → R J H) : wpAny (model X.prog X.w) X.A (call (.type "range") us) (fun v s1 => wpAny (model X.prog X.w) X.A (pyIter v) (PIE X pins σ tg R) X.xe s1) X.xe s := by
  rcases rng_in h with ⟨b, rfl⟩ | ⟨a, b, rfl⟩ | ⟨a, b, c, rfl⟩
  · obtain ⟨v, rfl, z⟩ := pr1 r
    cases z.intI
    obtain ⟨u, rfl, t, rfl⟩ := vals1 ru
    simp only [rngR] at h
    split at h
    · rename_i hk
      cases h
      exact call_range_1 (range_itS I hk (q _ (itd_range _ _ _ _ _ _)))
    · cases h
  · obtain ⟨v, v', rfl, z, z'⟩ := pr2 r
    cases z.intI; cases z'.intI
    obtain ⟨u, u', rfl, ⟨t, rfl⟩, ⟨t', rfl⟩⟩ := vals2 ru
    simp only [rngR] at h
    split at h
    · rename_i hk
      cases h
      exact call_range_2 (range_itS I hk (q _ (itd_range _ _ _ _ _ _)))
    · cases h
  · cases r with
    | cons z1 r =>
      obtain ⟨v, v', rfl, z, z'⟩ := pr2 r
      cases z1.intI; cases z.intI; cases z'.intI
      cases ru with
      | cons w1 ru =>
        obtain ⟨u, u', rfl, ⟨t, rfl⟩, ⟨t', rfl⟩⟩ := vals2 ru
        obtain ⟨t1, rfl⟩ := w1
        simp only [rngR] at h
        split at h
        · rename_i hk
          cases h
          have hk' := hk
          obtain ⟨h1, h2, _⟩ := hk'
          exact call_range_3 (by lia) (range_itS I hk (q _ (itd_range _ _ _ _ _ _))) (.inl (PyProof.noPylong_small (by lia)))
        · cases h
theorem pid_range {tg e : Expr} {es : List Expr} {p : Pos} {f : Ev → R (List D)} (ha : PAB X (e :: es) f) (hg : Gl X "range" := by rfl) (hm : X.mg "range" = none := by assumption)
    (he : starEach (e :: es) X.env = (false, eval e X.env) :: starEach es X.env := by rfl) (hpl : (backTo pos (starEach es X.env)).any (·.1) = false := by rfl) :
    PID X tg (.Call (.Name "range" p) (e :: es) [] pos) (fun ρ => (f ρ).bind rngR) := by
  rintro pins s σ H Q I ⟨H₀, O₀, O, ρ, E, fk, q⟩
  dsimp only at q
  refine Call_ (ld_blt I hg hm boot_range (PyProof.Rows.callWith_type1 (thn (ha pos pins s σ H (fun vs H1 => ∃ ds ds', Same H H1 ∧ Paired (RepB X.K H1 O) vs ds ∧ rngR ds = .ok ds' ∧ ∀ J, ItD X.K J H1 O ds' → Q J H1) I ⟨H₀, O₀, O, ρ, E, ?_⟩) fun us s1 z9 => ?_) he hpl))
  · cases e1 : f ρ with
    | ok ds =>
      rw [e1] at q
      intro vs H1 s1 r1
      rw [R.bind_ok] at q
      cases e2 : rngR ds with
      | ok ds' => rw [e2] at q; exact ⟨ds, ds', s1, r1, e2, fun J hJ => q J H1 s1 hJ⟩
      | ex x =>
        rw [e2] at q
        exact (rng_no e2).elim
      | bad => rw [e2] at q; exact q.elim
    | ex x => rw [e1] at q; exact q
    | bad => rw [e1] at q; exact q
  · obtain ⟨vs, H1, I1, r1, ds, ds', sm, r, h1, h2⟩ := z9
    exact call_rng I1 r r1 h1 h2

def tG (X : Cx) (G : D → Ev → R Ev) : TG := fun v σ H Q => ∃ H₀ O₀ O ρ d ρ', EnvOk X.K H₀ O₀ H O σ ρ ∧ Rep X.K H O v d ∧ G d ρ = .ok ρ' ∧ ∀ σ' H', Same H H' → EnvOk X.K H₀ O₀ H' O σ' ρ' → Q σ' H'
def PGD (X : Cx) (tg : Expr) (G : D → Ev → R Ev) : Prop := PG X tg (tG X G)
theorem pg_imp (h : PG X tg t) (i : ∀ v σ H Q, t' v σ H Q → t v σ H Q) : PG X tg t' := fun pins s σ H v u Q I r q => h pins s σ H v u Q I r (i v σ H Q q)
theorem pgd_name (i : Nat) (hN : X.N.Nodup) (hi : X.N[i]? = some x := by rfl) (hx : Loc X.env.scope x := by first | exact Or.inl rfl | exact Or.inr rfl) (hf : X.fn x = true ∨ X.env.scope.names.lookup x = some .local := by first | exact .inl rfl | exact .inr rfl | assumption) :
    PGD X (.Name x pos) (fun d ρ => .ok (ρ.set i (.v d))) := pg_imp (pg_name hN hi hx hf) <| by
  rintro v σ H Q ⟨H₀, O₀, O, ρ, d, ρ', E, r, e, q⟩
  cases e
  exact q _ H (Same.refl _) (E.set i r)
def tGs (X : Cx) (G : List D → Ev → R Ev) : TGs := fun vs σ H Q => ∃ H₀ O₀ O ρ ds ρ', EnvOk X.K H₀ O₀ H O σ ρ ∧ Reps X.K H O vs ds ∧ G ds ρ = .ok ρ' ∧ ∀ σ' H', Same H H' → EnvOk X.K H₀ O₀ H' O σ' ρ' → Q σ' H'
def PGsD (X : Cx) (tgs : List Expr) (G : List D → Ev → R Ev) : Prop := PGs X tgs (tGs X G)
theorem pgs_imp {tg : List Expr} {t t' : TGs} (h : PGs X tg t) (i : ∀ v σ H Q, t' v σ H Q → t v σ H Q) : PGs X tg t' := fun pins s σ H v u Q I r q => h pins s σ H v u Q I r (i v σ H Q q)
def gNilR : List D → Ev → R Ev
  | [], ρ => .ok ρ
  | _, _ => .bad
def gConsR (G : D → Ev → R Ev) (Gs : List D → Ev → R Ev) : List D → Ev → R Ev
  | d :: ds, ρ => (G d ρ).bind fun ρ' => Gs ds ρ'
  | _, _ => .bad
theorem pgsd_nil : PGsD X [] gNilR := pgs_imp pgs_nil <| by
  rintro vs σ H Q ⟨H₀, O₀, O, ρ, ds, ρ', E, r, e, q⟩
  cases r with
  | nil => cases e; exact ⟨rfl, q σ H (Same.refl _) E⟩
  | cons _ _ => cases e
theorem pgsd_cons {e : Expr} {es : List Expr} {G : D → Ev → R Ev} {Gs : List D → Ev → R Ev} (h1 : PGD X e G) (h2 : PGsD X es Gs)
    (hs : (assignEach (e :: es) X.env).map (·.2) = assign e X.env :: (assignEach es X.env).map (·.2) := by rfl) : PGsD X (e :: es) (gConsR G Gs) := pgs_imp (pgs_cons h1 h2 hs) <| by
  rintro vs σ H Q ⟨H₀, O₀, O, ρ, ds, ρ', E, r, e, q⟩
  cases r with
  | nil => cases e
  | @cons v d vs ds r rr =>
    simp only [gConsR] at e
    cases e1 : G d ρ with
    | ok ρ1 =>
      rw [e1] at e
      exact ⟨v, vs, rfl, H₀, O₀, O, ρ, d, ρ1, E, r, e1, fun σ1 H1 s1 E1 => ⟨H₀, O₀, O, ρ1, ds, ρ', E1, rr.same s1, e, fun σ2 H2 s2 E2 => q σ2 H2 (s1.trans s2) E2⟩⟩
    | ex x => simp_all
    | bad => simp_all
def gTupR (n : Nat) (Gs : List D → Ev → R Ev) : D → Ev → R Ev
  | .tup ds, ρ => if ds.length = n then Gs ds ρ else .bad
  | .lst ds, ρ => if ds.length = n then Gs ds ρ else .bad
  | _, _ => .bad
end
end DL

namespace DL
open PySem PySem.Spec L2
open PyProof.Rows hiding St
variable [Tabs]

section

theorem draw_list (hne : t ≠ it) : ∀ (n i : Nat) (s : Shared) (Q : List Value → Shared → Prop), s.heap.IsListIter it t i → s.heap.IsList t items → i + n ≤ items.size →
    (∀ h', h'.IsListIter it t (i + n) → Heap.SameBut it s.heap h' → Q ((items.toList.drop i).take n) { s with heap := h' }) → wpAny (model prog w) A (draw (.ref it) n) Q E s
  | 0, i, s, Q, hit, _, _, hQ => by
    exact wpAny_pure (by simpa using hQ s.heap hit (Heap.SameBut.refl ..))
  | n + 1, i, s, Q, hit, ht, hle, hQ => by
    have hlt : i < items.size := by omega
    refine wpAny_bind (wpAny_pyNext_list_item hit ht (x := items[i]) (by simp) fun h₁ hit₁ hs₁ => (wpAny_bind (wpAny_holding (draw_list hne n (i + 1) _ _ hit₁ (ht.extBut hs₁.extBut hne) (by omega) fun h₂ hit₂ hs₂ => wpAny_pure ?_))))
    have hd : items.toList.drop i = items[i] :: items.toList.drop (i + 1) := by simp [List.drop_eq_getElem_cons, hlt]
    have := hQ h₂ (by grind) (hs₁.trans hs₂)
    grind
theorem unpackItems_list {Q : List Value → Shared → Prop} (hh : A.handled = none) (ht : s.heap.IsList t items) (hQ : ∀ h', Heap.ExtBut s.heap.objs.size s.heap h' → Q items.toList { s with heap := h' }) : wpAny (model prog w) A (unpackItems (.ref t) items.size none) Q E s := by
  have hlt : t ≠ s.heap.objs.size := by obtain ⟨o, ho, _⟩ := ht; exact Nat.ne_of_lt (Heap.lt_size ho)
  refine wpAny_bind ?_
  · unfold notIterableAtAll
    refine wpAny_bind (wpAny_specialOf ht.typeIs slot_list_iter.lookup (wpAny_pure ?_))
    refine wpAny_bind (wpAny_holding (wpAny_pyIter_list ht ?_))
    have ht0 : (s.heap.push { cls := .type "list_iterator", data := .fields #[.ref t, .int 0 0] }).IsList t items := by
      obtain ⟨o, ho, r⟩ := ht
      exact ⟨o, Heap.get?_push_of_some _ ho, r⟩
    refine wpAny_bind (wpAny_holding (draw_list hlt items.size 0 _ _ ⟨_, Heap.get?_push_size _ rfl, rfl, rfl⟩ ht0 (by simp) fun h₁ hit₁ hs₁ => ?_))
    have hall : List.take items.size (List.drop 0 items.toList) = items.toList := by
      exact List.take_of_length_le (by simp)
    rw [hall, if_neg (by simp)]
    refine wpAny_bind (wpAny_holding (wpAny_pyNext_list_end hh hit₁ (ht0.extBut hs₁.extBut hlt) (by simp) fun h₂ he₂ => ?_))
    refine wpAny_pure (hQ h₂ fun b o hb e => he₂ b o hb (hs₁.extBut b o hb (Heap.get?_push_of_some _ e)))
theorem assign_Tuple_list {x1} {Q : Unit → Shared → Prop} (hh : A.handled = none) (ht : s.heap.IsList t items) (hn : (assignEach elts env).length = items.size) (hstar : (assignEach elts env).findIdx? (·.1) = none) (h : ∀ h', Heap.ExtBut s.heap.objs.size s.heap h' → wpAny (model prog w) A (assignInOrder ((assignEach elts env).map (·.2)) items.toList) Q E { s with heap := h' }) :
    wpAny (model prog w) A (assign (.Tuple elts x1 pos) env (.ref t)) Q E s := by
  refine wpAny_bind (wpAny_standAt ?_)
  unfold unpack
  rw [hn, hstar]
  exact wpAny_bind (wpAny_holding (unpackItems_list hh ht h))
end

section

theorem pgd_tup (hc : X.calm = true) (h : PGsD X es Gs) (hn : (assignEach es X.env).length = n := by rfl) (hst : (assignEach es X.env).findIdx? (·.1) = none := by rfl) : PGD X (.Tuple es k pos) (gTupR n Gs) := by
  rintro pins s σ H v u Q I r ⟨H₀, O₀, O, ρ, d, ρ', E, rd, e, q⟩
  cases rd with
  | @tup a vs ds hq rs =>
    cases r
    simp only [gTupR] at e
    split at e
    · rename_i hl
      obtain ⟨its, rv, ht, hz⟩ := I.tuple hq
      refine assign_Tuple_tuple (I.ok.hd hc) ht (by simp [hn, ← hl, ← rs.length, rv.length]) hst fun h' hx => ?_
      have I1 : Inv X pins σ H { s with heap := h' } := I.kept (t' := s.toks) fun b o e => hx b o (Nat.ne_of_lt (Heap.lt_size e)) e
      exact h pins _ σ H vs _ Q I1 (by simpa using rv) ⟨H₀, O₀, O, ρ, ds, ρ', E, rs, e, q⟩
    · cases e
  | @lst a vs ds hq _ rs =>
    cases r
    simp only [gTupR] at e
    split at e
    · rename_i hl
      obtain ⟨its, rv, ht, hz⟩ := I.list hq
      refine assign_Tuple_list (I.ok.hd hc) ht.isList (by simp [hn, ← hl, ← rs.length, rv.length]) hst fun h' hx => ?_
      have I1 : Inv X pins σ H { s with heap := h' } := I.kept (t' := s.toks) fun b o e => hx b o (Nat.ne_of_lt (Heap.lt_size e)) e
      exact h pins _ σ H vs _ Q I1 (by simpa using rv) ⟨H₀, O₀, O, ρ, ds, ρ', E, rs, e, q⟩
    · cases e
  | _ => cases e
def asgR (f : Ev → R D) (G : D → Ev → R Ev) : Ev → R Out := fun ρ => (f ρ).bind fun d => match G d ρ with
  | .ok ρ' => .ok (.nx ρ')
  | _ => .bad
theorem psd_asg (he : PD X e f) (hg : PGD X tg G) (hs : swapsWithSole [tg] e pos.line X.env = pure false := by rfl) (hw : swappedStores [tg] e X.env = pure none := by rfl) (h1 : (assignEach [tg] X.env).map (·.2) = [assign tg X.env] := by rfl) : PSD X (.Assign [tg] e pos) (asgR f G) := fun H₀ O₀ => psI (ps_asg he hg hs hw h1) fun D σ H O ρ E fk q => ⟨H₀, O₀, O, ρ, E, by
  unfold asgR at q
  cases e1 : f ρ with
  | ok d =>
    rw [e1, R.bind_ok] at q
    intro v H' s r
    cases e2 : G d ρ with
    | ok ρ' =>
      rw [e2] at q
      exact ⟨H₀, O₀, O, ρ, d, ρ', E.grow s, r, e2, fun σ' H2 s2 E2 => q σ' H2 O E2 fk (Kp.of (s.trans s2))⟩
    | ex x => rw [e2] at q; exact (q).elim
    | bad => rw [e2] at q; exact (show False from q).elim
  | ex x => rw [e1] at q; exact fun H' s => q H' (E.same.trans s)
  | bad => rw [e1] at q; exact q⟩
def forL (G : D → Ev → R Ev) (F : Ev → R Out) : List D → Ev → R Out
  | [], ρ => .ok (.nx ρ)
  | d :: ds, ρ => match G d ρ with
    | .ok ρ1 => match F ρ1 with
      | .ok (.nx ρ2) => forL G F ds ρ2
      | .ok (.ct ρ2) => forL G F ds ρ2
      | .ok (.bk ρ2) => .ok (.nx ρ2)
      | r => r
    | _ => .bad
theorem psd_for (hp : PassesOwn (model X.prog X.w) X.A X.env X.xe) (hc : X.calm = true) (hi : PID X tg iter f) (hg : PGD X tg G) (hb : PSsD X body F) (hs : ∀ x, foldedSetIterable iter X.env x = pure x := by intro _; rfl) : PSD X (.For tg iter body [] pos) (fun ρ => (f ρ).bind fun ds => forL G F ds ρ) := fun H₀ O₀ => psI (ps_for hp hc hi hg (hb H₀ O₀) hs) fun D σ H O ρ E fk q => ⟨H₀, O₀, O, ρ, E, fk, by
  cases e1 : f ρ with
  | ex x => rw [e1] at q; exact fun H' s => q H' (E.same.trans s)
  | bad => rw [e1] at q; exact q
  | ok ds =>
    rw [e1, R.bind_ok] at q
    intro J H1 s1 hJ
    refine ⟨fun i m σ' H' => m = ds.length - i ∧ i ≤ ds.length ∧ ∃ O' ρ', EnvOk X.K H₀ O₀ H' O' σ' ρ' ∧ OffK X.K O' ∧ Kp H1 O H' O' ∧ RS X H₀ O₀ H' O' (forL G F (ds.drop i) ρ') D, ⟨ds.length, by simp, Nat.zero_le _, O, ρ, E.grow s1, fk, Kp.refl _ _, ?_⟩, ?_⟩
    · exact q.grow (Kp.of s1)
    · rintro i m σ' H' ⟨rfl, hi, O', ρ', E', fk', k', q'⟩
      have hit := hJ H' O' k' fk' (E.grow s1).trk E'.trk i
      by_cases hlt : i < ds.length
      · obtain ⟨go, yl⟩ := hit.1 ds[i] (List.getElem?_eq_getElem hlt)
        refine .inr ⟨go, fun σ2 H2 => ∃ O2 ρ2, EnvOk X.K H₀ O₀ H2 O2 σ2 ρ2 ∧ OffK X.K O2 ∧ Kp H1 O H2 O2 ∧ RS X H₀ O₀ H2 O2 (forL G F (ds.drop (i + 1)) ρ2) D, fun σ2 H2 p => ⟨ds.length - (i + 1), by omega, rfl, hlt, p⟩, fun x H2 y => ?_⟩
        obtain ⟨s2, r2⟩ := yl x H2 y
        rw [List.drop_eq_getElem_cons hlt, forL] at q'
        cases e2 : G ds[i] ρ' with
        | ex x => rw [e2] at q'; exact (q').elim
        | bad => rw [e2] at q'; exact (q').elim
        | ok ρ1 =>
          rw [e2] at q'
          dsimp only at q'
          refine ⟨H₀, O₀, O', ρ', ds[i], ρ1, E'.grow s2, r2, e2, fun σ3 H3 s3 E3 => ⟨O', ρ1, E3, fk', ?_⟩⟩
          have kk : Kp H' O' H3 O' := Kp.of (s2.trans s3)
          cases e3 : F ρ1 with
          | ex x => rw [e3] at q'; exact q'
          | bad => rw [e3] at q'; exact q'
          | ok o =>
            rw [e3] at q'
            cases o with
            | nx ρ2 => exact fun σ4 H4 O4 E4 f4 k4 => ⟨O4, ρ2, E4, f4, k'.trans (kk.trans k4), RS.grow q' (kk.trans k4)⟩
            | ct ρ2 => exact fun σ4 H4 O4 E4 f4 k4 => ⟨O4, ρ2, E4, f4, k'.trans (kk.trans k4), RS.grow q' (kk.trans k4)⟩
            | bk ρ2 => exact fun σ4 H4 O4 E4 f4 k4 => q' σ4 H4 O4 E4 f4 (kk.trans k4)
            | rt d => exact q'
      · have e : i = ds.length := by omega
        subst e
        rw [List.drop_length, forL] at q'
        exact .inl ⟨hit.2 (by simp), q' σ' H' O' E' fk' (Kp.refl _ _)⟩⟩
end
end DL

namespace DL
open PySem PySem.Spec L2
open PyProof.Rows hiding St
variable [Tabs]

def spD (K : PySem.W.Frag) (n : Nat) (m : List D → R D) : Sp := fun vs H Q _ => ∃ O ds d, Reps K H O vs ds ∧ ds.length = n ∧ (∀ a, O a → ∃ o, H a = some o ∧ Mt o) ∧ Tb H ∧ OffK K O ∧ m ds = .ok d ∧ ∀ v H', Same H H' → Rep K H' O v d → Q v H'
def startD (N : List Str) (ds : List D) : Ev := ds.map Sl.v ++ List.replicate (N.length - ds.length) Sl.no
def retR : R Out → R D
  | .ok (.rt d) => .ok d
  | .ok (.nx _) => .ok .non
  | .ex e => .ex e
  | _ => .bad
theorem env_start {K : PySem.W.Frag} {H : Hp} {O : Addr → Prop} {N : List Str} {vs : List V} {ds : List D} (r : Reps K H O vs ds) (t : ∀ a, O a → ∃ o, H a = some o ∧ Mt o) (tb : Tb H) : EnvOk K H O H O (start N vs) (startD N ds) where
  len := by simp [L2.start, startD, r.length]
  same := Same.refl H
  sub := fun _ h => h
  trk := t
  trk₀ := fun a h => by obtain ⟨o, q, _⟩ := t a h; exact ⟨o, q⟩
  tab := tb
  slot := fun i sl h => by
    unfold startD at h
    unfold L2.start
    by_cases hi : i < ds.length
    · rw [List.getElem?_append_left (by simpa using hi), List.getElem?_map] at h
      cases e : ds[i]? with
      | none => rw [e] at h; cases h
      | some d' =>
        rw [e] at h
        have h' : Sl.v d' = sl := Option.some.inj h
        subst h'
        obtain ⟨v, h1, h2⟩ := r.get e
        exact ⟨v, by rw [List.getElem?_append_left (by rw [List.length_map, r.length]; exact hi), List.getElem?_map, h1]; rfl, h2⟩
    · rw [List.getElem?_append_right (by simpa using hi), List.getElem?_replicate] at h
      split at h
      · cases h; trivial
      · cases h
  inj := fun i j x y a h _ o => by
    unfold startD at h
    by_cases hi : i < ds.length
    · rw [List.getElem?_append_left (by simp_all), List.getElem?_map] at h
      cases e : ds[i]? with
      | none => rw [e] at h; cases h
      | some d' =>
        rw [e] at h
        have h' : Sl.v d' = x := Option.some.inj h
        subst h'
        exact o.elim
    · rw [List.getElem?_append_right (by simp_all), List.getElem?_replicate] at h
      split at h
      · cases h; exact o.elim
      · cases h
section
variable {K : PySem.W.Frag}
abbrev cxN (P : Program) (w : World) (K : PySem.W.Frag) (mg : Str → Option Value) (base : Heap) (N : List Str) (qual : Str) (sc : Scope) (f : Addr) (cdv : Value) (A : Around) (outer : List Env) (s : Shared) (H : Hp) (E : XK) : Cx := (cxOf CX0 P w K mg base N qual sc f cdv A outer s H E).nox
theorem fnD {x qual : Str} {st : Stmt} {f : Addr} {fd : FuncData} {N ps : List Str} {k : Nat} {m : List D → R D} {F : Ev → R Out} (F0 : Fun K x qual st f fd) (S : FnScope N ps (defScope st))
    (hb : ∀ (cdv : Value) (A : Around) (outer : List Env) (s : Shared) (H : Hp) (E : XK), Room k (A.deeper (envOfC qual (defScope st) s.heap.objs.size f cdv)) → PSsD (cxN P w K mg base N qual (defScope st) f cdv A outer s H E) (defBody st) F)
    (hm : ∀ ds d, ds.length = ps.length → m ds = .ok d → retR (F (startD N ds)) = .ok d) : FnOk P w K mg base CX0 (k + 1) f fd ps (spD K ps.length m) := by
  refine F0.ok S (by rintro vs H Q E ⟨O, ds, d, r, hl, _⟩; rw [r.length]; exact hl) (fun cdv A outer s H vs Q E hr z9 => ?_)
  obtain ⟨O, ds, d, r, hl, ht, tb, fk, e, q⟩ := z9
  refine ⟨_, hb cdv A outer s H E hr H O, O, _, env_start r ht tb, fk, ?_⟩
  have h := hm ds d hl e
  cases e1 : F (startD N ds) with
  | ok o =>
    rw [e1] at h
    cases o with
    | rt d' =>
      have h' : R.ok d' = R.ok d := h
      injection h' with h'
      subst h'
      exact q
    | nx ρ =>
      have h' : R.ok D.non = R.ok d := h
      injection h' with h'
      subst h'
      exact fun σ' H' O' E' _ _ => q .non H' E'.same .non
    | bk ρ => cases h
    | ct ρ => cases h
  | ex x => rw [e1] at h; cases h
  | bad => rw [e1] at h; cases h
end
section

theorem offK (I : Inv X pins σ H s) (O : Addr → Prop) (t : ∀ a, O a → ∃ o, H a = some o ∧ Mt o) : OffK X.K O := fun a o hk z => by
  obtain ⟨u, h, _⟩ := t a z
  have := (I.bs a o (I.ok.mod.kin a o hk)).2
  grind
theorem pd_call (F : FnOk X.prog X.w X.K X.mg X.base CX0 k g gd ps (spD X.K n m)) (hr : Room k X.A) (hm : X.mg x = some (.ref g)) (hk : PySem.W.keepIn X.K (.ref g) = true) (hb : Binds X.K gd ps []) (ha : PAD X (e :: es) f) (hl : ∀ ρ ds, f ρ = .ok ds → ds.length = n) (hg : Gl X x := by rfl) (hdb : (x == ("__debug__" : Str)) = false := by decide) (he : starEach (e :: es) X.env = (false, eval e X.env) :: starEach es X.env := by rfl) (hpl : (backTo pos (starEach es X.env)).any (·.1) = false := by rfl) :
    PD X (.Call (.Name x p) (e :: es) [] pos) (fun ρ => (f ρ).bind m) := by
  refine mkE fun pins s σ H Q I H₀ O₀ O ρ E q => (pe_call F hr hg hm hk hb .nil pass0 ha hdb he hpl pins s σ H Q I ⟨H₀, O₀, O, ρ, E, ?_⟩)
  dsimp only at q
  cases e1 : f ρ with
  | ex z => rw [e1] at q; exact q
  | bad => rw [e1] at q; exact q
  | ok ds =>
    rw [e1, R.bind_ok] at q
    intro vs H1 s1 r1
    rw [List.append_nil]
    have E1 := E.grow s1
    cases e2 : m ds with
    | ex z => rw [e2] at q; exact (q H (Same.refl _)).elim
    | bad => rw [e2] at q; exact q.elim
    | ok d =>
      rw [e2] at q
      exact ⟨O, ds, d, r1, hl ρ ds e1, E1.trk, E1.tab, (offK I O E.trk), e2, fun v H' s2 r2 => q v H' (s1.trans s2) r2⟩
end
end DL

namespace DL
open PySem PySem.Spec L2
open PyProof.Rows hiding St
variable [Tabs]

def clL (env : Env) : List (Str × NameKind) → List (Str × Addr) → List (Str × Addr)
  | [], acc => acc
  | (n, k) :: r, acc => clL env r (if k = .free then (n, (env.cells.lookup n).getD 0) :: acc else acc)
theorem closureFor_eq (h : ∀ y ∈ scope.names, y.2 = .free → ∃ c, env.cells.lookup y.1 = some c) : closureFor scope env = pure (clL env scope.names []) := by
  have go : ∀ (names : List (Str × NameKind)) (acc : List (Str × Addr)), (∀ y ∈ names, y.2 = .free → ∃ c, env.cells.lookup y.1 = some c) →
      (forIn names acc fun (x : Str × NameKind) (r : List (Str × Addr)) => (match x with
        | (name, kind) => if (kind == NameKind.free) = true then (do let a ← cellOf env name; pure (ForInStep.yield ((name, a) :: r))) else pure (ForInStep.yield r) : Sem (ForInStep (List (Str × Addr))))) = pure (clL env names acc) := by
    intro names
    induction names with
    | nil => intro acc _; rfl
    | cons y r ih =>
      intro acc hy
      obtain ⟨n, k⟩ := y
      rw [List.forIn_cons]
      by_cases hk : k = .free
      · subst hk
        obtain ⟨c, hc⟩ := hy (n, .free) List.mem_cons_self rfl
        have e : cellOf env n = pure c := by unfold cellOf; rw [hc]
        simp only [beq_self_eq_true, if_true, e, pure_bind]
        rw [ih _ fun z hz => hy z (List.mem_cons_of_mem _ hz)]
        simp [clL, hc]
      · have hb : (k == NameKind.free) = false := by simpa using hk
        simp only [hb, Bool.false_eq_true, if_false, pure_bind]
        rw [ih _ fun z hz => hy z (List.mem_cons_of_mem _ hz)]
        simp [clL, hk]
  show ((forIn scope.names ([] : List (Str × Addr)) fun (x : Str × NameKind) (r : List (Str × Addr)) => (match x with
        | (name, kind) => if (kind == NameKind.free) = true then (do let a ← cellOf env name; pure (ForInStep.yield ((name, a) :: r))) else pure (ForInStep.yield r) : Sem (ForInStep (List (Str × Addr))))) >>= pure) = _
  rw [(go scope.names [] h)]
  rfl
theorem clL_some : ∀ (names : List (Str × NameKind)) (acc : List (Str × Addr)) {x : Str} {c : Addr}, (∀ y ∈ names, y.2 = .free → ∃ c, env.cells.lookup y.1 = some c) → (∀ x c, acc.lookup x = some c → env.cells.lookup x = some c) →
    (clL env names acc).lookup x = some c → env.cells.lookup x = some c
  | [], acc, x, c, _, ha, h => ha x c h
  | (n, k) :: r, acc, x, c, hy, ha, h => by
    refine clL_some r _ (fun y hm => hy y (List.mem_cons_of_mem _ hm)) (fun x' c' h' => ?_) h
    by_cases hk : k = .free
    · rw [if_pos hk] at h'
      obtain ⟨c0, hc⟩ := hy (n, k) List.mem_cons_self hk
      by_cases hx : x' = n
      · subst hx
        rw [List.lookup_cons_self] at h'
        rw [hc] at h'
        rw [hc]
        exact h'
      · rw [List.lookup_cons, beq_eq_false_iff_ne.mpr hx] at h'
        exact ha x' c' h'
    · rw [if_neg hk] at h'; exact ha x' c' h'
theorem clL_has : ∀ (names : List (Str × NameKind)) (acc : List (Str × Addr)) {x : Str}, ((x, NameKind.free) ∈ names ∨ ∃ c, acc.lookup x = some c) → ∃ c, (clL env names acc).lookup x = some c
  | [], acc, x, h => by
    rcases h with h | h
    · cases h
    · exact h
  | (n, k) :: r, acc, x, h => by
    refine clL_has r _ ?_
    rcases h with h | ⟨c, h⟩
    · rcases List.mem_cons.mp h with e | h
      · cases e
        simp_all
      · exact .inl h
    · right
      by_cases hk : k = .free
      · rw [if_pos hk, List.lookup_cons]
        cases (x == n) with
        | true => exact ⟨_, rfl⟩
        | false => exact ⟨c, h⟩
      · rw [if_neg hk]; exact ⟨c, h⟩
theorem relabel_free {env : Env} : ∀ {names : List (Str × NameKind)} {x : Str},
    ((names.map fun (n, k) => if (k == NameKind.free && env.scope.kind == .function && env.kindOf n == some .cell) then (n, NameKind.cell) else (n, k)).lookup x = some .cell ∨
      (names.map fun (n, k) => if (k == NameKind.free && env.scope.kind == .function && env.kindOf n == some .cell) then (n, NameKind.cell) else (n, k)).lookup x = some .free) → (x, NameKind.free) ∈ names ∨ names.lookup x = some .cell
  | [], _, h => by rcases h with h | h <;> cases h
  | (n, k) :: r, x, h => by
    have ih := @relabel_free env r x
    rw [List.map_cons] at h
    dsimp only at h
    by_cases hx : x = n
    · subst hx
      by_cases hk : (k == NameKind.free && env.scope.kind == .function && env.kindOf x == some .cell) = true
      · have kf : k = .free := by
          rw [Bool.and_eq_true, Bool.and_eq_true] at hk
          simpa using hk.1.1
        subst kf; exact .inl List.mem_cons_self
      · rw [if_neg hk, List.lookup_cons_self] at h
        rcases h with h | h
        · right; rw [List.lookup_cons_self]; exact h
        · have : k = .free := Option.some.inj h
          subst this; exact .inl List.mem_cons_self
    · have h' : (r.map fun (n, k) => if (k == NameKind.free && env.scope.kind == .function && env.kindOf n == some .cell) then (n, NameKind.cell) else (n, k)).lookup x = some .cell ∨
          (r.map fun (n, k) => if (k == NameKind.free && env.scope.kind == .function && env.kindOf n == some .cell) then (n, NameKind.cell) else (n, k)).lookup x = some .free := by
        by_cases hk : (k == NameKind.free && env.scope.kind == .function && env.kindOf n == some .cell) = true
        · rw [if_pos hk, List.lookup_cons, beq_eq_false_iff_ne.mpr hx] at h; exact h
        · rw [if_neg hk, List.lookup_cons, beq_eq_false_iff_ne.mpr hx] at h; exact h
      rcases ih h' with h | h
      · exact .inl (List.mem_cons_of_mem _ h)
      · right; rw [List.lookup_cons, beq_eq_false_iff_ne.mpr hx]; exact h
theorem cells_of : ∀ (names : List (Str × NameKind)) (h : Heap) (acc : List (Str × Addr)) {x : Str} {c : Addr}, (cellsFrom h.objs.size names acc).lookup x = some c → acc.lookup x = some c ∨ ((pushCells h names).IsCell c none ∧ h.objs.size ≤ c)
  | [], h, acc, x, c, e => .inl e
  | (n, k) :: r, h, acc, x, c, e => by
    unfold cellsFrom at e
    unfold pushCells
    split at e
    · rename_i hk
      rw [if_pos hk]
      rcases cells_of r (h.push { cls := .type "cell", data := .cell none }) ((n, h.objs.size) :: acc) (x := x) (c := c) (by rw [Heap.size_push]; exact e) with h1 | ⟨h1, h2⟩
      · rw [List.lookup_cons] at h1
        cases hx : (x == n) with
        | true =>
          rw [hx] at h1
          have e' : h.objs.size = c := Option.some.inj h1
          subst e'
          exact .inr ⟨⟨_, pushCells_keeps _ _ _ _ (Heap.get?_push_size _ rfl), rfl⟩, Nat.le_refl _⟩
        | false => rw [hx] at h1; exact .inl h1
      · exact .inr ⟨h1, by rw [Heap.size_push] at h2; exact Nat.le_of_succ_le h2⟩
    · rename_i hk
      rw [if_neg hk]
      exact cells_of r h acc e
theorem cells_low : ∀ (names : List (Str × NameKind)) (n : Nat) (acc : List (Str × Addr)) {x : Str} {c : Addr}, (cellsFrom n names acc).lookup x = some c → acc.lookup x = some c ∨ n ≤ c
  | [], n, acc, x, c, e => .inl e
  | (m, k) :: r, n, acc, x, c, e => by
    unfold cellsFrom at e
    split at e
    · rcases cells_low r (n + 1) _ e with h1 | h1
      · rw [List.lookup_cons] at h1
        cases hx : (x == m) with
        | true => rw [hx] at h1; exact .inr (Nat.le_of_eq (Option.some.inj h1))
        | false => rw [hx] at h1; exact .inl h1
      · exact .inr (Nat.le_of_succ_le h1)
    · exact cells_low r n acc e
theorem cells_ge : ∀ (names : List (Str × NameKind)) (n : Nat) (acc : List (Str × Addr)) {x : Str} {c : Addr}, (x, NameKind.cell) ∈ names → (cellsFrom n names acc).lookup x = some c → n ≤ c
  | [], n, acc, x, c, hm, e => nomatch hm
  | (m, k) :: r, n, acc, x, c, hm, e => by
    unfold cellsFrom at e
    rcases List.mem_cons.mp hm with hm | hm
    · cases hm
      rcases cells_low r (n + 1) _ e with h1 | h1
      · simp_all
      · exact Nat.le_of_succ_le h1
    · split at e
      · exact Nat.le_of_succ_le (cells_ge r (n + 1) _ hm e)
      · exact cells_ge r n acc hm e
theorem cells_ne : ∀ (names : List (Str × NameKind)) (n : Nat) (acc : List (Str × Addr)) {x : Str}, (x, NameKind.cell) ∉ names → (cellsFrom n names acc).lookup x = acc.lookup x
  | [], n, acc, x, _ => rfl
  | (m, k) :: r, n, acc, x, hm => by
    unfold cellsFrom
    split
    · rename_i hk
      rw [cells_ne r (n + 1) _ fun z => hm (List.mem_cons_of_mem _ z), List.lookup_cons]
      cases hx : (x == m) with
      | true =>
        have e1 : x = m := by simpa using hx
        have e2 : k = .cell := by simpa using hk
        exact absurd (by rw [e1, e2]; exact List.mem_cons_self) hm
      | false => rfl
    · exact cells_ne r n acc fun z => hm (List.mem_cons_of_mem _ z)
theorem cells_inj : ∀ (names : List (Str × NameKind)) (n : Nat) (acc : List (Str × Addr)), (∀ x c, acc.lookup x = some c → c < n) → (∀ x y c, acc.lookup x = some c → acc.lookup y = some c → x = y) →
    ∀ x y c, (cellsFrom n names acc).lookup x = some c → (cellsFrom n names acc).lookup y = some c → x = y
  | [], n, acc, _, h => h
  | (m, k) :: r, n, acc, hl, h => by
    unfold cellsFrom
    split
    · refine cells_inj r (n + 1) _ (fun x c e => ?_) fun x y c e1 e2 => ?_
      · rw [List.lookup_cons] at e
        cases hx : (x == m) with
        | true => rw [hx] at e; rw [← Option.some.inj e]; exact Nat.lt_succ_self _
        | false => rw [hx] at e; exact Nat.lt_succ_of_lt (hl x c e)
      · rw [List.lookup_cons] at e1 e2
        cases hx : (x == m) with
        | true =>
          rw [hx] at e1
          cases hy : (y == m) with
          | true => rw [show x = m by simpa using hx, show y = m by simpa using hy]
          | false => rw [hy] at e2; rw [← Option.some.inj e1] at e2; exact absurd (hl y _ e2) (Nat.lt_irrefl _)
        | false =>
          rw [hx] at e1
          cases hy : (y == m) with
          | true => rw [hy] at e2; rw [← Option.some.inj e2] at e1; exact absurd (hl x _ e1) (Nat.lt_irrefl _)
          | false => rw [hy] at e2; exact h x y c e1 e2
    · exact cells_inj r n acc hl h
abbrev blkC (X : Cx) (scope : Scope) (C : Addr) : List (Str × Addr) := cellsFrom (C + 1) scope.names (clL X.env scope.names [])
theorem new_block {E : Value → Shared → Prop} {Q : Env → Shared → Prop} (hQ : Q (newEnv scope s.heap.objs.size g (cellsFrom (s.heap.objs.size + 1) scope.names cl) q none .none (some env) builtinsNs) { s with heap := pushCells (s.heap.push { cls := .type "dict", data := .dict #[] }) scope.names }) :
    wpAny M A (newFunctionEnv scope g cl [] q none .none (some env)) Q E s := by
  simp only [newFunctionEnv, Option.isSome_some, if_true]
  refine wpAny_bind (wpAny_alloc (wpAny_bind (wpAny_layCells _ (fun name kind cells => by cases hkc : kind == NameKind.cell <;> simp) _ _ _ _ ?_)))
  rw [show ({ s with heap := s.heap.push { cls := .type "dict", data := .dict #[] } } : Shared).heap.objs.size = s.heap.objs.size + 1 from Heap.size_push ..]
  exact wpAny_bind (wpAny_pure (wpAny_pure hQ))

theorem comp_loop {R : Result → Shared → Prop} (I : Nat → Shared → Prop) (turn : ∀ n s, I n s → wpAny (model prog w) A (pyNext it) (fun r s₁ => match r with
      | none => R (.ok .next) s₁
      | some v => wpAny (model prog w) A (letOwnedTupleGo target it v) (fun _ s₁' => wpAny (model prog w) A (assign target env v) (fun _ s₂ =>
          wpAny (model prog w) A (forIn ifs true fun c r => if r = true then do let ok ← isTrue c env (eval c env); pure (ForInStep.yield ok) else pure (ForInStep.yield r)) (fun ok s₃ =>
            if ok = true then wpAny (model prog w) A (eval elt env) (fun x s₄ =>
              wpAny (model prog w) A (call (.builtin "list.append") [acc, x]) (fun _ s₅ => ∃ m, m < n ∧ I m s₅) (fun _ _ => False) s₄) (fun _ _ => False) s₃
            else ∃ m, m < n ∧ I m s₃) (fun _ _ => False) s₂) (fun _ _ => False) s₁') (fun _ _ => False) s₁) (fun _ _ => False) s) (n : Nat) (h : I n s) : codeAny (model prog w) A (.compLoop (.ListComp elt [⟨target, iter, ifs, 0⟩] scope pos) 0 it acc env) R s := by
  refine codeAny_loop rfl I (fun n s hI => ?_) n h
  refine wpAny_noted ?_
  rw [compTurn_list]
  refine wpAny_bind (wpAny_standAt (wpAny_bind (wpAny_mono (turn n s hI) (fun r s₁ h₁ => ?_) fun _ _ h' => h'.elim)))
  cases r with
  | none => exact wpAny_pure h₁
  | some v =>
    refine wpAny_bind (wpAny_mono h₁ (fun _ s₁' h₁' => ?_) fun _ _ h' => h'.elim)
    refine wpAny_bind (wpAny_mono h₁' (fun _ s₂ h₂ => wpAny_bind (wpAny_mono h₂ (fun ok s₃ h₃ => ?_) fun _ _ h' => h'.elim)) fun _ _ h' => h'.elim)
    cases ok with
    | false => exact wpAny_pure ⟨rfl, h₃⟩
    | true =>
      exact wpAny_bind (wpAny_bind (wpAny_mono h₃ (fun x s₄ h₄ => wpAny_bind (wpAny_mono h₄ (fun _ s₅ h₅ => wpAny_pure (wpAny_pure ⟨rfl, h₅⟩)) fun _ _ h' => h'.elim)) fun _ _ h' => h'.elim))

def cxC (X : Cx) (pins : List (Addr × Obj)) (s₀ : Shared) (H₀ : Hp) (N' : List Str) (scope : Scope) (cl : List (Str × Addr)) (C : Addr) (fp : List Addr) : Cx where
  prog := X.prog
  w := X.w
  K := X.K
  mg := X.mg
  base := X.base
  A := X.A
  N := N'
  s₀ := s₀
  H₀ := H₀
  env := compEnvC scope cl C X.env
  outer := X.stack
  stack := X.stack
  ex := fp
  fn := fun x => scope.names.lookup x == some .cell
  calm := X.calm
  pn := X.pn ++ pins
  xe := fun _ _ => False
structure CompSc (X : Cx) (scope : Scope) (own fr : List Str) (js : List Nat) : Prop where
  kind : scope.kind = .function
  apart : ∀ y ∈ scope.names, y.2 = .free → (y.1, NameKind.cell) ∉ scope.names
  names : ∀ y ∈ scope.names, y.2 = .local → scope.names.lookup y.1 = some .local
  free : ∀ y ∈ scope.names, y.2 = .free → X.env.kindOf y.1 = some .cell ∨ X.env.kindOf y.1 = some .free
  len : js.length = fr.length
  at_ : ∀ (i j : Nat) (x : Str), js[i]? = some j → fr[i]? = some x → X.N[j]? = some x ∧ (x, NameKind.free) ∈ scope.names
  nd : js.Nodup
  dis : ∀ y ∈ scope.names, y.2 = .free → scope.names.lookup y.1 = some .free
def seen : Sl → Sl
  | .v d => .v d
  | .d k => .d k
  | _ => .no
def blockEv (own : List Str) (js : List Nat) (ρ : Ev) : Ev := List.replicate own.length Sl.no ++ js.map fun j => seen (ρ.getD j Sl.no)
def blockSt (own : List Str) (js : List Nat) (σ : St) : St := List.replicate own.length none ++ js.map fun j => σ.getD j none
theorem Inv.has_cells (I : L2.Inv X pins σ H s) (S : CompSc X scope own fr js) : ∀ y ∈ scope.names, y.2 = .free → ∃ c, X.env.cells.lookup y.1 = some c :=
  fun y hy hf => I.ok.has y.1 (S.free y hy hf)
theorem block_slot (h : (blockEv own js ρ)[i]? = some sl) : sl = .no ∨ ∃ j, ((∃ d, sl = .v d) ∨ ∃ k, sl = .d k) ∧ own.length ≤ i ∧ js[i - own.length]? = some j ∧ ρ[j]? = some sl := by
  unfold blockEv at h
  by_cases hi : i < own.length
  · rw [List.getElem?_append_left (by simp_all), List.getElem?_replicate, if_pos hi] at h
    simp_all
  · have hi' : own.length ≤ i := Nat.le_of_not_lt hi
    rw [List.getElem?_append_right (by simp_all), List.length_replicate, List.getElem?_map] at h
    cases e : js[i - own.length]? with
    | none => simp_all
    | some j =>
      rw [e] at h
      have h' : seen (ρ.getD j Sl.no) = sl := Option.some.inj h
      rw [List.getD_eq_getElem?_getD] at h'
      cases e2 : ρ[j]? with
      | none => rw [e2] at h'; subst h'; exact .inl rfl
      | some z =>
        rw [e2] at h'
        cases z with
        | v d => subst h'; exact .inr ⟨j, .inl ⟨d, rfl⟩, hi', rfl, e2⟩
        | d k => subst h'; exact .inr ⟨j, .inr ⟨k, rfl⟩, hi', rfl, e2⟩
        | _ => subst h'; exact .inl rfl
theorem block_st {σ : St} (hi : own.length ≤ i) (e : js[i - own.length]? = some j) (h : j < σ.length) : (blockSt own js σ)[i]? = σ[j]? := by
  unfold blockSt
  rw [List.getElem?_append_right (by simp_all), List.length_replicate, List.getElem?_map, e]
  simp_all
theorem env_block {K : PySem.W.Frag} {H₀ H : Hp} {O₀ O : Addr → Prop} {σ : St} {ρ : Ev} {own : List Str} {js : List Nat} (nd : js.Nodup) (E : EnvOk K H₀ O₀ H O σ ρ) : EnvOk K H₀ O₀ H O (blockSt own js σ) (blockEv own js ρ) := by
  have lt : ∀ {j sl}, ρ[j]? = some sl → j < σ.length := fun h => by rw [E.len]; exact (List.getElem?_eq_some_iff.mp h).1
  refine ⟨by simp [blockSt, blockEv], E.same, E.sub, E.trk, E.trk₀, E.tab, fun i sl h => ?_, fun i i' x y a h1 h2 o o' q q' => ?_⟩
  · rcases block_slot h with rfl | ⟨j, _, hi', e, h1⟩
    · trivial
    · rw [block_st hi' e (lt h1)]; exact E.slot j sl h1
  · rcases block_slot h1 with rfl | ⟨j, _, hi, e, h1⟩
    · exact o.elim
    rcases block_slot h2 with rfl | ⟨j', _, hi', e', h2⟩
    · exact o'.elim
    rw [block_st hi e (lt h1)] at q
    rw [block_st hi' e' (lt h2)] at q'
    have := E.inj j j' x y a h1 h2 o o' q q'
    subst this
    have := (List.getElem?_inj (List.getElem?_eq_some_iff.mp e).1 nd).mp (e.trans e'.symm)
    grind
theorem inv_block (I : L2.Inv X pins σ H s) (S : CompSc X scope own fr js) (hfp : ∀ b ∈ fp, FpOk X pins H b) (hlt : ∀ b ∈ fp, b < s.heap.objs.size) (e₁ : h₁ = pushCells (s.heap.push { cls := .type "dict", data := .dict #[] }) scope.names) :
    L2.Inv (cxC X pins s H (own ++ fr) scope (blkC X scope s.heap.objs.size) s.heap.objs.size fp) [] (blockSt own js σ) H { s with heap := h₁, toks := tk } := by
  have keep : ∀ b o, s.heap.get? b = some o → h₁.get? b = some o := fun b o e => by rw [e₁]; exact pushCells_keeps _ _ _ _ (Heap.get?_push_of_some _ e)
  have hns : h₁.Ns s.heap.objs.size (fun _ => none) := by rw [e₁]; exact (Heap.Ns.new s.heap (.type "dict")).keeps (pushCells_keeps _ _)
  have cc := fun x c h => by
    have := cells_of scope.names (s.heap.push { cls := .type "dict", data := .dict #[] }) (clL X.env scope.names []) (x := x) (c := c) (by rw [Heap.size_push]; exact h)
    rw [Heap.size_push, ← e₁] at this
    exact this
  have cell_of : ∀ x c, (clL X.env scope.names []).lookup x = some c → X.env.cells.lookup x = some c := fun x c h => clL_some scope.names [] (Inv.has_cells I S) (fun _ _ z => (by cases z)) h
  have base_lt : ∀ b o, X.base.get? b = some o → b ∉ fp := fun b o e hb => by
    rcases (hfp b hb).2.2.2.1 with z | z
    · exact I.ok.noex b o e z
    · exact absurd (Nat.lt_of_lt_of_le (Heap.lt_size e) (Nat.le_trans I.ok.bsz z)) (Nat.lt_irrefl _)
  have nfs : ∀ b ∈ fp, b ∉ frs X.stack := fun b hb z => by
    rcases List.mem_cons.mp (I.stkSub b z) with e | z
    · exact (hfp b hb).2.1 e
    · exact (hfp b hb).2.2.1 z
  have old_lt : ∀ x c, X.env.cells.lookup x = some c → c < s.heap.objs.size + 1 := fun x c h => by
    obtain ⟨v, o, ho, _⟩ := I.cell x c h
    exact Nat.lt_succ_of_lt (Heap.lt_size ho)
  have has : ∀ x, ((relabel scope X.env).names.lookup x = some .cell ∨ (relabel scope X.env).names.lookup x = some .free) → ∃ c, (blkC X scope s.heap.objs.size).lookup x = some c := fun x hx => by
    have : ((blkC X scope s.heap.objs.size).lookup x).isSome = true := PySem.W.cellsFrom_some _ _ _ (by
      rcases relabel_free hx with h | h
      · obtain ⟨c, hc⟩ := clL_has (env := X.env) scope.names [] (x := x) (.inl h)
        grind
      · exact .inl h)
    exact Option.isSome_iff_exists.mp this
  refine ⟨⟨I.ok.mod, S.kind, I.ok.glob, I.ok.blt, Nat.le_refl _, cells_inj scope.names _ _ (fun x c h => old_lt x c (cell_of x c h)) (fun x y c h1 h2 => I.ok.inj x y c (cell_of x c h1) (cell_of y c h2)), has, fun x c hf h => Nat.le_of_succ_le (cells_ge scope.names _ _ (PySem.mem_of_lookup (eq_of_beq hf)) h), I.ok.hd, I.ok.frames, .inl rfl,
    fun b hb => ⟨Nat.ne_of_lt (hlt b hb), fun x c h => (cc x c h).elim (fun h => (hfp b hb).2.2.2.2.1 x c (cell_of x c h)) fun ⟨_, h2⟩ z => absurd (Nat.lt_of_lt_of_le (hlt b hb) (Nat.le_of_succ_le h2)) (by grind)⟩, I.bs, Nat.le_trans I.ok.bsz I.sz, fun b o e => base_lt b o e, nfs, I.stack, I.stkFree⟩, rfl, I.bare, Un.kept keep, ⟨_, hns, fun i x v e1 e2 e3 => ?_⟩, fun x c h => ?_, I.hok.fresh (Nat.le_refl _), fun x c h => (cc x c h).elim (fun h => I.freeC x c (cell_of x c h)) fun ⟨_, h2⟩ => I.hok.fresh (Nat.le_of_succ_le h2), fun p hp => ?_, I.hok.kept keep, ?_⟩
  · -- the names that are seen
    have hlen : (own ++ fr).length = (blockSt own js σ).length := by simp [blockSt, S.len]
    unfold blockSt at e2
    by_cases hi : i < own.length
    · rw [List.getElem?_append_left (by simpa using hi), List.getElem?_replicate, if_pos hi] at e2
      cases e2
    · have hi' : own.length ≤ i := Nat.le_of_not_lt hi
      rw [List.getElem?_append_right (by simpa using hi'), List.length_replicate, List.getElem?_map] at e2
      have e1' : (own ++ fr)[i]? = some x := e1
      rw [List.getElem?_append_right hi'] at e1'
      cases e : js[i - own.length]? with
      | none => rw [e] at e2; cases e2
      | some j =>
        rw [e] at e2
        have e2' : σ.getD j none = some v := Option.some.inj e2
        obtain ⟨hN, hfree⟩ := S.at_ (i - own.length) j x e e1'
        have hσ : σ[j]? = some (some v) := by
          grind
        have hk := S.free (x, .free) hfree rfl
        obtain ⟨m, hn, hl⟩ := I.loc
        obtain ⟨u, r, lk⟩ := hl j x v hN hσ (.inr hk)
        refine ⟨u, r, ?_⟩
        rcases lk with ⟨hk', _⟩ | ⟨_, c, hc, hcell⟩
        · simp_all
        · right
          obtain ⟨c', hc'⟩ := clL_has (env := X.env) scope.names [] (x := x) (.inl hfree)
          have := cell_of x c' hc'
          rw [hc] at this; cases this
          refine ⟨?_, c, (cells_ne scope.names _ _ (S.apart (x, .free) hfree rfl)).trans hc', ?_⟩
          · rcases e3 with e3 | e3 | e3
            · -- local there: not so
              exfalso
              -- its first entry is local, and it is free: names tells that a local is looked up as local
              have : ∀ names : List (Str × NameKind), (names.map fun (n, k) => if (k == NameKind.free && X.env.scope.kind == .function && X.env.kindOf n == some .cell) then (n, NameKind.cell) else (n, k)).lookup x = some .local → names.lookup x = some .local := by
                intro names
                induction names with
                | nil => intro h; cases h
                | cons y r ih =>
                  obtain ⟨n, k⟩ := y
                  intro h
                  rw [List.map_cons] at h
                  dsimp only at h
                  by_cases hx : x = n
                  · subst hx
                    by_cases hkk : (k == NameKind.free && X.env.scope.kind == .function && X.env.kindOf x == some .cell) = true
                    · simp_all
                    · simp_all
                  · rw [List.lookup_cons, beq_eq_false_iff_ne.mpr hx]
                    by_cases hkk : (k == NameKind.free && X.env.scope.kind == .function && X.env.kindOf n == some .cell) = true
                    · rw [if_pos hkk, List.lookup_cons, beq_eq_false_iff_ne.mpr hx] at h; exact ih h
                    · rw [if_neg hkk, List.lookup_cons, beq_eq_false_iff_ne.mpr hx] at h; exact ih h
              have h2 := this scope.names e3
              rw [S.dis (x, .free) hfree rfl] at h2
              cases h2
            · exact .inl e3
            · exact .inr e3
          · obtain ⟨o, ho, hd⟩ := hcell
            exact ⟨o, keep c o ho, hd⟩
  · rcases cc x c h with h | ⟨h, _⟩
    · obtain ⟨v, o, ho, hd⟩ := I.cell x c (cell_of x c h)
      exact ⟨v, o, keep c o ho, hd⟩
    · exact ⟨_, h⟩
  · have hp' : p ∈ X.pn ++ pins := by simpa [cxC] using hp
    obtain ⟨e, n, ne, nf, d⟩ := I.pin p hp'
    refine ⟨keep _ _ e, n, Nat.ne_of_lt (Heap.lt_size e), fun z => ?_, d⟩
    rcases List.mem_cons.mp (I.stkSub p.1 z) with e' | z'
    · exact ne e'
    · exact nf z'
  · simp [blockSt, cxC, S.len]
end DL

namespace DL
open PySem PySem.Spec L2
open PyProof.Rows hiding St
variable [Tabs]

def compL (G : D → Ev → R Ev) (ft : Ev → R Bool) (fe : Ev → R D) (ρ : Ev) : List D → R (List D)
  | [] => .ok []
  | d :: ds => match G d ρ with
    | .ok ρ1 => (ft ρ1).bind fun b => if b = true then (fe ρ1).bind fun r => (compL G ft fe ρ ds).bind fun rs => .ok (r :: rs) else compL G ft fe ρ ds
    | _ => .bad
def Weak (ρ1 ρ : Ev) : Prop := ρ1.length = ρ.length ∧ ∀ (i : Nat) (sl : Sl), ρ[i]? = some sl → sl ≠ .no → ρ1[i]? = some sl
theorem EnvOk.weak {K : PySem.W.Frag} {H₀ H : Hp} {O₀ O : Addr → Prop} {σ : St} {ρ1 ρ : Ev} (E : EnvOk K H₀ O₀ H O σ ρ1) (h : Weak ρ1 ρ) : EnvOk K H₀ O₀ H O σ ρ where
  len := E.len.trans h.1
  same := E.same
  sub := E.sub
  trk := E.trk
  trk₀ := E.trk₀
  tab := E.tab
  slot := fun i sl e => by
    by_cases n : sl = .no
    · subst n; trivial
    · exact E.slot i sl (h.2 i _ e n)
  inj := fun i j x y a h1 h2 o1 o2 => E.inj i j x y a (h.2 i _ h1 (by rintro rfl; exact o1)) (h.2 j _ h2 (by rintro rfl; exact o2)) o1 o2
def hideA (H : Hp) (a : Addr) : Hp := fun b => if b = a then none else H b
theorem hideA_self (H : Hp) (a : Addr) : hideA H a a = none := if_pos rfl
theorem hideA_ne (h : b ≠ a) : hideA H a b = H b := if_neg h
theorem upd_hideA (h : H a = some o) : upd (hideA H a) a o = H := by
  funext b
  unfold upd hideA
  simp_all
theorem EnvOk.beside {K : PySem.W.Frag} {H₀ H : Hp} {O₀ O : Addr → Prop} {σ : St} {ρ : Ev} {a : Addr} {vs : List V} (E : EnvOk K H₀ O₀ H O σ ρ) (h : H a = none) (hk : K.lookup a = none) : EnvOk K H₀ O₀ (upd H a (.lst vs)) (fun b => O b ∨ b = a) σ ρ := E.besideO h hk trivial
theorem Rep.hidden {K : PySem.W.Frag} {H : Hp} {O : Addr → Prop} {a : Addr} {vs : List V} {v : V} {d : D} (h : H a = some (.lst vs)) (r : Rep K H (fun b => O b ∨ b = a) v d) : Rep K (hideA H a) O v d := by
  refine r.mono (fun b xs q => ?_) (fun b xs n q => ⟨fun z => n (.inl z), ?_⟩) fun b φ n q => ⟨fun z => n (.inl z), by rw [hideA_ne fun z => n (.inr z)]; exact q⟩
  · rcases q with (q | ⟨o, q⟩) | q
    · exact .inl (.inl (by rw [hideA_ne (by grind)]; exact q))
    · exact .inl (.inr ⟨o, by rw [hideA_ne (by grind)]; exact q⟩)
    · exact .inr q
  · have hb := fun z => n (.inr z)
    rcases q with (q | ⟨o, q⟩) | q
    · exact .inl (.inl ((hideA_ne hb) ▸ q))
    · exact .inl (.inr ⟨o, by rw [hideA_ne hb]; exact q⟩)
    · exact .inr q
theorem hideA_same (h : H a = none) (s : Same (upd H a (.lst vs)) H') : Same H (hideA H' a) := fun b o q => by
  have hb : b ≠ a := by grind
  rw [hideA_ne hb]
  exact s b o ((upd_ne hb) ▸ q)

def ItC (K : PySem.W.Frag) (J : It) (H : Hp) (O : Addr → Prop) (ds : List D) : Prop := ∀ H2 O2, Same H H2 → Kp H O H2 O2 → OffK K O2 → (∀ a, O a → ∃ o, H a = some o ∧ Mt o) → (∀ a, O2 a → ∃ o, H2 a = some o ∧ Mt o) → ∀ i : Nat,
  (∀ d, ds[i]? = some d → J.go i H2 ∧ ∀ x H', J.yld i H2 x H' → Same H2 H' ∧ Rep K H' O2 x d) ∧ (ds[i]? = none → J.stop i H2)
theorem ItD.c {K : PySem.W.Frag} (h : ItD K J H O ds) : ItC K J H O ds := fun H2 O2 _ => h H2 O2
def tIc (X : Cx) (f : Ev → R (List D)) : TI := fun σ H R => ∃ H₀ O₀ O ρ, EnvOk X.K H₀ O₀ H O σ ρ ∧ OffK X.K O ∧ match f ρ with
  | .ok ds => ∀ J H', Same H H' → ItC X.K J H' O ds → R J H'
  | .ex e => ∀ H', Same H H' → XW X e H'
  | .bad => False
def PIC (X : Cx) (tg iter : Expr) (f : Ev → R (List D)) : Prop := PI X tg iter (tIc X f)
theorem pic (h : PID X tg iter f) : PIC X tg iter f := pi_imp h <| by rintro σ H R ⟨H₀, O₀, O, ρ, E, k, q⟩; exact ⟨H₀, O₀, O, ρ, E, k, by
  cases e : f ρ with
  | ok ds => rw [e] at q; exact fun J H' s h => q J H' s h.c
  | ex x => rw [e] at q; exact q
  | bad => rw [e] at q; exact q⟩

section

def PTs (X : Cx) (ifs : List Expr) (ft : Ev → R Bool) : Prop :=
  ∀ (pins : List (Addr × Obj)) (s : Shared) (σ : St) (H : Hp) (Q : Bool → Hp → Prop), Inv X pins σ H s → tDT X ft σ H Q →
    wpAny (model X.prog X.w) X.A (forIn ifs true fun c r => if r = true then do let ok ← isTrue c X.env (eval c X.env); pure (ForInStep.yield ok) else pure (ForInStep.yield r)) (TP X pins σ Q) X.xe s
theorem pts_nil : PTs X [] (fun _ => .ok true) := by rintro pins s σ H Q I ⟨H₀, O₀, O, ρ, E, q⟩; exact wpAny_tests_nil ⟨H, I, q H (Same.refl _)⟩
theorem pts_one (h : PTD X c ft) : PTs X [c] ft := fun pins s σ H Q I q => wpAny_tests_one (h pins s σ H Q I q)

theorem comp_run {tg elt iter : Expr} {ifs : List Expr} {scope : Scope} {own fr : List Str} {js : List Nat} {G : D → Ev → R Ev} {ft : Ev → R Bool} {fe : Ev → R D} {pins : List (Addr × Obj)} {σ : St} {H : Hp} {s : Shared} {H₀ : Hp} {O₀ O : Addr → Prop} {ρ : Ev}
    {it : Addr} {fp : List Addr} {tn : Nat → Heap → Prop} {J : It} {ds rs : List D} {RR : Value → Addr → Result → Shared → Prop} {EE : Value → Shared → Prop} (hc : X.calm = true) (S : CompSc X scope own fr js)
    (hX : ∀ X' : Cx, (∃ s₀ H₁ C, X' = cxC X pins s₀ H₁ (own ++ fr) scope (blkC X scope C) C fp) → PGD X' tg G ∧ PTs X' ifs ft ∧ PD X' elt fe)
    (hG : ∀ d ρ1, G d (blockEv own js ρ) = .ok ρ1 → Weak ρ1 (blockEv own js ρ))
    (I : Inv X pins σ H s) (T : Turn X.prog X.w X.K tg J fp it tn) (st : tn 0 s.heap) (hfp : ∀ b ∈ fp, FpOk X pins H b) (E : EnvOk X.K H₀ O₀ H O σ ρ) (hJ : ItC X.K J H O ds) (hrs : compL G ft fe (blockEv own js ρ) ds = .ok rs) (hlen : ds.length ≤ sizeLine)
    (fin : ∀ acc C s' H' m, s'.heap.Ns C m → C ≠ acc → s.heap.objs.size ≤ C → s.heap.objs.size ≤ acc → Same H H' → Rep X.K H' O (.ref acc) (.lst rs) → (∃ H1 vs, Same H H1 ∧ H1 acc = none ∧ H' = upd H1 acc (.lst vs) ∧ Reps X.K H1 O vs rs) → H' C = none → (∀ h', Heap.SameBut C s'.heap h' → Inv X pins σ H' { s' with heap := h' }) → RR (.ref acc) C (.ok .next) s') :
    wpAny (model X.prog X.w) X.A (newList []) (fun acc s₃ => wpAny (model X.prog X.w) X.A (newFunctionEnv scope X.env.globals (clL X.env scope.names []) [] X.env.qual none .none (some X.env)) (fun cenv s₄ =>
      codeAny (model X.prog X.w) X.A (.compStart (.ListComp elt [⟨tg, iter, ifs, 0⟩] scope pos) 0 (.ref it) acc { cenv with scope := relabel scope X.env }) (RR acc cenv.locals) s₄) EE s₃) EE s := by
  have hO := offK I O E.trk
  refine wpAny_newObj_type ?_
  -- the list that grows
  have hfr : H s.heap.objs.size = none := I.hok.fresh (Nat.le_refl _)
  have hkl : X.K.lookup s.heap.objs.size = none := by
    cases e : X.K.lookup s.heap.objs.size with
    | none => rfl
    | some o => exact absurd (Heap.lt_size (I.kIn _ o e)) (Nat.lt_irrefl _)
  have I1 : Inv X pins σ (upd H s.heap.objs.size (.lst [])) { s with heap := s.heap.push { cls := .type "list", dict := none, data := .seq ([] : List Value).toArray } } :=
    I.laid (t' := s.toks) (fun b u e => Heap.get?_push_of_some _ e) (Nat.le_refl _) ⟨Nat.zero_le _, [], 0, .nil, Heap.get?_push_size _ rfl⟩
  generalize hacc : s.heap.objs.size = acc at *
  generalize hs1 : ({ s with heap := s.heap.push { cls := .type "list", dict := none, data := .seq ([] : List Value).toArray } } : Shared) = s1 at I1 ⊢
  have sz1 : s1.heap.objs.size = acc + 1 := by rw [← hs1, ← hacc]; exact Heap.size_push _ _
  have keep1 : ∀ b o, s.heap.get? b = some o → s1.heap.get? b = some o := fun b o e => by rw [← hs1]; exact Heap.get?_push_of_some _ e
  have fplt : ∀ b ∈ fp, b < acc := fun b hb => by
    obtain ⟨o, e, _⟩ := T.obj 0 _ st b hb
    rw [← hacc]; exact Heap.lt_size e
  have hfp1 : ∀ b ∈ fp, FpOk X pins (upd H acc (.lst [])) b := fun b hb => by
    obtain ⟨f0, f⟩ := hfp b hb
    exact ⟨by rw [upd_ne (Nat.ne_of_lt (fplt b hb))]; exact f0, f⟩
  refine new_block ?_
  obtain ⟨h₁, e₁⟩ : ∃ h₁, pushCells (s1.heap.push { cls := .type "dict", data := .dict #[] }) scope.names = h₁ := ⟨_, rfl⟩
  rw [e₁]
  have keep2 : ∀ b o, s1.heap.get? b = some o → h₁.get? b = some o := fun b o e => by rw [← e₁]; exact pushCells_keeps _ _ _ _ (Heap.get?_push_of_some _ e)
  have IB := inv_block (tk := s1.toks) I1 S hfp1 (fun b hb => by rw [sz1]; exact Nat.lt_succ_of_lt (fplt b hb)) e₁.symm
  generalize hC : s1.heap.objs.size = C at *
  obtain ⟨hG', hT', hE'⟩ := hX _ ⟨s1, upd H acc (.lst []), C, rfl⟩
  generalize hX' : cxC X pins s1 (upd H acc (.lst [])) (own ++ fr) scope (blkC X scope C) C fp = X' at IB hG' hT' hE'
  have eP : X'.prog = X.prog := by rw [← hX']; rfl
  have eW : X'.w = X.w := by rw [← hX']; rfl
  have eK : X'.K = X.K := by rw [← hX']; rfl
  have eA : X'.A = X.A := by rw [← hX']; rfl
  have eC : X'.calm = true := by rw [← hX']; exact hc
  have eX : X'.xe = fun _ _ => False := by rw [← hX']; rfl
  have eE : X'.env = compEnvC scope (blkC X scope C) C X.env := by rw [← hX']; rfl
  have eX0 : X'.ex = fp := by rw [← hX']; rfl
  have ePn : X'.pn = X.pn ++ pins := by rw [← hX']; rfl
  have eFs : X'.fs = frs X.stack := by rw [← hX']; rfl
  have eS0 : X'.s₀ = s1 := by rw [← hX']; rfl
  have eH0 : X'.H₀ = upd H acc (.lst []) := by rw [← hX']; rfl
  have eL : X'.env.locals = C := by rw [eE]; rfl
  have eCe : X'.env.cells = blkC X scope C := by rw [eE]; rfl
  have I2of := IB
  have accC : acc ≠ C := by rw [sz1]; exact Nat.ne_of_lt (Nat.lt_succ_self _)
  have fpC : ∀ b ∈ fp, b ≠ C := fun b hb => by have h1 := fplt b hb; rw [sz1]; exact Nat.ne_of_lt (Nat.lt_succ_of_lt h1)
  have fpB : ∀ {H' : Hp}, (∀ b ∈ fp, H' b = none) → ∀ b ∈ fp, FpOk X' [] H' b := fun {H'} hn b hb => by
    obtain ⟨f0, f1, f2, f3, f4, f5⟩ := hfp b hb
    refine ⟨hn b hb, by rw [eL]; exact fpC b hb, ?_, .inl (by rw [eX0]; exact hb), fun x c h => (fun b hb x c h => (I2of.ok.exf b (by rw [eX0]; exact hb)).2 x c h) b hb x c h, fun p hp => f5 p (by grind)⟩
    rw [eFs]
    intro z
    rcases List.mem_cons.mp (I.stkSub b z) with e | z
    · exact f1 e
    · exact f2 z
  -- one turn's invariant
  have st1 : tn 0 h₁ := T.keep 0 s.heap h₁ st fun b hb o e => keep2 b o (keep1 b o e)
  let Iv : Nat → Shared → Prop := fun n s' => ∃ i σ' Hx vs rd, n = ds.length - i ∧ i ≤ ds.length ∧ Inv X' [] σ' (upd Hx acc (.lst vs)) s' ∧ Hx acc = none ∧ tn i s'.heap ∧ (∀ b ∈ fp, Hx b = none) ∧ EnvOk X.K H₀ O₀ Hx O σ' (blockEv own js ρ) ∧ Same H Hx ∧
    Reps X.K Hx O vs rd ∧ (∃ rest, compL G ft fe (blockEv own js ρ) (ds.drop i) = .ok rest ∧ rs = rd ++ rest) ∧ vs.length ≤ i
  have loop : codeAny (model X.prog X.w) X.A (.compLoop (.ListComp elt [⟨tg, iter, ifs, 0⟩] scope pos) 0 (.ref it) (.ref acc) (compEnvC scope (blkC X scope C) C X.env)) (RR (.ref acc) C) { s1 with heap := h₁ } := by
    refine comp_loop Iv ?_ ds.length ⟨0, _, H, [], [], by simp, Nat.zero_le _, IB, hfr, st1, fun b hb => (hfp b hb).1, env_block S.nd E, Same.refl H, .nil, ⟨rs, by rw [List.drop_zero]; exact hrs, rfl⟩, Nat.zero_le _⟩
    rintro n s2 ⟨i, σ2, Hx, vs, rd, rfl, hi, I2, hxa, st2, fx2, E2, sm2, r2, ⟨rest, hrest, hrs2⟩, hvl⟩
    have fr2 : ∀ b ∈ fp, (upd Hx acc (.lst vs)) b = none := fun b hb => by rw [upd_ne (Nat.ne_of_lt (fplt b hb))]; exact fx2 b hb
    have sU := same_upd hxa (.lst vs)
    have hit := hJ (upd Hx acc (.lst vs)) (fun b => O b ∨ b = acc) (sm2.trans sU) (fun b o q n => ⟨sU b o (sm2 b o q), fun z => z.elim n fun z => by subst z; rw [hfr] at q; cases q⟩) (fun a o q z => z.elim (hO a o q) fun z => by subst z; rw [hkl] at q; cases q) E.trk
      (fun a z => (E2.beside (vs := vs) hxa hkl).trk a z) i
    by_cases hlt : i < ds.length
    · obtain ⟨go, yl⟩ := hit.1 ds[i] (List.getElem?_eq_getElem hlt)
      rw [List.drop_eq_getElem_cons hlt, compL] at hrest
      have hnext := T.item X' eP eW eK eC i [] s2 σ2 _ (fun _ _ => False) I2 (fpB fr2) st2 go
      rw [eA] at hnext
      refine thn hnext fun r s3 z9 => ?_
      obtain ⟨u, hr, h3⟩ := z9
      subst hr
      refine thn h3 fun _ s4 z9 => ?_
      obtain ⟨x, H4, I4, ru, y4, st4, fr4⟩ := z9
      obtain ⟨sm4, rep4⟩ := yl x H4 y4
      cases e1 : G ds[i] (blockEv own js ρ) with
      | ex z => rw [e1] at hrest; cases hrest
      | bad => rw [e1] at hrest; cases hrest
      | ok ρ1 =>
        rw [e1] at hrest
        dsimp only at hrest
        have I4' := I4.pinned (fpB fr4) (T.obj _ _ st4)
        -- behind the turn
        have again : ∀ {s7 : Shared} {σ7 : St} {H7 : Hp} {vs7 : List V} {rd7 : List D} {rest7 : List D}, Inv X' ([] ++ pinsAt fp s4.heap) σ7 H7 s7 → H7 acc = some (.lst vs7) → EnvOk X.K H₀ O₀ (hideA H7 acc) O σ7 (blockEv own js ρ) → Same H (hideA H7 acc) → Reps X.K (hideA H7 acc) O vs7 rd7 →
            compL G ft fe (blockEv own js ρ) (ds.drop (i + 1)) = .ok rest7 → rs = rd7 ++ rest7 → vs7.length ≤ i + 1 → ∃ m, m < ds.length - i ∧ Iv m s7 := fun {s7 σ7 H7 vs7 rd7 rest7} I7 h7 E7 sm7 r7 hr7 hrs7 hv7 => by
          refine ⟨ds.length - (i + 1), by lia, i + 1, σ7, hideA H7 acc, vs7, rd7, rfl, hlt, ?_, hideA_self _ _, T.keep _ _ _ st4 fun b hb o e => (I7.pin (b, o) (List.mem_append_right _ (List.mem_append_right _ (mem_pinsAt hb e)))).1, fun b hb => ?_, E7, sm7, r7, ⟨rest7, hr7, hrs7⟩, hv7⟩
          · rw [upd_hideA h7]; exact I7.unpinned
          · rw [hideA_ne (Nat.ne_of_lt (fplt b hb))]
            obtain ⟨o, e, d⟩ := T.obj _ _ st4 b hb
            exact (I7.pin (b, o) (List.mem_append_right _ (List.mem_append_right _ (mem_pinsAt hb e)))).2.1
        have hasg := hG' _ s4 σ2 H4 x u (fun σ5 H5 => Same H4 H5 ∧ EnvOk X.K H₀ O₀ H5 (fun b => O b ∨ b = acc) σ5 ρ1) I4' ru ⟨H₀, O₀, _, _, ds[i], ρ1, by rw [eK]; exact ((E2.beside hxa hkl).grow sm4), by rw [eK]; exact rep4, e1, fun σ5 H5 s5 E5 => ⟨s5, by rw [eK] at E5; exact E5⟩⟩
        rw [eP, eW, eA, eE, eX] at hasg
        refine thn hasg fun _ s5 z9 => ?_
        obtain ⟨σ5, H5, I5, sm5, E5⟩ := z9
        have hacc5 : H5 acc = some (.lst vs) := sm5 acc _ (sm4 acc _ upd_same)
        -- the test
        cases e2 : ft ρ1 with
        | ex z => rw [e2] at hrest; cases hrest
        | bad => rw [e2] at hrest; cases hrest
        | ok b =>
          rw [e2, R.bind_ok] at hrest
          have htst := hT' _ s5 σ5 H5 (fun c H6 => c = b ∧ Same H5 H6) I5 ⟨H₀, O₀, _, ρ1, by rw [eK]; exact E5, by rw [e2]; exact fun H6 s6 => ⟨rfl, s6⟩⟩
          rw [eP, eW, eA, eE, eX] at htst
          refine thn htst fun ok s6 z9 => ?_
          obtain ⟨H6, I6, hb, sm6⟩ := z9
          subst hb
          have sm46 := sm4.trans (sm5.trans sm6)
          have hacc6 : H6 acc = some (.lst vs) := sm6 acc _ hacc5
          have smx6 : Same Hx (hideA H6 acc) := hideA_same hxa sm46
          have W1 : Weak ρ1 (blockEv own js ρ) := hG _ _ e1
          have Eb : ∀ {H7 : Hp}, Same H5 H7 → EnvOk X.K H₀ O₀ (hideA H7 acc) O σ5 (blockEv own js ρ) := fun {H7} s7 => by
            -- the names of the block are as they were; the loop's own are forgotten
            have E7 := (E5.grow s7).weak W1
            have h7 : H7 acc = some (.lst vs) := s7 acc _ hacc5
            refine ⟨E7.len, E2.same.trans (hideA_same hxa (sm4.trans (sm5.trans s7))), E2.sub, fun a z => ?_, E2.trk₀, E2.tab.same (hideA_same hxa (sm4.trans (sm5.trans s7))), fun j sl e => ?_, E7.inj⟩
            · obtain ⟨o, q, mt⟩ := E2.trk a z
              exact ⟨o, hideA_same hxa (sm4.trans (sm5.trans s7)) a o q, mt⟩
            · rcases block_slot e with rfl | ⟨_, ⟨d, rfl⟩ | ⟨k, rfl⟩, _⟩
              · trivial
              · obtain ⟨v, h1, h2⟩ := E7.val j d e
                exact ⟨v, h1, Rep.hidden h7 h2⟩
              · obtain ⟨b, o, es, h1, hb, h3, h4, h5, h6, h8⟩ := E7.slot j _ e
                have nb : b ≠ acc := by grind
                exact ⟨b, o, es, h1, hb.resolve_right nb, h3, by rw [hideA_ne nb]; exact h4, h5, h6.mono (Rep.hidden h7), h8⟩
          cases ok with
          | false =>
            rw [if_neg Bool.false_ne_true] at hrest ⊢
            exact again I6 hacc6 (Eb sm6) (sm2.trans smx6) (r2.same smx6) hrest hrs2 (Nat.le_succ_of_le hvl)
          | true =>
            rw [if_pos rfl] at hrest ⊢
            cases e3 : fe ρ1 with
            | ex z => rw [e3] at hrest; cases hrest
            | bad => rw [e3] at hrest; cases hrest
            | ok dv =>
              rw [e3, R.bind_ok] at hrest
              cases e4 : compL G ft fe (blockEv own js ρ) (ds.drop (i + 1)) with
              | ex z => rw [e4] at hrest; cases hrest
              | bad => rw [e4] at hrest; cases hrest
              | ok rest' =>
                rw [e4, R.bind_ok] at hrest
                have hrest' : dv :: rest' = rest := R.ok.inj hrest
                have helt := hE' _ s6 σ5 H6 (fun v H7 => Same H6 H7 ∧ Rep X.K H7 (fun b => O b ∨ b = acc) v dv) I6 ⟨H₀, O₀, _, ρ1, by rw [eK]; exact E5.grow sm6, by rw [e3, RC]; exact fun v H7 s7 r7 => ⟨s7, by rw [eK] at r7; exact r7⟩⟩
                rw [eP, eW, eA, eE, eX] at helt
                refine thn helt fun uv s7 z9 => ?_
                obtain ⟨v, H7, I7, ruv, sm7, r7⟩ := z9
                have hacc7 : H7 acc = some (.lst vs) := sm7 acc _ hacc6
                have happ := mt_append (X := X') _ s7 σ5 H7 (.ref acc) [v] (.ref acc) [uv] (fun _ H8 => H8 = upd H7 acc (.lst (vs ++ [v]))) I7 rfl (.cons ruv .nil) ⟨acc, vs, v, rfl, rfl, hacc7, by lia, rfl⟩
                rw [eP, eW, eA, eX] at happ
                refine thn happ fun _ s8 z9 => ?_
                obtain ⟨_, H8, I8, _, h8⟩ := z9
                subst h8
                have hh : hideA (upd H7 acc (.lst (vs ++ [v]))) acc = hideA H7 acc := by
                  funext b
                  unfold hideA upd
                  simp_all
                have smx7 : Same Hx (hideA H7 acc) := hideA_same hxa (sm46.trans sm7)
                refine again (vs7 := vs ++ [v]) (rd7 := rd ++ [dv]) (rest7 := rest') I8 upd_same (by rw [hh]; exact Eb (sm6.trans sm7)) (by rw [hh]; exact sm2.trans smx7) ?_ e4 (by rw [hrs2, ← hrest', List.append_assoc]; rfl) (by rw [List.length_append]; exact Nat.succ_le_succ hvl)
                rw [hh]
                exact (r2.same smx7).snoc (Rep.hidden hacc7 r7)
    · have hi' : i = ds.length := by lia
      subst hi'
      have hstop := hit.2 (by simp)
      have hnext := T.done X' eP eW eK eC ds.length [] s2 σ2 _ (fun _ _ => False) I2 (fpB fr2) st2 hstop
      rw [eA] at hnext
      refine thn hnext fun r s3 z9 => ?_
      obtain ⟨hr, I3⟩ := z9
      subst hr
      rw [List.drop_length, compL] at hrest
      have hrest' : ([] : List D) = rest := R.ok.inj hrest
      rw [← hrest', List.append_nil] at hrs2
      obtain ⟨m, hm, _⟩ := id I3.loc
      rw [eL] at hm
      refine fin acc C s3 (upd Hx acc (.lst vs)) m hm (Ne.symm accC) (by lia) (Nat.le_refl _) (sm2.trans sU) ?_ ⟨Hx, vs, sm2, hxa, rfl, by rw [hrs2]; exact r2⟩ (by rw [← eL]; exact I3.free) (fun h' hs' => ?_)
      · rw [hrs2]
        exact .lst (SqL.of upd_same) (E2.fresh hxa) (r2.same sU)
      · have hU : Un (frs X.stack) fp (upd H acc (.lst [])) (upd Hx acc (.lst vs)) s1.heap s3.heap := by
          have := I3.base
          rw [eFs, eX0, eH0, eS0] at this
          exact this
        have hCn : ∀ b o, s1.heap.get? b = some o → b ≠ C := fun b o e => by have := Heap.lt_size e; rw [hC] at this; exact Nat.ne_of_lt this
        have hU' : Un (frs X.stack) fp (upd H acc (.lst [])) (upd Hx acc (.lst vs)) s1.heap h' := ⟨fun b o e n hb hx => (hs'.2 b (hCn b o e)).trans (hU.keep b o e n hb hx), fun b o e n hb hx => by
            obtain ⟨sl, q⟩ := hU.slot b o e n hb hx
            exact ⟨sl, (hs'.2 b (hCn b o e)).trans q⟩, hU.free, fun b o e hx => by
            obtain ⟨o', q⟩ := hU.there b o e hx
            exact ⟨o', (hs'.2 b (hCn b o e)).trans q⟩, hU.tups, hU.frzs, hU.tbls⟩
        have hCf : upd Hx acc (.lst vs) C = none := by rw [← eL]; exact I3.free
        have hok' : HOk X.prog X.w (upd Hx acc (.lst vs)) h' := fun b u e => by
          have hb : b ≠ C := by grind
          have := I3.hok b u e
          rw [eP, eW] at this
          refine this.stay (fun c v hc q => (hs'.2 c ?_).trans q) (fun _ q => q) fun _ _ _ q => q
          grind
        have hos : s3.os = s1.os := by have := I3.os; rw [eS0] at this; exact this
        exact I1.call' (s' := { s3 with heap := h' }) (ch := fp) hos hU' hok' I3.bare fun b hb => by
          obtain ⟨f0, f1, f2, f3, f4, f5⟩ := hfp b hb
          exact ⟨f3, f1, f4, f5⟩
  exact codeAny_compStart_list loop (T.self _ 0 _ _ _ st1 loop)

theorem pd_compC (own fr : List Str) (js : List Nat) (hc : X.calm = true) (S : CompSc X scope own fr js) (hi : PIC X tg iter fi) (hX : ∀ (pins : List (Addr × Obj)) (fp : List Addr) (X' : Cx), (∃ s₀ H₁ C, X' = cxC X pins s₀ H₁ (own ++ fr) scope (blkC X scope C) C fp) → PGD X' tg G ∧ PTs X' ifs ft ∧ PD X' elt fe) (hG : ∀ ρ d ρ1, G d (blockEv own js ρ) = .ok ρ1 → Weak ρ1 (blockEv own js ρ)) (hs : ∀ x, foldedSetIterable iter X.env x = pure x := by intro _; rfl) :
    PD X (.ListComp elt [⟨tg, iter, ifs, 0⟩] scope pos) (fun ρ => (fi ρ).bind fun ds => if ds.length ≤ sizeLine then (compL G ft fe (blockEv own js ρ) ds).bind fun rs => .ok (.lst rs) else .bad) := by
  refine mkE fun pins s σ H Q I H₀ O₀ O ρ E q => ?_
  dsimp only at q
  refine wpAny_comprehension_free rfl hs (closureFor_eq (Inv.has_cells I S)) S.kind S.names (thn (hi pins s σ H (fun J H1 => ∃ ds rs, Same H H1 ∧ ItC X.K J H1 O ds ∧ ds.length ≤ sizeLine ∧ compL G ft fe (blockEv own js ρ) ds = .ok rs ∧ ∀ v H', Same H H' → Rep X.K H' O v (.lst rs) → Q v H') I ⟨H₀, O₀, O, ρ, E, offK I O E.trk, ?_⟩) fun v s1 h1 => thn h1 fun itv s2 h2 => ?_)
  · cases e1 : fi ρ with
    | ex x => rw [e1] at q; exact q
    | bad => rw [e1] at q; exact q
    | ok ds =>
      rw [e1, R.bind_ok] at q
      intro J H1 s1 hJ
      split at q
      · rename_i hl
        cases e2 : compL G ft fe (blockEv own js ρ) ds with
        | ex x => rw [e2] at q; exact (q H (Same.refl _)).elim
        | bad => rw [e2] at q; exact q.elim
        | ok rs => rw [e2] at q; exact ⟨ds, rs, s1, hJ, hl, e2, q⟩
      · exact q.elim
  · obtain ⟨it, fp, tn, J, H2, e, I2, T, st2, f2, ds, rs, sm, hJ, hl, hrs, q⟩ := h2
    subst e
    refine comp_run hc S (hX pins fp) (hG ρ) I2 T st2 f2 (E.grow sm) hJ hrs hl ?_
    intro acc C s' H' m hn _ _ _ sm' r _ _ hI
    exact ⟨m, hn, fun h' hs' => ⟨.ref acc, H', hI h' hs', rfl, q _ H' (sm.trans sm') r⟩⟩
theorem pd_comp (own fr : List Str) (js : List Nat) (hc : X.calm = true) (S : CompSc X scope own fr js) (hi : PID X tg iter fi) (hX : ∀ (pins : List (Addr × Obj)) (fp : List Addr) (X' : Cx), (∃ s₀ H₁ C, X' = cxC X pins s₀ H₁ (own ++ fr) scope (blkC X scope C) C fp) → PGD X' tg G ∧ PTs X' ifs ft ∧ PD X' elt fe) (hG : ∀ ρ d ρ1, G d (blockEv own js ρ) = .ok ρ1 → Weak ρ1 (blockEv own js ρ)) (hs : ∀ x, foldedSetIterable iter X.env x = pure x := by intro _; rfl) :
    PD X (.ListComp elt [⟨tg, iter, ifs, 0⟩] scope pos) (fun ρ => (fi ρ).bind fun ds => if ds.length ≤ sizeLine then (compL G ft fe (blockEv own js ρ) ds).bind fun rs => .ok (.lst rs) else .bad) := pd_compC own fr js hc S (pic hi) hX hG hs
end
end DL

namespace DL
open PySem PySem.Spec L2
open PyProof.Rows hiding St
variable [Tabs]

def CXE (P : Program) (w : World) : CXT := fun outer H s E e s' => ∃ (a : Addr) (cls a0 : Value) (B : Heap) (H' : Hp), e = .ref a ∧ s'.os = s.os ∧ AllBare s'.gens ∧ Heap.FlyingW B outer a cls a0 s'.heap ∧
  Un (frs outer) [] H H' s.heap s'.heap ∧ HOk P w H' s'.heap ∧ (∀ b o, s.heap.get? b = some o → H b = none → b ∉ frs outer → B.get? b = some o) ∧
  (∀ b o, s.heap.get? b = some o → b ∉ frs outer → ∃ u, B.get? b = some u) ∧ (∀ b u, H' b = some u → ∃ o, B.get? b = some o) ∧ E cls none H'
structure LeavesBy (X : Cx) (E : XK) : Prop where
  xe : ∀ e s', wpAny (model X.prog X.w) X.A (leaving X.env e) (fun _ s'' => CXE X.prog X.w X.outer X.H₀ X.s₀ E e s'') (fun e' s'' => CXE X.prog X.w X.outer X.H₀ X.s₀ E e' s'') s' → X.xe e s'
  stk : X.stack = X.env :: X.outer
  fr : X.env.frame = some X.env.locals
  ex : X.ex = []
theorem _root_.L2.ObjOk.live (x : ObjOk P w H h a o) : h.get? a ≠ none := by
  intro z
  have key : ∀ {u : Obj}, h.get? a = some u → False := fun q => by rw [z] at q; cases q
  cases o with
  | lst xs => obtain ⟨_, _, _, _, e⟩ := x; exact key e
  | tup xs => obtain ⟨_, _, _, o, e, _⟩ := x; exact key e
  | dK kvs => obtain ⟨_, _, _, _, o, _, _, e, _⟩ := x; exact key e
  | dT kvs => obtain ⟨_, _, _, _, o, _, _, e, _⟩ := x; exact key e
  | set S n => obtain ⟨o, _, _, _, e, _⟩ := x; exact key e
  | ins C dx fs => obtain ⟨_, _, _, e, _⟩ := x; exact key e
  | own y => obtain ⟨_, e⟩ := x; exact key e
  | xd fs => obtain ⟨_, ⟨_, _, _, e, _⟩, _⟩ := x; exact key e
  | rng lo hi => obtain ⟨_, _, _, e⟩ := x; exact key e
  | frz ob u => obtain ⟨e, _⟩ := x; exact key e
  | tbl tb => obtain ⟨_, e, _⟩ := x; exact key e
  | met f y => exact key (x)
  | ext φ => obtain ⟨_, ⟨_, e⟩, _⟩ := x; exact key e
theorem HOk.over {P : Program} {w : World} {H : Hp} {h h' B : Heap} (x : HOk P w H h) (b1 : B.StaysIn h) (b2 : B.StaysIn h') (t : ∀ b u, H b = some u → ∃ o, B.get? b = some o) : HOk P w H h' := fun a o e =>
  (x a o e).stay (fun b u hb q => by
    have : ∃ o, B.get? b = some o := by
      rcases hb with rfl | hb
      · exact t _ _ e
      · exact t _ _ hb
    obtain ⟨o', z⟩ := this
    have := b1 b o' z
    rw [q] at this; cases this
    exact b2 b _ z) (fun _ q => q) fun _ _ _ q => q
section

theorem frs_stk (L : LeavesBy X E) : frs X.stack = X.env.locals :: frs X.outer := by
  rw [L.stk]; unfold frs; rw [List.filterMap_cons, L.fr]
theorem fly_out (L : LeavesBy X E) (I : Inv X pins σ H s) {h2 h3 B : Heap} (U : Un (frs X.stack) [] H H' s.heap h2) (k : HOk X.prog X.w H' h2) (b2 : B.StaysIn h2) (b3 : B.StaysIn h3) (us : h2.UpToSlots h3)
    (c1 : ∀ b o, s.heap.get? b = some o → H b = none → b ∉ frs X.stack → B.get? b = some o) (c2 : ∀ b o, s.heap.get? b = some o → b ∉ frs X.stack → ∃ u, B.get? b = some u) (c3 : ∀ b u, H' b = some u → ∃ o, B.get? b = some o) :
    Un (frs X.outer) [] X.H₀ H' X.s₀.heap h3 ∧ HOk X.prog X.w H' h3 ∧ (∀ b o, X.s₀.heap.get? b = some o → X.H₀ b = none → b ∉ frs X.outer → B.get? b = some o) ∧
      (∀ b o, X.s₀.heap.get? b = some o → b ∉ frs X.outer → ∃ u, B.get? b = some u) := by
  have U0 : Un (frs X.outer) [] X.H₀ H X.s₀.heap s.heap := by have := I.base; rw [L.ex] at this; exact this
  have nx : ∀ b : Addr, b ∉ ([] : List Addr) := fun b => List.not_mem_nil
  have ns : ∀ b o, X.s₀.heap.get? b = some o → b ∉ frs X.outer → b ∉ frs X.stack := fun b o q n => by
    rw [frs_stk L]
    intro z
    rcases List.mem_cons.mp z with z | z
    · exact absurd (Heap.lt_size q) (Nat.not_lt_of_le (by rw [z]; exact I.ok.above))
    · exact n z
  have d1 : ∀ b o, X.s₀.heap.get? b = some o → X.H₀ b = none → b ∉ frs X.outer → B.get? b = some o := fun b o q n hb => c1 b o (U0.keep b o q n hb (nx b)) (U0.free b o q n (nx b)) (ns b o q hb)
  have d2 : ∀ b o, X.s₀.heap.get? b = some o → b ∉ frs X.outer → ∃ u, B.get? b = some u := fun b o q hb => by
    obtain ⟨o', q'⟩ := U0.there b o q (nx b)
    exact c2 b o' q' (ns b o q hb)
  have sl : ∀ b o, X.s₀.heap.get? b = some o → b ∈ frs X.outer → ∃ sl, h3.get? b = some { o with slots := sl } := fun b o q hb => by
    have n := I.ok.frf b hb
    obtain ⟨_, o', ho, hd⟩ := I.ok.funs.mem hb
    rw [q] at ho; cases ho
    obtain ⟨s1, e1⟩ := U0.slot b o q n hb (nx b)
    obtain ⟨s2, e2⟩ := U.slot b _ e1 (U0.free b o q n (nx b)) (by rw [frs_stk L]; exact List.mem_cons_of_mem _ hb) (nx b)
    obtain ⟨s3, e3⟩ := us b _ e2 hd
    exact ⟨s3, e3⟩
  refine ⟨⟨fun b o q n hb _ => b3 b o (d1 b o q n hb), fun b o q n hb _ => sl b o q hb, fun b o q n _ => ?_, fun b o q _ => ?_, fun b xs q => U.tups b xs (U0.tups b xs q), fun b o u q => U.frzs b o u (U0.frzs b o u q), fun b ps q => ?_⟩, HOk.over k b2 b3 c3, d1, d2⟩
  · obtain ⟨o', q'⟩ := U0.there b o q (nx b)
    exact U.free b o' q' (U0.free b o q n (nx b)) (nx b)
  · by_cases hb : b ∈ frs X.outer
    · obtain ⟨s3, e3⟩ := sl b o q hb
      exact ⟨_, e3⟩
    · obtain ⟨u, z⟩ := d2 b o q hb
      exact ⟨u, b3 b u z⟩
  · exact U.tbls b ps (U0.tbls b ps q)
theorem pass_cxe (L : LeavesBy X E) : Passes (CXE X.prog X.w) X E := by
  rintro pins σ H s e s' I ⟨a, cls, a0, B, H', e1, os, bare, fl, U, k, c1, c2, c3, w⟩
  subst e1
  refine L.xe _ _ (wpAny_leaves_onW (by rw [I.ok.frames, L.stk]) L.fr (by rw [← L.stk]; exact fl) fun h' fl' us => ?_)
  obtain ⟨q1, q2, q3, q4⟩ := fly_out L I U k fl.1 fl'.1 us c1 c2 c3
  exact ⟨a, cls, a0, B, H', rfl, os.trans I.os, bare, fl', q1, q2, q3, q4, c3, w⟩
theorem raise_cxe (L : LeavesBy X E) (I : Inv X pins σ H s) {h' : Heap} {e : Addr} {cls : Value} {args : List Value} (hx : Heap.MadeExcOf s.heap h' e cls args) (w : E cls none H) : X.xe (.ref e) { s with heap := h' } := by
  have ff : s.heap.FunFrames (PySem.W.hideAll s.heap (frs X.stack)) X.stack := PySem.W.funFrames_hide I.stack fun env he b hb => List.mem_filterMap.mpr ⟨env, he, hb⟩
  have st : (PySem.W.hideAll s.heap (frs X.stack)).StaysIn s.heap := fun b o q => PySem.W.of_hideAll _ q
  refine L.xe _ _ (wpAny_leaves_madeW (base := PySem.W.hideAll s.heap (frs X.stack)) (h := s.heap) (by rw [I.ok.frames, L.stk]) L.fr st (by rw [← L.stk]; exact ff) hx fun h'' t fl _ _ us => ?_)
  have c3 : ∀ b u, H b = some u → ∃ o, (PySem.W.hideAll s.heap (frs X.stack)).get? b = some o := fun b u q => by
    have hn : b ∉ frs X.stack := fun z => by rw [I.stkFree b z] at q; cases q
    have : ∃ o, s.heap.get? b = some o := by
      cases z : s.heap.get? b with
      | some o => exact ⟨o, rfl⟩
      | none => exact absurd z (I.hok b u q).live
    obtain ⟨o, z⟩ := this
    exact ⟨o, PySem.W.hideAll_get _ z hn⟩
  obtain ⟨q1, q2, q3, q4⟩ := fly_out (H' := H) L I Un.refl I.hok st fl.1 ((Heap.UpToSlots.of_keeps hx.keeps).trans us) (fun b o q _ n => PySem.W.hideAll_get _ q n) (fun b o q n => ⟨o, PySem.W.hideAll_get _ q n⟩) c3
  exact ⟨e, cls, .ref t, _, H, rfl, I.os, I.bare, fl, q1, q2, q3, q4, c3, w⟩
end
end DL

namespace DL
open PySem PySem.Spec L2
open PyProof.Rows hiding St
variable [Tabs]

def PEX (X : Cx) (E : XK) (e : Expr) (G : Ev → Option Value) : Prop := ∀ (H₀ : Hp) (O₀ : Addr → Prop) (pins : List (Addr × Obj)) (s : Shared) (σ : St) (H : Hp) (O : Addr → Prop) (ρ : Ev) (C : Value),
  Inv X pins σ H s → EnvOk X.K H₀ O₀ H O σ ρ → OffK X.K O → G ρ = some C → (∀ H', Same H₀ H' → E C none H') → wpAny (model X.prog X.w) X.A (eval e X.env) (fun _ _ => False) X.xe s
def PX (X : Cx) (E : XK) (st : Stmt) (G : Ev → Option Value) : Prop := ∀ (H₀ : Hp) (O₀ : Addr → Prop) (pins : List (Addr × Obj)) (s : Shared) (σ : St) (H : Hp) (O : Addr → Prop) (ρ : Ev) (C : Value),
  Inv X pins σ H s → EnvOk X.K H₀ O₀ H O σ ρ → OffK X.K O → G ρ = some C → (∀ H', Same H₀ H' → E C none H') → wpAny (model X.prog X.w) X.A (exec st X.env) (fun _ _ => False) X.xe s
def PSX (X : Cx) (E : XK) (st : List Stmt) (G : Ev → Option Value) : Prop := ∀ (H₀ : Hp) (O₀ : Addr → Prop) (pins : List (Addr × Obj)) (s : Shared) (σ : St) (H : Hp) (O : Addr → Prop) (ρ : Ev) (C : Value),
  Inv X pins σ H s → EnvOk X.K H₀ O₀ H O σ ρ → OffK X.K O → G ρ = some C → (∀ H', Same H₀ H' → E C none H') → wpAny (model X.prog X.w) X.A (execs st X.env) (fun _ _ => False) X.xe s
def spX (K : PySem.W.Frag) (n : Nat) (m : List D → Option Value) : Sp := fun vs H _ E => ∃ O ds C, Reps K H O vs ds ∧ ds.length = n ∧ (∀ a, O a → ∃ o, H a = some o ∧ Mt o) ∧ Tb H ∧ OffK K O ∧ m ds = some C ∧ ∀ H', Same H H' → E C none H'
theorem leaves_cx {P : Program} {w : World} {K : PySem.W.Frag} {mg : Str → Option Value} {base : Heap} {N : List Str} {qual : Str} {sc : Scope} {f : Addr} {cd : Value} {A : Around} {outer : List Env} {s : Shared} {H : Hp} {E : XK} :
    LeavesBy (cxOf (CXE P w) P w K mg base N qual sc f cd A outer s H E) E := ⟨fun _ _ h => h, rfl, rfl, rfl⟩
section
variable {P : Program} {w : World} {K : PySem.W.Frag} {mg : Str → Option Value} {base : Heap}
abbrev cxX (P : Program) (w : World) (K : PySem.W.Frag) (mg : Str → Option Value) (base : Heap) (N : List Str) (qual : Str) (sc : Scope) (f : Addr) (cdv : Value) (A : Around) (outer : List Env) (s : Shared) (H : Hp) (E : XK) : Cx := cxOf (CXE P w) P w K mg base N qual sc f cdv A outer s H E
theorem fnX {x qual : Str} {st : Stmt} {f : Addr} {fd : FuncData} {N ps : List Str} {k : Nat} {m : List D → Option Value} {G : Ev → Option Value} (F0 : Fun K x qual st f fd) (S : FnScope N ps (defScope st))
    (hb : ∀ (cdv : Value) (A : Around) (outer : List Env) (s : Shared) (H : Hp) (E : XK), Room k (A.deeper (envOfC qual (defScope st) s.heap.objs.size f cdv)) → PSX (cxX P w K mg base N qual (defScope st) f cdv A outer s H E) E (defBody st) G)
    (hm : ∀ ds C, ds.length = ps.length → m ds = some C → G (startD N ds) = some C) : FnOk P w K mg base (CXE P w) (k + 1) f fd ps (spX K ps.length m) := by
  obtain ⟨oc, od, kV, doc, pm, an, cdv, ct, osl, rfl, lk, hcd⟩ := F0.ex
  refine fn_of lk hcd S (by rintro vs H Q E ⟨O, ds, C, r, hl, _⟩; rw [r.length]; exact hl) fun A outer s H vs Q E hr z9 => ?_
  obtain ⟨O, ds, C, r, hl, ht, tb, fk, e, q⟩ := z9
  refine ⟨fun D σ H' => H' = H ∧ EnvOk K H O H O σ (startD N ds), fun pins s1 σ H1 D I z9 => ?_, rfl, env_start r ht tb⟩
  obtain ⟨e1, E1⟩ := z9
  subst e1
  exact wpAny_mono (hb cdv A outer s H1 E hr H1 O pins s1 σ H1 O _ C I E1 fk (hm ds C hl e) q) (fun _ _ z => z.elim) fun _ _ z => z
end
section
variable {X : Cx} {E : XK} {st : Stmt} {rest : List Stmt} {F : Ev → R Out} {G Ga Gb : Ev → Option Value} {pos : Pos}
def thenX (r : R Out) (G : Ev → Option Value) : Option Value := match r with
  | .ok (.nx ρ) => G ρ
  | _ => none
theorem psx_go (h1 : PSD X st F) (h2 : PSX X E rest G) : PSX X E (st :: rest) (fun ρ => thenX (F ρ) G) := by
  intro H₀ O₀ pins s σ H O ρ C I Ev fk e q
  cases e1 : F ρ with
  | ok o =>
    cases o with
    | nx ρ' =>
      have e2 : G ρ' = some C := by dsimp only at e; rw [e1] at e; exact e
      refine wpAny_execs_cons (thn (h1 H₀ O₀ pins s σ H { nx := fun σ' H' => ∃ O', EnvOk X.K H₀ O₀ H' O' σ' ρ' ∧ OffK X.K O', rt := fun _ _ => False } I ⟨O, ρ, Ev, fk, ?_⟩) fun f s1 z => ?_)
      · rw [e1]; exact fun σ' H' O' E' f' _ => ⟨O', E', f'⟩
      · cases f with
        | next =>
          obtain ⟨σ', H', I', O', E', f'⟩ := z
          exact h2 H₀ O₀ pins s1 σ' H' O' ρ' C I' E' f' e2 q
        | ret v => obtain ⟨_, _, _, _, _, z⟩ := z; exact z.elim
        | brk => obtain ⟨_, _, _, z⟩ := z; exact z.elim
        | cont => obtain ⟨_, _, _, z⟩ := z; exact z.elim
    | rt d => dsimp only at e; rw [e1] at e; cases e
    | bk ρ' => dsimp only at e; rw [e1] at e; cases e
    | ct ρ' => dsimp only at e; rw [e1] at e; cases e
  | ex z => dsimp only at e; rw [e1] at e; cases e
  | bad => dsimp only at e; rw [e1] at e; cases e
theorem psx_here (h1 : PX X E st G) : PSX X E (st :: rest) G := fun H₀ O₀ pins s σ H O ρ C I Ev fk e q => wpAny_execs_cons (thn (h1 H₀ O₀ pins s σ H O ρ C I Ev fk e q) fun _ _ z => z.elim)
theorem psx_never {sts : List Stmt} : PSX X E sts (fun _ => none) := fun _ _ _ _ _ _ _ _ _ _ _ _ e => by cases e
def ifX (r : R Bool) (a b : Option Value) : Option Value := match r with
  | .ok true => a
  | .ok false => b
  | _ => none
theorem px_if {c : Expr} {a b : List Stmt} {fc : Ev → R Bool} (hc : PTD X c fc) (ha : PSX X E a Ga) (hb : PSX X E b Gb) : PX X E (.If c a b pos) (fun ρ => ifX (fc ρ) (Ga ρ) (Gb ρ)) := by
  intro H₀ O₀ pins s σ H O ρ C I Ev fk e q
  cases e1 : fc ρ with
  | ok t =>
    refine wpAny_If (thn (hc pins s σ H (fun d H1 => d = t ∧ Same H H1) I ⟨H₀, O₀, O, ρ, Ev, ?_⟩) fun d s1 z9 => ?_)
    · rw [e1]; exact fun H' s' => ⟨rfl, s'⟩
    · obtain ⟨H1, I1, ed, sm⟩ := z9
      subst ed
      dsimp only at e
      rw [e1] at e
      cases d with
      | true => exact ha H₀ O₀ pins s1 σ H1 O ρ C I1 (Ev.grow sm) fk e q
      | false => exact hb H₀ O₀ pins s1 σ H1 O ρ C I1 (Ev.grow sm) fk e q
  | ex z => dsimp only at e; rw [e1] at e; cases e
  | bad => dsimp only at e; rw [e1] at e; cases e
theorem px_expr {e : Expr} (h : PEX X E e G) (hs : swapsWith e none pos.line X.env = pure false := by rfl) : PX X E (.Expr e pos) G := fun H₀ O₀ pins s σ H O ρ C I Ev fk ec q =>
  wpAny_Expr_any (thn (h H₀ O₀ pins s σ H O ρ C I Ev fk ec q) fun _ _ z => z.elim) I.quiet hs
theorem px_ret {e : Expr} (h : PEX X E e G) : PX X E (.Return (some e) pos) G := fun H₀ O₀ pins s σ H O ρ C I Ev fk ec q =>
  wpAny_Return_some (thn (h H₀ O₀ pins s σ H O ρ C I Ev fk ec q) fun _ _ z => z.elim)
theorem pex_call {k : Nat} {g : Addr} {gd : FuncData} {ps : List Str} {n : Nat} {m : List D → Option Value} {x : Str} {p : Pos} {e : Expr} {es : List Expr} {f : Ev → R (List D)} (hx : Passes (CXE X.prog X.w) X E) (F : FnOk X.prog X.w X.K X.mg X.base (CXE X.prog X.w) k g gd ps (spX X.K n m)) (hr : Room k X.A) (hm : X.mg x = some (.ref g))
    (hk : PySem.W.keepIn X.K (.ref g) = true) (hb : Binds X.K gd ps []) (ha : PAD X (e :: es) f) (hl : ∀ ρ ds, f ρ = .ok ds → ds.length = n) (hg : Gl X x := by rfl)
    (hdb : (x == ("__debug__" : Str)) = false := by decide) (he : starEach (e :: es) X.env = (false, eval e X.env) :: starEach es X.env := by rfl) (hpl : (backTo pos (starEach es X.env)).any (·.1) = false := by rfl) :
    PEX X E (.Call (.Name x p) (e :: es) [] pos) (fun ρ => match f ρ with | .ok ds => m ds | _ => none) := by
  intro H₀ O₀ pins s σ H O ρ C I Ev fk ec q
  dsimp only at ec
  cases e1 : f ρ with
  | ex z => rw [e1] at ec; cases ec
  | bad => rw [e1] at ec; cases ec
  | ok ds =>
    rw [e1] at ec
    refine wpAny_mono (pe_call F hr hg hm hk hb .nil hx ha hdb he hpl pins s σ H (fun _ _ => False) I ⟨H₀, O₀, O, ρ, Ev, ?_⟩) (by rintro u s' ⟨_, _, _, _, z⟩; exact z.elim) fun _ _ z => z
    rw [e1]
    intro vs H1 s1 r1
    rw [List.append_nil]
    exact ⟨O, ds, C, r1, hl ρ ds e1, (Ev.grow s1).trk, (Ev.grow s1).tab, fk, ec, fun H' s2 => q H' (Ev.same.trans (s1.trans s2))⟩
end
section
variable {K : PySem.W.Frag} {h : Heap} {C : Addr} {bmB : List Value} {newId : String}
theorem exc_obj (X : K.In h) (q : PySem.W.excIn K C bmB newId = true) : ∃ bm N nm qn bs hdct sn sub ab col dd k0 k1 k2 k3 k5 mN,
    h.get? C = some (excClassObj nm qn C N bs bm hdct sn sub ab col dd k0 k1 k2 k3 k5 newId) ∧ h.Ns N mN ∧ mN "__init__" = none ∧ OwnTail h bmB bm := by
  unfold PySem.W.excIn at q
  split at q
  · rename_i dd cd sl ho
    split at q
    · rename_i C' bm k0 k1 k2 k3 n k5 hm hs
      simp only [Bool.and_eq_true, beq_iff_eq, Bool.not_eq_true'] at q
      obtain ⟨⟨⟨⟨⟨rfl, rfl⟩, hdel⟩, ht⟩, hok⟩, hni⟩ := q
      obtain ⟨nm, bs, mro, ns, qn, hd, sn, sub, ab, col, del⟩ := cd
      dsimp only at hm hdel hok hni
      subst hm; subst hdel
      have hsl : sl = #[k0, k1, k2, k3, some (.builtin n), k5] := by obtain ⟨l⟩ := sl; simp only at hs; rw [hs]
      subst hsl
      exact ⟨bm, ns, nm, qn, bs, hd, sn, sub, ab, col, dd, k0, k1, k2, k3, k5, _, X _ _ ho, .of_isNs (PySem.W.isNs_of_in X hok), PySem.W.nsMap_none_of_in X hok hni, PySem.W.tail_of_in X ht⟩
    · cases q
  · cases q
end
section
variable {X : Cx} {E : XK} {pos cpos np : Pos} {x : Str} {C : Addr} {bmB : List Value} {B newId initId : String}
theorem px_raise {e₀ : Expr} {rest : List Expr} {f : Ev → R (List D)} (L : LeavesBy X E) (hc : X.calm = true) (hq : PySem.W.excIn X.K C bmB newId = true) (FB : ExcBaseFacts B newId initId bmB) (hm : X.mg x = some (.ref C))
    (ha : PAD X (e₀ :: rest) f) (hg : Gl X x := by rfl) (hdb : (x == ("__debug__" : Str)) = false := by decide)
    (he : starEach (e₀ :: rest) X.env = (false, eval e₀ X.env) :: starEach rest X.env := by rfl) (hpl : (backTo cpos (starEach rest X.env)).any (·.1) = false := by rfl) :
    PX X E (.Raise (some (.Call (.Name x np) (e₀ :: rest) [] cpos)) none pos) (fun ρ => match f ρ with | .ok ds => if ds.length ≤ 1000 then some (.ref C) else none | _ => none) := by
  intro H₀ O₀ pins s σ H O ρ C' I Ev fk ec q
  dsimp only at ec
  cases e1 : f ρ with
  | ex z => rw [e1] at ec; cases ec
  | bad => rw [e1] at ec; cases ec
  | ok ds =>
    rw [e1] at ec
    dsimp only at ec
    split at ec
    · rename_i hl
      cases ec
      obtain ⟨tl, N, nm, qn, bs, hdct, sn, sub, ab, col, dd, k0, k1, k2, k3, k5, mN, hC, hN, hni, T⟩ := exc_obj I.mod.kin hq
      refine wpAny_Raise_call_subT (C := C) (nm := nm) (q := qn) (N := N) (bs := bs) (bm := tl) (hdct := hdct) (sn := sn) (sub := sub) (ab := ab) (col := col) (dd := dd) (k0 := k0) (k1 := k1) (k2 := k2) (k3 := k3) (k5 := k5)
        FB (mN := mN) (T.hasType FB.hasBase) (I.ok.hd hc) (by rw [he]; show (false || (backTo cpos (starEach rest X.env)).any (·.1)) = false; rw [hpl]; rfl) hni (ld_glob I hg hm ⟨rfl, ?_⟩ hdb)
      have h1 := ha cpos pins s σ H (fun vs H1 => vs.length = ds.length ∧ Same H H1) I ⟨H₀, O₀, O, ρ, Ev, by rw [e1]; exact fun vs H1 s1 r1 => ⟨r1.length, s1⟩⟩
      rw [he] at h1 ⊢
      refine Calls.evalArgs_plain (thn h1 fun us s2 ⟨vs, H1, I1, r, l, sm⟩ => ⟨rfl, ?_, I1.bk _ _ hC, hN.keeps I1.bk, T.keeps I1.bk, fun h' e hx => ?_⟩)
      · rw [← r.length, l]; exact Nat.le_of_lt (small1000 hl)
      · exact raise_cxe L I1 hx (q H1 (Ev.same.trans sm))
    · cases ec
end
end DL

namespace DL
open PySem PySem.Spec L2
open PyProof.Rows hiding St
variable [Tabs]

omit [Tabs] in
theorem script_bits {ns : List Int} (h : PySem.W.WData.layableAll [PySem.W.WData.list (ns.map PySem.W.WData.int)] = true) : ∀ x ∈ ns, Builtin.Int.intBits x ≤ 1048576 := fun x hx => by
  have h1 := (PySem.W.layW_cons h).1
  exact PyData.bits_of_layable (by simpa [PyData.layableAll0] using (PySem.W.lay0_int (PySem.W.layableW_item h1 (.int x) (List.mem_map.mpr ⟨x, hx, rfl⟩))))

def Cal (P : Program) (w : World) (K : PySem.W.Frag) (mg : Str → Option Value) (base : Heap) (k : Nat) (x : Str) (n : Nat) (m : List D → R D) : Prop :=
  ∃ g gd ps, FnOk P w K mg base CX0 k g gd ps (spD K n m) ∧ Binds K gd ps [] ∧ PySem.W.keepIn K (.ref g) = true ∧ mg x = some (.ref g)
def LenR (f : Ev → R (List D)) (n : Nat) : Prop := ∀ ρ ds, f ρ = .ok ds → ds.length = n
theorem lenR_nil : LenR nilR 0 := fun ρ ds h => by cases h; rfl
theorem lenR_cons (h : LenR g n) : LenR (consR f g) (n + 1) := fun ρ ds e => by
  unfold consR at e
  cases e1 : f ρ with
  | ok d =>
    rw [e1, R.bind_ok] at e
    cases e2 : g ρ with
    | ok ds' => rw [e2] at e; cases e; rw [List.length_cons, h ρ ds' e2]
    | ex x => simp_all
    | bad => simp_all
  | ex x => simp_all
  | bad => simp_all
section

theorem pd_cal (c : Cal X.prog X.w X.K X.mg X.base k x n m) (hr : Room k X.A) (ha : PAD X (e :: es) f) (hl : LenR f n) (hg : Gl X x := by rfl) (hdb : (x == ("__debug__" : Str)) = false := by decide) (he : starEach (e :: es) X.env = (false, eval e X.env) :: starEach es X.env := by rfl) (hpl : (backTo pos (starEach es X.env)).any (·.1) = false := by rfl) :
    PD X (.Call (.Name x p) (e :: es) [] pos) (fun ρ => (f ρ).bind m) := by
  obtain ⟨g, gd, ps, F, b, kp, em⟩ := c
  exact pd_call F hr em kp b ha hl hg hdb he hpl
end
theorem cal_of {P : Program} {w : World} {K : PySem.W.Frag} {mg : Str → Option Value} {base : Heap} {x qual : Str} {st : Stmt} {f : Addr} {fd : FuncData} {N ps : List Str} {k : Nat} {m : List D → R D} {F : Ev → R Out} (F0 : Fun K x qual st f fd) (S : FnScope N ps (defScope st)) (hb0 : Binds K fd ps []) (hmg : mg x = some (.ref f))
    (hb : ∀ (cdv : Value) (A : Around) (outer : List Env) (s : Shared) (H : Hp) (E : XK), Room k (A.deeper (envOfC qual (defScope st) s.heap.objs.size f cdv)) → PSsD (cxN P w K mg base N qual (defScope st) f cdv A outer s H E) (defBody st) F)
    (hm : ∀ ds d, ds.length = ps.length → m ds = .ok d → retR (F (startD N ds)) = .ok d) : Cal P w K mg base (k + 1) x ps.length m :=
  ⟨f, fd, ps, fnD F0 S hb hm, hb0, F0.kp, hmg⟩
theorem weak_name0 : ∀ d ρ1, (R.ok ((blockEv [x] js ρ).set 0 (Sl.v d)) : R Ev) = .ok ρ1 → Weak ρ1 (blockEv [x] js ρ) := fun d ρ1 h => by
  cases h
  refine ⟨by simp, fun i sl h hn => ?_⟩
  cases i with
  | zero => exact absurd (by simpa [blockEv] using h.symm) hn
  | succ i => rw [List.getElem?_set_ne (by lia)]; exact h

def compOk (sc : Scope) (N : List Str) (scope : Scope) (fr : List Str) (js : List Nat) : Bool :=
  decide (scope.kind = .function) && scope.names.all (fun y => decide (y.2 = .free → (y.1, NameKind.cell) ∉ scope.names)) && scope.names.all (fun y => decide (y.2 = .local → scope.names.lookup y.1 = some .local)) &&
  scope.names.all (fun y => decide (y.2 = .free → sc.names.lookup y.1 = some .cell ∨ sc.names.lookup y.1 = some .free)) && decide (js.length = fr.length) && (js.zip fr).all (fun p => decide (N[p.1]? = some p.2 ∧ (p.2, NameKind.free) ∈ scope.names)) && decide js.Nodup &&
  scope.names.all (fun y => decide (y.2 = .free → scope.names.lookup y.1 = some .free))
theorem compSc (hs : X.env.scope = sc := by rfl) (hN : X.N = N := by rfl) (h : compOk sc N scope fr js = true := by decide +kernel) : CompSc X scope own fr js := by
  simp only [compOk, Bool.and_eq_true, List.all_eq_true, decide_eq_true_eq] at h
  obtain ⟨⟨⟨⟨⟨⟨⟨h1, h2⟩, h3⟩, h4⟩, h5⟩, h6⟩, h7⟩, h8⟩ := h
  subst hs hN
  refine ⟨h1, h2, h3, h4, h5, fun i j x e1 e2 => (h6 (j, x) (List.mem_of_getElem? (i := i) ?_)), h7, h8⟩
  rw [List.getElem?_zip_eq_some]
  exact ⟨e1, e2⟩
theorem compScK (h : compOk X.env.scope X.N scope fr js = true := by first | kernel_rfl | with_unfolding_all rfl) : CompSc X scope own fr js := compSc rfl rfl h
def spLawD (K : PySem.W.Frag) : Sp := fun vs H Q _ => ∃ (a : Addr) (ns : List Int), vs = [.ref a] ∧ SqL K H a (ns.map V.int) ∧ ns.length ≤ 63 ∧ (∀ x ∈ ns, Builtin.Int.intBits x ≤ 1048576) ∧ ∀ H', Q (.bl true) H'
theorem law_of (ht : Tabs.tbs = []) {P : Program} {w : World} {K : PySem.W.Frag} {mg : Str → Option Value} {base : Heap} {k : Nat} {f : Addr} {fd : FuncData} {m : List D → R D} (F : FnOk P w K mg base CX0 k f fd ["script"] (spD K 1 m))
    (h : ∀ ns : List Int, ns.length ≤ 63 → (∀ x ∈ ns, Builtin.Int.intBits x ≤ 1048576) → m [.lst (ns.map D.int)] = .ok (.bl true)) : FnOk P w K mg base CX0 k f fd ["script"] (spLawD K) :=
  F.imp <| by rintro vs H Q E ⟨a, ns, e, hS, hl, hb, q⟩; exact ⟨fun _ => False, _, _, by rw [e]; exact .cons (.lst hS (fun z => z) (Reps.ints ns)) .nil, rfl, fun _ z => z.elim, fun p hp => (by rw [ht] at hp; cases hp), fun _ _ _ z => z, h ns hl hb, fun v H' _ r => by cases r; exact q H'⟩
end DL

namespace DL.Att2
open PySem PySem.W PySem.Calls PyProof.Rows
theorem attach_bits {l : OpenLaw} {n : Nat} {q : Program} {loose : List Str} {XP : (Str → Option Value) → Heap → Prop} {YP : World → Heap → Prop} {d : DefRec}
    (hn : l.most = some n) (hdf : d.params.defaults = [])
    (call : ∀ (w : World) (s₀ s₁ : Shared) (mg mb : Str → Option Value) (fa : Addr) (o : Obj) (pm cd doc : Value) (a : Addr) (vs : List Value) (ns : List Int),
      Ground q loose [] XP w s₀ mg mb s₁.heap → YP w s₁.heap →
      s₁.heap.get? fa = some o → o.data = .func (docDef d.name d.params d.body d.scope pm cd doc) → s₁.heap.CodeRec cd d.name → mg d.name = some (.ref fa) →
      s₁.heap.get? a = some { cls := .type "list", data := .seq vs.toArray } → IntsAre vs ns → ns.length ≤ n → (∀ x ∈ ns, Builtin.Int.intBits x ≤ 1048576) → s₁.gens = #[] →
      codeAny (model l.prog w) callerA (.call (.ref fa) ⟨[.ref a], []⟩) (fun r s' => r = .ok (.ret (.bool true)) ∧ OldK s₁.heap s'.heap ∧ s'.os = s₁.os ∧ AllBare s'.gens) s₁) :
    WalkO q loose XP YP l.row.toRowW d [] (fun f vs => PySem.call f vs) := by
  intro w s₀ s₁ mg mb G Y fa o pm cd doc dV kV ho hd hcd hD hmg hg args vals as hpre hlay hrd hwl hlo
  obtain rfl : dV = .none := Dflts.none hD hdf
  obtain rfl : kV = .none := Dflts.noKw hD
  obtain ⟨a, vs, ns, rfl, rfl, hobj, hints, hlen⟩ := Att.script_of hn hpre hwl
  have hb := DL.script_bits (ns := ns) (by lia)
  refine enter_call (codeAny_mono (call w s₀ s₁ mg mb fa o pm cd doc a vs ns G Y ho (fd_plain hd) hcd hmg hobj hints hlen hb hg) fun r s' hq => ?_)
  obtain ⟨rfl, h2, h3, h4⟩ := hq
  exact ⟨.inl ⟨.bool true, .bool true, [], rfl, fun _ => rfl, .bool true, Att.post_true l _, fun _ => ⟨List.Pairwise.nil, fun _ hm => (nomatch hm)⟩⟩, h2, h3, h4⟩
end DL.Att2

namespace DL
open PySem PySem.Spec L2
open PyProof.Rows hiding St
variable [Tabs]
theorem walk_D {l : PySem.W.OpenLaw} {k : Nat} {q : Program} {loose : List Str} {XP : (Str → Option Value) → Heap → Prop} {YP : World → Heap → Prop} {d : DefRec} {K : Params → PySem.W.Frag}
    (hn : l.most = some 63) (hdf : d.params.defaults = []) (hr : Room k callerA)
    (hY : ∀ (w : World) (h : Heap), YP w h → (K w.params).In h)
    (F : ∀ (w : World) (mg : Str → Option Value) (fa : Addr) (h : Heap), (K w.params).In h → h.Ns mainGlobals mg → mg d.name = some (.ref fa) →
      ∃ fd : FuncData, (∀ (s : Shared) (u : Value), BindsTo s fd ⟨[u], []⟩ [("script", u)]) ∧
        ∀ base : Heap, (K w.params).In base → base.Ns mainGlobals mg → FnOk l.prog w (K w.params) mg base CX0 k fa fd ["script"] (spLawD (K w.params))) :
    PySem.W.WalkO q loose XP YP l.row.toRowW d [] (fun f vs => PySem.call f vs) := by
  refine Att2.attach_bits hn hdf fun w s₀ s₁ mg mb fa o pm cd doc a vs ns G Y ho hd hcd hmg hobj hints hlen hbits hg => ?_
  have KX := hY w _ Y
  obtain ⟨fd, hb, hF⟩ := F w mg fa _ KX G.T.g hmg
  exact law_call KX G.T.g G.T.b G.T.builtins G.T.nolimit hg hobj hints (Nat.le_trans hlen (by decide)) hr hF hb (fun H hO hS => ⟨a, ns, rfl, hS, hlen, hbits, fun _ => rfl⟩) fun H e s' z => z
end DL

namespace DL
open PySem L2
abbrev bits (a : Int) : Nat := Builtin.Int.intBits a
theorem mulR_int (h : MulSz a b) : mulR (.int a) (.int b) = .ok (.int (a * b)) := if_pos h
theorem fdivR_int (h : DivOk b) : fdivR (.int a) (.int b) = .ok (.int (a.fdiv b)) := if_pos h
theorem modR_int (h : b ≠ 0) : modR (.int a) (.int b) = .ok (.int (a.fmod b)) := if_pos h
theorem MulSz.of (h1 : bits a ≤ m) (h2 : bits b ≤ n) (hm : m ≤ 60000000 := by decide) (hn : n ≤ 60000000 := by decide) : MulSz a b := ⟨Nat.le_trans h1 hm, Nat.le_trans h2 hn⟩
theorem bits_neg (h1 : bits a ≤ m) : bits (-a) ≤ m := PyProof.Rows.bits_neg h1
theorem bits_le (h : a.natAbs < 2 ^ n) : bits a ≤ n := PyProof.Rows.intBits_le h
@[simp] theorem evV_z (d : D) (ρ : Ev) : evV 0 (Sl.v d :: ρ) = .ok d := rfl
@[simp] theorem evV_s (i : Nat) (x : Sl) (ρ : Ev) : evV (i + 1) (x :: ρ) = evV i ρ := rfl
@[simp] theorem evB_z (d : D) (ρ : Ev) : evB 0 (Sl.v d :: ρ) = .ok d := rfl
@[simp] theorem evB_s (i : Nat) (x : Sl) (ρ : Ev) : evB (i + 1) (x :: ρ) = evB i ρ := rfl
@[simp] theorem evC_eq (d : D) (ρ : Ev) : evC d ρ = .ok d := rfl
@[simp] theorem thenR_nx (ρ : Ev) (F : Ev → R Out) : thenR (.ok (.nx ρ)) F = F ρ := rfl
@[simp] theorem thenR_rt (d : D) (F : Ev → R Out) : thenR (.ok (.rt d)) F = .ok (.rt d) := rfl
@[simp] theorem retR_rt (d : D) : retR (.ok (.rt d)) = .ok d := rfl
@[simp] theorem retR_ex (e : Str) : retR (.ex e) = .ex e := rfl
@[simp] theorem consR_eq (f : Ev → R D) (g : Ev → R (List D)) (ρ : Ev) : consR f g ρ = (f ρ).bind fun d => (g ρ).bind fun ds => .ok (d :: ds) := rfl
@[simp] theorem nilR_eq (ρ : Ev) : nilR ρ = .ok [] := rfl
@[simp] theorem lstR0 : lstR [] = .ok (.lst []) := rfl
@[simp] theorem lstR4 (a b c d : D) : lstR [a, b, c, d] = .ok (.lst [a, b, c, d]) := rfl
theorem ixR_l (h : atI xs i = some d) : ixR (.lst xs) (.int i) = .ok d := by simp only [ixR, h]
@[simp] theorem addR_ii (a b : Int) : addR (.int a) (.int b) = .ok (.int (a + b)) := rfl
@[simp] theorem ltR_ii (a b : Int) : ltR (.int a) (.int b) = .ok (.bl (decide (a < b))) := rfl
@[simp] theorem toB_b (b : Bool) : toB (.bl b) = .ok b := rfl
@[simp] theorem lenR_l (xs : List D) : lenR [.lst xs] = .ok (.int xs.length) := rfl
@[simp] theorem andV_eq (f g : Ev → R D) (ρ : Ev) : andV f g ρ = ((f ρ).bind toB).bind fun b => if b = true then g ρ else .ok (.bl false) := rfl
@[simp] theorem eqR_ii (a b : Int) : eqR (.int a) (.int b) = .ok (.bl (a == b)) := by simp only [eqR]; rfl
theorem atI_nn {α : Type} {xs : List α} {k : Int} (h0 : 0 ≤ k) : atI xs k = xs[k.toNat]? := by
  unfold atI ixN
  rw [if_pos h0]
  by_cases h : k < xs.length
  · rw [if_pos h]; rfl
  · simp_all
def IntsOf (n : Nat) (xs : List D) : Prop := ∀ x ∈ xs, ∃ i, x = .int i ∧ bits i ≤ n
theorem ints_of {n : Nat} {ns : List Int} (h : ∀ x ∈ ns, bits x ≤ n) : IntsOf n (ns.map D.int) := fun x hx => by
  obtain ⟨i, hi, rfl⟩ := List.mem_map.mp hx
  exact ⟨i, rfl, h i hi⟩
def cellD (g : Int → Int) (xs : List D) (k : Int) : D := match xs[k.toNat]? with
  | some d => d
  | none => .int (g k)
theorem cellD_int (h : IntsOf n xs) (g : Int → Int) (k : Int) : ∃ i, cellD g xs k = .int i ∧ (bits i ≤ n ∨ i = g k) := by
  unfold cellD
  cases e : xs[k.toNat]? with
  | none => exact ⟨_, rfl, .inr rfl⟩
  | some d =>
    obtain ⟨i, rfl, hb⟩ := h d (List.mem_of_getElem? e)
    exact ⟨i, rfl, .inl hb⟩
def wholeD : D → Bool
  | .int _ => true
  | _ => false
theorem bits_of_abs (h1 : -((2 : Int) ^ n) < a) (h2 : a < (2 : Int) ^ n) : bits a ≤ n := bits_le (by
  have e : ((2 ^ n : Nat) : Int) = (2 : Int) ^ n := by simp
  omega)
theorem bits_fdiv (ha : bits a ≤ n) : bits (a.fdiv b) ≤ n := PyProof.Rows.bits_fdiv ha
@[simp] theorem compL_nil' (G : D → Ev → R Ev) (ft : Ev → R Bool) (fe : Ev → R D) (ρ : Ev) : compL G ft fe ρ [] = .ok [] := rfl
end DL
namespace DL
open PySem L2
end DL

namespace DL
open PySem PySem.Spec L2
open PyProof.Rows hiding St
variable [Tabs]
section
variable {K : PySem.W.Frag}
theorem EnvOk.setOwn (E : EnvOk K H₀ O₀ H O σ ρ) (i : Nat) (h : H a = none) (hk : K.lookup a = none) (r : Reps K H O vs xs) :
    EnvOk K H₀ O₀ (upd H a (.lst vs)) (fun b => O b ∨ b = a) (σ.set i (some (.ref a))) (ρ.set i (.o xs)) :=
  E.newOwn i h hk trivial fun h0 => ⟨a, vs, rfl, .inr rfl, h0, upd_same, r.besideO h hk⟩
theorem EnvOk.disown (E : EnvOk K H₀ O₀ H O σ ρ) (e : ρ[i]? = some (.o xs)) : ∃ O', EnvOk K H₀ O₀ H O' σ (ρ.set i (.v (.lst xs))) ∧ (∀ b, O' b → O b) := by
  obtain ⟨a, vs, h1, h2, h3, h4, h5⟩ := E.own i xs e
  exact ⟨fun b => O b ∧ b ≠ a, E.disownO e trivial h1 (fun z => z) ⟨.ref a, rfl, .lst (SqL.of h4) (fun z => z.2 rfl) (h5.sub fun _ z => z.1)⟩, fun b z => z.1⟩
theorem EnvOk.write (E : EnvOk K H₀ O₀ H O σ ρ) (e : ρ[i]? = some (.o xs)) (h1 : σ[i]? = some (some (V.ref a))) (r : Reps K H O vs' xs') :
    EnvOk K H₀ O₀ (upd H a (.lst vs')) O σ (ρ.set i (.o xs')) ∧ Kp H O (upd H a (.lst vs')) O := by
  obtain ⟨a', vs, p1, h2, h3, h4, h5⟩ := E.own i xs e
  have ea : a' = a := by lia
  subst ea
  exact E.writeO e trivial h1 h4 trivial trivial fun _ _ _ => ⟨a', vs', rfl, h2, h3, upd_same, r.upd h4 trivial h2⟩
end

section

def tF (X : Cx) (f : Ev → R (List D)) : TE := fun σ H Q => ∃ H₀ O₀ O ρ, EnvOk X.K H₀ O₀ H O σ ρ ∧ match f ρ with
  | .ok ds => ∀ vs H1 a, Same H H1 → H1 a = none → Reps X.K H1 O vs ds → Q (.ref a) (upd H1 a (.lst vs))
  | .ex e => ∀ H', Same H H' → XW X e H'
  | .bad => False
def PF (X : Cx) (e : Expr) (f : Ev → R (List D)) : Prop := PE X e (tF X f)
theorem kfree (I : Inv X pins σ H s) (h : H a = some o) : X.K.lookup a = none := by
  cases e : X.K.lookup a with
  | none => rfl
  | some ob =>
    have := (I.bs a ob (I.ok.mod.kin a ob e)).2
    grind
theorem pf_lst (h : PAD X es f) : PF X (.List es pos) (fun ρ => (f ρ).bind fun ds => if ds.length ≤ sizeLine then .ok ds else .bad) :=
  peI (pe_lst h) fun σ H Q H₀ O₀ O ρ E q => ⟨H₀, O₀, O, ρ, E, by
    dsimp only at q
    cases e1 : f ρ with
    | ok ds =>
      rw [e1, R.bind_ok] at q
      intro vs H1 s1 r1
      by_cases hz : ds.length ≤ sizeLine
      · rw [if_pos hz] at q
        exact ⟨by rw [r1.length]; exact hz, fun p hp => q vs H1 p s1 hp r1⟩
      · rw [if_neg hz] at q; exact (show False from q).elim
    | ex x => rw [e1] at q; exact q
    | bad => rw [e1] at q; exact q⟩
theorem psd_own (i : Nat) (he : PF X e f) (hN : X.N.Nodup) (hi : X.N[i]? = some x := by rfl) (hx : Loc X.env.scope x := by first | exact Or.inl rfl | exact Or.inr rfl) (hs : swapsWith e (some (.Name x pos')) pos.line X.env = pure false := by rfl) (hf : X.fn x = true ∨ X.env.scope.names.lookup x = some .local := by first | exact .inl rfl | exact .inr rfl | assumption) :
    PSD X (.Assign [.Name x pos'] e pos) (fun ρ => (f ρ).bind fun ds => .ok (.nx (ρ.set i (.o ds)))) := by
  rintro H₀ O₀ pins s σ H D I ⟨O, ρ, E, fk, q⟩
  dsimp only at q
  refine wpAny_Assign_Name (thn (he pins s σ H (fun v H2 => ∃ vs H1 a ds, v = .ref a ∧ H2 = upd H1 a (.lst vs) ∧ Same H H1 ∧ H1 a = none ∧ Reps X.K H1 O vs ds ∧ RS X H₀ O₀ H O (.ok (.nx (ρ.set i (.o ds)))) D) I ⟨H₀, O₀, O, ρ, E, ?_⟩) fun v s1 z9 => ?_) hs
  · cases e1 : f ρ with
    | ok ds =>
      rw [e1, R.bind_ok] at q
      exact fun vs H1 a s1 ha r => ⟨vs, H1, a, ds, rfl, rfl, s1, ha, r, q⟩
    | ex x => rw [e1] at q; exact fun H' s => q H' (E.same.trans s)
    | bad => rw [e1] at q; exact q
  · obtain ⟨y, H2, I2, r2, vs, H1, a, ds, e1, e2, s1', ha, r, q'⟩ := z9
    subst e1 e2
    refine store_ok I2 hN hi hx r2 (fun s3 I3 => ⟨_, _, I3, ?_⟩) hf
    have E2 := (E.grow s1').setOwn i ha (kfree I2 (upd_same)) r
    exact q' _ _ _ E2 (offK I2 _ E2.trk) (fun b o hb n => ⟨by rw [upd_ne (ne_of_none (s1' b o hb) ha)]; exact s1' b o hb, fun z => z.elim n (ne_of_none (s1' b o hb) ha)⟩)
def disE (i : Nat) (ρ : Ev) : Ev := match ρ[i]? with
  | some (.o xs) => ρ.set i (.v (.lst xs))
  | _ => ρ
theorem psd_dis (i : Nat) {st : Stmt} (h : PSD X st F) : PSD X st (fun ρ => F (disE i ρ)) := by
  intro H₀ O₀ pins s σ H D I ⟨O, ρ, E, fk, q⟩
  dsimp only at q
  unfold disE at q
  cases e : ρ[i]? with
  | none => rw [e] at q; exact h H₀ O₀ pins s σ H D I ⟨O, ρ, E, fk, q⟩
  | some sl =>
    rw [e] at q
    cases sl with
    | x C => exact h H₀ O₀ pins s σ H D I ⟨O, ρ, E, fk, q⟩
    | c m φ => exact h H₀ O₀ pins s σ H D I ⟨O, ρ, E, fk, q⟩
    | d kvs => exact h H₀ O₀ pins s σ H D I ⟨O, ρ, E, fk, q⟩
    | no => exact h H₀ O₀ pins s σ H D I ⟨O, ρ, E, fk, q⟩
    | v d => exact h H₀ O₀ pins s σ H D I ⟨O, ρ, E, fk, q⟩
    | o xs =>
      obtain ⟨O', E', sub⟩ := E.disown e
      exact h H₀ O₀ pins s σ H D I ⟨O', _, E', fun a o hk z => fk a o hk (sub a z), RS.grow q fun b o hb n => ⟨hb, fun z => n (sub b z)⟩⟩
def appR (i : Nat) (ρ : Ev) (d : D) : R Out := match ρ[i]? with
  | some (.o xs) => if xs.length < sizeLine then .ok (.nx (ρ.set i (.o (xs ++ [d])))) else .bad
  | _ => .bad
theorem psd_append (i : Nat) (he : PD X e f) (hN : X.N[i]? = some x := by rfl) (hv : Vis X.env.scope x := by first | exact Or.inl rfl | exact Or.inr (Or.inl rfl) | exact Or.inr (Or.inr rfl)) (hd : (x == ("__debug__" : Str)) = false := by decide) (hcd : (x == ("__classdict__" : Str)) = false := by decide) (hbase : attributeBase (.Name x p) "append" X.env (eval (.Name x p) X.env) = eval (.Name x p) X.env := by rfl) (hfew : ((backTo cpos (starEach [e] X.env)).all (fun x => !x.1) && (backToKw cpos (keywordEach [] X.env)).all (fun x => x.1.isSome)
      && decide ([e].length + ([] : List Keyword).length + (if ([] : List Keyword).isEmpty then 0 else 1) < 30)) = true := by rfl) (hline : (apos.endLine == cpos.line) = true := by rfl) (hs : starEach [e] X.env = (false, eval e X.env) :: starEach [] X.env := by rfl) (hplain : (backTo cpos (starEach [] X.env)).any (·.1) = false := by rfl) (hsw : swapsWith (.Call (.Attribute (.Name x p) "append" apos) [e] [] cpos) none pos.line X.env = pure false := by rfl) :
    PSD X (.Expr (.Call (.Attribute (.Name x p) "append" apos) [e] [] cpos) pos) (fun ρ => (f ρ).bind (appR i ρ)) := fun H₀ O₀ =>
  psI (ps_expr (pe_bm PySem.F.plainAttrs_list PySem.F.slot_list_append PySem.F.type_list_append mt_append (pe_var hN hv hd hcd) (pad_cons he pad_nil hs) hbase hfew hline hs hplain) hsw) fun D σ H O ρ E fk q => by
  cases e1 : f ρ with
  | ok d =>
    rw [e1, R.bind_ok] at q
    unfold appR at q
    cases e2 : ρ[i]? with
    | none => rw [e2] at q; exact (q).elim
    | some sl =>
      rw [e2] at q
      cases sl with
      | x C => exact (q).elim
      | c m φ => exact (q).elim
      | d kvs => exact (show False from q).elim
      | no => exact (show False from q).elim
      | v d => exact (show False from q).elim
      | o xs =>
        dsimp only at q
        split at q
        · rename_i hz
          obtain ⟨a, vs, h1, h2, h3, h4, h5⟩ := E.own i xs e2
          refine ⟨_, h1, .inl ⟨rfl, vs, SqL.of h4⟩, H₀, O₀, O, ρ, E, ?_⟩
          show RCs X H O ((f ρ).bind fun d => (R.ok []).bind fun ds => .ok (d :: ds)) _
          rw [e1]
          intro us H1 s1 r1
          cases r1 with
          | cons r1 rn =>
            cases rn
            refine ⟨a, vs, _, rfl, rfl, s1 _ _ h4, by rw [h5.length]; exact hz, ?_⟩
            obtain ⟨E2, k2⟩ := (E.grow s1).write e2 h1 ((h5.same s1).snoc r1)
            exact q σ _ O E2 fk ((Kp.of s1).trans k2)
        · exact (q).elim
  | ex x =>
    rw [e1] at q
    cases e2 : ρ[i]? with
    | none => exact (q H E.same).elim
    | some sl => exact (q H E.same).elim
  | bad => rw [e1] at q; exact (q).elim
theorem psd_compO (i : Nat) (own fr : List Str) (js : List Nat) (hN : X.N.Nodup) (hc : X.calm = true) (S : CompSc X scope own fr js) (hi : PID X tg iter fi) (hX : ∀ (pins : List (Addr × Obj)) (fp : List Addr) (X' : Cx), (∃ s₀ H₁ C, X' = cxC X pins s₀ H₁ (own ++ fr) scope (blkC X scope C) C fp) → PGD X' tg G ∧ PTs X' ifs ft ∧ PD X' elt fe) (hG : ∀ ρ d ρ1, G d (blockEv own js ρ) = .ok ρ1 → Weak ρ1 (blockEv own js ρ)) (hy : X.N[i]? = some y := by rfl) (hyl : X.env.scope.names.lookup y = some .local := by rfl) (hsw : swapsWith (.ListComp elt [⟨tg, iter, ifs, 0⟩] scope pos) (some (.Name y py)) spos.line X.env = pure true := by rfl) (hs : ∀ x, foldedSetIterable iter X.env x = pure x := by intro _; rfl) :
    PSD X (.Assign [.Name y py] (.ListComp elt [⟨tg, iter, ifs, 0⟩] scope pos) spos) (fun ρ => ((fi ρ).bind fun ds => if ds.length ≤ sizeLine then (compL G ft fe (blockEv own js ρ) ds).bind fun rs => R.ok rs else .bad).bind fun rs => .ok (.nx (ρ.set i (.o rs)))) := by
  rintro H₀ O₀ pins s σ H D I ⟨O, ρ, E, fk, q⟩
  dsimp only at q
  rw [exec_Assign_Name_used _ _ _ _ hsw]
  refine wpAny_bind (wpAny_standAt (wpAny_bind ?_))
  refine wpAny_bind (wpAny_mono (wpAny_comprehension_free (use := some (assign (.Name y py) X.env)) rfl hs (closureFor_eq (Inv.has_cells I S)) S.kind S.names (thn (hi pins s σ H (fun J H1 => ∃ ds rs, Same H H1 ∧ ItD X.K J H1 O ds ∧ ds.length ≤ sizeLine ∧ compL G ft fe (blockEv own js ρ) ds = .ok rs ∧ RS X H₀ O₀ H O (.ok (.nx (ρ.set i (.o rs)))) D) I ⟨H₀, O₀, O, ρ, E, offK I O E.trk, ?_⟩) fun v s1 h1 => thn h1 fun itv s2 h2 => ?_)) (fun _ s' hq => wpAny_pure (wpAny_pure hq)) fun _ _ e => e)
  · cases e1 : fi ρ with
    | ex x => rw [e1] at q; exact fun H' s => q H' (E.same.trans s)
    | bad => rw [e1] at q; exact q
    | ok ds =>
      rw [e1, R.bind_ok] at q
      intro J H1 s1 hJ
      split at q
      · rename_i hl
        cases e2 : compL G ft fe (blockEv own js ρ) ds with
        | ex x => rw [e2] at q; exact (q H E.same).elim
        | bad => rw [e2] at q; exact q.elim
        | ok rs => rw [e2] at q; exact ⟨ds, rs, s1, hJ, hl, e2, q⟩
      · exact q.elim
  · obtain ⟨it, fp, tn, J, H2, e, I2, T, st2, f2, ds, rs, sm, hJ, hl, hrs, q⟩ := h2
    subst e
    refine comp_run hc S (hX pins fp) (hG ρ) I2 T st2 f2 (E.grow sm) hJ.c hrs hl ?_
    intro acc C s' H' m hn hCa hCs has sm' r nw hC hI
    have I3 := hI s'.heap (Heap.SameBut.refl ..)
    refine wpAny_assign_Name (store_ok2 (v := .ref acc) I3 hN hy (.inl hyl) rfl (fun s4 I4 z9 => ?_) (.inr hyl))
    obtain ⟨a, hsb, ha⟩ := z9
    have hcell : ∀ x c, X.env.cells.lookup x = some c → c ≠ C := fun x c hc => by
      obtain ⟨v, hv⟩ := I2.cell x c hc
      exact Nat.ne_of_lt (Nat.lt_of_lt_of_le hv.lt hCs)
    have hCL := Nat.ne_of_gt (Nat.lt_of_lt_of_le I2.lt hCs)
    have hCa2 : C ≠ a := by
      grind
    refine ⟨m, hn.sameBut hsb hCa2, fun h' hs' => ?_⟩
    obtain ⟨H1, vs, s1', ha1, eH, rr⟩ := nw
    subst eH
    have E2 := ((E.grow sm).grow s1').setOwn i ha1 (kfree I3 (upd_same (H := H1))) rr
    exact ⟨_, _, (I4.turned (t' := s4.toks) (fun b o hb e => (hs'.2 b hb).trans e) hC hCL (.inr (Nat.le_trans I2.sz hCs)) hcell fun p hp => Nat.ne_of_lt (Nat.lt_of_lt_of_le (Heap.lt_size (I2.pin p hp).1) hCs)), q _ _ _ E2 (offK I3 _ E2.trk) fun b o hb n => ⟨by rw [upd_ne (ne_of_none ((sm.trans s1') b o hb) ha1)]; exact (sm.trans s1') b o hb, fun z => z.elim n (ne_of_none ((sm.trans s1') b o hb) ha1)⟩⟩
theorem psd_comp (i : Nat) (own fr : List Str) (js : List Nat) (hN : X.N.Nodup) (hc : X.calm = true) (S : CompSc X scope own fr js) (hi : PID X tg iter fi) (hX : ∀ (pins : List (Addr × Obj)) (fp : List Addr) (X' : Cx), (∃ s₀ H₁ C, X' = cxC X pins s₀ H₁ (own ++ fr) scope (blkC X scope C) C fp) → PGD X' tg G ∧ PTs X' ifs ft ∧ PD X' elt fe) (hG : ∀ ρ d ρ1, G d (blockEv own js ρ) = .ok ρ1 → Weak ρ1 (blockEv own js ρ)) (hy : X.N[i]? = some y := by rfl) (hyl : X.env.scope.names.lookup y = some .local := by rfl) (hsw : swapsWith (.ListComp elt [⟨tg, iter, ifs, 0⟩] scope pos) (some (.Name y py)) spos.line X.env = pure true := by rfl) (hs : ∀ x, foldedSetIterable iter X.env x = pure x := by intro _; rfl) :
    PSD X (.Assign [.Name y py] (.ListComp elt [⟨tg, iter, ifs, 0⟩] scope pos) spos) (fun ρ => ((fi ρ).bind fun ds => if ds.length ≤ sizeLine then (compL G ft fe (blockEv own js ρ) ds).bind fun rs => .ok (D.lst rs) else .bad).bind fun d => .ok (.nx (ρ.set i (.v d)))) := fun H₀ O₀ => psI (psd_compO i own fr js hN hc S hi hX hG hy hyl hsw hs H₀ O₀) fun D σ H O ρ E fk q => ⟨O, ρ, E, fk, by
  dsimp only at q ⊢
  cases e1 : fi ρ with
  | ex x => rw [e1] at q; exact q
  | bad => rw [e1] at q; exact q
  | ok ds =>
    rw [e1, R.bind_ok] at q
    rw [R.bind_ok]
    by_cases hl : ds.length ≤ sizeLine
    · rw [if_pos hl] at q ⊢
      cases e2 : compL G ft fe (blockEv own js ρ) ds with
      | ex x => rw [e2] at q; exact q
      | bad => rw [e2] at q; exact q
      | ok rs =>
        rw [e2] at q
        intro σ' H' O' E' f' k'
        by_cases hi : i < ρ.length
        · obtain ⟨O2, E2, sub⟩ := E'.disown (xs := rs) (by rw [List.getElem?_set_self hi])
          rw [List.set_set] at E2
          exact q σ' H' O2 E2 (fun a o k z => f' a o k (sub a z)) fun b o hb n => ⟨(k' b o hb n).1, fun z => (k' b o hb n).2 (sub b z)⟩
        · have e : ∀ x, ρ.set i x = ρ := fun x => List.set_eq_of_length_le (by lia)
          have q : RS X H₀ O₀ H O (.ok (.nx (ρ.set i (.v (.lst rs))))) D := q
          rw [e] at E' q
          exact q σ' H' O' E' f' k'
    · rw [if_neg hl] at q; exact (q).elim⟩
theorem psd_never {st : Stmt} : PSD X st (fun _ => .bad) := fun H₀ O₀ => psI ps_never fun D σ H O ρ E fk q => q
end
end DL

namespace DL
open PySem PySem.Spec L2
open PyProof.Rows hiding St
variable [Tabs]
section
theorem pf_comp (own fr : List Str) (js : List Nat) (hc : X.calm = true) (S : CompSc X scope own fr js) (hi : PID X tg iter fi) (hX : ∀ (pins : List (Addr × Obj)) (fp : List Addr) (X' : Cx), (∃ s₀ H₁ C, X' = cxC X pins s₀ H₁ (own ++ fr) scope (blkC X scope C) C fp) → PGD X' tg G ∧ PTs X' ifs ft ∧ PD X' elt fe) (hG : ∀ ρ d ρ1, G d (blockEv own js ρ) = .ok ρ1 → Weak ρ1 (blockEv own js ρ)) (hs : ∀ x, foldedSetIterable iter X.env x = pure x := by intro _; rfl) :
    PF X (.ListComp elt [⟨tg, iter, ifs, 0⟩] scope pos) (fun ρ => (fi ρ).bind fun ds => if ds.length ≤ sizeLine then compL G ft fe (blockEv own js ρ) ds else .bad) := by
  refine mkE fun pins s σ H Q I H₀ O₀ O ρ E q => ?_
  dsimp only at q
  refine wpAny_comprehension_free rfl hs (closureFor_eq (Inv.has_cells I S)) S.kind S.names (thn (hi pins s σ H (fun J H1 => ∃ ds rs, Same H H1 ∧ ItD X.K J H1 O ds ∧ ds.length ≤ sizeLine ∧ compL G ft fe (blockEv own js ρ) ds = .ok rs ∧ ∀ vs H1 a, Same H H1 → H1 a = none → Reps X.K H1 O vs rs → Q (.ref a) (upd H1 a (.lst vs))) I ⟨H₀, O₀, O, ρ, E, offK I O E.trk, ?_⟩) fun v s1 h1 => thn h1 fun itv s2 h2 => ?_)
  · cases e1 : fi ρ with
    | ex x => rw [e1] at q; exact q
    | bad => simp_all
    | ok ds =>
      rw [e1, R.bind_ok] at q
      intro J H1 s1 hJ
      by_cases hl : ds.length ≤ sizeLine
      · rw [if_pos hl] at q
        cases e2 : compL G ft fe (blockEv own js ρ) ds with
        | ex x => rw [e2] at q; exact (q H (Same.refl _)).elim
        | bad => simp_all
        | ok rs => rw [e2] at q; exact ⟨ds, rs, s1, hJ, hl, e2, q⟩
      · simp_all
  · obtain ⟨it, fp, tn, J, H2, e, I2, T, st2, f2, ds, rs, sm, hJ, hl, hrs, q⟩ := h2
    subst e
    refine comp_run hc S (hX pins fp) (hG ρ) I2 T st2 f2 (E.grow sm) hJ.c hrs hl ?_
    intro acc C s' H' m hn _ _ _ sm' r nw _ hI
    obtain ⟨H1, vs, s1', ha1, eH, rr⟩ := nw
    subst eH
    exact ⟨m, hn, fun h' hs' => ⟨.ref acc, _, hI h' hs', rfl, q vs H1 acc (sm.trans s1') ha1 rr⟩⟩
def strR : List D → R D
  | [.int i] => if i.natAbs.log2 < 1920 then .ok (.str (toString i)) else .bad
  | _ => .bad
theorem cd_str : CallD X (.type "str") strR := by
  intro H O vs ds Q fr r q
  match ds, q with
  | [.int i], q =>
    obtain ⟨v, rfl, z⟩ := pr1 r
    cases z.intI
    simp only [strR] at q
    split at q
    · rename_i hz; exact ⟨_, call_str_int, i, rfl, hz, q _ H (Same.refl _) .str⟩
    · exact q.elim
def strsD : List D → Option (List Str)
  | [] => some []
  | .str x :: ds => (strsD ds).map (x :: ·)
  | _ :: _ => none
theorem strsD_map : ∀ (xs : List Str), strsD (xs.map D.str) = some xs
  | [] => rfl
  | x :: xs => by rw [List.map_cons, strsD, strsD_map xs]; rfl
theorem strs_vals {K : PySem.W.Frag} : ∀ {vs : List V} {ds : List D} {us : List Value} {xs : List Str}, Reps K H O vs ds → strsD ds = some xs → Vals vs us → StrsAre us xs
  | _, _, _, _, .nil, e, r => by cases e; cases r; exact .nil
  | _, _, _, _, .cons (d := d) h t, e, r => by
    cases d with
    | str x =>
      rw [strsD] at e
      cases e2 : strsD _ with
      | none => rw [e2] at e; cases e
      | some ys =>
        rw [e2] at e
        cases e
        cases h
        cases r with
        | cons r1 r2 =>
          obtain ⟨t1, rfl⟩ := r1
          exact .cons _ _ (strs_vals t e2 r2)
    | _ => cases e
def joinR (sep : Str) : D → R D
  | .lst ds => match strsD ds with
    | some xs => if sep.length ≤ 16 ∧ (xs.map (·.length)).sum + xs.length ≤ 1048576 then .ok (.str (Txt.join sep xs)) else .bad
    | none => .bad
  | _ => .bad
def rJoin (K : PySem.W.Frag) : V → List V → Hp → VK → Prop := fun x vs H Q => ∃ sep l ws xs O ds, x = .str sep ∧ vs = [.ref l] ∧ SqL K H l ws ∧ Reps K H O ws ds ∧ strsD ds = some xs ∧ sep.length ≤ 16 ∧ (xs.map (·.length)).sum + xs.length ≤ 1048576 ∧ Q (.str (Txt.join sep xs)) H
theorem mt_join : MtR X "str.join" (rJoin X.K) := by
  intro pins s σ H x vs v us Q I rx rv h
  obtain ⟨sep, l, ws, xs, O, ds, rfl, rfl, hq, r, e, h1, h2, q⟩ := h
  obtain ⟨t, rfl⟩ := rx
  obtain ⟨u, rfl, ru⟩ := rv.one
  cases ru
  obtain ⟨its, r2, pl, _⟩ := I.list hq
  exact join_listW pl.isList (by simpa using strs_vals r e r2) h1 h2 fun t' k => ⟨.str _, H, I.tok _, ⟨_, rfl⟩, q⟩
theorem pd_join {sep : Str} {e : Expr} {f : Ev → R D} {j p0 apos cpos} (he : PD X e f) (hbase : attributeBase (.Constant (.str sep) j p0) "join" X.env (eval (.Constant (.str sep) j p0) X.env) = eval (.Constant (.str sep) j p0) X.env := by rfl) (hfew : ((backTo cpos (starEach [e] X.env)).all (fun x => !x.1) && (backToKw cpos (keywordEach [] X.env)).all (fun x => x.1.isSome)
      && decide ([e].length + ([] : List Keyword).length + (if ([] : List Keyword).isEmpty then 0 else 1) < 30)) = true := by rfl) (hline : (apos.endLine == cpos.line) = true := by rfl) (hs : starEach [e] X.env = (false, eval e X.env) :: starEach [] X.env := by rfl) (hplain : (backTo cpos (starEach [] X.env)).any (·.1) = false := by rfl) :
    PD X (.Call (.Attribute (.Constant (.str sep) j p0) "join" apos) [e] [] cpos) (fun ρ => (f ρ).bind (joinR sep)) :=
  peI (pe_bm PySem.F.plainAttrs_str PySem.F.slot_str_join PySem.F.type_str_join mt_join pe_str (pad_cons he pad_nil hs) hbase hfew hline hs hplain) fun σ H Q H₀ O₀ O ρ E q => by
    dsimp only at q
    refine ⟨rfl, H₀, O₀, O, ρ, E, ?_⟩
    show RCs X H O ((f ρ).bind fun d => (R.ok []).bind fun ds => .ok (d :: ds)) _
    cases e1 : f ρ with
    | ex x => rw [e1] at q; exact q
    | bad => rw [e1] at q; exact q
    | ok d =>
      rw [e1, R.bind_ok] at q
      intro us H1 s1 r1
      cases r1 with
      | cons r1 rn =>
        cases rn
        cases d with
        | lst ds =>
          obtain ⟨l, ws, rfl, h1, h2⟩ := (RepB.of r1).lstI
          simp only [joinR] at q
          cases e2 : strsD ds with
          | none => rw [e2] at q; exact (show False from q).elim
          | some xs =>
            rw [e2] at q
            dsimp only at q
            split at q
            · rename_i hz
              exact ⟨sep, l, ws, xs, O, ds, rfl, rfl, h1, h2, e2, hz.1, hz.2, q _ H1 s1 .str⟩
            · exact (show False from q).elim
        | _ => exact (show False from q).elim
end
end DL

namespace DL
open PySem PySem.Spec L2
open PyProof.Rows hiding St
section
variable [Tabs] {X : Cx}
def MtD (X : Cx) (id : String) (m : Str → List D → R D) : Prop :=
  ∀ (H : Hp) (O : Addr → Prop) (x : Str) (vs : List V) (ds : List D) (Q : VK), (∀ p, H p = none → ¬ O p) → Reps X.K H O vs ds → RC X H O (m x ds) Q → ∃ r, MtR X id r ∧ r (.str x) vs H Q
def onS (k : Str → R D) : D → R D
  | .str x => k x
  | _ => .bad
theorem pd_bmS {o e : Expr} {es : List Expr} {fo : Ev → R D} {fa : Ev → R (List D)} {name : Str} {id : String} {m : Str → List D → R D} {apos cpos : Pos} (slot : Slot "str" name id) (hty : typeOf (.builtin id) = pure (.type "method_descriptor")) (hm : MtD X id m) (ho : PD X o fo) (ha : PAD X (e :: es) fa)
    (hbase : attributeBase o name X.env (eval o X.env) = eval o X.env := by rfl)
    (hfew : ((backTo cpos (starEach (e :: es) X.env)).all (fun x => !x.1) && (backToKw cpos (keywordEach [] X.env)).all (fun x => x.1.isSome)
      && decide ((e :: es).length + ([] : List Keyword).length + (if ([] : List Keyword).isEmpty then 0 else 1) < 30)) = true := by rfl)
    (hline : (apos.endLine == cpos.line) = true := by rfl) (hs : starEach (e :: es) X.env = (false, eval e X.env) :: starEach es X.env := by rfl) (hplain : (backTo cpos (starEach es X.env)).any (·.1) = false := by rfl) :
    PD X (.Call (.Attribute o name apos) (e :: es) [] cpos) (fun ρ => (fo ρ).bind (onS fun x => (fa ρ).bind (m x))) := by
  have hm' : MtR X id (fun x vs H Q => ∃ r, MtR X id r ∧ r x vs H Q) := fun pins s σ H x xs v us Q I r1 r2 ⟨r, h1, h2⟩ => h1 pins s σ H x xs v us Q I r1 r2 h2
  refine peI (pe_bm PySem.F.plainAttrs_str slot hty hm' ho ha hbase hfew hline hs hplain) fun σ H Q H₀ O₀ O ρ E q => ?_
  dsimp only at q
  refine ⟨H₀, O₀, O, ρ, E, ?_⟩
  cases e1 : fo ρ with
  | ex x => rw [e1] at q; exact q
  | bad => rw [e1] at q; exact q
  | ok d =>
    rw [e1, R.bind_ok] at q
    intro v H1 s1 r1
    cases d with
    | str x =>
      cases r1
      have q : RC X H O ((fa ρ).bind (m x)) Q := q
      have E1 := E.grow s1
      refine ⟨rfl, H₀, O₀, O, ρ, E1, ?_⟩
      have q1 := q.grow s1
      cases e2 : fa ρ with
      | ex x => rw [e2] at q1; exact q1
      | bad => rw [e2] at q1; exact q1
      | ok ds =>
        rw [e2, R.bind_ok] at q1
        intro vs H2 s2 r2
        exact hm H2 O x vs ds Q (fun p hp => (E1.grow s2).fresh hp) r2 (q1.grow s2)
    | _ => exact (show False from q).elim
def startsR (x : Str) : List D → R D
  | [.str y] => .ok (.bl (Txt.startswith x y))
  | _ => .bad
theorem mt_starts : MtD X "str.startswith" startsR := by
  intro H O x vs ds Q fr r q
  refine ⟨fun v vs H Q => ∃ x y, v = .str x ∧ vs = [.str y] ∧ Q (.bl (Txt.startswith x y)) H, fun pins s σ H x xs v us Q I r1 r2 z => ?_, ?_⟩
  · obtain ⟨x, y, rfl, rfl, q⟩ := z
    obtain ⟨t, rfl⟩ := r1
    obtain ⟨u, rfl, t2, rfl⟩ := vals1 r2
    exact SC.startswith ⟨.bl _, H, I, rfl, q⟩
  · match ds, r, q with
    | [.str y], .cons .str .nil, q => exact ⟨x, y, rfl, rfl, q _ H (Same.refl _) .bl⟩
def findR (x : Str) : List D → R D
  | [.str y] => .ok (.int (Txt.find x y))
  | _ => .bad
theorem mt_find : MtD X "str.find" findR := by
  intro H O x vs ds Q fr r q
  refine ⟨fun v vs H Q => ∃ x y, v = .str x ∧ vs = [.str y] ∧ Q (.int (Txt.find x y)) H, fun pins s σ H x xs v us Q I r1 r2 z => ?_, ?_⟩
  · obtain ⟨x, y, rfl, rfl, q⟩ := z
    obtain ⟨t, rfl⟩ := r1
    obtain ⟨u, rfl, t2, rfl⟩ := vals1 r2
    exact SC.find ⟨.int _, H, I.tok _, ⟨_, rfl⟩, q⟩
  · match ds, r, q with
    | [.str y], .cons .str .nil, q => exact ⟨x, y, rfl, rfl, q _ H (Same.refl _) .int⟩
theorem split_at {prog : Program} {w : World} {A : Around} {E : Value → Shared → Prop} {s : Shared} {Q : Value → Shared → Prop} {x y : Str} {t u : Tok} (hy : (y.length == 0) = false) (hz : x.length + 2 ≤ sizeLine)
    (h : ∀ l k, l.map (·.1) = Txt.split x y → Q (.ref s.heap.objs.size) { s with toks := k, heap := s.heap.push { cls := .type "list", data := .seq (strValues l).toArray } }) :
    wpAny (model prog w) A (call (.builtin "str.split") [.str x t, .str y u]) Q E s := by
  have hn : (Builtin.Str.partsBetween x (Builtin.Str.occurrences x y 0 x.length (x.length + 1)) y.length).length ≤ sizeLine := by
    have e1 := StrLaws.occ_length_le x y 0 x.length (x.length + 1)
    rw [length_partsBetween]; omega
  cases h1 : (decide (x.length < y.length) || decide (Builtin.Str.strKind x < Builtin.Str.strKind y))
  · cases hf : (Builtin.Str.occurrences x y 0 x.length (x.length + 1)).isEmpty
    · refine call_meets F.slot_str_split (typeIs_str _ _ _) F.entry_str_split (F.args_str_split_2 _ _) (meets_str_split_sep x y t u h1 hy hf (by omega) hn) ?_
      show wants Q E _ { s with toks := _, heap := s.heap.push { cls := .type "list", data := .seq (strsFrom s.toks (Builtin.Str.partsBetween x (Builtin.Str.occurrences x y 0 x.length (x.length + 1)) y.length)).toArray } }
      rw [strsFrom_eq]
      exact h (numbered s.toks _) _ ((numbered_texts _ _).trans ((if_neg (ne_true_of_eq_false h1)).trans (if_neg (ne_true_of_eq_false hf))).symm)
    · exact call_meets F.slot_str_split (typeIs_str _ _ _) F.entry_str_split (F.args_str_split_2 _ _) (meets_str_split_not_found x y t u h1 hy hf) (h [(x, t)] s.toks ((if_neg (ne_true_of_eq_false h1)).trans (if_pos hf)).symm)
  · exact call_meets F.slot_str_split (typeIs_str _ _ _) F.entry_str_split (F.args_str_split_2 _ _) (meets_str_split_cannot_occur x y t u h1) (h [(x, t)] s.toks (if_pos h1).symm)
theorem split_few {x y : Str} (hz : x.length + 2 ≤ sizeLine) : (Txt.split x y).length ≤ sizeLine := by
  unfold Txt.split
  split
  · simp [sizeLine_eq]
  · split
    · simp [sizeLine_eq]
    · have e1 := StrLaws.occ_length_le x y 0 x.length (x.length + 1)
      rw [length_partsBetween]; omega
def splitR (x : Str) : List D → R D
  | [.str y] => if (y.length == 0) = false ∧ x.length + 2 ≤ 1048576 then .ok (.lst ((Txt.split x y).map .str)) else .bad
  | _ => .bad
theorem vals_strs : ∀ (l : List (Str × Tok)), Vals ((l.map (·.1)).map V.str) (strValues l)
  | [] => .nil
  | p :: l => .cons ⟨p.2, rfl⟩ (vals_strs l)
theorem reps_strs {K : PySem.W.Frag} {H : Hp} {O : Addr → Prop} : ∀ (xs : List Str), Reps K H O (xs.map V.str) (xs.map D.str)
  | [] => .nil
  | x :: xs => .cons .str (reps_strs xs)
theorem mt_split : MtD X "str.split" splitR := by
  intro H O x vs ds Q fr r q
  refine ⟨fun v vs H Q => ∃ x y, v = .str x ∧ vs = [.str y] ∧ (y.length == 0) = false ∧ x.length + 2 ≤ 1048576 ∧ ∀ l, H l = none → Q (.ref l) (upd H l (.lst ((Txt.split x y).map V.str))), fun pins s σ H x xs v us Q I r1 r2 z => ?_, ?_⟩
  · obtain ⟨x, y, rfl, rfl, hy, hz, q⟩ := z
    obtain ⟨t, rfl⟩ := r1
    obtain ⟨u, rfl, t2, rfl⟩ := vals1 r2
    refine split_at hy (by rw [sizeLine_eq]; omega) fun l k e => ?_
    have hl : (Txt.split x y).length ≤ sizeLine := split_few (by rw [sizeLine_eq]; omega)
    refine ⟨.ref s.heap.objs.size, _, I.laid (t' := k) (fun b u e => Heap.get?_push_of_some _ e) (Nat.le_refl _) (show ObjOk X.prog X.w _ _ _ (.lst ((Txt.split x y).map V.str)) from ⟨by rw [List.length_map]; exact hl, strValues l, 0, by rw [← e]; exact vals_strs l, Heap.get?_push_size _ rfl⟩), rfl, q _ (I.hok.fresh (Nat.le_refl _))⟩
  · match ds, r, q with
    | [.str y], .cons .str .nil, q =>
      simp only [splitR] at q
      split at q
      · rename_i h
        exact ⟨x, y, rfl, rfl, h.1, h.2, fun l hl => q _ _ (same_upd hl _) (.lst (SqL.of upd_same) (fr l hl) (reps_strs _))⟩
      · exact q.elim
end
end DL

namespace DL
open PySem PySem.Spec L2
open PyProof.Rows hiding St
def Its (x : Str) : It := ⟨fun i _ => i < x.cps.size, fun i H v H' => H' = H ∧ ∃ c, x.cps[i]? = some c ∧ v = .str ⟨#[c]⟩, fun i _ => x.cps.size ≤ i⟩
theorem turn_str {P : Program} {w : World} {K : PySem.W.Frag} {tg : Expr} {ty : String} {x : Str} {t : Tok} {it : Addr} (hn : ["enumerate", "zip", "dict_itemiterator", "dict_reverseitemiterator", "odict_iterator", "itertools.zip_longest", "itertools.pairwise"].contains ty = false)
    (W : ∀ A' : Around, A'.handled = none → Walks P w A' it [it] [it] x.cps.size (SignAt x) (fun i h => h.IsStrIter it ty x t i)) (hd : ∀ (A' : Around) (i : Nat) (s : Shared) (Q : Option Value → Shared → Prop) (E : Value → Shared → Prop), A'.handled = none → s.heap.IsStrIter it ty x t i → x.cps[i]? = none → (∀ h', Heap.ExtBut it s.heap h' → Q none { s with heap := h' }) → wpAny (model P w) A' (pyNext (.ref it)) Q E s) (hs : ∀ (A : Around) (i : Nat) (s : Shared) (Q : Value → Shared → Prop) (E : Value → Shared → Prop), s.heap.IsStrIter it ty x t i → Q (.ref it) s → wpAny (model P w) A (pyIter (.ref it)) Q E s) : Turn P w K tg (Its x) [it] it (fun i h => h.IsStrIter it ty x t i) where
  mem := by simp
  obj := fun i h st b hb => by
    have e : b = it := by simpa using hb
    subst e
    obtain ⟨o, e, c, d⟩ := st
    exact ⟨o, e, fun v z => by rw [d] at z; cases z⟩
  keep := fun i h h' st k => by
    obtain ⟨o, e, r⟩ := st
    exact ⟨o, k it (by simp) o e, r⟩
  item := by
    intro X hP hw hK hc i pins s σ H E I hf st hg
    subst hP hw hK
    obtain ⟨f0, f1, f2, f3, f4, f5⟩ := hf it (by simp)
    refine (W X.A (I.ok.hd hc)).item i s _ _ hg st fun v h' tk hv st' kk => ?_
    obtain ⟨c, u, hc', rfl⟩ := hv
    have I1 : Inv X pins σ H { s with heap := h', toks := tk } := I.turned (fun b o hb e => kk b o (by simpa using hb) e) f0 f1 f3 f4 f5
    obtain ⟨o, e, c1, d⟩ := id st'
    exact ⟨_, rfl, go_of (s := { s with heap := h', toks := tk }) e c1 d hn ⟨.str ⟨#[c]⟩, H, I1, ⟨u, rfl⟩, ⟨rfl, c, hc', rfl⟩, st', fun b hb => (hf b hb).1⟩⟩
  done := by
    intro X hP hw hK hc i pins s σ H E I hf st hg
    subst hP hw hK
    obtain ⟨f0, f1, f2, f3, f4, f5⟩ := hf it (by simp)
    exact hd X.A i s _ _ (I.ok.hd hc) st (Array.getElem?_eq_none_iff.mpr hg) fun h' eb => ⟨rfl, I.turned (t' := s.toks) (fun b o hb e => eb b o hb e) f0 f1 f3 f4 f5⟩
  self := hs
section
variable [Tabs] {X : Cx}
def signsD (x : Str) : List D := x.cps.toList.map fun c => .str ⟨#[c]⟩
def strOnly : D → R (List D)
  | .str x => .ok (signsD x)
  | _ => .bad
theorem its_d (K : PySem.W.Frag) (H : Hp) (O : Addr → Prop) (x : Str) : ItD K (Its x) H O (signsD x) := by
  intro H2 O2 k hK hO hO2 i
  refine ⟨fun d e => ?_, fun e => ?_⟩
  · unfold signsD at e
    rw [List.getElem?_map] at e
    cases e1 : x.cps.toList[i]? with
    | none => rw [e1] at e; cases e
    | some c =>
      rw [e1] at e
      cases e
      rw [Array.getElem?_toList] at e1
      refine ⟨(Array.getElem?_eq_some_iff.mp e1).1, ?_⟩
      rintro v H3 ⟨h1, c', h2, h3⟩
      subst h1 h3
      rw [e1] at h2
      cases h2
      exact ⟨Same.refl _, .str⟩
  · unfold signsD at e
    rw [List.getElem?_map, Option.map_eq_none_iff, Array.getElem?_toList] at e
    exact Array.getElem?_eq_none_iff.mp e
theorem pid_str {tg iter : Expr} {f : Ev → R D} (h : PD X iter f) : PID X tg iter (fun ρ => (f ρ).bind strOnly) := by
  rintro pins s σ H R I ⟨H₀, O₀, O, ρ, E, fk, q⟩
  dsimp only at q
  refine thn (h pins s σ H (fun v H1 => ∃ x, v = .str x ∧ R (Its x) H1) I ⟨H₀, O₀, O, ρ, E, ?_⟩) fun u s1 z => ?_
  · cases e : f ρ with
    | ok d =>
      rw [e] at q
      cases d with
      | str x =>
        intro v H1 s1 r1
        cases r1
        exact ⟨x, rfl, q _ H1 s1 (its_d X.K H1 O x)⟩
      | _ => exact (q).elim
    | ex x => rw [e] at q; exact q
    | bad => rw [e] at q; exact q
  · obtain ⟨v, H1, I1, r1, x, rfl, q1⟩ := z
    obtain ⟨t, rfl⟩ := r1
    have fo : ∀ b ∈ [s1.heap.objs.size], FpOk X pins H1 b := fun b hb => by
      have e : b = s1.heap.objs.size := by simpa using hb
      subst e
      exact I1.fpOk (Nat.le_refl _) (I1.hok.fresh (Nat.le_refl _))
    cases ha : x.cps.all (· < 128)
    · exact wpAny_pyIter_wide ha ⟨s1.heap.objs.size, [s1.heap.objs.size], _, _, H1, rfl, I1.kept (t' := s1.toks) fun b o e => Heap.get?_push_of_some _ e, turn_str (x := x) (t := t) (ty := "str_iterator") (by decide) (fun A' hA => Walks.strWide hA _ x t) (fun A' i s Q E hA st hx k => wpAny_pyNext_wide_end hA st hx k) (fun A i s Q E st h => wpAny_pyIter_striter_wide st h), ⟨_, Heap.get?_push_size _ rfl, rfl, rfl⟩, fo, q1⟩
    · exact wpAny_pyIter_ascii ha ⟨s1.heap.objs.size, [s1.heap.objs.size], _, _, H1, rfl, I1.kept (t' := s1.toks) fun b o e => Heap.get?_push_of_some _ e, turn_str (x := x) (t := t) (ty := "str_ascii_iterator") (by decide) (fun A' hA => Walks.strAscii hA _ x t) (fun A' i s Q E hA st hx k => wpAny_pyNext_ascii_end hA st hx k) (fun A i s Q E st h => wpAny_pyIter_striter_ascii st h), ⟨_, Heap.get?_push_size _ rfl, rfl, rfl⟩, fo, q1⟩
end
end DL

namespace DL
open PySem PySem.Spec PySem.Calls PySem.W Builtin Builtin.ObjectAttr Builtin.Getset_descriptor
open PyProof.Rows hiding St
section
variable {prog : Program} {w : World} {A : Around} {E : Value → Shared → Prop} {K : Frag} {h : Heap} {g : Array GenState} {d : Drawn} {t : Nat} {os : OsState} {a C : Addr} {o : Obj}
def ExAt (a C : Addr) (h : Heap) : Prop := ∃ o, h.get? a = some o ∧ o.cls = .ref C
theorem exAt_ty {M : Model} (p : ExAt a C h) : Looks M h (typeOf (.ref a)) (.ref C) := by
  obtain ⟨o, h1, h2⟩ := p
  exact h2 ▸ (Looks.ld h1).andThen .now
theorem exc_class_get {R : Result → Shared → Prop} {tp : Value} (X : K.In h) (p : ExAt a C h) (hm : mroIn K C (.type "object") = some true) (q : R (.ok (.ret (.ref C))) ⟨h, g, d, t, os⟩) :
    codeAny (model prog w) A (.call (.builtin "getset_descriptor.__get__") ⟨[.builtin "object.__class__", .ref a, tp], []⟩) R ⟨h, g, d, t, os⟩ := by
  have L0 := exAt_ty (M := model prog w) p; have L1 := looks_mroIn (M := model prog w) X hm
  refine codeAny_call_builtin (s := ⟨h, g, d, t, os⟩) KF.slot_gs.plain KF.entry_gs (KF.slot_gs.check _ _ _ _ _ _ _ _ KF.type_class (KF.args_gs _ _ _) ?_)
  unfold Builtin.«getset_descriptor.__get__» descrGet; rw [dga_obj]
  refine wpAny_bind (wpAny_pure ?_)
  unfold descrGetter descrCheckInstance descrNameAndClass isInstance; simp only [KF.owner_class]
  repeat lk
  refine ⟨Code.quiet_builtin _ (by decide +kernel), codeAny_builtin KF.entry_class ?_⟩
  unfold Builtin.«object.__class__» shownTypeOf; repeat lk
  exact q
theorem exc_class_entry {tk : Tok} {Q : Fin → Shared → Prop} (X : K.In h) (p : ExAt a C h) (hm : mroIn K C (.type "object") = some true) (hcl : findIn K (.ref C) "__class__" = some (some (.builtin "object.__class__")))
    (q : Q (.done (.ret (.ref C))) ⟨h, g, d, t, os⟩) :
    wpAny (model prog w) A (Builtin.«object.__getattribute__» ⟨[.ref a, .str "__class__" tk], []⟩) Q E ⟨h, g, d, t, os⟩ := by
  have L0 := exAt_ty (M := model prog w) p; have L1 := looks_findIn (M := model prog w) X hcl
  have hT5 : (⟨h, g, d, t, os⟩ : Shared).TypeIs (.builtin "object.__class__") "getset_descriptor" := F.typeOf_object_class
  have f5 := F.typeOf_object_class; have f6 := F.slot_gs_get.lookup; have f7 := F.slot_gs_set.lookup
  repeat (any_goals (first | assumption | with_reducible refine L0.at ?_ | with_reducible refine L1.at ?_ | wp_step))
  refine exc_class_get X p hm ?_
  repeat (any_goals (first | assumption | wp_step))
theorem exc_check {M : Model} {nameV : Value} {Q : Unit → Shared → Prop} (X : K.In h) (p : ExAt a C h) (hmb : mroIn K C (.type "BaseException") = some true) (q : Q () ⟨h, g, d, t, os⟩) :
    wpAny M A (checkBuiltinCall "BaseException.__getattribute__" ⟨[.ref a, nameV], []⟩) Q E ⟨h, g, d, t, os⟩ := by
  obtain ⟨o, hx, hc⟩ := id p
  have L2 := looks_mroIn (M := M) X hmb
  have hk : builtinKind "BaseException.__getattribute__" = some .slot := by decide +kernel
  have hsplit : splitId "BaseException.__getattribute__" = some ("BaseException", "__getattribute__") := by decide +kernel
  have ha := F.args_bexc_ga (.ref a) nameV; simp only [checkBuiltinCall, hk, hsplit]
  refine wpAny_bind ?_
  unfold isInstance
  repeat (first | (with_reducible refine wpAny_loadPart_at hx ?_; rw [hc]) | with_reducible refine L2.at ?_ | wp_step)
  exact q
theorem exc_class_by {tk : Tok} {Q : Value → Shared → Prop} (X : K.In h) (p : ExAt a C h) (hm : mroIn K C (.type "object") = some true) (hmb : mroIn K C (.type "BaseException") = some true) (hcl : findIn K (.ref C) "__class__" = some (some (.builtin "object.__class__")))
    (hga : findIn K (.ref C) "__getattribute__" = some (some (.builtin "BaseException.__getattribute__"))) (hgn : findIn K (.ref C) "__getattr__" = some none) (q : Q (.ref C) ⟨h, g, d, t, os⟩) :
    wpAny (model prog w) A (getAttrBy (.ref a) (.str "__class__" tk) false) Q E ⟨h, g, d, t, os⟩ := by
  have L0 := exAt_ty (M := model prog w) p; have L1 := looks_findIn (M := model prog w) X hga; have L2 := looks_mroIn (M := model prog w) X hmb; have L3 := looks_findIn (M := model prog w) X hgn
  have f3 := F.attr_ValueError.ga.bind (.ref a)
  have hx2 : (Value.builtin "BaseException.__getattribute__" == Value.builtin "object.__getattribute__") = false := by decide +kernel
  have hx1 : (onTheHeap (Value.ref C) && Value.builtin "BaseException.__getattribute__" == Value.builtin "object.__getattribute__") = false := by rw [hx2]; rfl
  repeat (any_goals (first | assumption | with_reducible refine L0.at ?_ | with_reducible refine L1.at ?_ | with_reducible refine L3.at ?_ | wp_step))
  refine codeAny_call_builtin F.attr_ValueError.ga.plain F.entry_bexc_ga (exc_check X p hmb (exc_class_entry X p hm hcl ?_))
  repeat (any_goals (first | assumption | wp_step))
theorem exc_class_attr {Q : Option Value → Shared → Prop} (X : K.In h) (p : ExAt a C h) (hm : mroIn K C (.type "object") = some true) (hmb : mroIn K C (.type "BaseException") = some true) (hcl : findIn K (.ref C) "__class__" = some (some (.builtin "object.__class__")))
    (hga : findIn K (.ref C) "__getattribute__" = some (some (.builtin "BaseException.__getattribute__"))) (hgn : findIn K (.ref C) "__getattr__" = some none) (q : Q (some (.ref C)) ⟨h, g, d, t + 1, os⟩) :
    wpAny (model prog w) A (getAttr? (.ref a) "__class__") Q E ⟨h, g, d, t, os⟩ := by
  unfold getAttr? getAttrBy?
  repeat (any_goals (first | assumption | with_reducible apply exc_class_by X p hm hmb hcl hga hgn | wp_step))
end
structure ExCls (K : Frag) (C : Addr) : Prop where
  cls : (clsIn K C).isSome = true
  ob : mroIn K C (.type "object") = some true
  be : mroIn K C (.type "BaseException") = some true
  at_ : findIn K (.ref C) "__class__" = some (some (.builtin "object.__class__"))
  ga : findIn K (.ref C) "__getattribute__" = some (some (.builtin "BaseException.__getattribute__"))
  gn : findIn K (.ref C) "__getattr__" = some none
theorem kitx_exc {K : Frag} {a C : Addr} (Z : ExCls K C) : KitX K (.ref a) (.ref C) (ExAt a C) where
  ty := fun _ _ _ p => exAt_ty p
  it := fun _ _ X _ => by
    have z := Z.cls
    unfold clsIn at z
    split at z
    · rename_i c' d' cd' sl' ho
      intro A' Q' E' s' k q
      unfold isType loadHead; exact wpAny_bind (wpAny_loadPart (k _ _ (X _ _ ho)) (wpAny_pure q))
    · cases z
  ne := fun h tp dd its n sl X htp => by
    refine Bool.eq_false_iff.mpr fun q => ?_
    have e : C = tp := Value.ref.inj (beq_iff_eq.mp q)
    subst e
    have z := Z.cls
    unfold clsIn at z
    split at z
    · rename_i c' d' cd' sl' ho
      have z := (X _ _ ho).symm.trans htp; cases z
    · cases z
  ca := fun {_ _ _ _ _ s} X p k => by obtain ⟨h, g, d, t, os⟩ := s; exact exc_class_attr X p Z.ob Z.be Z.at_ Z.ga Z.gn k
end DL

namespace DL
open PySem PySem.Spec L2
open PyProof.Rows hiding St
variable [Tabs]

def Caught (X : Cx) (E : XK) (pins : List (Addr × Obj)) (σ : St) : Prop := ∀ (H1 : Hp) (s1 : Shared) (e : Value) (s' : Shared), Inv X pins σ H1 s1 → CXE X.prog X.w X.stack H1 s1 E e s' → X.xe e s'
def PEC (X : Cx) (e : Expr) (G : Ev → Option Value) : Prop := ∀ (H₀ : Hp) (O₀ : Addr → Prop) (pins : List (Addr × Obj)) (s : Shared) (σ : St) (H : Hp) (O : Addr → Prop) (ρ : Ev) (C : Value) (E : XK) (W : Value → Shared → Prop),
  Inv X pins σ H s → EnvOk X.K H₀ O₀ H O σ ρ → OffK X.K O → G ρ = some C → (∀ H', Same H H' → E C none H') → Caught (X.wish W) E pins σ → wpAny (model X.prog X.w) X.A (eval e X.env) (fun _ _ => False) W s
def PSC (X : Cx) (st : List Stmt) (G : Ev → Option Value) : Prop := ∀ (H₀ : Hp) (O₀ : Addr → Prop) (pins : List (Addr × Obj)) (s : Shared) (σ : St) (H : Hp) (O : Addr → Prop) (ρ : Ev) (C : Value) (E : XK) (W : Value → Shared → Prop),
  Inv X pins σ H s → EnvOk X.K H₀ O₀ H O σ ρ → OffK X.K O → G ρ = some C → (∀ H', Same H H' → E C none H') → Caught (X.wish W) E pins σ → wpAny (model X.prog X.w) X.A (execs st X.env) (fun _ _ => False) W s
section
variable {X : Cx} {pos : Pos}
theorem psc_expr {e : Expr} {rest : List Stmt} {G : Ev → Option Value} (h : PEC X e G) (hs : swapsWith e none pos.line X.env = pure false := by rfl) : PSC X (.Expr e pos :: rest) G := fun H₀ O₀ pins s σ H O ρ C E W I Ev fk ec q c =>
  wpAny_execs_cons (wpAny_Expr_any (thn (h H₀ O₀ pins s σ H O ρ C E W I Ev fk ec q c) fun _ _ z => z.elim) I.quiet hs)
theorem psc_never {st : List Stmt} : PSC X st (fun _ => none) := fun _ _ _ _ _ _ _ _ _ _ _ _ _ _ e => by cases e
theorem psc_if {c : Expr} {a b rest : List Stmt} {fc : Ev → R Bool} {Ga Gb : Ev → Option Value} (hc : PTD X.nox c fc) (ha : PSC X a Ga) (hb : PSC X b Gb) : PSC X (.If c a b pos :: rest) (fun ρ => ifX (fc ρ) (Ga ρ) (Gb ρ)) := by
  intro H₀ O₀ pins s σ H O ρ C E W I Ev fk e q cg
  cases e1 : fc ρ with
  | ok t =>
    refine wpAny_execs_cons (wpAny_If (wpAny_mono (hc pins s σ H (fun d H1 => d = t ∧ Same H H1) (I.wish _) ⟨H₀, O₀, O, ρ, Ev, ?_⟩) (fun d s1 z9 => ?_) fun _ _ z => False.elim z))
    · rw [e1]; exact fun H' s' => ⟨rfl, s'⟩
    · obtain ⟨H1, I1, ed, sm⟩ := z9
      subst ed
      dsimp only at e
      rw [e1] at e
      cases d with
      | true => exact thn (ha H₀ O₀ pins s1 σ H1 O ρ C E W I1.unwish (Ev.grow sm) fk e (fun H' s' => q H' (sm.trans s')) cg) fun _ _ z => z.elim
      | false => exact thn (hb H₀ O₀ pins s1 σ H1 O ρ C E W I1.unwish (Ev.grow sm) fk e (fun H' s' => q H' (sm.trans s')) cg) fun _ _ z => z.elim
  | ex z => dsimp only at e; rw [e1] at e; cases e
  | bad => dsimp only at e; rw [e1] at e; cases e
theorem pec_call {k : Nat} {g : Addr} {gd : FuncData} {ps : List Str} {n : Nat} {m : List D → Option Value} {x : Str} {p : Pos} {e : Expr} {es : List Expr} {f : Ev → R (List D)} (F : FnOk X.prog X.w X.K X.mg X.base (CXE X.prog X.w) k g gd ps (spX X.K n m)) (hr : Room k X.A) (hm : X.mg x = some (.ref g))
    (hk : PySem.W.keepIn X.K (.ref g) = true) (hb : Binds X.K gd ps []) (ha : PAD X.nox (e :: es) f) (hl : ∀ ρ ds, f ρ = .ok ds → ds.length = n) (hg : Gl X x := by rfl)
    (hdb : (x == ("__debug__" : Str)) = false := by decide) (he : starEach (e :: es) X.env = (false, eval e X.env) :: starEach es X.env := by rfl) (hpl : (backTo pos (starEach es X.env)).any (·.1) = false := by rfl) :
    PEC X (.Call (.Name x p) (e :: es) [] pos) (fun ρ => match f ρ with | .ok ds => m ds | _ => none) := by
  intro H₀ O₀ pins s σ H O ρ C E W I Ev fk ec q cg
  dsimp only at ec
  cases e1 : f ρ with
  | ex z => rw [e1] at ec; cases ec
  | bad => rw [e1] at ec; cases ec
  | ok ds =>
    rw [e1] at ec
    refine wpAny_Call_Name_kw (ld_glob I hg hm ?_ hdb)
    have h1 := ha pos pins s σ H (fun vs H1 => Reps X.K H1 O vs ds ∧ Same H H1) (I.wish _) ⟨H₀, O₀, O, ρ, Ev, by rw [e1]; exact fun vs H1 s1 r1 => ⟨r1, s1⟩⟩
    refine PySem.W.callWith_K (h₀ := X.base) I.ok.mod.kin hk (wpAny_mono h1 (fun us s1 ⟨vs, H1, I1, r, r1, sm⟩ => ⟨I1.kIn, ?_⟩) fun _ _ z => False.elim z) he hpl
    have hl2 : us.length = ps.length := by
      have e2 := F.len vs H1 (fun _ _ => False) E ⟨O, ds, C, r1, hl ρ ds e1, (Ev.grow sm).trk, (Ev.grow sm).tab, fk, ec, fun H' s2 => q H' (sm.trans s2)⟩
      rw [← r.length]; exact e2
    refine wpAny_call (codeAny_mono (F.run X.A X.stack s1 H1 ⟨us, []⟩ us vs (fun _ _ => False) E hr I1.unwish.env0 (by have := hb s1 us I1.kIn (by rw [List.append_nil]; exact hl2); rw [List.append_nil] at this; exact this) r
      ⟨O, ds, C, r1, hl ρ ds e1, (Ev.grow sm).trk, (Ev.grow sm).tab, fk, ec, fun H' s2 => q H' (sm.trans s2)⟩) fun rr s' hq => ?_)
    cases rr with
    | error ee => exact cg H1 s1 ee s' (I1.unwish.wish W) hq
    | ok fl =>
      cases fl with
      | ret u => obtain ⟨_, _, _, _, _, _, _, z⟩ := hq; exact z.elim
      | next => exact False.elim hq
      | brk => exact False.elim hq
      | cont => exact False.elim hq
end

section
variable {X : Cx} {pins : List (Addr × Obj)} {σ : St} {H H' : Hp} {s s' : Shared}
theorem fly_in (I : Inv X pins σ H s) {h3 B : Heap} (U : Un (frs X.stack) [] H H' s.heap s'.heap) (k : HOk X.prog X.w H' s'.heap) (b2 : B.StaysIn s'.heap) (b3 : B.StaysIn h3) (us : s'.heap.UpToSlots h3) (os : s'.os = s.os) (bare : AllBare s'.gens)
    (c1 : ∀ b o, s.heap.get? b = some o → H b = none → b ∉ frs X.stack → B.get? b = some o) (c2 : ∀ b o, s.heap.get? b = some o → b ∉ frs X.stack → ∃ u, B.get? b = some u) (c3 : ∀ b u, H' b = some u → ∃ o, B.get? b = some o) :
    Inv X pins σ H' { s' with heap := h3 } := by
  have nx : ∀ b : Addr, b ∉ ([] : List Addr) := fun b => List.not_mem_nil
  have sl : ∀ b o, s.heap.get? b = some o → H b = none → b ∈ frs X.stack → ∃ sl, h3.get? b = some { o with slots := sl } := fun b o q n hb => by
    obtain ⟨_, o', ho, hd⟩ := I.stack.mem hb
    rw [q] at ho; cases ho
    obtain ⟨s2, e2⟩ := U.slot b _ q n hb (nx b)
    obtain ⟨s3, e3⟩ := us b _ e2 hd
    exact ⟨s3, e3⟩
  refine I.call' (ch := []) os ⟨fun b o q n hb _ => b3 b o (c1 b o q n hb), fun b o q n hb _ => sl b o q n hb, U.free, fun b o q _ => ?_, U.tups, U.frzs, U.tbls⟩ (HOk.over k b2 b3 c3) bare fun b z => absurd z (nx b)
  by_cases hb : b ∈ frs X.stack
  · obtain ⟨s3, e3⟩ := sl b o q (I.stkFree b hb) hb
    exact ⟨_, e3⟩
  · obtain ⟨u, z⟩ := c2 b o q hb
    exact ⟨u, b3 b u z⟩
theorem _root_.L2.Inv.know (I : Inv X pins σ H s) {a : Addr} {o : Obj} (e : s.heap.get? a = some o) (n : H a = none) (nl : a ≠ X.env.locals) (nc : ∀ x c, X.env.cells.lookup x = some c → c ≠ a) (np : ∀ p ∈ X.pn ++ pins, p.1 ≠ a) (n0 : X.s₀.heap.get? a = none) :
    Inv X pins σ (upd H a (.frz o (.own a))) s := by
  have sm : Same H (upd H a (.frz o (.own a))) := same_upd n _
  have ne : ∀ b, b ≠ a → upd H a (.frz o (.own a)) b = H b := fun b h => upd_ne h
  refine ⟨I.ok, I.os, I.bare, ⟨I.base.keep, I.base.slot, fun b u q z hx => ?_, I.base.there, fun b xs q => sm b _ (I.base.tups b xs q), fun b u v q => sm b _ (I.base.frzs b u v q), fun b ps q => ?_⟩, I.loc, I.cell, ?_, fun x c q => ?_, fun p hp => ?_, fun b u q => ?_, I.len⟩
  · rw [ne b (fun z' => by rw [z', n0] at q; cases q)]; exact I.base.free b u q z hx
  · exact sm b _ (I.base.tbls b ps q)
  · rw [ne _ (Ne.symm nl)]; exact I.free
  · rw [ne c (nc x c q)]; exact I.freeC x c q
  · obtain ⟨p1, p2, p3⟩ := I.pin p hp
    exact ⟨p1, by rw [ne _ (np p hp)]; exact p2, p3⟩
  · by_cases hb : b = a
    · subst hb; rw [upd_same] at q; cases q; exact ⟨e, ⟨o, e⟩⟩
    · rw [ne b hb] at q
      exact (I.hok b u q).stay (fun _ _ _ z => z) (fun c z => sm c _ z) fun c xs _ z => sm c _ z
theorem _root_.L2.Inv.forget (I : Inv X pins σ H s) {n : Str} {i : Nat} {m : Str → Option Value} {h' : Heap} {v : Option Value} {tk : Nat} (hN : X.N.Nodup) (hi : X.N[i]? = some n) (hl : ∀ (j : Nat) (x : Str) (v : V), X.N[j]? = some x → σ[j]? = some (some v) → Vis X.env.scope x → ∃ u, RelV v u ∧ Look X.env s.heap m x u)
    (hn' : h'.Ns X.env.locals (fun x => if x = n then v else m x)) (hs : Heap.SameBut X.env.locals s.heap h') : Inv X pins (σ.set i none) H { s with heap := h', toks := tk } := by
  have cne := I.cne
  obtain ⟨m0, ⟨oL, es0, ep0, hoL, _⟩, _⟩ := id I.loc
  have hk : HOk X.prog X.w H h' := fun b ob e => by
    refine (I.hok b ob e).stay (fun c w' hc q => (hs.2 c ?_).trans q) (fun _ q => q) fun _ _ _ q => q
    rintro rfl
    rcases hc with hc | hc
    · rw [← hc, I.free] at e; cases e
    · rw [I.free] at hc; cases hc
  refine ⟨I.ok, I.os, I.bare, ⟨fun b o e n hb hx => ?_, fun b o e n hb hx => ?_, I.base.free, fun b o e hx => ?_, I.base.tups, I.base.frzs, I.base.tbls⟩, ⟨_, hn', fun j y v' e1 e2 e3 => ?_⟩, fun y c e => ?_, I.free, I.freeC, fun p hp => ?_, hk, by simpa using I.len⟩
  · exact (hs.2 b (Nat.ne_of_lt (Nat.lt_of_lt_of_le (Heap.lt_size e) I.ok.above))).trans (I.base.keep b o e n hb hx)
  · obtain ⟨sl, e1⟩ := I.base.slot b o e n hb hx
    exact ⟨sl, (hs.2 b (Nat.ne_of_lt (Nat.lt_of_lt_of_le (Heap.lt_size e) I.ok.above))).trans e1⟩
  · obtain ⟨o', e1⟩ := I.base.there b o e hx
    exact ⟨o', (hs.2 b (Nat.ne_of_lt (Nat.lt_of_lt_of_le (Heap.lt_size e) I.ok.above))).trans e1⟩
  · by_cases hj : i = j
    · subst hj
      have hiσ : i < σ.length := by rw [I.len]; exact (List.getElem?_eq_some_iff.mp hi).1
      rw [List.getElem?_set_self hiσ] at e2
      cases e2
    · rw [List.getElem?_set_ne hj] at e2
      obtain ⟨u', r', q⟩ := hl j y v' e1 e2 e3
      refine ⟨u', r', ?_⟩
      rcases q with ⟨k, e⟩ | ⟨k, c, e, z⟩
      · refine .inl ⟨k, ?_⟩
        have : y ≠ n := fun e => hj (nodup_ix hN hi (e ▸ e1))
        simp [this, e]
      · exact .inr ⟨k, c, e, z.sameBut hs (cne y c e)⟩
  · obtain ⟨w', z⟩ := I.cell y c e
    exact ⟨w', z.sameBut hs (cne y c e)⟩
  · obtain ⟨e, n, ne, nf, d⟩ := I.pin p hp
    exact ⟨(hs.2 p.1 ne).trans e, n, ne, nf, d⟩
abbrev inX (X : Cx) (e : Value) : Cx := { X with A := X.A.mark (some e), calm := false, xe := fun _ _ => False }
theorem _root_.L2.Inv.inX (I : Inv X pins σ H s) (e : Value) : Inv (DL.inX X e) pins σ H s :=
  ⟨⟨I.ok.mod, I.ok.kind, I.ok.glob, I.ok.blt, I.ok.above, I.ok.inj, I.ok.has, I.ok.cab, fun z => (by cases z), I.ok.frames, I.ok.stk, I.ok.exf, I.ok.bs, I.ok.bsz, I.ok.noex, I.ok.exfs, I.ok.funs, I.ok.frf⟩, I.os, I.bare, I.base, I.loc, I.cell, I.free, I.freeC, I.pin, I.hok, I.len⟩
theorem _root_.L2.Inv.outX {e : Value} (ok : X.Ok) (I : Inv (DL.inX X e) pins σ H s) : Inv X pins σ H s := ⟨ok, I.os, I.bare, I.base, I.loc, I.cell, I.free, I.freeC, I.pin, I.hok, I.len⟩
end
section
variable {K : PySem.W.Frag} {H₀ H : Hp} {O₀ O : Addr → Prop} {σ : St} {ρ : Ev}
theorem EnvOk.unset (E : EnvOk K H₀ O₀ H O σ ρ) (i : Nat) : EnvOk K H₀ O₀ H O (σ.set i none) (ρ.set i .no) := E.put i (fun z => z) trivial
theorem EnvOk.setX (E : EnvOk K H₀ O₀ H O σ ρ) (i : Nat) {a : Addr} {o : Obj} (h : H a = some (.frz o (.own a))) : EnvOk K H₀ O₀ H O (σ.set i (some (.ref a))) (ρ.set i (.x o.cls)) := E.put i (fun z => z) ⟨a, o, rfl, h, rfl⟩
end
end DL

namespace DL
open PySem PySem.Spec L2
open PyProof.Rows hiding St
variable [Tabs]
theorem exc_matches {K : PySem.W.Frag} {M : Model} {A : Around} {E : Value → Shared → Prop} {h : Heap} {g : Array GenState} {d : Drawn} {t : Nat} {os : OsState} {a C Ch : Addr} {bmB : List Value} {newId : String} {Q : Bool → Shared → Prop} (X : K.In h) (p : ExAt a C h)
    (hc : PySem.W.mroIn K C (.ref Ch) = some true) (hq : PySem.W.excIn K Ch bmB newId = true) (hb : bmB.contains (.type "BaseException") = true) (q : Q true ⟨h, g, d, t, os⟩) : wpAny M A (excMatches (.ref a) (.ref Ch)) Q E ⟨h, g, d, t, os⟩ := by
  obtain ⟨oe, he, hcls⟩ := p
  obtain ⟨bm, N, nm, qn, bs, hdct, sn, sub, ab, col, dd, k0, k1, k2, k3, k5, mN, hC, hN, hni, T⟩ := exc_obj X hq
  have hcB : (Value.ref Ch :: bm).contains (.type "BaseException") = true := by rw [List.contains_cons, T.hasType hb, Bool.or_true]
  have L2 := PySem.W.looks_mroIn (M := M) X hc
  have f := tc_notTuple
  unfold excMatches
  repeat (first | (with_reducible refine wpAny_loadPart_at he ?_; rw [hcls]) | with_reducible refine wpAny_loadPart_at hC ?_ | with_reducible refine L2.at ?_ | (with_reducible refine wpAny_isSubtype_exc hC ?_; rw [hcB]) | wp_step)
  exact q
def unset (i : Nat) : R Out → R Out
  | .ok (.nx ρ) => .ok (.nx (ρ.set i .no))
  | .ok (.bk ρ) => .ok (.bk (ρ.set i .no))
  | .ok (.ct ρ) => .ok (.ct (ρ.set i .no))
  | r => r
def tryR (i : Nat) (ok : Value → Bool) (G : Ev → Option Value) (F Fs : Ev → R Out) (ρ : Ev) : R Out := match G ρ with
  | some C => if ok C = true then unset i (Fs (ρ.set i (.x C))) else .bad
  | none => F ρ
section
variable {X : Cx} {pos hpos np : Pos}
theorem psd_try (i : Nat) {x n : Str} {Ch : Addr} {bmB : List Value} {newId : String} {body suite : List Stmt} {b₀ : Stmt} {F Fs : Ev → R Out} {G : Ev → Option Value} (ok : Value → Bool)
    (hN : X.N.Nodup) (hstk : X.stack = X.env :: X.outer) (hfr : X.env.frame = some X.env.locals) (hex : X.ex = [])
    (hok : ∀ C, ok C = true → ∃ c, C = .ref c ∧ PySem.W.mroIn X.K c (.ref Ch) = some true)
    (hq : PySem.W.excIn X.K Ch bmB newId = true) (hb : bmB.contains (.type "BaseException") = true) (hm : X.mg x = some (.ref Ch))
    (h1 : PSsD X.nox body F) (h2 : PSC X body G) (h3 : ∀ e, PSsD (inX X e) (b₀ :: suite) Fs)
    (hi : X.N[i]? = some n := by rfl) (hl : X.env.scope.names.lookup n = some .local := by rfl) (hg : Gl X x := by rfl) (hdb : (x == ("__debug__" : Str)) = false := by decide) :
    PSD X (.Try body [.ExceptHandler (some (.Name x np)) (some n) (b₀ :: suite) hpos] [] [] pos) (tryR i ok G F Fs) := by
  rintro H₀ O₀ pins s σ H D I ⟨O, ρ, Ev, fk, q⟩
  refine wpAny_Try_except ?_
  have hkl : X.env.kindOf n = some .local := hl
  unfold tryR at q
  cases e : G ρ with
  | none =>
    rw [e] at q
    refine wpAny_mono (h1 H₀ O₀ pins s σ H D (I.wish _) ⟨O, ρ, Ev, fk, q⟩) (fun f s1 z => ?_) fun _ _ z => False.elim z
    have z := z.unwish
    cases f with
    | next => exact wpAny_execs_nil z
    | ret v => exact z
    | brk => exact z
    | cont => exact z
  | some C =>
    rw [e] at q
    dsimp only at q
    split at q
    case isFalse => exact q.elim
    case isTrue hC =>
    obtain ⟨c, rfl, hmro⟩ := hok C hC
    refine thn (h2 H₀ O₀ pins s σ H O ρ (.ref c) (fun C' _ H' => C' = .ref c ∧ Same H H') _ I Ev fk e (fun H' s' => ⟨rfl, s'⟩) ?_) fun _ _ z => z.elim
    rintro H1 s1 ee s' I1 ⟨a, cls, a0, B, H', e1, os, bare, fl, U, k, c1, c2, c3, ec, sm⟩
    subst e1; subst ec
    have I1 := I1.unwish
    have hfra : X.A.frames = some (X.env :: X.outer) := by rw [← hstk]; exact I.ok.frames
    have fl0 : Heap.FlyingW B (X.env :: X.outer) a (.ref c) a0 s'.heap := by rw [← hstk]; exact fl
    show wpAny _ _ (noteFrame (.ref a) X.env) _ _ _
    refine wpAny_looks_onW hfra hfr fl0 fun h4 held us4 => ?_
    refine wpAny_landsW held fun h5 fl5 us5 => ?_
    have I5 : Inv X pins σ H' { s' with heap := h5 } := fly_in I1 U k fl.1 fl5.1 (us4.trans us5) os bare c1 c2 c3
    refine wpAny_handleBy_cons (codeAny_handlers_test ?_) (by intro z; cases z)
    obtain ⟨ob, hob, hobc⟩ := fl5.there
    refine ld_glob (X := inX X (.ref a)) (s := { s' with heap := h5 }) (I5.inX (.ref a)) hg hm (exc_matches I5.kIn ⟨ob, hob, hobc⟩ hmro hq hb ?_) hdb
    show codeAny _ _ (.handlers _ _ _) _ _
    refine codeAny_handlers_suite_as (lands_againW fl5 fun h6 fl6 us6 => ?_)
    have I6 : Inv X pins σ H' { s' with heap := h6 } := fly_in I1 U k fl.1 fl6.1 ((us4.trans us5).trans us6) os bare c1 c2 c3
    obtain ⟨oe, vs, he, hec, hed, _⟩ := fl6.first
    have nB : B.get? a = none := fl6.2.1
    have na : H' a = none := by
      cases z : H' a with
      | none => rfl
      | some u => obtain ⟨o, z⟩ := c3 a u z; rw [nB] at z; cases z
    have nl : a ≠ X.env.locals := fun z => by
      obtain ⟨m, ⟨o', es, ep, ho', hd', _⟩, _⟩ := I6.loc
      rw [← z] at ho'
      have w1 : some oe = some o' := he.symm.trans ho'
      cases w1
      rw [hed] at hd'; cases hd'
    have nf : a ∉ frs X.stack := fun z => by
      have ff : h6.FunFrames B X.stack := by rw [hstk]; exact fl6.2.2.1
      obtain ⟨_, o', ho, hd⟩ := ff.mem z
      have w1 : some oe = some o' := he.symm.trans ho
      cases w1
      exact hd vs hed
    have nc : ∀ y c', X.env.cells.lookup y = some c' → c' ≠ a := fun y c' hc z => by
      obtain ⟨v, o', ho, hd⟩ := I6.cell y c' hc
      rw [z] at ho
      have w1 : some oe = some o' := he.symm.trans ho
      cases w1
      rw [hed] at hd; cases hd
    have pf : ∀ p ∈ X.pn ++ pins, p.1 ≠ a := fun p hp z => by
      obtain ⟨p1, p2, p3, p4, _⟩ := I1.pin p hp
      have w1 := c1 p.1 p.2 p1 p2 (fun zz => by rcases List.mem_cons.mp (I1.stkSub p.1 zz) with w | w; exact p3 w; exact p4 w)
      rw [z, nB] at w1; cases w1
    have n0 : X.s₀.heap.get? a = none := by
      cases z : X.s₀.heap.get? a with
      | none => rfl
      | some o =>
        obtain ⟨o', z'⟩ := I1.base.there a o z (by rw [hex]; exact List.not_mem_nil)
        obtain ⟨u, w1⟩ := c2 a o' z' nf
        rw [nB] at w1; cases w1
    have I7 := I6.know he na nl nc pf n0
    refine store_ok (X := X) (v := .ref a) I7 hN hi (.inl hl) rfl (fun s8 I8 => ?_) (.inr hl)
    have sm8 : Same H (upd H' a (.frz oe (.own a))) := sm.trans (same_upd na _)
    have Ev8 := (Ev.grow sm8).setX i (a := a) (o := oe) upd_same
    rw [hec] at Ev8
    have run := h3 (.ref a) H₀ O₀ pins s8 _ _ { nx := fun σ' H9 => D.nx (σ'.set i none) H9, rt := D.rt, bk := fun σ' H9 => D.bk (σ'.set i none) H9, ct := fun σ' H9 => D.ct (σ'.set i none) H9 } (I8.inX _) ⟨O, _, Ev8, fk, by
      have q' := RS.grow q (Kp.of (O := O) sm8)
      cases e2 : Fs (ρ.set i (.x (.ref c))) with
      | ok o =>
        rw [e2] at q'
        cases o with
        | nx ρ' => exact fun σ' H9 O' E' f' kp => q' _ H9 O' (E'.unset i) f' kp
        | bk ρ' => exact fun σ' H9 O' E' f' kp => q' _ H9 O' (E'.unset i) f' kp
        | ct ρ' => exact fun σ' H9 O' E' f' kp => q' _ H9 O' (E'.unset i) f' kp
        | rt d => exact q'
      | ex z => rw [e2] at q'; exact q'
      | bad => rw [e2] at q'; exact q'⟩
    refine wpAny_mono run (fun f s9 z => ?_) fun _ _ z => False.elim z
    have go : ∀ {σ' : St} {H9 : Hp} {Q : Unit → Shared → Prop}, Inv (inX X (.ref a)) pins σ' H9 s9 → (∀ s10, Inv X pins (σ'.set i none) H9 s10 → Q () s10) → wpAny (model X.prog X.w) X.A (do bindName X.env n .none; unbindBehindTheSuite X.env n hpos) Q X.xe s9 := fun {σ' H9 Q} I9 hQ => by
      have I9' := Inv.outX I.ok I9
      obtain ⟨m, hn, hloc⟩ := id I9'.loc
      refine wpAny_nameGoes_keeps hkl hn (by rw [I.ok.kind]; rfl) fun h10 v hn' hs' => hQ _ ?_
      exact I9'.forget hN hi hloc hn' hs'
    cases f with
    | next => obtain ⟨σ', H9, I9, q9⟩ := z; exact go I9 fun s10 I10 => ⟨_, H9, I10, q9⟩
    | brk => obtain ⟨σ', H9, I9, q9⟩ := z; exact go I9 fun s10 I10 => ⟨_, H9, I10, q9⟩
    | cont => obtain ⟨σ', H9, I9, q9⟩ := z; exact go I9 fun s10 I10 => ⟨_, H9, I10, q9⟩
    | ret u => obtain ⟨v, σ', H9, I9, r9, q9⟩ := z; exact go I9 fun s10 I10 => ⟨v, _, H9, I10, r9, q9⟩
end
end DL

namespace DL
open PySem PySem.Spec L2
open PyProof.Rows hiding St
section
variable {M : Model} {A : Around} {Er : Value → Shared → Prop} {s : Shared}
theorem held_in {base B : Heap} {l : List Env} {e L C : Addr} {cls a0 : Value} {h h' : Heap} (hh : Heap.HeldW base l e cls a0 L h) (hB : B = PySem.W.hideAll base [C]) (sb : Heap.SameBut C h h') (hC : ∃ o, base.get? C = some o) (hl : C ∉ l.filterMap (·.frame)) : Heap.HeldW B l e cls a0 L h' := by
  obtain ⟨f1, f2, f3, oe, vs, T, oT, ts, he, hc, hd, h1, hnT, hTe, hT, hdT, h3⟩ := hh
  subst hB
  obtain ⟨oC, hC⟩ := hC
  have sub : ∀ b o, (PySem.W.hideAll base [C]).get? b = some o → base.get? b = some o := fun b o q => PySem.W.of_hideAll _ q
  have non : ∀ b, base.get? b = none → (PySem.W.hideAll base [C]).get? b = none := fun b q => by
    cases z : (PySem.W.hideAll base [C]).get? b with
    | none => rfl
    | some o => rw [sub b o z] at q; cases q
  have nC : ∀ b, base.get? b = none → b ≠ C := fun b q z => by subst z; rw [hC] at q; cases q
  refine ⟨fun b o q => ?_, non e f2, ?_, oe, vs, T, oT, ts, (sb.2 e (nC e f2)).trans he, hc, hd, h1, non T hnT, hTe, (sb.2 T (nC T hnT)).trans hT, hdT, h3⟩
  · have : b ≠ C := fun z => by subst z; rw [PySem.W.hideAll_none [b] (List.mem_singleton.mpr rfl)] at q; cases q
    exact (sb.2 b this).trans (f1 b o (sub b o q))
  · clear hT hd hdT h3 he
    revert f3 hl
    induction l with
    | nil => intro _ _; trivial
    | cons env rest ih =>
      intro hl f3
      obtain ⟨hk, ⟨L', o, hf, hn, ho, hd⟩, hr⟩ := f3
      rw [List.filterMap_cons, hf] at hl
      exact ⟨hk, ⟨L', o, hf, non _ hn, (sb.2 L' (fun z => hl (by rw [z]; exact List.mem_cons_self))).trans ho, hd⟩, ih (fun z => hl (List.mem_cons_of_mem _ z)) hr⟩
theorem setFlight_heldW {base : Heap} {l : List Env} {e L L' : Addr} {cls a0 : Value} {Q : Unit → Shared → Prop} (R : Heap.HeldW base l e cls a0 L' s.heap)
    (h : ∀ h', Heap.HeldW base l e cls a0 L h' → s.heap.UpToSlots h' → Q () { s with heap := h' }) : wpAny M A (setFlight (.ref e) (some L)) Q Er s := by
  obtain ⟨hkb, hen, hl, oe, vs, T, oT, ts, he, hcls, hd, h1, hnT, hTe, hT, hdT, h3⟩ := R
  have hsz3 : 3 < ts.size := (Array.getElem?_eq_some_iff.mp h3).1
  have other : ∀ b, b ≠ T → (s.heap.update T (Obj.mapFields (·.setIfInBounds 3 ((some L).elim Value.none fun f => rawInt f)))).get? b = s.heap.get? b :=
    fun b hb => Heap.get?_update_other _ _ (Ne.symm hb)
  have noRecord : ∀ b o, s.heap.get? b = some o → (∀ vs, o.data ≠ .fields vs) → b ≠ T := fun b o hb hnf q => by
    rw [q, hT] at hb; injection hb with hb; subst hb; exact hnf ts hdT
  unfold setFlight
  refine wpAny_bind (wpAny_field he hd h1 ?_)
  rw [if_pos (show (Value.ref T != Value.none) = true from by simp)]
  refine wpAny_setField hT hdT hsz3 (h _ ⟨fun b o hbo => (other b fun q => by rw [q, hnT] at hbo; cases hbo).trans (hkb b o hbo), hen,
    hl.of_keeps fun b o hb hnf => ⟨o, (other b (noRecord b o hb hnf)).trans hb, rfl⟩, ?_⟩ fun b o hb hnf => ⟨o.slots, (other b (noRecord b o hb hnf)).trans hb⟩)
  exact ⟨oe, vs, T, _, _, (other e (Ne.symm hTe)).trans he, hcls, hd, h1, hnT, hTe, Heap.get?_update_self _ hT (Obj.isFreed_of_fields (Obj.data_mapFields hdT _)), Obj.data_mapFields hdT _, by simp [hsz3]⟩
theorem pass_held {base : Heap} {l : List Env} {e L L' : Addr} {cls a0 : Value} {α : Type} {what : String} {cenv : Env} {Q : α → Shared → Prop} (R : Heap.HeldW base l e cls a0 L' s.heap) (hf : cenv.frame = some L)
    (h : ∀ h', Heap.HeldW base l e cls a0 L h' → s.heap.UpToSlots h' → Er (.ref e) { s with heap := h' }) : wpAny M A (PySem.passOn what (.ref e) cenv : Sem α) Q Er s := by
  obtain ⟨_, _, _, oe, ws, T, oT, ts, he, hc, hd, h1, _⟩ := id R
  unfold PySem.passOn
  refine wpAny_bind (wpAny_field he hd h1 ?_)
  rw [if_neg (show ¬ ((Value.ref T == Value.none) = true) from by simp), hf]
  first
    | exact wpAny_bind (wpAny_pure (wpAny_bind (setFlight_heldW R fun h' hh hs => wpAny_throw (h h' hh hs))))
    | exact wpAny_bind (setFlight_heldW R fun h' hh hs => wpAny_throw (h h' hh hs))
end
section
variable [Tabs] {X : Cx} {E : XK}
theorem fly_outC (L : LeavesBy X E) (I : Inv X pins σ H s) {h2 h3 B : Heap} {C : Addr} (hC : C ∉ frs X.outer) (U : Un (frs X.stack) [] H H' s.heap h2) (k : HOk X.prog X.w H' h2) (b2 : B.StaysIn h2) (b3 : B.StaysIn h3) (us : ∀ b o, b ≠ C → h2.get? b = some o → (∀ vs, o.data ≠ .fields vs) → ∃ sl, h3.get? b = some { o with slots := sl })
    (c1 : ∀ b o, X.s₀.heap.get? b = some o → s.heap.get? b = some o → H b = none → b ∉ frs X.stack → B.get? b = some o) (c2 : ∀ b o u, X.s₀.heap.get? b = some u → s.heap.get? b = some o → b ∉ frs X.stack → ∃ u, B.get? b = some u) (c3 : ∀ b u, H' b = some u → ∃ o, B.get? b = some o) :
    Un (frs X.outer) [] X.H₀ H' X.s₀.heap h3 ∧ HOk X.prog X.w H' h3 ∧ (∀ b o, X.s₀.heap.get? b = some o → X.H₀ b = none → b ∉ frs X.outer → B.get? b = some o) ∧
      (∀ b o, X.s₀.heap.get? b = some o → b ∉ frs X.outer → ∃ u, B.get? b = some u) := by
  have U0 : Un (frs X.outer) [] X.H₀ H X.s₀.heap s.heap := by have := I.base; rw [L.ex] at this; exact this
  have nx : ∀ b : Addr, b ∉ ([] : List Addr) := fun b => List.not_mem_nil
  have ns : ∀ b o, X.s₀.heap.get? b = some o → b ∉ frs X.outer → b ∉ frs X.stack := fun b o q n => by
    rw [frs_stk L]
    intro z
    rcases List.mem_cons.mp z with z | z
    · exact absurd (Heap.lt_size q) (Nat.not_lt_of_le (by rw [z]; exact I.ok.above))
    · exact n z
  have d1 : ∀ b o, X.s₀.heap.get? b = some o → X.H₀ b = none → b ∉ frs X.outer → B.get? b = some o := fun b o q n hb => c1 b o q (U0.keep b o q n hb (nx b)) (U0.free b o q n (nx b)) (ns b o q hb)
  have d2 : ∀ b o, X.s₀.heap.get? b = some o → b ∉ frs X.outer → ∃ u, B.get? b = some u := fun b o q hb => by
    obtain ⟨o', q'⟩ := U0.there b o q (nx b)
    exact c2 b o' o q q' (ns b o q hb)
  have sl : ∀ b o, X.s₀.heap.get? b = some o → b ∈ frs X.outer → ∃ sl, h3.get? b = some { o with slots := sl } := fun b o q hb => by
    have n := I.ok.frf b hb
    obtain ⟨_, o', ho, hd⟩ := I.ok.funs.mem hb
    rw [q] at ho; cases ho
    obtain ⟨s1, e1⟩ := U0.slot b o q n hb (nx b)
    obtain ⟨s2, e2⟩ := U.slot b _ e1 (U0.free b o q n (nx b)) (by rw [frs_stk L]; exact List.mem_cons_of_mem _ hb) (nx b)
    obtain ⟨s3, e3⟩ := us b _ (fun z => hC (z ▸ hb)) e2 hd
    exact ⟨s3, e3⟩
  refine ⟨⟨fun b o q n hb _ => b3 b o (d1 b o q n hb), fun b o q n hb _ => sl b o q hb, fun b o q n _ => ?_, fun b o q _ => ?_, fun b xs q => U.tups b xs (U0.tups b xs q), fun b o u q => U.frzs b o u (U0.frzs b o u q), fun b ps q => ?_⟩, HOk.over k b2 b3 c3, d1, d2⟩
  · obtain ⟨o', q'⟩ := U0.there b o q (nx b)
    exact U.free b o' q' (U0.free b o q n (nx b)) (nx b)
  · by_cases hb : b ∈ frs X.outer
    · obtain ⟨s3, e3⟩ := sl b o q hb
      exact ⟨_, e3⟩
    · obtain ⟨u, z⟩ := d2 b o q hb
      exact ⟨u, b3 b u z⟩
  · exact U.tbls b ps (U0.tbls b ps q)
end
section
variable {M : Model} {A : Around} {Er : Value → Shared → Prop} {s : Shared} {env : Env}
def compPostF (M : Model) (A : Around) (Er : Value → Shared → Prop) (Q : Value → Shared → Prop) (env : Env) (scope : Scope) (acc : Value) (cenv : Env) (r : Result) (s' : Shared) : Prop :=
  match r with
  | .ok _ => ∃ m, s'.heap.Ns cenv.locals m ∧ ∀ h', Heap.SameBut cenv.locals s'.heap h' → Q acc { s' with heap := h' }
  | .error x => ∃ m, s'.heap.Ns cenv.locals m ∧ ∀ h', Heap.SameBut cenv.locals s'.heap h' → wpAny M A (PySem.passOn "comprehension.variables-let-go" x { cenv with scope := relabel scope env } : Sem Value) (fun _ _ => False) Er { s' with heap := h' }
theorem comp_frame {e : Expr} {scope : Scope} {pos : Pos} {newAcc first : Sem Value} {g : Comprehension} {gs : List Comprehension} {cl : List (Str × Addr)} 
    {Q : Value → Shared → Prop}
    (hcl : clausesOf e = g :: gs) (hs : ∀ x, foldedSetIterable g.iter env x = pure x) (hclos : closureFor scope env = pure cl)
    (hkind : scope.kind = .function) (hnames : ∀ x ∈ scope.names, x.2 = .local → scope.names.lookup x.1 = some .local)
    (h : wpAny M A first (fun x s₁ => wpAny M A (pyIter x) (fun it s₂ => wpAny M A newAcc (fun acc s₃ =>
      wpAny M A (newFunctionEnv scope env.globals cl [] env.qual none .none (some env)) (fun cenv s₄ =>
        codeAny M A (.compStart e 0 it acc { cenv with scope := relabel scope env }) (compPostF M A Er Q env scope acc cenv) s₄) Er s₃) Er s₂) Er s₁) Er s) :
    wpAny M A (comprehension e scope env pos newAcc false first none) Q Er s := by
  unfold comprehension
  rw [hclos, hcl]
  refine wpAny_bind (wpAny_mono h (fun x s₁ h₁ => wpAny_bind (wpAny_standAt (wpAny_bind (wpAny_of_eq (hs x) (wpAny_bind (wpAny_holding (wpAny_mono h₁ (fun it s₂ h₂ =>
    wpAny_standIf (wpAny_bind (wpAny_mono h₂ (fun acc s₃ h₃ => wpAny_bind (wpAny_pure (wpAny_bind (wpAny_mono h₃ (fun cenv s₄ h₄ => ?_) fun _ _ h' => h')))) fun _ _ h' => h')))
      fun _ _ h' => h'))))))) fun _ _ h' => h')
  dsimp only
  have hv : ∀ x ∈ (scope.names.filter fun x => (x.2 == .local || x.2 == .cell) && x.1 != (".0" : Str)).reverse, x.2 = .local →
      Env.kindOf { cenv with scope := relabel scope env } x.1 = some .local := fun x hx hl => lookup_relabel_local (hnames x (List.mem_filter.mp (List.mem_reverse.mp hx)).1 hl)
  have hv' : ∀ x ∈ (scope.names.filter fun x => (x.2 == .local || x.2 == .cell) && x.1 != (".0" : Str)).reverse.drop 1 ++ (scope.names.filter fun x => (x.2 == .local || x.2 == .cell) && x.1 != (".0" : Str)).reverse.take 1,
      x.2 = .local → Env.kindOf { cenv with scope := relabel scope env } x.1 = some .local := fun x hx hl => by
    rcases List.mem_append.mp hx with h1 | h1
    · exact hv x (List.mem_of_mem_drop h1) hl
    · exact hv x (List.mem_of_mem_take h1) hl
  refine wpAny_holding (wpAny_bind (wpAny_attempt (wpAny_holding (wpAny_run (codeAny_mono h₄ fun r s' hr => ?_)))))
  cases r with
  | ok f =>
    obtain ⟨m, hn, hr⟩ := hr
    exact wpAny_bind (wpAny_holding (wpAny_comp_letGo (cenv := { cenv with scope := relabel scope env }) hkind _ s' m hv hn fun h' m' _ hs' => wpAny_pure (hr h' hs')))
  | error x =>
    obtain ⟨m, hn, hr⟩ := hr
    exact wpAny_bind (wpAny_holding (wpAny_comp_letGo (cenv := { cenv with scope := relabel scope env }) hkind _ s' m hv hn fun h' m' _ hs' => wpAny_mono (hr h' hs') (fun _ _ f => f.elim) fun _ _ y => y))
end
section
variable [Tabs]
theorem comp_loopE {R : Result → Shared → Prop} (I : Nat → Shared → Prop) (turn : ∀ n s, I n s → wpAny (model prog w) A (pyNext it) (fun r s₁ => match r with
      | none => R (.ok .next) s₁
      | some v => wpAny (model prog w) A (letOwnedTupleGo target it v) (fun _ s₁' => wpAny (model prog w) A (assign target env v) (fun _ s₂ =>
          wpAny (model prog w) A (forIn ifs true fun c r => if r = true then do let ok ← isTrue c env (eval c env); pure (ForInStep.yield ok) else pure (ForInStep.yield r)) (fun ok s₃ =>
            if ok = true then wpAny (model prog w) A (eval elt env) (fun x s₄ =>
              wpAny (model prog w) A (call (.builtin "list.append") [acc, x]) (fun _ s₅ => ∃ m, m < n ∧ I m s₅) (fun _ _ => False) s₄) (notedBy (model prog w) A env fun x s' => R (.error x) s') s₃
            else ∃ m, m < n ∧ I m s₃) (fun _ _ => False) s₂) (fun _ _ => False) s₁') (fun _ _ => False) s₁) (fun _ _ => False) s) (n : Nat) (h : I n s) : codeAny (model prog w) A (.compLoop (.ListComp elt [⟨target, iter, ifs, 0⟩] scope pos) 0 it acc env) R s := by
  refine codeAny_loop rfl I (fun n s hI => ?_) n h
  refine wpAny_noted ?_
  rw [compTurn_list]
  refine wpAny_bind (wpAny_standAt (wpAny_bind (wpAny_mono (turn n s hI) (fun r s₁ h₁ => ?_) fun _ _ h' => h'.elim)))
  cases r with
  | none => exact wpAny_pure h₁
  | some v =>
    refine wpAny_bind (wpAny_mono h₁ (fun _ s₁' h₁' => ?_) fun _ _ h' => h'.elim)
    refine wpAny_bind (wpAny_mono h₁' (fun _ s₂ h₂ => wpAny_bind (wpAny_mono h₂ (fun ok s₃ h₃ => ?_) fun _ _ h' => h'.elim)) fun _ _ h' => h'.elim)
    cases ok with
    | false => exact wpAny_pure ⟨rfl, h₃⟩
    | true =>
      exact wpAny_bind (wpAny_bind (wpAny_mono h₃ (fun x s₄ h₄ => wpAny_bind (wpAny_mono h₄ (fun _ s₅ h₅ => wpAny_pure (wpAny_pure ⟨rfl, h₅⟩)) fun _ _ h' => h'.elim)) fun _ _ h' => h'))

end
def compX (G : D → Ev → R Ev) (fe : Ev → R D) (gx : Ev → Option Value) (ρ : Ev) : List D → Option Value
  | [] => none
  | d :: ds => match G d ρ with
    | .ok ρ1 => (match fe ρ1 with
      | .ok _ => compX G fe gx ρ ds
      | _ => gx ρ1)
    | _ => none
section
variable [Tabs] {X : Cx} {Ek : XK}
theorem comp_raise {tg elt iter : Expr} {scope : Scope} {own fr : List Str} {js : List Nat} {G : D → Ev → R Ev} {fe : Ev → R D} {gx : Ev → Option Value} {pins : List (Addr × Obj)} {σ : St} {H : Hp} {s : Shared} {H₀ : Hp} {O₀ O : Addr → Prop} {ρ : Ev}
    {it : Addr} {fp : List Addr} {tn : Nat → Heap → Prop} {J : It} {ds : List D} {Cv : Value} {QQ : Value → Shared → Prop} (L : LeavesBy X Ek) (hc : X.calm = true) (S : CompSc X scope own fr js)
    (hX : ∀ X' : Cx, (∃ s₀ H₁ C, X' = cxC X pins s₀ H₁ (own ++ fr) scope (blkC X scope C) C fp) → PGD X' tg G ∧ PD X' elt fe ∧ PEC X' elt gx)
    (hG : ∀ d ρ1, G d (blockEv own js ρ) = .ok ρ1 → Weak ρ1 (blockEv own js ρ))
    (I : Inv X pins σ H s) (T : Turn X.prog X.w X.K tg J fp it tn) (st : tn 0 s.heap) (hfp : ∀ b ∈ fp, FpOk X pins H b) (E : EnvOk X.K H₀ O₀ H O σ ρ) (hJ : ItC X.K J H O ds) (hrs : compX G fe gx (blockEv own js ρ) ds = some Cv) (hlen : ds.length ≤ sizeLine) (hE : ∀ H', Same H₀ H' → Ek Cv none H') :
    wpAny (model X.prog X.w) X.A (newList []) (fun acc s₃ => wpAny (model X.prog X.w) X.A (newFunctionEnv scope X.env.globals (clL X.env scope.names []) [] X.env.qual none .none (some X.env)) (fun cenv s₄ =>
      codeAny (model X.prog X.w) X.A (.compStart (.ListComp elt [⟨tg, iter, [], 0⟩] scope pos) 0 (.ref it) acc { cenv with scope := relabel scope X.env }) (compPostF (model X.prog X.w) X.A X.xe QQ X.env scope acc cenv) s₄) X.xe s₃) X.xe s := by
  have hO := offK I O E.trk
  refine wpAny_newObj_type ?_
  -- the list that grows
  have hfr : H s.heap.objs.size = none := I.hok.fresh (Nat.le_refl _)
  have hkl : X.K.lookup s.heap.objs.size = none := by
    cases e : X.K.lookup s.heap.objs.size with
    | none => rfl
    | some o => exact absurd (Heap.lt_size (I.kIn _ o e)) (Nat.lt_irrefl _)
  have I1 : Inv X pins σ (upd H s.heap.objs.size (.lst [])) { s with heap := s.heap.push { cls := .type "list", dict := none, data := .seq ([] : List Value).toArray } } :=
    I.laid (t' := s.toks) (fun b u e => Heap.get?_push_of_some _ e) (Nat.le_refl _) ⟨Nat.zero_le _, [], 0, .nil, Heap.get?_push_size _ rfl⟩
  generalize hacc : s.heap.objs.size = acc at *
  generalize hs1 : ({ s with heap := s.heap.push { cls := .type "list", dict := none, data := .seq ([] : List Value).toArray } } : Shared) = s1 at I1 ⊢
  have sz1 : s1.heap.objs.size = acc + 1 := by rw [← hs1, ← hacc]; exact Heap.size_push _ _
  have keep1 : ∀ b o, s.heap.get? b = some o → s1.heap.get? b = some o := fun b o e => by rw [← hs1]; exact Heap.get?_push_of_some _ e
  have fplt : ∀ b ∈ fp, b < acc := fun b hb => by
    obtain ⟨o, e, _⟩ := T.obj 0 _ st b hb
    rw [← hacc]; exact Heap.lt_size e
  have hfp1 : ∀ b ∈ fp, FpOk X pins (upd H acc (.lst [])) b := fun b hb => by
    obtain ⟨f0, f⟩ := hfp b hb
    exact ⟨by rw [upd_ne (Nat.ne_of_lt (fplt b hb))]; exact f0, f⟩
  refine new_block ?_
  obtain ⟨h₁, e₁⟩ : ∃ h₁, pushCells (s1.heap.push { cls := .type "dict", data := .dict #[] }) scope.names = h₁ := ⟨_, rfl⟩
  rw [e₁]
  have keep2 : ∀ b o, s1.heap.get? b = some o → h₁.get? b = some o := fun b o e => by rw [← e₁]; exact pushCells_keeps _ _ _ _ (Heap.get?_push_of_some _ e)
  have IB := inv_block (tk := s1.toks) I1 S hfp1 (fun b hb => by rw [sz1]; exact Nat.lt_succ_of_lt (fplt b hb)) e₁.symm
  generalize hC : s1.heap.objs.size = C at *
  obtain ⟨hG', hE', hEx'⟩ := hX _ ⟨s1, upd H acc (.lst []), C, rfl⟩
  generalize hX' : cxC X pins s1 (upd H acc (.lst [])) (own ++ fr) scope (blkC X scope C) C fp = X' at IB hG' hE' hEx'
  have eP : X'.prog = X.prog := by rw [← hX']; rfl
  have eW : X'.w = X.w := by rw [← hX']; rfl
  have eK : X'.K = X.K := by rw [← hX']; rfl
  have eA : X'.A = X.A := by rw [← hX']; rfl
  have eC : X'.calm = true := by rw [← hX']; exact hc
  have eX : X'.xe = fun _ _ => False := by rw [← hX']; rfl
  have eE : X'.env = compEnvC scope (blkC X scope C) C X.env := by rw [← hX']; rfl
  have eX0 : X'.ex = fp := by rw [← hX']; rfl
  have ePn : X'.pn = X.pn ++ pins := by rw [← hX']; rfl
  have eFs : X'.fs = frs X.stack := by rw [← hX']; rfl
  have eS0 : X'.s₀ = s1 := by rw [← hX']; rfl
  have eH0 : X'.H₀ = upd H acc (.lst []) := by rw [← hX']; rfl
  have eL : X'.env.locals = C := by rw [eE]; rfl
  have eCe : X'.env.cells = blkC X scope C := by rw [eE]; rfl
  have I2of := IB
  have accC : acc ≠ C := by rw [sz1]; exact Nat.ne_of_lt (Nat.lt_succ_self _)
  have fpC : ∀ b ∈ fp, b ≠ C := fun b hb => by have h1 := fplt b hb; rw [sz1]; exact Nat.ne_of_lt (Nat.lt_succ_of_lt h1)
  have fpB : ∀ {H' : Hp}, (∀ b ∈ fp, H' b = none) → ∀ b ∈ fp, FpOk X' [] H' b := fun {H'} hn b hb => by
    obtain ⟨f0, f1, f2, f3, f4, f5⟩ := hfp b hb
    refine ⟨hn b hb, by rw [eL]; exact fpC b hb, ?_, .inl (by rw [eX0]; exact hb), fun x c h => (fun b hb x c h => (I2of.ok.exf b (by rw [eX0]; exact hb)).2 x c h) b hb x c h, fun p hp => f5 p (by grind)⟩
    rw [eFs]
    intro z
    rcases List.mem_cons.mp (I.stkSub b z) with e | z
    · exact f1 e
    · exact f2 z
  have eS : X'.stack = X.stack := by rw [← hX']; rfl
  have eM : ∀ {b : Addr}, b ∈ frs X.stack → b ≠ C := fun {b} hb z => by
    have h1 := I1.stkFree
    have h2 : ∃ o, s1.heap.get? b = some o := by
      obtain ⟨_, o, ho, _⟩ := I1.stack.mem hb
      exact ⟨o, ho⟩
    obtain ⟨o, ho⟩ := h2
    have := Heap.lt_size ho
    rw [z, hC] at this
    exact Nat.lt_irrefl _ this
  have st1 : tn 0 h₁ := T.keep 0 s.heap h₁ st fun b hb o e => keep2 b o (keep1 b o e)
  -- the state of X where an element leaves
  have back : ∀ {pins7 : List (Addr × Obj)} {σ7 : St} {H7 : Hp} {s7 : Shared}, Inv X' pins7 σ7 H7 s7 → Inv X pins σ H7 s7 := fun {pins7 σ7 H7 s7} I7 => by
    have hU : Un (frs X.stack) fp (upd H acc (.lst [])) H7 s1.heap s7.heap := by
      have := I7.base
      rw [eFs, eX0, eH0, eS0] at this
      exact this
    have hok' : HOk X.prog X.w H7 s7.heap := fun b u e => by
      have := I7.hok b u e
      rw [eP, eW] at this
      exact this
    have hos : s7.os = s1.os := by have := I7.os; rw [eS0] at this; exact this
    exact I1.call' (s' := s7) (ch := fp) hos hU hok' I7.bare fun b hb => by
      obtain ⟨f0, f1, f2, f3, f4, f5⟩ := hfp b hb
      exact ⟨f3, f1, f4, f5⟩
  have thrown : ∀ {pins7 : List (Addr × Obj)} {σ7 : St} {H7 : Hp} {s7 : Shared} {e : Value} {s' : Shared}, Inv X' pins7 σ7 H7 s7 → CXE X.prog X.w X.stack H7 s7 Ek e s' →
      notedBy (model X.prog X.w) X.A (compEnvC scope (blkC X scope C) C X.env) (fun x s' => compPostF (model X.prog X.w) X.A X.xe QQ X.env scope (.ref acc) (newEnv scope C X.env.globals (cellsFrom (C + 1) scope.names (clL X.env scope.names [])) X.env.qual none .none (some X.env) builtinsNs) (.error x) s') e s' := fun {pins7 σ7 H7 s7 e s'} I7 cx => by
    obtain ⟨a, cls, a0, B, H', e1, os, bare, fl, U, k, c1, c2, c3, w⟩ := cx
    subst e1
    have IX := back I7
    have hfra : X.A.frames = some (X.env :: X.outer) := by rw [← L.stk]; exact I.ok.frames
    have fl0 : Heap.FlyingW B (X.env :: X.outer) a cls a0 s'.heap := by rw [← L.stk]; exact fl
    show wpAny _ _ (noteFrame (.ref a) X.env) _ _ _
    refine wpAny_looks_onW hfra L.fr fl0 fun h4 held us4 => ?_
    have nC : C ∉ frs X.stack := fun z => eM z rfl
    obtain ⟨m, hm, _⟩ := id I7.loc
    rw [eL] at hm
    obtain ⟨oC, es, ep, hoC, hdC, rC⟩ := hm
    have fC : H7 C = none := by have := I7.free; rw [eL] at this; exact this
    have gB : B.get? C = some oC := c1 C oC hoC fC nC
    have g' : s'.heap.get? C = some oC := fl.1 C oC gB
    have n4 : h4.Ns C m := us4.ns ⟨oC, es, ep, g', hdC, rC⟩
    refine ⟨m, n4, fun h5 sb => ?_⟩
    have held5 := held_in held (B := PySem.W.hideAll B [C]) rfl sb ⟨oC, gB⟩ (by rw [← L.stk]; exact nC)
    refine pass_held (L := X.env.locals) held5 L.fr fun h6 held6 us6 => ?_
    refine L.xe _ _ ?_
    unfold leaving
    refine wpAny_bind (wpAny_noteFrame_againW L.fr held6.2.2.2 ?_)
    refine wpAny_landsW held6 fun h7 fl7 us7 => ?_
    obtain ⟨k1, k2, ⟨_, _, k3⟩, k4⟩ := fl7
    have bs : (PySem.W.hideAll B [C]).StaysIn s'.heap := fun b o q => fl.1 b o (PySem.W.of_hideAll _ q)
    have hC' : H' C = none := by
      cases z : H' C with
      | none => rfl
      | some u => exact absurd (U.free C oC hoC fC List.not_mem_nil) (by rw [z]; simp)
    have old : ∀ b o, X.s₀.heap.get? b = some o → b ∉ [C] := fun b o q z => by
      have z := List.mem_singleton.mp z
      subst z
      have h1 := Heap.lt_size q
      have h2 := I.sz
      have h3 : s.heap.objs.size ≤ b := by rw [hacc, sz1]; exact Nat.le_succ _
      exact Nat.lt_irrefl _ (Nat.lt_of_lt_of_le h1 (Nat.le_trans h2 h3))
    have y1 : ∀ b o, b ≠ C → s'.heap.get? b = some o → (∀ vs, o.data ≠ .fields vs) → ∃ sl, h7.get? b = some { o with slots := sl } := fun b o hb e hn => by
      obtain ⟨s4, e4⟩ := us4 b o e hn
      have e5 := (sb.2 b hb).trans e4
      obtain ⟨s6, e6⟩ := us6 b _ e5 hn
      obtain ⟨s7', e7⟩ := us7 b _ e6 hn
      exact ⟨s7', e7⟩
    have y2 : ∀ b o u, X.s₀.heap.get? b = some u → s7.heap.get? b = some o → b ∉ frs X.stack → ∃ u, (PySem.W.hideAll B [C]).get? b = some u := fun b o u q0 q f => by
      obtain ⟨v, z⟩ := c2 b o q f
      exact ⟨v, PySem.W.hideAll_get _ z (old b u q0)⟩
    have y3 : ∀ b u, H' b = some u → ∃ o, (PySem.W.hideAll B [C]).get? b = some o := fun b u q => by
      obtain ⟨o, z⟩ := c3 b u q
      exact ⟨o, PySem.W.hideAll_get _ z fun y => by have y := List.mem_singleton.mp y; subst y; rw [hC'] at q; cases q⟩
    obtain ⟨q1, q2, q3, q4⟩ := fly_outC (B := PySem.W.hideAll B [C]) (C := C) (h3 := h7) L IX (fun z => nC (by rw [frs_stk L]; exact List.mem_cons_of_mem _ z)) U k bs k1 y1 (fun b o q0 q n f => PySem.W.hideAll_get _ (c1 b o q n f) (old b o q0)) y2 y3
    exact ⟨a, cls, a0, _, H', rfl, os.trans IX.os, bare, ⟨k1, k2, k3, k4⟩, q1, q2, q3, q4, y3, w⟩
  let Iv : Nat → Shared → Prop := fun n s' => ∃ i σ' Hx vs, n = ds.length - i ∧ i ≤ ds.length ∧ Inv X' [] σ' (upd Hx acc (.lst vs)) s' ∧ Hx acc = none ∧ tn i s'.heap ∧ (∀ b ∈ fp, Hx b = none) ∧ EnvOk X.K H₀ O₀ Hx O σ' (blockEv own js ρ) ∧ Same H Hx ∧
    compX G fe gx (blockEv own js ρ) (ds.drop i) = some Cv ∧ vs.length ≤ i
  have loop : codeAny (model X.prog X.w) X.A (.compLoop (.ListComp elt [⟨tg, iter, [], 0⟩] scope pos) 0 (.ref it) (.ref acc) (compEnvC scope (blkC X scope C) C X.env)) (compPostF (model X.prog X.w) X.A X.xe QQ X.env scope (.ref acc) (newEnv scope C X.env.globals (cellsFrom (C + 1) scope.names (clL X.env scope.names [])) X.env.qual none .none (some X.env) builtinsNs)) { s1 with heap := h₁ } := by
    refine comp_loopE Iv ?_ ds.length ⟨0, _, H, [], by simp, Nat.zero_le _, IB, hfr, st1, fun b hb => (hfp b hb).1, env_block S.nd E, Same.refl H, by rw [List.drop_zero]; exact hrs, Nat.zero_le _⟩
    rintro n s2 ⟨i, σ2, Hx, vs, rfl, hi, I2, hxa, st2, fx2, E2, sm2, hrest, hvl⟩
    have fr2 : ∀ b ∈ fp, (upd Hx acc (.lst vs)) b = none := fun b hb => by rw [upd_ne (Nat.ne_of_lt (fplt b hb))]; exact fx2 b hb
    have sU := same_upd hxa (.lst vs)
    have fkk : OffK X.K (fun b => O b ∨ b = acc) := fun a o q z => z.elim (hO a o q) fun z => by subst z; rw [hkl] at q; cases q
    have hit := hJ (upd Hx acc (.lst vs)) (fun b => O b ∨ b = acc) (sm2.trans sU) (fun b o q n => ⟨sU b o (sm2 b o q), fun z => z.elim n fun z => by subst z; rw [hfr] at q; cases q⟩) fkk E.trk
      (fun a z => (E2.beside (vs := vs) hxa hkl).trk a z) i
    by_cases hlt : i < ds.length
    · obtain ⟨go, yl⟩ := hit.1 ds[i] (List.getElem?_eq_getElem hlt)
      rw [List.drop_eq_getElem_cons hlt, compX] at hrest
      have hnext := T.item X' eP eW eK eC i [] s2 σ2 _ (fun _ _ => False) I2 (fpB fr2) st2 go
      rw [eA] at hnext
      refine thn hnext fun r s3 z9 => ?_
      obtain ⟨u, hr, h3⟩ := z9
      subst hr
      refine thn h3 fun _ s4 z9 => ?_
      obtain ⟨x, H4, I4, ru, y4, st4, fr4⟩ := z9
      obtain ⟨sm4, rep4⟩ := yl x H4 y4
      cases e1 : G ds[i] (blockEv own js ρ) with
      | ex z => rw [e1] at hrest; cases hrest
      | bad => rw [e1] at hrest; cases hrest
      | ok ρ1 =>
        rw [e1] at hrest
        dsimp only at hrest
        have I4' := I4.pinned (fpB fr4) (T.obj _ _ st4)
        have hasg := hG' _ s4 σ2 H4 x u (fun σ5 H5 => Same H4 H5 ∧ EnvOk X.K H₀ O₀ H5 (fun b => O b ∨ b = acc) σ5 ρ1) I4' ru ⟨H₀, O₀, _, _, ds[i], ρ1, by rw [eK]; exact ((E2.beside hxa hkl).grow sm4), by rw [eK]; exact rep4, e1, fun σ5 H5 s5 E5 => ⟨s5, by rw [eK] at E5; exact E5⟩⟩
        rw [eP, eW, eA, eE, eX] at hasg
        refine thn hasg fun _ s5 z9 => ?_
        obtain ⟨σ5, H5, I5, sm5, E5⟩ := z9
        have hacc5 : H5 acc = some (.lst vs) := sm5 acc _ (sm4 acc _ upd_same)
        refine wpAny_tests_nil ?_
        rw [if_pos rfl]
        have W1 : Weak ρ1 (blockEv own js ρ) := hG _ _ e1
        have Eb : ∀ {H7 : Hp}, Same H5 H7 → EnvOk X.K H₀ O₀ (hideA H7 acc) O σ5 (blockEv own js ρ) := fun {H7} s7 => by
          have E7 := (E5.grow s7).weak W1
          have h7 : H7 acc = some (.lst vs) := s7 acc _ hacc5
          refine ⟨E7.len, E2.same.trans (hideA_same hxa (sm4.trans (sm5.trans s7))), E2.sub, fun a z => ?_, E2.trk₀, E2.tab.same (hideA_same hxa (sm4.trans (sm5.trans s7))), fun j sl e => ?_, E7.inj⟩
          · obtain ⟨o, q, mt⟩ := E2.trk a z
            exact ⟨o, hideA_same hxa (sm4.trans (sm5.trans s7)) a o q, mt⟩
          · rcases block_slot e with rfl | ⟨_, ⟨d, rfl⟩ | ⟨k, rfl⟩, _⟩
            · trivial
            · obtain ⟨v, h1, h2⟩ := E7.val j d e
              exact ⟨v, h1, Rep.hidden h7 h2⟩
            · obtain ⟨b, o, es, h1, hb, h3, h4, h5, h6, h8⟩ := E7.slot j _ e
              have nb : b ≠ acc := by grind
              exact ⟨b, o, es, h1, hb.resolve_right nb, h3, by rw [hideA_ne nb]; exact h4, h5, h6.mono (Rep.hidden h7), h8⟩
        have leave : gx ρ1 = some Cv → wpAny (model X.prog X.w) X.A (eval elt (compEnvC scope (blkC X scope C) C X.env)) (fun _ _ => False) (notedBy (model X.prog X.w) X.A (compEnvC scope (blkC X scope C) C X.env) fun x s' => compPostF (model X.prog X.w) X.A X.xe QQ X.env scope (.ref acc) (newEnv scope C X.env.globals (cellsFrom (C + 1) scope.names (clL X.env scope.names [])) X.env.qual none .none (some X.env) builtinsNs) (.error x) s') s5 := fun hx => by
          have := hEx' H₀ O₀ _ s5 σ5 H5 _ ρ1 Cv Ek (notedBy (model X.prog X.w) X.A (compEnvC scope (blkC X scope C) C X.env) fun x s' => compPostF (model X.prog X.w) X.A X.xe QQ X.env scope (.ref acc) (newEnv scope C X.env.globals (cellsFrom (C + 1) scope.names (clL X.env scope.names [])) X.env.qual none .none (some X.env) builtinsNs) (.error x) s') I5 (by rw [eK]; exact E5) (by rw [eK]; exact fkk) hx (fun H' sm => hE H' (E5.same.trans sm)) (fun H1 s1' e s' I7 cx => by
            have cx' : CXE X'.prog X'.w X'.stack H1 s1' Ek e s' := cx
            rw [eP, eW, eS] at cx'
            exact thrown I7.unwish cx')
          rw [eP, eW, eA, eE] at this
          exact this
        cases e3 : fe ρ1 with
        | ex z => rw [e3] at hrest; exact wpAny_mono (leave hrest) (fun _ _ z => z.elim) fun _ _ z => z
        | bad => rw [e3] at hrest; exact wpAny_mono (leave hrest) (fun _ _ z => z.elim) fun _ _ z => z
        | ok dv =>
          rw [e3] at hrest
          have helt := hE' _ s5 σ5 H5 (fun v H7 => Same H5 H7 ∧ Rep X.K H7 (fun b => O b ∨ b = acc) v dv) I5 ⟨H₀, O₀, _, ρ1, by rw [eK]; exact E5, by rw [e3, RC]; exact fun v H7 s7 r7 => ⟨s7, by rw [eK] at r7; exact r7⟩⟩
          rw [eP, eW, eA, eE, eX] at helt
          refine wpAny_mono helt (fun uv s7 z9 => ?_) fun _ _ z => False.elim z
          obtain ⟨v, H7, I7, ruv, sm7, r7⟩ := z9
          have hacc7 : H7 acc = some (.lst vs) := sm7 acc _ hacc5
          have happ := mt_append (X := X') _ s7 σ5 H7 (.ref acc) [v] (.ref acc) [uv] (fun _ H8 => H8 = upd H7 acc (.lst (vs ++ [v]))) I7 rfl (.cons ruv .nil) ⟨acc, vs, v, rfl, rfl, hacc7, by lia, rfl⟩
          rw [eP, eW, eA, eX] at happ
          refine thn happ fun _ s8 z9 => ?_
          obtain ⟨_, H8, I8, _, h8⟩ := z9
          subst h8
          have hh : hideA (upd H7 acc (.lst (vs ++ [v]))) acc = hideA H7 acc := by
            funext b
            unfold hideA upd
            simp_all
          have smx7 : Same Hx (hideA H7 acc) := hideA_same hxa ((sm4.trans sm5).trans sm7)
          refine ⟨ds.length - (i + 1), by lia, i + 1, σ5, hideA (upd H7 acc (.lst (vs ++ [v]))) acc, vs ++ [v], rfl, hlt, ?_, hideA_self _ _, T.keep _ _ _ st4 fun b hb o e => (I8.pin (b, o) (List.mem_append_right _ (List.mem_append_right _ (mem_pinsAt hb e)))).1, fun b hb => ?_, by rw [hh]; exact Eb sm7, by rw [hh]; exact sm2.trans smx7, hrest, by rw [List.length_append]; exact Nat.succ_le_succ hvl⟩
          · rw [upd_hideA upd_same]; exact I8.unpinned
          · rw [hideA_ne (Nat.ne_of_lt (fplt b hb))]
            obtain ⟨o, e, d⟩ := T.obj _ _ st4 b hb
            exact (I8.pin (b, o) (List.mem_append_right _ (List.mem_append_right _ (mem_pinsAt hb e)))).2.1
    · have hi' : i = ds.length := by lia
      subst hi'
      rw [List.drop_length, compX] at hrest
      cases hrest
  exact codeAny_compStart_list loop (T.self _ 0 _ _ _ st1 loop)
theorem pex_compE {tg elt iter : Expr} {scope : Scope} {G : D → Ev → R Ev} {fe : Ev → R D} {gx : Ev → Option Value} {fi : Ev → R (List D)} {pos : Pos} (own fr : List Str) (js : List Nat) (L : LeavesBy X Ek) (hc : X.calm = true) (S : CompSc X scope own fr js) (hi : PID X tg iter fi)
    (hX : ∀ (pins : List (Addr × Obj)) (fp : List Addr) (X' : Cx), (∃ s₀ H₁ C, X' = cxC X pins s₀ H₁ (own ++ fr) scope (blkC X scope C) C fp) → PGD X' tg G ∧ PD X' elt fe ∧ PEC X' elt gx) (hG : ∀ ρ d ρ1, G d (blockEv own js ρ) = .ok ρ1 → Weak ρ1 (blockEv own js ρ)) (hs : ∀ x, foldedSetIterable iter X.env x = pure x := by intro _; rfl) :
    PEX X Ek (.ListComp elt [⟨tg, iter, [], 0⟩] scope pos) (fun ρ => match fi ρ with | .ok ds => if ds.length ≤ sizeLine then compX G fe gx (blockEv own js ρ) ds else none | _ => none) := by
  intro H₀ O₀ pins s σ H O ρ C I Ev fk ec q
  rw [eval_ListComp]
  dsimp only at ec
  refine comp_frame rfl hs (closureFor_eq (Inv.has_cells I S)) S.kind S.names (thn (pic hi pins s σ H (fun J H1 => ∃ ds, Same H H1 ∧ ItC X.K J H1 O ds ∧ ds.length ≤ sizeLine ∧ compX G fe gx (blockEv own js ρ) ds = some C) I ⟨H₀, O₀, O, ρ, Ev, fk, ?_⟩) fun v s1 h1 => thn h1 fun itv s2 h2 => ?_)
  · cases e1 : fi ρ with
    | ex x => rw [e1] at ec; cases ec
    | bad => rw [e1] at ec; cases ec
    | ok ds =>
      rw [e1] at ec
      dsimp only at ec
      intro J H1 s1 hJ
      split at ec
      · rename_i hl
        exact ⟨ds, s1, hJ, hl, ec⟩
      · cases ec
  · obtain ⟨it, fp, tn, J, H2, e, I2, T, st2, f2, ds, sm, hJ, hl, hrs⟩ := h2
    subst e
    exact comp_raise L hc S (hX pins fp) (hG ρ) I2 T st2 f2 (Ev.grow sm) hJ hrs hl q
end
end DL

namespace DL
open PySem PySem.Spec L2
open PyProof.Rows hiding St
variable [Tabs]
def exOk (K : PySem.W.Frag) (c : Addr) : Bool := (PySem.W.clsIn K c).isSome && (PySem.W.mroIn K c (.type "object") == some true && (PySem.W.mroIn K c (.type "BaseException") == some true &&
  (PySem.W.findIn K (.ref c) "__class__" == some (some (.builtin "object.__class__")) && (PySem.W.findIn K (.ref c) "__getattribute__" == some (some (.builtin "BaseException.__getattribute__")) && PySem.W.findIn K (.ref c) "__getattr__" == some none))))
theorem exOk.cls {K : PySem.W.Frag} {c : Addr} (h : exOk K c = true) : ExCls K c := by
  unfold exOk at h
  simp only [Bool.and_eq_true, beq_iff_eq] at h
  exact ⟨h.1, h.2.1, h.2.2.1, h.2.2.2.1, h.2.2.2.2.1, h.2.2.2.2.2⟩
def exI (K : PySem.W.Frag) (i : Nat) (cv : Value) (ρ : Ev) : R D := match ρ[i]? with
  | some (.x (.ref c)) => if exOk K c = true then (match PySem.W.kitOne K (.ref c) cv with | some b => .ok (.bl b) | none => .bad) else .bad
  | _ => .bad
section
variable {X : Cx} {pos : Pos}
theorem pd_isx (i : Nat) {n x : Str} {p pn pt : Pos} {cv : Value} {vc : V} (hc : PE X (.Name x pt) (tC vc)) (rc : RelV vc cv) (hu : ∀ u, RelV vc u → u = cv) (hm : X.mg "isinstance" = none) (hN : X.N[i]? = some n := by rfl) (hv : Vis X.env.scope n := by first | exact Or.inl rfl | exact Or.inr (Or.inl rfl) | exact Or.inr (Or.inr rfl)) (hg : Gl X "isinstance" := by rfl)
    (hdb : (n == ("__debug__" : Str)) = false := by decide) (hcd : (n == ("__classdict__" : Str)) = false := by decide)
    (he : starEach [.Name n pn, .Name x pt] X.env = (false, eval (.Name n pn) X.env) :: starEach [.Name x pt] X.env := by rfl) (he2 : starEach [Expr.Name x pt] X.env = [(false, eval (.Name x pt) X.env)] := by rfl) (hpl : (backTo pos (starEach [Expr.Name x pt] X.env)).any (·.1) = false := by rfl) :
    PD X (.Call (.Name "isinstance" p) [.Name n pn, .Name x pt] [] pos) (exI X.K i cv) := by
  refine mkE fun pins s σ H Q I H₀ O₀ O ρ E q => ?_
  refine wpAny_Call_Name_kw (ld_blt (u := .builtin "isinstance") I hg hm (by decide +kernel) ?_)
  unfold exI at q
  split at q
  case h_2 => exact q.elim
  case h_1 c e =>
  split at q
  case isFalse => exact q.elim
  case isTrue ho =>
  split at q
  case h_2 => exact q.elim
  case h_1 b ek =>
  obtain ⟨a, o, h1, h2, h3⟩ := E.exc i _ e
  have h := pa_cons (pe_var (pos := pn) hN hv hdb hcd) (pa_cons hc pa_nil (by rw [he2]; rfl)) he pos pins s σ H (fun vs H1 => vs = [.ref a, vc] ∧ H1 = H) I ⟨_, h1, rfl, rfl⟩
  refine PyProof.Rows.callWith_builtin1 (thn h fun us s1 z9 => ?_) he hpl
  obtain ⟨vs, H1, I1, r1, e1, e2⟩ := z9
  subst e1; subst e2
  obtain ⟨u, w, rfl, ru, rw'⟩ := vals2 r1
  cases ru
  obtain rfl := hu w rw'
  obtain ⟨hob, _⟩ := I1.hok a _ h2
  exact PySem.W.kia_one (kitx_exc (exOk.cls ho)) I1.kIn ⟨o, hob, h3⟩ ek (fun z => nomatch z) fun tk => ⟨.bl b, H1, I1.tok _, rfl, q _ H1 (Same.refl _) .bl⟩
end
end DL

namespace DL
open PySem L2
def stepL (G : D → Ev → R Ev) (F : Ev → R Out) (d : D) (ρ : Ev) : R Out := match G d ρ with
  | .ok ρ1 => F ρ1
  | _ => .bad
theorem forL_goes (Iv : Ev → Prop) : ∀ {ds : List D} {ρ : Ev}, (∀ d ∈ ds, ∀ ρ, Iv ρ → ∃ ρ2, stepL G F d ρ = .ok (.nx ρ2) ∧ Iv ρ2) → Iv ρ → ∃ ρ', forL G F ds ρ = .ok (.nx ρ') ∧ Iv ρ' := by
  intro z1 ρ ht h
  cases z1 with
  | nil => exact ⟨ρ, rfl, h⟩
  | cons d ds =>
    obtain ⟨ρ2, e, h2⟩ := ht d List.mem_cons_self ρ h
    obtain ⟨ρ', e', h'⟩ := forL_goes Iv (ds := ds) (ρ := ρ2) (fun d hd => ht d (List.mem_cons_of_mem _ hd)) h2
    unfold stepL at e
    cases e1 : G d ρ with
    | ok ρ1 =>
      rw [e1] at e
      exact ⟨ρ', by rw [forL, e1]; dsimp only at e ⊢; rw [e]; exact e', h'⟩
    | ex x => rw [e1] at e; cases e
    | bad => rw [e1] at e; cases e
theorem ret_goes (Iv : Ev → Prop) (ht : ∀ d ∈ ds, ∀ ρ, Iv ρ → ∃ ρ2, stepL G F d ρ = .ok (.nx ρ2) ∧ Iv ρ2) (h0 : Iv ρ) (h2 : ∀ ρ', Iv ρ' → retR (F2 ρ') = .ok d) :
    retR (thenR (forL G F ds ρ) F2) = .ok d := by
  obtain ⟨ρ', e, h⟩ := forL_goes Iv ht h0
  rw [e]
  exact h2 ρ' h
@[simp] theorem forL_nil (G : D → Ev → R Ev) (F : Ev → R Out) (ρ : Ev) : forL G F [] ρ = .ok (.nx ρ) := rfl
end DL
namespace DL
open PySem L2
theorem bits_mono' (h : bits a ≤ m) (hm : m ≤ n) : bits a ≤ n := Nat.le_trans h hm
section

end
end DL

namespace M
open PySem L2 DL
def lsD (k : List D → List D → R D) : List D → R D
  | .lst xs :: ds => k xs ds
  | _ => .bad
def itD (k : Int → List D → R D) : List D → R D
  | .int a :: ds => k a ds
  | _ => .bad
theorem itD_ok {k : Int → List D → R D} {ds : List D} {r : D} (h : itD k ds = .ok r) : ∃ a e, ds = .int a :: e ∧ k a e = .ok r := by
  unfold itD at h
  split at h
  · exact ⟨_, _, rfl, h⟩
  · cases h
def nlD (q : R D) : List D → R D
  | [] => q
  | _ => .bad
theorem lsD_ok (h : lsD k ds = .ok r) : ∃ xs e, ds = .lst xs :: e ∧ k xs e = .ok r := by
  unfold lsD at h
  split at h
  · exact ⟨_, _, rfl, h⟩
  · cases h
theorem nlD_ok (h : nlD q ds = .ok r) : ds = [] ∧ q = .ok r := by
  unfold nlD at h
  split at h
  · exact ⟨rfl, h⟩
  · cases h
def rule (k : Int) : Int := 7 * k * k + 10 * k + 3
def m_law_whole : List D → R D
  | [d] => .ok (.bl (wholeD d))
  | _ => .bad
end M

namespace DL
open PySem PySem.Spec L2
open PyProof.Rows hiding St
section

variable [Tabs] in
end
theorem forL_left (Iv : List D → Ev → Prop) (ht : ∀ d ds ρ, Iv (d :: ds) ρ → ∃ ρ2, stepL G F d ρ = .ok (.nx ρ2) ∧ Iv ds ρ2) : ∀ {ds : List D} {ρ : Ev}, Iv ds ρ → ∃ ρ', forL G F ds ρ = .ok (.nx ρ') ∧ Iv [] ρ' := by
  intro z1 ρ h
  cases z1 with
  | nil => exact ⟨ρ, rfl, h⟩
  | cons d ds =>
    obtain ⟨ρ2, e, h2⟩ := ht d ds ρ h
    obtain ⟨ρ', e', h'⟩ := forL_left Iv ht h2
    unfold stepL at e
    cases e1 : G d ρ with
    | ok ρ1 =>
      rw [e1] at e
      exact ⟨ρ', by rw [forL, e1]; dsimp only at e ⊢; rw [e]; exact e', h'⟩
    | ex x => rw [e1] at e; cases e
    | bad => rw [e1] at e; cases e
theorem ret_left (Iv : List D → Ev → Prop) (ht : ∀ d ds ρ, Iv (d :: ds) ρ → ∃ ρ2, stepL G F d ρ = .ok (.nx ρ2) ∧ Iv ds ρ2) (h0 : Iv ds ρ) (h2 : ∀ ρ', Iv [] ρ' → retR (F2 ρ') = .ok d) :
    retR (thenR (forL G F ds ρ) F2) = .ok d := by
  obtain ⟨ρ', e, h⟩ := forL_left Iv ht h0
  rw [e]
  exact h2 ρ' h
end DL
namespace M
open PySem L2 DL
end M

namespace DL
open PySem PySem.Spec L2
open PyProof.Rows hiding St
variable [Tabs]
abbrev vBm : List Value := [.type "ValueError", .type "Exception", .type "BaseException", .type "object"]
def CalX (P : Program) (w : World) (K : PySem.W.Frag) (mg : Str → Option Value) (base : Heap) (k : Nat) (x : Str) (n : Nat) (m : List D → Option Value) : Prop :=
  ∃ g gd ps, FnOk P w K mg base (CXE P w) k g gd ps (spX K n m) ∧ Binds K gd ps [] ∧ PySem.W.keepIn K (.ref g) = true ∧ mg x = some (.ref g)
theorem calx_of {P : Program} {w : World} {K : PySem.W.Frag} {mg : Str → Option Value} {base : Heap} {x qual : Str} {st : Stmt} {f : Addr} {fd : FuncData} {N ps : List Str} {k : Nat} {m : List D → Option Value} {G : Ev → Option Value} (F0 : Fun K x qual st f fd) (S : FnScope N ps (defScope st)) (hb0 : Binds K fd ps []) (hmg : mg x = some (.ref f))
    (hb : ∀ (cdv : Value) (A : Around) (outer : List Env) (s : Shared) (H : Hp) (E : XK), Room k (A.deeper (envOfC qual (defScope st) s.heap.objs.size f cdv)) → PSX (cxX P w K mg base N qual (defScope st) f cdv A outer s H E) E (defBody st) G)
    (hm : ∀ ds C, ds.length = ps.length → m ds = some C → G (startD N ds) = some C) : CalX P w K mg base (k + 1) x ps.length m :=
  ⟨f, fd, ps, fnX F0 S hb hm, hb0, F0.kp, hmg⟩
def mX (f : Ev → R (List D)) (m : List D → Option Value) (ρ : Ev) : Option Value := match f ρ with | .ok ds => m ds | _ => none
section
variable {X : Cx} {pos : Pos}
theorem pec_cal {k : Nat} {n : Nat} {m : List D → Option Value} {x : Str} {p : Pos} {e : Expr} {es : List Expr} {f : Ev → R (List D)} (c : CalX X.prog X.w X.K X.mg X.base k x n m) (hr : Room k X.A) (ha : PAD X.nox (e :: es) f) (hl : LenR f n) (hg : Gl X x := by rfl)
    (hdb : (x == ("__debug__" : Str)) = false := by decide) (he : starEach (e :: es) X.env = (false, eval e X.env) :: starEach es X.env := by rfl) (hpl : (backTo pos (starEach es X.env)).any (·.1) = false := by rfl) :
    PEC X (.Call (.Name x p) (e :: es) [] pos) (mX f m) := by
  obtain ⟨g, gd, ps, F, b, kp, em⟩ := c
  exact pec_call F hr em kp b ha hl hg hdb he hpl
theorem pex_cal {E : XK} {k : Nat} {n : Nat} {m : List D → Option Value} {x : Str} {p : Pos} {e : Expr} {es : List Expr} {f : Ev → R (List D)} (L : LeavesBy X E) (c : CalX X.prog X.w X.K X.mg X.base k x n m) (hr : Room k X.A) (ha : PAD X (e :: es) f) (hl : LenR f n) (hg : Gl X x := by rfl)
    (hdb : (x == ("__debug__" : Str)) = false := by decide) (he : starEach (e :: es) X.env = (false, eval e X.env) :: starEach es X.env := by rfl) (hpl : (backTo pos (starEach es X.env)).any (·.1) = false := by rfl) :
    PEX X E (.Call (.Name x p) (e :: es) [] pos) (mX f m) := by
  obtain ⟨g, gd, ps, F, b, kp, em⟩ := c
  exact pex_call (pass_cxe L) F hr em kp b ha hl hg hdb he hpl
theorem pd_isxO {K : PySem.W.Frag} {i : Nat} {n x : Str} {p pn pt : Pos} {c : Addr} (k : X.mg x = some (.ref c)) (hm : X.mg "isinstance" = none) (hN : X.N[i]? = some n := by rfl) (hv : Vis X.env.scope n := by first | exact Or.inl rfl | exact Or.inr (Or.inl rfl) | exact Or.inr (Or.inr rfl)) (hg : Gl X "isinstance" := by rfl) (hgx : Gl X x := by rfl)
    (hdb : (n == ("__debug__" : Str)) = false := by decide) (hcd : (n == ("__classdict__" : Str)) = false := by decide) (hdx : (x == ("__debug__" : Str)) = false := by decide)
    (he : starEach [.Name n pn, .Name x pt] X.env = (false, eval (.Name n pn) X.env) :: starEach [.Name x pt] X.env := by rfl) (he2 : starEach [Expr.Name x pt] X.env = [(false, eval (.Name x pt) X.env)] := by rfl) (hpl : (backTo pos (starEach [Expr.Name x pt] X.env)).any (·.1) = false := by rfl)  (hK : X.K = K := by rfl) :
    PD X (.Call (.Name "isinstance" p) [.Name n pn, .Name x pt] [] pos) (exI K i (.ref c)) := by
  subst hK
  exact pd_isx i (pe_glob (v := .ref c) hgx k rfl hdx) rfl (fun _ h => h) hm hN hv hg hdb hcd he he2 hpl
theorem pd_isxT {K : PySem.W.Frag} {i : Nat} {n x : Str} {p pn pt : Pos} {T : String} (hT : bootBuiltins x = some (.type T)) (k : X.mg x = none) (hm : X.mg "isinstance" = none) (hN : X.N[i]? = some n := by rfl) (hv : Vis X.env.scope n := by first | exact Or.inl rfl | exact Or.inr (Or.inl rfl) | exact Or.inr (Or.inr rfl)) (hg : Gl X "isinstance" := by rfl) (hgx : Gl X x := by rfl)
    (hdb : (n == ("__debug__" : Str)) = false := by decide) (hcd : (n == ("__classdict__" : Str)) = false := by decide) (hdx : (x == ("__debug__" : Str)) = false := by decide) (hnx : x ≠ "__name__" := by decide)
    (he : starEach [.Name n pn, .Name x pt] X.env = (false, eval (.Name n pn) X.env) :: starEach [.Name x pt] X.env := by rfl) (he2 : starEach [Expr.Name x pt] X.env = [(false, eval (.Name x pt) X.env)] := by rfl) (hpl : (backTo pos (starEach [Expr.Name x pt] X.env)).any (·.1) = false := by rfl)  (hK : X.K = K := by rfl) :
    PD X (.Call (.Name "isinstance" p) [.Name n pn, .Name x pt] [] pos) (exI K i (.type T)) := by
  subst hK
  exact pd_isx i (pe_bltn (v := .ty T) hgx k hT rfl hnx hdx) rfl (fun _ h => h) hm hN hv hg hdb hcd he he2 hpl
theorem pssd_never {st : List Stmt} : PSsD X st (fun _ => .bad) := by rintro _ _ _ _ _ _ _ _ ⟨_, _, _, _, q⟩; exact q.elim
end
structure XCls (K : PySem.W.Frag) (mg : Str → Option Value) (Bc : Addr) (x : Str) (c : Addr) : Prop where
  nm : mg x = some (.ref c)
  ex : PySem.W.excIn K c vBm "ValueError.__new__" = true
  ok : exOk K c = true
  sub : PySem.W.mroIn K c (.ref Bc) = some true
theorem xcls_mk {K : PySem.W.Frag} {mg : Str → Option Value} {Bc c : Addr} {x : Str} {cd : ClassData} (nm : mg x = some (.ref c)) (ex : PySem.W.excIn K c vBm "ValueError.__new__" = true) (h1 : PySem.W.clsIn K c = some cd) (h2 : PySem.W.mroIn K c (.type "object") = some true)
    (h3 : PySem.W.mroIn K c (.type "BaseException") = some true) (h4 : PySem.W.findIn K (.ref c) "__class__" = some (some (.builtin "object.__class__"))) (h5 : PySem.W.findIn K (.ref c) "__getattribute__" = some (some (.builtin "BaseException.__getattribute__")))
    (h6 : PySem.W.findIn K (.ref c) "__getattr__" = some none) (sub : PySem.W.mroIn K c (.ref Bc) = some true) : XCls K mg Bc x c :=
  ⟨nm, ex, by unfold exOk; rw [h1, h2, h3, h4, h5, h6]; rfl, sub⟩
def okIs (c : Addr) : Value → Bool
  | .ref a => a == c
  | _ => false
theorem okIs_ok {K : PySem.W.Frag} {mg : Str → Option Value} {Bc c : Addr} {x : Str} (h : XCls K mg Bc x c) : ∀ C, okIs c C = true → ∃ a, C = .ref a ∧ PySem.W.mroIn K a (.ref Bc) = some true := fun C e => by
  cases C with
  | ref a => simp only [okIs, beq_iff_eq] at e; subst e; exact ⟨a, rfl, h.sub⟩
  | _ => cases e
end DL

namespace DL
open PySem PySem.Spec L2
open PyProof.Rows hiding St
variable [Tabs]
theorem psx_or {X : Cx} {E : XK} {sts : List Stmt} {G1 G2 : Ev → Option Value} (h1 : PSX X E sts G1) (h2 : PSX X E sts G2) : PSX X E sts (fun ρ => (G1 ρ).or (G2 ρ)) := by
  intro H₀ O₀ pins s σ H O ρ C I Ev fk e q
  dsimp only at e
  cases e1 : G1 ρ with
  | some c =>
    rw [e1] at e
    cases e
    exact h1 H₀ O₀ pins s σ H O ρ _ I Ev fk e1 q
  | none =>
    rw [e1, Option.none_or] at e
    exact h2 H₀ O₀ pins s σ H O ρ C I Ev fk e q
end DL

namespace DL
open PySem PySem.Spec L2
open PyProof.Rows hiding St
variable [Tabs]
section
end
end DL

namespace DL
open PySem PySem.Spec L2
open PyProof.Rows hiding St
section
variable [Tabs] {X : Cx}
def chB (x y : D) (z : R D) : R Bool := match x, y with
  | .int i, .int j => if i ≤ j then (match z with | .ok (.int k) => .ok (decide (j ≤ k)) | _ => .bad) else .ok false
  | _, _ => .bad
theorem ptd_chain {a b c : Expr} {fa fb fc : Ev → R D} {pos : Pos} (ha : PD X a fa) (hb : PD X b fb) (hc : PD X c fc) (hm : lastMarks [.LtE, .LtE] [b, c] = false := by with_unfolding_all rfl) :
    PTD X (.Compare a [.LtE, .LtE] [b, c] pos) (fun ρ => (fa ρ).bind fun x => (fb ρ).bind fun y => chB x y (fc ρ)) :=
  ptI (pt_chain (OpR.c0 op_le) (OpR.c0 op_le) ha hb hc hm) fun σ H Q H₀ O₀ O ρ E q => by
    dsimp only at q
    show tChain _ _ _ _ _ σ H _
    refine ⟨H₀, O₀, O, ρ, E, ?_⟩
    cases e1 : fa ρ with
    | ex z => rw [e1] at q; exact (q H (Same.refl _)).elim
    | bad => rw [e1] at q; exact (q).elim
    | ok x =>
      rw [e1, R.bind_ok] at q
      intro v H1 s1 r1
      refine ⟨H₀, O₀, O, ρ, E.grow s1, ?_⟩
      cases e2 : fb ρ with
      | ex z => rw [e2] at q; exact (q H (Same.refl _)).elim
      | bad => rw [e2] at q; exact (q).elim
      | ok y =>
        rw [e2, R.bind_ok] at q
        intro u H2 s2 r2
        cases x with
        | int i =>
          cases y with
          | int j =>
            cases r1
            cases r2
            refine ⟨i, j, rfl, rfl, trivial, _, rfl, ?_⟩
            simp only [chB] at q
            by_cases c : i ≤ j
            · rw [if_pos c] at q
              rw [decide_eq_true c, if_pos rfl]
              refine ⟨H₀, O₀, O, ρ, (E.grow s1).grow s2, ?_⟩
              cases e3 : fc ρ with
              | ex z => rw [e3] at q; exact q.elim
              | bad => rw [e3] at q; exact q.elim
              | ok z =>
                rw [e3] at q
                cases z with
                | int k =>
                  intro w H3 s3 r3
                  cases r3
                  exact ⟨j, k, rfl, rfl, trivial, _, rfl, q H3 ((s1.trans s2).trans s3)⟩
                | _ => exact (show False from q).elim
            · rw [if_neg c] at q
              rw [decide_eq_false c, if_neg Bool.false_ne_true]
              exact ⟨_, rfl, q H2 (s1.trans s2)⟩
          | _ => exact (show False from q).elim
        | _ => cases y <;> exact (show False from q).elim
def CVal (mg : Str → Option Value) (x : Str) (v : V) : Prop := ∃ u, mg x = some u ∧ RelV v u
theorem pd_conS {x : Str} {z : Str} {pos : Pos} (c : CVal X.mg x (.str z)) (hg : Gl X x := by rfl) (hdb : (x == ("__debug__" : Str)) = false := by decide) : PD X (.Name x pos) (evC (.str z)) := by
  obtain ⟨u, hm, r⟩ := c
  exact pd_con (pe_glob hg hm r hdb) fun _ _ => .str
theorem pd_conI {x : Str} {z : Int} {pos : Pos} (c : CVal X.mg x (.int z)) (hg : Gl X x := by rfl) (hdb : (x == ("__debug__" : Str)) = false := by decide) : PD X (.Name x pos) (evC (.int z)) := by
  obtain ⟨u, hm, r⟩ := c
  exact pd_con (pe_glob hg hm r hdb) fun _ _ => .int
theorem pex_ty {E : XK} {x : Str} {T : String} {p pos : Pos} {e : Expr} {G : Ev → Option Value} (h : PEX X E e G) (hg : Gl X x := by rfl) (hm : X.mg x = none := by assumption) (hv : bootBuiltins x = some (.type T) := by decide +kernel) (hn : x ≠ "__name__" := by decide)
    (hdb : (x == ("__debug__" : Str)) = false := by decide) (he : starEach [e] X.env = (false, eval e X.env) :: starEach [] X.env := by rfl) (hpl : (backTo pos (starEach [] X.env)).any (·.1) = false := by rfl) :
    PEX X E (.Call (.Name x p) [e] [] pos) G := by
  intro H₀ O₀ pins s σ H O ρ C I Ev fk ec q
  refine wpAny_Call_Name_kw (ld_blt I hg hm hv ?_ hn hdb)
  refine PyProof.Rows.callWith_type1 ?_ he hpl
  rw [he]
  show wpAny _ _ (spliced ((false, eval e X.env) :: backTo pos (starEach [] X.env))) _ _ s
  exact Calls.spliced_cons (thn (h H₀ O₀ pins s σ H O ρ C I Ev fk ec q) fun _ _ z => z.elim)
theorem psc_seq {c : Expr} {a rest : List Stmt} {pos : Pos} {fc : Ev → R Bool} {Ga Gr : Ev → Option Value} (hc : PTD X.nox c fc) (ha : PSC X a Ga) (hr : PSC X rest Gr) : PSC X (.If c a [] pos :: rest) (fun ρ => ifX (fc ρ) (Ga ρ) (Gr ρ)) := by
  intro H₀ O₀ pins s σ H O ρ C E W I Ev fk e q cg
  cases e1 : fc ρ with
  | ok t =>
    refine wpAny_execs_cons (wpAny_If (wpAny_mono (hc pins s σ H (fun d H1 => d = t ∧ Same H H1) (I.wish _) ⟨H₀, O₀, O, ρ, Ev, ?_⟩) (fun d s1 z9 => ?_) fun _ _ z => False.elim z))
    · rw [e1]; exact fun H' s' => ⟨rfl, s'⟩
    · obtain ⟨H1, I1, ed, sm⟩ := z9
      subst ed
      dsimp only at e
      rw [e1] at e
      cases d with
      | true => exact thn (ha H₀ O₀ pins s1 σ H1 O ρ C E W I1.unwish (Ev.grow sm) fk e (fun H' s' => q H' (sm.trans s')) cg) fun _ _ z => z.elim
      | false => exact wpAny_execs_nil (hr H₀ O₀ pins s1 σ H1 O ρ C E W I1.unwish (Ev.grow sm) fk e (fun H' s' => q H' (sm.trans s')) cg)
  | ex z => dsimp only at e; rw [e1] at e; cases e
  | bad => dsimp only at e; rw [e1] at e; cases e
end
end DL

namespace DL
open PySem PySem.Spec L2
open PyProof.Rows hiding St
open Builtin Builtin.Str
theorem gives_replaceN (x y z : Str) (k : Int) (t u v w : Tok) (hk : (decide (k < -(2 ^ 63 : Int)) || decide (k ≥ 2 ^ 63)) = false)
    (hf : ((occurrences x y 0 x.length (limitOf x k)).isEmpty || (y.length == 0 && z.length == 0)) = false →
      (u == 0 || v == 0) = false ∧ (u == v) = false ∧ (y == z) = false ∧ tooLong (x.length + (occurrences x y 0 x.length (limitOf x k)).length * z.length) = false) :
    Gives («str.replace» ⟨[.str x t, .str y u, .str z v, .int k w], []⟩) (if ((occurrences x y 0 x.length (limitOf x k)).isEmpty || (y.length == 0 && z.length == 0)) = true then .val (.str x t) else .str (glued z (partsBetween x (occurrences x y 0 x.length (limitOf x k)) y.length))) := by
  show Gives (do
    let limit ← countLimit "str.replace" (some (.int k w)) (x.length + 1)
    if ((occurrences x y 0 x.length limit).isEmpty || (y.length == 0 && z.length == 0)) = true then (do rule "str.replace.nothing"; ret (.str x t)) else
          (do let same ← isSame (.str y u) (.str z v)
              if same = true then (do rule "str.replace.old-is-new"; ret (.str x t)) else
              if tooLong (x.length + (occurrences x y 0 x.length limit).length * z.length) = true then unsupported "str.replace:memory" else
              retStr (glued z (partsBetween x (occurrences x y 0 x.length limit) y.length)))) _
  rw [countLimit_int "str.replace" k w (x.length + 1) hk, pure_bind]
  show Gives (if ((occurrences x y 0 x.length (limitOf x k)).isEmpty || (y.length == 0 && z.length == 0)) = true then (do rule "str.replace.nothing"; ret (.str x t)) else
          (do let same ← isSame (.str y u) (.str z v)
              if same = true then (do rule "str.replace.old-is-new"; ret (.str x t)) else
              if tooLong (x.length + (occurrences x y 0 x.length (limitOf x k)).length * z.length) = true then unsupported "str.replace:memory" else
              retStr (glued z (partsBetween x (occurrences x y 0 x.length (limitOf x k)) y.length)))) _
  cases hc : ((occurrences x y 0 x.length (limitOf x k)).isEmpty || (y.length == 0 && z.length == 0))
  · obtain ⟨h0, huv, hyz, hl⟩ := hf hc
    rw [isSame_str_other y z u v h0 huv hyz, hl]
    exact .of_eq rfl
  · exact .rule (.of_eq rfl)
theorem sum_short {n : Nat} : ∀ (l : List Str), (∀ p ∈ l, p.length ≤ n) → (l.map (·.length)).sum ≤ l.length * n
  | [], _ => Nat.zero_le _
  | p :: l, h => by
    have h1 := sum_short l fun q hq => h q (List.mem_cons_of_mem _ hq)
    have h2 := h p List.mem_cons_self
    rw [List.map_cons, List.sum_cons, List.length_cons, Nat.succ_mul]
    omega
def repl1 (x y z : Str) : Str :=
  if ((occurrences x y 0 x.length 1).isEmpty || (y.length == 0 && z.length == 0)) = true then x
  else glued z (partsBetween x (occurrences x y 0 x.length 1) y.length)
section
variable {prog : Program} {w : World} {A : Around} {E : Value → Shared → Prop} {s : Shared} {x y z : Str} {t u v k : Tok} {Q : Value → Shared → Prop}
theorem replace1 (hu : u ≠ 0) (hv : v ≠ 0) (huv : u ≠ v) (hyz : (y == z) = false) (hb : x.length ≤ 1048576) (hz : z.length ≤ 14)
    (hq : ∀ t' k, Q (.str (repl1 x y z) t') { s with toks := k }) : wpAny (model prog w) A (call (.builtin "str.replace") [.str x t, .str y u, .str z v, .int 1 k]) Q E s := by
  have e1 : limitOf x 1 = 1 := rfl
  have h1 : (occurrences x y 0 x.length 1).length ≤ 1 := StrLaws.occ_length_le x y 0 x.length 1
  have h2 : (occurrences x y 0 x.length 1).length * z.length ≤ 1 * 14 := Nat.mul_le_mul h1 hz
  have hl : tooLong (x.length + (occurrences x y 0 x.length 1).length * z.length) = false := by
    unfold tooLong
    rw [sizeLine_eq]
    exact decide_eq_false (by omega)
  refine call_gives F.slot_str_replace (typeIs_str _ _ _) F.entry_str_replace (F.args_str_replace_4 _ _ _ _)
    (gives_replaceN x y z 1 t u v k rfl fun _ => ⟨by simp [hu, hv], by simp [huv], hyz, by rw [e1]; exact hl⟩) ?_
  have hq' := hq
  unfold repl1 at hq'
  rw [e1]
  cases hc : ((occurrences x y 0 x.length 1).isEmpty || (y.length == 0 && z.length == 0))
  · rw [hc] at hq'
    simp only [Bool.false_eq_true, if_false] at hq' ⊢
    refine ⟨?_, hq' _ _⟩
    have h3 := sum_short (n := x.length) (partsBetween x (occurrences x y 0 x.length 1) y.length) fun p hp => by
      rw [StrLaws.partsBetween_eq] at hp
      exact partsFrom_short x _ _ _ p hp
    rw [length_partsBetween] at h3
    rw [size_glued, length_partsBetween, Nat.add_sub_cancel, sizeLine_eq]
    have h4 : ((occurrences x y 0 x.length 1).length + 1) * x.length ≤ 2 * 1048576 := Nat.mul_le_mul (by omega) hb
    omega
  · rw [hc] at hq'
    simp only [if_true] at hq' ⊢
    exact hq' t s.toks
end
section
variable [Tabs] {X : Cx}
theorem var_at {pins : List (Addr × Obj)} {σ : St} {H : Hp} {s : Shared} {i : Nat} {x : Str} {v : V} {pos : Pos} {Q : Value → Shared → Prop} {E : Value → Shared → Prop} (I : Inv X pins σ H s) (hN : X.N[i]? = some x) (hv : Vis X.env.scope x) (e : σ[i]? = some (some v)) (h : ∀ u, RelV v u → Q u s) (hd : (x == ("__debug__" : Str)) = false := by decide) (hcd : (x == ("__classdict__" : Str)) = false := by decide) :
    wpAny (model X.prog X.w) X.A (eval (.Name x pos) X.env) Q E s := by
  obtain ⟨m, hn, hl⟩ := I.loc
  obtain ⟨u, r, l⟩ := hl i x v hN e hv
  have fin := h u r
  rcases l with ⟨hk, hm⟩ | ⟨hk, c, hc, hcell⟩
  · exact wpAny_Name (wpAny_loadName_local I.ok.kind hk hn hm fin) hd
  · rcases hk with hk | hk
    · exact wpAny_Name (wpAny_loadName_cell I.ok.kind hk hc hcell fin) hd
    · exact wpAny_Name (wpAny_loadName_free I.ok.kind hk hc hcell fin hcd) hd
def replF (i j : Nat) (n : Int) (a b : Str) (ρ : Ev) : R Out := match ρ[i]?, ρ[j]? with
  | some (.v (.int m)), some (.v (.str t)) => if m = n then (if t.length ≤ 1048576 then .ok (.rt (.str (repl1 t a b))) else .bad) else .ok (.nx ρ)
  | _, _ => .bad
theorem psd_repl (i j : Nat) {x y a b : Str} {n : Int} {k1 k2 k3 k4 p1 p2 p3 p4 p5 p6 p7 ap cp rp ip} (hab : (a == b) = false := by decide) (hbl : b.length ≤ 14 := by decide) (hNi : X.N[i]? = some x := by rfl) (hNj : X.N[j]? = some y := by rfl) (hvi : Vis X.env.scope x := by first | exact Or.inl rfl | exact Or.inr (Or.inl rfl) | exact Or.inr (Or.inr rfl)) (hvj : Vis X.env.scope y := by first | exact Or.inl rfl | exact Or.inr (Or.inl rfl) | exact Or.inr (Or.inr rfl))
    (hdi : (x == ("__debug__" : Str)) = false := by decide) (hci : (x == ("__classdict__" : Str)) = false := by decide) (hdj : (y == ("__debug__" : Str)) = false := by decide) (hcj : (y == ("__classdict__" : Str)) = false := by decide)
    (hbase : attributeBase (.Name y p4) "replace" X.env (eval (.Name y p4) X.env) = eval (.Name y p4) X.env := by rfl)
    (hfew : ((backTo cp (starEach [.Constant (.str a) k2 p5, .Constant (.str b) k3 p6, .Constant (.int 1) k4 p7] X.env)).all (fun x => !x.1) && (backToKw cp (keywordEach [] X.env)).all (fun x => x.1.isSome)
      && decide ([Expr.Constant (.str a) k2 p5, .Constant (.str b) k3 p6, .Constant (.int 1) k4 p7].length + ([] : List Keyword).length + (if ([] : List Keyword).isEmpty then 0 else 1) < 30)) = true := by rfl)
    (hline : (ap.endLine == cp.line) = true := by rfl)
    (hst : backTo cp (starEach [.Constant (.str a) k2 p5, .Constant (.str b) k3 p6, .Constant (.int 1) k4 p7] X.env) = [(false, eval (.Constant (.str a) k2 p5) X.env), (false, eval (.Constant (.str b) k3 p6) X.env), (false, eval (.Constant (.int 1) k4 p7) X.env)] := by rfl) (hmk : behindInMarks .Eq (.Constant (.int n) k1 p2) = false := by rfl) :
    PSD X (.If (.Compare (.Name x p1) [.Eq] [.Constant (.int n) k1 p2] p3) [.Return (some (.Call (.Attribute (.Name y p4) "replace" ap) [.Constant (.str a) k2 p5, .Constant (.str b) k3 p6, .Constant (.int 1) k4 p7] [] cp)) rp] [] ip) (replF i j n a b) := by
  rintro H₀ O₀ pins s σ H Dd I ⟨O, ρ, Ev, fk, q⟩
  unfold replF at q
  split at q
  · rename_i m t e1 e2
    obtain ⟨vi, hi1, hi2⟩ := Ev.val i _ e1
    obtain ⟨vj, hj1, hj2⟩ := Ev.val j _ e2
    cases hi2
    cases hj2
    refine wpAny_If ?_
    refine wpAny_isTrue_Compare1 (var_at I hNi hvi hi1 (fun u ru => wpAny_Constant_int ?_) hdi hci)
    obtain ⟨tu, rfl⟩ := ru
    have I1 := I.tok (s.toks + 1)
    refine PyProof.Rows.eq_int (wpAny_truthy_bool ?_)
    by_cases c : m = n
    · rw [if_pos c] at q
      rw [show (m == n) = true from beq_iff_eq.mpr c]
      show wpAny _ _ (execs [_] _) _ _ _
      split at q
      · rename_i hl
        refine wpAny_execs_cons (wpAny_Return_some (wpAny_Call_method_late hbase hfew hline hst (var_at I1 hNj hvj hj1 (fun u ru => ?_) hdj hcj)))
        obtain ⟨tt, rfl⟩ := ru
        refine ⟨"str", "str.replace", PySem.F.plainAttrs_str, PySem.F.slot_str_replace, PySem.F.type_str_replace, typeIs_str _ _ _, (fun a e => nomatch e), ?_⟩
        refine Calls.callWith_builtin rfl (Calls.evalArgs_plain (Calls.spliced_cons (Calls.Constant_str (Calls.spliced_cons (Calls.Constant_str (Calls.spliced_cons (wpAny_Constant_int (Calls.spliced_nil ?_))))))))
        refine replace1 (Nat.succ_ne_zero _) (Nat.succ_ne_zero _) (Nat.ne_of_lt (Nat.lt_succ_self _)) hab hl hbl fun t' k => ?_
        exact ⟨.str _, σ, H, I.tok k, ⟨_, rfl⟩, q _ H Ev.same .str⟩
      · exact q.elim
    · rw [if_neg c] at q
      rw [show (m == n) = false from beq_eq_false_iff_ne.mpr c]
      exact wpAny_execs_nil ⟨σ, H, I1, q σ H O Ev fk (Kp.refl _ _)⟩
  · exact q.elim
end
end DL

namespace M
open PySem L2 DL
open Builtin Builtin.Str
def dg (c : Nat) : Bool := decide (48 ≤ c) && decide (c ≤ 57)
theorem dg_iff {c : Nat} : dg c = true ↔ 48 ≤ c ∧ c ≤ 57 := by unfold dg; simp
abbrev FIG : Str := "0123456789"
theorem no_hit {s sub : Str} {hi limit : Nat} : ∀ (l : List Nat) (st : Array Nat × Nat), (∀ i ∈ l, subAt s sub i = false) → (forIn l st (StrLaws.occBody s sub hi limit)).run = st
  | [], st, _ => rfl
  | a :: l, st, h => by
    rw [List.forIn_cons]
    unfold StrLaws.occBody
    rw [if_neg (by rw [h a List.mem_cons_self]; simp)]
    exact no_hit l _ fun i hi => h i (List.mem_cons_of_mem _ hi)
theorem fig_sub {c : Nat} (h : dg c = false) : ∀ i ∈ List.range' 0 11, subAt FIG ⟨#[c]⟩ i = false := by
  intro i hi
  have h' : ¬ (48 ≤ c ∧ c ≤ 57) := fun z => by rw [dg_iff.mpr z] at h; cases h
  have ne : ∀ k, 48 ≤ k → k ≤ 57 → ((#[k] : Array Nat) == #[c]) = false := fun k h1 h2 => by
    have : k ≠ c := fun z => h' (by omega)
    simp [this]
  have hi : i < 11 := by simpa using hi
  have e : i = 0 ∨ i = 1 ∨ i = 2 ∨ i = 3 ∨ i = 4 ∨ i = 5 ∨ i = 6 ∨ i = 7 ∨ i = 8 ∨ i = 9 ∨ i = 10 := by omega
  rcases e with rfl | rfl | rfl | rfl | rfl | rfl | rfl | rfl | rfl | rfl | rfl
  · exact ne 48 (by decide) (by decide)
  · exact ne 49 (by decide) (by decide)
  · exact ne 50 (by decide) (by decide)
  · exact ne 51 (by decide) (by decide)
  · exact ne 52 (by decide) (by decide)
  · exact ne 53 (by decide) (by decide)
  · exact ne 54 (by decide) (by decide)
  · exact ne 55 (by decide) (by decide)
  · exact ne 56 (by decide) (by decide)
  · exact ne 57 (by decide) (by decide)
  · rfl
theorem fig_occ (c : Nat) : occurrences FIG ⟨#[c]⟩ 0 FIG.length 1 = if dg c = true then [c - 48] else [] := by
  by_cases h : dg c = true
  · rw [if_pos h]
    obtain ⟨h1, h2⟩ := dg_iff.mp h
    have e : c = 48 ∨ c = 49 ∨ c = 50 ∨ c = 51 ∨ c = 52 ∨ c = 53 ∨ c = 54 ∨ c = 55 ∨ c = 56 ∨ c = 57 := by omega
    rcases e with rfl | rfl | rfl | rfl | rfl | rfl | rfl | rfl | rfl | rfl <;> decide +kernel
  · rw [if_neg h, StrLaws.occ_eq]
    have := no_hit (s := FIG) (sub := ⟨#[c]⟩) (hi := FIG.length) (limit := 1) (List.range' 0 (FIG.length + 1 - 0)) (#[], 0) (fig_sub (by simpa using h))
    rw [this]
theorem fig_find (c : Nat) : Txt.find FIG ⟨#[c]⟩ = if dg c = true then ((c - 48 : Nat) : Int) else -1 := by
  unfold Txt.find
  rw [fig_occ]
  by_cases h : dg c = true
  · rw [if_pos h, if_pos h]
  · rw [if_neg h, if_neg h]
theorem fig_in (c : Nat) : (!(occurrences FIG ⟨#[c]⟩ 0 FIG.length 1).isEmpty) = dg c := by
  rw [fig_occ]
  by_cases h : dg c = true
  · rw [if_pos h, h]; rfl
  · rw [if_neg h, Bool.eq_false_iff.mpr h]; rfl
def figs : List Nat → List Nat
  | 45 :: r => r
  | l => l
def foldV (l : List Nat) : Nat := l.foldl (fun a c => a * 10 + (c - 48)) 0
theorem step_dg {p : Array Nat × Bool} {c : Nat} (h : dg c = true) : NumText.step 10 p c = some (p.1.push (c - 48), true) := by
  obtain ⟨h1, h2⟩ := dg_iff.mp h
  unfold NumText.step NumText.digit?
  rw [if_neg (by simp; omega), if_pos (by simp; omega)]
  simp only
  rw [if_pos (by omega)]
theorem fold_dg : ∀ (l : List Nat) (p : Array Nat × Bool), l.all dg = true → l.foldlM (NumText.step 10) p = some (p.1 ++ (l.map (· - 48)).toArray, p.2 || !l.isEmpty)
  | [], p, _ => by simp
  | c :: l, p, h => by
    rw [List.all_cons, Bool.and_eq_true] at h
    rw [List.foldlM_cons, step_dg h.1]
    show l.foldlM (NumText.step 10) (p.1.push (c - 48), true) = _
    rw [fold_dg l _ h.2]
    simp
theorem digits_dg {l : List Nat} (h : l.all dg = true) (hn : l ≠ []) : NumText.digits? 10 l = some (l.map (· - 48)).toArray := by
  unfold NumText.digits?
  rw [fold_dg l _ h]
  cases l with
  | nil => exact absurd rfl hn
  | cons c l => simp
theorem not_blank {c : Nat} (h : dg c = true) : NumText.blank c = false := by
  obtain ⟨h1, h2⟩ := dg_iff.mp h
  unfold NumText.blank
  simp
  omega
theorem tw_all {p : Nat → Bool} : ∀ (l : List Nat), (∀ c ∈ l, p c = true) → l.takeWhile p = l
  | [], _ => rfl
  | c :: l, h => by rw [List.takeWhile_cons, if_pos (h c List.mem_cons_self), tw_all l fun d hd => h d (List.mem_cons_of_mem _ hd)]
theorem dw_none {p : Nat → Bool} : ∀ (l : List Nat), (∀ c ∈ l, p c = false) → l.dropWhile p = l
  | [], _ => rfl
  | c :: l, h => by rw [List.dropWhile_cons, if_neg (by rw [h c List.mem_cons_self]; exact Bool.false_ne_true)]
theorem figs_dg {c : Nat} {l : List Nat} (h : dg c = true) : figs (c :: l) = c :: l ∧ NumText.sign (c :: l) = (false, c :: l) := by
  obtain ⟨h1, h2⟩ := dg_iff.mp h
  have e : c = 48 ∨ c = 49 ∨ c = 50 ∨ c = 51 ∨ c = 52 ∨ c = 53 ∨ c = 54 ∨ c = 55 ∨ c = 56 ∨ c = 57 := by omega
  rcases e with rfl | rfl | rfl | rfl | rfl | rfl | rfl | rfl | rfl | rfl <;> exact ⟨rfl, rfl⟩
theorem sign_figs {l : List Nat} (ha : ∀ c ∈ l, c = 45 ∨ dg c = true) (hn : figs l ≠ []) : NumText.sign l = (decide (l ≠ figs l), figs l) := by
  cases l with
  | nil => exact absurd rfl hn
  | cons c l =>
    rcases ha c List.mem_cons_self with rfl | z
    · have : (45 :: l : List Nat) ≠ l := fun z => by have := congrArg List.length z; simp at this
      show (true, l) = (decide ((45 :: l : List Nat) ≠ l), l)
      rw [decide_eq_true this]
    · rw [(figs_dg z).1, (figs_dg z).2, decide_eq_false (fun z => z rfl)]
theorem worth_fold (b : Bool) (l : List Nat) : NumText.worth b (l.map (· - 48)).toArray = if b = true then -(foldV l : Int) else (foldV l : Int) := by
  have : (l.map (· - 48)).toArray.foldl (fun acc d => acc * 10 + d) 0 = foldV l := by
    unfold foldV
    rw [List.foldl_toArray, List.foldl_map]
  unfold NumText.worth
  rw [this]
theorem int_text {x : Str} (h : (figs x.cps.toList).all dg = true) (hn : figs x.cps.toList ≠ []) (hl : (figs x.cps.toList).length ≤ 40) :
    intText? x = some (if x.cps.toList = figs x.cps.toList then (foldV (figs x.cps.toList) : Int) else -(foldV (figs x.cps.toList) : Int)) := by
  generalize e : x.cps.toList = l at *
  have ha : ∀ c ∈ l, c = 45 ∨ dg c = true := fun c hc => by
    unfold figs at h
    split at h
    · rcases List.mem_cons.mp hc with rfl | hc
      · exact .inl rfl
      · exact .inr (List.all_eq_true.mp h c hc)
    · exact .inr (List.all_eq_true.mp h c hc)
  have h128 : x.cps.all (· < 128) = true := by
    rw [← Array.all_toList, e]
    refine List.all_eq_true.mpr fun c hc => ?_
    rcases ha c hc with rfl | z
    · decide
    · obtain ⟨h1, h2⟩ := dg_iff.mp z
      simp; omega
  have et : numTextOf x = l := by unfold numTextOf; rw [if_pos h128, e]
  have es : numSeenOf x = l := by
    unfold numSeenOf
    rw [et]
    refine tw_all l fun c hc => ?_
    rcases ha c hc with rfl | z
    · decide
    · obtain ⟨h1, h2⟩ := dg_iff.mp z
      simp; omega
  have eb : l.dropWhile NumText.blank = l := by
    cases l with
    | nil => rfl
    | cons c l =>
      rw [List.dropWhile_cons, if_neg]
      rcases ha c List.mem_cons_self with rfl | z
      · decide
      · rw [not_blank z]; exact Bool.false_ne_true
  have e2 := sign_figs ha hn
  have ec : NumText.core l = figs l := by
    unfold NumText.core
    rw [eb, e2]
    show ((figs l).reverse.dropWhile NumText.blank).reverse = figs l
    rw [dw_none _ fun c hc => not_blank (List.all_eq_true.mp h c (List.mem_reverse.mp hc)), List.reverse_reverse]
  unfold intText?
  rw [es, et, ec, eb, e2, digits_dg h hn]
  simp only [beq_self_eq_true, if_true]
  rw [if_pos (by simp; omega), worth_fold]
  by_cases z : l = figs l
  · rw [if_pos z, decide_eq_false (fun y => y z), if_neg Bool.false_ne_true]
  · rw [if_neg z, decide_eq_true z, if_pos rfl]
end M

namespace M
open PySem L2 DL
open Builtin Builtin.Str
theorem str_ext {x y : Str} (h : x.cps.toList = y.cps.toList) : x = y := by
  cases x; cases y
  simp only at h
  congr 1
  exact Array.toList_inj.mp h
theorem sw1 (x : Str) (c : Nat) : Txt.startswith x ⟨#[c]⟩ = (x.cps.toList.head? == some c) := by
  unfold Txt.startswith subAt
  obtain ⟨⟨l⟩⟩ := x
  cases l with
  | nil => rfl
  | cons a l =>
    show (decide (0 + 1 ≤ (a :: l).length) && (((⟨a :: l⟩ : Array Nat).extract 0 (0 + 1)) == #[c])) = ((a :: l).head? == some c)
    have : ((⟨a :: l⟩ : Array Nat).extract 0 (0 + 1)) = #[a] := by
      apply Array.ext'
      simp
    rw [this, decide_eq_true (by simp)]
    simp
theorem pick (l : List Nat) (a n : Nat) (h : a + n ≤ l.length) : ((List.range n).map fun (k : Nat) => ((a : Int) + 1 * (k : Int)).toNat).filterMap (fun i => (⟨l⟩ : Array Nat)[i]?) = (l.drop a).take n := by
  induction n with
  | zero => rfl
  | succ n ih =>
    rw [List.range_succ, List.map_append, List.filterMap_append, ih (by omega), List.map_singleton]
    have e : ((a : Int) + 1 * (n : Int)).toNat = a + n := by omega
    rw [e]
    have hg : (⟨l⟩ : Array Nat)[a + n]? = some l[a + n] := by simp
    simp only [List.filterMap_cons, List.filterMap_nil, hg]
    rw [List.take_succ, List.getElem?_drop, List.getElem?_eq_getElem (by omega)]
    rfl
theorem idx_from (a n : Nat) (h : a ≤ n) : strSliceIndices (some (a : Int)) none 1 n = (List.range (n - a)).map fun (k : Nat) => ((a : Int) + 1 * (k : Int)).toNat := by
  unfold strSliceIndices sliceRange
  have e1 : (if (a : Int) < 0 then (a : Int) + n else a) = a := if_neg (by omega)
  have e2 : max 0 (min (a : Int) n) = a := by omega
  have e3 : (if (a : Int) < n then ((n : Int) - a + 1 - 1) / 1 else 0).toNat = n - a := by
    rw [Int.ediv_one]
    split <;> omega
  simp only [e1, show (1 : Int) > 0 from by decide, if_true, e2, e3]
theorem idx_to (a n : Nat) (h : a ≤ n) : strSliceIndices none (some (a : Int)) 1 n = (List.range a).map fun (k : Nat) => (((0 : Nat) : Int) + 1 * (k : Int)).toNat := by
  unfold strSliceIndices sliceRange
  have e1 : (if (a : Int) < 0 then (a : Int) + n else a) = a := if_neg (by omega)
  have e2 : max 0 (min (a : Int) n) = a := by omega
  have e3 : (if (0 : Int) < a then ((a : Int) - 0 + 1 - 1) / 1 else 0).toNat = a := by
    rw [Int.ediv_one]
    split <;> omega
  simp only [e1, show (1 : Int) > 0 from by decide, if_true, e2, e3]
  rfl
theorem sl_from (x : Str) (a : Nat) (h : a ≤ x.length) : (Txt.slice x (some (a : Int)) none).cps.toList = x.cps.toList.drop a := by
  obtain ⟨⟨l⟩⟩ := x
  have h : a ≤ l.length := h
  unfold Txt.slice
  show (if ((1 : Int) == 1 && (strSliceIndices (some (a : Int)) none 1 l.length).length == l.length) = true then (⟨⟨l⟩⟩ : Str) else ⟨((strSliceIndices (some (a : Int)) none 1 l.length).filterMap (fun i => (⟨l⟩ : Array Nat)[i]?)).toArray⟩).cps.toList = l.drop a
  rw [idx_from a _ h]
  by_cases c : a = 0
  · subst c
    rw [if_pos (by simp)]
    rfl
  · by_cases d : l.length = 0
    · omega
    · rw [if_neg (by simp; omega), pick l a _ (by omega)]
      show (l.drop a).take (l.length - a) = l.drop a
      rw [List.take_of_length_le (by rw [List.length_drop]; exact Nat.le_refl _)]
theorem sl_to (x : Str) (a : Nat) (h : a ≤ x.length) : (Txt.slice x none (some (a : Int))).cps.toList = x.cps.toList.take a := by
  obtain ⟨⟨l⟩⟩ := x
  have h : a ≤ l.length := h
  unfold Txt.slice
  show (if ((1 : Int) == 1 && (strSliceIndices none (some (a : Int)) 1 l.length).length == l.length) = true then (⟨⟨l⟩⟩ : Str) else ⟨((strSliceIndices none (some (a : Int)) 1 l.length).filterMap (fun i => (⟨l⟩ : Array Nat)[i]?)).toArray⟩).cps.toList = l.take a
  rw [idx_to a _ h]
  by_cases c : a = l.length
  · rw [if_pos (by simp [c]), c]
    show l = l.take l.length
    rw [List.take_length]
  · rw [if_neg (by simp; omega), pick l 0 _ (by omega)]
    rfl
theorem sl_nil (x : Str) (h : x.length = 0) (a b : Option Int) : Txt.slice x a b = x := by
  have := Txt.slice_le x a b
  rw [h] at this
  refine str_ext ?_
  have h1 : x.cps.toList = [] := List.eq_nil_of_length_eq_zero (by rw [Array.length_toList]; exact h)
  have h2 : (Txt.slice x a b).cps.toList = [] := List.eq_nil_of_length_eq_zero (by rw [Array.length_toList]; exact Nat.le_zero.mp this)
  rw [h1, h2]
def figS (x : Str) : Str := if Txt.startswith x "-" = true then Txt.slice x (some 1) none else x
theorem head_list (x : Str) : Txt.startswith x "-" = (x.cps.toList.head? == some 45) := sw1 x 45
theorem figS_list (x : Str) : (figS x).cps.toList = figs x.cps.toList := by
  unfold figS
  rw [head_list]
  generalize e : x.cps.toList = l
  cases l with
  | nil => rw [if_neg (by simp)]; rw [e]; rfl
  | cons a l =>
    by_cases c : a = 45
    · subst c
      rw [if_pos (by simp)]
      have hl : 1 ≤ x.length := by show 1 ≤ x.cps.size; rw [← Array.length_toList, e]; simp
      have := sl_from x 1 hl
      rw [e] at this
      exact this
    · rw [if_neg (by simp [c]), e]
      unfold figs
      split
      · rename_i h; exact absurd (by injection h) c
      · rfl
theorem fig_law (x : Str) : Txt.slice x (some (if (Txt.slice x none (some 1) == ("-" : Str)) = true then 1 else 0)) none = figS x := by
  by_cases h0 : x.length = 0
  · rw [sl_nil x h0]
    unfold figS
    split
    · rw [sl_nil x h0]
    · rfl
  · have e : (Txt.slice x none (some 1) == ("-" : Str)) = Txt.startswith x "-" := by
      rw [head_list]
      have h1 := sl_to x 1 (by omega)
      have h2 : 1 ≤ x.cps.toList.length := by rw [Array.length_toList]; show 1 ≤ x.length; omega
      generalize x.cps.toList = l at h1 h2
      cases l with
      | nil => simp at h2
      | cons a l =>
        have h1 : (Txt.slice x none (some 1)).cps.toList = [a] := h1
        by_cases c : a = 45
        · subst c
          have : Txt.slice x none (some 1) = ("-" : Str) := str_ext (by rw [h1]; rfl)
          rw [this]
          simp
        · have : Txt.slice x none (some 1) ≠ ("-" : Str) := fun z => c (by rw [z] at h1; have h1 : ([45] : List Nat) = [a] := h1; injection h1 with h1; exact h1.symm)
          rw [beq_eq_false_iff_ne.mpr this]
          simp [c]
    rw [e]
    unfold figS
    by_cases c : Txt.startswith x "-" = true
    · rw [if_pos c, if_pos c]
    · rw [if_neg c, if_neg c]
      exact str_ext (sl_from x 0 (Nat.zero_le _))
end M

namespace DL
open PySem PySem.Spec L2
def inB (x : D) (ys : List D) : Bool := ys.any fun y => eqD y x
def inR (n : Bool) : D → D → R D
  | .tup xs, .lst ys => if deps ys ≤ 40 ∧ deps xs ≤ 30 then .ok (.bl (inB (.tup xs) ys != n)) else .bad
  | .lst xs, .lst ys => if deps ys ≤ 40 ∧ deps xs ≤ 30 then .ok (.bl (inB (.lst xs) ys != n)) else .bad
  | .non, .lst ys => if deps ys ≤ 40 then .ok (.bl (inB .non ys != n)) else .bad
  | .str a, .str b => .ok (.bl ((!(Builtin.Str.occurrences b a 0 b.length 1).isEmpty) != n))
  | _, _ => .bad
section
variable [Tabs]

open Classical in
noncomputable def eIn (K : PySem.W.Frag) (H : Hp) (O : Addr → Prop) (dx : D) (u : Value) : Bool := decide (∃ y d, RelV y u ∧ Rep K H O y d ∧ eqD d dx = true)
open Classical in
theorem eIn_of (I : Inv X pins σ H s) (r : Rep X.K H O y d) (ru : RelV y u) : eIn X.K H O dx u = eqD d dx := by
  by_cases h : eqD d dx = true
  · rw [h]; exact decide_eq_true ⟨y, d, ru, r, h⟩
  · rw [Bool.eq_false_iff.mpr h]
    refine decide_eq_false fun ⟨y', d', ru', r', h'⟩ => h ?_
    have e := RelV.inj ru ru'
    subst e
    rw [Rep.inj I r r']; exact h'
theorem mem_in (I : Inv X pins σ H s) (hx : Rep X.K H O' x dx) (rx : RelV x v) : ∀ {vs : List V} {ys : List D} {us : List Value}, Reps X.K H O vs ys → Vals vs us → A.units + deps ys < cLine → A.units + dep dx < cLine →
    (∀ u ∈ us, SeqAt.EqAt A s u v (eIn X.K H O dx u)) ∧ us.any (eIn X.K H O dx) = inB dx ys := by
  intro _ _ _ z1 z2 hu hu2
  cases z1 with
  | nil => cases z2; exact ⟨fun u hu => (by cases hu), rfl⟩
  | @cons _ d _ ys h t =>
    cases z2 with
    | cons r rr =>
      have h1 : dep d ≤ deps (d :: ys) := dep_mem (j := 0) rfl
      have h2 : deps ys ≤ deps (d :: ys) := by rw [deps]; exact Nat.le_max_right _ _
      obtain ⟨g1, g2⟩ := mem_in I hx rx t rr (by lia) hu2
      refine ⟨fun u hu' => ?_, ?_⟩
      · rcases List.mem_cons.mp hu' with rfl | hu'
        · rw [eIn_of I h r]; exact eqAt_D I h hx r rx (by lia) hu2
        · exact g1 u hu'
      · rw [List.any_cons, g2, eIn_of I h r]; rfl
end
section
variable [Tabs]

theorem od_in (hu : X.A.units + 64 < cLine) : OpD X (compareOp .In) (inR false) := by
  intro H O x y dx dy Q fr r1 r2 q
  unfold inR at q
  split at q
  · rename_i xs ys
    split at q
    · rename_i hd
      obtain ⟨a', vs', rfl, h', r'⟩ := r1.tupI
      obtain ⟨a, vs, rfl, h, r⟩ := r2.lstI
      refine ⟨fun x' y' H' Q' => x' = .ref a' ∧ y' = .ref a ∧ H' = H ∧ Q' (.bl (inB (.tup xs) ys)) H, ?_, rfl, rfl, rfl, ?_⟩
      · intro pins s σ H' x' y' v u Q' I rx ry ⟨e1, e2, e3, q'⟩
        subst e1 e2 e3
        cases ry
        obtain ⟨its, rr, p, hz⟩ := I.list h
        have m := mem_in I (A := X.A.in1) (O := O) (Rep.tup h' r') rx r rr (by rw [in1_units]; lia) (by rw [in1_units, dep]; lia)
        refine SeqAt.in_listAt (eIn X.K H' O (.tup xs)) p.isList (fun w hw => m.1 w (by simpa using hw)) ⟨.bl _, H', I, rfl, ?_⟩
        rw [show its.toArray.any (eIn X.K H' O (.tup xs)) = its.any (eIn X.K H' O (.tup xs)) by simp, m.2]
        exact q'
      · have := q (.bl _) H (Same.refl _) .bl
        simpa using this
    · exact q.elim
  · rename_i xs ys
    split at q
    · rename_i hd
      obtain ⟨a', vs', rfl, h', r'⟩ := r1.lstI
      obtain ⟨a, vs, rfl, h, r⟩ := r2.lstI
      refine ⟨fun x' y' H' Q' => x' = .ref a' ∧ y' = .ref a ∧ H' = H ∧ Q' (.bl (inB (.lst xs) ys)) H, ?_, rfl, rfl, rfl, ?_⟩
      · intro pins s σ H' x' y' v u Q' I rx ry ⟨e1, e2, e3, q'⟩
        subst e1 e2 e3
        cases ry
        obtain ⟨its, rr, p, hz⟩ := I.list h
        have m := mem_in I (A := X.A.in1) (O := O) (Rep.lst (O := fun _ => False) h' (fun z => z) (r'.sub fun _ z => z.elim)) rx r rr (by rw [in1_units]; lia) (by rw [in1_units, dep]; lia)
        refine SeqAt.in_listAt (eIn X.K H' O (.lst xs)) p.isList (fun w hw => m.1 w (by simpa using hw)) ⟨.bl _, H', I, rfl, ?_⟩
        rw [show its.toArray.any (eIn X.K H' O (.lst xs)) = its.any (eIn X.K H' O (.lst xs)) by simp, m.2]
        exact q'
      · have := q (.bl _) H (Same.refl _) .bl
        simpa using this
    · exact q.elim
  · rename_i ys
    split at q
    · rename_i hd
      cases r1.nonI
      obtain ⟨a, vs, rfl, h, r⟩ := r2.lstI
      refine ⟨fun x' y' H' Q' => x' = .non ∧ y' = .ref a ∧ H' = H ∧ Q' (.bl (inB .non ys)) H, ?_, rfl, rfl, rfl, ?_⟩
      · intro pins s σ H' x' y' v u Q' I rx ry ⟨e1, e2, e3, q'⟩
        subst e1 e2 e3
        cases ry
        obtain ⟨its, rr, p, hz⟩ := I.list h
        have m := mem_in I (A := X.A.in1) (O := O) (Rep.non (O := fun _ => False)) rx r rr (by rw [in1_units]; lia) (by rw [in1_units]; simp only [dep]; lia)
        refine SeqAt.in_listAt (eIn X.K H' O .non) p.isList (fun w hw => m.1 w (by simpa using hw)) ⟨.bl _, H', I, rfl, ?_⟩
        rw [show its.toArray.any (eIn X.K H' O .non) = its.any (eIn X.K H' O .non) by simp, m.2]
        exact q'
      · have := q (.bl _) H (Same.refl _) .bl
        simpa using this
    · exact q.elim
  · rename_i a b
    cases r1.strI
    cases r2.strI
    refine ⟨_, op_in_str, a, b, rfl, rfl, ?_⟩
    have := q (.bl _) H (Same.refl _) .bl
    simpa using this
  · exact q.elim
theorem od_notin (hu : X.A.units + 64 < cLine) : OpD X (compareOp .NotIn) (inR true) := by
  intro H O x y dx dy Q fr r1 r2 q
  unfold inR at q
  split at q
  · rename_i xs ys
    split at q
    · rename_i hd
      obtain ⟨a', vs', rfl, h', r'⟩ := r1.tupI
      obtain ⟨a, vs, rfl, h, r⟩ := r2.lstI
      refine ⟨fun x' y' H' Q' => x' = .ref a' ∧ y' = .ref a ∧ H' = H ∧ Q' (.bl (!inB (.tup xs) ys)) H, ?_, rfl, rfl, rfl, ?_⟩
      · intro pins s σ H' x' y' v u Q' I rx ry ⟨e1, e2, e3, q'⟩
        subst e1 e2 e3
        cases ry
        obtain ⟨its, rr, p, hz⟩ := I.list h
        have m := mem_in I (A := X.A.in1) (O := O) (Rep.tup h' r') rx r rr (by rw [in1_units]; lia) (by rw [in1_units, dep]; lia)
        refine SeqAt.notIn_listAt (eIn X.K H' O (.tup xs)) p.isList (fun w hw => m.1 w (by simpa using hw)) ⟨.bl _, H', I, rfl, ?_⟩
        rw [show its.toArray.any (eIn X.K H' O (.tup xs)) = its.any (eIn X.K H' O (.tup xs)) by simp, m.2]
        exact q'
      · have := q (.bl _) H (Same.refl _) .bl
        simpa using this
    · exact q.elim
  · rename_i xs ys
    split at q
    · rename_i hd
      obtain ⟨a', vs', rfl, h', r'⟩ := r1.lstI
      obtain ⟨a, vs, rfl, h, r⟩ := r2.lstI
      refine ⟨fun x' y' H' Q' => x' = .ref a' ∧ y' = .ref a ∧ H' = H ∧ Q' (.bl (!inB (.lst xs) ys)) H, ?_, rfl, rfl, rfl, ?_⟩
      · intro pins s σ H' x' y' v u Q' I rx ry ⟨e1, e2, e3, q'⟩
        subst e1 e2 e3
        cases ry
        obtain ⟨its, rr, p, hz⟩ := I.list h
        have m := mem_in I (A := X.A.in1) (O := O) (Rep.lst (O := fun _ => False) h' (fun z => z) (r'.sub fun _ z => z.elim)) rx r rr (by rw [in1_units]; lia) (by rw [in1_units, dep]; lia)
        refine SeqAt.notIn_listAt (eIn X.K H' O (.lst xs)) p.isList (fun w hw => m.1 w (by simpa using hw)) ⟨.bl _, H', I, rfl, ?_⟩
        rw [show its.toArray.any (eIn X.K H' O (.lst xs)) = its.any (eIn X.K H' O (.lst xs)) by simp, m.2]
        exact q'
      · have := q (.bl _) H (Same.refl _) .bl
        simpa using this
    · exact q.elim
  · rename_i ys
    split at q
    · rename_i hd
      cases r1.nonI
      obtain ⟨a, vs, rfl, h, r⟩ := r2.lstI
      refine ⟨fun x' y' H' Q' => x' = .non ∧ y' = .ref a ∧ H' = H ∧ Q' (.bl (!inB .non ys)) H, ?_, rfl, rfl, rfl, ?_⟩
      · intro pins s σ H' x' y' v u Q' I rx ry ⟨e1, e2, e3, q'⟩
        subst e1 e2 e3
        cases ry
        obtain ⟨its, rr, p, hz⟩ := I.list h
        have m := mem_in I (A := X.A.in1) (O := O) (Rep.non (O := fun _ => False)) rx r rr (by rw [in1_units]; lia) (by rw [in1_units]; simp only [dep]; lia)
        refine SeqAt.notIn_listAt (eIn X.K H' O .non) p.isList (fun w hw => m.1 w (by simpa using hw)) ⟨.bl _, H', I, rfl, ?_⟩
        rw [show its.toArray.any (eIn X.K H' O .non) = its.any (eIn X.K H' O .non) by simp, m.2]
        exact q'
      · have := q (.bl _) H (Same.refl _) .bl
        simpa using this
    · exact q.elim
  · rename_i a b
    cases r1.strI
    cases r2.strI
    refine ⟨_, op_notin_str, a, b, rfl, rfl, ?_⟩
    have := q (.bl _) H (Same.refl _) .bl
    simpa using this
  · exact q.elim
end
end DL

namespace DL
open PySem PySem.Spec L2
open PyProof.Rows hiding St
variable [Tabs]
section

end
end DL

namespace DL
open PySem PySem.Spec L2
open PyProof.Rows hiding St
variable [Tabs]
section
variable {prog : Program} {w : World}
end
section

end
section
variable {K : Type} [DecidableEq K] {knd : HeapKind prog w K}
end

section

end
end DL

namespace DL
open PySem PySem.Spec L2
open PyProof.Rows hiding St
section
variable [Tabs]

end
end DL

namespace DL
open PySem PySem.Spec L2
open PyProof.Rows hiding St
variable [Tabs]
section
variable {K : Type} [DecidableEq K] {knd : HeapKind prog w K}
end
section
variable {o e : Expr} {es : List Expr} {to : TE} {t : TA} {name : Str} {apos cpos : Pos} {T id : String} {r : V → List V → Hp → VK → Prop}
end
section
variable {A : Around} {s : Shared} {prog : Program} {w : World} {E : Value → Shared → Prop}
end
end DL

namespace DL
open PySem PySem.Spec L2
open PyProof.Rows hiding St
variable [Tabs]
end DL

namespace DL
open PySem PySem.Spec L2
open PyProof.Rows hiding St
variable [Tabs]
section

def isNR : D → D → R D
  | .non, .non => .ok (.bl true)
  | _, .non => .ok (.bl false)
  | _, _ => .bad
theorem od_isN : OpD X (compareOp .Is) isNR := by
  intro H O x y dx dy Q fr rx ry q
  refine ⟨_, op_isN, ?_⟩
  cases dy with
  | non =>
    refine ⟨ry.nonI, ?_⟩
    cases dx with
    | non => rw [rx.nonI]; exact q _ H (Same.refl _) .bl
    | bl b => rw [rx.blI]; exact q _ H (Same.refl _) .bl
    | int i => rw [rx.intI]; exact q _ H (Same.refl _) .bl
    | str z => rw [rx.strI]; exact q _ H (Same.refl _) .bl
    | tup ds => obtain ⟨a, _, rfl, _⟩ := rx.tupI; exact q _ H (Same.refl _) .bl
    | lst ds => obtain ⟨a, _, rfl, _⟩ := rx.lstI; exact q _ H (Same.refl _) .bl
    | dct => obtain ⟨a, _, _, rfl, _⟩ := rx.dctI; exact q _ H (Same.refl _) .bl
  | _ => cases dx <;> exact (q).elim
theorem psd_drop (he : PD X e f) (hs : swapsWith e none pos.line X.env = pure false := by rfl) : PSD X (.Expr e pos) (fun ρ => (f ρ).bind fun _ => .ok (.nx ρ)) := fun H₀ O₀ =>
  psI (ps_expr he hs) fun D σ H O ρ E fk q => ⟨H₀, O₀, O, ρ, E, by
    cases e1 : f ρ with
    | ok d => rw [e1] at q; exact fun v H' s r => q _ H' O (E.grow s) fk (Kp.of s)
    | ex x => rw [e1] at q; exact fun H' s => q H' (E.same.trans s)
    | bad => rw [e1] at q; exact q⟩
def boolsD : List D → Option (List Bool)
  | [] => some []
  | .bl b :: ds => (boolsD ds).map (b :: ·)
  | _ :: _ => none
theorem boolsD_get : ∀ {ds : List D} {bs : List Bool}, boolsD ds = some bs → ds = bs.map D.bl
  | [], bs, h => by cases h; rfl
  | .bl b :: ds, bs, h => by
    unfold boolsD at h
    cases e : boolsD ds with
    | none => grind
    | some l =>
      rw [e] at h
      have h' : b :: l = bs := Option.some.inj h
      subst h'
      rw [boolsD_get e]; rfl
  | .non :: _, _, h | .int _ :: _, _, h | .str _ :: _, _, h | .tup _ :: _, _, h | .lst _ :: _, _, h | .dct _ :: _, _, h => by cases h
def anyR : List D → R D
  | [.lst ds] => match boolsD ds with
    | some bs => .ok (.bl (bs.any id))
    | none => .bad
  | _ => .bad
theorem bool_items {K : PySem.W.Frag} {H : Hp} {O : Addr → Prop} {ws : List V} {bs : List Bool} {its : List Value} (r : Reps K H O ws (bs.map D.bl)) (v : Vals ws its) : its = bs.map Value.bool := by
  induction bs generalizing ws its with
  | nil => cases r; cases v; rfl
  | cons b bs ih =>
    cases r with
    | cons r t =>
      cases v with
      | cons rv tv =>
        cases r
        have : _ = Value.bool b := rv
        rw [this, ih t tv]; rfl
theorem range_any (bs : List Bool) : (List.range bs.length).any (fun i => bs.getD i false) = bs.any id := by
  rw [Bool.eq_iff_iff, List.any_eq_true, List.any_eq_true]
  constructor
  · rintro ⟨i, hi, e⟩
    have hi' : i < bs.length := by simp_all
    refine ⟨bs[i], List.getElem_mem hi', ?_⟩
    simp_all
  · rintro ⟨b, hb, e⟩
    obtain ⟨i, hi, rfl⟩ := List.getElem_of_mem hb
    exact ⟨i, by simpa using hi, by simpa [List.getElem?_eq_getElem hi] using e⟩
theorem cd_any (hc : X.calm = true) : CallD X (.builtin "any") anyR := by
  intro H O vs ds Q fr r q
  match ds, q with
  | [.lst xs], q =>
    obtain ⟨v, rfl, z⟩ := pr1 r
    obtain ⟨p, ws, rfl, h1, h2⟩ := z.lstI
    simp only [anyR] at q
    cases e : boolsD xs with
    | none => rw [e] at q; exact q.elim
    | some bs =>
      rw [e] at q
      rw [boolsD_get e] at h2
      refine ⟨fun vs H' Q' => vs = [.ref p] ∧ H' = H ∧ Q' = Q, fun pins s σ H' xs us Q' I rv ⟨e1, e2, e3⟩ => ?_, rfl, rfl, rfl⟩
      subst e1 e2 e3
      obtain ⟨u, rfl, ru⟩ := vals1 rv
      cases ru
      obtain ⟨its, rv2, ⟨oL, nL, gL, cL, dL, sL⟩, zL⟩ := I.list h1
      have ei := bool_items h2 rv2
      have hl : s.heap.IsList p its.toArray := ⟨oL, gL, cL, nL, sL⟩
      refine call_any_walk (wpAny_pyIter_list hl ⟨s.heap.objs.size, _, _, its.toArray.size, _, _, fun i => bs.getD i false, rfl, Walks.list (by simp [I.ok.hd hc]) s.heap.objs.size p (Nat.ne_of_lt (Heap.lt_size gL)) its.toArray, ⟨⟨_, Heap.get?_push_size _ rfl, rfl, rfl⟩, hl.push _⟩, fun i v s' Q E hP hq => ?_, fun h' tk kp => ?_⟩)
      · have hP : its.toArray[i]? = some v := hP
        have hq : Q (bs.getD i false) s' := hq
        rw [List.getElem?_toArray, ei, List.getElem?_map] at hP
        cases eb : bs[i]? with
        | none => rw [eb] at hP; cases hP
        | some b =>
          rw [eb] at hP
          have : Value.bool b = v := Option.some.inj hP
          subst this
          rw [List.getD_eq_getElem?_getD, eb] at hq
          exact wpAny_truthy_bool hq
      · have I2 := I.kept (h' := h') (t' := tk) fun b o e => kp b o (by simp only [List.mem_singleton]; exact Nat.ne_of_lt (Heap.lt_size e)) (Heap.get?_push_of_some _ e)
        refine ⟨.bl (bs.any id), _, I2, ?_, q _ _ (Same.refl _) .bl⟩
        show Value.bool _ = Value.bool _
        rw [List.size_toArray, ei, List.length_map, range_any]
end
end DL

namespace DL
open PySem PySem.Spec L2
open PyProof.Rows hiding St
variable [Tabs]
section

end
end DL

namespace DL
open PySem PySem.Spec L2
open PyProof.Rows hiding St
section

variable [Tabs]
end
end DL

namespace DL
open PySem PySem.Spec L2
open PyProof.Rows hiding St
variable [Tabs]
section
end
end DL

namespace DL
open PySem PySem.Spec L2
open PyProof.Rows hiding St sub_tuple_tuple sub_list_list sub_tuple_list sub_list_tuple
section
open PySem.MeetsSeq PySem.MeetsSeq2 PySem.MeetsSeq3 PySem.AutoSeq1
end
section

end
variable [Tabs]
section

end
end DL

namespace DL
open PySem PySem.Spec L2
open PyProof.Rows hiding St
def minN : List Int → Int
  | [] => 0
  | a :: l => l.foldl min a
variable [Tabs]
section

omit [Tabs] in
end
end DL

namespace DL
open PySem PySem.Spec L2
open PyProof.Rows hiding St
variable [Tabs]
section
variable {K : PySem.W.Frag}
omit [Tabs] in
omit [Tabs] in
end
section

end
end DL
namespace DL
open PySem L2
theorem _root_.L2.Room.u130 (r : Room k A) : A.units + 130 < cLine := by have := r.un; lia
end DL

namespace M
open PySem L2 DL
theorem forL_cons_nx (h1 : G d ρ = .ok ρ1) (h2 : F ρ1 = .ok (.nx ρ2)) : forL G F (d :: ds) ρ = forL G F ds ρ2 := by rw [forL, h1]; dsimp only; rw [h2]
theorem forL_cons_rt (h1 : G d ρ = .ok ρ1) (h2 : F ρ1 = .ok (.rt x)) : forL G F (d :: ds) ρ = .ok (.rt x) := by rw [forL, h1]; dsimp only; rw [h2]
theorem compL_map {α : Type} (rep : α → D) (p : α → Bool) (g : α → D) : ∀ (l : List α), (∀ a ∈ l, ∃ ρ1, G (rep a) ρ = .ok ρ1 ∧ ft ρ1 = .ok (p a) ∧ (p a = true → fe ρ1 = .ok (g a))) → compL G ft fe ρ (l.map rep) = .ok ((l.filter p).map g) := by
  intro z1 h
  cases z1 with
  | nil => rfl
  | cons a l =>
    obtain ⟨ρ1, h1, h2, h3⟩ := h a (.head _)
    rw [List.map_cons, compL, h1]
    dsimp only
    rw [h2, R.bind_ok, (compL_map rep p g l fun b hb => h b (.tail _ hb))]
    cases hp : p a with
    | false => rw [if_neg (by decide), List.filter_cons_of_neg (by lia)]
    | true => simp_all
theorem compL_all {α : Type} (rep : α → D) (g : α → D) (l : List α) (h : ∀ a ∈ l, ∃ ρ1, G (rep a) ρ = .ok ρ1 ∧ fe ρ1 = .ok (g a)) : compL G (fun _ => .ok true) fe ρ (l.map rep) = .ok (l.map g) := by
  have := compL_map rep (fun _ => true) g l fun a ha => by obtain ⟨ρ1, h1, h2⟩ := h a ha; exact ⟨ρ1, h1, rfl, fun _ => h2⟩
  rw [this, List.filter_eq_self.mpr fun _ _ => rfl]
end M

namespace M
open PySem L2 DL
theorem fmod_range {a b : Int} (h : 0 < b) : 0 ≤ a.fmod b ∧ a.fmod b < b := by
  have g := (PyProof.Rows.fdiv_fmod_facts a b).2.2.1 h
  omega
theorem ret_step (h1 : r = .ok (.nx ρ)) (h2 : retR (F ρ) = x) : retR (thenR r F) = x := by rw [h1]; exact h2
theorem ret_done (h1 : r = .ok (.rt d)) : retR (thenR r F) = .ok d := by rw [h1]; rfl
theorem rng1 {n : Nat} (h : n ≤ 1000000) : rngR [.int (n : Int)] = .ok ((List.range n).map fun (k : Nat) => D.int (k : Int)) := by
  show (if rngOk 0 (n : Int) 1 then R.ok (rngD 0 1 (rngN 0 n 1)) else R.bad) = _
  rw [if_pos ⟨by decide, by decide, by decide, by decide, by omega, by omega⟩]
  have e : rngN 0 (n : Int) 1 = n := by
    unfold rngN
    split
    · simp
    · omega
  unfold rngD
  simp_all
end M

namespace DL
open PySem PySem.Spec L2
end DL

namespace DL
open PySem PySem.Spec L2
def Got (K : PySem.W.Frag) (x : Str) (st : Stmt) : Prop := ∃ f fd, PySem.W.nsIn K mainGlobals x = some (some (.ref f)) ∧ Fun K x x st f fd
def Def (K : PySem.W.Frag) (mg : Str → Option Value) (x : Str) (st : Stmt) : Prop := ∃ f fd, mg x = some (.ref f) ∧ Fun K x x st f fd
section
variable {kV doc pm cdv ct : Value}
theorem got_mk (a : PySem.W.nsIn K mainGlobals x = some (some (.ref f))) (l : K.lookup f = some ⟨oc, od, .func (PySem.W.fnOf x x (defArgs st) (defBody st) (defScope st) .none kV doc pm an cdv ct), osl⟩)
    (c : PySem.W.codeIn K cdv x = true) (k : PySem.W.keepIn K (.ref f) = true) : Got K x st := ⟨f, _, a, fun_mk l c k⟩
theorem Got.def (g : Got K x st) (X : K.In h) (G : h.Ns mainGlobals mg) : Def K mg x st := by obtain ⟨f, fd, a, b⟩ := g; exact ⟨f, fd, PySem.W.mg_of X G a, b⟩
theorem scOk (h1 : sc.kind = .function := by rfl) (h2 : sc.isCoroutine = false := by rfl) (h3 : sc.isGenerator = false := by rfl) (h4 : N.Nodup := by decide +kernel) (h5 : N.take ps.length = ps := by rfl) (h6 : ∀ x ∈ ps, sc.names.lookup x = some .local ∨ sc.names.lookup x = some .cell := by decide +kernel) (h7 : ∀ y ∈ sc.names, y.2 ≠ .free := by decide +kernel) : FnScope N ps sc := ⟨h1, h2, h3, h4, h5, h6, h7⟩
variable [Tabs]

theorem cal_def (g : Def K mg x st) (S : FnScope N ps (defScope st)) (hb : ∀ {f : Addr} {cdv : Value} {A : Around} {outer : List Env} {s : Shared} {H : Hp} {E : XK}, Room k (A.deeper (PyProof.Rows.envOfC x (defScope st) s.heap.objs.size f cdv)) → (A.deeper (PyProof.Rows.envOfC x (defScope st) s.heap.objs.size f cdv)).units + 64 < cLine → (A.deeper (PyProof.Rows.envOfC x (defScope st) s.heap.objs.size f cdv)).units + 130 < cLine → N.Nodup →
      PSsD (cxN P w K mg base N x (defScope st) f cdv A outer s H E) (defBody st) F) (hm : ∀ ds d, ds.length = ps.length → m ds = .ok d → retR (F (startD N ds)) = .ok d) (hb0 : ∀ (kV doc pm : Value) (an : Option Addr) (cdv ct : Value) (us : List Value), us.length = ps.length → bindArgs (PySem.W.fnOf x x (defArgs st) (defBody st) (defScope st) .none kV doc pm an cdv ct) ⟨us, []⟩ = pure (ps.zip us) := by
      intro _ _ _ _ _ _ us hl; rcases us with _ | ⟨_, _ | ⟨_, _ | ⟨_, _ | ⟨_, _ | ⟨_, _ | ⟨_, _ | ⟨_, _⟩⟩⟩⟩⟩⟩⟩ <;> first | rfl | exact absurd hl (by simp)) : Cal P w K mg base (k + 1) x ps.length m := by
  obtain ⟨f, fd, hmg, F0⟩ := g
  exact cal_of F0 S (F0.binds hb0) hmg (fun cdv A outer s H E hr => hb hr hr.units hr.u130 S.nd) hm
end
end DL

namespace DL
open PySem PySem.Spec L2
open PyProof.Rows hiding St st
variable [Tabs]
section
def RSF (X : Cx) (H₀ : Hp) (O₀ : Addr → Prop) (r : R (List D)) (D : Ends) : Prop := match r with
  | .ok ds => ∀ vs H1 a, Same H₀ H1 → H1 a = none → Reps X.K H1 O₀ vs ds → D.rt (.ref a) (upd H1 a (.lst vs))
  | _ => False
def tSF (X : Cx) (H₀ : Hp) (O₀ : Addr → Prop) (F : Ev → R (List D)) : TS := fun D σ H => ∃ O ρ, EnvOk X.K H₀ O₀ H O σ ρ ∧ OffK X.K O ∧ RSF X H₀ O₀ (F ρ) D
def PSsF (X : Cx) (st : List Stmt) (F : Ev → R (List D)) : Prop := ∀ H₀ O₀, PSs X st (tSF X H₀ O₀ F)
def thenF (r : R Out) (F : Ev → R (List D)) : R (List D) := match r with
  | .ok (.nx ρ) => F ρ
  | _ => .bad
theorem pssf_ret (he : PF X e f) : PSsF X [.Return (some e) pos] f := fun H₀ O₀ => pss_imp (pss_one (ps_ret he)) <| by rintro D σ H ⟨O, ρ, E, fk, q⟩; exact ⟨H₀, O₀, O, ρ, E, by
  cases e1 : f ρ with
  | ok ds => rw [e1] at q; exact fun vs H1 a s1 ha r => q vs H1 a (E.same.trans s1) ha (r.sub E.sub)
  | ex x => rw [e1] at q; exact q.elim
  | bad => rw [e1] at q; exact q⟩
theorem pssf_cons {st : Stmt} {rest : List Stmt} (h1 : PSD X st F) (h2 : PSsF X rest G) : PSsF X (st :: rest) (fun ρ => thenF (F ρ) G) := fun H₀ O₀ => pss_imp (pss_cons (h1 H₀ O₀) (h2 H₀ O₀)) <| by rintro D σ H ⟨O, ρ, E, fk, q⟩; exact ⟨O, ρ, E, fk, by
  dsimp only at q
  cases e1 : F ρ with
  | ok o =>
    rw [e1] at q
    cases o with
    | nx ρ' => exact fun σ' H' O' E' f' k => ⟨O', ρ', E', f', q⟩
    | _ => exact (q).elim
  | ex x => rw [e1] at q; exact (q).elim
  | bad => rw [e1] at q; exact (q).elim⟩
def spW (K : PySem.W.Frag) (n : Nat) (m : List D → R D) : Sp := fun vs H Q _ => ∃ O ds rs, Reps K H O vs ds ∧ ds.length = n ∧ (∀ a, O a → ∃ o, H a = some o ∧ Mt o) ∧ Tb H ∧ OffK K O ∧ m ds = .ok (.lst rs) ∧ ∀ ws H1 a, Same H H1 → H1 a = none → Reps K H1 O ws rs → Q (.ref a) (upd H1 a (.lst ws))
def lstF (r : R (List D)) : R D := r.bind fun rs => .ok (.lst rs)
@[simp] theorem lstF_ok (ds : List D) : lstF (.ok ds) = .ok (.lst ds) := rfl
theorem lstF_in (h : lstF r = .ok d) : ∃ rs, r = .ok rs ∧ d = .lst rs := by
  cases r with
  | ok rs => simp_all
  | ex x => cases h
  | bad => cases h
def unl (r : R D) : R (List D) := match r with
  | .ok (.lst rs) => .ok rs
  | .ex x => .ex x
  | _ => .bad
def CalN (P : Program) (w : World) (K : PySem.W.Frag) (mg : Str → Option Value) (base : Heap) (k : Nat) (x : Str) (n : Nat) (m : List D → R D) : Prop :=
  (∃ g gd ps, FnOk P w K mg base CX0 k g gd ps (spW K n m) ∧ Binds K gd ps [] ∧ PySem.W.keepIn K (.ref g) = true ∧ mg x = some (.ref g)) ∧ ∀ ds d, ds.length = n → m ds = .ok d → ∃ rs, d = .lst rs
theorem CalN.cal {K : PySem.W.Frag} (c : CalN P w K mg base k x n m) : Cal P w K mg base k x n m := by
  obtain ⟨⟨g, gd, ps, F, b, kp, e⟩, hc⟩ := c
  refine ⟨g, gd, ps, F.imp fun vs H Q E z => ?_, b, kp, e⟩
  obtain ⟨O, ds, d, r, hl, ht, tb, fk, e, q⟩ := z
  obtain ⟨rs, rfl⟩ := hc ds d hl e
  refine ⟨O, ds, rs, r, hl, ht, tb, fk, e, fun ws H1 a s1 ha r1 => q _ _ (s1.trans (same_upd ha _)) (.lst (SqL.of upd_same) (fun z => ?_) (r1.same (same_upd ha _)))⟩
  obtain ⟨o, h1, _⟩ := ht a z
  rw [s1 _ _ h1] at ha
  cases ha
theorem calN_def {K : PySem.W.Frag} {st : Stmt} (g : Def K mg x st) (S : FnScope N ps (defScope st)) (hb : ∀ {f : Addr} {cdv : Value} {A : Around} {outer : List Env} {s : Shared} {H : Hp} {E : XK}, Room k (A.deeper (PyProof.Rows.envOfC x (defScope st) s.heap.objs.size f cdv)) → (A.deeper (PyProof.Rows.envOfC x (defScope st) s.heap.objs.size f cdv)).units + 64 < cLine → (A.deeper (PyProof.Rows.envOfC x (defScope st) s.heap.objs.size f cdv)).units + 130 < cLine → N.Nodup →
      PSsF (cxN P w K mg base N x (defScope st) f cdv A outer s H E) (defBody st) F) (hm : ∀ ds d, ds.length = ps.length → m ds = .ok d → lstF (F (startD N ds)) = .ok d) (hb0 : ∀ (kV doc pm : Value) (an : Option Addr) (cdv ct : Value) (us : List Value), us.length = ps.length → bindArgs (PySem.W.fnOf x x (defArgs st) (defBody st) (defScope st) .none kV doc pm an cdv ct) ⟨us, []⟩ = pure (ps.zip us) := by
      intro _ _ _ _ _ _ us hl; rcases us with _ | ⟨_, _ | ⟨_, _ | ⟨_, _ | ⟨_, _ | ⟨_, _ | ⟨_, _ | ⟨_, _⟩⟩⟩⟩⟩⟩⟩ <;> first | rfl | exact absurd hl (by simp)) : CalN P w K mg base (k + 1) x ps.length m := by
  obtain ⟨f, fd, hmg, F0⟩ := g
  refine ⟨⟨f, fd, ps, F0.ok S (fun vs H Q E z => ?_) (fun cdv A outer s H vs Q E hr z => ?_), F0.binds hb0, F0.kp, hmg⟩, fun ds d hl e => ?_⟩
  · obtain ⟨O, ds, d, r, hl, _⟩ := z
    rw [r.length]; exact hl
  · obtain ⟨O, ds, d, r, hl, ht, tb, fk, e, q⟩ := z
    refine ⟨_, hb hr hr.units hr.u130 S.nd H O, O, _, env_start r ht tb, fk, ?_⟩
    obtain ⟨rs, e1, e2⟩ := lstF_in (hm ds _ hl e)
    injection e2 with e2
    subst e2
    rw [e1]
    exact q
  · obtain ⟨rs, _, e2⟩ := lstF_in (hm ds d hl e)
    exact ⟨rs, e2⟩
theorem pf_cal (c : CalN X.prog X.w X.K X.mg X.base k x n m) (hr : Room k X.A) (ha : PAD X (e :: es) f) (hl : LenR f n) (hg : Gl X x := by rfl) (hdb : (x == ("__debug__" : Str)) = false := by decide) (he : starEach (e :: es) X.env = (false, eval e X.env) :: starEach es X.env := by rfl) (hpl : (backTo pos (starEach es X.env)).any (·.1) = false := by rfl) :
    PF X (.Call (.Name x p) (e :: es) [] pos) (fun ρ => (f ρ).bind fun ds => unl (m ds)) := by
  obtain ⟨⟨g, gd, ps, F, b, kp, em⟩, hc⟩ := c
  refine mkE fun pins s σ H Q I H₀ O₀ O ρ E q => (pe_call F hr hg em kp b .nil pass0 ha hdb he hpl pins s σ H Q I ⟨H₀, O₀, O, ρ, E, ?_⟩)
  dsimp only at q
  cases e1 : f ρ with
  | ex z => rw [e1] at q; exact q
  | bad => simp_all
  | ok ds =>
    rw [e1, R.bind_ok] at q
    intro vs H1 s1 r1
    rw [List.append_nil]
    have E1 := E.grow s1
    cases e2 : m ds with
    | ex z => rw [e2] at q; exact (q H (Same.refl _)).elim
    | bad => rw [e2] at q; exact (q).elim
    | ok d =>
      rw [e2] at q
      obtain ⟨rs, rfl⟩ := hc ds d (hl ρ ds e1) e2
      exact ⟨O, ds, rs, r1, hl ρ ds e1, E1.trk, E1.tab, offK I O E.trk, e2, fun ws H2 a s2 ha r2 => q ws H2 a (s1.trans s2) ha r2⟩
end
end DL

namespace DL
open PySem PySem.Spec L2
open PyProof.Rows hiding St st
variable [Tabs]
section
end
end DL

namespace DL
open PySem PySem.Spec L2
open PyProof.Rows hiding St st
variable [Tabs]
end DL

namespace DL
open PySem PySem.Spec L2
open PyProof.Rows hiding St st
variable [Tabs]
end DL

namespace DL
open PySem PySem.Spec L2
open PyProof.Rows hiding St
variable [Tabs]
section

abbrev St1 (X : Cx) (e : Expr) (es : List Expr) : Prop := starEach (e :: es) X.env = (false, eval e X.env) :: starEach es X.env
theorem pbi {i : Int} {j} : PB X (.Constant (.int i) j pos) (evC (.int i)) := pd_int.pb
theorem pc1 {e1 : Expr} {f1 : Ev → R D} (c : Cal X.prog X.w X.K X.mg X.base k x 1 m) (hr : Room k' X.A) (a1 : PD X e1 f1) (hk : k ≤ k' := by decide) (s1 : St1 X e1 [] := by rfl) (hg : Gl X x := by rfl) (hdb : (x == ("__debug__" : Str)) = false := by decide) (hpl : (backTo pos (starEach [] X.env)).any (·.1) = false := by rfl) :
    PD X (.Call (.Name x p) [e1] [] pos) (fun ρ => ((consR f1 nilR) ρ).bind m) := pd_cal c (hr.mono hk) (pad_cons a1 pad_nil s1) (lenR_cons lenR_nil) hg hdb s1 hpl
theorem pc2 {e1 e2 : Expr} {f1 f2 : Ev → R D} (c : Cal X.prog X.w X.K X.mg X.base k x 2 m) (hr : Room k' X.A) (a1 : PD X e1 f1) (a2 : PD X e2 f2) (hk : k ≤ k' := by decide) (s1 : St1 X e1 [e2] := by rfl) (s2 : St1 X e2 [] := by rfl) (hg : Gl X x := by rfl) (hdb : (x == ("__debug__" : Str)) = false := by decide) (hpl : (backTo pos (starEach [e2] X.env)).any (·.1) = false := by rfl) :
    PD X (.Call (.Name x p) [e1, e2] [] pos) (fun ρ => ((consR f1 (consR f2 nilR)) ρ).bind m) := pd_cal c (hr.mono hk) (pad_cons a1 (pad_cons a2 pad_nil s2) s1) (lenR_cons (lenR_cons lenR_nil)) hg hdb s1 hpl
theorem pt3 {e1 e2 e3 : Expr} {f1 f2 f3 : Ev → R D} {j} (a1 : PD X e1 f1) (a2 : PD X e2 f2) (a3 : PD X e3 f3) (s1 : St1 X e1 [e2, e3] := by rfl) (s2 : St1 X e2 [e3] := by rfl) (s3 : St1 X e3 [] := by rfl) : PD X (.Tuple [e1, e2, e3] j pos) (fun ρ => ((consR f1 (consR f2 (consR f3 nilR))) ρ).bind tupR) := pd_tup (pad_cons a1 (pad_cons a2 (pad_cons a3 pad_nil s3) s2) s1)
theorem pcb {id : String} {g : List D → R D} {e : Expr} {f : Ev → R D} (hc : CallD X (.builtin id) g) (a : PB X e f) (hg : Gl X x := by rfl) (hm : X.mg x = none := by assumption) (hv : bootBuiltins x = some (.builtin id) := by decide +kernel) (hn : x ≠ "__name__" := by decide) (hdb : (x == ("__debug__" : Str)) = false := by decide) (s1 : St1 X e [] := by rfl) (hpl : (backTo pos (starEach [] X.env)).any (·.1) = false := by rfl) :
    PD X (.Call (.Name x p) [e] [] pos) (fun ρ => (consR f nilR ρ).bind g) := pd_callB hc (pab_cons a pab_nil s1) hg hm hv hn hdb s1 hpl
theorem hx1 {fr : List Str} {scope : Scope} {tp : Pos} {elt : Expr} {fe : Ev → R D} (h : ∀ pins fp s0 H1 C, PD (cxC X pins s0 H1 ([x] ++ fr) scope (blkC X scope C) C fp) elt fe) (nd : ([x] ++ fr).Nodup := by decide +kernel) (hx : Loc (relabel scope X.env) x := by first | exact Or.inl rfl | exact Or.inr rfl) (hf : (scope.names.lookup x == some .cell) = true ∨ (relabel scope X.env).names.lookup x = some .local := by first | exact .inl rfl | exact .inr rfl) :
    ∀ (pins : List (Addr × Obj)) (fp : List Addr) (X' : Cx), (∃ s₀ H₁ C, X' = cxC X pins s₀ H₁ ([x] ++ fr) scope (blkC X scope C) C fp) → PGD X' (.Name x tp) (fun d ρ => .ok (ρ.set 0 (.v d))) ∧ PTs X' [] (fun _ => .ok true) ∧ PD X' elt fe := by
  rintro pins fp X2 ⟨s0, H1, C, rfl⟩
  exact ⟨pgd_name 0 nd rfl hx hf, pts_nil, h pins fp s0 H1 C⟩
theorem hxt {fr : List Str} {scope : Scope} {tp : Pos} {elt c : Expr} {fe : Ev → R D} {ft : Ev → R Bool} (h : ∀ pins fp s0 H1 C, PTD (cxC X pins s0 H1 ([x] ++ fr) scope (blkC X scope C) C fp) c ft ∧ PD (cxC X pins s0 H1 ([x] ++ fr) scope (blkC X scope C) C fp) elt fe) (nd : ([x] ++ fr).Nodup := by decide +kernel) (hx : Loc (relabel scope X.env) x := by first | exact Or.inl rfl | exact Or.inr rfl) (hf : (scope.names.lookup x == some .cell) = true ∨ (relabel scope X.env).names.lookup x = some .local := by first | exact .inl rfl | exact .inr rfl) :
    ∀ (pins : List (Addr × Obj)) (fp : List Addr) (X' : Cx), (∃ s₀ H₁ C, X' = cxC X pins s₀ H₁ ([x] ++ fr) scope (blkC X scope C) C fp) → PGD X' (.Name x tp) (fun d ρ => .ok (ρ.set 0 (.v d))) ∧ PTs X' [c] ft ∧ PD X' elt fe := by
  rintro pins fp X2 ⟨s0, H1, C, rfl⟩
  exact ⟨pgd_name 0 nd rfl hx hf, pts_one (h pins fp s0 H1 C).1, (h pins fp s0 H1 C).2⟩
end
end DL

namespace DL
open PySem PySem.Spec L2
open PyProof.Rows hiding St
variable [Tabs]
end DL

namespace DL
open PySem L2
variable [Tabs]
end DL
namespace M
open PySem L2 DL
variable [Tabs]
theorem x_step {J : Ev → Prop} (h1 : r = .ok (.nx ρ)) (h2 : ∃ ρ2, F ρ = .ok (.nx ρ2) ∧ J ρ2) : ∃ ρ2, thenR r F = .ok (.nx ρ2) ∧ J ρ2 := by rw [h1]; exact h2
end M

namespace M
open PySem L2 DL
variable [Tabs]
open Classical in
noncomputable def cnd (p : Prop) (d : D) : R D := if p then .ok d else .bad
theorem cnd_ok {p : Prop} {d r : D} (h : cnd p d = .ok r) : p ∧ d = r := by
  unfold cnd at h
  grind
def SlOk (l : List Int) : Prop := l.length = 7 ∧ ∀ i ∈ l, bits i ≤ 100
def intD : D → Int
  | .int i => i
  | _ => 0
theorem compL_a2 {α β : Type} {G : D → Ev → R Ev} {fe : Ev → R D} {ρ : Ev} (rep : α → D) (rp : β → D) (g : α → β) (l : List α) (h : ∀ a ∈ l, ∃ ρ1, G (rep a) ρ = .ok ρ1 ∧ fe ρ1 = .ok (rp (g a))) : compL G (fun _ => .ok true) fe ρ (l.map rep) = .ok ((l.map g).map rp) := by
  rw [List.map_map]; exact compL_all rep _ l h
end M

namespace DL
open PySem L2
section
variable [Tabs]
end
end DL

namespace DL
open PySem PySem.Spec L2
open PyProof.Rows hiding St st
variable [Tabs]
end DL

namespace DL
open PySem PySem.Spec L2
open PyProof.Rows hiding St st
section
variable {prog : Program} {w : World} {A : Around} {E : Value → Shared → Prop} {s : Shared}
end
section
variable [Tabs] {prog : Program} {w : World} {A : Around} {R : Result → Shared → Prop}
end
end DL

namespace DL
open PySem PySem.Spec L2
open PyProof.Rows hiding St st
variable [Tabs]
end DL

namespace DL
open PySem PySem.Spec L2
open PyProof.Rows hiding St st
variable [Tabs]
section
variable {o : Expr} {to : TE} {name : Str} {apos cpos : Pos} {T id : String} {r : V → List V → Hp → VK → Prop}
end
end DL

namespace M
open PySem L2 DL
variable [Tabs]
theorem comp_if {α β γ : Type} {Gt : D → Ev → R Ev} {fe : Ev → R D} {ρ : Ev} {K : List D → R γ} (rep : α → D) (rp : β → D) (g : α → β) (l : List α) (hl : l.length ≤ 30000) (h : ∀ a ∈ l, ∃ ρ1, Gt (rep a) ρ = .ok ρ1 ∧ fe ρ1 = .ok (rp (g a))) : (if (l.map rep).length ≤ sizeLine then (compL Gt (fun _ => .ok true) fe ρ (l.map rep)).bind K else .bad) = K ((l.map g).map rp) := by
  rw [if_pos (Nat.le_trans (by rw [List.length_map]; exact hl) (by decide)), compL_a2 rep rp g l h]
  rfl
theorem comp_i0 {α β : Type} {Gt : D → Ev → R Ev} {fe : Ev → R D} {ρ : Ev} (rep : α → D) (rp : β → D) (g : α → β) (l : List α) (hl : l.length ≤ 30000) (h : ∀ a ∈ l, ∃ ρ1, Gt (rep a) ρ = .ok ρ1 ∧ fe ρ1 = .ok (rp (g a))) : (if (l.map rep).length ≤ sizeLine then compL Gt (fun _ => .ok true) fe ρ (l.map rep) else .bad) = .ok ((l.map g).map rp) := by
  rw [if_pos (Nat.le_trans (by rw [List.length_map]; exact hl) (by decide)), compL_a2 rep rp g l h]
theorem bnd {α β : Type} {r : R α} {x : α} {F : α → R β} {y : R β} (h1 : r = .ok x) (h2 : F x = y) : r.bind F = y := by rw [h1]; exact h2
theorem no_if {α : Type} {r : R Bool} {A B : R α} (h : r = .ok false) : (r.bind fun t => if t = true then A else B) = B := by rw [h]; rfl
theorem yes_if {α : Type} {r : R Bool} {A B : R α} (h : r = .ok true) : (r.bind fun t => if t = true then A else B) = A := by rw [h]; rfl
theorem x_nm {i : Nat} {F : Ev → R Out} {d : D} {ρ ρ' : Ev} {J : Ev → Prop} (e : ρ.set i (.v d) = ρ') (h : ∃ ρ2, F ρ' = .ok (.nx ρ2) ∧ J ρ2) : ∃ ρ2, stepL (fun d ρ => .ok (ρ.set i (Sl.v d))) F d ρ = .ok (.nx ρ2) ∧ J ρ2 := by subst e; exact h
section
end
section
end
section
end
end M

namespace M
open PySem L2 DL
variable [Tabs]
section
open Classical
noncomputable def asD {α : Type} (g : α → D) (k : α → List D → R D) : List D → R D
  | d :: e => if h : ∃ a, d = g a then k (choose h) e else .bad
  | [] => .bad
theorem asD_ok {α : Type} {g : α → D} {k : α → List D → R D} {ds : List D} {r : D} (h : asD g k ds = .ok r) : ∃ a e, ds = g a :: e ∧ k a e = .ok r := by
  cases ds with
  | nil => cases h
  | cons d e =>
    by_cases q : ∃ a, d = g a
    · exact ⟨_, e, by rw [← choose_spec q], (dif_pos q).symm.trans h⟩
    · cases (dif_neg q).symm.trans h
theorem asD_yes {α : Type} {g : α → D} (inj : ∀ a b, g a = g b → a = b) (k : α → List D → R D) (a : α) (e : List D) : asD g k (g a :: e) = k a e := by
  have q : ∃ b, g a = g b := ⟨a, rfl⟩
  exact (dif_pos q).trans (by rw [← inj _ _ (choose_spec q)])
end
theorem consx {f : Ev → R D} {g : Ev → R (List D)} {ρ : Ev} {a : D} {l : List D} (h1 : f ρ = .ok a) (h2 : g ρ = .ok l) : consR f g ρ = .ok (a :: l) := by simp_all
theorem ret_end {r : R D} {d : D} (h : r = .ok d) : retR (r.bind fun d => .ok (.rt d)) = .ok d := by rw [h]; rfl
theorem r_bn {α : Type} {r : R α} {x : α} {F : α → R Out} {F2 : Ev → R Out} {d : D} (h1 : r = .ok x) (h2 : retR (thenR (F x) F2) = .ok d) : retR (thenR (r.bind F) F2) = .ok d := by rw [h1]; exact h2
theorem x_tt {α : Type} {r : R Bool} {A B y : R α} (h : r = .ok true) (h2 : A = y) : (r.bind fun t => if t = true then A else B) = y := by rw [h]; exact h2
end M

namespace M
open PySem L2 DL
open Builtin Builtin.Str
theorem str_inj : Function.Injective D.str := fun a b h => by injection h
def goodS (x : Str) : Bool := decide (1 ≤ (figS x).length) && decide ((figS x).length ≤ 40) && ((figS x).cps.toList.all dg) && (x == "0" || !(Txt.startswith (figS x) "0"))
noncomputable def m_isn : List D → R D := asD D.str fun x => nlD (cnd (x.length ≤ 100000) (.bl (goodS x)))
theorem ch_ok (n : Nat) : chB (.int 1) (.int (n : Int)) (.ok (.int 40)) = .ok (decide (1 ≤ n) && decide (n ≤ 40)) := by
  show (if (1 : Int) ≤ n then R.ok (decide ((n : Int) ≤ 40)) else .ok false) = _
  by_cases c : 1 ≤ n
  · rw [if_pos (by omega), decide_eq_true c]
    by_cases d : n ≤ 40
    · rw [decide_eq_true d, decide_eq_true (by omega)]; rfl
    · rw [decide_eq_false d, decide_eq_false (by omega)]; rfl
  · rw [if_neg (by omega), decide_eq_false c]; rfl
theorem len_s {x : Str} (h : x.length ≤ sizeLine) : lenR [.str x] = .ok (.int (x.length : Int)) := if_pos h
theorem bools_map (l : List Bool) : boolsD (l.map D.bl) = some l := by
  induction l with
  | nil => rfl
  | cons b l ih => simp [boolsD, ih]
theorem any_b (l : List Bool) : anyR [.lst (l.map D.bl)] = .ok (.bl (l.any _root_.id)) := by
  show (match boolsD (l.map D.bl) with | some bs => R.ok (D.bl (bs.any _root_.id)) | none => .bad) = _
  rw [bools_map]
theorem notin_fig (c : Nat) : inR true (.str ⟨#[c]⟩) (.str FIG) = .ok (.bl (!dg c)) := by
  show R.ok (D.bl ((!(occurrences FIG ⟨#[c]⟩ 0 FIG.length 1).isEmpty) != true)) = _
  rw [fig_in]
  cases dg c <;> rfl
theorem any_c (l : List Nat) : anyR [.lst ((l.map fun c => !dg c).map D.bl)] = .ok (.bl (!l.all dg)) := by
  rw [any_b]
  congr 2
  induction l with
  | nil => rfl
  | cons c l ih =>
    simp only [List.map_cons, List.any_cons, List.all_cons, ih, _root_.id]
    cases dg c <;> rfl
variable [Tabs]
theorem isn_ok {x : Str} (h : x.length ≤ 100000) : m_isn [.str x] = .ok (.bl (goodS x)) := (asD_yes str_inj _ x []).trans (if_pos h)
noncomputable def m_ref : List D → R D := asD D.str fun x => nlD (.ok .non)
theorem ref_ok (x : Str) : m_ref [.str x] = .ok .non := asD_yes str_inj _ x []
def x_ref (c : Addr) : List D → Option Value
  | [.str _] => none
  | [_] => some (.ref c)
  | _ => none
def valS (x : Str) : Int := if x.cps.toList = figs x.cps.toList then (foldV (figs x.cps.toList) : Int) else -(foldV (figs x.cps.toList) : Int)
theorem good_len {x : Str} (h : goodS x = true) : (figS x).length ≤ 40 ∧ 1 ≤ (figS x).length ∧ (figS x).cps.toList.all dg = true := by
  unfold goodS at h
  simp only [Bool.and_eq_true, decide_eq_true_eq] at h
  exact ⟨h.1.1.2, h.1.1.1, h.1.2⟩
theorem figs_len (l : List Nat) : l.length ≤ (figs l).length + 1 := by
  unfold figs
  split
  · exact Nat.le_refl _
  · exact Nat.le_succ _
theorem int_good {x : Str} (h : goodS x = true) : intR [.str x] = .ok (.int (valS x)) := by
  obtain ⟨h1, h2, h3⟩ := good_len h
  have e := figS_list x
  have l1 : (figs x.cps.toList).length = (figS x).length := by rw [← e, Array.length_toList]; rfl
  rw [e] at h3
  have hl : x.length ≤ 640 := by
    have := figs_len x.cps.toList
    rw [Array.length_toList] at this
    have : x.cps.size ≤ 41 := by omega
    show x.cps.size ≤ 640
    omega
  show (if x.length ≤ 640 then (match intText? x with | some n => R.ok (D.int n) | none => .bad) else .bad) = _
  rw [if_pos hl, int_text h3 (fun z => by rw [z] at l1; simp at l1; omega) (by omega)]
  rfl
noncomputable def m_num : List D → R D := asD D.str fun x => nlD (cnd (x.length ≤ 100000 ∧ goodS x = true) (.int (valS x)))
theorem numS_ok {x : Str} (h : x.length ≤ 100000) (g : goodS x = true) : m_num [.str x] = .ok (.int (valS x)) := (asD_yes str_inj _ x []).trans (if_pos ⟨h, g⟩)
theorem numS_bad {x : Str} (g : goodS x = false) : m_num [.str x] = .bad := (asD_yes str_inj _ x []).trans (if_neg fun z => by rw [g] at z; cases z.2)
def x_num (c : Addr) : List D → Option Value
  | [.str x] => if x.length ≤ 100000 ∧ goodS x = false then some (.ref c) else none
  | [_] => some (.ref c)
  | _ => none
def okP (x : Str) : Prop := (Txt.split x ",").length = 3 ∧ ∀ w ∈ Txt.split x ",", goodS w = true
instance (x : Str) : Decidable (okP x) := inferInstanceAs (Decidable (_ ∧ _))
def ptD (x : Str) : D := .tup ((Txt.split x ",").map fun w => .int (valS w))
noncomputable def m_pt : List D → R D := asD D.str fun x => nlD (cnd (x.length ≤ 90000 ∧ okP x) (ptD x))
theorem pt_ok {x : Str} (h : x.length ≤ 90000) (g : okP x) : m_pt [.str x] = .ok (ptD x) := (asD_yes str_inj _ x []).trans (if_pos ⟨h, g⟩)
theorem pt_bad {x : Str} (g : ¬ okP x) : m_pt [.str x] = .bad := (asD_yes str_inj _ x []).trans (if_neg fun z => g z.2)
def x_pt (c : Addr) : List D → Option Value
  | [.str x] => if x.length ≤ 90000 ∧ ¬ okP x then some (.ref c) else none
  | [_] => some (.ref c)
  | _ => none
theorem split_ok {x y : Str} (hy : (y.length == 0) = false) (h : x.length ≤ 100000) : splitR x [.str y] = .ok (.lst ((Txt.split x y).map .str)) := if_pos ⟨hy, by omega⟩
theorem split_len' {x y : Str} : (Txt.split x y).length ≤ x.length + 2 := by
  unfold Txt.split
  split
  · simp
  · split
    · simp
    · have e1 := StrLaws.occ_length_le_len x y 0 x.length (x.length + 1)
      rw [length_partsBetween]; omega
theorem split_len {x y : Str} (h : x.length ≤ 100000) : (Txt.split x y).length ≤ 100002 := by
  unfold Txt.split
  split
  · simp
  · split
    · simp
    · have e1 := StrLaws.occ_length_le_len x y 0 x.length (x.length + 1)
      rw [length_partsBetween]; omega
def okPs (x : Str) : Prop := (Txt.split x " ").length ≤ 40 ∧ ∀ w ∈ Txt.split x " ", okP w
instance (x : Str) : Decidable (okPs x) := inferInstanceAs (Decidable (_ ∧ _))
noncomputable def m_pts : List D → R D := asD D.str fun x => nlD (cnd (x.length ≤ 80000 ∧ okPs x) (.lst ((Txt.split x " ").map ptD)))
theorem ptsS_ok {x : Str} (h : x.length ≤ 80000) (g : okPs x) : m_pts [.str x] = .ok (.lst ((Txt.split x " ").map ptD)) := (asD_yes str_inj _ x []).trans (if_pos ⟨h, g⟩)
def x_pts (c : Addr) : List D → Option Value
  | [.str x] => if x.length ≤ 80000 ∧ ¬ okPs x then some (.ref c) else none
  | [_] => some (.ref c)
  | _ => none
theorem compX_bad {G : D → Ev → R Ev} {fe : Ev → R D} {gx : Ev → Option Value} {ρ : Ev} {C : Value} (p : Str → Bool) : ∀ (ws : List Str), (∀ w ∈ ws, ∃ ρ1, G (.str w) ρ = .ok ρ1 ∧ ((p w = true ∧ ∃ d, fe ρ1 = .ok d) ∨ (p w = false ∧ fe ρ1 = .bad ∧ gx ρ1 = some C))) → (∃ w ∈ ws, p w = false) → compX G fe gx ρ (ws.map D.str) = some C
  | [], _, h => by obtain ⟨_, h, _⟩ := h; cases h
  | w :: ws, hs, h => by
    obtain ⟨ρ1, h1, h2⟩ := hs w List.mem_cons_self
    rw [List.map_cons, compX, h1]
    dsimp only
    rcases h2 with ⟨p1, d, e⟩ | ⟨p1, e, e2⟩
    · rw [e]
      dsimp only
      refine compX_bad p ws (fun v hv => hs v (List.mem_cons_of_mem _ hv)) ?_
      obtain ⟨v, hv, pv⟩ := h
      rcases List.mem_cons.mp hv with rfl | hv
      · rw [p1] at pv; cases pv
      · exact ⟨v, hv, pv⟩
    · rw [e]
      exact e2
theorem or_go {F : R Out} {G : Ev → Option Value} {ρ : Ev} {C : Value} (h1 : F = .ok (.nx ρ)) (h2 : G ρ = some C) : (none : Option Value).or (thenX F G) = some C := by rw [h1]; exact h2
theorem go_x {F : R Out} {G : Ev → Option Value} {ρ : Ev} {C : Value} (h1 : F = .ok (.nx ρ)) (h2 : G ρ = some C) : thenX F G = some C := by rw [h1]; exact h2
theorem ifX_t {r : R Bool} {a b : Option Value} {C : Value} (h : r = .ok true) (h2 : a = some C) : ifX r a b = some C := by rw [h]; exact h2
theorem or_l {a b : Option Value} {C : Value} (h : a = some C) : a.or b = some C := by rw [h]; rfl
theorem or_r {a b : Option Value} {C : Value} (h : a = none) (h2 : b = some C) : a.or b = some C := by rw [h]; exact h2
theorem ifX_f {r : R Bool} {a : Option Value} (h : r = .ok false) : ifX r a none = none := by rw [h]; rfl
theorem some_bad {ws : List Str} {p : Str → Prop} [DecidablePred p] (h : ¬ ∀ w ∈ ws, p w) : ∃ w ∈ ws, decide (p w) = false := by
  false_or_by_contra
  rename_i z
  exact h fun w hw => by
    by_cases c : p w
    · exact c
    · exact (z ⟨w, hw, decide_eq_false c⟩).elim
theorem on_s {k : Str → R D} {x : Str} {y : R D} (h : k x = y) : onS k (.str x) = y := h
theorem ne_n {n k : Nat} (b : Bool) (h : decide (n ≠ k) = b) : neR (.int (n : Int)) (.int (k : Int)) = .ok (.bl b) := by
  subst h
  show R.ok (D.bl (!((n : Int) == (k : Int)))) = _
  by_cases c : n = k
  · subst c; simp
  · have : (n : Int) ≠ (k : Int) := fun z => c (by omega)
    simp [c, this]
theorem gt_n {n k : Nat} (b : Bool) (h : decide (k < n) = b) : gtR (.int (n : Int)) (.int (k : Int)) = .ok (.bl b) := by
  subst h
  show R.ok (D.bl (decide ((k : Int) < (n : Int)))) = _
  by_cases c : k < n
  · rw [decide_eq_true c, decide_eq_true (by omega)]
  · rw [decide_eq_false c, decide_eq_false (by omega)]
theorem lf_step {r : R Out} {F : Ev → R (List D)} {ρ : Ev} {x : R D} (h1 : r = .ok (.nx ρ)) (h2 : lstF (F ρ) = x) : lstF (thenF r F) = x := by rw [h1]; exact h2
theorem lf_end {r : R (List D)} {l : List D} (h : r = .ok l) : lstF r = .ok (.lst l) := by rw [h]; rfl
theorem val_loop {G : D → Ev → R Ev} {F F2 : Ev → R Out} {a b : Sl} {z : Nat → R D}
    (hb : ∀ (c n : Nat) (s : Sl), dg c = false → ∃ ρ1, G (.str ⟨#[c]⟩) [a, b, .v (.int (n : Int)), s] = .ok ρ1 ∧ F ρ1 = .ok (.rt .non))
    (hg : ∀ (c n : Nat) (s : Sl), n < 10 ^ 60 → dg c = true → ∃ ρ1, G (.str ⟨#[c]⟩) [a, b, .v (.int (n : Int)), s] = .ok ρ1 ∧ F ρ1 = .ok (.nx [a, b, .v (.int ((n * 10 + (c - 48) : Nat) : Int)), .v (.str ⟨#[c]⟩)]))
    (h2 : ∀ (n : Nat) (s : Sl), retR (F2 [a, b, .v (.int (n : Int)), s]) = z n) :
    ∀ (l : List Nat) (n : Nat) (s : Sl), l.length ≤ 60 → n < 10 ^ (60 - l.length) → retR (thenR (forL G F (l.map fun c => D.str ⟨#[c]⟩) [a, b, .v (.int (n : Int)), s]) F2) = if l.all dg = true then z (l.foldl (fun a c => a * 10 + (c - 48)) n) else .ok .non
  | [], n, s, _, _ => h2 n s
  | c :: l, n, s, hl, hn => by
    cases q : dg c with
    | false =>
      obtain ⟨ρ1, e1, e2⟩ := hb c n s q
      rw [List.map_cons, forL_cons_rt e1 e2, List.all_cons, q, if_neg (by simp)]
      rfl
    | true =>
      rw [List.length_cons] at hl hn
      obtain ⟨ρ1, e1, e2⟩ := hg c n s (Nat.lt_of_lt_of_le hn (Nat.pow_le_pow_right (by decide) (by omega))) q
      rw [List.map_cons, forL_cons_nx e1 e2, List.all_cons, q, Bool.true_and, List.foldl_cons]
      obtain ⟨q1, q2⟩ := dg_iff.mp q
      refine val_loop hb hg h2 l _ _ (by omega) ?_
      have e : 10 ^ (60 - l.length) = 10 ^ (60 - (l.length + 1)) * 10 := by rw [← Nat.pow_succ]; congr 1; omega
      rw [e]
      omega
theorem ten_n {n : Nat} (h : n < 10 ^ 60) : mulR (.int 10) (.int (n : Int)) = .ok (.int (10 * (n : Int))) := mulR_int ⟨by decide, bits_mono' (bits_le (n := 200) (by rw [Int.natAbs_natCast]; exact Nat.lt_trans h (by decide))) (by decide)⟩
def numD (x : Str) : D := if goodS x = true then .int (valS x) else .non
noncomputable def m_val : List D → R D := asD D.str fun x => nlD (cnd (x.length ≤ 100000) (numD x))
theorem val_ok {x : Str} (h : x.length ≤ 100000) : m_val [.str x] = .ok (numD x) := (asD_yes str_inj _ x []).trans (if_pos h)
theorem find_fig (c : Nat) : findR FIG [.str ⟨#[c]⟩] = .ok (.int (if dg c = true then ((c - 48 : Nat) : Int) else -1)) := congrArg (fun i => R.ok (D.int i)) (fig_find c)
theorem lt_i {i k : Int} (b : Bool) (h : decide (i < k) = b) : ltR (.int i) (.int k) = .ok (.bl b) := by subst h; rfl
theorem lt_n {n k : Nat} (b : Bool) (h : decide (n < k) = b) : ltR (.int (n : Int)) (.int (k : Int)) = .ok (.bl b) := by
  refine lt_i b ?_
  rw [← h]
  by_cases c : n < k
  · rw [decide_eq_true c, decide_eq_true (by omega)]
  · rw [decide_eq_false c, decide_eq_false (by omega)]
theorem or_bb {f g : Ev → R Bool} {ρ : Ev} {a b : Bool} (h1 : f ρ = .ok a) (h2 : g ρ = .ok b) : orB f g ρ = .ok (a || b) := by
  unfold orB
  rw [h1]
  cases a
  · exact h2
  · rfl
theorem and_bb {f g : Ev → R Bool} {ρ : Ev} {a b : Bool} (h1 : f ρ = .ok a) (h2 : g ρ = .ok b) : andB f g ρ = .ok (a && b) := by
  unfold andB
  rw [h1]
  cases a
  · rfl
  · exact h2
theorem t_bn {α : Type} {r : R α} {x : α} {F : α → R Out} {F2 : Ev → R Out} {y : R Out} (h1 : r = .ok x) (h2 : thenR (F x) F2 = y) : thenR (r.bind F) F2 = y := by rw [h1]; exact h2
theorem t_step {r : R Out} {F : Ev → R Out} {ρ : Ev} {y : R Out} (h1 : r = .ok (.nx ρ)) (h2 : F ρ = y) : thenR r F = y := by rw [h1]; exact h2
theorem same_fig (x : Str) : x.cps.toList = figs x.cps.toList ↔ x = figS x := by
  rw [← figS_list]
  exact ⟨fun h => str_ext h, fun h => congrArg (fun y : Str => y.cps.toList) h⟩
theorem zero_fig {x : Str} {c : Nat} (hc : (figS x).cps.toList.head? = some c) : (x == ("0" : Str) || !(Txt.startswith (figS x) "0")) = !(c == 48 && (decide (1 < (figS x).length) || decide (x ≠ figS x))) := by
  have e1 : Txt.startswith (figS x) "0" = (c == 48) := by
    rw [show ("0" : Str) = ⟨#[48]⟩ from rfl, sw1, hc]
    simp
  rw [e1]
  by_cases h : c = 48
  · subst h
    have e2 : (x == ("0" : Str)) = !(decide (1 < (figS x).length) || decide (x ≠ figS x)) := by
      by_cases h0 : x = ("0" : Str)
      · subst h0
        rfl
      · rw [beq_eq_false_iff_ne.mpr h0]
        by_cases a : 1 < (figS x).length
        · rw [decide_eq_true a]; rfl
        · by_cases b : x = figS x
          · refine (h0 ?_).elim
            have l1 : (figS x).cps.toList.length ≤ 1 := by rw [Array.length_toList]; show (figS x).length ≤ 1; omega
            rw [b]
            refine str_ext ?_
            generalize (figS x).cps.toList = l at hc l1
            match l, hc, l1 with
            | [a], hc, _ => cases hc; rfl
          · rw [decide_eq_true b, Bool.or_true]; rfl
    rw [e2]; simp
  · rw [beq_eq_false_iff_ne.mpr h]; simp
theorem num_end {x : Str} {c : Nat} (h1 : 1 ≤ (figS x).length) (h2 : (figS x).length ≤ 40) (hd : (figS x).cps.toList.all dg = true) (hc : (figS x).cps.toList.head? = some c) :
    numD x = if (c == 48 && (decide (1 < (figS x).length) || decide (x ≠ figS x))) = true then .non else if decide (x ≠ figS x) = true then .int (-((foldV (figS x).cps.toList : Nat) : Int)) else .int ((foldV (figS x).cps.toList : Nat) : Int) := by
  have e : goodS x = !(c == 48 && (decide (1 < (figS x).length) || decide (x ≠ figS x))) := by
    unfold goodS
    rw [decide_eq_true h1, decide_eq_true h2, hd, zero_fig hc]; rfl
  unfold numD
  rw [e]
  cases (c == 48 && (decide (1 < (figS x).length) || decide (x ≠ figS x)))
  · rw [if_pos (show (!false) = true from rfl), if_neg (show ¬ false = true from Bool.false_ne_true)]
    unfold valS
    by_cases b : x = figS x
    · rw [if_pos ((same_fig x).mpr b), decide_eq_false (fun z => z b), if_neg (by simp), figS_list]
    · rw [if_neg (fun z => b ((same_fig x).mp z)), decide_eq_true b, if_pos rfl, figS_list]
  · rfl
theorem ix0 {x : Str} {c : Nat} (hz : x.length ≤ sizeLine) (hc : x.cps.toList.head? = some c) : ixR (.str x) (.int 0) = .ok (.str ⟨#[c]⟩) := by
  show (if x.length ≤ sizeLine then (match atI x.cps.toList 0 with | some c => R.ok (D.str ⟨#[c]⟩) | none => .bad) else .bad) = _
  rw [if_pos hz]
  generalize x.cps.toList = l at hc
  cases l with
  | nil => cases hc
  | cons a l =>
    cases hc
    have : atI (c :: l) 0 = some c := by
      unfold atI ixN
      simp
    rw [this]
theorem eq_s0 (c : Nat) : eqR (.str ⟨#[c]⟩) (.str "0") = .ok (.bl (c == 48)) := by
  show R.ok (D.bl ((⟨#[c]⟩ : Str) == ("0" : Str))) = _
  by_cases h : c = 48
  · subst h; rfl
  · have : (⟨#[c]⟩ : Str) ≠ ("0" : Str) := fun z => h (by have z : ([c] : List Nat) = [48] := congrArg (fun y : Str => y.cps.toList) z; injection z)
    rw [beq_eq_false_iff_ne.mpr this, beq_eq_false_iff_ne.mpr h]
theorem ne_ss (x y : Str) : neR (.str x) (.str y) = .ok (.bl (decide (x ≠ y))) := by
  show R.ok (D.bl (!(x == y))) = _
  by_cases h : x = y
  · subst h; simp
  · rw [beq_eq_false_iff_ne.mpr h, decide_eq_true h]; rfl
def rule11 (k : Int) : Int := 11 * k * k + 5 * k + 3
def m_cell11 : List D → R D
  | [.lst xs, .int k] => if 0 ≤ k ∧ k ≤ 1000 then .ok (cellD rule11 xs k) else .bad
  | _ => .bad
def spotD (x : Str) : D := if okP x then ptD x else .non
noncomputable def m_spot : List D → R D := asD D.str fun x => nlD (cnd (x.length ≤ 20000) (spotD x))
theorem spot_ok {x : Str} (h : x.length ≤ 20000) : m_spot [.str x] = .ok (spotD x) := (asD_yes str_inj _ x []).trans (if_pos h)
theorem dep_num (x : Str) : dep (numD x) = 0 := by unfold numD; split <;> rfl
theorem deps_num : ∀ l : List Str, deps (l.map numD) = 0
  | [] => rfl
  | x :: l => by rw [List.map_cons, deps, dep_num, deps_num l]; rfl
theorem eq_num (x : Str) : eqD (numD x) .non = !goodS x := by
  unfold numD
  cases goodS x <;> rfl
theorem in_num (l : List Str) : inR false .non (.lst (l.map numD)) = .ok (.bl (!l.all goodS)) := by
  show (if deps (l.map numD) ≤ 40 then R.ok (D.bl (inB .non (l.map numD) != false)) else .bad) = _
  rw [if_pos (by rw [deps_num]; decide)]
  congr 2
  unfold inB
  induction l with
  | nil => rfl
  | cons x l ih =>
    rw [List.map_cons, List.any_cons, List.all_cons, eq_num]
    cases goodS x
    · rfl
    · simpa using ih
abbrev T3 := Int × Int × Int
def tripD (t : T3) : D := .tup [.int t.1, .int t.2.1, .int t.2.2]
theorem trip_inj : ∀ a b, tripD a = tripD b → a = b := fun a b h => by
  unfold tripD at h
  simp at h
  exact Prod.ext h.1 (Prod.ext h.2.1 h.2.2)
noncomputable def m_isp : List D → R D := asD tripD fun t => asD tripD fun u => nlD (cnd (t = u) (.bl true))
theorem num_good {x : Str} (h : goodS x = true) : numD x = .int (valS x) := if_pos h
theorem len_l (l : List D) : lenR [.lst l] = .ok (.int (l.length : Int)) := rfl
theorem and_v {f g : Ev → R D} {ρ : Ev} {y : R D} (h1 : f ρ = .ok (.bl true)) (h2 : g ρ = y) : andV f g ρ = y := by unfold andV; rw [h1]; exact h2
def badT (w : Int) (d : D) : Prop := match d with
  | .str x => x.length ≤ 80000 ∧ ((w = 0 ∧ goodS x = false) ∨ (w = 1 ∧ ¬ okP x) ∨ (w = 2 ∧ ¬ okPs x))
  | _ => w = 0 ∨ w = 1 ∨ w = 2
open Classical in
noncomputable def m_rfs : List D → R D
  | [.int w, d] => if badT w d then .ok (.bl true) else .bad
  | _ => .bad
theorem xnum_t {c : Addr} {d : D} (h : badT 0 d) : x_num c [d] = some (.ref c) := by
  cases d with
  | str x => exact if_pos ⟨by have := h.1; omega, by rcases h.2 with z | z | z; exact z.2; cases z.1; cases z.1⟩
  | _ => rfl
theorem xpt_t {c : Addr} {d : D} (h : badT 1 d) : x_pt c [d] = some (.ref c) := by
  cases d with
  | str x => exact if_pos ⟨by have := h.1; omega, by rcases h.2 with z | z | z; cases z.1; exact z.2; cases z.1⟩
  | _ => rfl
theorem xpts_t {c : Addr} {d : D} (h : badT 2 d) : x_pts c [d] = some (.ref c) := by
  cases d with
  | str x => exact if_pos ⟨h.1, by rcases h.2 with z | z | z; cases z.1; cases z.1; exact z.2⟩
  | _ => rfl
theorem bad_way {w : Int} {d : D} (h : badT w d) : w = 0 ∨ w = 1 ∨ w = 2 := by
  cases d with
  | str x => rcases h.2 with z | z | z; exact .inl z.1; exact .inr (.inl z.1); exact .inr (.inr z.1)
  | _ => exact h
theorem r_goes {α : Type} {G : D → Ev → R Ev} {F F2 : Ev → R Out} {d : D} (rep : α → D) (Iv : Ev → Prop) (l : List α) {ρ : Ev} (h0 : Iv ρ) (hs : ∀ a ∈ l, ∀ ρ, Iv ρ → ∃ ρ2, stepL G F (rep a) ρ = .ok (.nx ρ2) ∧ Iv ρ2) (h2 : ∀ ρ', Iv ρ' → retR (F2 ρ') = .ok d) : retR (thenR (forL G F (l.map rep) ρ) F2) = .ok d := by
  obtain ⟨ρ', e, i⟩ := forL_goes (G := G) (F := F) Iv (ds := l.map rep) (ρ := ρ) (fun d hd ρ i => by
    obtain ⟨a, ha, rfl⟩ := List.mem_map.mp hd
    exact hs a ha ρ i) h0
  rw [e]
  exact h2 ρ' i
theorem rfs_ok {w : Int} {d : D} (h : badT w d) : m_rfs [.int w, d] = .ok (.bl true) := if_pos h
theorem ne_ii (v : Int) : neR (.int v) (.int v) = .ok (.bl false) := by
  show R.ok (D.bl (!(v == v))) = _
  simp
noncomputable def m_wds : List D → R D := asD (fun ws : List Str => .lst (ws.map D.str)) fun ws => nlD (cnd (ws ≠ [] ∧ ws.length ≤ 20002 ∧ ∀ w ∈ ws, w.length ≤ 20000) (.bl true))
theorem ix_w (d : D) (l : List D) : ixR (.lst (d :: l)) (.int 0) = .ok d := by
  have : atI (d :: l) 0 = some d := by
    unfold atI ixN
    simp
  show (match atI (d :: l) 0 with | some d => R.ok d | none => .bad) = _
  rw [this]
def cutS (l : List Str) (lo hi : Option Int) : List Str := (l.drop (HT.sIx l.length 0 lo)).take (HT.sIx l.length l.length hi - HT.sIx l.length 0 lo)
theorem cut_map (l : List Str) (lo hi : Option Int) : slR (.lst (l.map D.str)) lo hi = .ok (.lst ((cutS l lo hi).map D.str)) := by
  show R.ok (D.lst (cutD (l.map D.str) lo hi)) = _
  unfold cutD cutS
  rw [List.length_map, List.map_take, List.map_drop]
theorem cut_mem {l : List Str} {lo hi : Option Int} {w : Str} (h : w ∈ cutS l lo hi) : w ∈ l := List.mem_of_mem_drop (List.mem_of_mem_take h)
theorem cut_len (l : List Str) (lo hi : Option Int) : (cutS l lo hi).length ≤ l.length := by
  unfold cutS
  rw [List.length_take, List.length_drop]
  omega
theorem pt_trip {x : Str} (h : okP x) : ∃ t, ptD x = tripD t := by
  have h3 := h.1
  unfold ptD
  generalize Txt.split x "," = ws at h3
  match ws, h3 with
  | [a, b, c], _ => exact ⟨(valS a, valS b, valS c), rfl⟩
theorem isp_ok (t : T3) : m_isp [tripD t, tripD t] = .ok (.bl true) := (asD_yes trip_inj _ t [tripD t]).trans ((asD_yes trip_inj _ t []).trans (if_pos rfl))
def sg1 : Str := " !\"#$&'()*+,-./0123456789:;<=>?@ABCDEFGHIJKLMNOPQRSTUVWXYZ[\\]^_`"
def sg2 : Str := "abcdefghijklmnopqrstuvwxyz{|}~\n\t"
def sgS (c : Int) : Str := ⟨#[(atI (sg1 ++ sg2).cps.toList (c.fmod 96)).getD 0]⟩
theorem sg_len : (sg1 ++ sg2).cps.toList.length = 96 := by decide +kernel
theorem sg_at (c : Int) : ixR (.str (sg1 ++ sg2)) (.int (c.fmod 96)) = .ok (.str (sgS c)) := by
  have h1 : 0 ≤ c.fmod 96 := Int.fmod_nonneg_of_pos c (by decide)
  have h2 : c.fmod 96 < 96 := Int.fmod_lt_of_pos c (by decide)
  have hl := sg_len
  show (if (sg1 ++ sg2).length ≤ sizeLine then (match atI (sg1 ++ sg2).cps.toList (c.fmod 96) with | some c => R.ok (D.str ⟨#[c]⟩) | none => .bad) else .bad) = _
  rw [if_pos (by show (sg1 ++ sg2).cps.size ≤ _; rw [← Array.length_toList, hl]; decide)]
  unfold sgS
  have e : atI (sg1 ++ sg2).cps.toList (c.fmod 96) = some ((sg1 ++ sg2).cps.toList[(c.fmod 96).toNat]'(by omega)) := by
    rw [atI_nn h1]
    exact List.getElem?_eq_getElem _
  rw [e]
  rfl
noncomputable def m_sign : List D → R D := itD fun c => nlD (.ok (.str (sgS c)))
def tx (i : Int) : Str := toString i
def comS (l : List Int) : Str := Txt.join "," (l.map tx)
def fitS (xs : List Str) : Prop := (xs.map (·.length)).sum + xs.length ≤ 1048576
theorem join_ok {sep : Str} {xs : List Str} (h : sep.length ≤ 16) (h2 : fitS xs) : joinR sep (.lst (xs.map D.str)) = .ok (.str (Txt.join sep xs)) := by
  unfold joinR
  dsimp only
  rw [strsD_map]
  exact if_pos ⟨h, h2⟩
def okL (l : List Int) : Prop := l.length ≤ 100 ∧ (∀ i ∈ l, i.natAbs.log2 < 1920) ∧ fitS (l.map tx)
noncomputable def m_com : List D → R D := asD (fun l : List Int => .tup (l.map D.int)) fun l => nlD (cnd (okL l) (.str (comS l)))
theorem ints_inj : ∀ a b : List Int, D.tup (a.map D.int) = D.tup (b.map D.int) → a = b := fun a b h => by
  injection h with h
  exact (List.map_inj_right (fun x y z => by injection z)).mp h
theorem com_ok {l : List Int} (h : okL l) : m_com [.tup (l.map D.int)] = .ok (.str (comS l)) := (asD_yes ints_inj _ l []).trans (if_pos h)
noncomputable def m_shp : List D → R D := asD (fun ps : List (List Int) => .lst (ps.map fun l => .tup (l.map D.int))) fun ps => nlD (cnd (ps.length ≤ 100 ∧ (∀ l ∈ ps, okL l) ∧ fitS (ps.map comS)) (.str (Txt.join " " (ps.map comS))))
end M

namespace M
open PySem L2 DL
theorem tx_len {i : Int} (h : i.natAbs < 10 ^ 41) : (tx i).length ≤ 42 := by
  have e := int_text_length_le10 (k := 41) (by decide) h
  show (Str.ofString (toString i)).length ≤ 42
  rw [ofString_length]
  exact e
theorem sum_tx : ∀ (l : List Int), (∀ i ∈ l, i.natAbs < 10 ^ 41) → ((l.map tx).map (·.length)).sum ≤ l.length * 42
  | [], _ => Nat.le_refl _
  | i :: l, h => by
    have h1 := tx_len (h i List.mem_cons_self)
    have h2 := sum_tx l fun j hj => h j (List.mem_cons_of_mem _ hj)
    rw [List.map_cons, List.map_cons, List.sum_cons, List.length_cons, Nat.succ_mul]
    omega
theorem tx_okL {l : List Int} (h : l.length ≤ 100) (h2 : ∀ i ∈ l, i.natAbs < 10 ^ 41) : okL l := by
  refine ⟨h, fun i hi => ?_, ?_⟩
  · by_cases z : i.natAbs = 0
    · rw [z]; decide
    · exact (Nat.log2_lt z).mpr (Nat.lt_trans (h2 i hi) (by decide +kernel))
  · have := sum_tx l h2
    unfold fitS
    rw [List.length_map]
    omega
end M

namespace M
open PySem L2 DL
variable [Tabs]
def P40 : Int := 10000000000000000000000000000000000000000
def n40 (c : Int) : Int := if 0 < c.fmod 3 then (c.fdiv 3).fmod 41 - 20 else (c.fdiv 3 * (7000000000000000000000000000000000000000 + 9824516530000000000000000000 + 48271)).fmod (20000000000000000000000000000000000000000 - 1) - P40 + 1
theorem n40_lt (c : Int) : (n40 c).natAbs < 10 ^ 41 := by
  unfold n40 P40
  split
  · have := fmod_range (a := c.fdiv 3) (b := 41) (by decide)
    omega
  · have := fmod_range (a := c.fdiv 3 * (7000000000000000000000000000000000000000 + 9824516530000000000000000000 + 48271)) (b := 20000000000000000000000000000000000000000 - 1) (by decide)
    omega
noncomputable def m_n40 : List D → R D := itD fun c => nlD (cnd (bits c ≤ 2000000) (.int (n40 c)))
theorem n40_ok {c : Int} (h : bits c ≤ 2000000) : m_n40 [.int c] = .ok (.int (n40 c)) := if_pos h
def c11 (xs : List D) (k : Nat) : Int := intD (cellD rule11 xs k)
theorem c11_ok {xs : List D} (hi : IntsOf 1048576 xs) (k : Nat) (h : k ≤ 1000) : m_cell11 [.lst xs, .int (k : Int)] = .ok (.int (c11 xs k)) ∧ bits (c11 xs k) ≤ 2000000 := by
  have e : m_cell11 [.lst xs, .int (k : Int)] = .ok (cellD rule11 xs k) := if_pos ⟨by omega, by omega⟩
  obtain ⟨i, e2, hb⟩ := cellD_int hi rule11 (k : Int)
  have e3 : c11 xs k = i := by unfold c11; rw [e2]; rfl
  rw [e, e2, e3]
  refine ⟨rfl, ?_⟩
  rcases hb with hb | rfl
  · omega
  · refine bits_mono' (n := 2000000) (m := 40) (bits_of_abs ?_ ?_) (by decide)
    · unfold rule11
      have : 0 ≤ 11 * (k : Int) * k := Int.mul_nonneg (by omega) (by omega)
      omega
    · unfold rule11
      have : 11 * (k : Int) * k ≤ 11 * 1000 * 1000 := Int.mul_le_mul (by omega) (by omega) (by omega) (by omega)
      omega
def ptX (xs : List D) (k : Nat) : T3 := (n40 (c11 xs k), n40 (c11 xs (k + 1)), n40 (c11 xs (k + 2)))
def hiX (xs : List D) : Nat := max 5 (min xs.length 62 - 2)
def ptsW (xs : List D) : List T3 := (List.range (hiX xs / 3)).map fun j => ptX xs (2 + 3 * j)
def manyX (xs : List D) : Nat := ((c11 xs 0).fmod 12).toNat
def ptsX (xs : List D) : List T3 := if manyX xs < 2 then (List.range (40 + manyX xs)).map fun k => ((ptsW xs)[k % (ptsW xs).length]?).getD (0, 0, 0) else ptsW xs
theorem hiX_le (xs : List D) : 5 ≤ hiX xs ∧ hiX xs ≤ 60 := by unfold hiX; omega
theorem ptsW_len (xs : List D) : 1 ≤ (ptsW xs).length ∧ (ptsW xs).length ≤ 20 := by
  unfold ptsW
  rw [List.length_map, List.length_range]
  have := hiX_le xs
  omega
theorem ptsX_len (xs : List D) : 1 ≤ (ptsX xs).length ∧ (ptsX xs).length ≤ 41 := by
  have := ptsW_len xs
  unfold ptsX
  split
  · rw [List.length_map, List.length_range]; omega
  · omega
def Sm (t : T3) : Prop := t.1.natAbs < 10 ^ 41 ∧ t.2.1.natAbs < 10 ^ 41 ∧ t.2.2.natAbs < 10 ^ 41
theorem ptsW_sm {xs : List D} {t : T3} (h : t ∈ ptsW xs) : Sm t := by
  obtain ⟨j, _, rfl⟩ := List.mem_map.mp h
  exact ⟨n40_lt _, n40_lt _, n40_lt _⟩
theorem ptsX_sm {xs : List D} {t : T3} (h : t ∈ ptsX xs) : Sm t := by
  unfold ptsX at h
  split at h
  · obtain ⟨j, _, rfl⟩ := List.mem_map.mp h
    cases q : (ptsW xs)[j % (ptsW xs).length]? with
    | none => exact ⟨by decide, by decide, by decide⟩
    | some t => exact ptsW_sm (List.mem_of_getElem? q)
  · exact ptsW_sm h
theorem rngX (xs : List D) : rngR [.int 2, .int (hiX xs : Int), .int 3] = .ok ((List.range (hiX xs / 3)).map fun (j : Nat) => D.int ((2 + 3 * j : Nat) : Int)) := by
  have hh := hiX_le xs
  show (if rngOk 2 (hiX xs : Int) 3 then R.ok (rngD 2 3 (rngN 2 (hiX xs : Int) 3)) else R.bad) = _
  rw [if_pos ⟨by decide, by decide, by decide, by decide, by omega, by omega⟩]
  have e : rngN 2 (hiX xs : Int) 3 = hiX xs / 3 := by
    unfold rngN
    rw [if_pos (by omega)]
    omega
  unfold rngD
  rw [e]
  refine congrArg R.ok (List.map_congr_left fun j _ => ?_)
  congr 1
  omega
noncomputable def m_lpts : List D → R D := lsD fun xs => nlD (cnd (IntsOf 1048576 xs) (.lst ((ptsX xs).map tripD)))
theorem lpts_ok {xs : List D} (h : IntsOf 1048576 xs) : m_lpts [.lst xs] = .ok (.lst ((ptsX xs).map tripD)) := if_pos h
end M

namespace M
open PySem L2 DL
open Builtin Builtin.Str
variable [Tabs]
theorem repl_len {x y z : Str} : (repl1 x y z).length ≤ x.length + z.length := by
  unfold repl1
  split
  · omega
  · have h1 : (occurrences x y 0 x.length 1).length ≤ 1 := StrLaws.occ_length_le x y 0 x.length 1
    have hy : (glued y (partsBetween x (occurrences x y 0 x.length 1) y.length)).length = x.length := by rw [StrLaws.glued_between_self]
    rw [size_glued, length_partsBetween, Nat.add_sub_cancel] at hy
    rw [size_glued, length_partsBetween, Nat.add_sub_cancel]
    have h2 : (occurrences x y 0 x.length 1).length * z.length ≤ 1 * z.length := Nat.mul_le_mul_right _ h1
    omega
def pk (l : List Str) (k : Int) : Str := (l[k.toNat]?).getD ""
theorem pk_ok {l : List Str} {k : Int} (h0 : 0 ≤ k) (h1 : k < l.length) : ixR (.lst (l.map D.str)) (.int k) = .ok (.str (pk l k)) := by
  have e : l[k.toNat]? = some l[k.toNat] := List.getElem?_eq_getElem (by omega)
  have : atI (l.map D.str) k = some (.str (pk l k)) := by
    rw [atI_nn h0, List.getElem?_map, e]
    unfold pk
    rw [e]
    rfl
  show (match atI (l.map D.str) k with | some d => R.ok d | none => .bad) = _
  rw [this]
theorem pk_len {l : List Str} {k : Int} {n : Nat} (h : ∀ w ∈ l, w.length ≤ n) : (pk l k).length ≤ n := by
  unfold pk
  cases e : l[k.toNat]? with
  | none => exact Nat.zero_le _
  | some w => exact h w (List.mem_of_getElem? e)
def chS (x : Str) (c : Int) : Str :=
  if c.fmod 16 = 1 then Txt.slice x none (some ((c.fdiv 16).fmod (x.length : Int))) ++ sgS ((c.fdiv 16).fdiv (x.length : Int)) ++ Txt.slice x (some ((c.fdiv 16).fmod (x.length : Int))) none
  else if c.fmod 16 = 2 then Txt.slice x none (some ((c.fdiv 16).fmod (x.length : Int))) ++ Txt.slice x (some ((c.fdiv 16).fmod (x.length : Int) + 1)) none
  else if c.fmod 16 = 3 then Txt.slice x none (some ((c.fdiv 16).fmod (x.length : Int))) ++ sgS ((c.fdiv 16).fdiv (x.length : Int)) ++ Txt.slice x (some ((c.fdiv 16).fmod (x.length : Int) + 1)) none
  else if c.fmod 16 = 4 then repl1 x " " "  "
  else if c.fmod 16 = 5 then pk [" " ++ x, x ++ " "] ((c.fdiv 16).fmod 2)
  else if c.fmod 16 = 6 then x ++ pk [",", ",5", "1234"] ((c.fdiv 16).fmod 3)
  else if c.fmod 16 = 7 then pk ["0", "-", "+", "00"] ((c.fdiv 16).fmod 4) ++ x
  else x
theorem sg1_len (c : Int) : (sgS c).length = 1 := rfl
theorem chS_len (x : Str) (c : Int) (h : x.length ≤ 6000) : (chS x c).length ≤ 20000 := by
  have sl : ∀ a b, (Txt.slice x a b).length ≤ x.length := fun a b => Txt.slice_le x a b
  unfold chS
  split
  · rw [Str.length_append, Str.length_append, sg1_len]; have := sl none (some ((c.fdiv 16).fmod (x.length : Int))); have := sl (some ((c.fdiv 16).fmod (x.length : Int))) none; omega
  split
  · rw [Str.length_append]; have := sl none (some ((c.fdiv 16).fmod (x.length : Int))); have := sl (some ((c.fdiv 16).fmod (x.length : Int) + 1)) none; omega
  split
  · rw [Str.length_append, Str.length_append, sg1_len]; have := sl none (some ((c.fdiv 16).fmod (x.length : Int))); have := sl (some ((c.fdiv 16).fmod (x.length : Int) + 1)) none; omega
  split
  · have := repl_len (x := x) (y := " ") (z := "  "); have e : ("  " : Str).length = 2 := rfl; omega
  split
  · refine pk_len fun w hw => ?_
    have e : (" " : Str).length = 1 := rfl
    rcases List.mem_cons.mp hw with rfl | hw
    · rw [Str.length_append]; omega
    · rw [List.mem_singleton.mp hw, Str.length_append]; omega
  split
  · have := pk_len (l := [",", ",5", "1234"]) (k := (c.fdiv 16).fmod 3) (n := 4) (by decide)
    rw [Str.length_append]; omega
  split
  · have := pk_len (l := ["0", "-", "+", "00"]) (k := (c.fdiv 16).fmod 4) (n := 4) (by decide)
    rw [Str.length_append]; omega
  · omega
noncomputable def m_chg : List D → R D := asD D.str fun x => itD fun c => nlD (cnd (1 ≤ x.length ∧ x.length ≤ 6000) (.str (chS x c)))
theorem chg_ok {x : Str} {c : Int} (h : 1 ≤ x.length ∧ x.length ≤ 6000) : m_chg [.str x, .int c] = .ok (.str (chS x c)) := (asD_yes str_inj _ x [.int c]).trans (if_pos h)
theorem add_ss {x y : Str} (h : x.length + y.length ≤ 20000) : addR (.str x) (.str y) = .ok (.str (x ++ y)) := if_pos (by rw [sizeLine_eq]; omega)
theorem sl_ss {x : Str} {a b : Option Int} (h : x.length ≤ 20000) : slR (.str x) a b = .ok (.str (Txt.slice x a b)) := if_pos (by rw [sizeLine_eq]; omega)
def tr3 (t : T3) : List Int := [t.1, t.2.1, t.2.2]
theorem join_len (sep : Str) (l : List Str) : (Txt.join sep l).length = (l.map (·.length)).sum + (l.length - 1) * sep.length := by
  show (glued sep l).length = _
  exact size_glued sep l
theorem com3_len {t : T3} (h : Sm t) : 2 ≤ (comS (tr3 t)).length ∧ (comS (tr3 t)).length ≤ 128 := by
  have h1 := tx_len h.1
  have h2 := tx_len h.2.1
  have h3 := tx_len h.2.2
  have e : (comS (tr3 t)).length = ((tx t.1).length + ((tx t.2.1).length + ((tx t.2.2).length + 0))) + 2 * 1 := join_len "," ((tr3 t).map tx)
  omega
theorem tr_okL {t : T3} (h : Sm t) : okL (tr3 t) := tx_okL (show 3 ≤ 100 by decide) fun i hi => by
  rcases List.mem_cons.mp hi with rfl | hi
  · exact h.1
  rcases List.mem_cons.mp hi with rfl | hi
  · exact h.2.1
  · rw [List.mem_singleton.mp hi]; exact h.2.2
def txL (l : List T3) : Str := Txt.join " " ((l.map tr3).map comS)
theorem sum_com : ∀ (l : List T3), (∀ t ∈ l, Sm t) → 2 * l.length ≤ (((l.map tr3).map comS).map (·.length)).sum ∧ (((l.map tr3).map comS).map (·.length)).sum ≤ 128 * l.length
  | [], _ => ⟨Nat.le_refl _, Nat.le_refl _⟩
  | t :: l, h => by
    have h1 := com3_len (h t List.mem_cons_self)
    have h2 := sum_com l fun j hj => h j (List.mem_cons_of_mem _ hj)
    rw [List.map_cons, List.map_cons, List.map_cons, List.sum_cons, List.length_cons]
    omega
theorem com_fit {l : List T3} (h : ∀ t ∈ l, Sm t) (hl : l.length ≤ 41) : fitS ((l.map tr3).map comS) := by
  have := sum_com l h
  unfold fitS
  rw [List.length_map, List.length_map]
  omega
theorem txL_len {l : List T3} (h : ∀ t ∈ l, Sm t) (h1 : 1 ≤ l.length) (hl : l.length ≤ 41) : 1 ≤ (txL l).length ∧ (txL l).length ≤ 6000 := by
  have := sum_com l h
  unfold txL
  rw [join_len, List.length_map, List.length_map]
  have e : (" " : Str).length = 1 := rfl
  rw [e]
  omega
theorem shp_ok {l : List T3} (h : ∀ t ∈ l, Sm t) (hl : l.length ≤ 41) : m_shp [.lst (l.map tripD)] = .ok (.str (txL l)) := by
  have e : l.map tripD = (l.map tr3).map fun l => D.tup (l.map D.int) := by rw [List.map_map]; rfl
  rw [e]
  refine (asD_yes (fun a b h => by
    injection h with h
    exact (List.map_inj_right ints_inj).mp h) _ (l.map tr3) []).trans (if_pos ⟨by rw [List.length_map]; omega, fun m hm => ?_, com_fit h hl⟩)
  obtain ⟨t, ht, rfl⟩ := List.mem_map.mp hm
  exact tr_okL (h t ht)
end M
namespace M
open PySem L2 DL
variable [Tabs]
theorem app_t {ρ : Ev} {i : Nat} {acc : List T3} {t : T3} (h : ρ[i]? = some (.o (acc.map tripD))) (hl : acc.length < 1000) : appR i ρ (tripD t) = .ok (.nx (ρ.set i (.o ((acc ++ [t]).map tripD)))) := by
  unfold appR
  rw [h]
  show (if (acc.map tripD).length < sizeLine then R.ok (Out.nx _) else _) = _
  rw [if_pos (by rw [List.length_map, sizeLine_eq]; omega), List.map_append]
  rfl
theorem mx_ok (xs : List D) : max2R [.int 5, .int ((if (62 : Int) < (xs.length : Int) then 62 else (xs.length : Int)) - 2)] = .ok (.int (hiX xs : Int)) := by
  show R.ok (D.int (if ((if (62 : Int) < (xs.length : Int) then 62 else (xs.length : Int)) - 2) > 5 then _ else _)) = _
  congr 2
  unfold hiX
  omega
theorem mod_many (xs : List D) : modR (.int (c11 xs 0)) (.int 12) = .ok (.int (manyX xs : Int)) := by
  have := fmod_range (a := c11 xs 0) (b := 12) (by decide)
  rw [modR_int (by decide)]
  unfold manyX
  congr 2
  omega
theorem gt_i {i k : Int} (b : Bool) (h : decide (k < i) = b) : gtR (.int i) (.int k) = .ok (.bl b) := by subst h; rfl
theorem ix_t {l : List T3} {k : Nat} (h : k < l.length) : ixR (.lst (l.map tripD)) (.int (k : Int)) = .ok (tripD ((l[k]?).getD (0, 0, 0))) := by
  have e : l[k]? = some l[k] := List.getElem?_eq_getElem h
  have : atI (l.map tripD) (k : Int) = some (tripD ((l[k]?).getD (0, 0, 0))) := by
    rw [atI_nn (by omega), Int.toNat_natCast, List.getElem?_map, e]
    rfl
  show (match atI (l.map tripD) (k : Int) with | some d => R.ok d | none => .bad) = _
  rw [this]
theorem mod_nat {a b : Nat} (h : b ≠ 0) : modR (.int (a : Int)) (.int (b : Int)) = .ok (.int ((a % b : Nat) : Int)) := by
  rw [modR_int (by omega), Int.fmod_eq_emod_of_nonneg _ (by omega)]
  rfl
theorem nat_rng {n : Nat} (h : n ≤ 1000000) : rngR [.int (n : Int)] = .ok ((List.range n).map fun (k : Nat) => D.int (k : Int)) := rng1 h
theorem eq_iI (a b : Int) : eqR (.int a) (.int b) = .ok (.bl (decide (a = b))) := eqR_ii a b
end M

namespace M
open PySem L2 DL
open Builtin Builtin.Str
variable [Tabs]
theorem split_ne {x y : Str} (hy : (y.length == 0) = false) : Txt.split x y ≠ [] := by
  intro z
  have e := congrArg List.length z
  unfold Txt.split at e
  split at e
  · simp at e
  · split at e
    · simp at e
    · rw [length_partsBetween] at e; simp at e
theorem wds_ok {ws : List Str} (h0 : ws ≠ []) (h1 : ws.length ≤ 20002) (h2 : ∀ w ∈ ws, w.length ≤ 20000) : m_wds [.lst (ws.map D.str)] = .ok (.bl true) := (asD_yes (fun a b h => by
    injection h with h
    exact (List.map_inj_right str_inj).mp h) _ ws []).trans (if_pos ⟨h0, h1, h2⟩)
theorem dep_pt (x : Str) : dep (ptD x) ≤ 1 := by
  show deps ((Txt.split x ",").map fun w => D.int (valS w)) + 1 ≤ 1
  have : ∀ l : List Str, deps (l.map fun w => D.int (valS w)) = 0 := fun l => by
    induction l with
    | nil => rfl
    | cons w l ih => rw [List.map_cons, deps, ih]; rfl
  rw [this]; decide
theorem dep_spot (x : Str) : dep (spotD x) ≤ 1 := by
  unfold spotD
  split
  · exact dep_pt x
  · exact Nat.zero_le _
theorem deps_spot : ∀ l : List Str, deps (l.map spotD) ≤ 1
  | [] => Nat.zero_le _
  | x :: l => by rw [List.map_cons, deps]; exact Nat.max_le.mpr ⟨dep_spot x, deps_spot l⟩
theorem eq_spot (x : Str) : eqD (spotD x) .non = !decide (okP x) := by
  unfold spotD
  by_cases h : okP x
  · rw [if_pos h, decide_eq_true h]
    unfold ptD
    simp [eqD]
  · rw [if_neg h, decide_eq_false h]; rfl
theorem in_spot (l : List Str) : inR false .non (.lst (l.map spotD)) = .ok (.bl (!l.all fun w => decide (okP w))) := by
  show (if deps (l.map spotD) ≤ 40 then R.ok (D.bl (inB .non (l.map spotD) != false)) else .bad) = _
  rw [if_pos (Nat.le_trans (deps_spot l) (by decide))]
  congr 2
  unfold inB
  induction l with
  | nil => rfl
  | cons x l ih =>
    rw [List.map_cons, List.any_cons, List.all_cons, eq_spot]
    cases decide (okP x)
    · rfl
    · simpa using ih
theorem eq_lst (l : List Str) : eqR (.lst (l.map spotD)) (.lst (l.map spotD)) = .ok (.bl true) := by
  have h : dep (.lst (l.map spotD)) ≤ 40 := Nat.le_trans (Nat.succ_le_succ (deps_spot l)) (by decide)
  show (if dep (.lst (l.map spotD)) ≤ 40 ∧ dep (.lst (l.map spotD)) ≤ 40 then R.ok (D.bl (eqD (.lst (l.map spotD)) (.lst (l.map spotD)))) else .bad) = _
  rw [if_pos ⟨h, h⟩, eqD_refl]
theorem bad_empty (w : Int) (h : w = 0 ∨ w = 1 ∨ w = 2) : badT w (.str "") := ⟨by decide, by
  rcases h with h | h | h
  · exact .inl ⟨h, by decide +kernel⟩
  · exact .inr (.inl ⟨h, by decide +kernel⟩)
  · exact .inr (.inr ⟨h, by decide +kernel⟩)⟩
theorem bad_blank (w : Int) (h : w = 0 ∨ w = 1 ∨ w = 2) : badT w (.str " ") := ⟨by decide, by
  rcases h with h | h | h
  · exact .inl ⟨h, by decide +kernel⟩
  · exact .inr (.inl ⟨h, by decide +kernel⟩)
  · exact .inr (.inr ⟨h, by decide +kernel⟩)⟩
theorem pts_spots {l : List Str} (h : (l.all fun w => decide (okP w)) = true) : l.map ptD = l.map spotD := List.map_congr_left fun w hw => (if_pos (of_decide_eq_true (List.all_eq_true.mp h w hw))).symm
theorem ix_sp {l : List Str} {k : Nat} (h : k < l.length) : ixR (.lst (l.map spotD)) (.int (k : Int)) = .ok (spotD l[k]) := by
  have : atI (l.map spotD) (k : Int) = some (spotD l[k]) := by
    rw [atI_nn (by omega), Int.toNat_natCast, List.getElem?_map, List.getElem?_eq_getElem h]
    rfl
  show (match atI (l.map spotD) (k : Int) with | some d => R.ok d | none => .bad) = _
  rw [this]
theorem txt_eq (l : List T3) : (l.map fun t => comS (tr3 t)) = (l.map tr3).map comS := by rw [List.map_map]; rfl
theorem str_ok {t : T3} (h : Sm t) {i : Int} (hi : i ∈ tr3 t) : i.natAbs.log2 < 1920 := (tr_okL h).2.1 i hi
theorem x_goez {G : D → Ev → R Ev} {F : Ev → R Out} {r : R (List D)} {l : List D} {ρ : Ev} {J : Ev → Prop} (Iv : Ev → Prop) (h1 : r = .ok l) (hs : ∀ d ∈ l, ∀ ρ, Iv ρ → ∃ ρ2, stepL G F d ρ = .ok (.nx ρ2) ∧ Iv ρ2) (h0 : Iv ρ) (h2 : ∀ ρ', Iv ρ' → J ρ') : ∃ ρ2, (r.bind fun l => forL G F l ρ) = .ok (.nx ρ2) ∧ J ρ2 := by
  obtain ⟨ρ', e, i⟩ := forL_goes (G := G) (F := F) Iv hs h0
  exact ⟨ρ', by rw [h1]; exact e, h2 ρ' i⟩
noncomputable def m_law81 : List D → R D := lsD fun xs => nlD (cnd (IntsOf 1048576 xs) (.bl true))
end M

namespace K81
open PySem L2 DL M
def top (i : Nat) : Stmt := PySem.Challenge.pw_stakebodies_k81_points_read.main.body.getD i (.Pass ⟨0, 0, 0, 0⟩)
abbrev s_is_number : Stmt := top 10
abbrev N_is_number : List Str := ["text", "figures"]
theorem sc_is_number : FnScope N_is_number ["text"] (defScope s_is_number) := scOk
abbrev s_refuse_other_than_text : Stmt := top 11
abbrev N_refuse_other_than_text : List Str := ["thing"]
theorem sc_refuse_other_than_text : FnScope N_refuse_other_than_text ["thing"] (defScope s_refuse_other_than_text) := scOk
abbrev s_read_number : Stmt := top 12
abbrev N_read_number : List Str := ["text"]
theorem sc_read_number : FnScope N_read_number ["text"] (defScope s_read_number) := scOk
abbrev s_read_point : Stmt := top 13
abbrev N_read_point : List Str := ["text", "numbers"]
theorem sc_read_point : FnScope N_read_point ["text"] (defScope s_read_point) := scOk
abbrev s_read_points : Stmt := top 14
abbrev N_read_points : List Str := ["text", "points"]
theorem sc_read_points : FnScope N_read_points ["text"] (defScope s_read_points) := scOk
abbrev s_show_by_commas : Stmt := top 15
abbrev N_show_by_commas : List Str := ["numbers"]
theorem sc_show_by_commas : FnScope N_show_by_commas ["numbers"] (defScope s_show_by_commas) := scOk
abbrev s_show_points : Stmt := top 16
abbrev N_show_points : List Str := ["points"]
theorem sc_show_points : FnScope N_show_points ["points"] (defScope s_show_points) := scOk
abbrev s__law_cell : Stmt := top 18
abbrev N__law_cell : List Str := ["script", "k"]
theorem sc__law_cell : FnScope N__law_cell ["script", "k"] (defScope s__law_cell) := scOk
abbrev s__law_whole : Stmt := top 19
abbrev N__law_whole : List Str := ["thing"]
theorem sc__law_whole : FnScope N__law_whole ["thing"] (defScope s__law_whole) := scOk
abbrev s__law_sign : Stmt := top 20
abbrev N__law_sign : List Str := ["cell", "signs"]
theorem sc__law_sign : FnScope N__law_sign ["cell"] (defScope s__law_sign) := scOk
abbrev s__law_number : Stmt := top 21
abbrev N__law_number : List Str := ["cell"]
theorem sc__law_number : FnScope N__law_number ["cell"] (defScope s__law_number) := scOk
abbrev s__law_points : Stmt := top 22
abbrev N__law_points : List Str := ["script", "points", "k", "a", "b", "c", "many"]
theorem sc__law_points : FnScope N__law_points ["script"] (defScope s__law_points) := scOk
abbrev s__law_changed : Stmt := top 23
abbrev N__law_changed : List Str := ["text", "cell", "way", "place", "sign"]
theorem sc__law_changed : FnScope N__law_changed ["text", "cell"] (defScope s__law_changed) := scOk
abbrev s__law_value : Stmt := top 24
abbrev N__law_value : List Str := ["word", "figures", "number", "sign"]
theorem sc__law_value : FnScope N__law_value ["word"] (defScope s__law_value) := scOk
abbrev s__law_spot : Stmt := top 25
abbrev N__law_spot : List Str := ["word", "some"]
theorem sc__law_spot : FnScope N__law_spot ["word"] (defScope s__law_spot) := scOk
abbrev s__law_refused : Stmt := top 26
abbrev N__law_refused : List Str := ["way", "thing", "some", "plain", "e"]
theorem sc__law_refused : FnScope N__law_refused ["way", "thing"] (defScope s__law_refused) := scOk
abbrev s__law_is_point : Stmt := top 27
abbrev N__law_is_point : List Str := ["found", "due"]
theorem sc__law_is_point : FnScope N__law_is_point ["found", "due"] (defScope s__law_is_point) := scOk
abbrev s__law_words : Stmt := top 28
abbrev N__law_words : List Str := ["words", "part", "due", "word"]
theorem sc__law_words : FnScope N__law_words ["words"] (defScope s__law_words) := scOk
abbrev s_law : Stmt := top 29
abbrev N_law : List Str := ["script", "points", "text", "thing", "way", "words", "due", "found", "k"]
theorem sc_law : FnScope N_law ["script"] (defScope s_law) := scOk
section
variable [Tabs]
variable {P : Program} {w : World} {K : PySem.W.Frag} {mg : Str → Option Value} {base : Heap}
variable {c_BodyError c_NoPoints c_NoText c_NoName c_NoRow : Addr}
theorem c_is_number (b_len : mg "len" = none) (b_any : mg "any" = none) (t_MOST_FIGURES : CVal mg "MOST_FIGURES" (.int 40)) (t_FIGURES : CVal mg "FIGURES" (.str "0123456789")) (g : Def K mg "is_number" s_is_number) : Cal P w K mg base 1 "is_number" 1 m_isn := by
  refine' cal_def (k := 0) (F := _) g sc_is_number (fun hr hu hu1 nd => ?b) fun ds d hl h => ?_
  case b =>
    refine' (pssd_cons (psd_set 1 (pd_ite (ptd_val (pd_bmS PySem.F.slot_str_startswith PySem.F.type_str_startswith mt_starts (pd_var 0) (pad_cons pd_str pad_nil))) (pd_sl (pb_var 0) (pto_some pd_int) pto_none) (pd_var 0)) nd)
      (pssd_cons (psd_if (ptd_not (ptd_chain pd_int (pcb cd_len (pb_var 1)) (pd_conI t_MOST_FIGURES))) (pssd_one (psd_ret pd_bl)) pssd_nil)
      (pssd_cons (psd_if (ptd_val (pcb (cd_any rfl) (PD.pb (pd_comp ["sign"] [] [] rfl (compSc (sc := defScope s_is_number) (N := N_is_number)) (pid_str (pd_var 1)) (hx1 fun _ _ _ _ _ => (pd_cmp (od_notin hu) (pb_var 0) (PD.pb (pd_conS t_FIGURES)))) (fun _ => weak_name0))))) (pssd_one (psd_ret pd_bl)) pssd_nil)
      (pssd_one (psd_ret (pd_or (pd_cmp (od_eq hu) (pb_var 0) (PD.pb pd_str)) (pd_one (pd_not (pd_bmS PySem.F.slot_str_startswith PySem.F.type_str_startswith mt_starts (pd_var 1) (pad_cons pd_str pad_nil))))))))))
  replace h := asD_ok h; obtain ⟨x, ds, rfl, h⟩ := h
  replace h := nlD_ok h; obtain ⟨rfl, h⟩ := h
  replace h := cnd_ok h; obtain ⟨hx, rfl⟩ := h
  have hz : x.length ≤ sizeLine := by rw [sizeLine_eq]; omega
  have hf : (figS x).length ≤ sizeLine := by unfold figS; split; exact Nat.le_trans (Txt.slice_le x _ _) hz; exact hz
  refine ret_step (ρ := [.v (.str x), .v (.str (figS x))]) (bnd (x := D.str (figS x)) ?_ rfl) ?_
  · unfold figS
    by_cases c : Txt.startswith x "-" = true
    · rw [if_pos c]
      exact yes_if (bnd (x := D.bl true) (congrArg (fun b => R.ok (D.bl b)) c) rfl) |>.trans (if_pos hz)
    · rw [if_neg c]
      exact no_if (bnd (x := D.bl false) (congrArg (fun b => R.ok (D.bl b)) (Bool.eq_false_iff.mpr c)) rfl)
  cases hb : (decide (1 ≤ (figS x).length) && decide ((figS x).length ≤ 40)) with
  | false =>
    have e : goodS x = false := by unfold goodS; rw [hb]; rfl
    rw [e]
    exact r_bn (x := true) (bnd (x := false) (bnd rfl (bnd (bnd (consx rfl rfl) (len_s hf)) ((ch_ok _).trans (congrArg R.ok hb)))) rfl) rfl
  | true =>
    refine ret_step (no_if (bnd (x := true) (bnd rfl (bnd (bnd (consx rfl rfl) (len_s hf)) ((ch_ok _).trans (congrArg R.ok hb)))) rfl)) ?_
    have hl : (figS x).cps.toList.length ≤ 30000 := by
      have := (Bool.and_eq_true_iff.mp hb).2
      have := of_decide_eq_true this
      rw [Array.length_toList]
      show (figS x).length ≤ 30000
      omega
    cases hd : (figS x).cps.toList.all dg with
    | false =>
      have e : goodS x = false := by unfold goodS; rw [hb, hd]; rfl
      rw [e]
      exact r_bn (x := true) (bnd (x := D.bl true) (bnd (consx (bnd (x := signsD (figS x)) rfl (comp_if (fun c => D.str ⟨#[c]⟩) D.bl (fun c => !dg c) (figS x).cps.toList hl fun c hc => ⟨_, rfl, notin_fig c⟩)) rfl) ((any_c _).trans (by rw [hd]; rfl))) rfl) rfl
    | true =>
      refine ret_step (no_if (bnd (x := D.bl false) (bnd (consx (bnd (x := signsD (figS x)) rfl (comp_if (fun c => D.str ⟨#[c]⟩) D.bl (fun c => !dg c) (figS x).cps.toList hl fun c hc => ⟨_, rfl, notin_fig c⟩)) rfl) ((any_c _).trans (by rw [hd]; rfl))) rfl)) ?_
      refine ret_end ?_
      have e : goodS x = (x == "0" || !(Txt.startswith (figS x) "0")) := by unfold goodS; rw [hb, hd]; rfl
      rw [e]
      cases h0 : (x == ("0" : Str)) with
      | true => exact bnd (x := true) (bnd (x := D.bl true) (congrArg (fun b => R.ok (D.bl b)) h0) rfl) rfl
      | false => exact bnd (x := false) (bnd (x := D.bl false) (congrArg (fun b => R.ok (D.bl b)) h0) rfl) rfl
theorem c_refuse_other_than_text (b_isinstance : mg "isinstance" = none) (b_str : mg "str" = none) (g : Def K mg "refuse_other_than_text" s_refuse_other_than_text) : Cal P w K mg base 1 "refuse_other_than_text" 1 m_ref := by
  refine' cal_def (k := 0) (F := _) g sc_refuse_other_than_text (fun hr hu hu1 nd => ?b) fun ds d hl h => ?_
  case b =>
    refine' (pssd_one (psd_if (ptd_not (ptd_val (pd_isa isa_str (pb_var 0)))) (pssd_one psd_never) pssd_nil))
  replace h := asD_ok h; obtain ⟨x, ds, rfl, h⟩ := h
  replace h := nlD_ok h; obtain ⟨rfl, h⟩ := h
  cases h
  rfl
theorem cx_refuse_other_than_text (b_isinstance : mg "isinstance" = none) (b_str : mg "str" = none) (x_NoText : XCls K mg c_BodyError "NoText" c_NoText) (g : Def K mg "refuse_other_than_text" s_refuse_other_than_text) : CalX P w K mg base 1 "refuse_other_than_text" 1 (x_ref c_NoText) := by
  obtain ⟨f, fd, hmg, F0⟩ := g
  refine' calx_of (k := 0) (G := _) F0 sc_refuse_other_than_text (F0.binds fun _ _ _ _ _ _ us hl => by obtain ⟨_, rfl⟩ := List.length_eq_one_iff.mp hl; rfl) hmg (fun cdv A outer s H E hr => ?hb) ?hm
  case hb =>
    have hu := hr.units
    have nd := sc_refuse_other_than_text.nd
    refine' (psx_here (px_if (ptd_not (ptd_val (pd_isa isa_str (pb_var 0)))) (psx_here (px_raise leaves_cx rfl x_NoText.ex PySem.F.excBase_ValueError x_NoText.nm (pad_cons pd_str pad_nil))) psx_never))
  case hm =>
    intro ds C hl h
    match ds, h with
    | [d], h =>
      cases d with
      | str _ => cases h
      | _ => rw [← show some (Value.ref c_NoText) = some C from h]; rfl
theorem c_read_number (c_refuse_other_than_text : Cal P w K mg base 1 "refuse_other_than_text" 1 m_ref) (c_is_number : Cal P w K mg base 1 "is_number" 1 m_isn) (b_int : mg "int" = none) (g : Def K mg "read_number" s_read_number) : Cal P w K mg base 2 "read_number" 1 m_num := by
  refine' cal_def (k := 1) (F := _) g sc_read_number (fun hr hu hu1 nd => ?b) fun ds d hl h => ?_
  case b =>
    refine' (pssd_cons (psd_drop (pc1 c_refuse_other_than_text hr (pd_var 0)))
      (pssd_cons (psd_if (ptd_not (ptd_val (pc1 c_is_number hr (pd_var 0)))) (pssd_one psd_never) pssd_nil)
      (pssd_one (psd_ret (pd_callTy cd_int (pab_cons (pb_var 0) pab_nil))))))
  replace h := asD_ok h; obtain ⟨x, ds, rfl, h⟩ := h
  replace h := nlD_ok h; obtain ⟨rfl, h⟩ := h
  replace h := cnd_ok h; obtain ⟨⟨hx, hg⟩, rfl⟩ := h
  refine ret_step (bnd (x := D.non) (bnd (consx rfl rfl) (ref_ok x)) rfl) ?_
  refine ret_step (no_if (bnd (x := true) (bnd (x := D.bl true) (bnd (consx rfl rfl) ((isn_ok hx).trans (by rw [hg]))) rfl) rfl)) ?_
  exact ret_end (bnd (consx rfl rfl) (int_good hg))
theorem cx_read_number (c_refuse_other_than_text : Cal P w K mg base 1 "refuse_other_than_text" 1 m_ref) (c_is_number : Cal P w K mg base 1 "is_number" 1 m_isn) (cx_refuse_other_than_text : CalX P w K mg base 1 "refuse_other_than_text" 1 (x_ref c_NoText)) (x_NoText : XCls K mg c_BodyError "NoText" c_NoText) (g : Def K mg "read_number" s_read_number) : CalX P w K mg base 2 "read_number" 1 (x_num c_NoText) := by
  obtain ⟨f, fd, hmg, F0⟩ := g
  refine' calx_of (k := 1) (G := _) F0 sc_read_number (F0.binds fun _ _ _ _ _ _ us hl => by obtain ⟨_, rfl⟩ := List.length_eq_one_iff.mp hl; rfl) hmg (fun cdv A outer s H E hr => ?hb) ?hm
  case hb =>
    have hu := hr.units
    have nd := sc_read_number.nd
    refine' (psx_or (psx_here (px_expr (pex_cal leaves_cx cx_refuse_other_than_text (hr.mono (by decide)) (pad_cons (pd_var 0) pad_nil) (lenR_cons lenR_nil))))
      (psx_go (psd_drop (pc1 c_refuse_other_than_text hr (pd_var 0)))
      (psx_here (px_if (ptd_not (ptd_val (pc1 c_is_number hr (pd_var 0)))) (psx_here (px_raise leaves_cx rfl x_NoText.ex PySem.F.excBase_ValueError x_NoText.nm (pad_cons pd_str pad_nil))) psx_never))))
  case hm =>
    intro ds C hl h
    match ds, h with
    | [d], h =>
      cases d with
      | str x =>
        simp only [x_num] at h
        split at h
        · rename_i hz
          refine or_go (bnd (x := D.non) (bnd (consx rfl rfl) (ref_ok x)) rfl) ?_
          exact ifX_t (bnd (x := false) (bnd (x := D.bl false) (bnd (consx rfl rfl) ((isn_ok hz.1).trans (by rw [hz.2]))) rfl) rfl) h
        · cases h
      | _ => rw [← show some (Value.ref c_NoText) = some C from h]; rfl
theorem c_read_point (c_refuse_other_than_text : Cal P w K mg base 1 "refuse_other_than_text" 1 m_ref) (c_read_number : Cal P w K mg base 2 "read_number" 1 m_num) (b_len : mg "len" = none) (b_tuple : mg "tuple" = none) (g : Def K mg "read_point" s_read_point) : Cal P w K mg base 3 "read_point" 1 m_pt := by
  refine' cal_def (k := 2) (F := _) g sc_read_point (fun hr hu hu1 nd => ?b) fun ds d hl h => ?_
  case b =>
    refine' (pssd_cons (psd_drop (pc1 c_refuse_other_than_text hr (pd_var 0)))
      (pssd_cons (psd_set 1 (pd_bmS PySem.F.slot_str_split PySem.F.type_str_split mt_split (pd_var 0) (pad_cons pd_str pad_nil)) nd)
      (pssd_cons (psd_if (ptd_cmp (od_ne hu) (PD.pb (pcb cd_len (pb_var 1))) pbi) (pssd_one psd_never) pssd_nil)
      (pssd_one (psd_ret (pd_callTy cd_tuple (pab_cons (PD.pb (pd_comp ["number"] [] [] rfl (compSc (sc := defScope s_read_point) (N := N_read_point)) (pid_list (pd_var 1)) (hx1 fun _ _ _ _ _ => (pc1 c_read_number hr (pd_var 0))) (fun _ => weak_name0))) pab_nil)))))))
  replace h := asD_ok h; obtain ⟨x, ds, rfl, h⟩ := h
  replace h := nlD_ok h; obtain ⟨rfl, h⟩ := h
  replace h := cnd_ok h; obtain ⟨⟨hx, h3, hw⟩, rfl⟩ := h
  have sh : ∀ w ∈ Txt.split x ",", w.length ≤ 100000 := fun w hw => Nat.le_trans (PyProof.Rows.part_short hw) (by omega)
  refine ret_step (bnd (x := D.non) (bnd (consx rfl rfl) (ref_ok x)) rfl) ?_
  refine ret_step (ρ := [.v (.str x), .v (.lst ((Txt.split x ",").map D.str))]) (bnd (x := D.lst ((Txt.split x ",").map D.str)) (bnd rfl (on_s (bnd (consx rfl rfl) (split_ok (x := x) rfl (by omega))))) rfl) ?_
  refine ret_step (no_if (bnd (x := D.bl false) (bnd (bnd (consx rfl rfl) rfl) (bnd rfl ?_)) rfl)) ?_
  · exact ne_n (k := 3) false (by rw [List.length_map, h3]; rfl)
  refine ret_end (bnd (consx (bnd (x := (Txt.split x ",").map D.str) rfl (comp_if D.str D.int valS (Txt.split x ",") (by omega) fun w h => ⟨_, rfl, bnd (consx rfl rfl) (numS_ok (sh w h) (hw w h))⟩)) rfl) ?_)
  show R.ok (D.tup _) = _
  unfold ptD
  rw [List.map_map]
  rfl
theorem cx_read_point (c_refuse_other_than_text : Cal P w K mg base 1 "refuse_other_than_text" 1 m_ref) (c_read_number : Cal P w K mg base 2 "read_number" 1 m_num) (b_len : mg "len" = none) (b_tuple : mg "tuple" = none) (cx_refuse_other_than_text : CalX P w K mg base 1 "refuse_other_than_text" 1 (x_ref c_NoText)) (cx_read_number : CalX P w K mg base 2 "read_number" 1 (x_num c_NoText)) (x_NoText : XCls K mg c_BodyError "NoText" c_NoText) (g : Def K mg "read_point" s_read_point) : CalX P w K mg base 3 "read_point" 1 (x_pt c_NoText) := by
  obtain ⟨f, fd, hmg, F0⟩ := g
  refine' calx_of (k := 2) (G := _) F0 sc_read_point (F0.binds fun _ _ _ _ _ _ us hl => by obtain ⟨_, rfl⟩ := List.length_eq_one_iff.mp hl; rfl) hmg (fun cdv A outer s H E hr => ?hb) ?hm
  case hb =>
    have hu := hr.units
    have nd := sc_read_point.nd
    refine' (psx_or (psx_here (px_expr (pex_cal leaves_cx cx_refuse_other_than_text (hr.mono (by decide)) (pad_cons (pd_var 0) pad_nil) (lenR_cons lenR_nil))))
      (psx_go (psd_drop (pc1 c_refuse_other_than_text hr (pd_var 0)))
      (psx_go (psd_set 1 (pd_bmS PySem.F.slot_str_split PySem.F.type_str_split mt_split (pd_var 0) (pad_cons pd_str pad_nil)) nd)
      (psx_or (psx_here (px_if (ptd_cmp (od_ne hu) (PD.pb (pcb cd_len (pb_var 1))) pbi) (psx_here (px_raise leaves_cx rfl x_NoText.ex PySem.F.excBase_ValueError x_NoText.nm (pad_cons pd_str pad_nil))) psx_never))
      (psx_go (psd_if (ptd_cmp (od_ne hu) (PD.pb (pcb cd_len (pb_var 1))) pbi) (pssd_one psd_never) pssd_nil)
      (psx_here (px_ret (pex_ty (T := "tuple") (pex_compE ["number"] [] [] leaves_cx rfl (compSc (sc := defScope s_read_point) (N := N_read_point)) (pid_list (pd_var 1)) (by rintro pins fp X2 ⟨s0, H1, C, rfl⟩; exact ⟨(pgd_name 0 (show (["number"] : List Str).Nodup by decide +kernel)), (pc1 c_read_number hr (pd_var 0)), pec_cal cx_read_number (hr.mono (by decide)) (pad_cons (pd_var 0) pad_nil) (lenR_cons lenR_nil)⟩) (fun _ => weak_name0))))))))))
  case hm =>
    intro ds C hl h
    match ds, h with
    | [d], h =>
      cases d with
      | str x =>
        simp only [x_pt] at h
        split at h
        · rename_i hz
          have sh : ∀ w ∈ Txt.split x ",", w.length ≤ 100000 := fun w hw => Nat.le_trans (PyProof.Rows.part_short hw) (by omega)
          have hl := split_len (x := x) (y := ",") (by omega)
          refine or_go (bnd (x := D.non) (bnd (consx rfl rfl) (ref_ok x)) rfl) (go_x (ρ := [.v (.str x), .v (.lst ((Txt.split x ",").map D.str))]) (bnd (x := D.lst ((Txt.split x ",").map D.str)) (bnd rfl (on_s (bnd (consx rfl rfl) (split_ok (x := x) rfl (by omega))))) rfl) ?_)
          by_cases h3 : (Txt.split x ",").length = 3
          · have e3 : neR (.int (((Txt.split x ",").map D.str).length : Int)) (.int 3) = .ok (.bl false) := ne_n (k := 3) false (by rw [List.length_map, h3]; rfl)
            refine or_r (ifX_f (bnd (x := D.bl false) (bnd (bnd (consx rfl rfl) rfl) (bnd rfl e3)) rfl)) (go_x (no_if (bnd (x := D.bl false) (bnd (bnd (consx rfl rfl) rfl) (bnd rfl e3)) rfl)) ?_)
            show (if ((Txt.split x ",").map D.str).length ≤ sizeLine then compX _ _ _ _ ((Txt.split x ",").map D.str) else none) = some C
            rw [if_pos (by rw [List.length_map, sizeLine_eq]; omega)]
            refine compX_bad goodS (Txt.split x ",") (fun w hw => ⟨_, rfl, ?_⟩) ?_
            · cases hg : goodS w with
              | true => exact .inl ⟨rfl, _, bnd (consx rfl rfl) (numS_ok (sh w hw) hg)⟩
              | false => exact .inr ⟨rfl, bnd (consx rfl rfl) (numS_bad hg), (if_pos ⟨sh w hw, hg⟩ : (if w.length ≤ 100000 ∧ goodS w = false then some (Value.ref c_NoText) else none) = _).trans h⟩
            · obtain ⟨w, hw, hb⟩ := some_bad (p := fun w => goodS w = true) (fun z => hz.2 ⟨h3, z⟩)
              exact ⟨w, hw, by simpa using hb⟩
          · have e3 : neR (.int (((Txt.split x ",").map D.str).length : Int)) (.int 3) = .ok (.bl true) := ne_n (k := 3) true (by rw [List.length_map]; exact decide_eq_true h3)
            exact or_l (ifX_t (bnd (x := D.bl true) (bnd (bnd (consx rfl rfl) rfl) (bnd rfl e3)) rfl) h)
        · cases h
      | _ => rw [← show some (Value.ref c_NoText) = some C from h]; rfl
theorem cn_read_points (c_refuse_other_than_text : Cal P w K mg base 1 "refuse_other_than_text" 1 m_ref) (c_read_point : Cal P w K mg base 3 "read_point" 1 m_pt) (b_len : mg "len" = none) (t_MOST_POINTS : CVal mg "MOST_POINTS" (.int 40)) (g : Def K mg "read_points" s_read_points) : CalN P w K mg base 4 "read_points" 1 m_pts := by
  refine' calN_def (k := 3) (F := _) g sc_read_points (fun hr hu hu1 nd => ?b) fun ds d hl h => ?_
  case b =>
    refine' (pssf_cons (psd_drop (pc1 c_refuse_other_than_text hr (pd_var 0)))
      (pssf_cons (psd_set 1 (pd_bmS PySem.F.slot_str_split PySem.F.type_str_split mt_split (pd_var 0) (pad_cons pd_str pad_nil)) nd)
      (pssf_cons (psd_if (ptd_cmp od_gt (PD.pb (pcb cd_len (pb_var 1))) (PD.pb (pd_conI t_MOST_POINTS))) (pssd_one psd_never) pssd_nil)
      (pssf_ret (pf_comp ["point"] [] [] rfl (compSc (sc := defScope s_read_points) (N := N_read_points)) (pid_list (pd_var 1)) (hx1 fun _ _ _ _ _ => (pc1 c_read_point hr (pd_var 0))) (fun _ => weak_name0))))))
  replace h := asD_ok h; obtain ⟨x, ds, rfl, h⟩ := h
  replace h := nlD_ok h; obtain ⟨rfl, h⟩ := h
  replace h := cnd_ok h; obtain ⟨⟨hx, h3, hw⟩, rfl⟩ := h
  have sh : ∀ w ∈ Txt.split x " ", w.length ≤ 90000 := fun w hw => Nat.le_trans (PyProof.Rows.part_short hw) (by omega)
  refine lf_step (bnd (x := D.non) (bnd (consx rfl rfl) (ref_ok x)) rfl) ?_
  refine lf_step (ρ := [.v (.str x), .v (.lst ((Txt.split x " ").map D.str))]) (bnd (x := D.lst ((Txt.split x " ").map D.str)) (bnd rfl (on_s (bnd (consx rfl rfl) (split_ok (x := x) rfl (by omega))))) rfl) ?_
  refine lf_step (no_if (bnd (x := D.bl false) (bnd (bnd (consx rfl rfl) rfl) (bnd rfl (gt_n (k := 40) false (by rw [List.length_map]; exact decide_eq_false (by omega))))) rfl)) ?_
  refine lf_end (bnd (x := (Txt.split x " ").map D.str) rfl ((comp_i0 D.str (fun d => d) ptD (Txt.split x " ") (by omega) fun w h => ⟨_, rfl, bnd (consx rfl rfl) (pt_ok (sh w h) (hw w h))⟩).trans ?_))
  rw [List.map_id']
theorem cx_read_points (c_refuse_other_than_text : Cal P w K mg base 1 "refuse_other_than_text" 1 m_ref) (c_read_point : Cal P w K mg base 3 "read_point" 1 m_pt) (b_len : mg "len" = none) (t_MOST_POINTS : CVal mg "MOST_POINTS" (.int 40)) (cx_refuse_other_than_text : CalX P w K mg base 1 "refuse_other_than_text" 1 (x_ref c_NoText)) (cx_read_point : CalX P w K mg base 3 "read_point" 1 (x_pt c_NoText)) (x_NoText : XCls K mg c_BodyError "NoText" c_NoText) (g : Def K mg "read_points" s_read_points) : CalX P w K mg base 4 "read_points" 1 (x_pts c_NoText) := by
  obtain ⟨f, fd, hmg, F0⟩ := g
  refine' calx_of (k := 3) (G := _) F0 sc_read_points (F0.binds fun _ _ _ _ _ _ us hl => by obtain ⟨_, rfl⟩ := List.length_eq_one_iff.mp hl; rfl) hmg (fun cdv A outer s H E hr => ?hb) ?hm
  case hb =>
    have hu := hr.units
    have nd := sc_read_points.nd
    refine' (psx_or (psx_here (px_expr (pex_cal leaves_cx cx_refuse_other_than_text (hr.mono (by decide)) (pad_cons (pd_var 0) pad_nil) (lenR_cons lenR_nil))))
      (psx_go (psd_drop (pc1 c_refuse_other_than_text hr (pd_var 0)))
      (psx_go (psd_set 1 (pd_bmS PySem.F.slot_str_split PySem.F.type_str_split mt_split (pd_var 0) (pad_cons pd_str pad_nil)) nd)
      (psx_or (psx_here (px_if (ptd_cmp od_gt (PD.pb (pcb cd_len (pb_var 1))) (PD.pb (pd_conI t_MOST_POINTS))) (psx_here (px_raise leaves_cx rfl x_NoText.ex PySem.F.excBase_ValueError x_NoText.nm (pad_cons pd_str pad_nil))) psx_never))
      (psx_go (psd_if (ptd_cmp od_gt (PD.pb (pcb cd_len (pb_var 1))) (PD.pb (pd_conI t_MOST_POINTS))) (pssd_one psd_never) pssd_nil)
      (psx_here (px_ret (pex_compE ["point"] [] [] leaves_cx rfl (compSc (sc := defScope s_read_points) (N := N_read_points)) (pid_list (pd_var 1)) (by rintro pins fp X2 ⟨s0, H1, C, rfl⟩; exact ⟨(pgd_name 0 (show (["point"] : List Str).Nodup by decide +kernel)), (pc1 c_read_point hr (pd_var 0)), pec_cal cx_read_point (hr.mono (by decide)) (pad_cons (pd_var 0) pad_nil) (lenR_cons lenR_nil)⟩) (fun _ => weak_name0)))))))))
  case hm =>
    intro ds C hl h
    match ds, h with
    | [d], h =>
      cases d with
      | str x =>
        simp only [x_pts] at h
        split at h
        · rename_i hz
          have sh : ∀ w ∈ Txt.split x " ", w.length ≤ 90000 := fun w hw => Nat.le_trans (PyProof.Rows.part_short hw) (by omega)
          refine or_go (bnd (x := D.non) (bnd (consx rfl rfl) (ref_ok x)) rfl) (go_x (ρ := [.v (.str x), .v (.lst ((Txt.split x " ").map D.str))]) (bnd (x := D.lst ((Txt.split x " ").map D.str)) (bnd rfl (on_s (bnd (consx rfl rfl) (split_ok (x := x) rfl (by omega))))) rfl) ?_)
          by_cases h3 : (Txt.split x " ").length ≤ 40
          · have e3 : gtR (.int (((Txt.split x " ").map D.str).length : Int)) (.int 40) = .ok (.bl false) := gt_n (k := 40) false (by rw [List.length_map]; exact decide_eq_false (by omega))
            refine or_r (ifX_f (bnd (x := D.bl false) (bnd (bnd (consx rfl rfl) rfl) (bnd rfl e3)) rfl)) (go_x (no_if (bnd (x := D.bl false) (bnd (bnd (consx rfl rfl) rfl) (bnd rfl e3)) rfl)) ?_)
            show (if ((Txt.split x " ").map D.str).length ≤ sizeLine then compX _ _ _ _ ((Txt.split x " ").map D.str) else none) = some C
            rw [if_pos (by rw [List.length_map, sizeLine_eq]; omega)]
            refine compX_bad (fun w => decide (okP w)) (Txt.split x " ") (fun w hw => ⟨_, rfl, ?_⟩) ?_
            · by_cases hg : okP w
              · exact .inl ⟨decide_eq_true hg, _, bnd (consx rfl rfl) (pt_ok (sh w hw) hg)⟩
              · exact .inr ⟨decide_eq_false hg, bnd (consx rfl rfl) (pt_bad hg), (if_pos ⟨sh w hw, hg⟩ : (if w.length ≤ 90000 ∧ ¬ okP w then some (Value.ref c_NoText) else none) = _).trans h⟩
            · exact some_bad (p := okP) (fun z => hz.2 ⟨h3, z⟩)
          · have e3 : gtR (.int (((Txt.split x " ").map D.str).length : Int)) (.int 40) = .ok (.bl true) := gt_n (k := 40) true (by rw [List.length_map]; exact decide_eq_true (by omega))
            exact or_l (ifX_t (bnd (x := D.bl true) (bnd (bnd (consx rfl rfl) rfl) (bnd rfl e3)) rfl) h)
        · cases h
      | _ => rw [← show some (Value.ref c_NoText) = some C from h]; rfl
end
end K81

namespace K81
open PySem L2 DL M
section
variable [Tabs]
variable {P : Program} {w : World} {K : PySem.W.Frag} {mg : Str → Option Value} {base : Heap}
variable {c_BodyError c_NoPoints c_NoText c_NoName c_NoRow : Addr}

theorem c_show_by_commas (b_str : mg "str" = none) (g : Def K mg "show_by_commas" s_show_by_commas) : Cal P w K mg base 1 "show_by_commas" 1 m_com := by
  refine' cal_def (k := 0) (F := _) g sc_show_by_commas (fun hr hu hu1 nd => ?b) fun ds d hl h => ?_
  case b =>
    refine' (pssd_one (psd_ret (pd_join (pd_comp ["number"] [] [] rfl (compSc (sc := defScope s_show_by_commas) (N := N_show_by_commas)) (pid_tup (pd_var 0)) (hx1 fun _ _ _ _ _ => (pd_callTy cd_str (pab_cons (pb_var 0) pab_nil))) (fun _ => weak_name0)))))
  replace h := asD_ok h; obtain ⟨l, ds, rfl, h⟩ := h
  replace h := nlD_ok h; obtain ⟨rfl, h⟩ := h
  replace h := cnd_ok h; obtain ⟨⟨h1, h2, h3⟩, rfl⟩ := h
  exact ret_end (bnd (x := D.lst ((l.map tx).map D.str)) (bnd (x := l.map D.int) rfl (comp_if D.int D.str tx l (by omega) fun i hi => ⟨_, rfl, bnd (consx rfl rfl) (if_pos (h2 i hi))⟩)) (join_ok (by decide) h3))
theorem c_show_points (c_show_by_commas : Cal P w K mg base 1 "show_by_commas" 1 m_com) (g : Def K mg "show_points" s_show_points) : Cal P w K mg base 2 "show_points" 1 m_shp := by
  refine' cal_def (k := 1) (F := _) g sc_show_points (fun hr hu hu1 nd => ?b) fun ds d hl h => ?_
  case b =>
    refine' (pssd_one (psd_ret (pd_join (pd_comp ["P"] [] [] rfl (compSc (sc := defScope s_show_points) (N := N_show_points)) (pid_list (pd_var 0)) (hx1 fun _ _ _ _ _ => (pc1 c_show_by_commas hr (pd_var 0))) (fun _ => weak_name0)))))
  replace h := asD_ok h; obtain ⟨ps, ds, rfl, h⟩ := h
  replace h := nlD_ok h; obtain ⟨rfl, h⟩ := h
  replace h := cnd_ok h; obtain ⟨⟨h1, h2, h3⟩, rfl⟩ := h
  exact ret_end (bnd (x := D.lst ((ps.map comS).map D.str)) (bnd (x := ps.map fun l => D.tup (l.map D.int)) rfl (comp_if (fun l : List Int => D.tup (l.map D.int)) D.str comS ps (by omega) fun l hl => ⟨_, rfl, bnd (consx rfl rfl) (com_ok (h2 l hl))⟩)) (join_ok (by decide) h3))
end
end K81

namespace K81
open PySem L2 DL M
section
variable [Tabs]
variable {P : Program} {w : World} {K : PySem.W.Frag} {mg : Str → Option Value} {base : Heap}
variable {c_BodyError c_NoPoints c_NoText c_NoName c_NoRow : Addr}

theorem c__law_cell (b_len : mg "len" = none) (g : Def K mg "_law_cell" s__law_cell) : Cal P w K mg base 1 "_law_cell" 2 m_cell11 := by
  refine' cal_def (k := 0) (F := _) g sc__law_cell (fun hr hu hu1 nd => ?b) fun ds d hl h => ?_
  case b =>
    refine' (pssd_cons (psd_if (ptd_cmp od_lt (pb_var 1) (PD.pb (pcb cd_len (pb_var 0)))) (pssd_one (psd_ret (pd_ix (pb_var 0) (pd_var 1)))) pssd_nil)
      (pssd_one (psd_ret (pd_bin od_add (PD.pb (pd_bin od_add (PD.pb (pd_bin od_mul (PD.pb (pd_bin od_mul pbi (pb_var 1))) (pb_var 1))) (PD.pb (pd_bin od_mul pbi (pb_var 1))))) pbi))))
  match ds, h with
  | [.lst xs, .int k], h =>
    simp only [m_cell11] at h
    split at h
    · rename_i hz
      obtain ⟨h0, h1⟩ := hz
      rw [← h]
      have hb : bits k ≤ 20 := bits_of_abs (by lia) (by lia)
      have hb2 : bits (11 * k) ≤ 30 := bits_of_abs (by lia) (by lia)
      by_cases hk : k < xs.length
      · have e : xs[k.toNat]? = some xs[k.toNat] := List.getElem?_eq_getElem (by lia)
        have e2 : atI xs k = some xs[k.toNat] := by rw [atI_nn h0, e]
        simp [startD, hk, ixR_l e2, cellD, e]
      · have e : xs[k.toNat]? = none := List.getElem?_eq_none_iff.mpr (by lia)
        simp [startD, hk, cellD, e, mulR_int (MulSz.of (show bits 11 ≤ 10 by decide) hb), mulR_int (MulSz.of hb2 hb), mulR_int (MulSz.of (show bits 5 ≤ 10 by decide) hb), M.rule11]
    · cases h
theorem c__law_whole (b_isinstance : mg "isinstance" = none) (b_bool : mg "bool" = none) (b_int : mg "int" = none) (g : Def K mg "_law_whole" s__law_whole) : Cal P w K mg base 1 "_law_whole" 1 m_law_whole := by
  refine' cal_def (k := 0) (F := _) g sc__law_whole (fun hr hu hu1 nd => ?b) fun ds d hl h => ?_
  case b =>
    refine' (pssd_one (psd_ret (pd_and (pd_isa isa_int (pb_var 0)) (pd_one (pd_not (pd_isa isa_bool (pb_var 0)))))))
  match ds, h with
  | [x], h =>
    rw [← h]
    cases x <;> rfl
theorem c__law_sign (g : Def K mg "_law_sign" s__law_sign) : Cal P w K mg base 1 "_law_sign" 1 m_sign := by
  refine' cal_def (k := 0) (F := _) g sc__law_sign (fun hr hu hu1 nd => ?b) fun ds d hl h => ?_
  case b =>
    refine' (pssd_cons (psd_set 1 pd_str nd)
      (pssd_cons (psd_set 1 (pd_bin od_add (pb_var 1) (PD.pb pd_str)) nd)
      (pssd_one (psd_ret (pd_ix (pb_var 1) (pd_bin od_mod (pb_var 0) pbi))))))
  replace h := itD_ok h; obtain ⟨c, ds, rfl, h⟩ := h
  replace h := nlD_ok h; obtain ⟨rfl, h⟩ := h
  cases h
  refine ret_step rfl (ret_step (ρ := [.v (.int c), .v (.str (sg1 ++ sg2))]) (bnd (x := D.str (sg1 ++ sg2)) rfl rfl) (ret_end (bnd rfl (bnd (x := D.int (c.fmod 96)) rfl (sg_at c)))))
theorem c__law_number (g : Def K mg "_law_number" s__law_number) : Cal P w K mg base 1 "_law_number" 1 m_n40 := by
  refine' cal_def (k := 0) (F := _) g sc__law_number (fun hr hu hu1 nd => ?b) fun ds d hl h => ?_
  case b =>
    refine' (pssd_cons (psd_if (ptd_cmp od_gt (PD.pb (pd_bin od_mod (pb_var 0) pbi)) pbi) (pssd_one (psd_ret (pd_bin od_sub (PD.pb (pd_bin od_mod (PD.pb (pd_bin od_fdiv (pb_var 0) pbi)) pbi)) pbi))) pssd_nil)
      (pssd_one (psd_ret (pd_bin od_add (PD.pb (pd_bin od_sub (PD.pb (pd_bin od_mod (PD.pb (pd_bin od_mul (PD.pb (pd_bin od_fdiv (pb_var 0) pbi)) (PD.pb (pd_bin od_add (PD.pb (pd_bin od_add (PD.pb (pd_bin od_mul pbi (PD.pb (pd_bin od_pow pbi pbi)))) (PD.pb (pd_bin od_mul pbi (PD.pb (pd_bin od_pow pbi pbi)))))) pbi)))) (PD.pb (pd_bin od_sub (PD.pb (pd_bin od_mul pbi (PD.pb (pd_bin od_pow pbi pbi)))) pbi)))) (PD.pb (pd_bin od_pow pbi pbi)))) pbi))))
  replace h := itD_ok h; obtain ⟨c, ds, rfl, h⟩ := h
  replace h := nlD_ok h; obtain ⟨rfl, h⟩ := h
  replace h := cnd_ok h; obtain ⟨hz, rfl⟩ := h
  have m3 : modR (.int c) (.int 3) = .ok (.int (c.fmod 3)) := modR_int (by decide)
  have d3 : fdivR (.int c) (.int 3) = .ok (.int (c.fdiv 3)) := fdivR_int (by decide)
  unfold n40
  by_cases h0 : 0 < c.fmod 3
  · rw [if_pos h0]
    exact ret_done (x_tt (bnd (x := D.bl true) (bnd m3 (gt_i true (decide_eq_true h0))) rfl) (bnd (bnd (bnd d3 (modR_int (a := c.fdiv 3) (b := 41) (by decide))) rfl) rfl))
  · rw [if_neg h0]
    refine ret_step (no_if (bnd (x := D.bl false) (bnd m3 (gt_i false (decide_eq_false h0))) rfl)) (ret_end ?_)
    have e1 : powR (.int 10) (.int 39) = .ok (.int 1000000000000000000000000000000000000000) := rfl
    have e2 : powR (.int 10) (.int 19) = .ok (.int 10000000000000000000) := rfl
    have e3 : powR (.int 10) (.int 40) = .ok (.int P40) := rfl
    have e4 : mulR (.int 7) (.int 1000000000000000000000000000000000000000) = .ok (.int 7000000000000000000000000000000000000000) := mulR_int (by decide +kernel)
    have e5 : mulR (.int 982451653) (.int 10000000000000000000) = .ok (.int 9824516530000000000000000000) := mulR_int (by decide +kernel)
    have e6 : mulR (.int 2) (.int P40) = .ok (.int 20000000000000000000000000000000000000000) := mulR_int (by decide +kernel)
    have e7 : mulR (.int (c.fdiv 3)) (.int (7000000000000000000000000000000000000000 + 9824516530000000000000000000 + 48271)) = .ok (.int (c.fdiv 3 * (7000000000000000000000000000000000000000 + 9824516530000000000000000000 + 48271))) := mulR_int (MulSz.of (bits_fdiv hz) (show bits (7000000000000000000000000000000000000000 + 9824516530000000000000000000 + 48271) ≤ 400 by decide +kernel))
    have e8 : ∀ x : Int, modR (.int x) (.int (20000000000000000000000000000000000000000 - 1)) = .ok (.int (x.fmod (20000000000000000000000000000000000000000 - 1))) := fun x => modR_int (by decide +kernel)
    exact bnd (bnd (bnd (bnd d3 (bnd (bnd (bnd (bnd rfl (bnd e1 e4)) (bnd (bnd rfl (bnd e2 e5)) rfl)) rfl) e7)) (bnd (bnd (bnd rfl (bnd e3 e6)) rfl) (e8 _))) (bnd e3 rfl)) rfl
section
seal PySem.eval
theorem c__law_points (c__law_number : Cal P w K mg base 1 "_law_number" 1 m_n40) (c__law_cell : Cal P w K mg base 1 "_law_cell" 2 m_cell11) (b_range : mg "range" = none) (b_max : mg "max" = none) (b_min : mg "min" = none) (b_len : mg "len" = none) (g : Def K mg "_law_points" s__law_points) : Cal P w K mg base 2 "_law_points" 1 m_lpts := by
  refine' cal_def (k := 1) (F := _) g sc__law_points (fun hr hu hu1 nd => ?b) fun ds d hl h => ?_
  case b =>
    refine' (pssd_cons (psd_own 1 (pf_lst pad_nil) nd)
      (pssd_cons (psd_for PassesOwn.never rfl (pid_range (pab_cons pbi (pab_cons (PD.pb (pd_callB (cd_max2 rfl) (pab_cons pbi (pab_cons (PD.pb (pd_bin od_sub (PD.pb (pd_callB (cd_min2 rfl) (pab_cons (PD.pb (pcb cd_len (pb_var 0))) (pab_cons pbi pab_nil)))) pbi)) pab_nil)))) (pab_cons pbi pab_nil)))) (pgd_name 2 nd) (pssd_cons (psd_asg (pd_comp ["j"] ["script", "k"] [0, 2] rfl (compSc (sc := defScope s__law_points) (N := N__law_points)) (pid_range (pab_cons pbi pab_nil)) (hx1 fun _ _ _ _ _ => (pc1 c__law_number hr (pc2 c__law_cell hr (pd_var 1) (pd_bin od_add (pb_var 2) (pb_var 0))))) (fun _ => weak_name0)) (pgd_tup (n := 3) rfl (pgsd_cons (pgd_name 3 nd) (pgsd_cons (pgd_name 4 nd) (pgsd_cons (pgd_name 5 nd) pgsd_nil)))))
      (pssd_one (psd_append 1 (pt3 (pd_var 3) (pd_var 4) (pd_var 5))))))
      (pssd_cons (psd_set 6 (pd_bin od_mod (PD.pb (pc2 c__law_cell hr (pd_var 0) pd_int)) pbi) nd)
      (pssd_cons (psd_if (ptd_cmp od_lt (pb_var 6) pbi) (pssd_one (psd_dis 1 (psd_own 1 (pf_comp ["k"] ["points"] [1] rfl (compSc (sc := defScope s__law_points) (N := N__law_points)) (pid_range (pab_cons (PD.pb (pd_bin od_add pbi (pb_var 6))) pab_nil)) (hx1 fun _ _ _ _ _ => (pd_ix (pb_var 1) (pd_bin od_mod (pb_var 0) (PD.pb (pcb cd_len (pb_var 1)))))) (fun _ => weak_name0)) nd))) pssd_nil)
      (pssd_one (psd_dis 1 (psd_ret (pd_var 1))))))))
  replace h := lsD_ok h; obtain ⟨xs, ds, rfl, h⟩ := h
  replace h := nlD_ok h; obtain ⟨rfl, h⟩ := h
  replace h := cnd_ok h; obtain ⟨hi, rfl⟩ := h
  refine ret_step (ρ := [.v (.lst xs), .o [], .no, .no, .no, .no, .no]) rfl ?_
  refine r_bn (x := (List.range (hiX xs / 3)).map fun (j : Nat) => D.int ((2 + 3 * j : Nat) : Int)) (bnd (consx rfl (consx (bnd (consx rfl (consx (bnd (bnd (consx (bnd (consx rfl rfl) rfl) (consx rfl rfl)) rfl) rfl) rfl)) (mx_ok xs)) (consx rfl rfl))) (rngX xs)) ?_
  refine ret_left (fun rest ρ => ∃ (acc : List T3) (ks : List Nat) (a b c d : Sl), ρ = [.v (.lst xs), .o (acc.map tripD), a, b, c, d, .no] ∧ rest = ks.map (fun (j : Nat) => D.int ((2 + 3 * j : Nat) : Int)) ∧ (∀ j ∈ ks, j < 20) ∧ acc ++ ks.map (fun j => ptX xs (2 + 3 * j)) = ptsW xs) ?_ ⟨[], _, _, _, _, _, rfl, rfl, fun j hj => by have := List.mem_range.mp hj; have := hiX_le xs; omega, rfl⟩ ?_
  · rintro d ds ρ ⟨acc, ks, a1, b1, c1, d1, rfl, e1, e2, e3⟩
    cases ks with
    | nil => cases e1
    | cons j ks =>
      injection e1 with e5 e6
      subst e5 e6
      have hj := e2 j List.mem_cons_self
      have hn : ∀ i : Nat, i < 3 → m_cell11 [.lst xs, .int (((2 + 3 * j : Nat) : Int) + (i : Int))] = .ok (.int (c11 xs (2 + 3 * j + i))) ∧ m_n40 [.int (c11 xs (2 + 3 * j + i))] = .ok (.int (n40 (c11 xs (2 + 3 * j + i)))) := fun i hi3 => by
        rw [← Int.natCast_add]
        have := c11_ok hi (2 + 3 * j + i) (by omega)
        exact ⟨this.1, n40_ok this.2⟩
      have al : acc.length < 1000 := by
        have := congrArg List.length e3
        rw [List.length_append] at this
        have := ptsW_len xs
        omega
      refine x_nm rfl (x_step (ρ := [.v (.lst xs), .o (acc.map tripD), .v (.int ((2 + 3 * j : Nat) : Int)), .v (.int (ptX xs (2 + 3 * j)).1), .v (.int (ptX xs (2 + 3 * j)).2.1), .v (.int (ptX xs (2 + 3 * j)).2.2), .no]) (bnd (x := D.lst (([0, 1, 2].map fun i => n40 (c11 xs (2 + 3 * j + i))).map D.int)) (bnd (x := [0, 1, 2].map fun (i : Nat) => D.int (i : Int)) rfl (comp_if (fun (i : Nat) => D.int (i : Int)) D.int (fun i => n40 (c11 xs (2 + 3 * j + i))) [0, 1, 2] (by decide) fun i h3 => ⟨_, rfl, bnd (consx (bnd (consx rfl (consx rfl rfl)) (hn i (by simp at h3; omega)).1) rfl) (hn i (by simp at h3; omega)).2⟩)) rfl) ⟨_, bnd (bnd (consx rfl (consx rfl (consx rfl rfl))) rfl) (app_t (t := ptX xs (2 + 3 * j)) rfl al), acc ++ [ptX xs (2 + 3 * j)], ks, _, _, _, _, rfl, rfl, fun i hi => e2 i (List.mem_cons_of_mem _ hi), ?_⟩)
      rw [← e3]
      simp
  · rintro ρ ⟨acc, ks, a1, b1, c1, d1, rfl, e1, _, e3⟩
    have : ks = [] := by simpa using e1.symm
    subst this
    rw [List.map_nil, List.append_nil] at e3
    subst e3
    have pl := ptsW_len xs
    refine ret_step (bnd (bnd (bnd (consx rfl (consx rfl rfl)) (c11_ok hi 0 (by decide)).1) (mod_many xs)) rfl) ?_
    unfold ptsX
    by_cases hm : manyX xs < 2
    · rw [if_pos hm]
      have rg : rngR [.int (40 + (manyX xs : Int))] = .ok ((List.range (40 + manyX xs)).map fun (k : Nat) => D.int (k : Int)) := nat_rng (n := 40 + manyX xs) (by omega)
      refine ret_step (ρ := [.v (.lst xs), .o (((List.range (40 + manyX xs)).map fun k => ((ptsW xs)[k % (ptsW xs).length]?).getD (0, 0, 0)).map tripD), a1, b1, c1, d1, .v (.int (manyX xs : Int))]) (x_tt (bnd (x := D.bl true) (lt_n (k := 2) true (decide_eq_true hm)) rfl) (bnd (bnd (bnd (consx rfl rfl) rg) (comp_i0 (fun (k : Nat) => D.int (k : Int)) tripD (fun k => ((ptsW xs)[k % (ptsW xs).length]?).getD (0, 0, 0)) (List.range (40 + manyX xs)) (by rw [List.length_range]; omega) fun k hk => ⟨_, rfl, bnd rfl (bnd (bnd rfl (bnd (bnd (consx rfl rfl) (len_l _)) (by rw [List.length_map]; exact mod_nat (by omega)))) (ix_t (Nat.mod_lt _ (by omega))))⟩)) rfl)) (ret_end rfl)
    · rw [if_neg hm]
      exact ret_step (no_if (bnd (x := D.bl false) (lt_n (k := 2) false (decide_eq_false hm)) rfl)) (ret_end rfl)
end
theorem c__law_changed (c__law_sign : Cal P w K mg base 1 "_law_sign" 1 m_sign) (b_len : mg "len" = none) (g : Def K mg "_law_changed" s__law_changed) : Cal P w K mg base 2 "_law_changed" 2 m_chg := by
  refine' cal_def (k := 1) (F := _) g sc__law_changed (fun hr hu hu1 nd => ?b) fun ds d hl h => ?_
  case b =>
    refine' (pssd_cons (psd_set 2 (pd_bin od_mod (pb_var 1) pbi) nd)
      (pssd_cons (psd_set 1 (pd_bin od_fdiv (pb_var 1) pbi) nd)
      (pssd_cons (psd_set 3 (pd_bin od_mod (pb_var 1) (PD.pb (pcb cd_len (pb_var 0)))) nd)
      (pssd_cons (psd_set 4 (pc1 c__law_sign hr (pd_bin od_fdiv (pb_var 1) (PD.pb (pcb cd_len (pb_var 0))))) nd)
      (pssd_cons (psd_if (ptd_cmp (od_eq hu) (pb_var 2) pbi) (pssd_one (psd_ret (pd_bin od_add (PD.pb (pd_bin od_add (PD.pb (pd_sl (pb_var 0) pto_none (pto_some (pd_var 3)))) (pb_var 4))) (PD.pb (pd_sl (pb_var 0) (pto_some (pd_var 3)) pto_none))))) pssd_nil)
      (pssd_cons (psd_if (ptd_cmp (od_eq hu) (pb_var 2) pbi) (pssd_one (psd_ret (pd_bin od_add (PD.pb (pd_sl (pb_var 0) pto_none (pto_some (pd_var 3)))) (PD.pb (pd_sl (pb_var 0) (pto_some (pd_bin od_add (pb_var 3) pbi)) pto_none))))) pssd_nil)
      (pssd_cons (psd_if (ptd_cmp (od_eq hu) (pb_var 2) pbi) (pssd_one (psd_ret (pd_bin od_add (PD.pb (pd_bin od_add (PD.pb (pd_sl (pb_var 0) pto_none (pto_some (pd_var 3)))) (pb_var 4))) (PD.pb (pd_sl (pb_var 0) (pto_some (pd_bin od_add (pb_var 3) pbi)) pto_none))))) pssd_nil)
      (pssd_cons (psd_repl 2 0)
      (pssd_cons (psd_if (ptd_cmp (od_eq hu) (pb_var 2) pbi) (pssd_one (psd_ret (pd_ix (PD.pb (pd_lst (pad_cons (pd_bin od_add (PD.pb pd_str) (pb_var 0)) (pad_cons (pd_bin od_add (pb_var 0) (PD.pb pd_str)) pad_nil)))) (pd_bin od_mod (pb_var 1) pbi)))) pssd_nil)
      (pssd_cons (psd_if (ptd_cmp (od_eq hu) (pb_var 2) pbi) (pssd_one (psd_ret (pd_bin od_add (pb_var 0) (PD.pb (pd_ix (PD.pb (pd_lst (pad_cons pd_str (pad_cons pd_str (pad_cons pd_str pad_nil))))) (pd_bin od_mod (pb_var 1) pbi)))))) pssd_nil)
      (pssd_cons (psd_if (ptd_cmp (od_eq hu) (pb_var 2) pbi) (pssd_one (psd_ret (pd_bin od_add (PD.pb (pd_ix (PD.pb (pd_lst (pad_cons pd_str (pad_cons pd_str (pad_cons pd_str (pad_cons pd_str pad_nil)))))) (pd_bin od_mod (pb_var 1) pbi))) (pb_var 0)))) pssd_nil)
      (pssd_one (psd_ret (pd_var 0))))))))))))))
  replace h := asD_ok h; obtain ⟨x, ds, rfl, h⟩ := h
  replace h := itD_ok h; obtain ⟨c, ds, rfl, h⟩ := h
  replace h := nlD_ok h; obtain ⟨rfl, h⟩ := h
  replace h := cnd_ok h; obtain ⟨⟨h1, h2⟩, rfl⟩ := h
  have hz : x.length ≤ sizeLine := by rw [sizeLine_eq]; omega
  have m16 : modR (.int c) (.int 16) = .ok (.int (c.fmod 16)) := modR_int (by decide)
  have d16 : fdivR (.int c) (.int 16) = .ok (.int (c.fdiv 16)) := fdivR_int (by decide)
  refine ret_step (bnd m16 rfl) (ret_step (bnd d16 rfl) ?_)
  have ml : modR (.int (c.fdiv 16)) (.int (x.length : Int)) = .ok (.int ((c.fdiv 16).fmod (x.length : Int))) := modR_int (by omega)
  have dl : fdivR (.int (c.fdiv 16)) (.int (x.length : Int)) = .ok (.int ((c.fdiv 16).fdiv (x.length : Int))) := fdivR_int ⟨by omega, bits_mono' (bits_of_abs (n := 60) (by omega) (by omega)) (by decide)⟩
  refine ret_step (bnd (bnd rfl (bnd (bnd (consx rfl rfl) (len_s hz)) ml)) rfl) ?_
  refine ret_step (bnd (bnd (consx (bnd rfl (bnd (bnd (consx rfl rfl) (len_s hz)) dl)) rfl) rfl) rfl) ?_
  unfold chS
  have eq : ∀ k : Int, eqR (.int (c.fmod 16)) (.int k) = .ok (.bl (decide (c.fmod 16 = k))) := fun k => eq_iI _ _
  generalize c.fmod 16 = w at *
  generalize c.fdiv 16 = e at *
  generalize hp : e.fmod (x.length : Int) = p at *
  generalize e.fdiv (x.length : Int) = q at *
  have sl : ∀ a b, (Txt.slice x a b).length ≤ x.length := fun a b => Txt.slice_le x a b
  have s1 := sg1_len q
  by_cases k1 : w = 1
  · rw [if_pos k1]
    have := sl none (some p); have := sl (some p) none
    exact ret_done (x_tt (bnd (x := D.bl true) ((eq 1).trans (by rw [decide_eq_true k1])) rfl) (bnd (bnd (bnd (bnd rfl (bnd rfl (bnd (x := some p) rfl (sl_ss (by omega))))) (bnd rfl (add_ss (by omega)))) (bnd (bnd rfl (bnd (x := some p) rfl (bnd rfl (sl_ss (by omega))))) (add_ss (by rw [Str.length_append]; omega)))) rfl))
  rw [if_neg k1]
  refine ret_step (no_if (bnd (x := D.bl false) ((eq 1).trans (by rw [decide_eq_false k1])) rfl)) ?_
  by_cases k2 : w = 2
  · rw [if_pos k2]
    have := sl none (some p); have := sl (some (p + 1)) none
    exact ret_done (x_tt (bnd (x := D.bl true) ((eq 2).trans (by rw [decide_eq_true k2])) rfl) (bnd (bnd (bnd rfl (bnd rfl (bnd (x := some p) rfl (sl_ss (by omega))))) (bnd (bnd rfl (bnd (x := some (p + 1)) rfl (bnd rfl (sl_ss (by omega))))) (add_ss (by omega)))) rfl))
  rw [if_neg k2]
  refine ret_step (no_if (bnd (x := D.bl false) ((eq 2).trans (by rw [decide_eq_false k2])) rfl)) ?_
  by_cases k3 : w = 3
  · rw [if_pos k3]
    have := sl none (some p); have := sl (some (p + 1)) none
    exact ret_done (x_tt (bnd (x := D.bl true) ((eq 3).trans (by rw [decide_eq_true k3])) rfl) (bnd (bnd (bnd (bnd rfl (bnd rfl (bnd (x := some p) rfl (sl_ss (by omega))))) (bnd rfl (add_ss (by omega)))) (bnd (bnd rfl (bnd (x := some (p + 1)) rfl (bnd rfl (sl_ss (by omega))))) (add_ss (by rw [Str.length_append]; omega)))) rfl))
  rw [if_neg k3]
  refine ret_step (no_if (bnd (x := D.bl false) ((eq 3).trans (by rw [decide_eq_false k3])) rfl)) ?_
  by_cases k4 : w = 4
  · rw [if_pos k4]
    exact ret_done ((if_pos k4).trans (if_pos (by omega)))
  rw [if_neg k4]
  refine ret_step (if_neg k4) ?_
  by_cases k5 : w = 5
  · rw [if_pos k5]
    have r := fmod_range (a := e) (b := 2) (by decide)
    have z : (" " : Str).length = 1 := rfl
    exact ret_done (x_tt (bnd (x := D.bl true) ((eq 5).trans (by rw [decide_eq_true k5])) rfl) (bnd (bnd (x := D.lst ([" " ++ x, x ++ " "].map D.str)) (bnd (consx (bnd rfl (bnd rfl (add_ss (by omega)))) (consx (bnd rfl (bnd rfl (add_ss (by omega)))) rfl)) rfl) (bnd (modR_int (a := e) (b := 2) (by decide)) (pk_ok r.1 (by show _ < (2 : Int); omega)))) rfl))
  rw [if_neg k5]
  refine ret_step (no_if (bnd (x := D.bl false) ((eq 5).trans (by rw [decide_eq_false k5])) rfl)) ?_
  by_cases k6 : w = 6
  · rw [if_pos k6]
    have r := fmod_range (a := e) (b := 3) (by decide)
    have z := pk_len (l := [",", ",5", "1234"]) (k := e.fmod 3) (n := 4) (by decide)
    exact ret_done (x_tt (bnd (x := D.bl true) ((eq 6).trans (by rw [decide_eq_true k6])) rfl) (bnd (bnd rfl (bnd (bnd (x := D.lst (([",", ",5", "1234"] : List Str).map D.str)) rfl (bnd (modR_int (a := e) (b := 3) (by decide)) (pk_ok r.1 (by show _ < (3 : Int); omega)))) (add_ss (by omega)))) rfl))
  rw [if_neg k6]
  refine ret_step (no_if (bnd (x := D.bl false) ((eq 6).trans (by rw [decide_eq_false k6])) rfl)) ?_
  by_cases k7 : w = 7
  · rw [if_pos k7]
    have r := fmod_range (a := e) (b := 4) (by decide)
    have z := pk_len (l := ["0", "-", "+", "00"]) (k := e.fmod 4) (n := 4) (by decide)
    exact ret_done (x_tt (bnd (x := D.bl true) ((eq 7).trans (by rw [decide_eq_true k7])) rfl) (bnd (bnd (bnd (x := D.lst ((["0", "-", "+", "00"] : List Str).map D.str)) rfl (bnd (modR_int (a := e) (b := 4) (by decide)) (pk_ok r.1 (by show _ < (4 : Int); omega)))) (bnd rfl (add_ss (by omega)))) rfl))
  rw [if_neg k7]
  exact ret_step (no_if (bnd (x := D.bl false) ((eq 7).trans (by rw [decide_eq_false k7])) rfl)) (ret_end rfl)
theorem c__law_value (b_int : mg "int" = none) (b_len : mg "len" = none) (g : Def K mg "_law_value" s__law_value) : Cal P w K mg base 1 "_law_value" 1 m_val := by
  refine' cal_def (k := 0) (F := _) g sc__law_value (fun hr hu hu1 nd => ?b) fun ds d hl h => ?_
  case b =>
    refine' (pssd_cons (psd_set 1 (pd_sl (pb_var 0) (pto_some (pd_callTy cd_int (pab_cons (PD.pb (pd_cmp (od_eq hu) (PD.pb (pd_sl (pb_var 0) pto_none (pto_some pd_int))) (PD.pb pd_str))) pab_nil))) pto_none) nd)
      (pssd_cons (psd_if (PWD.pt (pwd_or (ptd_cmp od_lt (PD.pb (pcb cd_len (pb_var 1))) pbi) (pwd_or1 (ptd_cmp od_gt (PD.pb (pcb cd_len (pb_var 1))) pbi)))) (pssd_one (psd_ret pd_non)) pssd_nil)
      (pssd_cons (psd_set 2 pd_int nd)
      (pssd_cons (psd_for PassesOwn.never rfl (pid_str (pd_var 1)) (pgd_name 3 nd) (pssd_cons (psd_if (ptd_cmp od_lt (PD.pb (pd_bmS PySem.F.slot_str_find PySem.F.type_str_find mt_find pd_str (pad_cons (pd_var 3) pad_nil))) pbi) (pssd_one (psd_ret pd_non)) pssd_nil)
      (pssd_one (psd_set 2 (pd_bin od_add (PD.pb (pd_bin od_mul pbi (pb_var 2))) (PD.pb (pd_bmS PySem.F.slot_str_find PySem.F.type_str_find mt_find pd_str (pad_cons (pd_var 3) pad_nil)))) nd))))
      (pssd_cons (psd_if (PWD.pt (pwd_and (ptd_cmp (od_eq hu) (PD.pb (pd_ix (pb_var 1) pd_int)) (PD.pb pd_str)) (pwd_and1 (PWD.pt (pwd_or (ptd_cmp od_gt (PD.pb (pcb cd_len (pb_var 1))) pbi) (pwd_or1 (ptd_cmp (od_ne hu) (pb_var 0) (pb_var 1)))))))) (pssd_one (psd_ret pd_non)) pssd_nil)
      (pssd_cons (psd_if (ptd_cmp (od_ne hu) (pb_var 0) (pb_var 1)) (pssd_one (psd_ret (pd_neg (pd_var 2)))) pssd_nil)
      (pssd_one (psd_ret (pd_var 2)))))))))
  replace h := asD_ok h; obtain ⟨x, ds, rfl, h⟩ := h
  replace h := nlD_ok h; obtain ⟨rfl, h⟩ := h
  replace h := cnd_ok h; obtain ⟨hx, rfl⟩ := h
  have hz : x.length ≤ sizeLine := by rw [sizeLine_eq]; omega
  have hf : (figS x).length ≤ sizeLine := by unfold figS; split; exact Nat.le_trans (Txt.slice_le x _ _) hz; exact hz
  refine ret_step (ρ := [.v (.str x), .v (.str (figS x)), .no, .no]) (bnd (x := D.str (figS x)) (bnd rfl (bnd (x := some (if (Txt.slice x none (some 1) == ("-" : Str)) = true then 1 else 0)) ?_ (bnd rfl ((if_pos hz).trans (congrArg (fun y => R.ok (D.str y)) (fig_law x)))))) rfl) ?_
  · exact bnd (x := D.int (if (Txt.slice x none (some 1) == ("-" : Str)) = true then 1 else 0)) (bnd (consx (bnd (x := D.str (Txt.slice x none (some 1))) (bnd rfl (bnd rfl (bnd (x := some 1) rfl (if_pos hz)))) (bnd rfl rfl)) rfl) rfl) rfl
  cases hb : (decide ((figS x).length < 1) || decide (40 < (figS x).length)) with
  | true =>
    have e : goodS x = false := by
      unfold goodS
      rcases Bool.or_eq_true_iff.mp hb with z | z
      · have z := of_decide_eq_true z
        rw [decide_eq_false (by omega)]; rfl
      · have z := of_decide_eq_true z
        rw [decide_eq_false (p := (figS x).length ≤ 40) (by omega), Bool.and_false]; rfl
    have en : numD x = .non := by unfold numD; rw [e]; rfl
    rw [en]
    exact r_bn (x := true) ((or_bb (bnd (x := D.bl (decide ((figS x).length < 1))) (bnd (bnd (consx rfl rfl) (len_s hf)) (bnd rfl (lt_n (k := 1) _ rfl))) rfl) (bnd (x := D.bl (decide (40 < (figS x).length))) (bnd (bnd (consx rfl rfl) (len_s hf)) (bnd rfl (gt_n (k := 40) _ rfl))) rfl)).trans (congrArg R.ok hb)) rfl
  | false =>
    refine ret_step (no_if ((or_bb (bnd (x := D.bl (decide ((figS x).length < 1))) (bnd (bnd (consx rfl rfl) (len_s hf)) (bnd rfl (lt_n (k := 1) _ rfl))) rfl) (bnd (x := D.bl (decide (40 < (figS x).length))) (bnd (bnd (consx rfl rfl) (len_s hf)) (bnd rfl (gt_n (k := 40) _ rfl))) rfl)).trans (congrArg R.ok hb))) ?_
    refine ret_step rfl ?_
    refine r_bn (x := (figS x).cps.toList.map fun c => D.str ⟨#[c]⟩) rfl ?_
    have hl1 : 1 ≤ (figS x).length ∧ (figS x).length ≤ 40 := by
      have z := Bool.or_eq_false_iff.mp hb
      have z1 := of_decide_eq_false z.1
      have z2 := of_decide_eq_false z.2
      omega
    obtain ⟨c0, hc0⟩ : ∃ c, (figS x).cps.toList.head? = some c := by
      have : 1 ≤ (figS x).cps.toList.length := by rw [Array.length_toList]; exact hl1.1
      generalize (figS x).cps.toList = l at this
      cases l with
      | nil => simp at this
      | cons c l => exact ⟨c, rfl⟩
    refine (val_loop (z := fun n => .ok (if (c0 == 48 && (decide (1 < (figS x).length) || decide (x ≠ figS x))) = true then .non else if decide (x ≠ figS x) = true then .int (-((n : Nat) : Int)) else .int ((n : Nat) : Int))) ?_ ?_ ?_ (figS x).cps.toList 0 .no (by rw [Array.length_toList]; show (figS x).length ≤ 60; omega) (Nat.pow_pos (by decide))).trans ?_
    · intro c n s q
      refine ⟨_, rfl, t_bn (x := true) (bnd (x := D.bl true) (bnd (bnd rfl (on_s (bnd (consx rfl rfl) (find_fig c)))) (bnd rfl (lt_i true (by rw [q]; rfl)))) rfl) rfl⟩
    · intro c n s hn q
      refine ⟨_, rfl, t_step (no_if (bnd (x := D.bl false) (bnd (bnd rfl (on_s (bnd (consx rfl rfl) (find_fig c)))) (bnd rfl (lt_i false (by rw [q, if_pos rfl]; exact decide_eq_false (by omega))))) rfl)) (bnd (x := D.int ((n * 10 + (c - 48) : Nat) : Int)) (bnd (bnd rfl (bnd rfl (ten_n hn))) (bnd (bnd rfl (on_s (bnd (consx rfl rfl) (find_fig c)))) ?_)) rfl)⟩
      rw [q, if_pos rfl]
      show R.ok (D.int (10 * (n : Int) + ((c - 48 : Nat) : Int))) = _
      congr 2
      omega
    · intro n s
      generalize hcnd : (c0 == 48 && (decide (1 < (figS x).length) || decide (x ≠ figS x))) = cnd
      cases cnd with
      | true =>
        rw [if_pos rfl]
        exact r_bn (x := true) ((and_bb (bnd (x := D.bl (c0 == 48)) (bnd (bnd rfl (bnd rfl (ix0 hf hc0))) (bnd rfl (eq_s0 c0))) rfl) (or_bb (bnd (x := D.bl (decide (1 < (figS x).length))) (bnd (bnd (consx rfl rfl) (len_s hf)) (bnd rfl (gt_n (k := 1) _ rfl))) rfl) (bnd (x := D.bl (decide (x ≠ figS x))) (bnd rfl (bnd rfl (ne_ss x (figS x)))) rfl))).trans (congrArg R.ok hcnd)) rfl
      | false =>
        rw [if_neg Bool.false_ne_true]
        refine ret_step (no_if ((and_bb (bnd (x := D.bl (c0 == 48)) (bnd (bnd rfl (bnd rfl (ix0 hf hc0))) (bnd rfl (eq_s0 c0))) rfl) (or_bb (bnd (x := D.bl (decide (1 < (figS x).length))) (bnd (bnd (consx rfl rfl) (len_s hf)) (bnd rfl (gt_n (k := 1) _ rfl))) rfl) (bnd (x := D.bl (decide (x ≠ figS x))) (bnd rfl (bnd rfl (ne_ss x (figS x)))) rfl))).trans (congrArg R.ok hcnd))) ?_
        cases hne : decide (x ≠ figS x) with
        | true => exact r_bn (x := true) (bnd (x := D.bl true) (bnd rfl (bnd rfl ((ne_ss x (figS x)).trans (by rw [hne])))) rfl) rfl
        | false => exact ret_step (no_if (bnd (x := D.bl false) (bnd rfl (bnd rfl ((ne_ss x (figS x)).trans (by rw [hne])))) rfl)) (ret_end rfl)
    · cases hd : (figS x).cps.toList.all dg with
      | true => rw [if_pos rfl, num_end hl1.1 hl1.2 hd hc0]; rfl
      | false =>
        have e : goodS x = false := by unfold goodS; rw [hd, Bool.and_false]; rfl
        have en : numD x = .non := by unfold numD; rw [e]; rfl
        rw [if_neg Bool.false_ne_true, en]
theorem c__law_spot (c__law_value : Cal P w K mg base 1 "_law_value" 1 m_val) (b_len : mg "len" = none) (g : Def K mg "_law_spot" s__law_spot) : Cal P w K mg base 2 "_law_spot" 1 m_spot := by
  refine' cal_def (k := 1) (F := _) g sc__law_spot (fun hr hu hu1 nd => ?b) fun ds d hl h => ?_
  case b =>
    refine' (pssd_cons (psd_comp 1 ["part"] [] [] nd rfl (compSc (sc := defScope s__law_spot) (N := N__law_spot)) (pid_list (pd_bmS PySem.F.slot_str_split PySem.F.type_str_split mt_split (pd_var 0) (pad_cons pd_str pad_nil))) (hx1 fun _ _ _ _ _ => (pc1 c__law_value hr (pd_var 0))) (fun _ => weak_name0))
      (pssd_cons (psd_if (PWD.pt (pwd_or (ptd_cmp (od_ne hu) (PD.pb (pcb cd_len (pb_var 1))) pbi) (pwd_or1 (ptd_cmp (od_in hu) (PD.pb pd_non) (pb_var 1))))) (pssd_one (psd_ret pd_non)) pssd_nil)
      (pssd_one (psd_ret (pt3 (pd_ix (pb_var 1) pd_int) (pd_ix (pb_var 1) pd_int) (pd_ix (pb_var 1) pd_int))))))
  replace h := asD_ok h; obtain ⟨x, ds, rfl, h⟩ := h
  replace h := nlD_ok h; obtain ⟨rfl, h⟩ := h
  replace h := cnd_ok h; obtain ⟨hx, rfl⟩ := h
  have sh : ∀ w ∈ Txt.split x ",", w.length ≤ 100000 := fun w hw => Nat.le_trans (PyProof.Rows.part_short hw) (by omega)
  have hl : (Txt.split x ",").length ≤ 30000 := Nat.le_trans split_len' (by omega)
  refine ret_step (ρ := [.v (.str x), .v (.lst ((Txt.split x ",").map numD))]) (bnd (x := D.lst ((Txt.split x ",").map numD)) (bnd (x := (Txt.split x ",").map D.str) (bnd (bnd rfl (on_s (bnd (consx rfl rfl) (split_ok (x := x) rfl (by omega))))) rfl) ((comp_if D.str numD (fun w => w) (Txt.split x ",") hl fun w h => ⟨_, rfl, bnd (consx rfl rfl) (val_ok (sh w h))⟩).trans (by rw [List.map_id']))) rfl) ?_
  have e3 : neR (.int (((Txt.split x ",").map numD).length : Int)) (.int 3) = .ok (.bl (decide (((Txt.split x ",").map numD).length ≠ 3))) := ne_n (k := 3) _ rfl
  generalize hb : (decide (((Txt.split x ",").map numD).length ≠ 3) || !(Txt.split x ",").all goodS) = b
  cases b with
  | true =>
    have e : spotD x = .non := if_neg fun z => by
      rw [List.length_map, z.1, List.all_eq_true.mpr z.2] at hb
      cases hb
    rw [e]
    exact r_bn (x := true) ((or_bb (bnd (x := D.bl (decide (((Txt.split x ",").map numD).length ≠ 3))) (bnd (bnd (consx rfl rfl) (len_l _)) (bnd rfl e3)) rfl) (bnd (x := D.bl (!(Txt.split x ",").all goodS)) (bnd rfl (bnd rfl (in_num _))) rfl)).trans (congrArg R.ok hb)) rfl
  | false =>
    have z := Bool.or_eq_false_iff.mp hb
    have h3 : (Txt.split x ",").length = 3 := by have := of_decide_eq_false z.1; rw [List.length_map] at this; exact Decidable.not_not.mp this
    have ha : (Txt.split x ",").all goodS = true := by have := z.2; simpa using this
    have e : spotD x = ptD x := if_pos ⟨h3, List.all_eq_true.mp ha⟩
    rw [e]
    refine ret_step (no_if ((or_bb (bnd (x := D.bl (decide (((Txt.split x ",").map numD).length ≠ 3))) (bnd (bnd (consx rfl rfl) (len_l _)) (bnd rfl e3)) rfl) (bnd (x := D.bl (!(Txt.split x ",").all goodS)) (bnd rfl (bnd rfl (in_num _))) rfl)).trans (congrArg R.ok hb))) ?_
    unfold ptD
    generalize Txt.split x "," = ws at h3 ha
    match ws, h3, ha with
    | [a, b, c], _, ha =>
      simp only [List.all_cons, List.all_nil, Bool.and_true, Bool.and_eq_true] at ha
      show retR _ = R.ok (D.tup [.int (valS a), .int (valS b), .int (valS c)])
      rw [← num_good ha.1, ← num_good ha.2.1, ← num_good ha.2.2]
      exact ret_end rfl
theorem c__law_refused (b_isinstance : mg "isinstance" = none) (b_ValueError : mg "ValueError" = none) (cx_read_number : CalX P w K mg base 2 "read_number" 1 (x_num c_NoText)) (cx_read_point : CalX P w K mg base 3 "read_point" 1 (x_pt c_NoText)) (cx_read_points : CalX P w K mg base 4 "read_points" 1 (x_pts c_NoText)) (x_BodyError : XCls K mg c_BodyError "BodyError" c_BodyError) (x_NoText : XCls K mg c_BodyError "NoText" c_NoText) (k_NoName : mg "NoName" = some (.ref c_NoName)) (k_NoRow : mg "NoRow" = some (.ref c_NoRow)) (k_NoPoints : mg "NoPoints" = some (.ref c_NoPoints)) (k_NoText : mg "NoText" = some (.ref c_NoText)) (i_NoText_ValueError : PySem.W.kitOne K (.ref c_NoText) (.type "ValueError") = some true) (i_NoText_NoName : PySem.W.kitOne K (.ref c_NoText) (.ref c_NoName) = some false) (i_NoText_NoRow : PySem.W.kitOne K (.ref c_NoText) (.ref c_NoRow) = some false) (i_NoText_NoPoints : PySem.W.kitOne K (.ref c_NoText) (.ref c_NoPoints) = some false) (i_NoText_NoText : PySem.W.kitOne K (.ref c_NoText) (.ref c_NoText) = some true) (g : Def K mg "_law_refused" s__law_refused) : Cal P w K mg base 5 "_law_refused" 2 m_rfs := by
  refine' cal_def (k := 4) (F := _) g sc__law_refused (fun hr hu hu1 nd => ?b) fun ds d hl h => ?_
  case b =>
    refine' (pssd_cons (psd_set 2 (pd_lst pad_nil) nd)
      (pssd_cons (psd_set 3 pd_bl nd)
      (pssd_cons (psd_try 4 (okIs c_NoText) nd rfl rfl rfl (okIs_ok x_NoText) x_BodyError.ex (by decide) x_BodyError.nm pssd_never (by exact (psc_seq (ptd_cmp (od_eq hu) (pb_var 0) pbi) (psc_expr (pec_cal cx_read_number (hr.mono (by decide)) (pad_cons (pd_var 1) pad_nil) (lenR_cons lenR_nil))) (psc_seq (ptd_cmp (od_eq hu) (pb_var 0) pbi) (psc_expr (pec_cal cx_read_point (hr.mono (by decide)) (pad_cons (pd_var 1) pad_nil) (lenR_cons lenR_nil))) (psc_if (ptd_cmp (od_eq hu) (pb_var 0) pbi) (psc_expr (pec_cal cx_read_points (hr.mono (by decide)) (pad_cons (pd_var 1) pad_nil) (lenR_cons lenR_nil))) psc_never)))) (by intro _; exact (pssd_cons (psd_set 3 (pd_isxT (K := K) (i := 4) (T := "ValueError") (by decide +kernel) b_ValueError b_isinstance) nd)
      (pssd_one (psd_set 2 (pd_lst (pad_cons (pd_isxO (K := K) (i := 4) k_NoText b_isinstance) (pad_cons (pd_isxO (K := K) (i := 4) k_NoPoints b_isinstance) (pad_cons (pd_isxO (K := K) (i := 4) k_NoRow b_isinstance) (pad_cons (pd_isxO (K := K) (i := 4) k_NoName b_isinstance) pad_nil))))) nd)))))
      (pssd_one (psd_ret (pd_and (pd_var 3) (pd_one (pd_cmp (od_eq hu) (pb_var 2) (PD.pb (pd_lst (pad_cons pd_bl (pad_cons pd_bl (pad_cons pd_bl (pad_cons pd_bl pad_nil))))))))))))))
  match ds, h with
  | [.int w, d'], h =>
    simp only [m_rfs] at h
    split at h
    · rename_i hz
      rw [← h]
      have oF := x_NoText.ok
      have ok1 : okIs c_NoText (.ref c_NoText) = true := by simp [okIs]
      rcases bad_way hz with rfl | rfl | rfl
      · have e1 := xnum_t (c := c_NoText) hz
        simp [startD, tryR, mX, e1, ok1, exI, oF, i_NoText_ValueError, i_NoText_NoName, i_NoText_NoRow, i_NoText_NoPoints, i_NoText_NoText, unset, ifX]
        rfl
      · have e1 := xpt_t (c := c_NoText) hz
        simp [startD, tryR, mX, e1, ok1, exI, oF, i_NoText_ValueError, i_NoText_NoName, i_NoText_NoRow, i_NoText_NoPoints, i_NoText_NoText, unset, ifX]
        rfl
      · have e1 := xpts_t (c := c_NoText) hz
        simp [startD, tryR, mX, e1, ok1, exI, oF, i_NoText_ValueError, i_NoText_NoName, i_NoText_NoRow, i_NoText_NoPoints, i_NoText_NoText, unset, ifX]
        rfl
    · cases h
theorem c__law_is_point (c__law_whole : Cal P w K mg base 1 "_law_whole" 1 m_law_whole) (b_len : mg "len" = none) (b_isinstance : mg "isinstance" = none) (b_tuple : mg "tuple" = none) (g : Def K mg "_law_is_point" s__law_is_point) : Cal P w K mg base 2 "_law_is_point" 2 m_isp := by
  refine' cal_def (k := 1) (F := _) g sc__law_is_point (fun hr hu hu1 nd => ?b) fun ds d hl h => ?_
  case b =>
    refine' (pssd_one (psd_ret (pd_and (pd_isa isa_tuple (pb_var 0)) (pd_and (pd_cmp (od_eq hu) (pb_var 0) (pb_var 1)) (pd_one (pd_cmp (od_eq hu) (PD.pb (pcb cd_len (PD.pb (pd_comp ["x"] [] [] rfl (compSc (sc := defScope s__law_is_point) (N := N__law_is_point)) (pid_tup (pd_var 0)) (hxt fun _ _ _ _ _ => ⟨(ptd_val (pc1 c__law_whole hr (pd_var 0))), (pd_var 0)⟩) (fun _ => weak_name0))))) pbi))))))
  replace h := asD_ok h; obtain ⟨t, ds, rfl, h⟩ := h
  replace h := asD_ok h; obtain ⟨u, ds, rfl, h⟩ := h
  replace h := nlD_ok h; obtain ⟨rfl, h⟩ := h
  replace h := cnd_ok h; obtain ⟨rfl, rfl⟩ := h
  refine ret_end ?_
  have ee : eqR (tripD t) (tripD t) = .ok (.bl true) := by
    show (if dep (tripD t) ≤ 40 ∧ dep (tripD t) ≤ 40 then R.ok (D.bl (eqD (tripD t) (tripD t))) else .bad) = _
    rw [if_pos ⟨(show (1 : Nat) ≤ 40 by decide), (show (1 : Nat) ≤ 40 by decide)⟩]
    simp [tripD, eqD, eqDs]
  exact and_v rfl (and_v (bnd rfl (bnd rfl ee)) rfl)
theorem c__law_words (c__law_value : Cal P w K mg base 1 "_law_value" 1 m_val) (c__law_refused : Cal P w K mg base 5 "_law_refused" 2 m_rfs) (c_read_number : Cal P w K mg base 2 "read_number" 1 m_num) (c__law_whole : Cal P w K mg base 1 "_law_whole" 1 m_law_whole) (c__law_spot : Cal P w K mg base 2 "_law_spot" 1 m_spot) (c__law_is_point : Cal P w K mg base 2 "_law_is_point" 2 m_isp) (c_read_point : Cal P w K mg base 3 "read_point" 1 m_pt) (g : Def K mg "_law_words" s__law_words) : Cal P w K mg base 6 "_law_words" 1 m_wds := by
  refine' cal_def (k := 5) (F := _) g sc__law_words (fun hr hu hu1 nd => ?b) fun ds d hl h => ?_
  case b =>
    refine' (pssd_cons (psd_for PassesOwn.never rfl (pid_list (pd_bin od_add (PD.pb (pd_bmS PySem.F.slot_str_split PySem.F.type_str_split mt_split (pd_ix (pb_var 0) pd_int) (pad_cons pd_str pad_nil))) (PD.pb (pd_lst (pad_cons (pd_ix (pb_var 0) pd_int) pad_nil))))) (pgd_name 1 nd) (pssd_cons (psd_set 2 (pc1 c__law_value hr (pd_var 1)) nd)
      (pssd_one (psd_if (ptd_cmp od_isN (pb_var 2) (PD.pb pd_non)) (pssd_one (psd_if (ptd_not (ptd_val (pc2 c__law_refused hr pd_int (pd_var 1)))) (pssd_one (psd_ret pd_bl)) pssd_nil)) (pssd_one (psd_if (PWD.pt (pwd_or (ptd_not (ptd_val (pc1 c__law_whole hr (pc1 c_read_number hr (pd_var 1))))) (pwd_or1 (ptd_cmp (od_ne hu) (PD.pb (pc1 c_read_number hr (pd_var 1))) (pb_var 2))))) (pssd_one (psd_ret pd_bl)) pssd_nil))))))
      (pssd_cons (psd_for PassesOwn.never rfl (pid_list (pd_bin od_add (PD.pb (pd_sl (pb_var 0) pto_none (pto_some pd_int))) (PD.pb (pd_sl (pb_var 0) (pto_some (pd_neg pd_int)) pto_none)))) (pgd_name 3 nd) (pssd_cons (psd_set 2 (pc1 c__law_spot hr (pd_var 3)) nd)
      (pssd_one (psd_if (ptd_cmp od_isN (pb_var 2) (PD.pb pd_non)) (pssd_one (psd_if (ptd_not (ptd_val (pc2 c__law_refused hr pd_int (pd_var 3)))) (pssd_one (psd_ret pd_bl)) pssd_nil)) (pssd_one (psd_if (ptd_not (ptd_val (pc2 c__law_is_point hr (pc1 c_read_point hr (pd_var 3)) (pd_var 2)))) (pssd_one (psd_ret pd_bl)) pssd_nil))))))
      (pssd_one (psd_ret pd_bl))))
  replace h := asD_ok h; obtain ⟨ws, ds, rfl, h⟩ := h
  replace h := nlD_ok h; obtain ⟨rfl, h⟩ := h
  replace h := cnd_ok h; obtain ⟨⟨h0, h1, h2⟩, rfl⟩ := h
  obtain ⟨w0, wr, rfl⟩ : ∃ w r, ws = w :: r := by
    cases ws with
    | nil => exact absurd rfl h0
    | cons w r => exact ⟨w, r, rfl⟩
  have l0 := h2 w0 List.mem_cons_self
  have sh : ∀ p ∈ Txt.split w0 "," ++ [w0], p.length ≤ 20000 := fun p hp => by
    rcases List.mem_append.mp hp with z | z
    · exact Nat.le_trans (PyProof.Rows.part_short z) l0
    · rw [List.mem_singleton.mp z]; exact l0
  have ls : (Txt.split w0 ",").length ≤ 20002 := Nat.le_trans split_len' (by omega)
  refine r_bn (x := (Txt.split w0 "," ++ [w0]).map D.str) ?_ ?_
  · refine bnd (x := D.lst ((Txt.split w0 "," ++ [w0]).map D.str)) (bnd (bnd (bnd rfl (bnd rfl (ix_w _ _))) (on_s (bnd (consx rfl rfl) (split_ok (x := w0) rfl (by omega))))) (bnd (bnd (consx (bnd rfl (bnd rfl (ix_w _ _))) rfl) rfl) ?_)) rfl
    rw [List.map_append]
    exact if_pos (by rw [List.length_map, sizeLine_eq]; show _ + 1 ≤ _; omega)
  refine r_goes D.str (fun ρ => ∃ a b c, ρ = [.v (.lst ((w0 :: wr).map D.str)), a, b, c]) (Txt.split w0 "," ++ [w0]) ⟨_, _, _, rfl⟩ ?_ ?_
  · rintro p hp ρ ⟨a, b, c, rfl⟩
    have lp := sh p hp
    refine ⟨[.v (.lst ((w0 :: wr).map D.str)), .v (.str p), .v (numD p), c], t_step (ρ := [.v (.lst ((w0 :: wr).map D.str)), .v (.str p), .v (numD p), c]) (bnd (x := numD p) (bnd (consx rfl rfl) (val_ok (by omega))) rfl) ?_, ⟨_, _, _, rfl⟩⟩
    cases hg : goodS p with
    | true =>
      rw [num_good hg]
      refine (no_if (bnd (x := D.bl false) rfl rfl)).trans (no_if ((or_bb (bnd (x := true) (bnd (x := D.bl true) (bnd (consx (bnd (consx rfl rfl) (numS_ok (by omega) hg)) rfl) rfl) rfl) rfl) (by exact bnd (x := D.bl false) (bnd (x := D.int (valS p)) (bnd (consx rfl rfl) (numS_ok (by omega) hg)) (bnd (x := D.int (valS p)) rfl (ne_ii _))) rfl)).trans rfl))
    | false =>
      have en : numD p = .non := by unfold numD; rw [hg]; rfl
      rw [en]
      exact (yes_if (bnd (x := D.bl true) rfl rfl)).trans (no_if (bnd (x := true) (bnd (x := D.bl true) (bnd (consx rfl (consx rfl rfl)) (rfs_ok ⟨by omega, .inl ⟨rfl, hg⟩⟩)) rfl) rfl))
  · rintro ρ ⟨a, b, c, rfl⟩
    refine r_bn (x := (cutS (w0 :: wr) none (some 4) ++ cutS (w0 :: wr) (some (-1)) none).map D.str) ?_ ?_
    · refine bnd (x := D.lst ((cutS (w0 :: wr) none (some 4) ++ cutS (w0 :: wr) (some (-1)) none).map D.str)) (bnd (bnd rfl (bnd (x := (none : Option Int)) rfl (bnd (x := some 4) rfl (cut_map _ _ _)))) (bnd (bnd rfl (bnd (x := some (-1)) rfl (bnd (x := (none : Option Int)) rfl (cut_map _ _ _)))) ?_)) rfl
      rw [List.map_append]
      refine if_pos ?_
      have z1 := cut_len (w0 :: wr) none (some 4)
      have z2 := cut_len (w0 :: wr) (some (-1)) none
      rw [List.length_map, List.length_map, sizeLine_eq]
      omega
    refine r_goes D.str (fun ρ => ∃ a b c, ρ = [.v (.lst ((w0 :: wr).map D.str)), a, b, c]) (cutS (w0 :: wr) none (some 4) ++ cutS (w0 :: wr) (some (-1)) none) ⟨_, _, _, rfl⟩ ?_ ?_
    · rintro p hp ρ ⟨a, b, c, rfl⟩
      have lp : p.length ≤ 20000 := h2 p (by rcases List.mem_append.mp hp with z | z; exact cut_mem z; exact cut_mem z)
      refine ⟨[.v (.lst ((w0 :: wr).map D.str)), a, .v (spotD p), .v (.str p)], t_step (ρ := [.v (.lst ((w0 :: wr).map D.str)), a, .v (spotD p), .v (.str p)]) (bnd (x := spotD p) (bnd (consx rfl rfl) (spot_ok lp)) rfl) ?_, ⟨_, _, _, rfl⟩⟩
      by_cases hg : okP p
      · obtain ⟨t, et⟩ := pt_trip hg
        have es : spotD p = tripD t := (if_pos hg).trans et
        have ep : m_pt [.str p] = .ok (tripD t) := (pt_ok (by omega) hg).trans (by rw [et])
        rw [es]
        exact (no_if (bnd (x := D.bl false) rfl rfl)).trans (no_if (bnd (x := true) (bnd (x := D.bl true) (bnd (consx (bnd (consx rfl rfl) ep) (consx rfl rfl)) (isp_ok t)) rfl) rfl))
      · have en : spotD p = .non := if_neg hg
        rw [en]
        exact (yes_if (bnd (x := D.bl true) rfl rfl)).trans (no_if (bnd (x := true) (bnd (x := D.bl true) (bnd (consx rfl (consx rfl rfl)) (rfs_ok ⟨by omega, .inr (.inl ⟨rfl, hg⟩)⟩)) rfl) rfl))
    · rintro ρ ⟨a, b, c, rfl⟩
      exact ret_end rfl
section
seal PySem.eval
theorem o_law {f : Addr} {fd : FuncData} (c__law_points : Cal P w K mg base 2 "_law_points" 1 m_lpts) (c_show_points : Cal P w K mg base 2 "show_points" 1 m_shp) (c__law_changed : Cal P w K mg base 2 "_law_changed" 2 m_chg) (c__law_cell : Cal P w K mg base 1 "_law_cell" 2 m_cell11) (c__law_refused : Cal P w K mg base 5 "_law_refused" 2 m_rfs) (c__law_spot : Cal P w K mg base 2 "_law_spot" 1 m_spot) (c__law_words : Cal P w K mg base 6 "_law_words" 1 m_wds) (c__law_is_point : Cal P w K mg base 2 "_law_is_point" 2 m_isp) (c_read_points : Cal P w K mg base 4 "read_points" 1 m_pts) (cn_read_points : CalN P w K mg base 4 "read_points" 1 m_pts) (b_str : mg "str" = none) (b_list : mg "list" = none) (b_len : mg "len" = none) (b_range : mg "range" = none) (b_isinstance : mg "isinstance" = none) (F0 : Fun K "law" "law" s_law f fd) : FnOk P w K mg base CX0 7 f fd ["script"] (spD K 1 m_law81) := by
  refine' fnD (k := 6) (F := _) F0 sc_law (fun cdv A outer s H E hr => ?b) fun ds d hl h => ?_
  case b =>
    have hu := hr.units
    have hu1 := hr.u130
    have nd := sc_law.nd
    refine' (pssd_cons (psd_set 1 (pc1 c__law_points hr (pd_var 0)) nd)
      (pssd_cons (psd_set 2 (pd_join (pd_comp ["p"] [] [] rfl (compSc (sc := defScope s_law) (N := N_law)) (pid_list (pd_var 1)) (hx1 fun _ _ _ _ _ => (pd_join (pd_comp ["x"] [] [] rfl compScK (pid_tup (pd_var 0)) (hx1 fun _ _ _ _ _ => (pd_callTy cd_str (pab_cons (pb_var 0) pab_nil))) (fun _ => weak_name0)))) (fun _ => weak_name0))) nd)
      (pssd_cons (psd_if (PWD.pt (pwd_and (ptd_cmp od_le (PD.pb (pcb cd_len (pb_var 1))) pbi) (pwd_and1 (ptd_cmp (od_ne hu) (PD.pb (pc1 c_show_points hr (pd_callTy cd_list (pab_cons (pb_var 1) pab_nil)))) (pb_var 2))))) (pssd_one (psd_ret pd_bl)) pssd_nil)
      (pssd_cons (psd_set 2 (pc2 c__law_changed hr (pd_var 2) (pd_bin od_mod (PD.pb (pc2 c__law_cell hr (pd_var 0) pd_int)) (PD.pb (pd_bin od_pow pbi pbi)))) nd)
      (pssd_cons (psd_for PassesOwn.never rfl (pid_list (pd_lst (pad_cons pd_non (pad_cons (pd_var 1) (pad_cons (pd_tup (pad_cons pd_str pad_nil)) (pad_cons pd_int (pad_cons pd_str (pad_cons pd_str (pad_cons pd_bl pad_nil))))))))) (pgd_name 3 nd) (pssd_one (psd_for PassesOwn.never rfl (pid_range (pab_cons pbi pab_nil)) (pgd_name 4 nd) (pssd_one (psd_if (ptd_not (ptd_val (pc2 c__law_refused hr (pd_var 4) (pd_var 3)))) (pssd_one (psd_ret pd_bl)) pssd_nil)))))
      (pssd_cons (psd_set 5 (pd_bmS PySem.F.slot_str_split PySem.F.type_str_split mt_split (pd_var 2) (pad_cons pd_str pad_nil)) nd)
      (pssd_cons (psd_comp 6 ["word"] [] [] nd rfl (compSc (sc := defScope s_law) (N := N_law)) (pid_list (pd_var 5)) (hx1 fun _ _ _ _ _ => (pc1 c__law_spot hr (pd_var 0))) (fun _ => weak_name0))
      (pssd_cons (psd_if (ptd_not (ptd_val (pc1 c__law_words hr (pd_var 5)))) (pssd_one (psd_ret pd_bl)) pssd_nil)
      (pssd_cons (psd_if (PWD.pt (pwd_or (ptd_cmp (od_in hu) (PD.pb pd_non) (pb_var 6)) (pwd_or1 (ptd_cmp od_gt (PD.pb (pcb cd_len (pb_var 6))) pbi)))) (pssd_one (psd_ret (pc2 c__law_refused hr pd_int (pd_var 2)))) pssd_nil)
      (pssd_cons (psd_own 7 (pf_cal cn_read_points (hr.mono (by decide)) (pad_cons (pd_var 2) pad_nil) (lenR_cons lenR_nil)) nd)
      (pssd_cons (psd_if (PWD.pt (pwd_or (ptd_not (ptd_val (pd_isa isa_list (pb_var 7)))) (pwd_or1 (ptd_cmp (od_ne hu) (PD.pb (pcb cd_len (pb_var 7))) (PD.pb (pcb cd_len (pb_var 6))))))) (pssd_one (psd_ret pd_bl)) pssd_nil)
      (pssd_cons (psd_for PassesOwn.never rfl (pid_range (pab_cons (PD.pb (pcb cd_len (pb_var 6))) pab_nil)) (pgd_name 8 nd) (pssd_one (psd_if (ptd_not (ptd_val (pc2 c__law_is_point hr (pd_ix (pb_var 7) (pd_var 8)) (pd_ix (pb_var 6) (pd_var 8))))) (pssd_one (psd_ret pd_bl)) pssd_nil)))
      (pssd_cons (psd_append 7 (pt3 pd_int pd_int pd_int))
      (pssd_one (psd_ret (pd_cmp (od_eq hu) (PD.pb (pc1 c_read_points hr (pd_var 2))) (pb_var 6)))))))))))))))))
  replace h := lsD_ok h; obtain ⟨xs, ds, rfl, h⟩ := h
  replace h := nlD_ok h; obtain ⟨rfl, h⟩ := h
  replace h := cnd_ok h; obtain ⟨hi, rfl⟩ := h
  have pl := ptsX_len xs
  have ps : ∀ t ∈ ptsX xs, Sm t := fun t ht => ptsX_sm ht
  refine ret_step (bnd (bnd (consx rfl rfl) (lpts_ok hi)) rfl) ?_
  generalize ptsX xs = pts at *
  have tl := txL_len ps pl.1 pl.2
  refine ret_step (ρ := [.v (.lst xs), .v (.lst (pts.map tripD)), .v (.str (txL pts)), .no, .no, .no, .no, .no, .no]) (bnd (x := D.str (txL pts)) (bnd (x := D.lst (((pts.map tr3).map comS).map D.str)) (bnd (x := pts.map tripD) rfl ((comp_if tripD D.str (fun t => comS (tr3 t)) pts (by omega) fun t ht => ⟨_, rfl, bnd (x := D.lst (((tr3 t).map tx).map D.str)) (bnd (x := (tr3 t).map D.int) rfl (comp_if D.int D.str tx (tr3 t) (show 3 ≤ 30000 by decide) fun i hi => ⟨_, rfl, bnd (consx rfl rfl) (if_pos (str_ok (ps t ht) hi))⟩)) (join_ok (by decide) (tr_okL (ps t ht)).2.2)⟩).trans (by rw [txt_eq]))) (join_ok (by decide) (com_fit ps pl.2))) rfl) ?_
  have hn : neR (.str (txL pts)) (.str (txL pts)) = .ok (.bl false) := (ne_ss _ _).trans (by simp)
  refine ret_step (no_if ((and_bb (a := decide (((pts.map tripD).length : Int) ≤ 40)) (b := false) (by exact bnd (x := D.bl (decide (((pts.map tripD).length : Int) ≤ 40))) (bnd (bnd (consx rfl rfl) (len_l _)) rfl) rfl) (by exact bnd (x := D.bl false) (bnd (x := D.str (txL pts)) (bnd (consx (bnd (consx rfl rfl) rfl) rfl) (shp_ok ps pl.2)) (bnd rfl hn)) rfl)).trans (by rw [Bool.and_false]))) ?_
  have m30 : modR (.int (c11 xs 1)) (.int 1000000000000000000000000000000) = .ok (.int ((c11 xs 1).fmod 1000000000000000000000000000000)) := modR_int (by decide)
  have p30 : powR (.int 10) (.int 30) = .ok (.int 1000000000000000000000000000000) := rfl
  refine ret_step (bnd (bnd (consx rfl (consx (bnd (bnd (consx rfl (consx rfl rfl)) (c11_ok hi 1 (by decide)).1) (bnd p30 m30)) rfl)) (chg_ok tl)) rfl) ?_
  have yl := chS_len (txL pts) ((c11 xs 1).fmod 1000000000000000000000000000000) tl.2
  generalize chS (txL pts) ((c11 xs 1).fmod 1000000000000000000000000000000) = y at yl
  clear hn m30 p30
  refine r_bn (x := [D.non, .lst (pts.map tripD), .tup [.str "0,0,0"], .int 7, .str "", .str " ", .bl true]) rfl ?_
  refine ret_goes (fun ρ => ∃ a b, ρ = [.v (.lst xs), .v (.lst (pts.map tripD)), .v (.str y), a, b, .no, .no, .no, .no]) ?_ ⟨_, _, rfl⟩ ?_
  · rintro d hd ρ ⟨a, b, rfl⟩
    have bd : ∀ w : Int, (w = 0 ∨ w = 1 ∨ w = 2) → badT w d := fun w hw => by
      simp only [List.mem_cons, List.not_mem_nil, or_false] at hd
      rcases hd with rfl | rfl | rfl | rfl | rfl | rfl | rfl
      · exact hw
      · exact hw
      · exact hw
      · exact hw
      · exact bad_empty w hw
      · exact bad_blank w hw
      · exact hw
    refine x_nm rfl ?_
    refine x_goez (fun ρ => ∃ b, ρ = [.v (.lst xs), .v (.lst (pts.map tripD)), .v (.str y), .v d, b, .no, .no, .no, .no]) (l := [D.int 0, .int 1, .int 2]) rfl ?_ ⟨_, rfl⟩ (fun ρ' ⟨b, e⟩ => ⟨_, _, e⟩)
    rintro w hw ρ ⟨b, rfl⟩
    obtain ⟨v, rfl, hv⟩ : ∃ i : Int, w = .int i ∧ (i = 0 ∨ i = 1 ∨ i = 2) := by
      simp only [List.mem_cons, List.not_mem_nil, or_false] at hw
      rcases hw with rfl | rfl | rfl
      · exact ⟨_, rfl, .inl rfl⟩
      · exact ⟨_, rfl, .inr (.inl rfl)⟩
      · exact ⟨_, rfl, .inr (.inr rfl)⟩
    exact x_nm rfl ⟨_, no_if (bnd (x := true) (bnd (x := D.bl true) (bnd (consx rfl (consx rfl rfl)) (rfs_ok (bd v hv))) rfl) rfl), _, rfl⟩
  · rintro ρ ⟨a, b, rfl⟩
    have sh : ∀ w ∈ Txt.split y " ", w.length ≤ 20000 := fun w hw => Nat.le_trans (PyProof.Rows.part_short hw) yl
    have sl : (Txt.split y " ").length ≤ 20002 := Nat.le_trans split_len' (by omega)
    have s0 : Txt.split y " " ≠ [] := split_ne rfl
    refine ret_step (ρ := [.v (.lst xs), .v (.lst (pts.map tripD)), .v (.str y), a, b, .v (.lst ((Txt.split y " ").map D.str)), .no, .no, .no]) (bnd (x := D.lst ((Txt.split y " ").map D.str)) (bnd rfl (on_s (bnd (consx rfl rfl) (split_ok (x := y) rfl (by omega))))) rfl) ?_
    have okE : okPs y ↔ (Txt.split y " ").length ≤ 40 ∧ ((Txt.split y " ").all fun w => decide (okP w)) = true := by
      unfold okPs
      rw [List.all_eq_true]
      exact and_congr_right' ⟨fun h w hw => decide_eq_true (h w hw), fun h w hw => of_decide_eq_true (h w hw)⟩
    have rd : okPs y → m_pts [.str y] = .ok (.lst ((Txt.split y " ").map ptD)) := fun h => ptsS_ok (by omega) h
    have rb : ¬ okPs y → m_rfs [.int 2, .str y] = .ok (.bl true) := fun h => rfs_ok ⟨by omega, .inr (.inr ⟨rfl, h⟩)⟩
    generalize Txt.split y " " = ws at *
    refine ret_step (ρ := [.v (.lst xs), .v (.lst (pts.map tripD)), .v (.str y), a, b, .v (.lst (ws.map D.str)), .v (.lst (ws.map spotD)), .no, .no]) (bnd (x := D.lst (ws.map spotD)) (bnd (x := ws.map D.str) rfl ((comp_if D.str spotD (fun w => w) ws (by omega) fun w h => ⟨_, rfl, bnd (consx rfl rfl) (spot_ok (sh w h))⟩).trans (by rw [List.map_id']))) rfl) ?_
    refine ret_step (no_if (bnd (x := true) (bnd (x := D.bl true) (bnd (consx rfl rfl) (wds_ok s0 sl sh)) rfl) rfl)) ?_
    have tb : orB _ _ _ = R.ok ((!ws.all fun w => decide (okP w)) || decide (40 < (ws.map spotD).length)) := or_bb (f := fun ρ => (((evC .non ρ).bind fun x => (evB 6 ρ).bind fun y => inR false x y).bind toB)) (g := fun ρ => ((((consR (evB 6) nilR ρ).bind lenR).bind fun x => (evC (.int 40) ρ).bind fun y => gtR x y).bind toB)) (ρ := [.v (.lst xs), .v (.lst (pts.map tripD)), .v (.str y), a, b, .v (.lst (ws.map D.str)), .v (.lst (ws.map spotD)), .no, .no]) (bnd (x := D.bl (!ws.all fun w => decide (okP w))) (bnd rfl (bnd rfl (in_spot ws))) rfl) (bnd (x := D.bl (decide (40 < (ws.map spotD).length))) (bnd (bnd (consx rfl rfl) (len_l _)) (bnd rfl (gt_n (k := 40) _ rfl))) rfl)
    rw [List.length_map] at tb
    cases hb : ((!ws.all fun w => decide (okP w)) || decide (40 < ws.length)) with
    | true =>
      have nk : ¬ okPs y := fun z => by
        have z := okE.mp z
        rw [z.2, decide_eq_false (by omega)] at hb
        cases hb
      exact ret_done (x_tt (tb.trans (congrArg R.ok hb)) (bnd (bnd (consx rfl (consx rfl rfl)) (rb nk)) rfl))
    | false =>
      have z := Bool.or_eq_false_iff.mp hb
      have za : (ws.all fun w => decide (okP w)) = true := by have := z.1; simpa using this
      have zl : ws.length ≤ 40 := by have := of_decide_eq_false z.2; omega
      have ok := rd (okE.mpr ⟨zl, za⟩)
      rw [pts_spots za] at ok
      refine ret_step (no_if (tb.trans (congrArg R.ok hb))) ?_
      refine ret_step (ρ := [.v (.lst xs), .v (.lst (pts.map tripD)), .v (.str y), a, b, .v (.lst (ws.map D.str)), .v (.lst (ws.map spotD)), .o (ws.map spotD), .no]) (bnd (x := ws.map spotD) (bnd (consx rfl rfl) (by rw [ok]; rfl)) rfl) ?_
      refine ret_step (no_if ((or_bb (a := false) (b := false) (bnd (x := true) (bnd (x := D.bl true) rfl rfl) rfl) (by exact bnd (x := D.bl false) (bnd (bnd (consx rfl rfl) (len_l _)) (bnd (bnd (consx rfl rfl) (len_l _)) (ne_n false (by simp)))) rfl)).trans rfl)) ?_
      refine r_bn (x := (List.range ws.length).map fun (k : Nat) => D.int (k : Int)) (bnd (consx (bnd (consx rfl rfl) (len_l _)) rfl) (by rw [List.length_map]; exact nat_rng (by omega))) ?_
      refine r_goes (fun (k : Nat) => D.int (k : Int)) (fun ρ => ∃ c, ρ = [.v (.lst xs), .v (.lst (pts.map tripD)), .v (.str y), a, b, .v (.lst (ws.map D.str)), .v (.lst (ws.map spotD)), .o (ws.map spotD), c]) (List.range ws.length) ⟨_, rfl⟩ ?_ ?_
      · rintro k hk ρ ⟨c, rfl⟩
        have hk := List.mem_range.mp hk
        obtain ⟨t, et⟩ := pt_trip (of_decide_eq_true (List.all_eq_true.mp za ws[k] (List.getElem_mem hk)))
        have es : spotD ws[k] = tripD t := (if_pos (of_decide_eq_true (List.all_eq_true.mp za ws[k] (List.getElem_mem hk)))).trans et
        have ei := ix_sp hk
        rw [es] at ei
        exact x_nm rfl ⟨_, no_if (bnd (x := true) (bnd (x := D.bl true) (bnd (consx (bnd rfl (bnd rfl ei)) (consx (bnd rfl (bnd rfl ei)) rfl)) (isp_ok t)) rfl) rfl), _, rfl⟩
      · rintro ρ ⟨c, rfl⟩
        refine ret_step (ρ := [.v (.lst xs), .v (.lst (pts.map tripD)), .v (.str y), a, b, .v (.lst (ws.map D.str)), .v (.lst (ws.map spotD)), .o (ws.map spotD ++ [tripD (0, 0, 0)]), c]) (bnd (x := tripD (0, 0, 0)) rfl (if_pos (by rw [List.length_map, sizeLine_eq]; omega))) ?_
        exact ret_end (bnd (bnd (consx rfl rfl) ok) (bnd rfl (eq_lst ws)))
end
end
end K81

section
namespace K81
open PySem L2 DL M
theorem truth (ns : List Int) (h1 : ns.length ≤ 63) (h2 : ∀ x ∈ ns, Builtin.Int.intBits x ≤ 1048576) : m_law81 [.lst (ns.map D.int)] = .ok (.bl true) := by
  unfold m_law81
  exact if_pos (ints_of h2)
end K81
namespace K81
open PySem L2 DL M
instance tabs0 : DL.Tabs := ⟨[]⟩
theorem all_mk {l : PySem.W.OpenLaw} {w : World} {K : PySem.W.Frag} {h : Heap} {mg : Str → Option Value} {fa f18 : Addr} (X : K.In h) (G : h.Ns mainGlobals mg) (hfa : mg "law" = some (.ref fa))
    (g0 : Got K "is_number" s_is_number)
    (g1 : Got K "refuse_other_than_text" s_refuse_other_than_text)
    (g2 : Got K "read_number" s_read_number)
    (g3 : Got K "read_point" s_read_point)
    (g4 : Got K "read_points" s_read_points)
    (g5 : Got K "show_by_commas" s_show_by_commas)
    (g6 : Got K "show_points" s_show_points)
    (g7 : Got K "_law_cell" s__law_cell)
    (g8 : Got K "_law_whole" s__law_whole)
    (g9 : Got K "_law_sign" s__law_sign)
    (g10 : Got K "_law_number" s__law_number)
    (g11 : Got K "_law_points" s__law_points)
    (g12 : Got K "_law_changed" s__law_changed)
    (g13 : Got K "_law_value" s__law_value)
    (g14 : Got K "_law_spot" s__law_spot)
    (g15 : Got K "_law_refused" s__law_refused)
    (g16 : Got K "_law_is_point" s__law_is_point)
    (g17 : Got K "_law_words" s__law_words)
    {od18 an18 : Option Addr} {sl18 : Array (Option Value)} {oc18 kV18 dc18 pm18 cd18 ct18 : Value}
    (a18 : PySem.W.nsIn K mainGlobals "law" = some (some (.ref f18))) (l18 : K.lookup f18 = some ⟨oc18, od18, .func (PySem.W.fnOf "law" "law" (defArgs s_law) (defBody s_law) (defScope s_law) .none kV18 dc18 pm18 an18 cd18 ct18), sl18⟩) (e18 : PySem.W.codeIn K cd18 "law" = true) (k18 : PySem.W.keepIn K (.ref f18) = true)
    (z_len : PySem.W.nsIn K mainGlobals "len" = some none)
    (z_any : PySem.W.nsIn K mainGlobals "any" = some none)
    (z_isinstance : PySem.W.nsIn K mainGlobals "isinstance" = some none)
    (z_str : PySem.W.nsIn K mainGlobals "str" = some none)
    (z_int : PySem.W.nsIn K mainGlobals "int" = some none)
    (z_tuple : PySem.W.nsIn K mainGlobals "tuple" = some none)
    (z_bool : PySem.W.nsIn K mainGlobals "bool" = some none)
    (z_range : PySem.W.nsIn K mainGlobals "range" = some none)
    (z_max : PySem.W.nsIn K mainGlobals "max" = some none)
    (z_min : PySem.W.nsIn K mainGlobals "min" = some none)
    (z_ValueError : PySem.W.nsIn K mainGlobals "ValueError" = some none)
    (z_list : PySem.W.nsIn K mainGlobals "list" = some none)
    {tk_MOST_FIGURES : Tok} (ca_MOST_FIGURES : PySem.W.nsIn K mainGlobals "MOST_FIGURES" = some (some (.int 40 tk_MOST_FIGURES)))
    {tk_FIGURES : Tok} (ca_FIGURES : PySem.W.nsIn K mainGlobals "FIGURES" = some (some (.str "0123456789" tk_FIGURES)))
    {tk_MOST_POINTS : Tok} (ca_MOST_POINTS : PySem.W.nsIn K mainGlobals "MOST_POINTS" = some (some (.int 40 tk_MOST_POINTS)))
    {c_NoText c_BodyError c_NoName c_NoRow c_NoPoints : Addr} {cd_NoText cd_BodyError : ClassData}
    (n_NoText : PySem.W.nsIn K mainGlobals "NoText" = some (some (.ref c_NoText)))
    (n_BodyError : PySem.W.nsIn K mainGlobals "BodyError" = some (some (.ref c_BodyError)))
    (n_NoName : PySem.W.nsIn K mainGlobals "NoName" = some (some (.ref c_NoName)))
    (n_NoRow : PySem.W.nsIn K mainGlobals "NoRow" = some (some (.ref c_NoRow)))
    (n_NoPoints : PySem.W.nsIn K mainGlobals "NoPoints" = some (some (.ref c_NoPoints)))
    (e_NoText : PySem.W.excIn K c_NoText vBm "ValueError.__new__" = true) (h1_NoText : PySem.W.clsIn K c_NoText = some cd_NoText) (h2_NoText : PySem.W.mroIn K c_NoText (.type "object") = some true) (h3_NoText : PySem.W.mroIn K c_NoText (.type "BaseException") = some true)
    (h4_NoText : PySem.W.findIn K (.ref c_NoText) "__class__" = some (some (.builtin "object.__class__"))) (h5_NoText : PySem.W.findIn K (.ref c_NoText) "__getattribute__" = some (some (.builtin "BaseException.__getattribute__"))) (h6_NoText : PySem.W.findIn K (.ref c_NoText) "__getattr__" = some none) (s_NoText : PySem.W.mroIn K c_NoText (.ref c_BodyError) = some true)
    (e_BodyError : PySem.W.excIn K c_BodyError vBm "ValueError.__new__" = true) (h1_BodyError : PySem.W.clsIn K c_BodyError = some cd_BodyError) (h2_BodyError : PySem.W.mroIn K c_BodyError (.type "object") = some true) (h3_BodyError : PySem.W.mroIn K c_BodyError (.type "BaseException") = some true)
    (h4_BodyError : PySem.W.findIn K (.ref c_BodyError) "__class__" = some (some (.builtin "object.__class__"))) (h5_BodyError : PySem.W.findIn K (.ref c_BodyError) "__getattribute__" = some (some (.builtin "BaseException.__getattribute__"))) (h6_BodyError : PySem.W.findIn K (.ref c_BodyError) "__getattr__" = some none) (s_BodyError : PySem.W.mroIn K c_BodyError (.ref c_BodyError) = some true)
    (i_NoText_ValueError : PySem.W.kitOne K (.ref c_NoText) (.type "ValueError") = some true)
    (i_NoText_NoName : PySem.W.kitOne K (.ref c_NoText) (.ref c_NoName) = some false)
    (i_NoText_NoRow : PySem.W.kitOne K (.ref c_NoText) (.ref c_NoRow) = some false)
    (i_NoText_NoPoints : PySem.W.kitOne K (.ref c_NoText) (.ref c_NoPoints) = some false)
    (i_NoText_NoText : PySem.W.kitOne K (.ref c_NoText) (.ref c_NoText) = some true)
    (truth : ∀ ns : List Int, ns.length ≤ 63 → (∀ x ∈ ns, Builtin.Int.intBits x ≤ 1048576) → m_law81 [.lst (ns.map D.int)] = .ok (.bl true)) :
    ∃ fd : FuncData, (∀ (s : Shared) (v : Value), BindsTo s fd ⟨[v], []⟩ [("script", v)]) ∧ ∀ base : Heap, K.In base → base.Ns mainGlobals mg → FnOk l.prog w K mg base CX0 7 fa fd ["script"] (spLawD K) := by
  have e := hfa.symm.trans (PySem.W.mg_of X G a18)
  cases e
  have b_len := PySem.W.mg_none_of X G z_len
  have b_any := PySem.W.mg_none_of X G z_any
  have b_isinstance := PySem.W.mg_none_of X G z_isinstance
  have b_str := PySem.W.mg_none_of X G z_str
  have b_int := PySem.W.mg_none_of X G z_int
  have b_tuple := PySem.W.mg_none_of X G z_tuple
  have b_bool := PySem.W.mg_none_of X G z_bool
  have b_range := PySem.W.mg_none_of X G z_range
  have b_max := PySem.W.mg_none_of X G z_max
  have b_min := PySem.W.mg_none_of X G z_min
  have b_ValueError := PySem.W.mg_none_of X G z_ValueError
  have b_list := PySem.W.mg_none_of X G z_list
  have k_NoText := PySem.W.mg_of X G n_NoText
  have k_BodyError := PySem.W.mg_of X G n_BodyError
  have k_NoName := PySem.W.mg_of X G n_NoName
  have k_NoRow := PySem.W.mg_of X G n_NoRow
  have k_NoPoints := PySem.W.mg_of X G n_NoPoints
  have t_MOST_FIGURES : CVal mg "MOST_FIGURES" (.int 40) := ⟨_, PySem.W.mg_of X G ca_MOST_FIGURES, _, rfl⟩
  have t_FIGURES : CVal mg "FIGURES" (.str "0123456789") := ⟨_, PySem.W.mg_of X G ca_FIGURES, _, rfl⟩
  have t_MOST_POINTS : CVal mg "MOST_POINTS" (.int 40) := ⟨_, PySem.W.mg_of X G ca_MOST_POINTS, _, rfl⟩
  have x_NoText : XCls K mg c_BodyError "NoText" c_NoText := xcls_mk k_NoText e_NoText h1_NoText h2_NoText h3_NoText h4_NoText h5_NoText h6_NoText s_NoText
  have x_BodyError : XCls K mg c_BodyError "BodyError" c_BodyError := xcls_mk k_BodyError e_BodyError h1_BodyError h2_BodyError h3_BodyError h4_BodyError h5_BodyError h6_BodyError s_BodyError
  refine ⟨PySem.W.fnOf "law" "law" (defArgs s_law) (defBody s_law) (defScope s_law) .none kV18 dc18 pm18 an18 cd18 ct18, fun s v => .of_eq rfl, fun base _ _ => ?_⟩
  have r_is_number : Cal l.prog w K mg base 1 "is_number" 1 m_isn := c_is_number b_len b_any t_MOST_FIGURES t_FIGURES (g0.def X G)
  have r_refuse_other_than_text : Cal l.prog w K mg base 1 "refuse_other_than_text" 1 m_ref := c_refuse_other_than_text b_isinstance b_str (g1.def X G)
  have rx_refuse_other_than_text : CalX l.prog w K mg base 1 "refuse_other_than_text" 1 (x_ref c_NoText) := cx_refuse_other_than_text b_isinstance b_str x_NoText (g1.def X G)
  have r_read_number : Cal l.prog w K mg base 2 "read_number" 1 m_num := c_read_number r_refuse_other_than_text r_is_number b_int (g2.def X G)
  have rx_read_number : CalX l.prog w K mg base 2 "read_number" 1 (x_num c_NoText) := cx_read_number r_refuse_other_than_text r_is_number rx_refuse_other_than_text x_NoText (g2.def X G)
  have r_read_point : Cal l.prog w K mg base 3 "read_point" 1 m_pt := c_read_point r_refuse_other_than_text r_read_number b_len b_tuple (g3.def X G)
  have rx_read_point : CalX l.prog w K mg base 3 "read_point" 1 (x_pt c_NoText) := cx_read_point r_refuse_other_than_text r_read_number b_len b_tuple rx_refuse_other_than_text rx_read_number x_NoText (g3.def X G)
  have rn_read_points : CalN l.prog w K mg base 4 "read_points" 1 m_pts := cn_read_points r_refuse_other_than_text r_read_point b_len t_MOST_POINTS (g4.def X G)
  have r_read_points := rn_read_points.cal
  have rx_read_points : CalX l.prog w K mg base 4 "read_points" 1 (x_pts c_NoText) := cx_read_points r_refuse_other_than_text r_read_point b_len t_MOST_POINTS rx_refuse_other_than_text rx_read_point x_NoText (g4.def X G)
  have r_show_by_commas : Cal l.prog w K mg base 1 "show_by_commas" 1 m_com := c_show_by_commas b_str (g5.def X G)
  have r_show_points := c_show_points r_show_by_commas (g6.def X G)
  have r__law_cell : Cal l.prog w K mg base 1 "_law_cell" 2 m_cell11 := c__law_cell b_len (g7.def X G)
  have r__law_whole : Cal l.prog w K mg base 1 "_law_whole" 1 m_law_whole := c__law_whole b_isinstance b_bool b_int (g8.def X G)
  have r__law_sign : Cal l.prog w K mg base 1 "_law_sign" 1 m_sign := c__law_sign  (g9.def X G)
  have r__law_number : Cal l.prog w K mg base 1 "_law_number" 1 m_n40 := c__law_number  (g10.def X G)
  have r__law_points := c__law_points r__law_number r__law_cell b_range b_max b_min b_len (g11.def X G)
  have r__law_changed := c__law_changed r__law_sign b_len (g12.def X G)
  have r__law_value : Cal l.prog w K mg base 1 "_law_value" 1 m_val := c__law_value b_int b_len (g13.def X G)
  have r__law_spot := c__law_spot r__law_value b_len (g14.def X G)
  have r__law_refused := c__law_refused b_isinstance b_ValueError rx_read_number rx_read_point rx_read_points x_BodyError x_NoText k_NoName k_NoRow k_NoPoints k_NoText i_NoText_ValueError i_NoText_NoName i_NoText_NoRow i_NoText_NoPoints i_NoText_NoText (g15.def X G)
  have r__law_is_point := c__law_is_point r__law_whole b_len b_isinstance b_tuple (g16.def X G)
  have r__law_words := c__law_words r__law_value r__law_refused r_read_number r__law_whole r__law_spot r__law_is_point r_read_point (g17.def X G)
  exact law_of rfl (o_law r__law_points r_show_points r__law_changed r__law_cell r__law_refused r__law_spot r__law_words r__law_is_point r_read_points rn_read_points b_str b_list b_len b_range b_isinstance (fun_mk (st := s_law) l18 e18 k18)) truth
end K81
namespace PySem.W.Fast
def tw17374446532475055135:=0
def tw4540904044668447965:=0
def tw14176084758550796555:=0
def tw17507483641469409183:=0
def tw8702383533472019002:=0
def tw4975980341502826190:=0
def tw1290938390419994443:=0
def tw17996535345075411474:=0
def tw448978452982054733:=0
def tw10118305831644162456:=0
def tw4242702415718275906:=0
def tw11952149959037761077:=0
def tw237487137552572745:=0
def tw4483587687026541207:=0
def tw17241756467229970546:=0
def tw1212184146506162583:=0
def tw8714182620623639678:=0
def tw1358761404333432357:=0
def tw1276120002510218248:=0
def tw18411648447260270576:=0
def tw15034264430571247248:=0
def tw10952506813720148803:=0
def tw41233493045788132:=0
def tw18354466814731960389:=0
def tw10732614160656653912:=0
def tw2509838583080953284:=0
def tw6074973834767162192:=0
def tw7982809214003624106:=0
def tw10319060342241464055:=0
def tw5761621459528732103:=0
def tw14794791609977994623:=0
def tw5874814616503323038:=0
def tw5984274180907723965:=0
def tw5548885572817534744:=0
def tw174879096426987317:=0
def tw15748078711212919639:=0
def tw13314720376079117391:=0
def tw8272978768538508210:=0
def tw7112406464273425566:=0
def tw17969943855370676171:=0
def tw12045583616771189716:=0
def tw17883581005959460660:=0
def tw4753852912502000580:=0
def tw17070927685873300036:=0
def tw8418391704508841888:=0
def tw12062003858482310434:=0
def tw3495776475833208899:=0
def tw14418084260795104198:=0
def tw14853486946751490182:=0
def tw3362960488678220820:=0
def tw5797283001368571602:=0
def tw18139269010552229327:=0
def tw11695070344749137137:=0
def tw17155689298563953804:=0
def tw5096739440621138267:=0
def tw10665556411518364142:=0
def tw9315718672588636274:=0
def tw3751193751962369827:=0
def tw15502075679843559640:=0
def tw14572245601706362254:=0
def tw1958245538039286746:=0
def tw8380187307843617234:=0
def tw12282096780836066697:=0
def tw1558759153936349674:=0
def tw2767160112984037871:=0
def tw14968340813993048878:=0
def tw13095568492032478977:=0
def tw6952817290339424499:=0
def tw11468220162360990078:=0
def tw14322015776704179207:=0
def tw15211241066222129295:=0
def tw17170943391336818600:=0
def tw7955809399752523414:=0
def tw15979322401801591156:=0
def tw10929861836146521862:=0
def tw633787575937970793:=0
def tw2616655173143427268:=0
def tw6125641403596739625:=0
def tw16223523960896880606:=0
def tw4838145589029938011:=0
def tw6348034063439713668:=0
def tw9674681461187719835:=0
def tw12032543190669842484:=0
def tw16771492391339654417:=0
def tw2655180580827354976:=0
def tw10510271591557761615:=0
def tw12649602398366117009:=0
def tw2504289720172114763:=0
def tw12274218623065137584:=0
def tw17106800350056907479:=0
def tw8826199769395708754:=0
def tw11217696490441417211:=0
def tw17130356209966679096:=0
def tw5247319912444827120:=0
def tw11843223899366091615:=0
def tw17486726996672217353:=0
def tw5325563101111971113:=0
def tw2188162087344552034:=0
def tw827768116412373048:=0
def tw4656885657284483733:=0
def tw15989108558651073180:=0
def tw12967774833990311552:=0
def tw12864557597453832286:=0
def tw13059424855677458239:=0
def tw2583494542039932850:=0
def tw5281340916547150617:=0
def tw7184721404139538708:=0
def tw18050087645369224785:=0
def tw10474763544634151154:=0
def tw16772448535361048122:=0
def tw17883652274799515097:=0
def tw3636175113492578893:=0
def tw413327192703557997:=0
def tw621501883149701671:=0
def tw16938587554447843871:=0
def tw8359023520200202673:=0
def tw3995208652153036145:=0
def tw7216751971363263004:=0
def tw14562614656534927887:=0
def tw675270380929632278:=0
def tw2531329336078967370:=0
def tw6270717986872471252:=0
def tw17107413827741105869:=0
def tw7825931155364042156:=0
def tw15129295661399498791:=0
def tw3799802018627363677:=0
def tw16194470176974650515:=0
def tw12464224687486303135:=0
def tw2329717175018033002:=0
def tw6202906428463542405:=0
def tw10909589763362955560:=0
def tw11503617316317356667:=0
def tw13733234926390980592:=0
def tw16429746211763552450:=0
def tw18031033177881786503:=0
def tw17548188367735185513:=0
def tw17406915752158711865:=0
def tw6109735946563456445:=0
def tw14352789348788183060:=0
def tw11507492072116972834:=0
def tw341670389879525865:=0
def tw6033534487406974283:=0
def tw8511372453283948659:=0
def tw5555126909340021852:=0
def tw16557983713687338908:=0
def tw2571082187966673932:=0
def tw10168017441705800714:=0
def tw10199153138543876013:=0
def tw10466840838653998413:=0
def tw10767120408936617108:=0
def tw11793931902418441775:=0
def tw12212423754856389028:=0
def tw12410793306360462658:=0
def tw12642956384916113353:=0
def tw1301391812247419705:=0
end PySem.W.Fast
open PySem PySem.W PyProof.Rows
set_option maxRecDepth 100000 in
theorem PySem.Challenge.cw_stakebodies_k81_points_read_holds : PySem.Challenge.rw_stakebodies_k81_points_read.Holds := by
  w_on; o_law; k_head; (case hw => w_witness2)
  k_fill
  refine DL.walk_D (l := PySem.Challenge.rw_stakebodies_k81_points_read) (k := 7) rfl rfl ⟨rfl, by decide, by decide⟩ (fun w h Y => PySem.W.kIn_of Y) ?F
  case F =>
    intro w mg fa h KX G hmg
    refine' K81.all_mk KX G hmg ?_ ?_ ?_ ?_ ?_ ?_ ?_ ?_ ?_ ?_ ?_ ?_ ?_ ?_ ?_ ?_ ?_ ?_ ?a18 ?l18 ?e18 ?k18 ?z_len ?z_any ?z_isinstance ?z_str ?z_int ?z_tuple ?z_bool ?z_range ?z_max ?z_min ?z_ValueError ?z_list ?ca_MOST_FIGURES ?ca_FIGURES ?ca_MOST_POINTS ?n_NoText ?n_BodyError ?n_NoName ?n_NoRow ?n_NoPoints ?e_NoText ?h1_NoText ?h2_NoText ?h3_NoText ?h4_NoText ?h5_NoText ?h6_NoText ?s_NoText ?e_BodyError ?h1_BodyError ?h2_BodyError ?h3_BodyError ?h4_BodyError ?h5_BodyError ?h6_BodyError ?s_BodyError ?i_NoText_ValueError ?i_NoText_NoName ?i_NoText_NoRow ?i_NoText_NoPoints ?i_NoText_NoText K81.truth
    all_goals first | (refine' DL.got_mk ?a ?l ?c ?k; (case a => k_is); (case l => k_is); (case c => k_is); (case k => k_is)) | k_is | k_exc | kit_is | skip
end


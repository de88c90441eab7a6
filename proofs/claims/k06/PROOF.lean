import PyProof.Rows.All
import Wide.All
import OpenK.AllK
import Wide.FinOn
import Lean
import PyProof.EqAt
import PyProof.EqKinds
import PyProof.TupleCall
import KE.KDictOf
import PyProof.AttrMissSeq
import PyProof.DictCopy
import PyProof.NeKinds
import PyProof.ExcArgsOwn
import PyProof.NsDelKeeps
import PySem.Challenge.RW_momentloom_k06_faults_sorted
-- CHANGE: your row's module here, as the last of these rows
set_option Elab.async false
set_option linter.all false
set_option maxRecDepth 100000
/-! THE HAND LAYER, for ints, bools, texts, own classes, LISTS and tuples (index, slices, in, append, pop ..), calls, loops. Paste it whole ahead of your own text; what your proof does not reach may be deleted. -/
namespace L2
open PySem PySem.Spec PyProof.Rows

/-- a key: an int or a str -/
abbrev Key := Sum Int Str
def keyIs : Key → Value → Bool
  | .inl k, v => Value.isInt k v
  | .inr x, v => Value.isStrOf x v
def keyH (w : World) : Key → Int
  | .inl k => hashInt k
  | .inr x => hashStr w x
theorem keyIs_shape : ∀ {k : Key} {v : Value}, keyIs k v = true → (∃ i t, k = Sum.inl i ∧ v = Value.int i t) ∨ (∃ x t, k = Sum.inr x ∧ v = Value.str x t)
  | .inl i, v, h => by
    obtain ⟨t, e⟩ := Value.isInt_shape (k := i) (v := v) h
    exact .inl ⟨i, t, rfl, e⟩
  | .inr x, v, h => by
    obtain ⟨t, e⟩ := Value.isStrOf_shape (x := x) (v := v) h
    exact .inr ⟨x, t, rfl, e⟩
theorem keyIs_int (i : Int) (t : Tok) : keyIs (.inl i) (.int i t) = true := by simp [keyIs, Value.isInt]
theorem keyIs_str (x : Str) (t : Tok) : keyIs (.inr x) (.str x t) = true := by simp [keyIs, Value.isStrOf]
theorem key_ll (a b : Int) : decide ((Sum.inl a : Key) = Sum.inl b) = (a == b) := by
  by_cases e : a = b
  · subst e; simp
  · have h : ¬ (Sum.inl a : Key) = Sum.inl b := fun q => e (Sum.inl.inj q)
    rw [decide_eq_false h]
    exact (beq_eq_false_iff_ne.mpr e).symm
theorem key_rr (a b : Str) : decide ((Sum.inr a : Key) = Sum.inr b) = decide (a = b) := by
  by_cases e : a = b
  · subst e; simp
  · have h : ¬ (Sum.inr a : Key) = Sum.inr b := fun q => e (Sum.inr.inj q)
    rw [decide_eq_false h, decide_eq_false e]
theorem key_lr (a : Int) (b : Str) : decide ((Sum.inl a : Key) = Sum.inr b) = false := decide_eq_false (fun q => nomatch q)
theorem key_rl (a : Str) (b : Int) : decide ((Sum.inr a : Key) = Sum.inl b) = false := decide_eq_false (fun q => nomatch q)

def mixKind (prog : Program) (w : World) : PySem.KeyKind prog w Key where
  is := keyIs
  hash := keyH w
  inj := fun v a b ha hb => by
    rcases keyIs_shape ha with ⟨i, t, rfl, rfl⟩ | ⟨x, t, rfl, rfl⟩
    · rcases keyIs_shape hb with ⟨j, u, rfl, e⟩ | ⟨y, u, rfl, e⟩
      · injection e with e1 _; rw [e1]
      · exact nomatch e
    · rcases keyIs_shape hb with ⟨j, u, rfl, e⟩ | ⟨y, u, rfl, e⟩
      · exact nomatch e
      · injection e with e1 _; rw [e1]
  byValue := fun k v h => by
    rcases keyIs_shape h with ⟨i, t, rfl, rfl⟩ | ⟨x, t, rfl, rfl⟩ <;> rfl
  pyHash := fun hv h => by
    rcases keyIs_shape hv with ⟨i, t, rfl, rfl⟩ | ⟨x, t, rfl, rfl⟩
    · exact wpAny_pyHash_int h
    · exact wpAny_pyHash_str h
  eqBool := fun hu hv h => by
    rcases keyIs_shape hu with ⟨i, t, rfl, rfl⟩ | ⟨x, t, rfl, rfl⟩
    · rcases keyIs_shape hv with ⟨j, u, rfl, rfl⟩ | ⟨y, u, rfl, rfl⟩
      · rw [key_ll] at h; exact wpAny_eqBool_int h
      · rw [key_lr] at h; exact SeqAt.EqAt.int_str i t y u _ _ _ _ h
    · rcases keyIs_shape hv with ⟨j, u, rfl, rfl⟩ | ⟨y, u, rfl, rfl⟩
      · rw [key_rl] at h; exact SeqAt.EqAt.str_int x t j u _ _ _ _ h
      · rw [key_rr] at h; exact wpAny_eqBool_str h
  «strs» := fun k x t v h => by
    rcases keyIs_shape h with ⟨i, u, rfl, e⟩ | ⟨y, u, rfl, e⟩
    · exact nomatch e
    · injection e with e1 _
      subst e1
      cases v <;> rfl

theorem mixKind_int (prog : Program) (w : World) (i : Int) (t : Tok) : (mixKind prog w).is (.inl i) (.int i t) = true := keyIs_int i t
theorem mixKind_str (prog : Program) (w : World) (x : Str) (t : Tok) : (mixKind prog w).is (.inr x) (.str x t) = true := keyIs_str x t
end L2

namespace L2
open PySem PySem.Spec PyProof.Rows

/-- a value, without the heap -/
inductive V where
  | non | bl (b : Bool) | int (i : Int) | str (x : Str) | byt (b : Array UInt8) | flt (b : UInt64) | ref (a : Addr) | ty (n : String)
  deriving DecidableEq

def RelV : V → Value → Prop
  | .non, u => u = Value.none
  | .bl b, u => u = Value.bool b
  | .int i, u => ∃ t, u = Value.int i t
  | .str x, u => ∃ t, u = Value.str x t
  | .byt b, u => ∃ t, u = Value.bytes b t
  | .flt b, u => ∃ t, u = Value.float b t
  | .ref a, u => u = Value.ref a
  | .ty n, u => u = Value.type n

abbrev Vals : List V → List Value → Prop := Paired RelV
theorem Vals.length {xs : List V} {us : List Value} (r : Vals xs us) : xs.length = us.length := Paired.length r
theorem Vals.get : ∀ {xs : List V} {us : List Value} {i : Nat} {x : V}, Vals xs us → xs[i]? = some x → ∃ u, us[i]? = some u ∧ RelV x u
  | _, _, _, _, .nil, e => by simp at e
  | _, _, 0, _, .cons r _, e => by simp at e; subst e; exact ⟨_, rfl, r⟩
  | _, _, i + 1, x, .cons _ t, e => by
    obtain ⟨u, h1, h2⟩ := Vals.get (i := i) (x := x) t (by simpa using e)
    exact ⟨u, by simpa using h1, h2⟩
theorem Vals.set {x : V} {u : Value} (r : RelV x u) : ∀ {xs : List V} {us : List Value} (i : Nat), Vals xs us → Vals (xs.set i x) (us.set i u)
  | _, _, _, .nil => .nil
  | _, _, 0, .cons _ t => .cons r t
  | _, _, i + 1, .cons q t => .cons q (Vals.set r i t)
theorem Vals.append : ∀ {xs ys : List V} {us ws : List Value}, Vals xs us → Vals ys ws → Vals (xs ++ ys) (us ++ ws)
  | _, _, _, _, .nil, s => s
  | _, _, _, _, .cons r t, s => .cons r (Vals.append t s)
theorem Vals.take : ∀ {xs : List V} {us : List Value} (n : Nat), Vals xs us → Vals (xs.take n) (us.take n)
  | _, _, 0, _ => .nil
  | _, _, _ + 1, .nil => .nil
  | _, _, n + 1, .cons r t => .cons r (Vals.take n t)
theorem Vals.drop : ∀ {xs : List V} {us : List Value} (n : Nat), Vals xs us → Vals (xs.drop n) (us.drop n)
  | _, _, 0, r => r
  | _, _, _ + 1, .nil => .nil
  | _, _, n + 1, .cons _ t => Vals.drop n t
def RelO : Option V → Option Value → Prop
  | some v, some u => RelV v u
  | none, none => True
  | _, _ => False
def KV {κ : Type} : List (κ × V) → List (κ × Value) → Prop := Paired fun (p : κ × V) (q : κ × Value) => p.1 = q.1 ∧ RelV p.2 q.2

/-- a key of a dict (00_mix): an int or a text -/
def kV : Key → V
  | .inl i => .int i
  | .inr x => .str x

/-- what stands at a tracked address -/
inductive HO where
  /-- a list -/
  | lst (xs : List V)
  /-- a tuple (never changes) -/
  | tup (xs : List V)
  /-- a dict whose keys are ints and texts; one whose keys are tuples of ints and texts (the empty one is both) -/
  | dK (kvs : List (Key × V)) | dT (kvs : List (List Key × V))
  /-- a set of ints: its members, its size -/
  | set (S : Int → Bool) (n : Nat)
  /-- an instance of the class at C, its dict at dx, its attributes -/
  | ins (C dx : Addr) (fs : List (Str × V))
  /-- the dict of the instance at x -/
  | own (x : Addr)
  /-- the dict of an exception -/
  | xd (fs : List (Str × V))
  /-- a bound method, f of x -/
  | met (f x : Addr)
  /-- a range object lo, lo + 1, .. below hi -/
  | rng (lo hi : Int)
  /-- a thing that is known to the object (the script; a dict while a loop walks it): read, never written while it is so -/
  | frz (o : Obj) (u : HO)
  /-- a code object's table -/
  | tbl (ps : Array Value)
  /-- any other thing, by what is true of its one object (a def of one's own: SetO a S n := HO.ext fun h => ..) -/
  | ext (φ : Heap → Prop)

abbrev Hp := Addr → Option HO
def upd (H : Hp) (a : Addr) (o : HO) : Hp := fun b => if b = a then some o else H b
theorem upd_same {H : Hp} {a : Addr} {o : HO} : upd H a o a = some o := by unfold upd; rw [if_pos rfl]
theorem upd_ne {H : Hp} {a b : Addr} {o : HO} (h : b ≠ a) : upd H a o b = H b := by unfold upd; rw [if_neg h]
/-- two objects of different content stand apart -/
theorem ne_of {H : Hp} {a b : Addr} {o u : HO} (h : H a = some o) (h' : H b = some u) (d : o ≠ u) : a ≠ b := by
  intro e; subst e; rw [h] at h'; exact d (Option.some.inj h')
theorem ne_of_none {H : Hp} {a b : Addr} {o : HO} (h : H a = some o) (h' : H b = none) : a ≠ b := by
  intro e; subst e; rw [h] at h'; cases h'

section
variable (P : Program) (w : World)
def ObjOk (H : Hp) (h : Heap) (a : Addr) : HO → Prop
  | .lst xs => xs.length ≤ sizeLine ∧ ∃ (its : List Value) (n : Nat), Vals xs its ∧ h.get? a = some { cls := .type "list", data := .seq its.toArray n }
  | .tup xs => xs.length ≤ sizeLine ∧ ∃ its : List Value, Vals xs its ∧ IsTup h a its.toArray
  | .dK kvs => kvs.length ≤ sizeLine ∧ (a == sysModules) = false ∧ ∃ vs, KV kvs vs ∧ h.DictOf (mixKind P w) a vs
  | .dT kvs => kvs.length ≤ sizeLine ∧ (a == sysModules) = false ∧ ∃ xs : List (List Key × Addr × Value),
      Paired (fun (p : List Key × V) (q : List Key × Addr × Value) => p.1 = q.1 ∧ H q.2.1 = some (.tup (p.1.map kV)) ∧ RelV p.2 q.2.2) kvs xs ∧
      ∃ o es ep, h.get? a = some o ∧ o.ExactDict ∧ o.data = .dict es ep ∧ es.toList = xs.map (entryOfKey (tupleKind (mixKind P w))) ∧ (xs.map (·.1)).Nodup
  | .set S n => h.SetOf (intKind P w) a S n
  | .ins C dx fs => H dx = some (.own a) ∧ fs.length ≤ 1000 ∧ dx ≠ a ∧ h.get? a = some (PySem.W.instObj C dx) ∧
      ∃ mA, h.Ns1 dx mA ∧ (∀ f, RelO (fs.lookup f) (mA f)) ∧ PySem.Within mA (fs.map (·.1))
  | .own _ => ∃ o, h.get? a = some o
  | .xd fs => ∃ mA, h.Ns1 a mA ∧ ∀ f, RelO (fs.lookup f) (mA f)
  | .rng lo hi => ∃ t u v, h.get? a = some { cls := .type "range", data := .fields #[.int lo t, .int hi u, .int 1 v] }
  | .frz o u => h.get? a = some o ∧ ObjOk H h a u
  | .tbl ps => h.get? a = some { cls := .none, data := .fields ps }
  | .met f x => h.get? a = some (PySem.W.methodObj (.ref f) (.ref x))
  | .ext φ => φ h ∧ (∃ o, h.get? a = some o) ∧ ∀ h1 h2 : Heap, φ h1 → (∀ o, h1.get? a = some o → h2.get? a = some o) → φ h2
/-- the abstract heap is held -/
def HOk (H : Hp) (h : Heap) : Prop := ∀ a o, H a = some o → ObjOk P w H h a o
end

section
variable {P : Program} {w : World} {H H' : Hp} {h h' : Heap} {a : Addr} {o : HO}
theorem ObjOk.lt (x : ObjOk P w H h a o) : a < h.objs.size := by
  cases o with
  | lst xs => obtain ⟨_, _, _, _, e⟩ := x; exact Heap.lt_size e
  | tup xs => obtain ⟨_, _, _, p⟩ := x; exact p.lt
  | dK kvs => obtain ⟨_, _, _, _, o, _, _, e, _⟩ := x; exact Heap.lt_size e
  | dT kvs => obtain ⟨_, _, _, _, o, _, _, e, _⟩ := x; exact Heap.lt_size e
  | set S n => obtain ⟨o, _, _, _, e, _⟩ := x; exact Heap.lt_size e
  | ins C dx fs => obtain ⟨_, _, _, e, _⟩ := x; exact Heap.lt_size e
  | own y => obtain ⟨_, e⟩ := x; exact Heap.lt_size e
  | xd fs => obtain ⟨_, ⟨_, _, _, e, _⟩, _⟩ := x; exact Heap.lt_size e
  | rng lo hi => obtain ⟨_, _, _, e⟩ := x; exact Heap.lt_size e
  | frz ob u => obtain ⟨e, _⟩ := x; exact Heap.lt_size e
  | tbl ps => exact Heap.lt_size (show h.get? a = some _ from x)
  | met f y => exact Heap.lt_size (show h.get? a = some _ from x)
  | ext φ => obtain ⟨_, ⟨_, e⟩, _⟩ := x; exact Heap.lt_size e
theorem Paired.mapP {α β : Type} {F G : α → β → Prop} : ∀ {l₁ : List α} {l₂ : List β}, Paired F l₁ l₂ → (∀ a b, F a b → G a b) → Paired G l₁ l₂
  | _, _, .nil, _ => .nil
  | _, _, .cons r t, f => .cons (f _ _ r) (Paired.mapP t f)
theorem Paired.imp' {α β : Type} {F G : α → β → Prop} (f : ∀ a b, F a b → G a b) {l₁ : List α} {l₂ : List β} (r : Paired F l₁ l₂) : Paired G l₁ l₂ := Paired.mapP r f
/-- what an object's description leans on: its own object, its own dict, the tuples -/
theorem ObjOk.stay (x : ObjOk P w H h a o) (k : ∀ b u, (b = a ∨ H b = some (.own a)) → h.get? b = some u → h'.get? b = some u)
    (ho : ∀ b, H b = some (.own a) → H' b = some (.own a)) (ht : ∀ b xs, H b = some (.tup xs) → H' b = some (.tup xs)) : ObjOk P w H' h' a o := by
  induction o with
  | lst xs => obtain ⟨z, its, n, r, e⟩ := x; exact ⟨z, its, n, r, k _ _ (.inl rfl) e⟩
  | tup xs => obtain ⟨z, its, r, ob, e, c⟩ := x; exact ⟨z, its, r, ob, k _ _ (.inl rfl) e, c⟩
  | dK kvs => obtain ⟨z, y, vs, r, ob, es, ep, e, c⟩ := x; exact ⟨z, y, vs, r, ob, es, ep, k _ _ (.inl rfl) e, c⟩
  | dT kvs =>
    obtain ⟨z, y, xs, r, ob, es, ep, e, c⟩ := x
    exact ⟨z, y, xs, Paired.mapP r fun p q z => ⟨z.1, ht _ _ z.2.1, z.2.2⟩, ob, es, ep, k _ _ (.inl rfl) e, c⟩
  | set S n => obtain ⟨ob, es, ep, t, e, c⟩ := x; exact ⟨ob, es, ep, t, k _ _ (.inl rfl) e, c⟩
  | ins C dx fs =>
    obtain ⟨d, z, ne, e, mA, ⟨od, es, ep, e2, c⟩, r⟩ := x
    exact ⟨ho _ d, z, ne, k _ _ (.inl rfl) e, mA, ⟨od, es, ep, k _ _ (.inr d) e2, c⟩, r⟩
  | own y => obtain ⟨ob, e⟩ := x; exact ⟨ob, k _ _ (.inl rfl) e⟩
  | xd fs => obtain ⟨mA, ⟨od, es, ep, e, c⟩, r⟩ := x; exact ⟨mA, ⟨od, es, ep, k _ _ (.inl rfl) e, c⟩, r⟩
  | rng lo hi => obtain ⟨t, u, v, e⟩ := x; exact ⟨t, u, v, k _ _ (.inl rfl) e⟩
  | frz ob u ih => obtain ⟨e, q⟩ := x; exact ⟨k _ _ (.inl rfl) e, ih q⟩
  | tbl ps =>
    have e : h.get? a = some { cls := .none, data := .fields ps } := x
    show h'.get? a = some { cls := .none, data := .fields ps }
    exact k a _ (.inl rfl) e
  | met f y =>
    have e : h.get? a = some (PySem.W.methodObj (.ref f) (.ref y)) := x
    show h'.get? a = some (PySem.W.methodObj (.ref f) (.ref y))
    exact k a _ (.inl rfl) e
  | ext φ => obtain ⟨p, ⟨o, e⟩, st⟩ := x; exact ⟨st _ _ p fun o q => k _ _ (.inl rfl) q, ⟨o, k _ _ (.inl rfl) e⟩, st⟩
theorem HOk.lt (x : HOk P w H h) (e : H a = some o) : a < h.objs.size := (x a o e).lt
theorem HOk.fresh (x : HOk P w H h) (e : h.objs.size ≤ a) : H a = none := by
  cases q : H a with
  | none => rfl
  | some u => exact absurd (Nat.lt_of_lt_of_le (x.lt q) e) (Nat.lt_irrefl _)
/-- every object of the heap is kept -/
theorem HOk.kept (x : HOk P w H h) (k : ∀ b u, h.get? b = some u → h'.get? b = some u) : HOk P w H h' := fun a o e =>
  (x a o e).stay (fun b u _ q => k b u q) (fun _ q => q) fun _ _ q => q
/-- a new object is laid and tracked -/
theorem HOk.laid (x : HOk P w H h) (k : ∀ b u, h.get? b = some u → h'.get? b = some u) (hp : h.objs.size ≤ a) (new : ObjOk P w (upd H a o) h' a o) : HOk P w (upd H a o) h' := fun b u e => by
  have hn := x.fresh hp
  by_cases hb : b = a
  · subst hb; rw [upd_same] at e; cases e; exact new
  · rw [upd_ne hb] at e
    exact (x b u e).stay (fun c v _ q => k c v q) (fun c q => by rw [upd_ne (ne_of_none q hn)]; exact q) fun c xs q => by rw [upd_ne (ne_of_none q hn)]; exact q
end

/-- what may be read as u: it is u, or a known u -/
def Rd (H : Hp) (a : Addr) (u : HO) : Prop := H a = some u ∨ ∃ o, H a = some (.frz o u)
theorem Rd.ok {P : Program} {w : World} {H : Hp} {h : Heap} {a : Addr} {u : HO} (r : Rd H a u) (x : HOk P w H h) : ObjOk P w H h a u := by
  rcases r with r | ⟨o, r⟩
  · exact x a u r
  · obtain ⟨_, q⟩ := x a _ r
    exact q
/-- what may be written -/
def Mut : Option HO → Prop
  | some (.lst _) => True
  | some (.dK _) => True
  | some (.dT _) => True
  | some (.set _ _) => True
  | some (.ins _ _ _) => True
  | some (.ext _) => True
  | _ => False
section
variable {P : Program} {w : World} {H : Hp} {h h' : Heap} {x e : Addr} {o' : HO}
/-- the object at e is changed: x itself, or the dict of the instance x -/
theorem HOk.write (ok : HOk P w H h) (mu : Mut (H x)) (he : e = x ∨ H e = some (.own x)) (k : ∀ b u, b ≠ e → h.get? b = some u → h'.get? b = some u) (heo : ∃ u, h'.get? e = some u)
    (new : ObjOk P w (upd H x o') h' x o') : HOk P w (upd H x o') h' := fun b u q => by
  have nown : ∀ c y, H c = some (.own y) → c ≠ x := fun c y r z => by subst z; rw [r] at mu; exact mu
  have ntup : ∀ c xs, H c = some (.tup xs) → c ≠ x := fun c xs r z => by subst z; rw [r] at mu; exact mu
  by_cases hb : b = x
  · subst hb; rw [upd_same] at q; cases q; exact new
  · rw [upd_ne hb] at q
    by_cases hbe : b = e
    · have q' : H b = some (.own x) := by
        rcases he with z | z
        · exact absurd (hbe.trans z) hb
        · rw [hbe]; exact z
      rw [q] at q'; cases q'
      obtain ⟨v, hv⟩ := heo
      exact ⟨v, by rw [hbe]; exact hv⟩
    · refine (ok b u q).stay (fun c v hc r => k c v ?_ r) (fun c r => by rw [upd_ne (nown c b r)]; exact r) fun c xs r => by rw [upd_ne (ntup c xs r)]; exact r
      rcases hc with rfl | hc
      · exact hbe
      · rintro rfl
        rcases he with z | z
        · exact nown c b hc z
        · rw [hc] at z; cases z; exact hb rfl
end

/-! ### kept unless tracked; of the frames at fs (the callers') the slots may change (an exception that passes writes there); of the records at ex (iterators) nothing is said -/
structure Un (fs ex : List Addr) (H H' : Hp) (h h' : Heap) : Prop where
  keep : ∀ b o, h.get? b = some o → H b = none → b ∉ fs → b ∉ ex → h'.get? b = some o
  slot : ∀ b o, h.get? b = some o → H b = none → b ∈ fs → b ∉ ex → ∃ sl, h'.get? b = some { o with slots := sl }
  free : ∀ b o, h.get? b = some o → H b = none → b ∉ ex → H' b = none
  there : ∀ b o, h.get? b = some o → b ∉ ex → ∃ o', h'.get? b = some o'
  tups : ∀ b xs, H b = some (.tup xs) → H' b = some (.tup xs)
  frzs : ∀ b o u, H b = some (.frz o u) → H' b = some (.frz o u)
  tbls : ∀ b ps, H b = some (.tbl ps) → ∃ more, H' b = some (.tbl (ps ++ more))
section
variable {fs fs' ex ex' : List Addr} {H H1 H2 : Hp} {h h1 h2 h' : Heap} {a x e : Addr} {o : HO}
theorem Un.any (u : Un fs ex H H1 h h1) {b : Addr} {ob : Obj} (q : h.get? b = some ob) (n : H b = none) (hx : b ∉ ex) : ∃ sl, h1.get? b = some { ob with slots := sl } := by
  by_cases hb : b ∈ fs
  · exact u.slot b ob q n hb hx
  · exact ⟨ob.slots, u.keep b ob q n hb hx⟩
theorem Un.kept (k : ∀ b u, h.get? b = some u → h'.get? b = some u) : Un fs ex H H h h' :=
  ⟨fun b ob q _ _ _ => k b ob q, fun b ob q _ _ _ => ⟨ob.slots, k b ob q⟩, fun _ _ _ n _ => n, fun b ob q _ => ⟨ob, k b ob q⟩, fun _ _ q => q, fun _ _ _ q => q, fun _ ps q => ⟨#[], by rw [q]; simp⟩⟩
theorem Un.refl : Un fs ex H H h h := Un.kept fun _ _ q => q
theorem Un.laid (k : ∀ b u, h.get? b = some u → h'.get? b = some u) (hp : h.objs.size ≤ a) (hn : H a = none) : Un fs ex H (upd H a o) h h' where
  keep := fun b u q _ _ _ => k b u q
  slot := fun b u q _ _ _ => ⟨u.slots, k b u q⟩
  free := fun b u q n _ => by rw [upd_ne (Nat.ne_of_lt (Nat.lt_of_lt_of_le (Heap.lt_size q) hp))]; exact n
  there := fun b u q _ => ⟨u, k b u q⟩
  tups := fun b xs q => by rw [upd_ne (ne_of_none q hn)]; exact q
  frzs := fun b u xs q => by rw [upd_ne (ne_of_none q hn)]; exact q
  tbls := fun b ps q => ⟨#[], by rw [upd_ne (ne_of_none q hn), q]; simp⟩
theorem Un.write (mu : Mut (H x)) (he : e = x ∨ H e = some (.own x)) (k : ∀ b u, b ≠ e → h.get? b = some u → h'.get? b = some u) (heo : ∃ u, h'.get? e = some u) : Un fs ex H (upd H x o) h h' := by
  have hx : ∀ b, H b = none → b ≠ x := fun b n z => by subst z; rw [n] at mu; exact mu
  have hb : ∀ b, H b = none → b ≠ e := fun b n z => by
    subst z
    rcases he with r | r
    · exact hx b n r
    · rw [n] at r; cases r
  have hm : ∀ b u, H b = some u → ¬ Mut (some u) → b ≠ x := fun b u q nm z => by subst z; rw [q] at mu; exact nm mu
  refine ⟨fun b u q n _ _ => k b u (hb b n) q, fun b u q n _ _ => ⟨u.slots, k b u (hb b n) q⟩, fun b u q n _ => by rw [upd_ne (hx b n)]; exact n, fun b u q _ => ?_,
    fun b xs q => by rw [upd_ne (hm b _ q fun z => z)]; exact q, fun b u xs q => by rw [upd_ne (hm b _ q fun z => z)]; exact q, fun b ps q => ⟨#[], by rw [upd_ne (hm b _ q fun z => z), q]; simp⟩⟩
  by_cases hbe : b = e
  · subst hbe; exact heo
  · exact ⟨u, k b u hbe q⟩
end

/-! ### the heap without what is tracked -/
def trk (h : Heap) (H : Hp) : List Addr := (List.range h.objs.size).filter fun a => (H a).isSome
def hidT (h : Heap) (H : Hp) : Heap := PySem.W.hideAll h (trk h H)
theorem hidT_size (h : Heap) (H : Hp) : (hidT h H).objs.size = h.objs.size := PySem.W.hideAll_size _ _
theorem hidT_get {h : Heap} {H : Hp} {b : Addr} {o : Obj} (e : h.get? b = some o) (n : H b = none) : (hidT h H).get? b = some o :=
  PySem.W.hideAll_get _ e fun hm => by
    have q : (H b).isSome = true := (List.mem_filter.mp hm).2
    rw [n] at q; simp at q
theorem of_hidT {h : Heap} {H : Hp} {b : Addr} {o : Obj} (e : (hidT h H).get? b = some o) : h.get? b = some o ∧ H b = none := by
  have e' : h.get? b = some o := PySem.W.of_hideAll (trk h H) e
  refine ⟨e', ?_⟩
  cases q : H b with
  | none => rfl
  | some x =>
    have hm : b ∈ trk h H := List.mem_filter.mpr ⟨List.mem_range.mpr (Heap.lt_size e'), by simp [q]⟩
    have z : (hidT h H).get? b = none := PySem.W.hideAll_none (trk h H) hm
    rw [z] at e; cases e

/-! ### OpenK's ledger, filled with every new object but one -/
def allNews (g h : Heap) (L : Addr) : List (Addr × Obj) := (List.range h.objs.size).filterMap fun a => if a = L ∨ (g.get? a).isSome = true then none else (h.get? a).map fun o => (a, o)
def rest (g h : Heap) (L d : Addr) : List (Addr × Obj) := (allNews g h L).filter fun p => decide (p.1 ≠ d)
end L2

namespace L2
open PySem PySem.Spec PyProof.Rows

/-- the module's facts, over the base: the heap at the law's entry without what is tracked there -/
structure Mod (K : PySem.W.Frag) (mg : Str → Option Value) (base : Heap) : Prop where
  kin : K.In base
  glob : base.Ns mainGlobals mg
  blt : ∃ mb, base.Ns builtinsNs mb ∧ ∀ x : Str, x ≠ "__name__" → mb x = bootBuiltins x
  nolimit : base.NoLimit

/-- the context: a def's body (or a comprehension's block) running. base: fixed through the whole law; s₀, H₀: the entry; outer: the frames whose slots others may change (a def's callers); stack: all frames that run;
   ex: iterators that were made ahead of the entry and are walked here (a comprehension's); fn: the names whose cells were made at the entry (a def: all; a comprehension's block: its own); calm: not within an except suite; pn: pins that every state bears; xe: what is wanted of an exception that leaves the code -/
structure Cx where
  prog : Program
  w : World
  K : PySem.W.Frag
  mg : Str → Option Value
  base : Heap
  A : Around
  N : List Str
  s₀ : Shared
  H₀ : Hp
  env : Env
  outer : List Env
  stack : List Env
  ex : List Addr
  fn : Str → Bool
  calm : Bool
  pn : List (Addr × Obj)
  xe : Value → Shared → Prop
/-- the callers' frames -/
def frs (l : List Env) : List Addr := l.filterMap (·.frame)
abbrev Cx.fs (X : Cx) : List Addr := frs X.outer

def Vis (sc : Scope) (x : Str) : Prop := sc.names.lookup x = some .local ∨ sc.names.lookup x = some .cell ∨ sc.names.lookup x = some .free
def Loc (sc : Scope) (x : Str) : Prop := sc.names.lookup x = some .local ∨ sc.names.lookup x = some .cell
def Look (env : Env) (h : Heap) (m : Str → Option Value) (x : Str) (u : Value) : Prop :=
  (env.kindOf x = some .local ∧ m x = some u) ∨ ((env.kindOf x = some .cell ∨ env.kindOf x = some .free) ∧ ∃ c, env.cells.lookup x = some c ∧ h.IsCell c (some u))

structure Cx.Ok (X : Cx) : Prop where
  mod : Mod X.K X.mg X.base
  kind : X.env.scope.kind = .function
  glob : X.env.globals = mainGlobals
  blt : X.env.builtins = builtinsNs
  above : X.s₀.heap.objs.size ≤ X.env.locals
  inj : ∀ x y c, X.env.cells.lookup x = some c → X.env.cells.lookup y = some c → x = y
  has : ∀ x, (X.env.kindOf x = some .cell ∨ X.env.kindOf x = some .free) → ∃ c, X.env.cells.lookup x = some c
  cab : ∀ x c, X.fn x = true → X.env.cells.lookup x = some c → X.s₀.heap.objs.size ≤ c
  hd : X.calm = true → X.A.handled = none
  frames : X.A.frames = some X.stack
  stk : X.stack = X.outer ∨ (X.stack = X.env :: X.outer ∧ X.env.frame = some X.env.locals)
  exf : ∀ b ∈ X.ex, b ≠ X.env.locals ∧ ∀ x c, X.env.cells.lookup x = some c → c ≠ b
  bs : ∀ b o, X.base.get? b = some o → X.s₀.heap.get? b = some o ∧ X.H₀ b = none
  bsz : X.base.objs.size ≤ X.s₀.heap.objs.size
  noex : ∀ b o, X.base.get? b = some o → b ∉ X.ex
  exfs : ∀ b ∈ X.ex, b ∉ X.fs
  funs : X.s₀.heap.FunFrames X.base X.outer
  frf : ∀ b ∈ X.fs, X.H₀ b = none

structure Inv (X : Cx) (pins : List (Addr × Obj)) (σ : List (Option V)) (H : Hp) (s : Shared) : Prop where
  ok : X.Ok
  os : s.os = X.s₀.os
  bare : AllBare s.gens
  base : Un X.fs X.ex X.H₀ H X.s₀.heap s.heap
  loc : ∃ m, s.heap.Ns X.env.locals m ∧ ∀ (i : Nat) (x : Str) (v : V), X.N[i]? = some x → σ[i]? = some (some v) → Vis X.env.scope x → ∃ u, RelV v u ∧ Look X.env s.heap m x u
  cell : ∀ x c, X.env.cells.lookup x = some c → ∃ v, s.heap.IsCell c v
  free : H X.env.locals = none
  freeC : ∀ x c, X.env.cells.lookup x = some c → H c = none
  pin : ∀ p ∈ X.pn ++ pins, s.heap.get? p.1 = some p.2 ∧ H p.1 = none ∧ p.1 ≠ X.env.locals ∧ p.1 ∉ X.fs ∧ ∀ v, p.2.data ≠ .cell v
  hok : HOk X.prog X.w H s.heap
  len : σ.length = X.N.length

section
variable {X : Cx} {pins : List (Addr × Obj)} {σ : List (Option V)} {H H' : Hp} {s : Shared} {h' : Heap}

theorem Cx.Ok.nofr (ok : X.Ok) {b : Addr} {o : Obj} (e : X.base.get? b = some o) : b ∉ X.fs := fun hb => by
  have := (ok.funs.mem hb).1
  rw [e] at this; cases this
theorem Inv.bs (I : Inv X pins σ H s) : ∀ b o, X.base.get? b = some o → s.heap.get? b = some o ∧ H b = none := fun b o e =>
  ⟨I.base.keep b o (I.ok.bs b o e).1 (I.ok.bs b o e).2 (I.ok.nofr e) (I.ok.noex b o e), I.base.free b o (I.ok.bs b o e).1 (I.ok.bs b o e).2 (I.ok.noex b o e)⟩
theorem Inv.bk (I : Inv X pins σ H s) : ∀ b o, X.base.get? b = some o → s.heap.get? b = some o := fun b o e => (I.bs b o e).1
theorem Inv.mod (I : Inv X pins σ H s) : Mod X.K X.mg X.base := I.ok.mod
theorem Inv.kIn (I : Inv X pins σ H s) : X.K.In s.heap := I.ok.mod.kin.keeps I.bk
theorem Inv.lt (I : Inv X pins σ H s) : X.env.locals < s.heap.objs.size := let ⟨_, hn, _⟩ := I.loc; hn.lt
theorem Inv.sz (I : Inv X pins σ H s) : X.s₀.heap.objs.size ≤ s.heap.objs.size := Nat.le_trans I.ok.above (Nat.le_of_lt I.lt)
theorem Inv.nofs (I : Inv X pins σ H s) {a : Addr} (h : s.heap.objs.size ≤ a) : a ∉ X.fs := fun hb => by
  obtain ⟨_, o, ho, _⟩ := I.ok.funs.mem hb
  exact absurd (Nat.lt_of_lt_of_le (Heap.lt_size ho) (Nat.le_trans I.sz h)) (Nat.lt_irrefl _)
theorem Inv.cne (I : Inv X pins σ H s) : ∀ x c, X.env.cells.lookup x = some c → c ≠ X.env.locals := fun x c e z => by
  obtain ⟨v, o, ho, hd⟩ := I.cell x c e
  obtain ⟨m, ⟨o', es, ep, ho', hd', _⟩, _⟩ := I.loc
  rw [z, ho'] at ho; cases ho; rw [hd'] at hd; cases hd
theorem Inv.funs (I : Inv X pins σ H s) : s.heap.FunFrames X.base X.outer := by
  have all : ∀ (l : List Env), (∀ b ∈ frs l, b ∈ X.fs) → X.s₀.heap.FunFrames X.base l → s.heap.FunFrames X.base l := by
    intro l
    induction l with
    | nil => intro _ _; trivial
    | cons env r ih =>
      intro hs hl
      obtain ⟨hk, ⟨L, o, hf, hn, ho, hd⟩, hr⟩ := hl
      have hL : L ∈ X.fs := hs L (by unfold frs; rw [List.filterMap_cons, hf]; exact List.mem_cons_self)
      obtain ⟨sl, e⟩ := I.base.slot L o ho (I.ok.frf L hL) hL fun z => I.ok.exfs L z hL
      exact ⟨hk, ⟨L, _, hf, hn, e, hd⟩, ih (fun b hb => hs b (by unfold frs; rw [List.filterMap_cons, hf]; exact List.mem_cons_of_mem _ hb)) hr⟩
  exact all X.outer (fun _ hb => hb) I.ok.funs

/-- the frames that run, for a call -/
theorem Inv.stack (I : Inv X pins σ H s) : s.heap.FunFrames X.base X.stack := by
  rcases I.ok.stk with e | ⟨e, hf⟩
  · rw [e]; exact I.funs
  · rw [e]
    obtain ⟨m, hn, _⟩ := I.loc
    refine .cons (by rw [I.ok.kind]; decide) hf hn ?_ I.funs
    exact Heap.get?_none_of_le (Nat.le_trans I.ok.bsz I.ok.above)
theorem Inv.stkSub (I : Inv X pins σ H s) : ∀ b ∈ frs X.stack, b ∈ X.env.locals :: X.fs := fun b hb => by
  rcases I.ok.stk with e | ⟨e, hf⟩
  · rw [e] at hb; exact List.mem_cons_of_mem _ hb
  · rw [e] at hb
    unfold frs at hb
    rw [List.filterMap_cons, hf] at hb
    exact hb
theorem Inv.stkFree (I : Inv X pins σ H s) : ∀ b ∈ frs X.stack, H b = none := fun b hb => by
  rcases List.mem_cons.mp (I.stkSub b hb) with e | hb
  · rw [e]; exact I.free
  · obtain ⟨_, o, ho, _⟩ := I.ok.funs.mem hb
    exact I.base.free b o ho (I.ok.frf b hb) fun z => I.ok.exfs b z hb

/-- THE STEP: the untracked objects but the frame and the records at ch are kept (the callers' frames up to slots), the frame's map is kept, the new abstract heap is held -/
theorem Inv.step {g' : Array GenState} {t' : Nat} {d' : Drawn} {ch : List Addr} (I : Inv X pins σ H s)
    (hch : ∀ b ∈ ch, (b ∈ X.ex ∨ X.s₀.heap.objs.size ≤ b) ∧ b ≠ X.env.locals ∧ (∀ x c, X.env.cells.lookup x = some c → c ≠ b) ∧ ∀ p ∈ X.pn ++ pins, p.1 ≠ b)
    (keep : ∀ b o, b ≠ X.env.locals → b ∉ X.fs → b ∉ ch → s.heap.get? b = some o → H b = none → h'.get? b = some o)
    (slot : ∀ b o, b ≠ X.env.locals → b ∈ X.fs → b ∉ ch → s.heap.get? b = some o → H b = none → ∃ sl, h'.get? b = some { o with slots := sl }) (free : ∀ b o, b ∉ ch → s.heap.get? b = some o → H b = none → H' b = none)
    (there : ∀ b o, b ∉ ch → s.heap.get? b = some o → ∃ o', h'.get? b = some o')
    (tups : ∀ b xs, H b = some (.tup xs) → H' b = some (.tup xs)) (frzs : ∀ b o u, H b = some (.frz o u) → H' b = some (.frz o u)) (tbls : ∀ b ps, H b = some (.tbl ps) → ∃ more, H' b = some (.tbl (ps ++ more)))
    (ns : ∀ m, s.heap.Ns X.env.locals m → h'.Ns X.env.locals m) (hok : HOk X.prog X.w H' h') (hg : AllBare g') :
    Inv X pins σ H' { s with heap := h', gens := g', drawn := d', toks := t' } := by
  have neL : ∀ b o, X.s₀.heap.get? b = some o → b ≠ X.env.locals := fun b o e => Nat.ne_of_lt (Nat.lt_of_lt_of_le (Heap.lt_size e) I.ok.above)
  have neC : ∀ b o, X.s₀.heap.get? b = some o → b ∉ X.ex → b ∉ ch := fun b o e hx hb => by
    rcases (hch b hb).1 with z | z
    · exact hx z
    · exact absurd (Nat.lt_of_lt_of_le (Heap.lt_size e) z) (Nat.lt_irrefl _)
  have cellK : ∀ x c, X.env.cells.lookup x = some c → ∀ v, s.heap.IsCell c v → h'.IsCell c v := fun x c e v ⟨o, ho, hd⟩ => by
    have nch : c ∉ ch := fun z => (hch c z).2.2.1 x c e rfl
    by_cases hc : c ∈ X.fs
    · obtain ⟨sl, q⟩ := slot c o (I.cne x c e) hc nch ho (I.freeC x c e)
      exact ⟨_, q, hd⟩
    · exact ⟨o, keep c o (I.cne x c e) hc nch ho (I.freeC x c e), hd⟩
  refine ⟨I.ok, I.os, hg, ⟨fun b o e n hb hx => ?_, fun b o e n hb hx => ?_, fun b o e n hx => ?_, fun b o e hx => ?_, fun b xs e => tups b xs (I.base.tups b xs e), fun b o xs e => frzs b o xs (I.base.frzs b o xs e), fun b ps e => ?_⟩, ?_, fun x c e => ?_, ?_, fun x c e => ?_, fun p hp => ?_, hok, I.len⟩
  · exact keep b o (neL b o e) hb (neC b o e hx) (I.base.keep b o e n hb hx) (I.base.free b o e n hx)
  · obtain ⟨sl, e1⟩ := I.base.slot b o e n hb hx
    obtain ⟨sl', e2⟩ := slot b _ (neL b o e) hb (neC b o e hx) e1 (I.base.free b o e n hx)
    exact ⟨sl', e2⟩
  · obtain ⟨o', e1⟩ := I.base.there b o e hx
    exact free b o' (neC b o e hx) e1 (I.base.free b o e n hx)
  · obtain ⟨o', e1⟩ := I.base.there b o e hx
    exact there b o' (neC b o e hx) e1
  · obtain ⟨m1, e1⟩ := I.base.tbls b ps e
    obtain ⟨m2, e2⟩ := tbls b _ e1
    exact ⟨m1 ++ m2, by rw [e2, Array.append_assoc]⟩
  · obtain ⟨m, hn, hl⟩ := I.loc
    refine ⟨m, ns m hn, fun i x v e1 e2 e3 => ?_⟩
    obtain ⟨u, r, l⟩ := hl i x v e1 e2 e3
    refine ⟨u, r, ?_⟩
    rcases l with l | ⟨k, c, e, z⟩
    · exact .inl l
    · exact .inr ⟨k, c, e, cellK x c e _ z⟩
  · obtain ⟨v, z⟩ := I.cell x c e
    exact ⟨v, cellK x c e v z⟩
  · obtain ⟨m, ⟨o, _, _, ho, _⟩, _⟩ := I.loc
    exact free _ o (fun z => (hch _ z).2.1 rfl) ho I.free
  · obtain ⟨v, o, ho, hd⟩ := I.cell x c e
    exact free c o (fun z => (hch c z).2.2.1 x c e rfl) ho (I.freeC x c e)
  · obtain ⟨e, n, ne, nf, d⟩ := I.pin p hp
    have nch : p.1 ∉ ch := fun z => (hch p.1 z).2.2.2 p hp rfl
    exact ⟨keep p.1 p.2 ne nf nch e n, free p.1 p.2 nch e n, ne, nf, d⟩
/-- .. where the frame's own object is kept too -/
theorem Inv.un {t' : Nat} (I : Inv X pins σ H s) (u : Un X.fs [] H H' s.heap h') (hok : HOk X.prog X.w H' h') : Inv X pins σ H' { s with heap := h', toks := t' } := by
  obtain ⟨m, ⟨o, es, ep, ho, r⟩, _⟩ := id I.loc
  obtain ⟨sl, hL⟩ := u.any ho I.free (by simp)
  exact I.step (g' := s.gens) (d' := s.drawn) (ch := []) (fun _ z => nomatch z) (fun b o _ hb _ e n => u.keep b o e n hb (by simp)) (fun b o _ hb _ e n => u.slot b o e n hb (by simp)) (fun b o _ e n => u.free b o e n (by simp)) (fun b o _ e => u.there b o e (by simp)) u.tups u.frzs u.tbls (fun m' hm => by
    obtain ⟨o', es', ep', ho', r'⟩ := hm
    rw [ho] at ho'; cases ho'
    exact ⟨_, es', ep', hL, r'⟩) hok I.bare
/-- behind a call (or a comprehension's block): the slots of this frame may have changed too, the records at ch may have turned -/
theorem Inv.call {g' : Array GenState} {t' : Nat} {d' : Drawn} {ch : List Addr} (I : Inv X pins σ H s) (u : Un (frs X.stack) ch H H' s.heap h') (hok : HOk X.prog X.w H' h') (hg : AllBare g')
    (hch : ∀ b ∈ ch, (b ∈ X.ex ∨ X.s₀.heap.objs.size ≤ b) ∧ b ≠ X.env.locals ∧ (∀ x c, X.env.cells.lookup x = some c → c ≠ b) ∧ ∀ p ∈ X.pn ++ pins, p.1 ≠ b) :
    Inv X pins σ H' { s with heap := h', gens := g', drawn := d', toks := t' } := by
  obtain ⟨m, ⟨o, es, ep, ho, r⟩, _⟩ := id I.loc
  obtain ⟨sl, hL⟩ := u.any ho I.free fun z => (hch _ z).2.1 rfl
  exact I.step (ch := ch) hch (fun b o hL hb hc e n => u.keep b o e n (fun z => (List.mem_cons.mp (I.stkSub b z)).elim hL hb) hc) (fun b o _ _ hc e n => u.any e n hc) (fun b o hc e n => u.free b o e n hc) (fun b o hc e => u.there b o e hc) u.tups u.frzs u.tbls (fun m' hm => by
    obtain ⟨o', es', ep', ho', r'⟩ := hm
    rw [ho] at ho'; cases ho'
    exact ⟨_, es', ep', hL, r'⟩) hok hg
/-- an untracked record of ours (an iterator) has turned -/
theorem Inv.turned {t' : Nat} {it : Addr} (I : Inv X pins σ H s) (k : ∀ b o, b ≠ it → s.heap.get? b = some o → h'.get? b = some o) (hn : H it = none) (hL : it ≠ X.env.locals)
    (h1 : it ∈ X.ex ∨ X.s₀.heap.objs.size ≤ it) (h2 : ∀ x c, X.env.cells.lookup x = some c → c ≠ it) (h3 : ∀ p ∈ X.pn ++ pins, p.1 ≠ it) : Inv X pins σ H { s with heap := h', toks := t' } := by
  have nit : ∀ b u, H b = some u → b ≠ it := fun b u e z => by rw [z, hn] at e; cases e
  refine I.step (g' := s.gens) (d' := s.drawn) (ch := [it]) (fun b hb => ?_) (fun b o _ _ hc e _ => k b o (fun z => hc (by simp [z])) e) (fun b o _ _ hc e _ => ⟨o.slots, k b o (fun z => hc (by simp [z])) e⟩) (fun _ _ _ _ n => n)
    (fun b o hc e => ⟨o, k b o (fun z => hc (by simp [z])) e⟩) (fun _ _ e => e) (fun _ _ _ e => e) (fun b ps e => ⟨#[], by rw [e]; simp⟩) (fun m hm => ?_) (fun b u e => ?_) I.bare
  · have e : b = it := by simpa using hb
    subst e
    exact ⟨h1, hL, h2, h3⟩
  · obtain ⟨o, es, ep, ho, r⟩ := hm
    exact ⟨o, es, ep, k _ o (Ne.symm hL) ho, r⟩
  · refine (I.hok b u e).stay (fun c v hc q => k c v ?_ q) (fun _ q => q) fun _ _ q => q
    rcases hc with z | z
    · rw [z]; exact nit b u e
    · exact nit c _ z
theorem Inv.tok (I : Inv X pins σ H s) (t : Nat) : Inv X pins σ H { s with toks := t } := I.un (h' := s.heap) (t' := t) Un.refl I.hok
/-- all objects kept -/
theorem Inv.kept {t' : Nat} (I : Inv X pins σ H s) (k : ∀ b u, s.heap.get? b = some u → h'.get? b = some u) : Inv X pins σ H { s with heap := h', toks := t' } := I.un (Un.kept k) (I.hok.kept k)
/-- a new object laid and tracked -/
theorem Inv.laid {a : Addr} {o : HO} {t' : Nat} (I : Inv X pins σ H s) (k : ∀ b u, s.heap.get? b = some u → h'.get? b = some u) (hp : s.heap.objs.size ≤ a) (new : ObjOk X.prog X.w (upd H a o) h' a o) :
    Inv X pins σ (upd H a o) { s with heap := h', toks := t' } := I.un (Un.laid k hp (I.hok.fresh hp)) (I.hok.laid k hp new)
/-- an object written -/
theorem Inv.write {x e : Addr} {o : HO} {t' : Nat} (I : Inv X pins σ H s) (mu : Mut (H x)) (he : e = x ∨ H e = some (.own x)) (k : ∀ b u, b ≠ e → s.heap.get? b = some u → h'.get? b = some u) (heo : ∃ u, h'.get? e = some u)
    (new : ObjOk X.prog X.w (upd H x o) h' x o) : Inv X pins σ (upd H x o) { s with heap := h', toks := t' } := I.un (Un.write mu he k heo) (I.hok.write mu he k heo new)
/-- forgetting slots, pins -/
theorem Inv.weak {σ' : List (Option V)} (I : Inv X pins σ H s) (hl : σ'.length = σ.length) (w : ∀ (i : Nat) v, σ'[i]? = some (some v) → σ[i]? = some (some v)) : Inv X pins σ' H s :=
  ⟨I.ok, I.os, I.bare, I.base, let ⟨m, hn, hl'⟩ := I.loc; ⟨m, hn, fun i x v e1 e2 e3 => hl' i x v e1 (w i v e2) e3⟩, I.cell, I.free, I.freeC, I.pin, I.hok, hl.trans I.len⟩
theorem Inv.pins_of {pins' : List (Addr × Obj)} (I : Inv X pins σ H s) (h : ∀ p ∈ pins', s.heap.get? p.1 = some p.2 ∧ H p.1 = none ∧ p.1 ≠ X.env.locals ∧ p.1 ∉ X.fs ∧ ∀ v, p.2.data ≠ .cell v) : Inv X pins' σ H s :=
  ⟨I.ok, I.os, I.bare, I.base, I.loc, I.cell, I.free, I.freeC, fun p hp => (List.mem_append.mp hp).elim (fun z => I.pin p (List.mem_append_left _ z)) (h p), I.hok, I.len⟩

theorem nodup_ix {N : List Str} (hN : N.Nodup) {i j : Nat} {x : Str} (a : N[i]? = some x) (b : N[j]? = some x) : i = j := by
  obtain ⟨h1, e1⟩ := List.getElem?_eq_some_iff.mp a
  obtain ⟨h2, e2⟩ := List.getElem?_eq_some_iff.mp b
  exact (List.getElem_inj hN).mp (e1.trans e2.symm)

/-- a name is stored; what changed -/
theorem store_ok2 {M : Model} {A : Around} {E : Value → Shared → Prop} {i : Nat} {x : Str} {v : V} {u : Value} {Q : Unit → Shared → Prop} (I : Inv X pins σ H s) (hN : X.N.Nodup) (hi : X.N[i]? = some x) (hx : Loc X.env.scope x) (r : RelV v u)
    (h : ∀ s', Inv X pins (σ.set i (some v)) H s' → (∃ a, Heap.SameBut a s.heap s'.heap ∧ (a = X.env.locals ∨ X.env.cells.lookup x = some a)) → Q () s') (hf : X.fn x = true ∨ X.env.scope.names.lookup x = some .local := by first | exact .inl rfl | exact .inr rfl | assumption) : wpAny M A (storeName X.env x u) Q E s := by
  obtain ⟨m, hn, hl⟩ := id I.loc
  have hcls : (X.env.scope.kind == .class || (X.env.scope.kind == .module && X.env.locals != X.env.globals)) = false := by rw [I.ok.kind]; rfl
  have hiσ : i < σ.length := by rw [I.len]; exact (List.getElem?_eq_some_iff.mp hi).1
  have cne := I.cne
  have tracked : ∀ {a : Addr} {h' : Heap}, (∃ o, s.heap.get? a = some o ∧ H a = none) → Heap.SameBut a s.heap h' → HOk X.prog X.w H h' := fun {a h'} ha hs b ob e => by
    obtain ⟨_, _, hfree⟩ := ha
    refine (I.hok b ob e).stay (fun c w' hc q => (hs.2 c ?_).trans q) (fun _ q => q) fun _ _ q => q
    rintro rfl
    rcases hc with rfl | hc
    · rw [hfree] at e; cases e
    · rw [hfree] at hc; cases hc
  rcases hx with hk | hk
  · refine wpAny_storeName_local hk hn (fun h' hn' hs => ?_) hcls
    obtain ⟨oL, _, _, hoL, _⟩ := id hn
    refine h _ ⟨I.ok, I.os, I.bare, ⟨fun b o e n hb hx => ?_, fun b o e n hb hx => ?_, I.base.free, fun b o e hx => ?_, I.base.tups, I.base.frzs, I.base.tbls⟩, ⟨_, hn', fun j y v' e1 e2 e3 => ?_⟩, fun y c e => ?_, I.free, I.freeC, fun p hp => ?_, tracked ⟨oL, hoL, I.free⟩ hs, by simpa using I.len⟩ ⟨_, hs, .inl rfl⟩
    · exact (hs.2 b (Nat.ne_of_lt (Nat.lt_of_lt_of_le (Heap.lt_size e) I.ok.above))).trans (I.base.keep b o e n hb hx)
    · obtain ⟨sl, e1⟩ := I.base.slot b o e n hb hx
      exact ⟨sl, (hs.2 b (Nat.ne_of_lt (Nat.lt_of_lt_of_le (Heap.lt_size e) I.ok.above))).trans e1⟩
    · obtain ⟨o', e1⟩ := I.base.there b o e hx
      exact ⟨o', (hs.2 b (Nat.ne_of_lt (Nat.lt_of_lt_of_le (Heap.lt_size e) I.ok.above))).trans e1⟩
    · by_cases hj : j = i
      · subst hj
        rw [hi] at e1; cases e1
        rw [List.getElem?_set_self hiσ] at e2
        cases e2
        exact ⟨u, r, .inl ⟨hk, by simp⟩⟩
      · rw [List.getElem?_set_ne (Ne.symm hj)] at e2
        obtain ⟨u', r', q⟩ := hl j y v' e1 e2 e3
        refine ⟨u', r', ?_⟩
        rcases q with ⟨k, e⟩ | ⟨k, c, e, z⟩
        · refine .inl ⟨k, ?_⟩
          have : y ≠ x := fun e => hj (nodup_ix hN e1 (e ▸ hi))
          simp [this, e]
        · exact .inr ⟨k, c, e, z.sameBut hs (cne y c e)⟩
    · obtain ⟨w', z⟩ := I.cell y c e
      exact ⟨w', z.sameBut hs (cne y c e)⟩
    · obtain ⟨e, n, ne, nf, d⟩ := I.pin p hp
      exact ⟨(hs.2 p.1 ne).trans e, n, ne, nf, d⟩
  · have hfn : X.fn x = true := by
      rcases hf with z | z
      · exact z
      · rw [z] at hk; cases hk
    obtain ⟨c, hc⟩ := I.ok.has x (.inl hk)
    obtain ⟨w', z⟩ := I.cell x c hc
    refine wpAny_storeName_cell I.ok.kind hk hc z (fun h' hc' hs => ?_)
    obtain ⟨oc, hoc, hocd⟩ := id z
    refine h { s with heap := h' } ⟨I.ok, I.os, I.bare, ⟨fun b o e n hb hx => ?_, fun b o e n hb hx => ?_, I.base.free, fun b o e hx => ?_, I.base.tups, I.base.frzs, I.base.tbls⟩, ⟨m, hn.sameBut hs (Ne.symm (cne x c hc)), fun j y v' e1 e2 e3 => ?_⟩, fun y c' e => ?_, I.free, I.freeC, fun p hp => ?_, tracked ⟨oc, hoc, I.freeC x c hc⟩ hs, by simpa using I.len⟩ ⟨c, hs, .inr hc⟩
    · exact (hs.2 b (Nat.ne_of_lt (Nat.lt_of_lt_of_le (Heap.lt_size e) (I.ok.cab x c hfn hc)))).trans (I.base.keep b o e n hb hx)
    · obtain ⟨sl, e1⟩ := I.base.slot b o e n hb hx
      exact ⟨sl, (hs.2 b (Nat.ne_of_lt (Nat.lt_of_lt_of_le (Heap.lt_size e) (I.ok.cab x c hfn hc)))).trans e1⟩
    · obtain ⟨o', e1⟩ := I.base.there b o e hx
      exact ⟨o', (hs.2 b (Nat.ne_of_lt (Nat.lt_of_lt_of_le (Heap.lt_size e) (I.ok.cab x c hfn hc)))).trans e1⟩
    · by_cases hj : j = i
      · subst hj
        rw [hi] at e1; cases e1
        rw [List.getElem?_set_self hiσ] at e2
        cases e2
        exact ⟨u, r, .inr ⟨.inl hk, c, hc, hc'⟩⟩
      · rw [List.getElem?_set_ne (Ne.symm hj)] at e2
        obtain ⟨u', r', q⟩ := hl j y v' e1 e2 e3
        refine ⟨u', r', ?_⟩
        rcases q with q | ⟨k, c', e, z'⟩
        · exact .inl q
        · refine .inr ⟨k, c', e, z'.sameBut hs ?_⟩
          rintro rfl
          exact hj (nodup_ix hN e1 (I.ok.inj _ _ _ e hc ▸ hi))
    · by_cases hcc : c' = c
      · subst hcc; exact ⟨_, hc'⟩
      · obtain ⟨w2, z2⟩ := I.cell y c' e
        exact ⟨w2, z2.sameBut hs hcc⟩
    · obtain ⟨e, n, ne, nf, d⟩ := I.pin p hp
      refine ⟨(hs.2 p.1 ?_).trans e, n, ne, nf, d⟩
      intro q
      rw [q, hoc] at e
      have q' : oc = p.2 := Option.some.inj e
      exact d w' (by rw [← q']; exact hocd)
theorem store_ok {M : Model} {A : Around} {E : Value → Shared → Prop} {i : Nat} {x : Str} {v : V} {u : Value} {Q : Unit → Shared → Prop} (I : Inv X pins σ H s) (hN : X.N.Nodup) (hi : X.N[i]? = some x) (hx : Loc X.env.scope x) (r : RelV v u)
    (h : ∀ s', Inv X pins (σ.set i (some v)) H s' → Q () s') (hf : X.fn x = true ∨ X.env.scope.names.lookup x = some .local := by first | exact .inl rfl | exact .inr rfl | assumption) : wpAny M A (storeName X.env x u) Q E s :=
  store_ok2 I hN hi hx r (fun s' I' _ => h s' I') hf
/-- behind a call or a block, the state as it is -/
theorem Inv.call' {s' : Shared} {ch : List Addr} (I : Inv X pins σ H s) (ho : s'.os = s.os) (u : Un (frs X.stack) ch H H' s.heap s'.heap) (hok : HOk X.prog X.w H' s'.heap) (hg : AllBare s'.gens)
    (hch : ∀ b ∈ ch, (b ∈ X.ex ∨ X.s₀.heap.objs.size ≤ b) ∧ b ≠ X.env.locals ∧ (∀ x c, X.env.cells.lookup x = some c → c ≠ b) ∧ ∀ p ∈ X.pn ++ pins, p.1 ≠ b) : Inv X pins σ H' s' := by
  obtain ⟨h', g', d', t', o'⟩ := s'
  have e : o' = s.os := ho
  subst e
  exact I.call (g' := g') (t' := t') (d' := d') u hok hg hch
end

/-! ### the judgements -/
/-- an exception: its class, its own dict's address (where it has one), the abstract heap behind it -/
abbrev XK := Value → Option Addr → Hp → Prop
abbrev St := List (Option V)
abbrev VK := V → Hp → Prop
/-- an expression's reading; a test's; an argument list's -/
abbrev TE := St → Hp → VK → Prop
abbrev TT := St → Hp → (Bool → Hp → Prop) → Prop
abbrev TA := St → Hp → (List V → Hp → Prop) → Prop
/-- what is wanted behind a statement -/
structure Ends where
  nx : St → Hp → Prop
  rt : VK
  bk : St → Hp → Prop := fun _ _ => False
  ct : St → Hp → Prop := fun _ _ => False
abbrev TS := Ends → St → Hp → Prop

def EP (X : Cx) (pins : List (Addr × Obj)) (σ : St) (Q : VK) (u : Value) (s' : Shared) : Prop := ∃ v H', Inv X pins σ H' s' ∧ RelV v u ∧ Q v H'
def TP (X : Cx) (pins : List (Addr × Obj)) (σ : St) (Q : Bool → Hp → Prop) (b : Bool) (s' : Shared) : Prop := ∃ H', Inv X pins σ H' s' ∧ Q b H'
def AP (X : Cx) (pins : List (Addr × Obj)) (σ : St) (Q : List V → Hp → Prop) (us : List Value) (s' : Shared) : Prop := ∃ vs H', Inv X pins σ H' s' ∧ Vals vs us ∧ Q vs H'
def SP (X : Cx) (pins : List (Addr × Obj)) (D : Ends) (f : Flow) (s' : Shared) : Prop :=
  match f with
  | .next => ∃ σ' H', Inv X pins σ' H' s' ∧ D.nx σ' H'
  | .brk => ∃ σ' H', Inv X pins σ' H' s' ∧ D.bk σ' H'
  | .cont => ∃ σ' H', Inv X pins σ' H' s' ∧ D.ct σ' H'
  | .ret u => ∃ v σ' H', Inv X pins σ' H' s' ∧ RelV v u ∧ D.rt v H'

def PE (X : Cx) (e : Expr) (t : TE) : Prop :=
  ∀ (pins : List (Addr × Obj)) (s : Shared) (σ : St) (H : Hp) (Q : VK), Inv X pins σ H s → t σ H Q → wpAny (model X.prog X.w) X.A (eval e X.env) (EP X pins σ Q) X.xe s
def PT (X : Cx) (e : Expr) (t : TT) : Prop :=
  ∀ (pins : List (Addr × Obj)) (s : Shared) (σ : St) (H : Hp) (Q : Bool → Hp → Prop), Inv X pins σ H s → t σ H Q → wpAny (model X.prog X.w) X.A (isTrue e X.env (eval e X.env)) (TP X pins σ Q) X.xe s
/-- a test whatever its 'whole' is (and, or) -/
def PW (X : Cx) (e : Expr) (t : TT) : Prop :=
  ∀ (whole : Sem Value) (pins : List (Addr × Obj)) (s : Shared) (σ : St) (H : Hp) (Q : Bool → Hp → Prop), Inv X pins σ H s → t σ H Q → wpAny (model X.prog X.w) X.A (isTrue e X.env whole) (TP X pins σ Q) X.xe s
theorem PW.pt {X : Cx} {e : Expr} {t : TT} (h : PW X e t) : PT X e t := h _
/-- an argument list (no star), from the left -/
def PA (X : Cx) (es : List Expr) (t : TA) : Prop :=
  ∀ (pos : Pos) (pins : List (Addr × Obj)) (s : Shared) (σ : St) (H : Hp) (Q : List V → Hp → Prop), Inv X pins σ H s → t σ H Q → wpAny (model X.prog X.w) X.A (spliced (backTo pos (starEach es X.env))) (AP X pins σ Q) X.xe s
def PS (X : Cx) (st : Stmt) (t : TS) : Prop :=
  ∀ (pins : List (Addr × Obj)) (s : Shared) (σ : St) (H : Hp) (D : Ends), Inv X pins σ H s → t D σ H → wpAny (model X.prog X.w) X.A (exec st X.env) (SP X pins D) X.xe s
def PSs (X : Cx) (st : List Stmt) (t : TS) : Prop :=
  ∀ (pins : List (Addr × Obj)) (s : Shared) (σ : St) (H : Hp) (D : Ends), Inv X pins σ H s → t D σ H → wpAny (model X.prog X.w) X.A (execs st X.env) (SP X pins D) X.xe s
/-- weaken the end -/
theorem thn {α : Type} {t : Sem α} {Q Q' : α → Shared → Prop} {M : Model} {A : Around} {E : Value → Shared → Prop} {s : Shared} (h : wpAny M A t Q E s) (hQ : ∀ a s, Q a s → Q' a s) : wpAny M A t Q' E s := wpAny_mono h hQ fun _ _ x => x
end L2

namespace L2
open PySem PySem.Spec PyProof.Rows
section
variable {X : Cx}

/-! ### names and constants -/
def tVar (i : Nat) : TE := fun σ H Q => ∃ v, σ[i]? = some (some v) ∧ Q v H
def tC (v : V) : TE := fun _ H Q => Q v H
theorem pe_var {i : Nat} {x : Str} {pos : Pos} (hN : X.N[i]? = some x) (hv : Vis X.env.scope x) (hd : (x == ("__debug__" : Str)) = false := by decide) (hcd : (x == ("__classdict__" : Str)) = false := by decide) : PE X (.Name x pos) (tVar i) := by
  intro pins s σ H Q I h
  obtain ⟨v, e, h⟩ := h
  obtain ⟨m, hn, hl⟩ := I.loc
  obtain ⟨u, r, l⟩ := hl i x v hN e hv
  have fin : EP X pins σ Q u s := ⟨v, H, I, r, h⟩
  rcases l with ⟨hk, hm⟩ | ⟨hk, c, hc, hcell⟩
  · exact wpAny_Name (wpAny_loadName_local I.ok.kind hk hn hm fin) hd
  · rcases hk with hk | hk
    · exact wpAny_Name (wpAny_loadName_cell I.ok.kind hk hc hcell fin) hd
    · exact wpAny_Name (wpAny_loadName_free I.ok.kind hk hc hcell fin hcd) hd
theorem pe_int {i j pos} : PE X (.Constant (.int i) j pos) (tC (.int i)) := fun _ _ _ H _ I h => wpAny_Constant_int ⟨.int i, H, I.tok _, ⟨_, rfl⟩, h⟩
theorem pe_bl {b j pos} : PE X (.Constant (.bool b) j pos) (tC (.bl b)) := fun _ _ _ H _ I h => Constant_bool ⟨.bl b, H, I, rfl, h⟩
theorem pe_non {j pos} : PE X (.Constant .none j pos) (tC .non) := fun _ _ _ H _ I h => Constant_none ⟨.non, H, I, rfl, h⟩
theorem pe_str {x j pos} : PE X (.Constant (.str x) j pos) (tC (.str x)) := fun _ _ _ H _ I h => Calls.Constant_str ⟨.str x, H, I.tok _, ⟨_, rfl⟩, h⟩

/-- a global name of the def -/
def Gl (X : Cx) (x : Str) : Prop := X.env.kindOf x = some .globalImplicit
theorem ld_glob {E : Value → Shared → Prop} {pins : List (Addr × Obj)} {s : Shared} {σ : St} {H : Hp} {x : Str} {u : Value} {pos : Pos} {Q : Value → Shared → Prop} (I : Inv X pins σ H s) (hg : Gl X x) (hm : X.mg x = some u) (h : Q u s)
    (hd : (x == ("__debug__" : Str)) = false := by decide) : wpAny (model X.prog X.w) X.A (eval (.Name x pos) X.env) Q E s :=
  Calls.Name_function_global I.ok.kind hg (Calls.loadGlobal_global (by rw [I.ok.glob]; exact I.mod.glob.keeps I.bk) hm h) hd
theorem ld_blt {E : Value → Shared → Prop} {pins : List (Addr × Obj)} {s : Shared} {σ : St} {H : Hp} {x : Str} {u : Value} {pos : Pos} {Q : Value → Shared → Prop} (I : Inv X pins σ H s) (hg : Gl X x) (hm : X.mg x = none) (hv : bootBuiltins x = some u) (h : Q u s)
    (hn : x ≠ "__name__" := by decide) (hd : (x == ("__debug__" : Str)) = false := by decide) : wpAny (model X.prog X.w) X.A (eval (.Name x pos) X.env) Q E s := by
  obtain ⟨mb, h1, h2⟩ := I.mod.blt
  exact Calls.Name_function_global I.ok.kind hg (Calls.loadGlobal_builtin (by rw [I.ok.glob]; exact I.mod.glob.keeps I.bk) hm (by rw [I.ok.blt]; exact h1.keeps I.bk) ((h2 x hn).trans hv) h) hd
/-- a module's constant, a class, a function, as a value -/
theorem pe_glob {x : Str} {v : V} {u : Value} {pos : Pos} (hg : Gl X x) (hm : X.mg x = some u) (r : RelV v u) (hd : (x == ("__debug__" : Str)) = false := by decide) : PE X (.Name x pos) (tC v) :=
  fun _ _ _ H _ I h => ld_glob I hg hm ⟨v, H, I, r, h⟩ hd
theorem pe_bltn {x : Str} {v : V} {u : Value} {pos : Pos} (hg : Gl X x) (hm : X.mg x = none) (hv : bootBuiltins x = some u) (r : RelV v u) (hn : x ≠ "__name__" := by decide) (hd : (x == ("__debug__" : Str)) = false := by decide) : PE X (.Name x pos) (tC v) :=
  fun _ _ _ H _ I h => ld_blt I hg hm hv ⟨v, H, I, r, h⟩ hn hd

/-! ### arithmetic -/
/-- two ints -/
def t2I (ta tb : TE) (k : Int → Int → Hp → Prop) : St → Hp → Prop := fun σ H => ta σ H fun x H1 => tb σ H1 fun y H2 => ∃ i j, x = .int i ∧ y = .int j ∧ k i j H2
def tAdd (ta tb : TE) : TE := fun σ H Q => t2I ta tb (fun i j H2 => Q (.int (i + j)) H2) σ H
def tSub (ta tb : TE) : TE := fun σ H Q => t2I ta tb (fun i j H2 => Q (.int (i - j)) H2) σ H
/-- the left factor below 2^64 -/
def tMul (ta tb : TE) : TE := fun σ H Q => t2I ta tb (fun i j H2 => (-(2 ^ 64) < i ∧ i < 2 ^ 64) ∧ Q (.int (i * j)) H2) σ H
variable {a b : Expr} {ta tb : TE} {pos : Pos}
/-! ### comparisons -/
def PC (X : Cx) (op : CmpOp) (a b : Expr) (t : TE) : Prop :=
  ∀ (pins : List (Addr × Obj)) (s : Shared) (σ : St) (H : Hp) (Q : VK), Inv X pins σ H s → t σ H Q →
    wpAny (model X.prog X.w) X.A (eval a X.env) (fun v s₁ => wpAny (model X.prog X.w) X.A (eval b X.env) (fun u s₂ => wpAny (model X.prog X.w) X.A (compareOp op v u) (EP X pins σ Q) X.xe s₂) X.xe s₁) X.xe s
def tCmp (p : Int → Int → Bool) (ta tb : TE) : TE := fun σ H Q => t2I ta tb (fun i j H2 => Q (.bl (p i j)) H2) σ H
abbrev tLt : TE → TE → TE := tCmp fun i j => decide (i < j)
abbrev tLe : TE → TE → TE := tCmp fun i j => decide (i ≤ j)
abbrev tGt : TE → TE → TE := tCmp fun i j => decide (j < i)
abbrev tGe : TE → TE → TE := tCmp fun i j => decide (j ≤ i)
abbrev tEqI : TE → TE → TE := tCmp fun i j => decide (i = j)
abbrev tNeI : TE → TE → TE := tCmp fun i j => !decide (i = j)
/-- is None -/
def tIsN (ta : TE) : TE := fun σ H Q => ta σ H fun x H1 => Q (.bl (decide (x = .non))) H1
def tNotN (ta : TE) : TE := fun σ H Q => ta σ H fun x H1 => Q (.bl (!decide (x = .non))) H1
/-- a comparison as a value, as a test -/
def tB (t : TE) : TT := fun σ H Q => t σ H fun x H1 => ∃ c, x = .bl c ∧ Q c H1
/-- an expression whose value is a bool, as a test -/
theorem pt_val {e : Expr} {t : TE} (h : PE X e t) (he : ∀ whole, isTrue e X.env whole = (do let v ← whole; standAt e.pos; holding [v] (truthy v)) := by intro _; rfl) : PT X e (tB t) := by
  intro pins s σ H Q I hw
  refine isTrue_plain (thn (h pins s σ H _ I hw) fun v s1 ⟨x, H1, I1, r1, q1⟩ => ?_) (he _)
  obtain ⟨d, rfl, q⟩ := q1
  cases r1
  exact wpAny_truthy_bool ⟨H1, I1, q⟩

/-! ### and, or, not -/
variable {tA tB' : TT} {rest : List Expr}
def tAnd (t u : TT) : TT := fun σ H Q => t σ H fun c H1 => if c = true then u σ H1 Q else Q false H1
def tOr (t u : TT) : TT := fun σ H Q => t σ H fun c H1 => if c = true then Q true H1 else u σ H1 Q
def tNot (t : TT) : TT := fun σ H Q => t σ H fun c H1 => Q (!c) H1
theorem pw_or1 (ha : PT X a tA) : PW X (.BoolOp .Or [a] pos) tA := by
  intro wh pins s σ H Q I h
  refine isTrue_or (thn (ha pins s σ H Q I h) fun c s1 e => ?_)
  cases c with
  | false => exact isTrue_or_nil e
  | true => exact e
theorem pw_or (ha : PT X a tA) (hb : PW X (.BoolOp .Or (b :: rest) pos) tB') : PW X (.BoolOp .Or (a :: b :: rest) pos) (tOr tA tB') := by
  intro wh pins s σ H Q I h
  refine isTrue_or (thn (ha pins s σ H _ I h) fun c s1 ⟨H1, I1, q1⟩ => ?_)
  cases c with
  | true => exact ⟨H1, I1, q1⟩
  | false => exact hb wh pins s1 σ H1 Q I1 q1
theorem pt_not (ha : PT X a tA) : PT X (.UnaryOp .Not a pos) (tNot tA) := by
  intro pins s σ H Q I h
  exact isTrue_not (ha pins s σ H (fun c H1 => Q (!c) H1) I h)
/-- .. as values (bools) -/
def tAndV (ta tb : TE) : TE := fun σ H Q => ta σ H fun x H1 => ∃ c, x = .bl c ∧ if c = true then tb σ H1 Q else Q (.bl false) H1
def tOrV (ta tb : TE) : TE := fun σ H Q => ta σ H fun x H1 => ∃ c, x = .bl c ∧ if c = true then Q (.bl true) H1 else tb σ H1 Q
def tNotV (ta : TE) : TE := fun σ H Q => ta σ H fun x H1 => ∃ c, x = .bl c ∧ Q (.bl (!c)) H1
/-- a if t else b -/
def tIf (t : TT) (ta tb : TE) : TE := fun σ H Q => t σ H fun c H1 => if c = true then ta σ H1 Q else tb σ H1 Q
theorem pe_ifExp {c : Expr} (hc : PT X c tA) (ha : PE X a ta) (hb : PE X b tb) : PE X (.IfExp c a b pos) (tIf tA ta tb) := by
  intro pins s σ H Q I h
  refine wpAny_IfExp (thn (hc pins s σ H _ I h) fun d s1 ⟨H1, I1, q1⟩ => ?_)
  cases d with
  | true => exact ha pins s1 σ H1 Q I1 q1
  | false => exact hb pins s1 σ H1 Q I1 q1
end
end L2

namespace L2
open PySem PySem.Spec PyProof.Rows

/-! ### a list, a tuple that is read: tracked, frozen, or an object of the module -/
def SqL (K : PySem.W.Frag) (H : Hp) (a : Addr) (xs : List V) : Prop :=
  Rd H a (.lst xs) ∨
    ∃ (o : Obj) (its : Array Value) (n : Nat), K.lookup a = some o ∧ o.cls = .type "list" ∧ o.dict = none ∧ o.data = .seq its n ∧ its.size ≤ sizeLine ∧ Vals xs its.toList
def SqT (K : PySem.W.Frag) (H : Hp) (a : Addr) (xs : List V) : Prop :=
  Rd H a (.tup xs) ∨
    ∃ (o : Obj) (its : Array Value) (n : Nat), K.lookup a = some o ∧ o.cls = .type "tuple" ∧ o.data = .seq its n ∧ its.size ≤ sizeLine ∧ Vals xs its.toList
def absV : Value → Option V
  | .none => some .non
  | .bool b => some (.bl b)
  | .int i _ => some (.int i)
  | .str x _ => some (.str x)
  | .bytes b _ => some (.byt b)
  | .float b _ => some (.flt b)
  | .ref a => some (.ref a)
  | .type n => some (.ty n)
  | _ => none
theorem RelV.abs {x : V} {u : Value} (r : RelV x u) : absV u = some x := by
  cases x with
  | non => cases r; rfl
  | bl _ => cases r; rfl
  | int _ => obtain ⟨t, rfl⟩ := r; rfl
  | str _ => obtain ⟨t, rfl⟩ := r; rfl
  | byt _ => obtain ⟨t, rfl⟩ := r; rfl
  | flt _ => obtain ⟨t, rfl⟩ := r; rfl
  | ref _ => cases r; rfl
  | ty _ => cases r; rfl
theorem RelV.inj {x y : V} {u : Value} (r : RelV x u) (q : RelV y u) : x = y := Option.some.inj (r.abs.symm.trans q.abs)
theorem Vals.inj : ∀ {xs ys : List V} {us : List Value}, Vals xs us → Vals ys us → xs = ys
  | _, _, _, .nil, .nil => rfl
  | _, _, _, .cons r t, .cons r' t' => by rw [r.inj r', Vals.inj t t']
section
variable {X : Cx} {pins : List (Addr × Obj)} {σ : St} {H : Hp} {s : Shared} {a : Addr} {xs ys : List V}
theorem SqL.of {K : PySem.W.Frag} (h : H a = some (.lst xs)) : SqL K H a xs := .inl (.inl h)
theorem SqT.of {K : PySem.W.Frag} (h : H a = some (.tup xs)) : SqT K H a xs := .inl (.inl h)
theorem Inv.list (I : Inv X pins σ H s) (h : SqL X.K H a xs) : ∃ its : List Value, Vals xs its ∧ PlainL s.heap a its.toArray ∧ xs.length ≤ sizeLine := by
  rcases h with h | ⟨o, its, n, hk, hc, hd, hs, hz, r⟩
  · obtain ⟨z, its, n, r, e⟩ := h.ok I.hok
    exact ⟨its, r, ⟨_, n, e, rfl, rfl, rfl⟩, z⟩
  · refine ⟨its.toList, r, ⟨o, n, I.kIn a o hk, hc, hd, by simpa using hs⟩, ?_⟩
    have e := r.length
    simp only [Array.length_toList] at e
    omega
theorem Inv.tuple (I : Inv X pins σ H s) (h : SqT X.K H a xs) : ∃ its : List Value, Vals xs its ∧ IsTup s.heap a its.toArray ∧ xs.length ≤ sizeLine := by
  rcases h with h | ⟨o, its, n, hk, hc, hs, hz, r⟩
  · obtain ⟨z, its, r, p⟩ := h.ok I.hok
    exact ⟨its, r, p, z⟩
  · refine ⟨its.toList, r, ⟨o, I.kIn a o hk, hc, n, by simpa using hs⟩, ?_⟩
    have e := r.length
    simp only [Array.length_toList] at e
    omega
theorem Inv.list_inj (I : Inv X pins σ H s) (h : SqL X.K H a xs) (h' : SqL X.K H a ys) : xs = ys := by
  obtain ⟨its, r, ⟨o, n, e, _, _, d⟩, _⟩ := I.list h
  obtain ⟨its', r', ⟨o', n', e', _, _, d'⟩, _⟩ := I.list h'
  rw [e] at e'; cases e'
  rw [d] at d'
  injection d' with d1 _
  have : its = its' := by simpa using congrArg Array.toList d1
  subst this
  exact r.inj r'
theorem Inv.tuple_inj (I : Inv X pins σ H s) (h : SqT X.K H a xs) (h' : SqT X.K H a ys) : xs = ys := by
  obtain ⟨its, r, ⟨o, e, _, n, d⟩, _⟩ := I.tuple h
  obtain ⟨its', r', ⟨o', e', _, n', d'⟩, _⟩ := I.tuple h'
  rw [e] at e'; cases e'
  rw [d] at d'
  injection d' with d1 _
  have : its = its' := by simpa using congrArg Array.toList d1
  subst this
  exact r.inj r'
end

/-! ### another wish about exceptions -/
abbrev Cx.wish (X : Cx) (E : Value → Shared → Prop) : Cx := { X with xe := E }
/-- no exception leaves -/
abbrev Cx.nox (X : Cx) : Cx := X.wish fun _ _ => False
theorem Cx.Ok.wish {X : Cx} (ok : X.Ok) (E : Value → Shared → Prop) : (X.wish E).Ok :=
  ⟨ok.mod, ok.kind, ok.glob, ok.blt, ok.above, ok.inj, ok.has, ok.cab, ok.hd, ok.frames, ok.stk, ok.exf, ok.bs, ok.bsz, ok.noex, ok.exfs, ok.funs, ok.frf⟩
theorem Cx.Ok.unwish {X : Cx} {E : Value → Shared → Prop} (ok : (X.wish E).Ok) : X.Ok :=
  ⟨ok.mod, ok.kind, ok.glob, ok.blt, ok.above, ok.inj, ok.has, ok.cab, ok.hd, ok.frames, ok.stk, ok.exf, ok.bs, ok.bsz, ok.noex, ok.exfs, ok.funs, ok.frf⟩
section
variable {X : Cx} {pins : List (Addr × Obj)} {σ : St} {H : Hp} {s : Shared} {E : Value → Shared → Prop}
theorem Inv.wish (I : Inv X pins σ H s) (E : Value → Shared → Prop) : Inv (X.wish E) pins σ H s := ⟨I.ok.wish E, I.os, I.bare, I.base, I.loc, I.cell, I.free, I.freeC, I.pin, I.hok, I.len⟩
theorem Inv.unwish (I : Inv (X.wish E) pins σ H s) : Inv X pins σ H s := ⟨I.ok.unwish, I.os, I.bare, I.base, I.loc, I.cell, I.free, I.freeC, I.pin, I.hok, I.len⟩
theorem SP.unwish {D : Ends} {f : Flow} {s' : Shared} (h : SP (X.wish E) pins D f s') : SP X pins D f s' := by
  cases f with
  | next => obtain ⟨σ', H', I, q⟩ := h; exact ⟨σ', H', I.unwish, q⟩
  | brk => obtain ⟨σ', H', I, q⟩ := h; exact ⟨σ', H', I.unwish, q⟩
  | cont => obtain ⟨σ', H', I, q⟩ := h; exact ⟨σ', H', I.unwish, q⟩
  | ret u => obtain ⟨v, σ', H', I, r, q⟩ := h; exact ⟨v, σ', H', I.unwish, r, q⟩
theorem PSs.nox {st : List Stmt} {t : TS} (h : PSs X.nox st t) : PSs X st t := fun pins s σ H D I hw =>
  wpAny_mono (h pins s σ H D (I.wish _) hw) (fun _ _ q => q.unwish) fun _ _ z => False.elim z
end

/-! ### blocks and small statements -/
section
variable {X : Cx} {st : Stmt} {rest : List Stmt} {t u : TS} {e : Expr} {te : TE} {pos : Pos}
def tNext : TS := fun D σ H => D.nx σ H
def tSeq (t u : TS) : TS := fun D σ H => t { D with nx := u D } σ H
theorem pss_nil : PSs X [] tNext := fun _ _ σ H _ I h => wpAny_execs_nil ⟨σ, H, I, h⟩
theorem pss_cons (h1 : PS X st t) (h2 : PSs X rest u) : PSs X (st :: rest) (tSeq t u) := by
  intro pins s σ H D I h
  refine wpAny_execs_cons (thn (h1 pins s σ H { D with nx := u D } I h) fun f s1 q => ?_)
  cases f with
  | next =>
    obtain ⟨σ', H', I', q⟩ := q
    exact h2 pins s1 σ' H' D I' q
  | ret v => exact q
  | brk => exact q
  | cont => exact q
theorem pss_one (h1 : PS X st t) : PSs X [st] t := by
  intro pins s σ H D I h
  refine wpAny_execs_cons (thn (h1 pins s σ H D I h) fun f s1 q => ?_)
  cases f with
  | next => exact wpAny_execs_nil q
  | ret v => exact q
  | brk => exact q
  | cont => exact q
def tBreak : TS := fun D σ H => D.bk σ H
def tCont : TS := fun D σ H => D.ct σ H
/-- in a def's body nothing is shown -/
theorem Inv.quiet {pins : List (Addr × Obj)} {σ : St} {H : Hp} {s : Shared} (I : Inv X pins σ H s) : interactive X.env = false := by simp [interactive, I.ok.kind]
/-- an expression whose value is dropped -/
def tDrop (te : TE) : TS := fun D σ H => te σ H fun _ H1 => D.nx σ H1
theorem ps_expr (he : PE X e te) (hs : swapsWith e none pos.line X.env = pure false := by rfl) : PS X (.Expr e pos) (tDrop te) := by
  intro pins s σ H D I h
  exact wpAny_Expr_any (thn (he pins s σ H _ I h) fun v s1 ⟨x, H1, I1, r1, q1⟩ => ⟨σ, H1, I1, q1⟩) I.quiet hs
def tRet (te : TE) : TS := fun D σ H => te σ H D.rt
theorem ps_ret (he : PE X e te) : PS X (.Return (some e) pos) (tRet te) := by
  intro pins s σ H D I h
  exact wpAny_Return_some (thn (he pins s σ H _ I h) fun v s1 ⟨x, H1, I1, r1, q1⟩ => ⟨x, σ, H1, I1, r1, q1⟩)
def tRetN : TS := fun D _ H => D.rt .non H
def tIfS (c : TT) (t u : TS) : TS := fun D σ H => c σ H fun b H1 => if b = true then t D σ H1 else u D σ H1
theorem ps_if {c : Expr} {a b : List Stmt} {tc : TT} (hc : PT X c tc) (ha : PSs X a t) (hb : PSs X b u) : PS X (.If c a b pos) (tIfS tc t u) := by
  intro pins s σ H D I h
  refine wpAny_If (thn (hc pins s σ H _ I h) fun d s1 ⟨H1, I1, q1⟩ => ?_)
  cases d with
  | true => exact ha pins s1 σ H1 D I1 q1
  | false => exact hb pins s1 σ H1 D I1 q1
/-- code that the proof never comes to -/
def tNever : TS := fun _ _ _ => False
theorem pss_never {sts : List Stmt} : PSs X sts tNever := fun _ _ _ _ _ _ h => h.elim
end

/-! ### targets -/
abbrev TG := V → St → Hp → (St → Hp → Prop) → Prop
abbrev TGs := List V → St → Hp → (St → Hp → Prop) → Prop
def PG (X : Cx) (target : Expr) (t : TG) : Prop :=
  ∀ (pins : List (Addr × Obj)) (s : Shared) (σ : St) (H : Hp) (v : V) (u : Value) (Q : St → Hp → Prop), Inv X pins σ H s → RelV v u → t v σ H Q →
    wpAny (model X.prog X.w) X.A (assign target X.env u) (fun _ s' => ∃ σ' H', Inv X pins σ' H' s' ∧ Q σ' H') X.xe s
/-- several targets, one after another -/
def PGs (X : Cx) (ts : List Expr) (t : TGs) : Prop :=
  ∀ (pins : List (Addr × Obj)) (s : Shared) (σ : St) (H : Hp) (vs : List V) (us : List Value) (Q : St → Hp → Prop), Inv X pins σ H s → Vals vs us → t vs σ H Q →
    wpAny (model X.prog X.w) X.A (assignInOrder ((assignEach ts X.env).map (·.2)) us) (fun _ s' => ∃ σ' H', Inv X pins σ' H' s' ∧ Q σ' H') X.xe s
/-- o[i] = v, by values -/
abbrev TSet := V → V → V → Hp → (Hp → Prop) → Prop
def PSet (X : Cx) (t : TSet) : Prop :=
  ∀ (pins : List (Addr × Obj)) (s : Shared) (σ : St) (H : Hp) (o i v : V) (ov iv u : Value) (Q : Hp → Prop), Inv X pins σ H s → RelV o ov → RelV i iv → RelV v u → t o i v H Q →
    wpAny (model X.prog X.w) X.A (setItem ov iv u) (fun _ s' => ∃ H', Inv X pins σ H' s' ∧ Q H') X.xe s
/-- a op= b, by values -/
abbrev TIp := V → V → Hp → VK → Prop
def PIp (X : Cx) (op : Operator) (t : TIp) : Prop :=
  ∀ (pins : List (Addr × Obj)) (s : Shared) (σ : St) (H : Hp) (x y : V) (v u : Value) (Q : VK), Inv X pins σ H s → RelV x v → RelV y u → t x y H Q →
    wpAny (model X.prog X.w) X.A (inplaceOp op v u) (EP X pins σ Q) X.xe s
section
variable {X : Cx} {pos : Pos}
def gName (i : Nat) : TG := fun v σ H Q => Q (σ.set i (some v)) H
theorem pg_name {i : Nat} {x : Str} (hN : X.N.Nodup) (hi : X.N[i]? = some x) (hx : Loc X.env.scope x) (hf : X.fn x = true ∨ X.env.scope.names.lookup x = some .local := by first | exact .inl rfl | exact .inr rfl | assumption) : PG X (.Name x pos) (gName i) := by
  intro pins s σ H v u Q I r h
  exact wpAny_assign_Name (store_ok I hN hi hx r (fun s' I' => ⟨_, H, I', h⟩) hf)
def gNil : TGs := fun vs σ H Q => vs = [] ∧ Q σ H
def gCons (t : TG) (u : TGs) : TGs := fun vs σ H Q => ∃ v r, vs = v :: r ∧ t v σ H fun σ' H' => u r σ' H' Q
theorem pgs_nil : PGs X [] gNil := by
  intro pins s σ H vs us Q I r h
  obtain ⟨e, h⟩ := h
  subst e
  cases r
  exact assignInOrder_nil ⟨σ, H, I, h⟩
theorem pgs_cons {e : Expr} {es : List Expr} {t : TG} {u : TGs} (h1 : PG X e t) (h2 : PGs X es u)
    (hs : (assignEach (e :: es) X.env).map (·.2) = assign e X.env :: (assignEach es X.env).map (·.2) := by rfl) : PGs X (e :: es) (gCons t u) := by
  intro pins s σ H vs us Q I r h
  obtain ⟨v, vr, e1, h⟩ := h
  subst e1
  cases r with
  | cons r rr =>
    rw [hs]
    refine assignInOrder_cons (thn (h1 pins s σ H _ _ _ I r h) fun _ s1 ⟨σ1, H1, I1, q1⟩ => ?_)
    exact h2 pins s1 σ1 H1 _ _ Q I1 rr q1
/-- (a, b, ..) = a tuple of that length -/
def gTup (K : PySem.W.Frag) (n : Nat) (t : TGs) : TG := fun v σ H Q => ∃ a xs, v = .ref a ∧ SqT K H a xs ∧ xs.length = n ∧ t xs σ H Q
theorem pg_tup {es : List Expr} {k : Nat} {t : TGs} {n : Nat} (hc : X.calm = true) (h : PGs X es t)
    (hn : (assignEach es X.env).length = n := by rfl) (hst : (assignEach es X.env).findIdx? (·.1) = none := by rfl) : PG X (.Tuple es k pos) (gTup X.K n t) := by
  intro pins s σ H v u Q I r hw
  obtain ⟨a, xs, e1, hq, hl, hw⟩ := hw
  subst e1
  cases r
  obtain ⟨its, rv, ht, hz⟩ := I.tuple hq
  refine assign_Tuple_tuple (I.ok.hd hc) ht (by simp [hn, ← hl, rv.length]) hst fun h' hx => ?_
  have I1 : Inv X pins σ H { s with heap := h' } := I.kept (t' := s.toks) fun b o e => hx b o (Nat.ne_of_lt (Heap.lt_size e)) e
  exact h pins _ σ H xs _ Q I1 (by simpa using rv) hw
/-- o[i] = .. -/
def gSub (to ti : TE) (t : TSet) : TG := fun v σ H Q => to σ H fun o H1 => ti σ H1 fun i H2 => t o i v H2 fun H3 => Q σ H3
theorem pg_sub {o i : Expr} {to ti : TE} {t : TSet} (ho : PE X o to) (hi : PE X i ti) (hs : PSet X t)
    (ha : ∀ v, assign (.Subscript o i pos) X.env v = (do
      let ov ← holding [v] (eval o X.env)
      let iv ← holding [v, ov] (eval i X.env)
      standAt pos
      holding [v, ov, iv] (setItem ov iv v)
      release [v, ov, iv] []) := by intro _; rfl) : PG X (.Subscript o i pos) (gSub to ti t) := by
  intro pins s σ H v u Q I r h
  rw [ha]
  refine wpAny_bind (wpAny_holding (thn (ho pins s σ H _ I h) fun ov s1 ⟨x, H1, I1, r1, q1⟩ => ?_))
  refine wpAny_bind (wpAny_holding (thn (hi pins s1 σ H1 _ I1 q1) fun iv s2 ⟨y, H2, I2, r2, q2⟩ => ?_))
  refine wpAny_bind (wpAny_standAt (wpAny_bind (wpAny_holding (thn (hs pins s2 σ H2 x y v ov iv u _ I2 r1 r2 r q2) fun _ s3 ⟨H3, I3, q3⟩ => ?_))))
  exact wpAny_release ⟨σ, H3, I3, q3⟩
/-- target = value -/
def tAsg (te : TE) (g : TG) : TS := fun D σ H => te σ H fun x H1 => g x σ H1 D.nx
theorem ps_asg {tg e : Expr} {te : TE} {g : TG} (he : PE X e te) (hg : PG X tg g) (hs : swapsWithSole [tg] e pos.line X.env = pure false := by rfl) (hw : swappedStores [tg] e X.env = pure none := by rfl)
    (h1 : (assignEach [tg] X.env).map (·.2) = [assign tg X.env] := by rfl) : PS X (.Assign [tg] e pos) (tAsg te g) := by
  intro pins s σ H D I h
  refine wpAny_Assign_stores (thn (he pins s σ H _ I h) fun v s1 ⟨x, H1, I1, r1, q1⟩ => ?_) hs hw
  rw [h1]
  exact thn (hg pins s1 σ H1 x v _ I1 r1 q1) fun _ s2 q => q
/-- name = value -/
theorem ps_set {i : Nat} {x : Str} {e : Expr} {te : TE} {pos' : Pos} (hN : X.N.Nodup) (hi : X.N[i]? = some x) (hx : Loc X.env.scope x) (he : PE X e te) (hs : swapsWith e (some (.Name x pos')) pos.line X.env = pure false := by rfl) (hf : X.fn x = true ∨ X.env.scope.names.lookup x = some .local := by first | exact .inl rfl | exact .inr rfl | assumption) :
    PS X (.Assign [.Name x pos'] e pos) (tAsg te (gName i)) := by
  intro pins s σ H D I h
  refine wpAny_Assign_Name (thn (he pins s σ H _ I h) fun v s1 ⟨y, H1, I1, r1, q1⟩ => ?_) hs
  exact store_ok I1 hN hi hx r1 (fun s2 I2 => ⟨_, H1, I2, q1⟩) hf
/-- a, b = x, y with plain local names: stored from the right; the pair itself is not tracked (the opening rows as in PyProof/Rows/TupAssign.lean:23) -/
def tPar (i j : Nat) (ta : TA) : TS := fun D σ H => ta σ H fun vs H1 => ∃ v w, vs = [v, w] ∧ D.nx ((σ.set i (some v)).set j (some w)) H1
/-- name op= e -/
def tAug (i : Nat) (te : TE) (ti : TIp) : TS := fun D σ H => ∃ x, σ[i]? = some (some x) ∧ te σ H fun y H1 => ti x y H1 fun z H2 => D.nx (σ.set i (some z)) H2
/-- o[i] op= e -/
def tAugS (to ti te : TE) (tget : V → V → Hp → VK → Prop) (tip : TIp) (tset : TSet) : TS := fun D σ H => to σ H fun o H1 => ti σ H1 fun i H2 => tget o i H2 fun x H3 => te σ H3 fun y H4 => tip x y H4 fun z H5 => tset o i z H5 fun H6 => D.nx σ H6
/-- o[i], by values -/
def PGet (X : Cx) (t : V → V → Hp → VK → Prop) : Prop :=
  ∀ (pins : List (Addr × Obj)) (s : Shared) (σ : St) (H : Hp) (o i : V) (ov iv : Value) (Q : VK), Inv X pins σ H s → RelV o ov → RelV i iv → t o i H Q →
    wpAny (model X.prog X.w) X.A (getItem ov iv) (EP X pins σ Q) X.xe s
/-- ints -/
def ipI (f : Int → Int → Int) : TIp := fun x y H Q => ∃ i j, x = .int i ∧ y = .int j ∧ Q (.int (f i j)) H
end

/-! ### while -/
section
variable {X : Cx} {pos : Pos}
/-- the invariant W with its measure -/
def tWhile (c : TT) (tb : TS) : TS := fun D σ H => ∃ W : Nat → St → Hp → Prop, (∃ m, W m σ H) ∧ ∀ m σ H, W m σ H →
  c σ H fun b H1 => if b = true then ∃ N : St → Hp → Prop, (∀ σ' H', N σ' H' → ∃ m', m' < m ∧ W m' σ' H') ∧ tb { D with nx := N, ct := N, bk := D.nx } σ H1 else D.nx σ H1
end

/-! ### what a loop or a comprehension walks -/
/-- at turn i: it yields x (the heap may grow), or it stops -/
structure It where
  go : Nat → Hp → Prop
  yld : Nat → Hp → V → Hp → Prop
  stop : Nat → Hp → Prop
/-- the iterator's own objects may turn: they are not the frame's, not pinned, younger than the entry (or a comprehension's own) -/
def FpOk (X : Cx) (pins : List (Addr × Obj)) (H : Hp) (b : Addr) : Prop :=
  H b = none ∧ b ≠ X.env.locals ∧ b ∉ X.fs ∧ (b ∈ X.ex ∨ X.s₀.heap.objs.size ≤ b) ∧ (∀ x c, X.env.cells.lookup x = some c → c ≠ b) ∧ ∀ p ∈ X.pn ++ pins, p.1 ≠ b
theorem Inv.fpOk {X : Cx} {pins : List (Addr × Obj)} {σ : St} {H H' : Hp} {s : Shared} {b : Addr} (I : Inv X pins σ H s) (hb : s.heap.objs.size ≤ b) (hn : H' b = none) : FpOk X pins H' b := by
  refine ⟨hn, Nat.ne_of_gt (Nat.lt_of_lt_of_le I.lt hb), I.nofs hb, .inr (Nat.le_trans I.sz hb), fun x c e z => ?_, fun p hp z => ?_⟩
  · obtain ⟨v, q⟩ := I.cell x c e
    exact absurd (Nat.lt_of_lt_of_le q.lt (by rw [z]; exact hb)) (Nat.lt_irrefl _)
  · exact absurd (Nat.lt_of_lt_of_le (Heap.lt_size (I.pin p hp).1) (by rw [z]; exact hb)) (Nat.lt_irrefl _)
structure Turn (P : Program) (w : World) (K : PySem.W.Frag) (tg : Expr) (J : It) (fp : List Addr) (it : Addr) (tn : Nat → Heap → Prop) : Prop where
  mem : it ∈ fp
  obj : ∀ i h, tn i h → ∀ b ∈ fp, ∃ o, h.get? b = some o ∧ ∀ v, o.data ≠ .cell v
  keep : ∀ i h h', tn i h → (∀ b ∈ fp, ∀ o, h.get? b = some o → h'.get? b = some o) → tn i h'
  item : ∀ (X : Cx), X.prog = P → X.w = w → X.K = K → X.calm = true → ∀ (i : Nat) (pins : List (Addr × Obj)) (s : Shared) (σ : St) (H : Hp) (E : Value → Shared → Prop), Inv X pins σ H s → (∀ b ∈ fp, FpOk X pins H b) → tn i s.heap → J.go i H →
    wpAny (model P w) X.A (pyNext (.ref it)) (fun r s1 => ∃ u, r = some u ∧
      wpAny (model P w) X.A (letOwnedTupleGo tg (.ref it) u) (fun _ s2 => ∃ x H', Inv X pins σ H' s2 ∧ RelV x u ∧ J.yld i H x H' ∧ tn (i + 1) s2.heap ∧ ∀ b ∈ fp, H' b = none) E s1) E s
  done : ∀ (X : Cx), X.prog = P → X.w = w → X.K = K → X.calm = true → ∀ (i : Nat) (pins : List (Addr × Obj)) (s : Shared) (σ : St) (H : Hp) (E : Value → Shared → Prop), Inv X pins σ H s → (∀ b ∈ fp, FpOk X pins H b) → tn i s.heap → J.stop i H →
    wpAny (model P w) X.A (pyNext (.ref it)) (fun r s1 => r = none ∧ Inv X pins σ H s1) E s
  self : ∀ (A : Around) (i : Nat) (s : Shared) (Q : Value → Shared → Prop) (E : Value → Shared → Prop), tn i s.heap → Q (.ref it) s → wpAny (model P w) A (pyIter (.ref it)) Q E s
abbrev TI := St → Hp → (It → Hp → Prop) → Prop
/-- an iterator has come -/
def PIE (X : Cx) (pins : List (Addr × Obj)) (σ : St) (tg : Expr) (R : It → Hp → Prop) (itv : Value) (s2 : Shared) : Prop :=
  ∃ (it : Addr) (fp : List Addr) (tn : Nat → Heap → Prop) (J : It) (H' : Hp), itv = .ref it ∧ Inv X pins σ H' s2 ∧ Turn X.prog X.w X.K tg J fp it tn ∧ tn 0 s2.heap ∧ (∀ b ∈ fp, FpOk X pins H' b) ∧ R J H'
def PI (X : Cx) (tg iter : Expr) (wi : TI) : Prop :=
  ∀ (pins : List (Addr × Obj)) (s : Shared) (σ : St) (H : Hp) (R : It → Hp → Prop), Inv X pins σ H s → wi σ H R →
    wpAny (model X.prog X.w) X.A (eval iter X.env) (fun v s1 => wpAny (model X.prog X.w) X.A (pyIter v) (PIE X pins σ tg R) X.xe s1) X.xe s

/-- the step ahead of the store is nothing for an iterator that keeps no tuple -/
theorem go_of {M : Model} {A : Around} {E : Value → Shared → Prop} {s : Shared} {tg : Expr} {it : Addr} {u : Value} {o : Obj} {n : String} {vs : Array Value} {Q : Unit → Shared → Prop} (ho : s.heap.get? it = some o) (hc : o.cls = .type n) (hd : o.data = .fields vs)
    (hn : ["enumerate", "zip", "dict_itemiterator", "dict_reverseitemiterator", "odict_iterator", "itertools.zip_longest", "itertools.pairwise"].contains n = false) (hQ : Q () s) : wpAny M A (letOwnedTupleGo tg (.ref it) u) Q E s := by
  unfold letOwnedTupleGo
  cases tg <;> first
    | exact wpAny_pure hQ
    | (cases u <;> first
        | exact wpAny_pure hQ
        | (refine wpAny_bind (wpAny_load ho ?_)
           rw [hc, hd]
           show wpAny M A (if (["enumerate", "zip", "dict_itemiterator", "dict_reverseitemiterator", "odict_iterator", "itertools.zip_longest", "itertools.pairwise"].contains n && vs[0]? == some (rawInt _)) = true then _ else _) Q E s
           rw [if_neg (by intro h; rw [hn, Bool.false_and] at h; cases h)]
           exact wpAny_pure hQ))

/-- the list at a, as it stands at each turn (a loop may append to it) -/
def Itl (K : PySem.W.Frag) (a : Addr) : It :=
  ⟨fun i H => ∃ xs x, SqL K H a xs ∧ xs[i]? = some x, fun i H x H' => H' = H ∧ ∀ xs, SqL K H a xs → xs[i]? = some x, fun i H => ∃ xs, SqL K H a xs ∧ xs.length ≤ i⟩
def Itt (K : PySem.W.Frag) (a : Addr) : It :=
  ⟨fun i H => ∃ xs x, SqT K H a xs ∧ xs[i]? = some x, fun i H x H' => H' = H ∧ ∀ xs, SqT K H a xs → xs[i]? = some x, fun i H => ∃ xs, SqT K H a xs ∧ xs.length ≤ i⟩
/-- lo, lo + 1, .. (n of them) -/
def Itr (lo : Int) (n : Nat) : It := ⟨fun i _ => i < n, fun i H x H' => H' = H ∧ x = .int (lo + i), fun i _ => n ≤ i⟩
theorem turn_list {P : Program} {w : World} {K : PySem.W.Frag} {tg : Expr} (a it : Addr) : Turn P w K tg (Itl K a) [it] it (fun i h => h.IsListIter it a i) where
  mem := by simp
  obj := fun i h st b hb => by
    have e : b = it := by simpa using hb
    subst e
    obtain ⟨o, e, c, d⟩ := st
    exact ⟨o, e, fun v z => by rw [d] at z; cases z⟩
  keep := fun i h h' st k => st.at fun o e => k it (by simp) o e
  item := by
    intro X hP hw hK hc i pins s σ H E I hf st hg
    subst hP hw hK
    obtain ⟨xs, x, hq, hx⟩ := hg
    obtain ⟨its, rv, p, hz⟩ := I.list hq
    obtain ⟨u, hu, ru⟩ := rv.get hx
    obtain ⟨f0, f1, f2, f3, f4, f5⟩ := hf it (by simp)
    refine wpAny_pyNext_list_item st p.isList (x := u) (by simpa using hu) fun h' st' sb => ?_
    have I1 : Inv X pins σ H { s with heap := h' } := I.turned (t' := s.toks) (fun b o hb e => (sb.2 b hb).trans e) f0 f1 f3 f4 f5
    obtain ⟨o, e, c, d⟩ := id st'
    exact ⟨u, rfl, go_of (s := { s with heap := h' }) e c d (by decide) ⟨x, H, I1, ru, ⟨rfl, fun ys hy => by rw [I.list_inj hy hq]; exact hx⟩, st', fun b hb => (hf b hb).1⟩⟩
  done := by
    intro X hP hw hK hc i pins s σ H E I hf st hg
    subst hP hw hK
    obtain ⟨xs, hq, hx⟩ := hg
    obtain ⟨its, rv, p, hz⟩ := I.list hq
    obtain ⟨f0, f1, f2, f3, f4, f5⟩ := hf it (by simp)
    have hl := rv.length
    exact wpAny_pyNext_list_end (I.ok.hd hc) st p.isList (by simp; omega) fun h' eb => ⟨rfl, I.turned (t' := s.toks) (fun b o hb e => eb b o hb e) f0 f1 f3 f4 f5⟩
  self := fun _ _ _ _ _ st h => wpAny_pyIter_listiter st h
theorem turn_tuple {P : Program} {w : World} {K : PySem.W.Frag} {tg : Expr} (a it : Addr) : Turn P w K tg (Itt K a) [it] it (fun i h => h.IsTupleIter it a i) where
  mem := by simp
  obj := fun i h st b hb => by
    have e : b = it := by simpa using hb
    subst e
    obtain ⟨o, e, c, d⟩ := st
    exact ⟨o, e, fun v z => by rw [d] at z; cases z⟩
  keep := fun i h h' st k => st.at fun o e => k it (by simp) o e
  item := by
    intro X hP hw hK hc i pins s σ H E I hf st hg
    subst hP hw hK
    obtain ⟨xs, x, hq, hx⟩ := hg
    obtain ⟨its, rv, p, hz⟩ := I.tuple hq
    obtain ⟨u, hu, ru⟩ := rv.get hx
    obtain ⟨f0, f1, f2, f3, f4, f5⟩ := hf it (by simp)
    refine wpAny_pyNext_tuple_item st (show s.heap.IsTuple a its.toArray from p) (x := u) (by simpa using hu) fun h' st' sb => ?_
    have I1 : Inv X pins σ H { s with heap := h' } := I.turned (t' := s.toks) (fun b o hb e => (sb.2 b hb).trans e) f0 f1 f3 f4 f5
    obtain ⟨o, e, c, d⟩ := id st'
    exact ⟨u, rfl, go_of (s := { s with heap := h' }) e c d (by decide) ⟨x, H, I1, ru, ⟨rfl, fun ys hy => by rw [I.tuple_inj hy hq]; exact hx⟩, st', fun b hb => (hf b hb).1⟩⟩
  done := by
    intro X hP hw hK hc i pins s σ H E I hf st hg
    subst hP hw hK
    obtain ⟨xs, hq, hx⟩ := hg
    obtain ⟨its, rv, p, hz⟩ := I.tuple hq
    obtain ⟨f0, f1, f2, f3, f4, f5⟩ := hf it (by simp)
    have hl := rv.length
    exact wpAny_pyNext_tuple_end (I.ok.hd hc) st (show s.heap.IsTuple a its.toArray from p) (by simp; omega) fun h' eb => ⟨rfl, I.turned (t' := s.toks) (fun b o hb e => eb b o hb e) f0 f1 f3 f4 f5⟩
  self := fun _ _ _ _ _ st h => wpAny_pyIter_tupleiter st h
theorem turn_range {P : Program} {w : World} {K : PySem.W.Frag} {tg : Expr} (it : Addr) (lo : Int) (n : Nat) : Turn P w K tg (Itr lo n) [it] it (fun i h => IsRangeIter h it (lo + (i : Nat) * 1) ((n : Int) - (i : Nat)) 1) where
  mem := by simp
  obj := fun i h st b hb => by
    have e : b = it := by simpa using hb
    subst e
    exact ⟨_, st, fun v z => by
      have z' : Data.fields _ = Data.cell v := z
      cases z'⟩
  keep := fun i h h' st k => k it (by simp) _ st
  item := by
    intro X hP hw hK hc i pins s σ H E I hf st hg
    subst hP hw hK
    obtain ⟨f0, f1, f2, f3, f4, f5⟩ := hf it (by simp)
    have W := Walks.range (prog := X.prog) (w := X.w) (I.ok.hd hc) it lo 1 n
    refine W.item i s _ _ hg st fun v h' tk hv st' kk => ?_
    obtain ⟨t, rfl⟩ := hv
    have I1 : Inv X pins σ H { s with heap := h', toks := tk } := I.turned (fun b o hb e => kk b o (by simpa using hb) e) f0 f1 f3 f4 f5
    refine ⟨_, rfl, go_of (s := { s with heap := h', toks := tk }) (n := "range_iterator") st' rfl rfl (by decide) ⟨.int (lo + i), H, I1, ⟨t, ?_⟩, ⟨rfl, rfl⟩, st', fun b hb => (hf b hb).1⟩⟩
    rw [Int.mul_one]
  done := by
    intro X hP hw hK hc i pins s σ H E I hf st hg
    subst hP hw hK
    obtain ⟨f0, f1, f2, f3, f4, f5⟩ := hf it (by simp)
    exact wpAny_pyNext_range_end (I.ok.hd hc) st (by have : n ≤ i := hg; omega) fun h' eb => ⟨rfl, I.turned (t' := s.toks) (fun b o hb e => eb b o hb e) f0 f1 f3 f4 f5⟩
  self := fun _ _ _ _ _ st h => wpAny_pyIter_rangeiter st h
end L2

namespace L2
open PySem PySem.Spec PyProof.Rows
section
variable {X : Cx} {tg : Expr}
def iList (K : PySem.W.Frag) (tl : TE) : TI := fun σ H R => tl σ H fun x H1 => ∃ a, x = .ref a ∧ (∃ xs, SqL K H1 a xs) ∧ R (Itl K a) H1
def iTup (K : PySem.W.Frag) (tl : TE) : TI := fun σ H R => tl σ H fun x H1 => ∃ a, x = .ref a ∧ (∃ xs, SqT K H1 a xs) ∧ R (Itt K a) H1
theorem pi_list {l : Expr} {tl : TE} (hl : PE X l tl) : PI X tg l (iList X.K tl) := by
  intro pins s σ H R I h
  refine thn (hl pins s σ H _ I h) fun v s1 ⟨x, H1, I1, r1, q1⟩ => ?_
  obtain ⟨a, e, ⟨xs, hq⟩, q⟩ := q1
  subst e
  cases r1
  obtain ⟨its, rv, p, hz⟩ := I1.list hq
  refine wpAny_pyIter_list p.isList ?_
  refine ⟨s1.heap.objs.size, [s1.heap.objs.size], _, _, H1, rfl, I1.kept (t' := s1.toks) fun b o e => Heap.get?_push_of_some _ e, turn_list a _, ⟨_, Heap.get?_push_size _ rfl, rfl, rfl⟩, fun b hb => ?_, q⟩
  have e : b = s1.heap.objs.size := by simpa using hb
  subst e
  exact I1.fpOk (Nat.le_refl _) (I1.hok.fresh (Nat.le_refl _))
theorem pi_tup {l : Expr} {tl : TE} (hl : PE X l tl) : PI X tg l (iTup X.K tl) := by
  intro pins s σ H R I h
  refine thn (hl pins s σ H _ I h) fun v s1 ⟨x, H1, I1, r1, q1⟩ => ?_
  obtain ⟨a, e, ⟨xs, hq⟩, q⟩ := q1
  subst e
  cases r1
  obtain ⟨its, rv, p, hz⟩ := I1.tuple hq
  refine wpAny_pyIter_tuple (show s1.heap.IsTuple a its.toArray from p) ?_
  refine ⟨s1.heap.objs.size, [s1.heap.objs.size], _, _, H1, rfl, I1.kept (t' := s1.toks) fun b o e => Heap.get?_push_of_some _ e, turn_tuple a _, ⟨_, Heap.get?_push_size _ rfl, rfl, rfl⟩, fun b hb => ?_, q⟩
  have e : b = s1.heap.objs.size := by simpa using hb
  subst e
  exact I1.fpOk (Nat.le_refl _) (I1.hok.fresh (Nat.le_refl _))
/-- a range object just made, walked -/
theorem range_it {pins : List (Addr × Obj)} {σ : St} {H : Hp} {s : Shared} {R : It → Hp → Prop} {E : Value → Shared → Prop} {lo hi : Int} {t u v : Tok} {tk : Nat} (I : Inv X pins σ H s) (h1 : -(2 ^ 62) ≤ lo) (h2 : lo < 2 ^ 62) (h3 : -(2 ^ 62) ≤ hi) (h4 : hi < 2 ^ 62)
    (q : R (Itr lo (hi - lo).toNat) H) : wpAny (model X.prog X.w) X.A (pyIter (.ref s.heap.objs.size)) (PIE X pins σ tg R) E { s with heap := s.heap.push { cls := .type "range", data := .fields #[.int lo t, .int hi u, .int 1 v] }, toks := tk } := by
  refine wpAny_pyIter_range (IsRange.new ..) (small_one h1 h2 h3 h4) ?_
  have I1 : Inv X pins σ H { s with heap := s.heap.push { cls := .type "range", data := .fields #[.int lo t, .int hi u, .int 1 v] }, toks := tk } := I.kept fun b o e => Heap.get?_push_of_some _ e
  refine ⟨(s.heap.push { cls := .type "range", data := .fields #[.int lo t, .int hi u, .int 1 v] }).objs.size, [(s.heap.push { cls := .type "range", data := .fields #[.int lo t, .int hi u, .int 1 v] }).objs.size], _, _, H, rfl,
    I1.kept (t' := tk) fun b o e => Heap.get?_push_of_some _ e, turn_range _ lo (hi - lo).toNat, ?_, fun b hb => ?_, q⟩
  · have e1 : lo + ((0 : Nat) : Int) * 1 = lo := by simp
    have e2 : (((hi - lo).toNat : Nat) : Int) - ((0 : Nat) : Int) = Builtin.Range.rangeSize lo hi 1 := by rw [rangeSize_one]; split <;> omega
    show IsRangeIter _ _ (lo + ((0 : Nat) : Int) * 1) ((((hi - lo).toNat : Nat) : Int) - ((0 : Nat) : Int)) 1
    rw [e1, e2]
    exact Heap.get?_push_size _ rfl
  · have e : b = (s.heap.push { cls := .type "range", data := .fields #[.int lo t, .int hi u, .int 1 v] }).objs.size := by simpa using hb
    subst e
    exact I1.fpOk (Nat.le_refl _) (I1.hok.fresh (Nat.le_refl _))
def iRng1 (ta : TA) : TI := fun σ H R => ta σ H fun vs H1 => ∃ j : Int, vs = [.int j] ∧ -(2 ^ 62) ≤ j ∧ j < 2 ^ 62 ∧ R (Itr 0 j.toNat) H1
def iRng2 (ta : TA) : TI := fun σ H R => ta σ H fun vs H1 => ∃ i j : Int, vs = [.int i, .int j] ∧ (-(2 ^ 62) ≤ i ∧ i < 2 ^ 62 ∧ -(2 ^ 62) ≤ j ∧ j < 2 ^ 62) ∧ R (Itr i (j - i).toNat) H1
theorem pi_range1 {a : Expr} {ta : TA} {p pos : Pos} (hg : Gl X "range") (hm : X.mg "range" = none) (ha : PA X [a] ta) (hs : starEach [a] X.env = [(false, eval a X.env)] := by rfl) : PI X tg (.Call (.Name "range" p) [a] [] pos) (iRng1 ta) := by
  intro pins s σ H R I h
  refine Call_ (ld_blt I hg hm boot_range (PyProof.Rows.callWith_type1 (thn (ha pos pins s σ H _ I h) fun us s1 ⟨vs, H1, I1, r1, q1⟩ => ?_) hs rfl))
  obtain ⟨j, e, q1, q2, q⟩ := q1
  subst e
  cases r1 with
  | cons r rr =>
    cases rr
    obtain ⟨t, rfl⟩ := r
    exact call_range_1 (range_it I1 (by omega) (by omega) q1 q2 (by simpa using q))
/-! ### for -/
/-- W: the invariant by the turn and a measure; N: what the body is to reach -/
def tFor (wi : TI) (g : TG) (tb : TS) : TS := fun D σ H => wi σ H fun J H1 => ∃ W : Nat → Nat → St → Hp → Prop, (∃ m, W 0 m σ H1) ∧ ∀ i m σ H, W i m σ H →
  (J.stop i H ∧ D.nx σ H) ∨ (J.go i H ∧ ∃ N : St → Hp → Prop, (∀ σ' H', N σ' H' → ∃ m', m' < m ∧ W (i + 1) m' σ' H') ∧ ∀ x H', J.yld i H x H' → g x σ H' fun σ2 H2 => tb { D with nx := N, ct := N, bk := D.nx } σ2 H2)
/-- the records at fp as they stand -/
def pinsAt (fp : List Addr) (h : Heap) : List (Addr × Obj) := fp.filterMap fun b => (h.get? b).map fun o => (b, o)
theorem mem_pinsAt {fp : List Addr} {h : Heap} {b : Addr} {o : Obj} (hb : b ∈ fp) (e : h.get? b = some o) : (b, o) ∈ pinsAt fp h := List.mem_filterMap.mpr ⟨b, hb, by rw [e]; rfl⟩
theorem of_pinsAt {fp : List Addr} {h : Heap} {p : Addr × Obj} (hp : p ∈ pinsAt fp h) : p.1 ∈ fp ∧ h.get? p.1 = some p.2 := by
  obtain ⟨b, hb, e⟩ := List.mem_filterMap.mp hp
  cases q : h.get? b with
  | none => rw [q] at e; cases e
  | some o =>
    rw [q] at e
    have e' : (b, o) = p := Option.some.inj e
    subst e'
    exact ⟨hb, q⟩
theorem Inv.pinned {pins : List (Addr × Obj)} {σ : St} {H : Hp} {s : Shared} {fp : List Addr} (I : Inv X pins σ H s) (hf : ∀ b ∈ fp, FpOk X pins H b) (ho : ∀ b ∈ fp, ∃ o, s.heap.get? b = some o ∧ ∀ v, o.data ≠ .cell v) : Inv X (pins ++ pinsAt fp s.heap) σ H s :=
  I.pins_of fun p hp => (List.mem_append.mp hp).elim (fun z => I.pin p (List.mem_append_right _ z)) fun z => by
    obtain ⟨hb, e⟩ := of_pinsAt z
    obtain ⟨f0, f1, f2, _⟩ := hf p.1 hb
    obtain ⟨o, e', d⟩ := ho p.1 hb
    rw [e] at e'; cases e'
    exact ⟨e, f0, f1, f2, d⟩
theorem Inv.unpinned {pins pl : List (Addr × Obj)} {σ : St} {H : Hp} {s : Shared} (I : Inv X (pins ++ pl) σ H s) : Inv X pins σ H s := I.pins_of fun p hp => I.pin p (List.mem_append_right _ (List.mem_append_left _ hp))
theorem ps_for {iter : Expr} {body : List Stmt} {wi : TI} {g : TG} {tb : TS} {pos : Pos} (hp : PassesOwn (model X.prog X.w) X.A X.env X.xe) (hc : X.calm = true) (hi : PI X tg iter wi) (hg : PG X tg g) (hb : PSs X body tb)
    (hs : ∀ x, foldedSetIterable iter X.env x = pure x := by intro _; rfl) : PS X (.For tg iter body [] pos) (tFor wi g tb) := by
  intro pins s σ H D I h
  refine wpAny_For (thn (hi pins s σ H _ I h) fun v s1 h1 => thn h1 fun itv s2 h2 => ?_) hs
  obtain ⟨it, fp, tn, J, H2, e, I2, T, st2, f2, W, ⟨m0, w0⟩, turn⟩ := h2
  subst e
  -- what stays true of the iterator's objects through the loop
  have stat : ∀ {H' : Hp}, (∀ b ∈ fp, H' b = none) → ∀ b ∈ fp, FpOk X pins H' b := fun hn b hb => ⟨hn b hb, (f2 b hb).2⟩
  refine codeAny_forLoop_any (fun n s' => ∃ i σ' H', Inv X pins σ' H' s' ∧ tn i s'.heap ∧ (∀ b ∈ fp, H' b = none) ∧ W i n σ' H') ?_ m0 ⟨0, σ, H2, I2, st2, fun b hb => (f2 b hb).1, w0⟩
  rintro n s3 ⟨i, σ3, H3, I3, st3, fr3, w3⟩
  rcases turn i n σ3 H3 w3 with ⟨stop, qn⟩ | ⟨go, N, hN, step⟩
  · refine wpAny_passesOwn hp (thn (T.done X rfl rfl rfl hc i pins s3 σ3 H3 X.xe I3 (stat fr3) st3 stop) fun r s4 ⟨hr, I4⟩ => ?_)
    subst hr
    exact wpAny_execs_nil ⟨σ3, H3, I4, qn⟩
  · refine wpAny_passesOwn hp (thn (T.item X rfl rfl rfl hc i pins s3 σ3 H3 X.xe I3 (stat fr3) st3 go) fun r s4 ⟨u, hr, h4⟩ => ?_)
    subst hr
    refine wpAny_passesOwn hp (thn h4 fun _ s5 ⟨x, H5, I5, r5, y5, st5, fr5⟩ => ?_)
    have I5' := I5.pinned (stat fr5) (T.obj _ _ st5)
    refine wpAny_passesOwn hp (thn (hg _ s5 σ3 H5 x u _ I5' r5 (step x H5 y5)) fun _ s6 ⟨σ6, H6, I6, q6⟩ => ?_)
    refine wpAny_passesOwn hp (thn (hb _ s6 σ6 H6 _ I6 q6) fun f s7 q7 => ?_)
    have again : ∀ {σ7 : St} {H7 : Hp}, Inv X (pins ++ pinsAt fp s5.heap) σ7 H7 s7 → N σ7 H7 → ∃ m, m < n ∧ ∃ i σ' H', Inv X pins σ' H' s7 ∧ tn i s7.heap ∧ (∀ b ∈ fp, H' b = none) ∧ W i m σ' H' := fun {σ7 H7} I7 n7 => by
      obtain ⟨m', hm, w7⟩ := hN σ7 H7 n7
      refine ⟨m', hm, i + 1, σ7, H7, I7.unpinned, T.keep _ _ _ st5 fun b hb o e => (I7.pin (b, o) (List.mem_append_right _ (List.mem_append_right _ (mem_pinsAt hb e)))).1, fun b hb => ?_, w7⟩
      obtain ⟨o, e, d⟩ := T.obj _ _ st5 b hb
      exact (I7.pin (b, o) (List.mem_append_right _ (List.mem_append_right _ (mem_pinsAt hb e)))).2.1
    cases f with
    | next => obtain ⟨σ7, H7, I7, n7⟩ := q7; exact again I7 n7
    | cont => obtain ⟨σ7, H7, I7, n7⟩ := q7; exact again I7 n7
    | brk => obtain ⟨σ7, H7, I7, q7⟩ := q7; exact ⟨σ7, H7, I7.unpinned, q7⟩
    | ret v => obtain ⟨x7, σ7, H7, I7, r7, q7⟩ := q7; exact ⟨x7, σ7, H7, I7.unpinned, r7, q7⟩
end

/-! ### the forms one uses -/
/-- over a list that the body leaves as it is -/
theorem for_list {K : PySem.W.Frag} {a : Addr} {xs : List V} {g : TG} {tb : TS} {D : Ends} {σ : St} {H : Hp} (Pv : Nat → St → Hp → Prop) (h0 : Pv 0 σ H) (hl : ∀ i σ H, i ≤ xs.length → Pv i σ H → SqL K H a xs)
    (hs : ∀ i x σ H, xs[i]? = some x → Pv i σ H → g x σ H fun σ2 H2 => tb { D with nx := Pv (i + 1), ct := Pv (i + 1), bk := D.nx } σ2 H2) (hd : ∀ σ H, Pv xs.length σ H → D.nx σ H) :
    ∃ W : Nat → Nat → St → Hp → Prop, (∃ m, W 0 m σ H) ∧ ∀ i m σ H, W i m σ H →
      ((Itl K a).stop i H ∧ D.nx σ H) ∨ ((Itl K a).go i H ∧ ∃ N : St → Hp → Prop, (∀ σ' H', N σ' H' → ∃ m', m' < m ∧ W (i + 1) m' σ' H') ∧ ∀ x H', (Itl K a).yld i H x H' → g x σ H' fun σ2 H2 => tb { D with nx := N, ct := N, bk := D.nx } σ2 H2) := by
  refine ⟨fun i m σ H => m = xs.length - i ∧ i ≤ xs.length ∧ Pv i σ H, ⟨xs.length, by simp, Nat.zero_le _, h0⟩, ?_⟩
  rintro i m σ H ⟨rfl, hi, p⟩
  have q := hl i σ H hi p
  by_cases hlt : i < xs.length
  · refine .inr ⟨⟨xs, xs[i], q, by simp [hlt]⟩, Pv (i + 1), fun σ' H' p' => ⟨xs.length - (i + 1), by omega, rfl, hlt, p'⟩, fun x H' y => ?_⟩
    obtain ⟨e, y⟩ := y
    subst e
    exact hs i x σ _ (y xs q) p
  · have e : i = xs.length := by omega
    subst e
    exact .inl ⟨⟨xs, q, Nat.le_refl _⟩, hd σ H p⟩
theorem for_range {lo : Int} {n : Nat} {g : TG} {tb : TS} {D : Ends} {σ : St} {H : Hp} (Pv : Nat → St → Hp → Prop) (h0 : Pv 0 σ H)
    (hs : ∀ i σ H, i < n → Pv i σ H → g (.int (lo + i)) σ H fun σ2 H2 => tb { D with nx := Pv (i + 1), ct := Pv (i + 1), bk := D.nx } σ2 H2) (hd : ∀ σ H, Pv n σ H → D.nx σ H) :
    ∃ W : Nat → Nat → St → Hp → Prop, (∃ m, W 0 m σ H) ∧ ∀ i m σ H, W i m σ H →
      ((Itr lo n).stop i H ∧ D.nx σ H) ∨ ((Itr lo n).go i H ∧ ∃ N : St → Hp → Prop, (∀ σ' H', N σ' H' → ∃ m', m' < m ∧ W (i + 1) m' σ' H') ∧ ∀ x H', (Itr lo n).yld i H x H' → g x σ H' fun σ2 H2 => tb { D with nx := N, ct := N, bk := D.nx } σ2 H2) := by
  refine ⟨fun i m σ H => m = n - i ∧ i ≤ n ∧ Pv i σ H, ⟨n, by simp, Nat.zero_le _, h0⟩, ?_⟩
  rintro i m σ H ⟨rfl, hi, p⟩
  by_cases hlt : i < n
  · refine .inr ⟨hlt, Pv (i + 1), fun σ' H' p' => ⟨n - (i + 1), by omega, rfl, hlt, p'⟩, fun x H' y => ?_⟩
    obtain ⟨e, y⟩ := y
    subst e y
    exact hs i σ _ hlt p
  · have e : i = n := by omega
    subst e
    exact .inl ⟨Nat.le_refl _, hd σ H p⟩
end L2

namespace L2
open PySem PySem.Spec PyProof.Rows

abbrev R2 := V → V → Hp → VK → Prop
/-- a two-place operation on values: f is binaryOp op, inplaceOp op or compareOp op -/
def OpR (X : Cx) (f : Value → Value → Sem Value) (r : R2) : Prop :=
  ∀ (pins : List (Addr × Obj)) (s : Shared) (σ : St) (H : Hp) (x y : V) (v u : Value) (Q : VK), Inv X pins σ H s → RelV x v → RelV y u → r x y H Q →
    wpAny (model X.prog X.w) X.A (f v u) (EP X pins σ Q) X.xe s
/-- a one-place operation -/
def UnR (X : Cx) (f : Value → Sem Value) (r : V → Hp → VK → Prop) : Prop :=
  ∀ (pins : List (Addr × Obj)) (s : Shared) (σ : St) (H : Hp) (x : V) (v : Value) (Q : VK), Inv X pins σ H s → RelV x v → r x H Q →
    wpAny (model X.prog X.w) X.A (f v) (EP X pins σ Q) X.xe s
/-- a call of a value that is known (a builtin, a type) with values -/
def CallR (X : Cx) (f : Value) (r : List V → Hp → VK → Prop) : Prop :=
  ∀ (pins : List (Addr × Obj)) (s : Shared) (σ : St) (H : Hp) (xs : List V) (us : List Value) (Q : VK), Inv X pins σ H s → Vals xs us → r xs H Q →
    wpAny (model X.prog X.w) X.A (call f us) (EP X pins σ Q) X.xe s
/-- a value's truth -/
def TruR (X : Cx) (r : V → Hp → (Bool → Hp → Prop) → Prop) : Prop :=
  ∀ (pins : List (Addr × Obj)) (s : Shared) (σ : St) (H : Hp) (x : V) (v : Value) (Q : Bool → Hp → Prop), Inv X pins σ H s → RelV x v → r x H Q →
    wpAny (model X.prog X.w) X.A (truthy v) (TP X pins σ Q) X.xe s

def tOp (r : R2) (ta tb : TE) : TE := fun σ H Q => ta σ H fun x H1 => tb σ H1 fun y H2 => r x y H2 Q
def tUn (r : V → Hp → VK → Prop) (ta : TE) : TE := fun σ H Q => ta σ H fun x H1 => r x H1 Q
/-- ints in, under C, and a value out -/
def rI (C : Int → Int → Prop) (g : Int → Int → V) : R2 := fun x y H Q => ∃ i j, x = .int i ∧ y = .int j ∧ C i j ∧ Q (g i j) H
def rI0 (g : Int → Int → V) : R2 := fun x y H Q => ∃ i j, x = .int i ∧ y = .int j ∧ Q (g i j) H
def rU (g : Int → V) : V → Hp → VK → Prop := fun x H Q => ∃ i, x = .int i ∧ Q (g i) H

section
variable {X : Cx} {a b c : Expr} {ta tb tc : TE} {pos : Pos}

theorem binT (ha : PE X a ta) (hb : PE X b tb) {pins : List (Addr × Obj)} {s : Shared} {σ : St} {H : Hp} {R : V → V → Hp → Prop} (I : Inv X pins σ H s)
    (h : ta σ H fun x H1 => tb σ H1 fun y H2 => R x y H2) {Q : Value → Shared → Prop} {f : Value → Value → Sem Value}
    (hf : ∀ v u s2 x y H2, Inv X pins σ H2 s2 → RelV x v → RelV y u → R x y H2 → wpAny (model X.prog X.w) X.A (f v u) Q X.xe s2) :
    wpAny (model X.prog X.w) X.A (eval a X.env) (fun v s₁ => wpAny (model X.prog X.w) X.A (eval b X.env) (fun u s₂ => wpAny (model X.prog X.w) X.A (f v u) Q X.xe s₂) X.xe s₁) X.xe s := by
  refine thn (ha pins s σ H _ I h) fun v s1 ⟨x, H1, I1, r1, q1⟩ => ?_
  refine thn (hb pins s1 σ H1 _ I1 q1) fun u s2 ⟨y, H2, I2, r2, q2⟩ => ?_
  exact hf v u s2 x y H2 I2 r1 r2 q2

theorem pe_op {op : Operator} {r : R2} (ho : OpR X (binaryOp op) r) (ha : PE X a ta) (hb : PE X b tb) : PE X (.BinOp a op b pos) (tOp r ta tb) := by
  intro pins s σ H Q I h
  exact wpAny_BinOp (binT ha hb I h fun v u s2 x y H2 I2 rx ry q => ho pins s2 σ H2 x y v u Q I2 rx ry q)
theorem pe_un {op : UnaryOp} {r : V → Hp → VK → Prop} (ho : UnR X (unaryOp op) r) (ha : PE X a ta) : PE X (.UnaryOp op a pos) (tUn r ta) := by
  intro pins s σ H Q I h
  exact UnaryOp_ (thn (ha pins s σ H _ I h) fun v s1 ⟨x, H1, I1, r1, q1⟩ => ho pins s1 σ H1 x v Q I1 r1 q1)
/-! ### ints -/
theorem opI {f : Value → Value → Sem Value} {C : Int → Int → Prop} {g : Int → Int → Int}
    (rule : ∀ (i j : Int) (t u : Tok) (s : Shared) (Q : Value → Shared → Prop) (E : Value → Shared → Prop), C i j → Q (.int (g i j) s.toks) { s with toks := s.toks + 1 } → wpAny (model X.prog X.w) X.A (f (.int i t) (.int j u)) Q E s) :
    OpR X f (rI C fun i j => .int (g i j)) := by
  intro pins s σ H x y v u Q I rx ry h
  obtain ⟨i, j, rfl, rfl, hc, q⟩ := h
  obtain ⟨t, rfl⟩ := rx
  obtain ⟨t', rfl⟩ := ry
  exact rule i j t t' s _ _ hc ⟨.int (g i j), H, I.tok _, ⟨_, rfl⟩, q⟩
theorem opI0 {f : Value → Value → Sem Value} {g : Int → Int → Int}
    (rule : ∀ (i j : Int) (t u : Tok) (s : Shared) (Q : Value → Shared → Prop) (E : Value → Shared → Prop), Q (.int (g i j) s.toks) { s with toks := s.toks + 1 } → wpAny (model X.prog X.w) X.A (f (.int i t) (.int j u)) Q E s) :
    OpR X f (rI0 fun i j => .int (g i j)) := by
  intro pins s σ H x y v u Q I rx ry h
  obtain ⟨i, j, rfl, rfl, q⟩ := h
  obtain ⟨t, rfl⟩ := rx
  obtain ⟨t', rfl⟩ := ry
  exact rule i j t t' s _ _ ⟨.int (g i j), H, I.tok _, ⟨_, rfl⟩, q⟩
theorem opB0 {f : Value → Value → Sem Value} {g : Int → Int → Bool}
    (rule : ∀ (i j : Int) (t u : Tok) (s : Shared) (Q : Value → Shared → Prop) (E : Value → Shared → Prop), Q (.bool (g i j)) s → wpAny (model X.prog X.w) X.A (f (.int i t) (.int j u)) Q E s) :
    OpR X f (rI0 fun i j => .bl (g i j)) := by
  intro pins s σ H x y v u Q I rx ry h
  obtain ⟨i, j, rfl, rfl, q⟩ := h
  obtain ⟨t, rfl⟩ := rx
  obtain ⟨t', rfl⟩ := ry
  exact rule i j t t' s _ _ ⟨.bl (g i j), H, I, rfl, q⟩

def CDiv (i j : Int) : Prop := 0 < j ∧ j < 1073741824
def CDivN (i j : Int) : Prop := j ≠ 0 ∧ j.natAbs < 1073741824
def CPow (i j : Int) : Prop := 0 ≤ j ∧ j ≤ 1000000 ∧ i.natAbs < 2 ^ 64
def CMul (i j : Int) : Prop := (-(2 ^ 64) < i ∧ i < 2 ^ 64) ∨ (-(2 ^ 64) < j ∧ j < 2 ^ 64)
theorem CMul.ok {i j : Int} (h : CMul i j) : IntMulOk i j := by
  rcases h with ⟨h1, h2⟩ | ⟨h1, h2⟩
  · exact .of_left (intBits_le_64 h1 h2)
  · exact .of_right (intBits_le_64 h1 h2)
theorem op_add : OpR X (binaryOp .Add) (rI0 fun i j => .int (i + j)) := opI0 fun _ _ _ _ _ _ _ q => add_int q
theorem op_sub : OpR X (binaryOp .Sub) (rI0 fun i j => .int (i - j)) := opI0 fun _ _ _ _ _ _ _ q => sub_int q
theorem op_mul : OpR X (binaryOp .Mult) (rI CMul fun i j => .int (i * j)) := opI fun _ _ _ _ _ _ _ hc q => mul_int q hc.ok
/-- % by a positive divisor of any size -/
theorem op_mod : OpR X (binaryOp .Mod) (rI (fun _ j => 0 < j) fun i j => .int (i % j)) := opI fun i j _ _ _ _ _ hc q => by
  have h1 : (0 : Int) < j := hc
  exact mod_int' (by omega) (by rw [Int.fmod_eq_emod_of_nonneg i (by omega)]; exact q)
theorem op_modN : OpR X (binaryOp .Mod) (rI (fun _ j => j ≠ 0) fun i j => .int (i.fmod j)) := opI fun _ _ _ _ _ _ _ hc q => mod_int' hc q
theorem op_pow : OpR X (binaryOp .Pow) (rI CPow fun i j => .int (i ^ j.toNat)) := opI fun _ _ _ _ _ _ _ hc q => pow_int_small hc.1 hc.2.1 hc.2.2 q
theorem unI {f : Value → Sem Value} {g : Int → Int}
    (rule : ∀ (i : Int) (t : Tok) (s : Shared) (Q : Value → Shared → Prop) (E : Value → Shared → Prop), Q (.int (g i) s.toks) { s with toks := s.toks + 1 } → wpAny (model X.prog X.w) X.A (f (.int i t)) Q E s) :
    UnR X f (rU fun i => .int (g i)) := by
  intro pins s σ H x v Q I rx h
  obtain ⟨i, rfl, q⟩ := h
  obtain ⟨t, rfl⟩ := rx
  exact rule i t s _ _ ⟨.int (g i), H, I.tok _, ⟨_, rfl⟩, q⟩
theorem un_neg : UnR X (unaryOp .USub) (rU fun i => .int (-i)) := unI fun _ _ _ _ _ q => neg_int q
/-! ### bools among ints: n += (a < b) -/
end

/-! ### comparisons -/
/-- the scalars that == tells apart as data does -/
def scal : V → V → Bool
  | .non, .non => true | .non, .int _ => true | .int _, .non => true | .non, .bl _ => true | .bl _, .non => true | .non, .str _ => true | .str _, .non => true
  | .int _, .int _ => true | .bl _, .bl _ => true | .str _, .str _ => true | .byt _, .byt _ => true
  | .int _, .str _ => true | .str _, .int _ => true | .bl _, .str _ => true | .str _, .bl _ => true
  | _, _ => false
def rEq : R2 := fun x y H Q => scal x y = true ∧ Q (.bl (decide (x = y))) H
def rNe : R2 := fun x y H Q => scal x y = true ∧ Q (.bl (!decide (x = y))) H

theorem dec_int {i j : Int} : decide (V.int i = V.int j) = (i == j) := by
  rw [Bool.eq_iff_iff]
  simp
theorem dec_bl {i j : Bool} : decide (V.bl i = V.bl j) = (i == j) := by
  rw [Bool.eq_iff_iff]
  simp
theorem dec_str {i j : Str} : decide (V.str i = V.str j) = (i == j) := by
  rw [Bool.eq_iff_iff]
  simp
theorem dec_byt {i j : Array UInt8} : decide (V.byt i = V.byt j) = (i.toList == j.toList) := by
  rw [Bool.eq_iff_iff]
  cases i
  cases j
  simp

section
variable {X : Cx} {a b c : Expr} {ta tb tc : TE} {pos : Pos}
theorem fin_bl {pins : List (Addr × Obj)} {σ : St} {H : Hp} {s : Shared} {Q : VK} {k k' : Bool} (I : Inv X pins σ H s) (q : Q (.bl k) H) (e : k = k') : EP X pins σ Q (.bool k') s := by
  subst e
  exact ⟨.bl k, H, I, rfl, q⟩
theorem op_eq : OpR X (compareOp .Eq) rEq := by
  intro pins s σ H x y v u Q I rx ry h
  obtain ⟨hs, q⟩ := h
  cases x with
  | non =>
    cases rx
    cases y with
    | non => cases ry; exact PySem.EqNone.eq_none_none (fin_bl I q (by simp))
    | bl j => cases ry; exact PySem.EqNone.eq_none_bool (fin_bl I q (by simp))
    | int j => obtain ⟨t', rfl⟩ := ry; exact PySem.EqNone.eq_none_int (fin_bl I q (by simp))
    | str j => obtain ⟨t', rfl⟩ := ry; exact PySem.EqNone.eq_none_str (fin_bl I q (by simp))
    | _ => exact absurd (show false = true from hs) Bool.false_ne_true
  | bl i =>
    cases rx
    cases y with
    | non => cases ry; exact PySem.EqNone.eq_bool_none (fin_bl I q (by simp))
    | bl j => cases ry; exact eq_bool (fin_bl I q dec_bl)
    | str j => obtain ⟨t', rfl⟩ := ry; exact PySem.EqMixed.eq_bool_str (fin_bl I q (by simp))
    | _ => exact absurd (show false = true from hs) Bool.false_ne_true
  | int i =>
    obtain ⟨t, rfl⟩ := rx
    cases y with
    | non => cases ry; exact PySem.EqNone.eq_int_none (fin_bl I q (by simp))
    | int j => obtain ⟨t', rfl⟩ := ry; exact eq_int (fin_bl I q dec_int)
    | str j => obtain ⟨t', rfl⟩ := ry; exact PySem.EqMixed.eq_int_str (fin_bl I q (by simp))
    | _ => exact absurd (show false = true from hs) Bool.false_ne_true
  | str i =>
    obtain ⟨t, rfl⟩ := rx
    cases y with
    | non => cases ry; exact PySem.EqNone.eq_str_none (fin_bl I q (by simp))
    | bl j => cases ry; exact PySem.EqMixed.eq_str_bool (fin_bl I q (by simp))
    | int j => obtain ⟨t', rfl⟩ := ry; exact PySem.EqMixed.eq_str_int (fin_bl I q (by simp))
    | str j => obtain ⟨t', rfl⟩ := ry; exact eq_str (fin_bl I q dec_str)
    | _ => exact absurd (show false = true from hs) Bool.false_ne_true
  | byt i =>
    obtain ⟨t, rfl⟩ := rx
    cases y with
    | byt j => obtain ⟨t', rfl⟩ := ry; exact PySem.W.eq_bytes (fin_bl I q dec_byt)
    | _ => exact absurd (show false = true from hs) Bool.false_ne_true
  | _ => cases y <;> exact absurd (show false = true from hs) Bool.false_ne_true
theorem op_ne : OpR X (compareOp .NotEq) rNe := by
  intro pins s σ H x y v u Q I rx ry h
  obtain ⟨hs, q⟩ := h
  cases x with
  | non =>
    cases rx
    cases y with
    | non => cases ry; exact PySem.EqNone.ne_none_none (fin_bl I q (by simp))
    | bl j => cases ry; exact PySem.EqNone.ne_none_bool (fin_bl I q (by simp))
    | int j => obtain ⟨t', rfl⟩ := ry; exact PySem.EqNone.ne_none_int (fin_bl I q (by simp))
    | str j => obtain ⟨t', rfl⟩ := ry; exact PySem.EqNone.ne_none_str (fin_bl I q (by simp))
    | _ => exact absurd (show false = true from hs) Bool.false_ne_true
  | bl i =>
    cases rx
    cases y with
    | non => cases ry; exact PySem.EqNone.ne_bool_none (fin_bl I q (by simp))
    | bl j => cases ry; exact ne_bool (fin_bl I q (congrArg not dec_bl))
    | str j => obtain ⟨t', rfl⟩ := ry; exact PySem.EqMixed.ne_bool_str (fin_bl I q (by simp))
    | _ => exact absurd (show false = true from hs) Bool.false_ne_true
  | int i =>
    obtain ⟨t, rfl⟩ := rx
    cases y with
    | non => cases ry; exact PySem.EqNone.ne_int_none (fin_bl I q (by simp))
    | int j => obtain ⟨t', rfl⟩ := ry; exact ne_int (fin_bl I q (congrArg not dec_int))
    | str j => obtain ⟨t', rfl⟩ := ry; exact PySem.EqMixed.ne_int_str (fin_bl I q (by simp))
    | _ => exact absurd (show false = true from hs) Bool.false_ne_true
  | str i =>
    obtain ⟨t, rfl⟩ := rx
    cases y with
    | non => cases ry; exact PySem.EqNone.ne_str_none (fin_bl I q (by simp))
    | bl j => cases ry; exact PySem.EqMixed.ne_str_bool (fin_bl I q (by simp))
    | int j => obtain ⟨t', rfl⟩ := ry; exact PySem.EqMixed.ne_str_int (fin_bl I q (by simp))
    | str j => obtain ⟨t', rfl⟩ := ry; exact ne_str (fin_bl I q (congrArg not dec_str))
    | _ => exact absurd (show false = true from hs) Bool.false_ne_true
  | byt i =>
    obtain ⟨t, rfl⟩ := rx
    cases y with
    | byt j => obtain ⟨t', rfl⟩ := ry; exact PySem.W.ne_bytes (fin_bl I q (congrArg not dec_byt))
    | _ => exact absurd (show false = true from hs) Bool.false_ne_true
  | _ => cases y <;> exact absurd (show false = true from hs) Bool.false_ne_true

theorem op_lt : OpR X (compareOp .Lt) (rI0 fun i j => .bl (decide (i < j))) := opB0 fun _ _ _ _ _ _ _ q => lt_int q
theorem op_gt : OpR X (compareOp .Gt) (rI0 fun i j => .bl (decide (j < i))) := opB0 fun _ _ _ _ _ _ _ q => gt_int q
/-- is, is not of two objects that are tracked lists or instances -/
def isObj : HO → Bool
  | .lst _ => true
  | .ins _ _ _ => true
  | _ => false
theorem nomark (b : Expr) {op : CmpOp} (h : op ≠ .In := by decide) (h2 : op ≠ .NotIn := by decide) : behindInMarks op b = false := by
  have e1 : (op == CmpOp.In) = false := by cases op <;> first | rfl | exact absurd rfl h
  have e2 : (op == CmpOp.NotIn) = false := by cases op <;> first | rfl | exact absurd rfl h2
  cases b <;> simp [behindInMarks, e1, e2]
/-- a comparison as a value; hm: nomark b, or (for in, not in) by with_unfolding_all rfl -/
theorem pe_cmpR {op : CmpOp} {r : R2} (ho : OpR X (compareOp op) r) (ha : PE X a ta) (hb : PE X b tb) (hm : behindInMarks op b = false) : PE X (.Compare a [op] [b] pos) (tOp r ta tb) := by
  intro pins s σ H Q I h
  exact wpAny_Compare1 (binT ha hb I h fun v u s2 x y H2 I2 rx ry q => ho pins s2 σ H2 x y v u Q I2 rx ry q) hm
/-- a reading of a value as a test -/
def tTest (t : TE) : TT := fun σ H Q => t σ H fun x H' => ∃ k, x = .bl k ∧ Q k H'
theorem pt_cmpR {op : CmpOp} {r : R2} (ho : OpR X (compareOp op) r) (ha : PE X a ta) (hb : PE X b tb) (hm : behindInMarks op b = false) : PT X (.Compare a [op] [b] pos) (tTest (tOp r ta tb)) := by
  intro pins s σ H Q I h
  refine wpAny_isTrue_Compare1 (thn (ha pins s σ H _ I h) fun v s1 ⟨x, H1, I1, r1, q1⟩ => thn (hb pins s1 σ H1 _ I1 q1) fun u s2 ⟨y, H2, I2, r2, q2⟩ =>
    thn (ho pins s2 σ H2 x y v u _ I2 r1 r2 q2) fun c s3 ⟨z, H3, I3, r3, k, e, q3⟩ => ?_) hm
  subst e
  cases r3
  exact wpAny_truthy_bool ⟨H3, I3, q3⟩
/-- a op1 b op2 c -/
def tChain (r r' : R2) (ta tb tc : TE) : TE := fun σ H Q => ta σ H fun x H1 => tb σ H1 fun y H2 => r x y H2 fun z H3 => ∃ k, z = .bl k ∧
  (if k = true then tc σ H3 fun w' H4 => r' y w' H4 Q else Q (.bl false) H3)
/-! ### truth -/
/-- a value's truth by the abstract heap -/
def TruV (K : PySem.W.Frag) (x : V) (H : Hp) (k : Bool) : Prop :=
  match x with
  | .non => k = false
  | .bl b => k = b
  | .int i => k = (i != 0)
  | .str y => y.length ≤ sizeLine ∧ k = ((y.length : Int) != 0)
  | .byt y => y.size ≤ sizeLine ∧ k = ((y.size : Int) != 0)
  | .ref p => (∃ xs, SqL K H p xs ∧ k = !xs.isEmpty) ∨ (∃ xs, SqT K H p xs ∧ k = !xs.isEmpty) ∨ ∃ kvs, H p = some (.dK kvs) ∧ k = !kvs.isEmpty
  | _ => False
theorem line63 : (sizeLine : Nat) < 2 ^ 63 := by rw [sizeLine_eq]; decide
/-! ### strs and bytes -/
def PlainIxT (b : Expr) : Prop := ∀ o i, subscripted b false o i = operate [o, i] (getItem o i)
/-! ### scalar builtins, by CallR -/
theorem vals1 {x : V} {us : List Value} (r : Vals [x] us) : ∃ u, us = [u] ∧ RelV x u := by
  cases r with
  | cons r1 r2 => cases r2; exact ⟨_, rfl, r1⟩
theorem vals2 {x y : V} {us : List Value} (r : Vals [x, y] us) : ∃ u w', us = [u, w'] ∧ RelV x u ∧ RelV y w' := by
  cases r with
  | cons r1 r2 =>
    cases r2 with
    | cons r3 r4 => cases r4; exact ⟨_, _, rfl, r1, r3⟩
theorem call_abs : CallR X (.builtin "abs") (fun xs H Q => ∃ i, xs = [.int i] ∧ Q (.int (if i < 0 then -i else i)) H) := by
  intro pins s σ H xs us Q I r h
  obtain ⟨i, rfl, q⟩ := h
  obtain ⟨u, rfl, t, rfl⟩ := vals1 r
  exact call_abs_int fun u tk => ⟨.int (if i < 0 then -i else i), H, I.tok _, ⟨_, rfl⟩, q⟩
theorem call_max2 (hc : X.calm = true) : CallR X (.builtin "max") (fun xs H Q => ∃ i j, xs = [.int i, .int j] ∧ Q (.int (if j > i then j else i)) H) := by
  intro pins s σ H xs us Q I r h
  obtain ⟨i, j, rfl, q⟩ := h
  obtain ⟨u, w', rfl, ⟨t, rfl⟩, ⟨t', rfl⟩⟩ := vals2 r
  refine max_two_ints (I.ok.hd hc) fun h' tk k => ⟨_, H, I.kept k, ?_, q⟩
  by_cases hj : j > i
  · rw [if_pos hj, if_pos hj]; exact ⟨_, rfl⟩
  · rw [if_neg hj, if_neg hj]; exact ⟨_, rfl⟩
/-- len of a str, a bytes, a list, a tuple -/
def LenV (K : PySem.W.Frag) (x : V) (H : Hp) (n : Nat) : Prop :=
  match x with
  | .str y => y.length ≤ sizeLine ∧ n = y.length
  | .byt y => y.size ≤ sizeLine ∧ n = y.size
  | .ref p => (∃ xs, SqL K H p xs ∧ n = xs.length) ∨ ∃ xs, SqT K H p xs ∧ n = xs.length
  | _ => False
end
end L2

namespace L2
open PySem PySem.Spec PyProof.Rows

/-! ### an instance, its attributes a map -/
structure ObjM (h : Heap) (x dx C : Addr) (mA : Str → Option Value) : Prop where
  obj : h.get? x = some (PySem.W.instObj C dx)
  ns : h.Ns1 dx mA
  ne : dx ≠ x

theorem lookIn_ns {h : Heap} {dx : Addr} {mA : Str → Option Value} (n : h.Ns1 dx mA) : ∃ od, h.get? dx = some od ∧ ∀ name, PySem.W.lookIn name od = some (mA name) := by
  obtain ⟨o, es, ep, ho, hd, hk, _, hm⟩ := n
  refine ⟨o, ho, fun name => ?_⟩
  have e := hm name
  unfold nsFind findBy at e
  rw [← Array.find?_toList] at e
  unfold PySem.W.lookIn
  rw [hd]
  dsimp only
  split
  · rename_i y q
    rw [q] at e
    exact congrArg some e
  · rename_i q
    rw [q] at e
    have a : es.toList.any (·.refKey) = false := by
      rw [List.any_eq_false]
      intro y hy
      obtain ⟨z, t, hkey⟩ := hk y (Array.mem_toList_iff.mp hy)
      simp [DictEntry.refKey, hkey]
    have a' : ¬ es.toList.any (·.refKey) = true := by rw [a]; exact Bool.false_ne_true
    rw [if_neg a']
    exact congrArg some e

theorem ObjM.look {h : Heap} {x dx C : Addr} {mA : Str → Option Value} (I : ObjM h x dx C mA) : ∃ od, PySem.W.InstAt h x (PySem.W.instObj C dx) C (some od) ∧ ∀ name, PySem.W.lookIn name od = some (mA name) :=
  let ⟨od, ho, hl⟩ := lookIn_ns I.ns
  ⟨od, ⟨I.obj, rfl, rfl, ho⟩, hl⟩

section
variable {prog : Program} {w : World} {A : Around} {E : Value → Shared → Prop} {s : Shared} {K : PySem.W.Frag} {x dx C f : Addr} {mA : Str → Option Value} {name : Str} {v : Value}

theorem get_map {expr : Bool} {Q : Value → Shared → Prop} (X : K.In s.heap) (I : ObjM s.heap x dx C mA) (hg : PySem.W.plainGet K C name = true) (hh : PySem.W.hasDictIn K C = true)
    (ha : PySem.W.findIn K (.ref C) name = some none) (hv : mA name = some v) (hv' : PySem.W.handedIn v = true) (h : Q v { s with toks := s.toks + 1 }) :
    wpAny (model prog w) A (getAttr (.ref x) name expr) Q E s := by
  obtain ⟨od, J, hl⟩ := I.look
  exact PySem.W.get_value X J (PySem.W.plainGet_of hg).1 (PySem.W.findObj_own hh ha rfl (by rw [hl, hv])) hv' h

theorem set_map {ns : List Str} {Q : Unit → Shared → Prop} (X : K.In s.heap) (I : ObjM s.heap x dx C mA)
    (hs : PySem.W.findIn K (.ref C) "__setattr__" = some (some (.builtin "object.__setattr__"))) (hp : PySem.W.plainOver K C = true) (ht : PySem.W.takerIn K C name = some none) (hh : PySem.W.hasDictIn K C = true)
    (hw : PySem.Within mA ns) (hsz : ns.length ≤ sizeLine)
    (h : ∀ h', ObjM h' x dx C (fun y => if y = name then some v else mA y) → Heap.SameBut dx s.heap h' → Q () { s with heap := h', toks := s.toks + 2 }) :
    wpAny (model prog w) A (setAttr (.ref x) name v) Q E s := by
  obtain ⟨od, J, hl⟩ := I.look
  refine PySem.W.set_plain X J hs (PySem.W.osa_open (s := { s with toks := s.toks + 1 }) (r := none) X J hp ht fun b => ?_)
  obtain ⟨cd, hc, hd'⟩ := PySem.W.any_some hh
  have hx : s.heap.get? x = some ⟨.ref C, some dx, .plain, #[]⟩ := I.obj
  refine wpAny_bind (wpAny_pure (wpAny_bind (wpAny_bind (wpAny_loadPart hx (wpAny_bind (PySem.W.Looks.here (s := { s with toks := s.toks + 1 }) (PySem.W.looks_clsIn X hc) ?_))))))
  rw [hd']
  refine wpAny_pure (a := some dx) (wpAny_bind (wpAny_pure (wpAny_bind ?_)))
  refine wpAny_nsSet1 (s := { s with toks := s.toks + 1 }) I.ns fun h' hn2 hs2 => ?_
  obtain ⟨oD, esD, epD, hoD, hdD, hcD⟩ := hn2.count (PySem.Within.cons name v hw)
  refine wpAny_bind (wpAny_lookBehind hoD (by rw [hdD]; exact pastItsLine_dict (Nat.le_trans hcD (by rw [List.length_cons]; omega))) ?_)
  exact wpAny_pure (h _ ⟨(hs2.2 _ (Ne.symm I.ne)).trans I.obj, hn2, I.ne⟩ hs2)

/-- C(..): the dict at the heap's end, the instance behind it; then its __init__ -/
theorem make_map {R : Result → Shared → Prop} {vs : List Value} {kw : List (Str × Value)} (X : K.In s.heap) (hm : PySem.W.makesIn K C = true)
    (hi : PySem.W.findIn K (.ref C) "__init__" = some (some (.ref f))) (hf : PySem.W.typeIn K (.ref f) = some (.type "function"))
    (h : codeAny (model prog w) (A.under (.builtin "type.__call__" ⟨.ref C :: vs, kw⟩)) (.call (.ref f) ⟨.ref (s.heap.objs.size + 1) :: vs, kw⟩) (PySem.W.InitBack (s.heap.objs.size + 1) R)
      { s with heap := (s.heap.push PySem.W.emptyDict).push (PySem.W.instObj C s.heap.objs.size) }) :
    codeAny (model prog w) A (.call (.ref C) ⟨vs, kw⟩) R s := by
  obtain ⟨hh, g, d, t, os⟩ := s
  exact PySem.W.make_core (PySem.W.makes_of X hm) (PySem.W.looks_findIn X hi) (fun self => PySem.W.bind_fn X self hf) (.inl rfl) h
end

/-! ### the attributes as a list of pairs -/
def putF (f : Str) (v : V) : List (Str × V) → List (Str × V)
  | [] => [(f, v)]
  | (g, x) :: r => if g = f then (g, v) :: r else (g, x) :: putF f v r
theorem lookup_putF (f g : Str) (v : V) : ∀ fs : List (Str × V), (putF f v fs).lookup g = if g = f then some v else fs.lookup g
  | [] => by
    show List.lookup g [(f, v)] = _
    by_cases h : g = f
    · have hb : (g == f) = true := beq_iff_eq.mpr h
      simp only [List.lookup, hb, if_pos h]
    · have hb : (g == f) = false := beq_eq_false_iff_ne.mpr h
      simp only [List.lookup, hb, if_neg h]
  | (k, x) :: r => by
    have ih := lookup_putF f g v r
    rw [show putF f v ((k, x) :: r) = (if k = f then (k, v) :: r else (k, x) :: putF f v r) from rfl]
    by_cases hk : k = f
    · rw [if_pos hk]
      by_cases h : g = k
      · have hb : (g == k) = true := beq_iff_eq.mpr h
        simp only [List.lookup, hb, if_pos (h.trans hk)]
      · have hb : (g == k) = false := beq_eq_false_iff_ne.mpr h
        simp only [List.lookup, hb, if_neg (fun e : g = f => h (e.trans hk.symm))]
    · rw [if_neg hk]
      by_cases h : g = k
      · have hb : (g == k) = true := beq_iff_eq.mpr h
        simp only [List.lookup, hb, if_neg (fun e : g = f => hk (h.symm.trans e))]
      · have hb : (g == k) = false := beq_eq_false_iff_ne.mpr h
        simp only [List.lookup, hb]
        exact ih
theorem keys_putF (f : Str) (v : V) : ∀ fs : List (Str × V), f ∈ (putF f v fs).map (·.1) ∧ ∀ g, g ∈ fs.map (·.1) → g ∈ (putF f v fs).map (·.1)
  | [] => ⟨by simp [putF], fun g h => by simp at h⟩
  | (k, x) :: r => by
    obtain ⟨i1, i2⟩ := keys_putF f v r
    rw [show putF f v ((k, x) :: r) = (if k = f then (k, v) :: r else (k, x) :: putF f v r) from rfl]
    by_cases hk : k = f
    · rw [if_pos hk]
      subst hk
      exact ⟨by simp, fun g h => by simpa using h⟩
    · rw [if_neg hk]
      refine ⟨?_, fun g h => ?_⟩
      · rw [List.map_cons]
        exact List.mem_cons_of_mem _ i1
      · rw [List.map_cons] at h ⊢
        rcases List.mem_cons.mp h with e | e
        · exact List.mem_cons.mpr (.inl e)
        · exact List.mem_cons_of_mem _ (i2 g e)
theorem length_putF (f : Str) (v : V) : ∀ fs : List (Str × V), (putF f v fs).length ≤ fs.length + 1
  | [] => by simp [putF]
  | (k, x) :: r => by
    have ih := length_putF f v r
    rw [show putF f v ((k, x) :: r) = (if k = f then (k, v) :: r else (k, x) :: putF f v r) from rfl]
    by_cases hk : k = f
    · rw [if_pos hk, List.length_cons, List.length_cons]; omega
    · rw [if_neg hk, List.length_cons, List.length_cons]; omega

theorem RelO.some_of {v : V} {o : Option Value} (r : RelO (some v) o) : ∃ u, o = some u ∧ RelV v u := by
  cases o with
  | none => exact (show False from r).elim
  | some u => exact ⟨u, rfl, r⟩
theorem handed_of {v : V} {u : Value} (r : RelV v u) : PySem.W.handedIn u = true := by
  cases v with
  | non => cases (show u = Value.none from r); rfl
  | bl b => cases (show u = Value.bool b from r); rfl
  | int i => obtain ⟨t, e⟩ := (show ∃ t, u = Value.int i t from r); cases e; rfl
  | str x => obtain ⟨t, e⟩ := (show ∃ t, u = Value.str x t from r); cases e; rfl
  | byt b => obtain ⟨t, e⟩ := (show ∃ t, u = Value.bytes b t from r); cases e; rfl
  | flt b => obtain ⟨t, e⟩ := (show ∃ t, u = Value.float b t from r); cases e; rfl
  | ref a => cases (show u = Value.ref a from r); rfl
  | ty n => cases (show u = Value.type n from r); rfl

section
variable {P : Program} {w : World} {H H' : Hp} {h h' : Heap} {a C dx : Addr} {fs fs' : List (Str × V)}
theorem ins_get (hok : HOk P w H h) (e : H a = some (.ins C dx fs)) : ∃ mA, ObjM h a dx C mA ∧ (∀ f, RelO (fs.lookup f) (mA f)) ∧ PySem.Within mA (fs.map (·.1)) ∧ fs.length ≤ 1000 ∧ H dx = some (.own a) := by
  obtain ⟨d, z, ne, ob, mA, n, r, q⟩ := (show ObjOk P w H h a (.ins C dx fs) from hok a _ e)
  exact ⟨mA, ⟨ob, n, ne⟩, r, q, z, d⟩
end

/-! ### what of the text a class must have -/
structure Cls (K : PySem.W.Frag) (C : Addr) : Prop where
  pg : PySem.W.plainGet K C Str.empty = true
  hd : PySem.W.hasDictIn K C = true
  po : PySem.W.plainOver K C = true
  sa : PySem.W.findIn K (.ref C) "__setattr__" = some (some (.builtin "object.__setattr__"))
theorem Cls.get {K : PySem.W.Frag} {C : Addr} (c : Cls K C) (f : Str) : PySem.W.plainGet K C f = true := c.pg
/-- no class of it has the name -/
def NoAttr (K : PySem.W.Frag) (C : Addr) (f : Str) : Prop := PySem.W.findIn K (.ref C) f = some none
theorem NoAttr.taker {K : PySem.W.Frag} {C : Addr} {f : Str} (n : NoAttr K C f) : PySem.W.takerIn K C f = some none := by
  unfold PySem.W.takerIn
  rw [show PySem.W.findIn K (.ref C) f = some none from n]
  rfl
/-- a constant of the class -/
structure Con (K : PySem.W.Frag) (C : Addr) (f : Str) (v : V) (u : Value) : Prop where
  at_ : PySem.W.findIn K (.ref C) f = some (some u)
  rel : RelV v u
  get : PySem.W.specialIn K u "__get__" = some none
  cp : PySem.W.copiedNames.contains f = false
/-- a method: a plain def of the class or of one above it -/
structure Meth (K : PySem.W.Frag) (C : Addr) (m : Str) (f : Addr) : Prop where
  at_ : PySem.W.findIn K (.ref C) m = some (some (.ref f))
  fn : PySem.W.isFn K (.ref f) = true
  kp : PySem.W.keepIn K (.ref f) = true

section
variable {X : Cx} {pins : List (Addr × Obj)} {σ : St} {H : Hp} {s : Shared} {a C dx : Addr} {fs : List (Str × V)} {f : Str} {v : V} {A : Around} {E : Value → Shared → Prop}

theorem getattr_ok {b : Bool} {Q : Value → Shared → Prop} (I : Inv X pins σ H s) (e : H a = some (.ins C dx fs)) (c : Cls X.K C) (n : NoAttr X.K C f) (l : fs.lookup f = some v)
    (h : ∀ u s', Inv X pins σ H s' → RelV v u → Q u s') : wpAny (model X.prog X.w) A (getAttr (.ref a) f b) Q E s := by
  obtain ⟨mA, O, r, _, _, _⟩ := ins_get I.hok e
  obtain ⟨u, hu, ru⟩ := RelO.some_of (v := v) (o := mA f) (by rw [← l]; exact r f)
  exact get_map I.kIn O (c.get f) c.hd n hu (handed_of ru) (h u _ (I.tok _) ru)

theorem setattr_ok {y : V} {u : Value} {Q : Unit → Shared → Prop} (I : Inv X pins σ H s) (e : H a = some (.ins C dx fs)) (c : Cls X.K C) (n : NoAttr X.K C f) (hl : fs.length < 1000) (ry : RelV y u)
    (h : ∀ s', Inv X pins σ (upd H a (.ins C dx (putF f y fs))) s' → Q () s') : wpAny (model X.prog X.w) A (setAttr (.ref a) f u) Q E s := by
  obtain ⟨mA, O, r, wi, _, ho⟩ := ins_get I.hok e
  have hz : (fs.map (·.1)).length ≤ sizeLine := by rw [List.length_map, sizeLine_eq]; omega
  refine set_map I.kIn O c.sa c.po n.taker c.hd wi hz fun h' O' sb => h _ ?_
  have hd : ∃ o, h'.get? dx = some o := let ⟨o, _, _, e', _⟩ := O'.ns; ⟨o, e'⟩
  refine I.write (x := a) (e := dx) (by rw [e]; exact True.intro) (.inr ho) (fun b q hb z => (sb.2 b hb).trans z) hd ?_
  refine ⟨by rw [upd_ne O.ne]; exact ho, ?_, O.ne, O'.obj, _, O'.ns, fun g => ?_, fun g hg => ?_⟩
  · have := length_putF f y fs; omega
  · show RelO ((putF f y fs).lookup g) (if g = f then some u else mA g)
    rw [lookup_putF]
    by_cases q : g = f
    · rw [if_pos q, if_pos q]; exact ry
    · rw [if_neg q, if_neg q]; exact r g
  · by_cases q : g = f
    · rw [q]; exact (keys_putF f y fs).1
    · refine (keys_putF f y fs).2 g (wi g fun z => hg ?_)
      show (if g = f then some u else mA g) = none
      rw [if_neg q]; exact z

/-- a new instance, tracked, without attributes -/
theorem Inv.made (I : Inv X pins σ H s) : Inv X pins σ (upd (upd H s.heap.objs.size (.own (s.heap.objs.size + 1))) (s.heap.objs.size + 1) (.ins C s.heap.objs.size []))
    { s with heap := (s.heap.push PySem.W.emptyDict).push (PySem.W.instObj C s.heap.objs.size) } := by
  have e1 : (s.heap.push PySem.W.emptyDict).get? s.heap.objs.size = some PySem.W.emptyDict := Heap.get?_push_size s.heap rfl
  have e2 : ((s.heap.push PySem.W.emptyDict).push (PySem.W.instObj C s.heap.objs.size)).get? (s.heap.objs.size + 1) = some (PySem.W.instObj C s.heap.objs.size) := by
    have := Heap.get?_push_size (s.heap.push PySem.W.emptyDict) (o := PySem.W.instObj C s.heap.objs.size) rfl
    rwa [Heap.size_push] at this
  have e3 : (s.heap.push PySem.W.emptyDict).Ns s.heap.objs.size (fun _ => none) := ⟨PySem.W.emptyDict, #[], _, e1, rfl, (fun e he => absurd he (by simp)), fun _ => rfl⟩
  have I1 := I.laid (a := s.heap.objs.size) (o := .own (s.heap.objs.size + 1)) (h' := s.heap.push PySem.W.emptyDict) (t' := s.toks) (fun b u q => Heap.get?_push_of_some _ q) (Nat.le_refl _) ⟨_, e1⟩
  refine I1.laid (a := s.heap.objs.size + 1) (o := .ins C s.heap.objs.size []) (t' := s.toks) (fun b u q => Heap.get?_push_of_some _ q) (Nat.le_of_eq (Heap.size_push _ _)) ?_
  have ne : s.heap.objs.size ≠ s.heap.objs.size + 1 := Nat.ne_of_lt (Nat.lt_succ_self _)
  refine ⟨by rw [upd_ne ne, upd_same], Nat.zero_le _, ne, e2, fun _ => none, (Heap.Ns1.of_empty e3).at fun o q => Heap.get?_push_of_some _ q, fun _ => True.intro, fun y hy => absurd rfl hy⟩

/-- e.f where nothing but the object is asked: through attributeBase (super) and the last hold -/
theorem attr_of {prog : Program} {w : World} {env : Env} {e : Expr} {f : Str} {pos : Pos} {s : Shared} {Q : Value → Shared → Prop} (hb : attributeBase e f env (eval e env) = eval e env)
    (h : wpAny (model prog w) A (eval e env) (fun o s₁ => wpAny (model prog w) A (getAttr o f true) Q E s₁) E s) : wpAny (model prog w) A (eval (.Attribute e f pos) env) Q E s :=
  Attribute_any_ h (by rw [arm_eval_Attribute, hb])
end

/-! ### readings and rules -/
/-- e.f, an attribute of the instance -/
def tFld (K : PySem.W.Frag) (ta : TE) (f : Str) : TE := fun σ H Q => ta σ H fun x H1 => ∃ a C dx fs v, x = .ref a ∧ H1 a = some (.ins C dx fs) ∧ Cls K C ∧ NoAttr K C f ∧ fs.lookup f = some v ∧ Q v H1
/-- e.f, a constant of the class -/
def tCon (K : PySem.W.Frag) (ta : TE) (f : Str) : TE := fun σ H Q => ta σ H fun x H1 => ∃ a C dx fs v u, x = .ref a ∧ H1 a = some (.ins C dx fs) ∧ Cls K C ∧ Con K C f v u ∧ fs.lookup f = none ∧ Q v H1
/-- e.f = value -/
def sFld (K : PySem.W.Frag) (ta tv : TE) (f : Str) : TS := fun D σ H => tv σ H fun y H1 => ta σ H1 fun x H2 => ∃ a C dx fs, x = .ref a ∧ H2 a = some (.ins C dx fs) ∧ Cls K C ∧ NoAttr K C f ∧ fs.length < 1000 ∧
  D.nx σ (upd H2 a (.ins C dx (putF f y fs)))
/-- an augmented operator on two values -/
def InOp (X : Cx) (op : Operator) (rd : V → V → Hp → VK → Prop) : Prop :=
  ∀ (pins : List (Addr × Obj)) (s : Shared) (σ : St) (H : Hp) (x y : V) (u v : Value) (Q : VK), Inv X pins σ H s → RelV x u → RelV y v → rd x y H Q → wpAny (model X.prog X.w) X.A (inplaceOp op u v) (EP X pins σ Q) X.xe s
/-- e.f op= value -/
def sFldAug (K : PySem.W.Frag) (ta tv : TE) (rd : V → V → Hp → VK → Prop) (f : Str) : TS := fun D σ H => ta σ H fun x H1 => ∃ a C dx fs v, x = .ref a ∧ H1 a = some (.ins C dx fs) ∧ Cls K C ∧ NoAttr K C f ∧ fs.lookup f = some v ∧
  tv σ H1 fun y H2 => rd v y H2 fun z H3 => ∃ dx' fs', H3 a = some (.ins C dx' fs') ∧ fs'.length < 1000 ∧ D.nx σ (upd H3 a (.ins C dx' (putF f z fs')))

section
variable {X : Cx} {o e value : Expr} {f : Str} {pos pos' tpos : Pos} {ta tv : TE}
theorem pe_fld (he : PE X e ta) (hb : attributeBase e f X.env (eval e X.env) = eval e X.env) : PE X (.Attribute e f pos) (tFld X.K ta f) := by
  intro pins s σ H Q I h
  refine attr_of hb (thn (he pins s σ H _ I h) fun u s1 ⟨x, H1, I1, rx, a, C, dx, fs, v, ex, ea, c, n, l, q⟩ => ?_)
  subst ex
  obtain rfl : u = Value.ref a := rx
  exact getattr_ok I1 ea c n l fun u' s2 I2 ru => ⟨v, H1, I2, ru, q⟩
theorem ps_fld (ha : PE X o ta) (hv : PE X value tv) (hs : swapsWith value (some (.Attribute o f pos')) pos.line X.env = pure false) : PS X (.Assign [.Attribute o f pos'] value pos) (sFld X.K ta tv f) := by
  intro pins s σ H D I h
  refine plainObj_wpAny_Assign_Attribute (thn (hv pins s σ H _ I h) fun u s1 ⟨y, H1, I1, ry, q⟩ => thn (ha pins s1 σ H1 _ I1 q) fun ov s2 ⟨x, H2, I2, rx, a, C, dx, fs, ex, ea, c, n, l, q2⟩ => ?_) hs
  subst ex
  obtain rfl : ov = Value.ref a := rx
  exact setattr_ok I2 ea c n l ry fun s3 I3 => ⟨σ, _, I3, q2⟩
def rAdd : V → V → Hp → VK → Prop := fun x y H Q => ∃ i j, x = .int i ∧ y = .int j ∧ Q (.int (i + j)) H
def rSub : V → V → Hp → VK → Prop := fun x y H Q => ∃ i j, x = .int i ∧ y = .int j ∧ Q (.int (i - j)) H
end

/-! ### isinstance -/
section
variable {X : Cx} {pins : List (Addr × Obj)} {σ : St} {H : Hp} {s : Shared} {A : Around} {E : Value → Shared → Prop} {Q : Value → Shared → Prop} {c : Value} {b : Bool}
/-- the type of a value, as the fragment's deciders take it; for an instance its class -/
inductive TyOf (K : PySem.W.Frag) (H : Hp) : V → Value → Prop where
  | non : TyOf K H .non (.type "NoneType")
  | bl (x : Bool) : TyOf K H (.bl x) (.type "bool")
  | int (i : Int) : TyOf K H (.int i) (.type "int")
  | str (x : Str) : TyOf K H (.str x) (.type "str")
  | flt (x : UInt64) : TyOf K H (.flt x) (.type "float")
  | lst {a : Addr} {xs : List V} (e : H a = some (.lst xs)) : TyOf K H (.ref a) (.type "list")
  | frz {a : Addr} {o : Obj} {xs : List V} (e : H a = some (.frz o (.lst xs))) : TyOf K H (.ref a) (.type "list")
  | tup {a : Addr} {xs : List V} (e : H a = some (.tup xs)) : TyOf K H (.ref a) (.type "tuple")
  | dK {a : Addr} {kvs : List (Key × V)} (e : H a = some (.dK kvs)) : TyOf K H (.ref a) (.type "dict")
  | dT {a : Addr} {kvs : List (List Key × V)} (e : H a = some (.dT kvs)) : TyOf K H (.ref a) (.type "dict")
  | ins {a C dx : Addr} {fs : List (Str × V)} (e : H a = some (.ins C dx fs)) (cl : Cls K C) (ha : PySem.W.findIn K (.ref C) "__class__" = some (some (.builtin "object.__class__")))
      (hn : PySem.W.specialIn K (.builtin "object.__class__") "__get__" = some (some (.builtin "getset_descriptor.__get__"))) (htk : PySem.W.takesIn K (.builtin "object.__class__") = some true)
      (hm : PySem.W.mroIn K C (.type "object") = some true) : TyOf K H (.ref a) (.ref C)
/-- isinstance(x, c) for one class c, a built-in or an own one: kitOne's answer -/
theorem isinst_ok {x : V} {u t : Value} (I : Inv X pins σ H s) (rx : RelV x u) (ty : TyOf X.K H x t) (e : PySem.W.kitOne X.K t c = some b) (h : ∀ tk, Q (.bool b) { s with toks := tk }) :
    wpAny (model X.prog X.w) A (call (.builtin "isinstance") [u, c]) Q E s := by
  cases ty with
  | non => cases (show u = Value.none from rx); exact PySem.W.kia_one PySem.W.kitx_none I.kIn True.intro e (fun z => nomatch z) h
  | bl y => cases (show u = Value.bool y from rx); exact PySem.W.kia_one PySem.W.kitx_bool I.kIn True.intro e (fun z => nomatch z) h
  | int i => obtain ⟨t, q⟩ := (show ∃ t, u = Value.int i t from rx); cases q; exact PySem.W.kia_one PySem.W.kitx_int I.kIn True.intro e (fun z => nomatch z) h
  | str y => obtain ⟨t, q⟩ := (show ∃ t, u = Value.str y t from rx); cases q; exact PySem.W.kia_one PySem.W.kitx_str I.kIn True.intro e (fun z => nomatch z) h
  | flt y => obtain ⟨t, q⟩ := (show ∃ t, u = Value.float y t from rx); cases q; exact PySem.W.kia_one PySem.W.kitx_float I.kIn True.intro e (fun z => nomatch z) h
  | @lst a xs ea =>
    cases (show u = Value.ref a from rx)
    obtain ⟨_, _, n, _, h1⟩ := (show ObjOk X.prog X.w H s.heap a (.lst xs) from I.hok a _ ea)
    exact PySem.W.kia_one PySem.W.kitx_list I.kIn ⟨_, h1, rfl⟩ e (fun z => nomatch z) h
  | @frz a ob xs ea =>
    cases (show u = Value.ref a from rx)
    obtain ⟨_, _, _, n, _, h1⟩ := (show ObjOk X.prog X.w H s.heap a (.frz ob (.lst xs)) from I.hok a _ ea)
    exact PySem.W.kia_one PySem.W.kitx_list I.kIn ⟨_, h1, rfl⟩ e (fun z => nomatch z) h
  | @tup a xs ea =>
    cases (show u = Value.ref a from rx)
    obtain ⟨_, _, _, p⟩ := (show ObjOk X.prog X.w H s.heap a (.tup xs) from I.hok a _ ea)
    obtain ⟨o, h1, h2, _⟩ := p
    exact PySem.W.kia_one PySem.W.kitx_tuple I.kIn ⟨o, h1, h2⟩ e (fun z => nomatch z) h
  | @dK a kvs ea =>
    cases (show u = Value.ref a from rx)
    obtain ⟨_, _, vs, _, p⟩ := (show ObjOk X.prog X.w H s.heap a (.dK kvs) from I.hok a _ ea)
    obtain ⟨o, es, ep, h1, h2, _⟩ := p
    exact PySem.W.kia_one PySem.W.kitx_dict I.kIn ⟨o, h1, h2.1⟩ e (fun z => nomatch z) h
  | @dT a kvs ea =>
    cases (show u = Value.ref a from rx)
    obtain ⟨_, _, xs, _, o, es, ep, h1, h2, _⟩ := (show ObjOk X.prog X.w H s.heap a (.dT kvs) from I.hok a _ ea)
    exact PySem.W.kia_one PySem.W.kitx_dict I.kIn ⟨o, h1, h2.1⟩ e (fun z => nomatch z) h
  | @ins a C dx fs ea cl ha hn htk hm =>
    cases (show u = Value.ref a from rx)
    obtain ⟨mA, O, _⟩ := ins_get I.hok ea
    obtain ⟨od, J, _⟩ := O.look
    exact PySem.W.kia_one (PySem.W.kitx_own (cl.get _) cl.hd ha hn htk hm) I.kIn J e (fun z => nomatch z) h
end
end L2

namespace L2
open PySem PySem.Spec PyProof.Rows

/-! ### room -/
structure Room (k : Nat) (A : Around) : Prop where
  hd : A.handled = none
  dp : A.depth + 3 * k + 5 < recursionLimit
  un : A.units + 16 * k + 200 < cLine
theorem Room.mono {j k : Nat} {A : Around} (r : Room k A) (h : j ≤ k) : Room j A := ⟨r.hd, by have := r.dp; omega, by have := r.un; omega⟩
theorem Room.deeper {k : Nat} {A : Around} (r : Room (k + 1) A) (env : Env) : Room k (A.deeper env) :=
  ⟨r.hd, by have := r.dp; show A.depth + 1 + 3 * k + 5 < _; omega, by have := r.un; show A.units + 3 + 16 * k + 200 < _; omega⟩
theorem make_depth {A : Around} {C : Addr} {us : List Value} {kw : List (Str × Value)} : (A.under (.builtin "type.__call__" ⟨.ref C :: us, kw⟩)).depth = A.depth + 1 := by
  first | rfl | simp [Around.under, Code.weight, Code.isCreation, Code.isGuard, Code.isCaller, Code.frames, Code.isFrame, guardIds]
theorem make_units {A : Around} {C : Addr} {us : List Value} {kw : List (Str × Value)} : (A.under (.builtin "type.__call__" ⟨.ref C :: us, kw⟩)).units = A.units + 1 := by
  first | rfl | simp [Around.under, Code.cUnits, Code.frames, Code.isFrame]
theorem Room.make {k : Nat} {A : Around} (r : Room (k + 1) A) (C : Addr) (us : List Value) (kw : List (Str × Value)) : Room k (A.under (.builtin "type.__call__" ⟨.ref C :: us, kw⟩)) :=
  ⟨r.hd, by have := r.dp; rw [make_depth]; omega, by have := r.un; rw [make_units]; omega⟩
theorem Room.depth {k : Nat} {A : Around} (r : Room k A) : A.depth < recursionLimit := by have := r.dp; omega
theorem Room.units {k : Nat} {A : Around} (r : Room k A) : A.units + 64 < cLine := by have := r.un; omega
/-! ### argument lists and displays -/
def tNil : TA := fun _ H Q => Q [] H
def tCons (ta : TE) (tr : TA) : TA := fun σ H Q => ta σ H fun x H1 => tr σ H1 fun xs H2 => Q (x :: xs) H2
section
variable {X : Cx} {e : Expr} {es : List Expr} {te : TE} {t : TA} {pos : Pos}
theorem pa_nil : PA X [] tNil := fun _ _ _ _ H Q I h => Calls.spliced_nil ⟨[], H, I, .nil, h⟩
theorem pa_cons (ha : PE X e te) (hr : PA X es t) (hs : starEach (e :: es) X.env = (false, eval e X.env) :: starEach es X.env := by rfl) : PA X (e :: es) (tCons te t) := by
  intro pos pins s σ H Q I h
  rw [hs]
  show wpAny _ _ (spliced ((false, eval e X.env) :: backTo pos (starEach es X.env))) _ _ s
  refine Calls.spliced_cons (thn (ha pins s σ H _ I h) fun u s1 ⟨x, H1, I1, r1, q1⟩ => ?_)
  exact thn (hr pos pins s1 σ H1 _ I1 q1) fun us s2 ⟨xs, H2, I2, r2, q2⟩ => ⟨x :: xs, H2, I2, .cons r1 r2, q2⟩

/-- a tuple, a list of written items -/
def tTup (t : TA) : TE := fun σ H Q => t σ H fun xs H1 => xs.length ≤ sizeLine ∧ ∀ p, H1 p = none → Q (.ref p) (upd H1 p (.tup xs))
def tLst (t : TA) : TE := fun σ H Q => t σ H fun xs H1 => xs.length ≤ sizeLine ∧ ∀ p, H1 p = none → Q (.ref p) (upd H1 p (.lst xs))
theorem pe_tup {x1} (h : PA X es t) : PE X (.Tuple es x1 pos) (tTup t) := by
  intro pins s σ H Q I hq
  refine wpAny_Tuple_spliced (thn (h pos pins s σ H _ I hq) fun us s1 ⟨xs, H1, I1, r, z, q⟩ => ⟨by rw [← r.length]; exact z, ?_⟩)
  have hf : H1 s1.heap.objs.size = none := I1.hok.fresh (Nat.le_refl _)
  refine ⟨.ref s1.heap.objs.size, upd H1 s1.heap.objs.size (.tup xs), I1.laid (t' := s1.toks) (fun b u e => Heap.get?_push_of_some _ e) (Nat.le_refl _) ?_, rfl, q _ hf⟩
  exact ⟨z, us, r, ⟨_, Heap.get?_push_size _ rfl, rfl, _, rfl⟩⟩
theorem pe_lst (h : PA X es t) : PE X (.List es pos) (tLst t) := by
  intro pins s σ H Q I hq
  refine wpAny_List_spliced (thn (h pos pins s σ H _ I hq) fun us s1 ⟨xs, H1, I1, r, z, q⟩ => ⟨by rw [← r.length]; exact z, ?_⟩)
  have hf : H1 s1.heap.objs.size = none := I1.hok.fresh (Nat.le_refl _)
  refine ⟨.ref s1.heap.objs.size, upd H1 s1.heap.objs.size (.lst xs), I1.laid (t' := s1.toks) (fun b u e => Heap.get?_push_of_some _ e) (Nat.le_refl _) ?_, rfl, q _ hf⟩
  exact ⟨z, us, 0, r, Heap.get?_push_size _ rfl⟩
end

/-! ### what a def promises -/
/-- a def's promise: the bound arguments in the parameters' order, the heap, the wanted end, the wanted exception -/
abbrev Sp := List V → Hp → VK → XK → Prop
/-- how an exception lies behind a call (file 08 gives it): the callers' frames, abstract heap and state ahead of the call, the wish, the exception, the state -/
abbrev CXT := List Env → Hp → Shared → XK → Value → Shared → Prop

/-- the state at a call -/
structure Env0 (P : Program) (w : World) (K : PySem.W.Frag) (mg : Str → Option Value) (base : Heap) (A : Around) (outer : List Env) (s : Shared) (H : Hp) : Prop where
  frames : A.frames = some outer
  mod : Mod K mg base
  bs : ∀ b o, base.get? b = some o → s.heap.get? b = some o ∧ H b = none
  bsz : base.objs.size ≤ s.heap.objs.size
  funs : s.heap.FunFrames base outer
  frf : ∀ b ∈ frs outer, H b = none
  hok : HOk P w H s.heap
  bare : AllBare s.gens
/-- a call's end -/
def CE (outer : List Env) (P : Program) (w : World) (H : Hp) (s : Shared) (Q : VK) (u : Value) (s' : Shared) : Prop :=
  ∃ v H', s'.os = s.os ∧ AllBare s'.gens ∧ Un (frs outer) [] H H' s.heap s'.heap ∧ HOk P w H' s'.heap ∧ RelV v u ∧ Q v H'
def CR (CX : CXT) (outer : List Env) (P : Program) (w : World) (H : Hp) (s : Shared) (Q : VK) (E : XK) (r : Result) (s' : Shared) : Prop :=
  match r with
  | .ok (.ret u) => CE outer P w H s Q u s'
  | .ok _ => False
  | .error e => CX outer H s E e s'
structure FnOk (P : Program) (w : World) (K : PySem.W.Frag) (mg : Str → Option Value) (base : Heap) (CX : CXT) (k : Nat) (f : Addr) (fd : FuncData) (ps : List Str) (sp : Sp) : Prop where
  len : ∀ vs H Q E, sp vs H Q E → vs.length = ps.length
  run : ∀ (A : Around) (outer : List Env) (s : Shared) (H : Hp) (args : Args) (us : List Value) (vs : List V) (Q : VK) (E : XK), Room k A → Env0 P w K mg base A outer s H → BindsTo s fd args (ps.zip us) → Vals vs us → sp vs H Q E →
    codeAny (model P w) A (.call (.ref f) args) (CR CX outer P w H s Q E) s
theorem Env0.make {P : Program} {w : World} {K : PySem.W.Frag} {mg : Str → Option Value} {base : Heap} {A : Around} {outer : List Env} {s : Shared} {H : Hp} (e : Env0 P w K mg base A outer s H) (C : Addr) (us : List Value) (kw : List (Str × Value)) :
    Env0 P w K mg base (A.under (.builtin "type.__call__" ⟨.ref C :: us, kw⟩)) outer s H := ⟨by first | exact e.frames | (simpa [Around.under, Code.envs, Code.isFrame, pushEnvs] using e.frames), e.mod, e.bs, e.bsz, e.funs, e.frf, e.hok, e.bare⟩
section
variable {X : Cx} {pins : List (Addr × Obj)} {σ : St} {H : Hp} {s s' : Shared}
/-- from a body: what a callee wants -/
theorem Inv.env0 (I : Inv X pins σ H s) : Env0 X.prog X.w X.K X.mg X.base X.A X.stack s H :=
  ⟨I.ok.frames, I.ok.mod, I.bs, Nat.le_trans I.ok.bsz I.sz, I.stack, I.stkFree, I.hok, I.bare⟩
/-- behind a call -/
theorem Inv.after {Q : VK} {u : Value} (I : Inv X pins σ H s) (h : CE X.stack X.prog X.w H s Q u s') : EP X pins σ Q u s' := by
  obtain ⟨v, H', os, bare, un, hok, r, q⟩ := h
  obtain ⟨hh, g, d, t, os'⟩ := s'
  obtain rfl : os' = s.os := os
  exact ⟨v, H', I.call (h' := hh) (g' := g) (d' := d) (t' := t) (ch := []) un hok bare (fun b z => absurd z (by simp)), r, q⟩
end

/-! ### calls -/
/-- f(..): the written arguments, then the defaults dvs; E: what is wanted of an exception -/
def tCall (sp : Sp) (dvs : List V) (E : XK) (t : TA) : TE := fun σ H Q => t σ H fun vs H1 => sp (vs ++ dvs) H1 Q E
/-- o.m(..) of an instance of the class at C -/
def tMeth (C : Addr) (m : Str) (sp : Sp) (dvs : List V) (E : XK) (ta : TE) (t : TA) : TE := fun σ H Q => ta σ H fun x H1 => ∃ a dx fs, x = .ref a ∧ H1 a = some (.ins C dx fs) ∧ fs.lookup m = none ∧
  t σ H1 fun vs H2 => sp (x :: (vs ++ dvs)) H2 Q E
/-- C(..): a new instance and its dict, then __init__ -/
def tMake (C : Addr) (sp : Sp) (dvs : List V) (E : XK) (t : TA) : TE := fun σ H Q => t σ H fun vs H1 => ∀ x dx, H1 x = none → H1 dx = none → dx ≠ x →
  sp (.ref x :: (vs ++ dvs)) (upd (upd H1 dx (.own x)) x (.ins C dx [])) (fun v H2 => v = .non ∧ Q (.ref x) H2) E

/-- how the parameters are bound: us the positional arguments, kw the keywords' values by name, ds the defaults that fill up -/
def Binds (K : PySem.W.Frag) (fd : FuncData) (ps : List Str) (ds : List Value) : Prop :=
  ∀ (s : Shared) (us : List Value), K.In s.heap → (us ++ ds).length = ps.length → BindsTo s fd ⟨us, []⟩ (ps.zip (us ++ ds))
/-- every parameter is given -/
theorem Binds.all {K : PySem.W.Frag} {fd : FuncData} {ps : List Str} (h : ∀ us : List Value, us.length = ps.length → bindArgs fd ⟨us, []⟩ = pure (ps.zip us)) : Binds K fd ps [] := fun s us _ hl => by
  rw [List.append_nil] at hl ⊢
  exact .of_eq (h us hl)

/-- an exception of a callee reaches what this body wants of exceptions -/
def Passes (CX : CXT) (X : Cx) (E : XK) : Prop := ∀ (pins : List (Addr × Obj)) (σ : St) (H : Hp) (s : Shared) (e : Value) (s' : Shared), Inv X pins σ H s → CX X.stack H s E e s' → X.xe e s'

section
variable {X : Cx} {CX : CXT} {k : Nat} {f C : Addr} {fd : FuncData} {ps : List Str} {sp : Sp} {dvs : List V} {ds : List Value} {E : XK} {x m : Str} {p pos apos : Pos} {e o : Expr} {es : List Expr} {ta : TE} {t : TA}

/-- the callee runs -/
theorem run_fn {pins : List (Addr × Obj)} {σ : St} {H : Hp} {s : Shared} {Q : VK} {us : List Value} {vs : List V} (F : FnOk X.prog X.w X.K X.mg X.base CX k f fd ps sp) (hr : Room k X.A) (hb : Binds X.K fd ps ds) (hd : Vals dvs ds) (hx : Passes CX X E)
    (I : Inv X pins σ H s) (r : Vals vs us) (h : sp (vs ++ dvs) H Q E) : wpAny (model X.prog X.w) X.A (call (.ref f) us) (EP X pins σ Q) X.xe s := by
  have r2 : Vals (vs ++ dvs) (us ++ ds) := r.append hd
  have hl : (us ++ ds).length = ps.length := by rw [← r2.length]; exact F.len _ _ _ _ h
  refine wpAny_call (codeAny_mono (F.run X.A X.stack s H ⟨us, []⟩ (us ++ ds) (vs ++ dvs) Q E hr I.env0 (hb s us I.kIn hl) r2 h) fun r s' hq => ?_)
  cases r with
  | error e => exact hx pins σ H s e s' I hq
  | ok fl =>
    cases fl with
    | ret u => exact I.after hq
    | next => exact False.elim hq
    | brk => exact False.elim hq
    | cont => exact False.elim hq

theorem pe_call (F : FnOk X.prog X.w X.K X.mg X.base CX k f fd ps sp) (hr : Room k X.A) (hg : Gl X x) (hm : X.mg x = some (.ref f)) (hk : PySem.W.keepIn X.K (.ref f) = true) (hb : Binds X.K fd ps ds) (hd : Vals dvs ds) (hx : Passes CX X E)
    (ha : PA X (e :: es) t) (hdb : (x == ("__debug__" : Str)) = false := by decide) (he : starEach (e :: es) X.env = (false, eval e X.env) :: starEach es X.env := by rfl) (hpl : (backTo pos (starEach es X.env)).any (·.1) = false := by rfl) :
    PE X (.Call (.Name x p) (e :: es) [] pos) (tCall sp dvs E t) := by
  intro pins s σ H Q I h
  refine wpAny_Call_Name_kw (ld_glob I hg hm ?_ hdb)
  refine PySem.W.callWith_K (h₀ := X.base) I.ok.mod.kin hk (thn (ha pos pins s σ H _ I h) fun us s1 ⟨vs, H1, I1, r, q⟩ => ⟨I1.kIn, ?_⟩) he hpl
  exact run_fn F hr hb hd hx I1 r q
/-- what a class must have to be made -/
structure Mk (K : PySem.W.Frag) (C f : Addr) : Prop where
  makes : PySem.W.makesIn K C = true
  init : PySem.W.findIn K (.ref C) "__init__" = some (some (.ref f))
  fn : PySem.W.isFn K (.ref f) = true
  kp : PySem.W.keepIn K (.ref C) = true

theorem run_make {pins : List (Addr × Obj)} {σ : St} {H : Hp} {s : Shared} {Q : VK} {us : List Value} {vs : List V} (M : Mk X.K C f) (F : FnOk X.prog X.w X.K X.mg X.base CX k f fd ps sp) (hr : Room (k + 1) X.A) (hb : Binds X.K fd ps ds) (hd : Vals dvs ds)
    (hx : Passes CX X E) (I : Inv X pins σ H s) (r : Vals vs us)
    (h : ∀ x dx, H x = none → H dx = none → dx ≠ x → sp (.ref x :: (vs ++ dvs)) (upd (upd H dx (.own x)) x (.ins C dx [])) (fun v H2 => v = .non ∧ Q (.ref x) H2) E) :
    wpAny (model X.prog X.w) X.A (call (.ref C) us) (EP X pins σ Q) X.xe s := by
  have hq := h (s.heap.objs.size + 1) s.heap.objs.size (I.hok.fresh (Nat.le_succ _)) (I.hok.fresh (Nat.le_refl _)) (Nat.ne_of_lt (Nat.lt_succ_self _))
  have I2 := Inv.made (C := C) I
  have r2 : Vals (V.ref (s.heap.objs.size + 1) :: (vs ++ dvs)) (Value.ref (s.heap.objs.size + 1) :: (us ++ ds)) := .cons rfl (r.append hd)
  have hl : (Value.ref (s.heap.objs.size + 1) :: us ++ ds).length = ps.length := by
    have e := r2.length
    rw [F.len _ _ _ _ hq] at e
    exact e.symm
  refine wpAny_call (make_map (f := f) I.kIn M.makes M.init (beq_iff_eq.mp M.fn) (codeAny_mono (F.run _ X.stack _ _ ⟨Value.ref (s.heap.objs.size + 1) :: us, []⟩ (Value.ref (s.heap.objs.size + 1) :: (us ++ ds)) _ _ E (hr.make C us [])
    (I2.env0.make C us []) (hb _ (Value.ref (s.heap.objs.size + 1) :: us) I2.kIn hl) r2 hq) fun r s' hq' => ?_))
  cases r with
  | error e => exact hx pins σ _ _ e s' I2 hq'
  | ok fl =>
    cases fl with
    | ret u =>
      obtain ⟨v, H', I3, rv, ev, q3⟩ := I2.after hq'
      subst ev
      exact ⟨rv, ⟨V.ref (s.heap.objs.size + 1), H', I3, rfl, q3⟩⟩
    | next => exact False.elim hq'
    | brk => exact False.elim hq'
    | cont => exact False.elim hq'
theorem pe_make (M : Mk X.K C f) (F : FnOk X.prog X.w X.K X.mg X.base CX k f fd ps sp) (hr : Room (k + 1) X.A) (hg : Gl X x) (hm : X.mg x = some (.ref C)) (hb : Binds X.K fd ps ds) (hd : Vals dvs ds) (hx : Passes CX X E)
    (ha : PA X (e :: es) t) (hdb : (x == ("__debug__" : Str)) = false := by decide) (he : starEach (e :: es) X.env = (false, eval e X.env) :: starEach es X.env := by rfl) (hpl : (backTo pos (starEach es X.env)).any (·.1) = false := by rfl) :
    PE X (.Call (.Name x p) (e :: es) [] pos) (tMake C sp dvs E t) := by
  intro pins s σ H Q I h
  refine wpAny_Call_Name_kw (ld_glob I hg hm ?_ hdb)
  refine PySem.W.callWith_K (h₀ := X.base) I.ok.mod.kin M.kp (thn (ha pos pins s σ H _ I h) fun us s1 ⟨vs, H1, I1, r, q⟩ => ⟨I1.kIn, ?_⟩) he hpl
  exact run_make M F hr hb hd hx I1 r q
end

/-! ### keywords -/
/-- the values of the keywords, from the left -/
def PK (X : Cx) (kws : List Keyword) (t : TA) : Prop :=
  ∀ (pos : Pos) (pins : List (Addr × Obj)) (s : Shared) (σ : St) (H : Hp) (Q : List V → Hp → Prop), Inv X pins σ H s → t σ H Q → wpAny (model X.prog X.w) X.A (evalAll ((backToKw pos (keywordEach kws X.env)).map (·.2))) (AP X pins σ Q) X.xe s
section
variable {X : Cx} {CX : CXT} {k : Nat} {f C : Addr} {fd : FuncData} {ps ks : List Str} {sp : Sp} {E : XK} {x m : Str} {p pos apos kpos : Pos} {e o : Expr} {es : List Expr} {kws : List Keyword} {te ta : TE} {t tk : TA} {nm : Option Str}
/-- how a call with keywords binds: g puts the positional values us and the keywords' values ws (names ks) in the parameters' order, defaults among them -/
structure KBinds (K : PySem.W.Frag) (fd : FuncData) (ps ks : List Str) (g : List Value → List Value → List Value) (gV : List V → List V → List V) : Prop where
  to : ∀ (s : Shared) (us ws : List Value), K.In s.heap → (g us ws).length = ps.length → BindsTo s fd ⟨us, ks.zip ws⟩ (ps.zip (g us ws))
  rel : ∀ {vs : List V} {us : List Value} {zs : List V} {ws : List Value}, Vals vs us → Vals zs ws → Vals (gV vs zs) (g us ws)
def tCallK (sp : Sp) (gV : List V → List V → List V) (E : XK) (t tk : TA) : TE := fun σ H Q => t σ H fun vs H1 => tk σ H1 fun zs H2 => sp (gV vs zs) H2 Q E
variable {g : List Value → List Value → List Value} {gV : List V → List V → List V}
end

/-! ### a def's body keeps its promise -/
/-- names: the parameters first -/
structure FnScope (N P : List Str) (sc : Scope) : Prop where
  kind : sc.kind = .function
  co : sc.isCoroutine = false
  gen : sc.isGenerator = false
  nd : N.Nodup
  pre : N.take P.length = P
  par : ∀ x ∈ P, sc.names.lookup x = some .local ∨ sc.names.lookup x = some .cell
  nofree : ∀ y ∈ sc.names, y.2 ≠ .free

theorem bindL_out {kindOf : Str → Option NameKind} {x : Str} : ∀ {binds : List (Str × Value)} {m : Str → Option Value}, (∀ v, (x, v) ∉ binds) → bindL kindOf binds m x = m x
  | [], _, _ => rfl
  | (n, v) :: r, m, h => by
    unfold bindL
    rw [bindL_out fun w hw => h w (List.mem_cons_of_mem _ hw)]
    split
    · have : x ≠ n := by rintro rfl; exact h v List.mem_cons_self
      simp [this]
    · rfl
theorem bindC_out {kindOf : Str → Option NameKind} {x : Str} : ∀ {binds : List (Str × Value)} {m : Str → Option Value}, (∀ v, (x, v) ∉ binds) → bindC kindOf binds m x = m x
  | [], _, _ => rfl
  | (n, v) :: r, m, h => by
    unfold bindC
    rw [bindC_out fun w hw => h w (List.mem_cons_of_mem _ hw)]
    split
    · rfl
    · have : x ≠ n := by rintro rfl; exact h v List.mem_cons_self
      simp [this]
theorem bindL_get {kindOf : Str → Option NameKind} {x : Str} {v : Value} : ∀ {P : List Str} {vs : List Value} {i : Nat} {m : Str → Option Value}, P.Nodup → P[i]? = some x → vs[i]? = some v → kindOf x = some .local →
    bindL kindOf (P.zip vs) m x = some v
  | [], _, _, _, _, h, _, _ => by simp at h
  | _ :: _, [], _, _, _, _, h, _ => by simp at h
  | p :: P, w :: vs, 0, m, nd, h1, h2, hk => by
    simp at h1 h2; subst h1; subst h2
    show bindL kindOf ((p, w) :: P.zip vs) m p = _
    unfold bindL
    rw [bindL_out fun v hv => (List.nodup_cons.mp nd).1 (List.of_mem_zip hv).1, if_pos hk]
    simp
  | p :: P, w :: vs, i + 1, m, nd, h1, h2, hk => by
    show bindL kindOf ((p, w) :: P.zip vs) m x = _
    unfold bindL
    exact bindL_get (i := i) (List.nodup_cons.mp nd).2 (by simpa using h1) (by simpa using h2) hk
theorem bindC_get {kindOf : Str → Option NameKind} {x : Str} {v : Value} : ∀ {P : List Str} {vs : List Value} {i : Nat} {m : Str → Option Value}, P.Nodup → P[i]? = some x → vs[i]? = some v → kindOf x ≠ some .local →
    bindC kindOf (P.zip vs) m x = some v
  | [], _, _, _, _, h, _, _ => by simp at h
  | _ :: _, [], _, _, _, _, h, _ => by simp at h
  | p :: P, w :: vs, 0, m, nd, h1, h2, hk => by
    simp at h1 h2; subst h1; subst h2
    show bindC kindOf ((p, w) :: P.zip vs) m p = _
    unfold bindC
    rw [bindC_out fun v hv => (List.nodup_cons.mp nd).1 (List.of_mem_zip hv).1, if_neg hk]
    simp
  | p :: P, w :: vs, i + 1, m, nd, h1, h2, hk => by
    show bindC kindOf ((p, w) :: P.zip vs) m x = _
    unfold bindC
    exact bindC_get (i := i) (List.nodup_cons.mp nd).2 (by simpa using h1) (by simpa using h2) hk

/-- the names' values at the entry -/
def start (N : List Str) (vs : List V) : St := vs.map some ++ List.replicate (N.length - vs.length) none

/-- the context of a def's body, at its entry; an exception leaves the frame, then lies as CX says -/
def cxOf (CX : CXT) (P : Program) (w : World) (K : PySem.W.Frag) (mg : Str → Option Value) (base : Heap) (N : List Str) (qual : Str) (scope : Scope) (f : Addr) (cd : Value) (A : Around) (outer : List Env) (s : Shared) (H : Hp) (E : XK) : Cx where
  prog := P
  w := w
  K := K
  mg := mg
  base := base
  A := A.deeper (envOfC qual scope s.heap.objs.size f cd)
  N := N
  s₀ := s
  H₀ := H
  env := envOfC qual scope s.heap.objs.size f cd
  outer := outer
  stack := envOfC qual scope s.heap.objs.size f cd :: outer
  ex := []
  calm := true
  fn := fun _ => true
  pn := []
  xe := fun e s' => wpAny (model P w) (A.deeper (envOfC qual scope s.heap.objs.size f cd)) (leaving (envOfC qual scope s.heap.objs.size f cd) e) (fun _ s'' => CX outer H s E e s'') (fun e' s'' => CX outer H s E e' s'') s'

theorem cell_has {sc : Scope} {n : Nat} {x : Str} (h : sc.names.lookup x = some .cell) : ∃ c, (cellsFrom n sc.names []).lookup x = some c := by
  have q := PySem.W.cellsFrom_some sc.names n [] (.inl h)
  exact Option.isSome_iff_exists.mp q

theorem inv_start {CX : CXT} {P : Program} {w : World} {K : PySem.W.Frag} {mg : Str → Option Value} {base : Heap} {N ps : List Str} {qual : Str} {scope : Scope} {f : Addr} {cd : Value} {A : Around} {outer : List Env} {s s1 : Shared} {H : Hp} {E : XK} {us : List Value} {vs : List V}
    (S : FnScope N ps scope) (hd : A.handled = none) (e0 : Env0 P w K mg base A outer s H) (hl : vs.length = ps.length) (r : Vals vs us)
    (x : InCallC s s.heap.objs.size (bindL (envOfC qual scope s.heap.objs.size f cd).kindOf (ps.zip us) fun _ => none) (cellsFrom (s.heap.objs.size + 1) scope.names []) (bindC (envOfC qual scope s.heap.objs.size f cd).kindOf (ps.zip us) fun _ => none) s1) :
    Inv (cxOf CX P w K mg base N qual scope f cd A outer s H E) [] (start N vs) H s1 := by
  have hpl : ps.length ≤ N.length := by have := congrArg List.length S.pre; rw [List.length_take] at this; omega
  obtain ⟨h1, tk, rfl, hk⟩ := x.done
  have noA : ∀ b : Addr, b ∉ (cxOf CX P w K mg base N qual scope f cd A outer s H E).ex := fun b z => absurd (show b ∈ ([] : List Addr) from z) (by simp)
  refine ⟨⟨e0.mod, S.kind, rfl, rfl, Nat.le_refl _, fun y z c h1 h2 => ?_, fun y hy => ?_, fun y c _ h => ?_, fun _ => hd, Around.frames_deeper e0.frames, .inr ⟨rfl, rfl⟩, fun b z => absurd z (noA b), e0.bs, e0.bsz, fun b _ _ => noA b, fun b z => absurd z (noA b), e0.funs, e0.frf⟩,
    rfl, e0.bare, Un.kept hk, ⟨_, x.toInCall.ns, fun i y v h1 h2 h3 => ?_⟩, fun y c h => ⟨_, x.cell y c h⟩, e0.hok.fresh (Nat.le_refl _), fun y c h => ?_, fun p hp => absurd (show p ∈ ([] : List (Addr × Obj)) from hp) (by simp), e0.hok.kept hk, ?_⟩
  · exact name_of_addr x.apart (PySem.mem_of_lookup h1) (PySem.mem_of_lookup h2)
  · have hy : scope.names.lookup y = some .cell ∨ scope.names.lookup y = some .free := hy
    rcases hy with hy | hy
    · exact cell_has hy
    · exact absurd rfl (S.nofree _ (PySem.mem_of_lookup hy))
  · exact Nat.le_of_lt (x.above y c (PySem.mem_of_lookup h))
  · have hi : i < vs.length := by
      unfold start at h2
      by_cases hi : i < vs.length
      · exact hi
      · rw [List.getElem?_append_right (by simpa using hi)] at h2
        rw [List.getElem?_replicate] at h2
        split at h2 <;> cases h2
    have ha : vs[i]? = some v := by
      unfold start at h2
      rw [List.getElem?_append_left (by simpa using hi), List.getElem?_map] at h2
      cases e : vs[i]? with
      | none => rw [e] at h2; cases h2
      | some a => rw [e] at h2; cases h2; rfl
    obtain ⟨u, hu, rv⟩ := r.get ha
    have hp : ps[i]? = some y := by
      rw [← S.pre, List.getElem?_take_of_lt (by omega)]; exact h1
    have ndP : ps.Nodup := by rw [← S.pre]; exact S.nd.sublist (List.take_sublist _ _)
    refine ⟨u, rv, ?_⟩
    rcases S.par y (List.mem_of_getElem? hp) with k | k
    · exact .inl ⟨k, bindL_get ndP hp hu k⟩
    · obtain ⟨c, e⟩ := cell_has (n := s.heap.objs.size + 1) k
      refine .inr ⟨.inl k, c, e, ?_⟩
      have q := x.cell y c e
      rw [bindC_get ndP hp hu (by show scope.names.lookup y ≠ _; rw [k]; decide)] at q
      exact q
  · exact e0.hok.fresh (Nat.le_of_lt (x.above y c (PySem.mem_of_lookup h)))
  · unfold start
    show _ = N.length
    rw [List.length_append, List.length_map, List.length_replicate]
    omega

/-- THE RULE: a def (or a method) of the text, by its body. The body's reading t is chosen for each entry; it is run at the parameters' values -/
theorem fn_of {CX : CXT} {P : Program} {w : World} {K : PySem.W.Frag} {mg : Str → Option Value} {base : Heap} {k : Nat} {f : Addr} {name qual : Str} {params : Arguments} {body : List Stmt} {scope : Scope} {dV kV doc pm cdv ct oc : Value} {an od : Option Addr}
    {osl : Array (Option Value)} {N ps : List Str} {sp : Sp} (lk : K.lookup f = some ⟨oc, od, .func (PySem.W.fnOf name qual params body scope dV kV doc pm an cdv ct), osl⟩) (hcd : PySem.W.codeIn K cdv qual = true) (S : FnScope N ps scope)
    (len : ∀ vs H Q E, sp vs H Q E → vs.length = ps.length)
    (hbody : ∀ (A : Around) (outer : List Env) (s : Shared) (H : Hp) (vs : List V) (Q : VK) (E : XK), Room k (A.deeper (envOfC qual scope s.heap.objs.size f cdv)) → sp vs H Q E →
      ∃ t, PSs (cxOf CX P w K mg base N qual scope f cdv A outer s H E) body t ∧ t { nx := fun _ H' => Q .non H', rt := Q } (start N vs) H) :
    FnOk P w K mg base CX (k + 1) f (PySem.W.fnOf name qual params body scope dV kV doc pm an cdv ct) ps sp := by
  refine ⟨len, fun A outer s H args us vs Q E hr e0 hb r hsp => ?_⟩
  have hl := len _ _ _ _ hsp
  have KX : K.In s.heap := e0.mod.kin.keeps fun b o e => (e0.bs b o e).1
  have lim : s.heap.NoLimit := e0.mod.nolimit.keeps fun b o e => (e0.bs b o e).1
  have hkind : ∀ y ∈ ps.zip us, scope.names.lookup y.1 = some .local ∨ (scope.names.lookup y.1 = some .cell ∧ ((cellsFrom (s.heap.objs.size + 1) scope.names []).lookup y.1).isSome = true) := fun ⟨n, v⟩ hy => by
    rcases S.par n (List.of_mem_zip hy).1 with q | q
    · exact .inl q
    · exact .inr ⟨q, PySem.W.cellsFrom_some _ _ _ (.inl q)⟩
  refine codeAny_call_function hr.depth (KX _ _ lk) rfl S.co S.gen rfl (PySem.W.codeRec_of KX hcd) (hb _ _ _ _ ?_)
  refine wpAny_newFunctionEnv_cells S.kind hkind fun env he s1 x => ?_
  subst he
  refine ⟨lim.keeps x.toInCall.keep, codeAny_func ?_⟩
  obtain ⟨t, ht, hq⟩ := hbody A outer s H vs Q E (hr.deeper _) hsp
  have I : Inv (cxOf CX P w K mg base N qual scope f cdv A outer s H E) [] (start N vs) H s1 := inv_start S hr.hd e0 hl r x
  refine wpAny_mono (ht [] s1 (start N vs) H _ I hq) (fun fl s' hs => ?_) fun e s' hs => hs
  have fin : ∀ {σ' : St} {H' : Hp} {v : V} {u : Value}, Inv (cxOf CX P w K mg base N qual scope f cdv A outer s H E) [] σ' H' s' → RelV v u → Q v H' → CE outer P w H s Q u s' :=
    fun {σ' H' v u} J rv q => ⟨v, H', J.os, J.bare, J.base, J.hok, rv, q⟩
  cases fl with
  | ret u =>
    obtain ⟨v, σ', H', J, rv, q⟩ := hs
    exact fin J rv q
  | next =>
    obtain ⟨σ', H', J, q⟩ := hs
    exact fin (v := V.non) (u := Value.none) J rfl q
  | brk =>
    obtain ⟨_, _, _, q⟩ := hs
    exact False.elim q
  | cont =>
    obtain ⟨_, _, _, q⟩ := hs
    exact False.elim q
end L2

namespace L2
open PySem PySem.Spec PyProof.Rows
section
variable {X : Cx} {x : Str} {p pos : Pos} {e : Expr} {es : List Expr} {t : TA} {id T : String} {r : List V → Hp → VK → Prop}

def tCB (r : List V → Hp → VK → Prop) (t : TA) : TE := fun σ H Q => t σ H fun vs H1 => r vs H1 Q
/-- f(e, ..), f a built-in function -/
theorem pe_callB (hc : CallR X (.builtin id) r) (hg : Gl X x) (hm : X.mg x = none) (hv : bootBuiltins x = some (.builtin id)) (ha : PA X (e :: es) t) (hn : x ≠ "__name__" := by decide) (hdb : (x == ("__debug__" : Str)) = false := by decide)
    (he : starEach (e :: es) X.env = (false, eval e X.env) :: starEach es X.env := by rfl) (hpl : (backTo pos (starEach es X.env)).any (·.1) = false := by rfl) : PE X (.Call (.Name x p) (e :: es) [] pos) (tCB r t) := by
  intro pins s σ H Q I h
  refine wpAny_Call_Name_kw (ld_blt I hg hm hv ?_ hn hdb)
  exact PyProof.Rows.callWith_builtin1 (thn (ha pos pins s σ H _ I h) fun us s1 ⟨vs, H1, I1, r1, q1⟩ => hc pins s1 σ H1 vs us Q I1 r1 q1) he hpl
/-- T(e, ..), T a built-in type -/
theorem pe_callTy (hc : CallR X (.type T) r) (hg : Gl X x) (hm : X.mg x = none) (hv : bootBuiltins x = some (.type T)) (ha : PA X (e :: es) t) (hn : x ≠ "__name__" := by decide) (hdb : (x == ("__debug__" : Str)) = false := by decide)
    (he : starEach (e :: es) X.env = (false, eval e X.env) :: starEach es X.env := by rfl) (hpl : (backTo pos (starEach es X.env)).any (·.1) = false := by rfl) : PE X (.Call (.Name x p) (e :: es) [] pos) (tCB r t) := by
  intro pins s σ H Q I h
  refine wpAny_Call_Name_kw (ld_blt I hg hm hv ?_ hn hdb)
  exact PyProof.Rows.callWith_type1 (thn (ha pos pins s σ H _ I h) fun us s1 ⟨vs, H1, I1, r1, q1⟩ => hc pins s1 σ H1 vs us Q I1 r1 q1) he hpl
end
end L2

namespace HT
open PySem PyProof.Rows

/-- t < u of tuples of ints -/
def lexLt : List Int → List Int → Bool
  | [], [] => false
  | [], _ :: _ => true
  | _ :: _, [] => false
  | x :: xs, y :: ys => if x = y then lexLt xs ys else decide (x < y)
section
open PySem.SeqAt
open PySem.AutoSeq1 (wpAny_loadPart')
open PySem.MeetsSeq PySem.MeetsSeq2 PySem.MeetsSeq3

end

section
variable {prog : Program} {w : World} {A : Around} {E : Value → Shared → Prop} {s : Shared}

/-! ### t[a:b], not the whole -/
/-- a slice's bound as a place among n (d where it is left out) -/
def sIx (n d : Nat) : Option Int → Nat
  | none => d
  | some v => if v < 0 then (v + (n : Int)).toNat else min v.toNat n
end
end HT

namespace L2
open PySem PySem.Spec PyProof.Rows

/-! ### the parts of a slice -/
abbrev TO := St → Hp → (Option Int → Hp → Prop) → Prop
/-- a slice's part (left out, or an int) -/
def PO (X : Cx) (e : Option Expr) (t : TO) : Prop :=
  ∀ (pins : List (Addr × Obj)) (s : Shared) (σ : St) (H : Hp) (Q : Option Int → Hp → Prop), Inv X pins σ H s → t σ H Q →
    wpAny (model X.prog X.w) X.A (evalPart e X.env) (fun u s' => ∃ o H', Inv X pins σ H' s' ∧ IsPart u o ∧ Q o H') X.xe s
def tNoPart : TO := fun _ H Q => Q none H
def tPart (t : TE) : TO := fun σ H Q => t σ H fun x H1 => ∃ i, x = .int i ∧ Q (some i) H1

section
variable {X : Cx} {e : Expr} {te : TE} {lo hi : Option Expr} {tl th : TO} {pos p2 : Pos}

theorem po_none : PO X none tNoPart := by
  intro pins s σ H Q I h
  rw [evalPart_none]
  exact wpAny_pure ⟨none, H, I, .none, h⟩
theorem po_some (h : PE X e te) : PO X (some e) (tPart te) := by
  intro pins s σ H Q I hw
  rw [evalPart_some]
  refine thn (h pins s σ H _ I hw) fun u s1 ⟨x, H1, I1, r1, q1⟩ => ?_
  obtain ⟨i, rfl, q⟩ := q1
  obtain ⟨t, rfl⟩ := r1
  exact ⟨some i, H1, I1, .int i t, q⟩

/-- what a slice of a value is, by values: the slice object stands at sl -/
def SlR (X : Cx) (r : V → Option Int → Option Int → Hp → VK → Prop) : Prop :=
  ∀ (pins : List (Addr × Obj)) (s : Shared) (σ : St) (H : Hp) (x : V) (v vl vu : Value) (lo hi : Option Int) (sl : Addr) (Q : VK), Inv X pins σ H s → RelV x v → s.heap.IsSliceOf sl vl vu .none → IsPart vl lo → IsPart vu hi → r x lo hi H Q →
    ∃ T id, typeLookup (.type T) "__getitem__" = pure (some (.builtin id)) ∧ s.TypeIs v T ∧ wpAny (model X.prog X.w) X.A (getItem v (.ref sl)) (EP X pins σ Q) X.xe s
def tSl (r : V → Option Int → Option Int → Hp → VK → Prop) (te : TE) (tl th : TO) : TE := fun σ H Q => te σ H fun x H1 => tl σ H1 fun l H2 => th σ H2 fun u H3 => r x l u H3 Q
/-- a[lo:hi], any a -/
theorem pe_slice {r : V → Option Int → Option Int → Hp → VK → Prop} (hr : SlR X r) (he : PE X e te) (hl : PO X lo tl) (hu : PO X hi th) : PE X (.Subscript e (.Slice lo hi none p2) pos) (tSl r te tl th) := by
  intro pins s σ H Q I h
  refine Subscript_ (thn (he pins s σ H _ I h) fun v s1 ⟨x, H1, I1, r1, q1⟩ => ?_)
  refine wpAny_Slice (thn (hl pins s1 σ H1 _ I1 q1) fun vl s2 ⟨l, H2, I2, pl, q2⟩ => thn (hu pins s2 σ H2 _ I2 q2) fun vu s3 ⟨u, H3, I3, pu, q3⟩ => ?_)
  rw [evalPart_none]
  refine wpAny_pure ?_
  have I4 : Inv X pins σ H3 { s3 with heap := s3.heap.push { cls := .type "slice", data := .fields #[vl, vu, .none] } } := I3.kept (t' := s3.toks) fun b ob q => Heap.get?_push_of_some _ q
  obtain ⟨T, id, hT, ht, hg⟩ := hr pins { s3 with heap := s3.heap.push { cls := .type "slice", data := .fields #[vl, vu, .none] } } σ H3 x v vl vu l u s3.heap.objs.size Q I4 r1 (Heap.IsSliceOf.new ..) pl pu q3
  show wpAny (model X.prog X.w) X.A (subscriptTail e (.Slice lo hi none p2) v (.ref s3.heap.objs.size)) (EP X pins σ Q) X.xe { s3 with heap := s3.heap.push { cls := .type "slice", data := .fields #[vl, vu, .none] } }
  exact tail_any (ops := [.ref s3.heap.objs.size, v]) ht hT hg (by with_unfolding_all rfl)

/-- the items of xs[lo:hi] -/
def cutV (xs : List V) (lo hi : Option Int) : List V := (xs.drop (HT.sIx xs.length 0 lo)).take (HT.sIx xs.length xs.length hi - HT.sIx xs.length 0 lo)
theorem cutV_length (xs : List V) (lo hi : Option Int) : (cutV xs lo hi).length ≤ xs.length := by
  unfold cutV
  rw [List.length_take, List.length_drop]
  omega
/-- t[lo:hi], not the whole of it (the whole would be t itself) -/
def rSlT (K : PySem.W.Frag) : V → Option Int → Option Int → Hp → VK → Prop := fun x lo hi H Q => ∃ a xs, x = .ref a ∧ SqT K H a xs ∧
  ¬ (HT.sIx xs.length 0 lo = 0 ∧ HT.sIx xs.length xs.length hi = xs.length) ∧ ∀ p, H p = none → Q (.ref p) (upd H p (.tup (cutV xs lo hi)))
/-! ### t < u, t + u -/
def rLtT (K : PySem.W.Frag) : R2 := fun x y H Q => ∃ a b ns ms, x = .ref a ∧ y = .ref b ∧ SqT K H a (ns.map V.int) ∧ SqT K H b (ms.map V.int) ∧ Q (.bl (HT.lexLt ns ms)) H
/-- t + u, t not empty: u empty gives t itself -/
def rCatT (K : PySem.W.Frag) : R2 := fun x y H Q => ∃ a b xs ys, x = .ref a ∧ y = .ref b ∧ SqT K H a xs ∧ SqT K H b ys ∧ xs ≠ [] ∧ xs.length + ys.length ≤ sizeLine ∧
  (ys = [] → Q (.ref a) H) ∧ (ys ≠ [] → ∀ p, H p = none → Q (.ref p) (upd H p (.tup (xs ++ ys))))
end
end L2

namespace L2
open PySem PySem.Spec PyProof.Rows

/-! ### places -/
/-- the place that an index of any sign means -/
def ixN (n : Nat) (i : Int) : Option Nat := if 0 ≤ i then (if i < n then some i.toNat else none) else if -(n : Int) ≤ i then some (i + n).toNat else none
def atI {α : Type} (xs : List α) (i : Int) : Option α := (ixN xs.length i).bind fun j => xs[j]?
theorem ixN_seq {n : Nat} {i : Int} {j : Nat} (h : ixN n i = some j) : seqIndex? i n = some j ∧ j < n ∧ -(n : Int) ≤ i ∧ i < n := by
  unfold ixN at h
  by_cases h0 : 0 ≤ i
  · rw [if_pos h0] at h
    by_cases h1 : i < n
    · rw [if_pos h1] at h
      have e : i.toNat = j := Option.some.inj h
      exact ⟨by rw [seqIndex_of h0 h1, e], by omega, by omega, h1⟩
    · rw [if_neg h1] at h; cases h
  · rw [if_neg h0] at h
    by_cases h1 : -(n : Int) ≤ i
    · rw [if_pos h1] at h
      have e : (i + n).toNat = j := Option.some.inj h
      exact ⟨by rw [seqIndex_neg (by omega) h1, e], by omega, h1, by omega⟩
    · rw [if_neg h1] at h; cases h
theorem atI_get {α : Type} {xs : List α} {i : Int} {v : α} (h : atI xs i = some v) : ∃ j, seqIndex? i xs.length = some j ∧ xs[j]? = some v ∧ j < xs.length ∧ -(xs.length : Int) ≤ i ∧ i < xs.length := by
  unfold atI at h
  cases e : ixN xs.length i with
  | none => rw [e] at h; cases h
  | some j =>
    rw [e] at h
    obtain ⟨h1, h2, h3, h4⟩ := ixN_seq e
    exact ⟨j, h1, h, h2, h3, h4⟩
theorem atI_nat {α : Type} {xs : List α} {j : Nat} {v : α} (h : xs[j]? = some v) : atI xs (j : Int) = some v := by
  have hj : j < xs.length := (List.getElem?_eq_some_iff.mp h).1
  have e : ixN xs.length (j : Int) = some j := by
    unfold ixN
    rw [if_pos (by omega), if_pos (by omega)]; simp
  unfold atI; rw [e]; exact h
/-! ### what may be subscripted -/
/-- what stands as an index of a plain subscript -/
def PlainIx (b : Expr) : Prop := ∀ o i, subscripted b false o i = operate [o, i] (getItem o i)
/-- a subscript by values -/
def IxR (X : Cx) (r : R2) : Prop :=
  ∀ (value slice : Expr) (pins : List (Addr × Obj)) (s : Shared) (σ : St) (H : Hp) (x y : V) (v u : Value) (Q : VK), Inv X pins σ H s → RelV x v → RelV y u → r x y H Q →
    subscripted slice false v u = operate [v, u] (getItem v u) → wpAny (model X.prog X.w) X.A (subscriptTail value slice v u) (EP X pins σ Q) X.xe s
/-- a call of a builtin's method by values: the receiver, the arguments -/
def MtR (X : Cx) (id : String) (r : V → List V → Hp → VK → Prop) : Prop :=
  ∀ (pins : List (Addr × Obj)) (s : Shared) (σ : St) (H : Hp) (x : V) (xs : List V) (v : Value) (us : List Value) (Q : VK), Inv X pins σ H s → RelV x v → Vals xs us → r x xs H Q →
    wpAny (model X.prog X.w) X.A (call (.builtin id) (v :: us)) (EP X pins σ Q) X.xe s
section
variable {X : Cx} {a b : Expr} {ta tb : TE} {pos : Pos}
/-- a[b] -/
theorem pe_ix {r : R2} (hr : IxR X r) (ha : PE X a ta) (hb : PE X b tb) (hs : PlainIx b) : PE X (.Subscript a b pos) (tOp r ta tb) := by
  intro pins s σ H Q I h
  exact Subscript_ (binT ha hb I h fun v u s2 x y H2 I2 rx ry q => hr a b pins s2 σ H2 x y v u Q I2 rx ry q (hs _ _))

def rIxL (K : PySem.W.Frag) : R2 := fun x y H Q => ∃ p xs i v, x = .ref p ∧ y = .int i ∧ SqL K H p xs ∧ atI xs i = some v ∧ Q v H
def rIxT (K : PySem.W.Frag) : R2 := fun x y H Q => ∃ p xs i v, x = .ref p ∧ y = .int i ∧ SqT K H p xs ∧ atI xs i = some v ∧ Q v H
def rIxS : R2 := fun x y H Q => ∃ z i c, x = .str z ∧ y = .int i ∧ z.length ≤ sizeLine ∧ atI z.cps.toList i = some c ∧ Q (.str ⟨#[c]⟩) H
theorem ix_list : IxR X (rIxL X.K) := by
  intro value slice pins s σ H x y v u Q I rx ry h hs
  obtain ⟨p, xs, i, z, rfl, rfl, hq, he, q⟩ := h
  cases rx
  obtain ⟨t, rfl⟩ := ry
  obtain ⟨its, r, pl, hz⟩ := I.list hq
  obtain ⟨j, h1, h2, h3, h4, h5⟩ := atI_get he
  obtain ⟨w, ew, rw'⟩ := r.get h2
  have hl := r.length
  have hn := line63
  have fin : EP X pins σ Q w s := ⟨z, H, I, rw', q⟩
  by_cases h0 : 0 ≤ i
  · have hj : i.toNat = j := by
      rw [seqIndex_of h0 h5] at h1
      exact Option.some.inj h1
    exact item_listR pl.isList h0 (by omega) (by rw [hj]; simpa using ew) fin hs
  · have hj : (i + (its.toArray.size : Int)).toNat = j := by
      rw [seqIndex_neg (by omega) h4] at h1
      rw [List.size_toArray, ← hl]
      exact Option.some.inj h1
    exact subscriptTail_builtinR (x := w) pl.isList.typeIs slot_list_getitem.lookup
      (wpAny_getItem_list_neg (Q := fun r s' => r = w ∧ EP X pins σ Q r s') pl.isList (by omega) (by rw [List.size_toArray] <;> omega) (by omega) (by rw [hj]; simpa using ew) ⟨rfl, fin⟩) hs
theorem ix_tup : IxR X (rIxT X.K) := by
  intro value slice pins s σ H x y v u Q I rx ry h hs
  obtain ⟨p, xs, i, z, rfl, rfl, hq, he, q⟩ := h
  cases rx
  obtain ⟨t, rfl⟩ := ry
  obtain ⟨its, r, pl, hz⟩ := I.tuple hq
  obtain ⟨j, h1, h2, h3, h4, h5⟩ := atI_get he
  obtain ⟨w, ew, rw'⟩ := r.get h2
  have hl := r.length
  have hn := line63
  have fin : EP X pins σ Q w s := ⟨z, H, I, rw', q⟩
  exact subscriptTail_builtinR (x := w) pl.typeIs slot_tuple_getitem.lookup
    (getItem_tuple (j := j) (Q := fun r s' => r = w ∧ EP X pins σ Q r s') pl (by omega) (by omega) (by rw [List.size_toArray, ← hl]; exact h1) (by simpa using ew) ⟨rfl, fin⟩) hs
/-- list, tuple or str -/
def rIx (K : PySem.W.Frag) : R2 := fun x y H Q => rIxL K x y H Q ∨ rIxT K x y H Q ∨ rIxS x y H Q
/-! ### xs[i] = v, any sign -/
/-- the list's object behind a store -/
theorem mapSeq_set (its : List Value) (n j : Nat) (u : Value) : Obj.mapSeq (·.setIfInBounds j u) { cls := .type "list", data := .seq its.toArray n } = { cls := .type "list", data := .seq (its.set j u).toArray n } := by
  simp [Obj.mapSeq]
theorem Inv.lst {pins : List (Addr × Obj)} {σ : St} {H : Hp} {s : Shared} {p : Addr} {xs : List V} (I : Inv X pins σ H s) (h : H p = some (.lst xs)) :
    ∃ (its : List Value) (n : Nat), Vals xs its ∧ s.heap.get? p = some { cls := .type "list", data := .seq its.toArray n } ∧ xs.length ≤ sizeLine := by
  obtain ⟨z, its, n, r, e⟩ := I.hok p _ h
  exact ⟨its, n, r, e, z⟩
/-- the list at p is written by an update of its object -/
theorem Inv.lstUpd {pins : List (Addr × Obj)} {σ : St} {H : Hp} {s : Shared} {p : Addr} {xs ys : List V} {its its' : List Value} {n n' : Nat} {f : Obj → Obj} (I : Inv X pins σ H s) (h : H p = some (.lst xs))
    (ho : s.heap.get? p = some { cls := .type "list", data := .seq its.toArray n }) (hf : f { cls := .type "list", data := .seq its.toArray n } = { cls := .type "list", data := .seq its'.toArray n' }) (r : Vals ys its') (hz : ys.length ≤ sizeLine) (t : Nat) :
    Inv X pins σ (upd H p (.lst ys)) { s with heap := s.heap.update p f, toks := t } := by
  have e : (s.heap.update p f).get? p = some { cls := .type "list", data := .seq its'.toArray n' } := by
    rw [Heap.get?_update_self f ho (by rw [hf] <;> rfl), hf]
  refine I.write (x := p) (e := p) (by rw [h]; trivial) (.inl rfl) (fun b u hb q => (Heap.get?_update_other _ _ (Ne.symm hb)).trans q) ⟨_, e⟩ ?_
  exact ⟨hz, its', n', r, e⟩
def rSetL : V → V → V → Hp → (Hp → Prop) → Prop := fun o i v H Q => ∃ p xs k j, o = .ref p ∧ i = .int k ∧ H p = some (.lst xs) ∧ ixN xs.length k = some j ∧ Q (upd H p (.lst (xs.set j v)))
theorem set_list : PSet X rSetL := by
  intro pins s σ H o i v ov iv u Q I ro ri rv h
  obtain ⟨p, xs, k, j, rfl, rfl, hp, hj, q⟩ := h
  cases ro
  obtain ⟨t, rfl⟩ := ri
  obtain ⟨its, n, r, ho, hz⟩ := I.lst hp
  obtain ⟨h1, h2, h3, h4⟩ := ixN_seq hj
  have hl := r.length
  have hn := line63
  have I' : Inv X pins σ (upd H p (.lst (xs.set j v))) { s with heap := s.heap.update p (Obj.mapSeq (·.setIfInBounds j u)) } :=
    I.lstUpd hp ho (mapSeq_set its n j u) (r.set rv j) (by rw [List.length_set]; exact hz) s.toks
  by_cases h0 : 0 ≤ k
  · have hk : k.toNat = j := by
      rw [seqIndex_of h0 h4] at h1
      exact Option.some.inj h1
    exact PySem.W.ki_setAt ho h0 (by omega) (by rw [List.size_toArray, ← hl]; exact h4) (by rw [hk]; exact ⟨_, I', q⟩)
  · have hk : (k + (its.toArray.size : Int)).toNat = j := by
      rw [seqIndex_neg (by omega) h3] at h1
      rw [List.size_toArray, ← hl]
      exact Option.some.inj h1
    exact PySem.W.ki_setBack ho (by omega) (by rw [List.size_toArray, ← hl]; exact h3) (by omega) (by rw [hk]; exact ⟨_, I', q⟩)

/-! ### slices -/
theorem slice_bounds (lo hi : Option Int) (n : Nat) : (sliceBounds lo hi none n).1 = ((HT.sIx n 0 lo : Nat) : Int) ∧ (sliceBounds lo hi none n).2.1 = ((HT.sIx n n hi : Nat) : Int) ∧ (sliceBounds lo hi none n).2.2 = 1 := by
  refine ⟨?_, ?_, rfl⟩
  · cases lo with
    | none => simp [sliceBounds, HT.sIx]
    | some i =>
      simp only [sliceBounds, HT.sIx, Option.getD_none, show (1 : Int) > 0 by decide, if_true]
      by_cases h : i < 0
      · simp only [h, if_true] <;> omega
      · simp only [h, if_false] <;> omega
  · cases hi with
    | none => simp [sliceBounds, HT.sIx]
    | some i =>
      simp only [sliceBounds, HT.sIx, Option.getD_none, show (1 : Int) > 0 by decide, if_true]
      by_cases h : i < 0
      · simp only [h, if_true] <;> omega
      · simp only [h, if_false] <;> omega
theorem slicePick_cut (its : List Value) (lo hi : Option Int) : slicePick its.toArray lo hi none = ((its.drop (HT.sIx its.length 0 lo)).take (HT.sIx its.length its.length hi - HT.sIx its.length 0 lo)).toArray := by
  obtain ⟨h1, h2, h3⟩ := slice_bounds lo hi its.toArray.size
  unfold slicePick
  rw [h1, h2, h3]
  simp only [sliceRange_one, pick_run, List.size_toArray] <;> rfl
/-- xs[lo:hi] of a list: a new list -/
def rSlL (K : PySem.W.Frag) : V → Option Int → Option Int → Hp → VK → Prop := fun x lo hi H Q => ∃ a xs, x = .ref a ∧ SqL K H a xs ∧ ∀ p, H p = none → Q (.ref p) (upd H p (.lst (cutV xs lo hi)))
theorem sl_list : SlR X (rSlL X.K) := by
  intro pins s σ H x v vl vu lo hi sl Q I rx hs pl pu h
  obtain ⟨a, xs, rfl, hx, q⟩ := h
  cases rx
  obtain ⟨its, r, ht, hz⟩ := I.list hx
  have hlen := r.length
  refine ⟨"list", _, slot_list_getitem.lookup, ht.isList.typeIs, ?_⟩
  refine wpAny_getItem_list_slice ht.isList hs pl pu .none (by simp) ?_ (by rw [List.size_toArray] <;> omega)
  rw [slicePick_cut, ← hlen]
  refine ⟨.ref s.heap.objs.size, _, I.laid (t' := s.toks) (o := .lst (cutV xs lo hi)) (fun b ob q => Heap.get?_push_of_some _ q) (Nat.le_refl _) ?_, rfl, q _ (I.hok.fresh (Nat.le_refl _))⟩
  exact ⟨Nat.le_trans (cutV_length xs lo hi) hz, _, 0, (r.drop (HT.sIx xs.length 0 lo)).take (HT.sIx xs.length xs.length hi - HT.sIx xs.length 0 lo), Heap.get?_push_size _ rfl⟩

/-! ### in, not in: flat items -/
def flatV : V → Bool
  | .non => true
  | .bl _ => true
  | .int _ => true
  | .str _ => true
  | _ => false
/-- == of flat values -/
def eqV : V → V → Bool
  | .non, .non => true
  | .bl a, .bl b => a == b
  | .bl a, .int b => (if a then 1 else 0) == b
  | .int a, .bl b => a == (if b then 1 else 0)
  | .int a, .int b => a == b
  | .str a, .str b => a == b
  | _, _ => false
theorem eqAt_V {A : Around} {s : Shared} {y x : V} {u v : Value} (ry : RelV y u) (rx : RelV x v) (fy : flatV y = true) (fx : flatV x = true) : SeqAt.EqAt A s u v (eqV y x) := by
  cases y with
  | non =>
    cases ry
    cases x with
    | non => cases rx; exact SeqAt.EqAt.same _
    | bl b => cases rx; exact SeqAt.EqAt.none_bool b
    | int b => obtain ⟨t, rfl⟩ := rx; exact SeqAt.EqAt.none_int b t
    | str b => obtain ⟨t, rfl⟩ := rx; exact SeqAt.EqAt.none_str b t
    | _ => exact absurd (show false = true from fx) Bool.false_ne_true
  | bl a =>
    cases ry
    cases x with
    | non => cases rx; exact SeqAt.EqAt.bool_none a
    | bl b => cases rx; exact SeqAt.EqAt.bool_bool a b
    | int b => obtain ⟨t, rfl⟩ := rx; exact SeqAt.EqAt.bool_int a b t
    | str b => obtain ⟨t, rfl⟩ := rx; exact SeqAt.EqAt.bool_str a b t
    | _ => exact absurd (show false = true from fx) Bool.false_ne_true
  | int a =>
    obtain ⟨t', rfl⟩ := ry
    cases x with
    | non => cases rx; exact SeqAt.EqAt.int_none a t'
    | bl b => cases rx; exact SeqAt.EqAt.int_bool a t' b
    | int b => obtain ⟨t, rfl⟩ := rx; exact SeqAt.EqAt.int_int a t' b t
    | str b => obtain ⟨t, rfl⟩ := rx; exact SeqAt.EqAt.int_str a t' b t
    | _ => exact absurd (show false = true from fx) Bool.false_ne_true
  | str a =>
    obtain ⟨t', rfl⟩ := ry
    cases x with
    | non => cases rx; exact SeqAt.EqAt.str_none a t'
    | bl b => cases rx; exact SeqAt.EqAt.str_bool a t' b
    | int b => obtain ⟨t, rfl⟩ := rx; exact SeqAt.EqAt.str_int a t' b t
    | str b => obtain ⟨t, rfl⟩ := rx; exact SeqAt.EqAt.str_str a t' b t
    | _ => exact absurd (show false = true from fx) Bool.false_ne_true
  | _ => exact absurd (show false = true from fy) Bool.false_ne_true
/-- the items' answers, read off the values (a value's own answer does not lean on its token) -/
def eqU (x : V) (u : Value) : Bool := match u with
  | .none => eqV .non x
  | .bool b => eqV (.bl b) x
  | .int i _ => eqV (.int i) x
  | .str z _ => eqV (.str z) x
  | _ => false
theorem eqU_of {x y : V} {u : Value} (r : RelV y u) (f : flatV y = true) : eqU x u = eqV y x := by
  cases y with
  | non => cases r; rfl
  | bl b => cases r; rfl
  | int i => obtain ⟨t, rfl⟩ := r; rfl
  | str z => obtain ⟨t, rfl⟩ := r; rfl
  | _ => exact absurd (show false = true from f) Bool.false_ne_true
theorem any_eqU {x : V} : ∀ {xs : List V} {us : List Value}, Vals xs us → xs.all flatV = true → us.any (eqU x) = xs.any fun y => eqV y x
  | _, _, .nil, _ => rfl
  | y :: xs, u :: us, .cons r t, f => by
    rw [List.all_cons, Bool.and_eq_true] at f
    rw [List.any_cons, List.any_cons, eqU_of r f.1, any_eqU t f.2]
theorem mem_eqAt {A : Around} {s : Shared} {x : V} {v : Value} (rx : RelV x v) (fx : flatV x = true) : ∀ {xs : List V} {us : List Value}, Vals xs us → xs.all flatV = true → ∀ u ∈ us, SeqAt.EqAt A s u v (eqU x u)
  | _, _, .nil, _ => fun u hu => by cases hu
  | y :: xs, u :: us, .cons r t, f => fun u' hu => by
    rw [List.all_cons, Bool.and_eq_true] at f
    rcases List.mem_cons.mp hu with rfl | hu
    · rw [eqU_of r f.1]; exact eqAt_V r rx f.1 fx
    · exact mem_eqAt rx fx t f.2 u' hu
def inV (x : V) (xs : List V) : Bool := xs.any fun y => eqV y x
/-- x in a list or tuple of flat items -/
def rIn (K : PySem.W.Frag) (neg : Bool) : R2 := fun x y H Q => ∃ p xs, y = .ref p ∧ (SqL K H p xs ∨ SqT K H p xs) ∧ flatV x = true ∧ xs.all flatV = true ∧ Q (.bl (if neg then !inV x xs else inV x xs)) H
theorem op_in_seq : OpR X (compareOp .In) (rIn X.K false) := by
  intro pins s σ H x y v u Q I rx ry h
  obtain ⟨p, xs, rfl, hq, fx, fs, q⟩ := h
  cases ry
  rcases hq with hq | hq
  · obtain ⟨its, r, pl, hz⟩ := I.list hq
    refine SeqAt.in_listAt (eqU x) pl.isList (fun w hw => mem_eqAt rx fx r fs w (by simpa using hw)) ⟨.bl _, H, I, rfl, ?_⟩
    rw [show its.toArray.any (eqU x) = its.any (eqU x) by simp, any_eqU r fs]
    exact q
  · obtain ⟨its, r, pl, hz⟩ := I.tuple hq
    refine SeqAt.in_tupleAt (eqU x) pl (fun w hw => mem_eqAt rx fx r fs w (by simpa using hw)) ⟨.bl _, H, I, rfl, ?_⟩
    rw [show its.toArray.any (eqU x) = its.any (eqU x) by simp, any_eqU r fs]
    exact q
/-! ### len, list(x), tuple(x) of any list or tuple that is read -/
theorem call_len_seq : CallR X (.builtin "len") (fun xs H Q => ∃ p ys, xs = [.ref p] ∧ (SqL X.K H p ys ∨ SqT X.K H p ys) ∧ Q (.int ys.length) H) := by
  intro pins s σ H xs us Q I r h
  obtain ⟨p, ys, rfl, hq, q⟩ := h
  obtain ⟨u, rfl, rx⟩ := vals1 r
  cases rx
  have hn := line63
  rcases hq with hq | hq
  · obtain ⟨its, r', pl, hz⟩ := I.list hq
    have hlen := r'.length
    exact Calls.call_len_list pl.isList (by simp only [List.size_toArray] <;> omega) ⟨.int ys.length, H, I.tok _, ⟨s.toks + 1, by rw [List.size_toArray, hlen]⟩, q⟩
  · obtain ⟨its, r', pl, hz⟩ := I.tuple hq
    have hlen := r'.length
    exact len_tuple pl (by simp only [List.size_toArray] <;> omega) ⟨.int ys.length, H, I.tok _, ⟨s.toks + 1, by rw [List.size_toArray, hlen]⟩, q⟩
theorem call_tuple_of : CallR X (.type "tuple") (fun xs H Q => ∃ p ys, xs = [.ref p] ∧ ((SqL X.K H p ys ∧ ∀ l, H l = none → Q (.ref l) (upd H l (.tup ys))) ∨ (SqT X.K H p ys ∧ Q (.ref p) H))) := by
  intro pins s σ H xs us Q I r h
  obtain ⟨p, ys, rfl, h⟩ := h
  obtain ⟨u, rfl, rx⟩ := vals1 r
  cases rx
  rcases h with ⟨hq, q⟩ | ⟨hq, q⟩
  · obtain ⟨its, r', pl, hz⟩ := I.list hq
    have hlen := r'.length
    refine call_tuple_list pl.isList (fun h' kp => ?_) (by simp only [List.size_toArray] <;> omega)
    have I1 : Inv X pins σ H { s with heap := h' } := I.kept (t' := s.toks) kp
    have I2 : Inv X pins σ (upd H h'.objs.size (.tup ys)) { s with heap := h'.push { cls := .type "tuple", data := .seq its.toArray } } :=
      I1.laid (t' := s.toks) (fun b o e => Heap.get?_push_of_some _ e) (Nat.le_refl _) (show ObjOk X.prog X.w _ _ _ (.tup ys) from ⟨hz, its, r', IsTup.new _ _⟩)
    exact ⟨.ref h'.objs.size, _, I2, rfl, q _ (I1.hok.fresh (Nat.le_refl _))⟩
  · obtain ⟨its, r', pl, hz⟩ := I.tuple hq
    exact call_tuple_same pl ⟨.ref p, H, I, rfl, q⟩

/-! ### the call of a builtin's method: o.m(..) -/
/-- the value is of that builtin type -/
def tyV (K : PySem.W.Frag) (T : String) (x : V) (H : Hp) : Prop := match x with
  | .str _ => T = "str"
  | .int _ => T = "int"
  | .ref p => (T = "list" ∧ ∃ xs, SqL K H p xs) ∨ (T = "tuple" ∧ ∃ o, K.lookup p = some o ∧ o.cls = .type "tuple" ∧ o.dict = none) ∨
      (T = "dict" ∧ ((∃ kvs, H p = some (.dK kvs)) ∨ ∃ kvs, H p = some (.dT kvs))) ∨ (T = "set" ∧ ∃ S n, H p = some (.set S n))
  | _ => False
def tBM0 (K : PySem.W.Frag) (T : String) (r : V → List V → Hp → VK → Prop) (to : TE) : TE := fun σ H Q => to σ H fun x H1 => tyV K T x H1 ∧ r x [] H1 Q
def tBM (K : PySem.W.Frag) (T : String) (r : V → List V → Hp → VK → Prop) (to : TE) (t : TA) : TE := fun σ H Q => to σ H fun x H1 => tyV K T x H1 ∧ t σ H1 fun xs H2 => r x xs H2 Q
variable {o e : Expr} {es : List Expr} {to : TE} {t : TA} {name : Str} {apos cpos : Pos} {T id : String} {r : V → List V → Hp → VK → Prop}
/- xs.append(e), list.index on a module's tuple .. are MtR facts of 06m -/
end
end L2

namespace L2
open PySem PySem.Spec PyProof.Rows

def MtM (X : Cx) (id : String) (r : V → List V → Hp → VK → Prop) : Prop :=
  ∀ (pins : List (Addr × Obj)) (s : Shared) (σ : St) (H : Hp) (x : V) (xs : List V) (v : Value) (us : List Value) (Q : VK), Inv X pins σ H s → RelV x v → Vals xs us → r x xs H Q →
    wpAny (model X.prog X.w) X.A (call (.builtin id) (v :: us)) (EP X pins σ Q) X.xe s

/-! ### lists of values -/
section
variable {X : Cx} {pins : List (Addr × Obj)} {σ : St} {H : Hp} {s : Shared} {l b : Addr} {xs ys zs : List V}

/-! ### the two steps: a tracked list is rewritten, a new list is laid -/
theorem Inv.lnew {its : List Value} {t' : Nat} (I : Inv X pins σ H s) (hv : Vals ys its) (hz : ys.length ≤ sizeLine) :
    Inv X pins σ (upd H s.heap.objs.size (.lst ys)) { s with heap := s.heap.push { cls := .type "list", data := .seq its.toArray }, toks := t' } :=
  I.laid (fun _ _ q => Heap.get?_push_of_some _ q) (Nat.le_refl _) ⟨hz, its, 0, hv, Heap.get?_push_size _ rfl⟩
theorem Inv.fresh (I : Inv X pins σ H s) : H s.heap.objs.size = none := I.hok.fresh (Nat.le_refl _)
theorem Inv.lstM (I : Inv X pins σ H s) (hH : H l = some (.lst xs)) : xs.length ≤ sizeLine ∧ ∃ (its : List Value) (n : Nat), Vals xs its ∧ xs.length = its.length ∧ s.heap.get? l = some { cls := .type "list", data := .seq its.toArray n } := by
  obtain ⟨z, its, n, r, e⟩ := I.hok l _ hH
  exact ⟨z, its, n, r, r.length, e⟩

end

section
variable {X : Cx}

/-! ### methods -/
def rAppend : V → List V → Hp → VK → Prop := fun x vs H Q => ∃ l xs y, x = .ref l ∧ vs = [y] ∧ H l = some (.lst xs) ∧ xs.length < sizeLine ∧ Q .non (upd H l (.lst (xs ++ [y])))
def rExtend : V → List V → Hp → VK → Prop := fun x vs H Q => ∃ l b xs zs, x = .ref l ∧ vs = [.ref b] ∧ H l = some (.lst xs) ∧ H b = some (.lst zs) ∧ xs.length + zs.length ≤ sizeLine ∧ Q .non (upd H l (.lst (xs ++ zs)))
def rPop : V → List V → Hp → VK → Prop := fun x vs H Q => ∃ l xs y, x = .ref l ∧ vs = [] ∧ H l = some (.lst xs) ∧ xs[xs.length - 1]? = some y ∧ Q y (upd H l (.lst xs.dropLast))
def rPopAt : V → List V → Hp → VK → Prop := fun x vs H Q => ∃ l xs i k y, x = .ref l ∧ vs = [.int i] ∧ H l = some (.lst xs) ∧ -(2 ^ 63) ≤ i ∧ i < 2 ^ 63 ∧ seqIndex? i xs.length = some k ∧ xs[k]? = some y ∧ Q y (upd H l (.lst (xs.eraseIdx k)))
def rReverse : V → List V → Hp → VK → Prop := fun x vs H Q => ∃ l xs, x = .ref l ∧ vs = [] ∧ H l = some (.lst xs) ∧ Q .non (upd H l (.lst xs.reverse))
def rClear : V → List V → Hp → VK → Prop := fun x vs H Q => ∃ l xs, x = .ref l ∧ vs = [] ∧ H l = some (.lst xs) ∧ Q .non (upd H l (.lst []))
/-! ### list + list, list += list, list * int -/
def rCat : R2 := fun x y H Q => ∃ l b xs zs, x = .ref l ∧ y = .ref b ∧ H l = some (.lst xs) ∧ H b = some (.lst zs) ∧ xs.length + zs.length ≤ sizeLine ∧ ∀ p, H p = none → Q (.ref p) (upd H p (.lst (xs ++ zs)))
theorem op_cat : OpR X (binaryOp .Add) rCat := by
  intro pins s σ H x y v u Q I rx ry h
  obtain ⟨l, b, xs, zs, rfl, rfl, hH, hB, hz, q⟩ := h
  cases rx
  cases ry
  obtain ⟨z, its, n, r, hl, e⟩ := I.lstM hH
  obtain ⟨z2, its2, n2, r2, hl2, e2⟩ := I.lstM hB
  refine PySem.P.add_list e e2 ?_ (by rw [List.size_toArray, List.size_toArray]; omega)
  have ea : its.toArray ++ its2.toArray = (its ++ its2).toArray := by simp
  rw [ea]
  exact ⟨.ref _, _, I.lnew (t' := s.toks) (r.append r2) (by rw [List.length_append]; omega), rfl, q _ I.fresh⟩
/-- a list times an int (a negative one is nothing) -/
def rRep : R2 := fun x y H Q => ∃ l k xs, x = .ref l ∧ y = .int k ∧ H l = some (.lst xs) ∧ -(2 ^ 63) ≤ k ∧ k < 2 ^ 63 ∧ xs.length * k.toNat ≤ sizeLine ∧
  ∀ p, H p = none → Q (.ref p) (upd H p (.lst (List.replicate k.toNat xs).flatten))
/-! ### del xs[i] -/
end

/-! ### xs[a:b] = ys -/
section
variable {prog : Program} {w : World} {A : Around} {E : Value → Shared → Prop} {s : Shared}
set_option maxRecDepth 100000 in
end

section
variable {X : Cx}
end
end L2

namespace Att
open PySem PySem.W PySem.Calls PyProof.Rows

/-! ### the script -/
theorem ints_of_wellAll {P : Params} {h : Heap} : ∀ (ns : List Int) (vs : List Value), WellAll P h vs (ns.map WData.int) → IntsAre vs ns := by
  intro ns
  induction ns with
  | nil =>
    intro vs w
    rw [List.map_nil] at w
    cases w
    exact .nil
  | cons n ns ih =>
    intro vs w
    rw [List.map_cons] at w
    cases w with
    | cons a b =>
      cases a
      exact .cons _ _ (ih _ b)

theorem script_of {l : OpenLaw} {n : Nat} (hn : l.most = some n) {P : Params} {h : Heap} {args : List WData} {vals : List Value}
    (hpre : l.row.toRowW.claim.pre args = true) (hwl : WellAll P h vals args) :
    ∃ a vs ns, vals = [Value.ref a] ∧ args = [WData.list (ns.map WData.int)] ∧ h.get? a = some { cls := .type "list", data := .seq vs.toArray } ∧ IntsAre vs ns ∧ ns.length ≤ n := by
  have hsh : WShape.hasAll [] args [.list .int] = true := (pre_splitW hpre).1
  have hc : l.pre.holds [] { args := args } = true := (pre_splitW hpre).2
  obtain ⟨d, r, rfl, h1, h2⟩ := hasAllW_cons hsh
  obtain rfl := hasAllW_nil h2
  obtain ⟨xs, rfl, h3⟩ := hasW_list h1
  obtain ⟨ns, rfl⟩ := items_int h3
  have hlen : ns.length ≤ n := by
    unfold OpenLaw.pre at hc
    have h4 : (WTm.not (.lt (.lit (.int (n : Int))) (.len (.arg 0)))).holds [] { args := [.list (ns.map .int)] } = true := by
      have h4 := (holds_andW hc).1
      rw [hn] at h4
      exact h4
    have h5 := condW_of h4 (w_not (w_lt w_lit (w_len_list (w_arg rfl))))
    rw [List.length_map] at h5
    refine Nat.le_of_not_lt fun q => ?_
    have q' : (n : Int) < ((ns.length : Nat) : Int) := by omega
    first
      | (rw [decide_eq_true q'] at h5; exact absurd h5 (by decide))
      | (simp at h5; omega)
  cases hwl with
  | cons w1 w2 =>
    cases w2
    cases w1 with
    | list ho hall => exact ⟨_, _, ns, rfl, rfl, ho, ints_of_wellAll ns _ hall, hlen⟩

theorem post_true (l : OpenLaw) (args : List WData) : l.row.toRowW.claim.post args (.bool true) args = true :=
  postW_of (r := l.row.toRowW) (X := (true == true))
    (show WShape.has [] (.bool true) .bool = true by first | rfl | decide | simp [WShape.has, WShape.arms, WShape.armsAll])
    (show (WTm.eq .res (.lit (.bool true))).value [] { args := args, res := some (.bool true), after := args } = some (.bool (true == true)) from w_eq_bool (w_res rfl) w_lit) rfl

/-! ### the attachment: holds_open's last premise (the goal 'hc' behind k_head) from a wpAny of the law's body -/
/-! ### rules over ANY heap (no ledger) from facts about the written part K: the library's own take a ledger (News) for what they write -/
section
variable {prog : Program} {w : World} {A : Around} {E : Value → Shared → Prop} {s : Shared} {K : Frag}

/-! the whole heap as the ledger: makes every rule that writes through a ledger a rule over any heap -/
def noObjs (h : Heap) : Heap := { h with objs := #[] }
def ledger (h : Heap) (L d : Addr) : List (Addr × Obj) := (List.range h.objs.size).filterMap fun a => if a = L ∨ a = d then none else (h.get? a).map fun o => (a, o)
end
end Att

namespace L2
open PySem PySem.Spec PyProof.Rows

theorem vals_ints : ∀ {vs : List Value} {ns : List Int}, IntsAre vs ns → Vals (ns.map V.int) vs
  | _, _, .nil => .nil
  | _, _, .cons n t h => .cons ⟨t, rfl⟩ (vals_ints h)

/-- nothing is tracked but the script, known to the object (or it is an object of the module) -/
def Only (H : Hp) : Prop := ∀ b, H b = none ∨ ∃ o xs, H b = some (.frz o (.lst xs))

/-- THE HEAD: the law's promise, at the heap behind the top. F, the promise of the law's def, may use that base is part of the heap (so K.In base, base.Ns mainGlobals mg stand in Mod) -/
theorem law_call {P : Program} {w : World} {K : PySem.W.Frag} {mg mb : Str → Option Value} {CX : CXT} {k : Nat} {fa a : Addr} {fd : FuncData} {x : Str} {sp : Sp} {s₁ : Shared} {vs : List Value} {ns : List Int}
    (KX : K.In s₁.heap) (hns : s₁.heap.Ns mainGlobals mg) (hb : s₁.heap.Ns builtinsNs mb) (hbb : ∀ x : Str, x ≠ "__name__" → mb x = bootBuiltins x) (hlim : s₁.heap.NoLimit) (hg : s₁.gens = #[])
    (ha : s₁.heap.get? a = some { cls := .type "list", data := .seq vs.toArray }) (hi : IntsAre vs ns) (hl : ns.length ≤ sizeLine) (hr : Room k callerA)
    (F : ∀ base : Heap, K.In base → base.Ns mainGlobals mg → FnOk P w K mg base CX k fa fd [x] sp) (hbind : ∀ (s : Shared) (u : Value), BindsTo s fd ⟨[u], []⟩ [(x, u)])
    (hsp : ∀ H : Hp, Only H → SqL K H a (ns.map V.int) → sp [.ref a] H (fun v _ => v = .bl true) fun _ _ _ => False)
    (hCX : ∀ H e s', CX [] H s₁ (fun _ _ _ => False) e s' → False) :
    codeAny (model P w) callerA (.call (.ref fa) ⟨[.ref a], []⟩) (fun r s' => r = .ok (.ret (.bool true)) ∧ OldK s₁.heap s'.heap ∧ s'.os = s₁.os ∧ AllBare s'.gens) s₁ := by
  have rv := vals_ints hi
  have lenV := hi.length
  -- from an abstract heap in which nothing but the script may be tracked
  have core : ∀ H : Hp, Only H → SqL K H a (ns.map V.int) → HOk P w H s₁.heap → (∀ b, H b ≠ none → b = a) → (H a ≠ none → K.lookup a = none) →
      codeAny (model P w) callerA (.call (.ref fa) ⟨[.ref a], []⟩) (fun r s' => r = .ok (.ret (.bool true)) ∧ OldK s₁.heap s'.heap ∧ s'.os = s₁.os ∧ AllBare s'.gens) s₁ := by
    intro H hO hS hok hA hK
    have base_of : ∀ {b : Addr} {o : Obj}, s₁.heap.get? b = some o → H b = none → (hidT s₁.heap H).get? b = some o := fun e n => hidT_get e n
    have noA : ∀ {b : Addr} {o : Obj} {es : Array DictEntry} {ep : Nat}, s₁.heap.get? b = some o → o.data = .dict es ep → H b = none := fun {b o es ep} e d => by
      cases q : H b with
      | none => rfl
      | some u =>
        have e' : b = a := hA b (by rw [q]; simp)
        subst e'
        rw [ha] at e; cases e
        have d' : Data.seq vs.toArray _ = Data.dict es ep := d
        cases d'
    have nsK : ∀ {b : Addr} {m : Str → Option Value}, s₁.heap.Ns b m → (hidT s₁.heap H).Ns b m := fun {b m} ⟨o, es, ep, e, d, r⟩ => ⟨o, es, ep, base_of e (noA e d), d, r⟩
    have hKb : K.In (hidT s₁.heap H) := fun b o e => base_of (KX b o e) (by
      cases q : H b with
      | none => rfl
      | some u =>
        have e' : b = a := hA b (by rw [q]; simp)
        subst e'
        rw [hK (by rw [q]; simp)] at e; cases e)
    have hM : Mod K mg (hidT s₁.heap H) := ⟨hKb, nsK hns, ⟨mb, nsK hb, hbb⟩, let ⟨mc, h1, h2⟩ := hlim; ⟨mc, nsK h1, h2⟩⟩
    have e0 : Env0 P w K mg (hidT s₁.heap H) callerA [] s₁ H := ⟨rfl, hM, fun b o e => of_hidT e, Nat.le_of_eq (hidT_size _ _), trivial, fun b hb => absurd (show b ∈ ([] : List Addr) from hb) (by simp), hok, .of_eq hg⟩
    refine codeAny_mono ((F _ hKb (nsK hns)).run callerA [] s₁ H ⟨[.ref a], []⟩ [.ref a] [.ref a] _ _ hr e0 (hbind s₁ (.ref a)) (.cons rfl .nil) (hsp H hO hS)) fun r s' h => ?_
    cases r with
    | error e => exact (hCX H e s' h).elim
    | ok fl =>
      cases fl with
      | next => exact False.elim h
      | brk => exact False.elim h
      | cont => exact False.elim h
      | ret u =>
        obtain ⟨v, H', os, bare, un, hok', r', q⟩ := h
        have q' : v = .bl true := q
        subst q'
        obtain rfl : u = Value.bool true := r'
        refine ⟨rfl, OldK.of_keep fun b o e => ?_, os, bare⟩
        cases q : H b with
        | none => exact un.keep b o e q (by intro z; exact absurd (show b ∈ ([] : List Addr) from z) (by simp)) (by simp)
        | some u =>
          rcases hO b with z | ⟨ob, xs, z⟩
          · rw [q] at z; cases z
          · have z2 := un.frzs b ob _ z
            obtain ⟨e1, _⟩ := hok b _ z
            obtain ⟨e2, _⟩ := hok' b _ z2
            rw [e] at e1; cases e1
            exact e2
  cases hk : K.lookup a with
  | some o =>
    -- the script is one of the module's own objects
    have e := KX a o hk
    rw [ha] at e
    cases e
    refine core (fun _ => none) (fun _ => .inl rfl) (.inr ⟨_, vs.toArray, _, hk, rfl, rfl, rfl, by rw [List.size_toArray, lenV]; exact hl, by simpa using rv⟩) (fun b u z => by have z' : (none : Option HO) = some u := z; cases z') (fun b z => absurd rfl z) fun z => absurd rfl z
  | none =>
    refine core (fun b => if b = a then some (.frz { cls := .type "list", data := .seq vs.toArray } (.lst (ns.map V.int))) else none) (fun b => ?_) (.inl (.inr ⟨{ cls := .type "list", data := .seq vs.toArray }, if_pos rfl⟩)) (fun b u z => ?_) (fun b z => ?_) fun _ => hk
    · by_cases hb : b = a
      · exact .inr ⟨_, _, if_pos hb⟩
      · exact .inl (if_neg hb)
    · by_cases hb : b = a
      · have z' := (if_pos hb).symm.trans z
        cases z'
        subst hb
        exact ⟨ha, by rw [List.length_map]; exact hl, vs, _, rv, ha⟩
      · have z' := (if_neg hb).symm.trans z
        cases z'
    · by_cases hb : b = a
      · exact hb
      · exact absurd (if_neg hb) z
end L2

namespace L2
open PySem PySem.Spec PyProof.Rows

abbrev KOf {K : PySem.W.Frag} {h : Heap} (_ : K.In h) : PySem.W.Frag := K

end L2

/- THE LAST THEOREM (shape; LID, My.* are yours):
   My.Adr: a structure of the addresses that your layer names (classes, functions); My.Txt K t: a structure (Prop) of the equations over K;
   My.txt_mk : {K} {implicit addresses ..} (e1 : nsIn K mainGlobals "law" = some (some (.ref f))) (e2 : K.lookup f = some ⟨oc, od, .func (fnOf "law" "law" params body scope dV kV doc pm an cdv ct), sl⟩) (e3 : codeIn K cdv "law" = true) .. : ∃ t, My.Txt K t

set_option maxRecDepth 100000 in
set_option maxHeartbeats 0 in
theorem PySem.Challenge.cw_LID_holds : PySem.Challenge.rw_LID.Holds := by
  w_on; o_law; k_head; (case hw => w_witness2)
  k_fill
  refine L2.walk_of (l := PySem.Challenge.rw_LID) (n := 63) (k := 40) (x := "script") (CX := fun w => ..) (sp := fun _ => My.sp_law) rfl (by decide) rfl ⟨rfl, by decide, by decide⟩ (fun w h Y => PySem.W.kIn_of Y) ?F ?S ?C
  case F =>
    intro w mg fa h KX G hmg
    have T : ∃ t, My.Txt (L2.KOf KX) t := by
      dsimp only [L2.KOf]                          -- K must stand as «<heap const> w.params» for k_is
      refine' My.txt_mk ?e1 ?e2 ?e3 ..
      (case e1 => PySem.W.k_is)                    -- in the order: a name -> its address -> its object -> its parts
      (case e2 => PySem.W.k_is)
      ..
    obtain ⟨t, T⟩ := T
    have e0 := hmg.symm.trans (PySem.W.mg_of KX G T.law)
    cases e0                                       -- fa is the law's own address
    exact ⟨_, fun s u => .of_eq rfl, fun base kb nb => My.law_fn T kb nb⟩     -- if «.of_eq rfl» comes too early: refine' ⟨_, ?b, fun base kb nb => My.law_fn T kb nb⟩; exact fun s u => .of_eq rfl
  case S => exact fun w H a ns hl hO hS => ..
  case C => exact ..
(the tactic k_is has no namespace: write k_is) -/

/-! SHORT WORDS over the layer: a def of the text, its body, what a loop and a test want. -/
namespace L2
open PySem PySem.Spec PyProof.Rows

/-! ### the text by places -/
/-- the j-th statement of a class's body -/
def inClass (s : Stmt) (j : Nat) : Stmt := match s with
  | .ClassDef _ _ _ body _ _ _ _ _ _ _ => body.getD j (.Pass ⟨0, 0, 0, 0⟩)
  | _ => .Pass ⟨0, 0, 0, 0⟩
def defArgs (s : Stmt) : Arguments := match s with
  | .FunctionDef _ a _ _ _ _ _ _ _ _ => a
  | _ => { posonlyargs := [], args := [], vararg := none, kwonlyargs := [], kw_defaults := [], kwarg := none, defaults := [] }
def defBody (s : Stmt) : List Stmt := match s with
  | .FunctionDef _ _ b _ _ _ _ _ _ _ => b
  | _ => []
def defScope (s : Stmt) : Scope := match s with
  | .FunctionDef _ _ _ _ _ _ sc _ _ _ => sc
  | _ => { kind := .function, names := [], isGenerator := false, isCoroutine := false }

/-! ### no exception leaves a def -/
abbrev CX0 : CXT := fun _ _ _ _ _ _ => False
abbrev E0 : XK := fun _ _ _ => False
theorem pass0 {X : Cx} : Passes CX0 X E0 := fun _ _ _ _ _ _ _ h => h.elim

/-! ### a def (or method) of the text as it stands behind the top -/
structure Fun (K : PySem.W.Frag) (x qual : Str) (st : Stmt) (f : Addr) (fd : FuncData) : Prop where
  ex : ∃ (oc : Value) (od : Option Addr) (kV doc pm : Value) (an : Option Addr) (cdv ct : Value) (osl : Array (Option Value)),
    fd = PySem.W.fnOf x qual (defArgs st) (defBody st) (defScope st) .none kV doc pm an cdv ct ∧ K.lookup f = some ⟨oc, od, .func fd, osl⟩ ∧ PySem.W.codeIn K cdv qual = true
  kp : PySem.W.keepIn K (.ref f) = true
section
variable {P : Program} {w : World} {K : PySem.W.Frag} {mg : Str → Option Value} {base : Heap}
/-- THE RULE for a def: its body as a term of rules, and the reading of that term -/
theorem Fun.ok {x qual : Str} {st : Stmt} {f : Addr} {fd : FuncData} {N ps : List Str} {k : Nat} {sp : Sp} (F : Fun K x qual st f fd) (S : FnScope N ps (defScope st)) (len : ∀ vs H Q E, sp vs H Q E → vs.length = ps.length)
    (hbody : ∀ (cdv : Value) (A : Around) (outer : List Env) (s : Shared) (H : Hp) (vs : List V) (Q : VK) (E : XK), Room k (A.deeper (envOfC qual (defScope st) s.heap.objs.size f cdv)) → sp vs H Q E →
      ∃ t, PSs (cxOf CX0 P w K mg base N qual (defScope st) f cdv A outer s H E).nox (defBody st) t ∧ t { nx := fun _ H' => Q .non H', rt := Q } (start N vs) H) : FnOk P w K mg base CX0 (k + 1) f fd ps sp := by
  obtain ⟨oc, od, kV, doc, pm, an, cdv, ct, osl, rfl, lk, hcd⟩ := F.ex
  refine fn_of lk hcd S len fun A outer s H vs Q E hr hsp => ?_
  obtain ⟨t, h, q⟩ := hbody cdv A outer s H vs Q E hr hsp
  exact ⟨t, h.nox, q⟩
/-- how its arguments bind (no defaults): h is «fun _ _ _ _ _ _ us hl => match us, hl with | [_, _], _ => rfl», one _ a parameter -/
theorem Fun.binds {x qual : Str} {st : Stmt} {f : Addr} {fd : FuncData} {ps : List Str} (F : Fun K x qual st f fd)
    (h : ∀ (kV doc pm : Value) (an : Option Addr) (cdv ct : Value) (us : List Value), us.length = ps.length → bindArgs (PySem.W.fnOf x qual (defArgs st) (defBody st) (defScope st) .none kV doc pm an cdv ct) ⟨us, []⟩ = pure (ps.zip us)) : Binds K fd ps [] := by
  obtain ⟨oc, od, kV, doc, pm, an, cdv, ct, osl, rfl, lk, hcd⟩ := F.ex
  exact .all (h kV doc pm an cdv ct)
theorem fun_mk {x qual : Str} {st : Stmt} {f : Addr} {oc : Value} {od an : Option Addr} {osl : Array (Option Value)} {kV doc pm cdv ct : Value} (l : K.lookup f = some ⟨oc, od, .func (PySem.W.fnOf x qual (defArgs st) (defBody st) (defScope st) .none kV doc pm an cdv ct), osl⟩)
    (c : PySem.W.codeIn K cdv qual = true) (k : PySem.W.keepIn K (.ref f) = true) : Fun K x qual st f (PySem.W.fnOf x qual (defArgs st) (defBody st) (defScope st) .none kV doc pm an cdv ct) := ⟨⟨oc, od, kV, doc, pm, an, cdv, ct, osl, rfl, l, c⟩, k⟩
end
theorem hu_of {A : Around} {k : Nat} (hr : Room k A) : A.units + 1 < cLine := Nat.lt_of_le_of_lt (Nat.add_le_add_left (by decide : 1 ≤ 64) _) hr.units
/-! ### expressions in short: the name that stands in the i-th slot -/
section
variable {X : Cx}
theorem pv (i : Nat) {x : Str} {pos : Pos} (hN : X.N[i]? = some x := by rfl) (hv : Vis X.env.scope x := by first | exact Or.inl rfl | exact Or.inr (Or.inl rfl) | exact Or.inr (Or.inr rfl)) (hd : (x == ("__debug__" : Str)) = false := by decide)
    (hcd : (x == ("__classdict__" : Str)) = false := by decide) : PE X (.Name x pos) (tVar i) := pe_var hN hv hd hcd
end

/-! ### tests -/
theorem iteF {A B : Prop} (h : B) : if false = true then A else B := by
  rw [if_neg Bool.false_ne_true]
  exact h
theorem iteT {A B : Prop} (h : A) : if true = true then A else B := by
  rw [if_pos rfl]
  exact h
theorem ite2 {c A B : Prop} [Decidable c] (h1 : c → A) (h2 : ¬ c → B) : if c then A else B := by
  by_cases h : c
  · rw [if_pos h]
    exact h1 h
  · rw [if_neg h]
    exact h2 h
/-! ### heaps -/
/-- all that was tracked is as it was -/
def Same (H H' : Hp) : Prop := ∀ b o, H b = some o → H' b = some o
theorem Same.refl (H : Hp) : Same H H := fun _ _ h => h
theorem Same.trans {H H1 H2 : Hp} (a : Same H H1) (b : Same H1 H2) : Same H H2 := fun c o h => b c o (a c o h)
theorem Same.free {H H' : Hp} (e : Same H H') {l : Addr} (h : H' l = Option.none) : H l = Option.none := by
  cases q : H l with
  | none => rfl
  | some o =>
    rw [e l o q] at h
    cases h
end L2


namespace L2
open PySem PySem.Spec PyProof.Rows

/-! ### lists of pairs as tables -/
section
variable {κ : Type} [DecidableEq κ]
def valV (kvs : List (κ × V)) (k : κ) : Option V := (kvs.find? fun kv => decide (kv.1 = k)).map (·.2)
/-- in its place, or at the end -/
def putK (kvs : List (κ × V)) (k : κ) (v : V) : List (κ × V) :=
  if (kvs.any fun kv => decide (kv.1 = k)) = true then kvs.map (fun kv => if kv.1 = k then (kv.1, v) else kv) else kvs ++ [(k, v)]
def dropK (kvs : List (κ × V)) (k : κ) : List (κ × V) := kvs.filter fun kv => decide (kv.1 ≠ k)

theorem valV_pos {p : κ × V} {r : List (κ × V)} {k : κ} (e : p.1 = k) : valV (p :: r) k = some p.2 := by simp [valV, List.find?_cons, e]
theorem valV_neg {p : κ × V} {r : List (κ × V)} {k : κ} (e : ¬ p.1 = k) : valV (p :: r) k = valV r k := by simp [valV, List.find?_cons, e]
theorem valV_any (k : κ) : ∀ kvs : List (κ × V), (kvs.any fun kv => decide (kv.1 = k)) = (valV kvs k).isSome
  | [] => rfl
  | p :: r => by
    rw [List.any_cons]
    by_cases e : p.1 = k
    · simp only [valV_pos e, decide_eq_true e, Bool.true_or, Option.isSome_some]
    · rw [valV_neg e, decide_eq_false e, Bool.false_or]; exact valV_any k r
theorem length_putK (kvs : List (κ × V)) (k : κ) (v : V) : (putK kvs k v).length ≤ kvs.length + 1 := by
  unfold putK
  split
  · rw [List.length_map]; omega
  · rw [List.length_append, List.length_cons, List.length_nil]; omega
theorem RelO.isSome_eq {o : Option V} {u : Option Value} (r : RelO o u) : o.isSome = u.isSome := by
  cases o with
  | none => cases u with
    | none => rfl
    | some _ => exact (show False from r).elim
  | some _ => cases u with
    | none => exact (show False from r).elim
    | some _ => rfl
theorem KV.any {kvs : List (κ × V)} {vs : List (κ × Value)} (r : KV kvs vs) (k : κ) : (kvs.any fun kv => decide (kv.1 = k)) = vs.any fun kv => decide (kv.1 = k) := by
  unfold KV at r
  induction r with
  | nil => rfl
  | cons h t ih => rw [List.any_cons, List.any_cons, ih, h.1]
theorem KV.repl {kvs : List (κ × V)} {vs : List (κ × Value)} (r : KV kvs vs) (k : κ) {y : V} {u : Value} (ry : RelV y u) :
    KV (kvs.map fun kv => if kv.1 = k then (kv.1, y) else kv) (vs.map fun kv => if kv.1 = k then (kv.1, u) else kv) := by
  unfold KV at r ⊢
  induction r with
  | nil => exact .nil
  | @cons p q ps qs h t ih =>
    rw [List.map_cons, List.map_cons]
    refine .cons ?_ ih
    obtain ⟨h1, h2⟩ := h
    by_cases e : p.1 = k
    · rw [if_pos e, if_pos (h1.symm.trans e)]; exact ⟨h1, ry⟩
    · rw [if_neg e, if_neg (fun z => e (h1.trans z))]; exact ⟨h1, h2⟩
theorem KV.put {kvs : List (κ × V)} {vs : List (κ × Value)} (r : KV kvs vs) (k : κ) {y : V} {u : Value} (ry : RelV y u) : KV (putK kvs k y) (stored vs k u) := by
  unfold putK stored
  rw [r.any k]
  by_cases e : (vs.any fun kv => decide (kv.1 = k)) = true
  · rw [if_pos e, if_pos e]; exact r.repl k ry
  · rw [if_neg e, if_neg e]; exact Paired.snoc r ⟨rfl, ry⟩
theorem KV.length {kvs : List (κ × V)} {vs : List (κ × Value)} (r : KV kvs vs) : kvs.length = vs.length := Paired.length r
end


/-! ### a tracked dict, its keys ints and texts or tuples of these -/
theorem kV_is {P : Program} {w : World} {k : Key} {u : Value} (r : RelV (kV k) u) : (mixKind P w).is k u = true := by
  cases k with
  | inl i => obtain ⟨t, e⟩ := (show ∃ t, u = Value.int i t from r); subst e; exact mixKind_int P w i t
  | inr x => obtain ⟨t, e⟩ := (show ∃ t, u = Value.str x t from r); subst e; exact mixKind_str P w x t
theorem items_are {P : Program} {w : World} : ∀ {ks : List Key} {us : List Value}, Vals (ks.map kV) us → ItemsAre (mixKind P w) ks us
  | [], _, r => by rw [List.map_nil] at r; cases r; exact .nil
  | k :: ks, _, r => by
    rw [List.map_cons] at r
    cases r with
    | cons h t => exact .cons (kV_is h) (items_are t)

/-- raw entries of a dict with tuple keys -/
abbrev KT (H : Hp) : List (List Key × V) → List (List Key × Addr × Value) → Prop := Paired fun p q => p.1 = q.1 ∧ H q.2.1 = some (.tup (p.1.map kV)) ∧ RelV p.2 q.2.2
theorem KT.val {H : Hp} {kvs : List (List Key × V)} {xs : List (List Key × Addr × Value)} (r : KT H kvs xs) (k : List Key) : RelO (valV kvs k) ((atKey xs k).map (·.2)) := by
  induction r with
  | nil => exact True.intro
  | @cons p q ps qs h t ih =>
    obtain ⟨h1, _, h2⟩ := h
    by_cases e : p.1 = k
    · have e' : q.1 = k := h1.symm.trans e
      have b : atKey (q :: qs) k = some q.2 := by simp [atKey, List.find?_cons, e']
      rw [valV_pos e, b]; exact h2
    · have e' : ¬ q.1 = k := fun z => e (h1.trans z)
      have b : atKey (q :: qs) k = atKey qs k := by simp [atKey, List.find?_cons, e']
      rw [valV_neg e, b]; exact ih
theorem KT.repl {H : Hp} {kvs : List (List Key × V)} {xs : List (List Key × Addr × Value)} (r : KT H kvs xs) (k : List Key) {y : V} {u : Value} (ry : RelV y u) :
    KT H (kvs.map fun kv => if kv.1 = k then (kv.1, y) else kv) (xs.map (putAt k u)) := by
  induction r with
  | nil => exact .nil
  | @cons p q ps qs h t ih =>
    rw [List.map_cons, List.map_cons]
    refine .cons ?_ ih
    obtain ⟨h1, h2, h3⟩ := h
    unfold putAt
    by_cases e : p.1 = k
    · rw [if_pos e, if_pos (h1.symm.trans e)]; exact ⟨h1, h2, ry⟩
    · rw [if_neg e, if_neg (fun z => e (h1.trans z))]; exact ⟨h1, h2, h3⟩
theorem KT.put {H : Hp} {kvs : List (List Key × V)} {xs : List (List Key × Addr × Value)} (r : KT H kvs xs) (k : List Key) {b : Addr} {y : V} {u : Value} (hb : H b = some (.tup (k.map kV))) (ry : RelV y u) :
    KT H (putK kvs k y) (storedH xs k b u) := by
  have e : (kvs.any fun kv => decide (kv.1 = k)) = (atKey xs k).isSome := by
    rw [valV_any, (r.val k).isSome_eq, Option.isSome_map]
  unfold putK storedH
  rw [e]
  by_cases q : (atKey xs k).isSome = true
  · rw [if_pos q, if_pos q]; exact r.repl k ry
  · rw [if_neg q, if_neg q]; exact Paired.snoc r ⟨rfl, hb, ry⟩
theorem KT.keeps {H H' : Hp} {kvs : List (List Key × V)} {xs : List (List Key × Addr × Value)} (r : KT H kvs xs) (ht : ∀ b ys, H b = some (.tup ys) → H' b = some (.tup ys)) : KT H' kvs xs :=
  Paired.mapP r fun _ _ z => ⟨z.1, ht _ _ z.2.1, z.2.2⟩

section
variable {P : Program} {w : World} {H : Hp} {h : Heap} {a : Addr}
theorem rd_of {u : HO} (ok : HOk P w H h) (e : Rd H a u) : ObjOk P w H h a u := e.ok ok
theorem dk_rd {kvs : List (Key × V)} (ok : HOk P w H h) (e : Rd H a (.dK kvs)) : kvs.length ≤ sizeLine ∧ (a == sysModules) = false ∧ ∃ vs, KV kvs vs ∧ h.DictOf (mixKind P w) a vs :=
  show ObjOk P w H h a (.dK kvs) from rd_of ok e
theorem dk_of {kvs : List (Key × V)} (ok : HOk P w H h) (e : H a = some (.dK kvs)) : kvs.length ≤ sizeLine ∧ (a == sysModules) = false ∧ ∃ vs, KV kvs vs ∧ h.DictOf (mixKind P w) a vs := dk_rd ok (.inl e)
/-- a tracked tuple of ints and texts is a key -/
theorem key_of {ks : List Key} (ok : HOk P w H h) (e : H a = some (.tup (ks.map kV))) : (tupleKind (mixKind P w)).is h ks a := by
  obtain ⟨_, its, r, o, h1, h2, n, h3⟩ := (show ObjOk P w H h a (.tup (ks.map kV)) from ok a _ e)
  exact ⟨o, its.toArray, n, h1, h2, h3, by simpa using items_are r⟩
theorem dt_rd {kvs : List (List Key × V)} (ok : HOk P w H h) (e : Rd H a (.dT kvs)) : kvs.length ≤ sizeLine ∧ (a == sysModules) = false ∧
    ∃ xs, KT H kvs xs ∧ h.DictOfH (tupleKind (mixKind P w)) a xs := by
  obtain ⟨z, y, xs, r, o, es, ep, h1, h2, h3, h4, h5⟩ := (show ObjOk P w H h a (.dT kvs) from rd_of ok e)
  refine ⟨z, y, xs, r, o, es, ep, h1, h2, h3, h4, fun x hx => ?_, h5⟩
  have all : ∀ {l : List (List Key × V)} {m : List (List Key × Addr × Value)}, KT H l m → ∀ x ∈ m, (tupleKind (mixKind P w)).is h x.1 x.2.1 := by
    intro l m q
    induction q with
    | nil => intro x hx; exact nomatch hx
    | @cons p q ps qs hq t ih =>
      intro x hx
      rcases List.mem_cons.mp hx with e | hx
      · subst e
        exact key_of ok (by rw [← hq.1]; exact hq.2.1)
      · exact ih x hx
  exact all r x hx
theorem dt_of {kvs : List (List Key × V)} (ok : HOk P w H h) (e : H a = some (.dT kvs)) : kvs.length ≤ sizeLine ∧ (a == sysModules) = false ∧
    ∃ xs, KT H kvs xs ∧ h.DictOfH (tupleKind (mixKind P w)) a xs := dt_rd ok (.inl e)
end

/-- what the dict at a holds at the key y -/
def DGet (H : Hp) (a : Addr) (y : V) (r : Option V) : Prop :=
  (∃ kvs k, Rd H a (.dK kvs) ∧ y = kV k ∧ r = valV kvs k) ∨ ∃ kvs k b, Rd H a (.dT kvs) ∧ y = .ref b ∧ H b = some (.tup (k.map kV)) ∧ r = valV kvs k
/-- the heap behind a[y] = v -/
def DPut (H : Hp) (a : Addr) (y v : V) (H' : Hp) : Prop :=
  (∃ kvs k, H a = some (.dK kvs) ∧ y = kV k ∧ kvs.length < sizeLine ∧ H' = upd H a (.dK (putK kvs k v))) ∨
  ∃ kvs k b, H a = some (.dT kvs) ∧ y = .ref b ∧ H b = some (.tup (k.map kV)) ∧ kvs.length < sizeLine ∧ H' = upd H a (.dT (putK kvs k v))
section
variable {X : Cx} {pins : List (Addr × Obj)} {σ : St} {H : Hp} {s : Shared} {a : Addr} {y v : V} {u r : Value} {o : Option V} {A : Around} {E : Value → Shared → Prop}

theorem Inv.big (I : Inv X pins σ H s) : sysModules < s.heap.objs.size := by
  have h : mainGlobals < s.heap.objs.size := (I.mod.glob.keeps I.bk).lt
  exact Nat.lt_trans (by decide) h

/-- a dict's object is replaced -/
theorem d_write {h' : Heap} {t' : Nat} {ob : HO} (I : Inv X pins σ H s) (mu : Mut (H a)) (hs : Heap.SameBut a s.heap h') (he : ∃ q, h'.get? a = some q) (new : ObjOk X.prog X.w (upd H a ob) h' a ob) :
    Inv X pins σ (upd H a ob) { s with heap := h', toks := t' } :=
  I.write (x := a) (e := a) mu (.inl rfl) (fun b q hb z => (hs.2 b hb).trans z) he new
theorem dk_new {P : Program} {w : World} {H' : Hp} {h' : Heap} {kvs : List (Key × V)} {vs : List (Key × Value)} (z : kvs.length ≤ sizeLine) (hd : (a == sysModules) = false) (rel : KV kvs vs) (dd : h'.DictOf (mixKind P w) a vs) :
    ObjOk P w H' h' a (.dK kvs) := ⟨z, hd, vs, rel, dd⟩
/-- d[y] = v -/
theorem d_setItem {H' : Hp} {Q : Unit → Shared → Prop} (hu : A.units + 1 < cLine) (I : Inv X pins σ H s) (g : DPut H a y v H') (ry : RelV y u) (rv : RelV v r) (h : ∀ s', Inv X pins σ H' s' → Q () s') :
    wpAny (model X.prog X.w) A (setItem (.ref a) u r) Q E s := by
  rcases g with ⟨kvs, k, e, ey, l, eH⟩ | ⟨kvs, k, b, e, ey, eb, l, eH⟩
  · subst ey eH
    obtain ⟨z, hd, vs, rel, dd⟩ := dk_of I.hok e
    have hz : vs.length ≤ sizeLine := by rw [← rel.length]; exact z
    have hl : (putK kvs k v).length ≤ sizeLine := by have := length_putK kvs k v; omega
    refine wpAny_setItem_pairs (hsz := hz) (kV_is ry) dd fun h' dd' hs => h _ ?_
    have he : ∃ q, h'.get? a = some q := let ⟨q, _, _, hq, _⟩ := dd'; ⟨q, hq⟩
    exact d_write I (by rw [e]; exact True.intro) hs he (dk_new hl hd (rel.put k rv) dd')
  · subst ey eH
    cases (show u = Value.ref b from ry)
    obtain ⟨z, hd, xs, rel, dd⟩ := dt_of I.hok e
    have hz : xs.length ≤ sizeLine := by rw [← Paired.length rel]; exact z
    have hl : (putK kvs k v).length ≤ sizeLine := by have := length_putK kvs k v; omega
    refine wpAny_setItem_heap (hsz := hz) (tupleKind_room_in1 hu) (key_of I.hok eb) dd fun h' dd' hs => h _ ?_
    obtain ⟨q, es, ep, hq, h2, h3, h4, _, h5⟩ := dd'
    refine d_write I (by rw [e]; exact True.intro) hs ⟨q, hq⟩ ⟨hl, hd, _, (rel.put k eb rv).keeps fun c ys ec => ?_, q, es, ep, hq, h2, h3, h4, h5⟩
    rw [upd_ne (ne_of ec e (fun z => nomatch z))]
    exact ec
end

section
variable {X : Cx} {pins : List (Addr × Obj)} {σ : St} {H : Hp} {s : Shared} {a : Addr} {kvs : List (Key × V)} {k : Key} {u : Value} {A : Around} {E : Value → Shared → Prop}
end


/-! ### readings and rules -/
/-- the element of a subscription, not a slice -/
def NoSl (i : Expr) : Prop := ∀ ov iv, subscripted i false ov iv = operate [ov, iv] (getItem ov iv)
/-- d[y] -/
def tDGet (td ty : TE) : TE := fun σ H Q => td σ H fun x H1 => ty σ H1 fun y H2 => ∃ a v, x = .ref a ∧ DGet H2 a y (some v) ∧ Q v H2
/-- y in d, y not in d -/
def tDIn (ty td : TE) : TE := fun σ H Q => ty σ H fun y H1 => td σ H1 fun x H2 => ∃ a o, x = .ref a ∧ DGet H2 a y o ∧ Q (.bl o.isSome) H2
def tDNotIn (ty td : TE) : TE := fun σ H Q => ty σ H fun y H1 => td σ H1 fun x H2 => ∃ a o, x = .ref a ∧ DGet H2 a y o ∧ Q (.bl (!o.isSome)) H2
/-- d[y] = v -/
def sDPut (td ty tv : TE) : TS := fun D σ H => tv σ H fun v H1 => td σ H1 fun x H2 => ty σ H2 fun y H3 => ∃ a H4, x = .ref a ∧ DPut H3 a y v H4 ∧ D.nx σ H4
/-- d[y] op= v -/
def sDAug (td ty tv : TE) (rd : V → V → Hp → VK → Prop) : TS := fun D σ H => td σ H fun x H1 => ty σ H1 fun y H2 => ∃ a v, x = .ref a ∧ DGet H2 a y (some v) ∧
  tv σ H2 fun y2 H3 => rd v y2 H3 fun z H4 => ∃ H5, DPut H4 a y z H5 ∧ D.nx σ H5
/-- del d[y] -/
def sDDel (td ty : TE) : TS := fun D σ H => td σ H fun x H1 => ty σ H1 fun y H2 => ∃ a kvs k, x = .ref a ∧ H2 a = some (.dK kvs) ∧ y = kV k ∧ (valV kvs k).isSome = true ∧ D.nx σ (upd H2 a (.dK (dropK kvs k)))

section
variable {X : Cx} {o i e value : Expr} {pos pos' tpos : Pos} {td ty tv : TE}
theorem ps_dput (hu : X.A.units + 1 < cLine) (ho : PE X o td) (hi : PE X i ty) (hv : PE X value tv) (hs : swapsWith value (some (.Subscript o i pos')) pos.line X.env = pure false) :
    PS X (.Assign [.Subscript o i pos'] value pos) (sDPut td ty tv) := by
  intro pins s σ H D I h
  refine wpAny_Assign_Subscript (thn (hv pins s σ H _ I h) fun r s1 ⟨v, H1, I1, rv, q1⟩ => thn (ho pins s1 σ H1 _ I1 q1) fun u s2 ⟨x, H2, I2, rx, q2⟩ => thn (hi pins s2 σ H2 _ I2 q2) fun iv s3 ⟨y, H3, I3, ry, a, H4, ex, g, q3⟩ => ?_) hs
  subst ex
  obtain rfl : u = Value.ref a := rx
  exact d_setItem hu I3 g ry rv fun s4 I4 => ⟨σ, H4, I4, q3⟩
end


/-! ### displays -/
theorem dk_empty {P : Program} {w : World} {H : Hp} (h : Heap) (hb : sysModules < h.objs.size) : ObjOk P w H (h.push { cls := .type "dict", data := .dict #[] }) h.objs.size (.dK []) :=
  ⟨Nat.zero_le _, beq_eq_false_iff_ne.mpr (Ne.symm (Nat.ne_of_lt hb)), [], .nil, Heap.DictOf.new h⟩
/-- {}, to be a dict of the kind that is wanted -/
def tDNewK : TE := fun _ H Q => ∀ p, H p = none → Q (.ref p) (upd H p (.dK []))
def tDNewT : TE := fun _ H Q => ∀ p, H p = none → Q (.ref p) (upd H p (.dT []))
section
variable {X : Cx} {pos : Pos}
theorem pe_dnewK : PE X (.Dict [] [] pos) tDNewK := fun pins s σ H Q I h =>
  wpAny_Dict_empty ⟨.ref s.heap.objs.size, _, I.laid (a := s.heap.objs.size) (o := .dK []) (t' := s.toks) (fun _ _ q => Heap.get?_push_of_some _ q) (Nat.le_refl _) (dk_empty s.heap I.big), rfl, h _ (I.hok.fresh (Nat.le_refl _))⟩
end

/-- the pairs of a display, from the left -/
def tPairs : List (TE × TE) → St → Hp → (List (V × V) → Hp → Prop) → Prop
  | [], _, H, Q => Q [] H
  | (tk, tv) :: r, σ, H, Q => tk σ H fun x H1 => tv σ H1 fun y H2 => tPairs r σ H2 fun ps H3 => Q ((x, y) :: ps) H3
abbrev VV : List (V × V) → List (Value × Value) → Prop := Paired fun p q => RelV p.1 q.1 ∧ RelV p.2 q.2
def PPs (X : Cx) (pos : Pos) (keys : List (Option Expr)) (values : List Expr) (trs : List (TE × TE)) : Prop :=
  ∀ (pins : List (Addr × Obj)) (s : Shared) (σ : St) (H : Hp) (Q : List (V × V) → Hp → Prop), Inv X pins σ H s → tPairs trs σ H Q →
    wpAny (model X.prog X.w) X.A (evalPairs (pairTrees keys values X.env pos)) (fun vs s' => ∃ ps H', Inv X pins σ H' s' ∧ VV ps vs ∧ Q ps H') X.xe s
def mergeK (kvs more : List (Key × V)) : List (Key × V) := more.foldl (fun acc kv => putK acc kv.1 kv.2) kvs
/-- {k: v, ..} with keys ints and texts; the new dict stands empty while the pairs are made -/
def tDisp (trs : List (TE × TE)) : TE := fun σ H Q => ∀ p, H p = none → tPairs trs σ (upd H p (.dK [])) fun ps H2 => H2 p = some (.dK []) ∧ ∃ kvs : List (Key × V), ps = kvs.map (fun kv => (kV kv.1, kv.2)) ∧ kvs.length ≤ 15 ∧ Q (.ref p) (upd H2 p (.dK (mergeK [] kvs)))
/-! ### methods -/
/-- a method call o.m(e) of a built-in, with one argument: what must be seen of the text -/
structure M1 (X : Cx) (o : Expr) (m : Str) (apos : Pos) (e : Expr) (cpos : Pos) : Prop where
  base : attributeBase o m X.env (eval o X.env) = eval o X.env
  few : ((backTo cpos (starEach [e] X.env)).all (fun x => !x.1) && (backToKw cpos (keywordEach [] X.env)).all (fun x => x.1.isSome)
    && decide (([e] : List Expr).length + ([] : List Keyword).length + (if ([] : List Keyword).isEmpty then 0 else 1) < 30)) = true
  line : (apos.endLine == cpos.line) = true
  trees : backTo cpos (starEach [e] X.env) = [(false, eval e X.env)]
structure M2 (X : Cx) (o : Expr) (m : Str) (apos : Pos) (e f : Expr) (cpos : Pos) : Prop where
  base : attributeBase o m X.env (eval o X.env) = eval o X.env
  few : ((backTo cpos (starEach [e, f] X.env)).all (fun x => !x.1) && (backToKw cpos (keywordEach [] X.env)).all (fun x => x.1.isSome)
    && decide (([e, f] : List Expr).length + ([] : List Keyword).length + (if ([] : List Keyword).isEmpty then 0 else 1) < 30)) = true
  line : (apos.endLine == cpos.line) = true
  trees : backTo cpos (starEach [e, f] X.env) = [(false, eval e X.env), (false, eval f X.env)]

/-- a is a dict, whatever its keys -/
def IsD (H : Hp) (a : Addr) : Prop := (∃ kvs, Rd H a (.dK kvs)) ∨ ∃ kvs, Rd H a (.dT kvs)
section
variable {X : Cx} {pins : List (Addr × Obj)} {σ : St} {H : Hp} {s : Shared} {a : Addr} {y d : V} {u r : Value} {o : Option V} {A : Around} {E : Value → Shared → Prop}
end

def tDGet1 (td ty : TE) : TE := fun σ H Q => td σ H fun x H1 => ∃ a, x = .ref a ∧ IsD H1 a ∧ ty σ H1 fun y H2 => ∃ o, DGet H2 a y o ∧ Q (o.getD .non) H2
def tDGet2 (td ty tx : TE) : TE := fun σ H Q => td σ H fun x H1 => ∃ a, x = .ref a ∧ IsD H1 a ∧ ty σ H1 fun y H2 => tx σ H2 fun z H3 => ∃ o, DGet H3 a y o ∧ Q (o.getD z) H3
/-- d.pop(k): there; d.pop(k, x): there or not -/
def tDPop1 (td ty : TE) : TE := fun σ H Q => td σ H fun x H1 => ∃ a, x = .ref a ∧ IsD H1 a ∧ ty σ H1 fun y H2 => ∃ kvs k v, H2 a = some (.dK kvs) ∧ y = kV k ∧ valV kvs k = some v ∧ Q v (upd H2 a (.dK (dropK kvs k)))
def tDPop2 (td ty tx : TE) : TE := fun σ H Q => td σ H fun x H1 => ∃ a, x = .ref a ∧ IsD H1 a ∧ ty σ H1 fun y H2 => tx σ H2 fun z H3 => ∃ kvs k, H3 a = some (.dK kvs) ∧ y = kV k ∧
  (∀ v, valV kvs k = some v → Q v (upd H3 a (.dK (dropK kvs k)))) ∧ (valV kvs k = none → Q z H3)
section
variable {X : Cx} {o e f : Expr} {apos cpos : Pos} {td ty tx : TE}
end

/-! ### dict(d): a copy -/
section
variable {X : Cx} {pins : List (Addr × Obj)} {σ : St} {H : Hp} {s : Shared} {a : Addr} {kvs : List (Key × V)} {A : Around} {E : Value → Shared → Prop}
end


section
variable {X : Cx} {pins : List (Addr × Obj)} {σ : St} {H : Hp} {s : Shared} {a : Addr} {y : V} {u : Value} {A : Around} {E : Value → Shared → Prop}
end
end L2

namespace L2
open PySem PySem.Spec PyProof.Rows
section
variable {X : Cx}
end
/-! ### a dict's pairs: keys that differ -/
section
variable {κ : Type} [DecidableEq κ]
end
end L2
set_option Elab.async false
set_option linter.all false
set_option maxRecDepth 100000
set_option maxHeartbeats 4000000
/-! EXCEPTIONS of own classes over the hand layer: raised, passed on by a def, caught by a try. -/
namespace L2
open PySem PySem.Spec PyProof.Rows

/-- a tracked thing has an object -/
theorem ObjOk.has {P : Program} {w : World} {H : Hp} {h : Heap} {a : Addr} {o : HO} (x : ObjOk P w H h a o) : ∃ ob, h.get? a = some ob := by
  cases o with
  | lst xs => obtain ⟨_, _, _, _, e⟩ := x; exact ⟨_, e⟩
  | tup xs => obtain ⟨_, _, _, ob, e, _⟩ := x; exact ⟨_, e⟩
  | dK kvs => obtain ⟨_, _, _, _, o, _, _, e, _⟩ := x; exact ⟨_, e⟩
  | dT kvs => obtain ⟨_, _, _, _, o, _, _, e, _⟩ := x; exact ⟨_, e⟩
  | set S n => obtain ⟨o, _, _, _, e, _⟩ := x; exact ⟨_, e⟩
  | ins C dx fs => obtain ⟨_, _, _, e, _⟩ := x; exact ⟨_, e⟩
  | own y => exact x
  | xd fs => obtain ⟨_, ⟨_, _, _, e, _⟩, _⟩ := x; exact ⟨_, e⟩
  | rng lo hi => obtain ⟨_, _, _, e⟩ := x; exact ⟨_, e⟩
  | frz ob u => obtain ⟨e, _⟩ := x; exact ⟨_, e⟩
  | tbl ps => exact ⟨_, (show h.get? a = some _ from x)⟩
  | met f y => exact ⟨_, (show h.get? a = some _ from x)⟩
  | ext φ => obtain ⟨_, e, _⟩ := x; exact e
theorem HOk.has {P : Program} {w : World} {H : Hp} {h : Heap} (x : HOk P w H h) {b : Addr} (n : H b ≠ none) : ∃ ob, h.get? b = some ob := by
  cases z : H b with
  | none => exact absurd z n
  | some u => exact (x b u z).has

/-- a flight, with what is asked of the flying thing -/
def FlD (B : Heap) (l : List Env) (e : Addr) (cls fl : Value) (h : Heap) : Prop :=
  B.StaysIn h ∧ B.get? e = none ∧ h.FunFrames B l ∧ ∃ oe vs T oT ts, h.get? e = some oe ∧ oe.cls = cls ∧ oe.dict = none ∧ oe.data = .fields vs ∧ vs[1]? = some (.ref T) ∧ B.get? T = none ∧ T ≠ e ∧ h.get? T = some oT ∧ oT.data = .fields ts ∧ ts[3]? = some fl
theorem dict_mapF (o : Obj) (f : Array Value → Array Value) : (o.mapFields f).dict = o.dict := by
  obtain ⟨c, d, dt, sl⟩ := o
  cases dt <;> rfl
section
variable {M : Model} {A : Around} {E : Value → Shared → Prop} {s : Shared} {B : Heap} {env : Env} {outer l : List Env} {L e : Addr} {cls fl : Value} {Q : Unit → Shared → Prop}
/-- the new entry of the trace -/
theorem fl_entry {oe : Obj} {vs : Array Value} {head : Value} {nx : Bool} (hfr : A.frames = some (env :: outer)) (hl : s.heap.FunFrames B (env :: outer)) (hf : env.frame = some L) (he : s.heap.get? e = some oe) (hB : B.StaysIn s.heap) (hn : B.get? e = none)
    (hd : oe.data = .fields vs) (hz : 1 < vs.size) (hdc : oe.dict = none) (k : ∀ h', FlD B (env :: outer) e oe.cls (rawInt L) h' → s.heap.UpToSlots h' → Q () { s with heap := h' }) :
    wpAny M A (do let a ← frameOf env; let pl ← entryPlaceOf L nx; let b ← EntryCells.newEntry head a .none (rawInt L) .none pl; setField (.ref e) 1 b) Q E s := by
  have ef : e ∉ (env :: outer).filterMap (·.frame) := fun hm => by
    obtain ⟨_, o, ho, q⟩ := hl.mem hm
    rw [he] at ho
    cases ho
    exact q vs hd
  refine wpAny_bind (wpAny_frameOf_fun hfr hl hf fun h1 g1 => wpAny_bind (wpAny_entryPlaceOf fun pl hpl => ?_))
  unfold EntryCells.newEntry newFields
  refine wpAny_bind (wpAny_newObj_type ?_ (hpl.sizeOk5 _ _ _ _ _))
  have e1 : h1.get? e = some oe := (g1.2.1 e ef).trans he
  have b1 : B.StaysIn h1 := fun b o z => (g1.2.1 b fun hm => by rw [(hl.mem hm).1] at z; cases z).trans (hB b o z)
  have ne : h1.objs.size ≠ e := Nat.ne_of_gt (Heap.lt_size e1)
  generalize hob : ({ cls := .type "traceback", dict := none, data := .fields ([head, .ref L, .none, rawInt L, .none] ++ (if pl.isEmpty then List.replicate 6 Value.none else pl)).toArray } : Obj) = ob
  have e2 : (h1.push ob).get? e = some oe := Heap.get?_push_of_some _ e1
  have t2 : (h1.push ob).get? h1.objs.size = some ob := Heap.get?_push_size h1 (by rw [← hob]; rfl)
  refine wpAny_setField e2 hd hz (k _ ?_ ?_)
  · have d3 := Obj.data_mapFields hd (·.setIfInBounds 1 (Value.ref h1.objs.size))
    have keep : ∀ b o, b ≠ e → h1.get? b = some o → ((h1.push ob).update e (Obj.mapFields (·.setIfInBounds 1 (Value.ref h1.objs.size)))).get? b = some o := fun b o q z => by
      rw [Heap.get?_update_other _ _ (Ne.symm q)]
      exact Heap.get?_push_of_some _ z
    refine ⟨fun b o z => keep b o (fun q => by rw [q, hn] at z; cases z) (b1 b o z), hn, hl.of_keeps fun b o z q => ?_, _, _, h1.objs.size, ob, _, Heap.get?_update_self _ e2 (Obj.isFreed_of_fields d3), Obj.cls_mapFields _ _, (dict_mapF _ _).trans hdc, d3, by simp [hz], b1.fresh, ne, ?_, by rw [← hob], ?_⟩
    · obtain ⟨sl, w⟩ := g1.2.2 b o z
      exact ⟨_, keep b _ (fun y => by rw [y, he] at z; cases z; exact q vs hd) w, rfl⟩
    · rw [Heap.get?_update_other _ _ (Ne.symm ne)]
      exact t2
    · first | (simp; done) | (rcases hpl with rfl | ⟨_, _, _, _, _, _, _, rfl⟩ <;> simp)
  · intro b o z q
    obtain ⟨sl, w⟩ := g1.2.2 b o z
    refine ⟨sl, ?_⟩
    rw [Heap.get?_update_other _ _ (fun y => by rw [← y, he] at z; cases z; exact q vs hd)]
    exact Heap.get?_push_of_some _ w
/-- the trace is not where anything else lies -/
theorem fl_notT {T : Addr} {oT : Obj} {ts : Array Value} {h : Heap} (hT : h.get? T = some oT) (hdT : oT.data = .fields ts) {b : Addr} {o : Obj} (hb : h.get? b = some o) (q : ∀ vs, o.data ≠ .fields vs) : b ≠ T := fun y => by
  rw [y, hT] at hb
  cases hb
  exact q ts hdT
theorem fl_note (hfr : A.frames = some (env :: outer)) (hf : env.frame = some L) (x : FlD B (env :: outer) e cls .none s.heap) (k : ∀ h', FlD B (env :: outer) e cls (rawInt L) h' → s.heap.UpToSlots h' → Q () { s with heap := h' }) :
    wpAny M A (noteFrame (.ref e) env) Q E s := by
  obtain ⟨hB, hn, hl, oe, vs, T, oT, ts, he, rfl, hdc, hd, h1, nT, Te, hT, dT, h3⟩ := x
  unfold noteFrame
  simp only [hf]
  refine wpAny_bind (wpAny_field he hd h1 ?_)
  rw [if_pos (show (Value.ref T != Value.none) = true from by simp)]
  refine wpAny_bind (wpAny_field hT dT h3 ?_)
  rw [if_neg (show ¬ ((Value.none == rawInt L) = true) from by simp [rawInt])]
  refine wpAny_bind (wpAny_setField hT dT (Array.getElem?_eq_some_iff.mp h3).1 ?_)
  have ot : ∀ b, b ≠ T → (s.heap.update T (Obj.mapFields (·.setIfInBounds 3 Value.none))).get? b = s.heap.get? b := fun b hb => Heap.get?_update_other _ _ (Ne.symm hb)
  refine fl_entry (s := { s with heap := s.heap.update T (Obj.mapFields (·.setIfInBounds 3 Value.none)) }) hfr (hl.of_keeps fun b o z q => ⟨o, (ot b (fl_notT hT dT z q)).trans z, rfl⟩) hf ((ot e (Ne.symm Te)).trans he)
    (fun b o z => (ot b fun y => by rw [y, nT] at z; cases z).trans (hB b o z)) hn hd (Array.getElem?_eq_some_iff.mp h1).1 hdc fun h' y1 y2 => k h' y1 fun b o z q => y2 b o ((ot b (fl_notT hT dT z q)).trans z) q
theorem fl_lands (x : FlD B l e cls fl s.heap) (k : ∀ h', FlD B l e cls .none h' → s.heap.UpToSlots h' → Q () { s with heap := h' }) : wpAny M A (setFlight (.ref e) none) Q E s := by
  obtain ⟨hB, hn, hl, oe, vs, T, oT, ts, he, hc, hdc, hd, h1, nT, Te, hT, dT, h3⟩ := x
  have z3 : 3 < ts.size := (Array.getElem?_eq_some_iff.mp h3).1
  have ot : ∀ b, b ≠ T → (s.heap.update T (Obj.mapFields (·.setIfInBounds 3 ((none : Option Addr).elim Value.none fun f => rawInt f)))).get? b = s.heap.get? b := fun b hb => Heap.get?_update_other _ _ (Ne.symm hb)
  unfold setFlight
  refine wpAny_bind (wpAny_field he hd h1 ?_)
  rw [if_pos (show (Value.ref T != Value.none) = true from by simp)]
  refine wpAny_setField hT dT z3 (k _ ⟨fun b o z => (ot b fun y => by rw [y, nT] at z; cases z).trans (hB b o z), hn, hl.of_keeps fun b o z q => ⟨o, (ot b (fl_notT hT dT z q)).trans z, rfl⟩, oe, vs, T, _, _, (ot e (Ne.symm Te)).trans he, hc, hdc, hd, h1, nT, Te, Heap.get?_update_self _ hT (Obj.isFreed_of_fields (Obj.data_mapFields dT _)), Obj.data_mapFields dT _, by simp [z3]⟩
    fun b o z q => ⟨o.slots, (ot b (fl_notT hT dT z q)).trans z⟩)
theorem FlD.tail (x : FlD B (env :: outer) e cls fl s.heap) : FlD B outer e cls fl s.heap := by
  obtain ⟨a, b, ⟨_, _, c⟩, d⟩ := x
  exact ⟨a, b, c, d⟩
theorem FlD.there {h : Heap} (x : FlD B l e cls fl h) : ∃ ob, h.get? e = some ob ∧ ob.cls = cls := by
  obtain ⟨_, _, _, oe, _, _, _, _, he, hc, _⟩ := x
  exact ⟨oe, he, hc⟩
theorem fl_leaves (hfr : A.frames = some (env :: outer)) (hf : env.frame = some L) (x : FlD B (env :: outer) e cls .none s.heap) (k : ∀ h', FlD B outer e cls .none h' → s.heap.UpToSlots h' → Q () { s with heap := h' }) : wpAny M A (leaving env (.ref e)) Q E s := by
  unfold leaving
  refine wpAny_bind (fl_note hfr hf x fun h1 x1 u1 => fl_lands (s := { s with heap := h1 }) x1 fun h2 x2 u2 => k h2 (FlD.tail (s := { s with heap := h2 }) x2) (u1.trans u2))
theorem fl_made {h : Heap} {args : List Value} (hfr : A.frames = some (env :: outer)) (hf : env.frame = some L) (hB : B.StaysIn h) (hl : h.FunFrames B (env :: outer)) (x : Heap.MadeExcOf h s.heap e cls args)
    (k : ∀ h', FlD B outer e cls .none h' → s.heap.UpToSlots h' → Q () { s with heap := h' }) : wpAny M A (leaving env (.ref e)) Q E s := by
  obtain ⟨t, he, htn, ht⟩ := x.there
  have en : B.get? e = none := by
    cases q : B.get? e with
    | none => rfl
    | some o => have z := hB e o q; rw [x.new] at z; cases z
  unfold leaving noteFrame
  simp only [hf]
  refine wpAny_bind (wpAny_bind (wpAny_field (x := Value.none) he rfl rfl ?_))
  rw [if_neg (show ¬ ((Value.none != Value.none) = true) by decide)]
  exact fl_entry hfr (hl.of_keeps fun b o z _ => ⟨o, x.keeps b o z, rfl⟩) hf he (fun b o z => x.keeps b o (hB b o z)) en rfl (show 1 < 6 by decide) rfl fun h1 x1 u1 => fl_lands (s := { s with heap := h1 }) x1 fun h2 x2 u2 => k h2 (FlD.tail (s := { s with heap := h2 }) x2) (u1.trans u2)
end
/-- the exception at ea, of the own class at C, flies; what stands in B is not touched by it -/
def Fly (B : Heap) (stk : List Env) (ea C : Addr) (h : Heap) : Prop := FlD B stk ea (.ref C) .none h
/-- how such an exception lies behind a call -/
def CXo (P : Program) (w : World) : CXT := fun outer H s E e s' =>
  ∃ (ea C : Addr) (H' : Hp) (B : Heap), e = .ref ea ∧ E (.ref C) none H' ∧ s'.os = s.os ∧ AllBare s'.gens ∧ Un (frs outer) [] H H' s.heap s'.heap ∧ HOk P w H' s'.heap ∧ Fly B outer ea C s'.heap ∧
    ∀ b o, (H' b ≠ none ∨ ∃ o', s.heap.get? b = some o') → b ∉ frs outer → s'.heap.get? b = some o → B.get? b = some o

theorem Un.left {fs stk : List Addr} {H₀ H : Hp} {h₀ h h' B : Heap} (u : Un fs [] H₀ H h₀ h) (hB : B.StaysIn h') (cov : ∀ b o, (H b ≠ none ∨ ∃ o', h₀.get? b = some o') → b ∉ stk → h.get? b = some o → B.get? b = some o)
    (hst : ∀ b o, h₀.get? b = some o → b ∈ stk → b ∈ fs) (sl : ∀ b ∈ fs, ∀ o, h.get? b = some o → ∃ sl, h'.get? b = some { o with slots := sl }) : Un fs [] H₀ H h₀ h' where
  keep := fun b o e n hb hx => hB b o (cov b o (.inr ⟨o, e⟩) (fun z => hb (hst b o e z)) (u.keep b o e n hb hx))
  slot := fun b o e n hb hx => by
    obtain ⟨s1, e1⟩ := u.slot b o e n hb hx
    obtain ⟨s2, e2⟩ := sl b hb _ e1
    exact ⟨s2, e2⟩
  free := u.free
  there := fun b o e hx => by
    obtain ⟨o', e'⟩ := u.there b o e hx
    by_cases hb : b ∈ stk
    · obtain ⟨s2, e2⟩ := sl b (hst b o e hb) _ e'
      exact ⟨_, e2⟩
    · exact ⟨o', hB b o' (cov b o' (.inr ⟨o, e⟩) hb e')⟩
  tups := u.tups
  frzs := u.frzs
  tbls := u.tbls
theorem HOk.left {P : Program} {w : World} {H : Hp} {h h' B : Heap} (ok : HOk P w H h) (hB : B.StaysIn h') (cov : ∀ b o, H b ≠ none → h.get? b = some o → B.get? b = some o) : HOk P w H h' := fun a o e =>
  (ok a o e).stay (fun b u hb q => hB b u (cov b u (by
    rcases hb with z | z
    · rw [z, e]; simp
    · rw [z]; simp) q)) (fun _ q => q) (fun _ _ q => q)

section
variable {X : Cx} {pins : List (Addr × Obj)} {σ : St} {H : Hp} {s : Shared} {E E' : XK}
theorem Inv.oldfs (I : Inv X pins σ H s) : ∀ b o, X.s₀.heap.get? b = some o → b ∈ frs X.stack → b ∈ X.fs := fun b o e hb => by
  rcases List.mem_cons.mp (I.stkSub b hb) with z | z
  · exact absurd (Nat.lt_of_lt_of_le (Heap.lt_size e) I.ok.above) (by rw [z]; exact Nat.lt_irrefl _)
  · exact z
theorem Inv.ntr (I : Inv X pins σ H s) : ∀ b, H b ≠ none → b ∉ frs X.stack := fun b hn z => hn (I.stkFree b z)
theorem Inv.slotsOf (I : Inv X pins σ H s) {h' : Heap} (sm : s.heap.UpToSlots h') : ∀ b ∈ X.fs, ∀ o, s.heap.get? b = some o → ∃ sl, h'.get? b = some { o with slots := sl } := fun b hb o e => by
  obtain ⟨_, o', ho', hd⟩ := I.funs.mem hb
  rw [e] at ho'
  cases ho'
  exact sm b o e hd

/-- a def's body from which exceptions leave by the wish E -/
structure BodyX (X : Cx) (E : XK) : Prop where
  stk : X.stack = X.env :: X.outer
  fr : X.env.frame = some X.env.locals
  ex : X.ex = []
  xe : X.xe = fun e s' => wpAny (model X.prog X.w) X.A (leaving X.env e) (fun _ s'' => CXo X.prog X.w X.outer X.H₀ X.s₀ E e s'') (fun e' s'' => CXo X.prog X.w X.outer X.H₀ X.s₀ E e' s'') s'
theorem body_cx {P : Program} {w : World} {K : PySem.W.Frag} {mg : Str → Option Value} {base : Heap} {N : List Str} {qual : Str} {scope : Scope} {f : Addr} {cd : Value} {A : Around} {outer : List Env} :
    BodyX (cxOf (CXo P w) P w K mg base N qual scope f cd A outer s H E) E := ⟨rfl, rfl, rfl, rfl⟩

theorem BodyX.raises (hb : BodyX X E) (I : Inv X pins σ H s) {h' : Heap} {e C : Addr} {vs : List Value} (hx : Heap.MadeExcOf s.heap h' e (.ref C) vs) (q : E (.ref C) none H) : X.xe (.ref e) { s with heap := h' } := by
  rw [hb.xe]
  have hfr : X.A.frames = some (X.env :: X.outer) := by rw [I.ok.frames, hb.stk]
  have hin : ∀ env ∈ X.stack, ∀ a, env.frame = some a → a ∈ frs X.stack := fun env he a ha => List.mem_filterMap.mpr ⟨env, he, ha⟩
  have fl : s.heap.FunFrames (PySem.W.hideAll s.heap (frs X.stack)) (X.env :: X.outer) := by
    have z := PySem.W.funFrames_hide I.stack hin
    rw [hb.stk] at z ⊢
    exact z
  have ub : Un X.fs [] X.H₀ H X.s₀.heap s.heap := by
    have z := I.base
    rw [hb.ex] at z
    exact z
  have keepB : ∀ b o, b ∉ frs X.stack → s.heap.get? b = some o → (PySem.W.hideAll s.heap (frs X.stack)).get? b = some o := fun b o n e => PySem.W.hideAll_get _ e n
  refine fl_made (B := PySem.W.hideAll s.heap (frs X.stack)) (h := s.heap) hfr hb.fr (fun b o z => PySem.W.of_hideAll _ z) fl hx fun h'' x1 x4 => ?_
  have sm : s.heap.UpToSlots h'' := (Heap.UpToSlots.of_keeps hx.keeps).trans x4
  refine ⟨e, C, H, _, rfl, q, I.os, I.bare, ub.left (stk := frs X.stack) x1.1 (fun b o _ n e => keepB b o n e) I.oldfs (I.slotsOf sm), I.hok.left x1.1 (fun b o n e => keepB b o (I.ntr b n) e), x1, ?_⟩
  intro b o c n e1
  have nb : b ∉ frs X.stack := by
    rcases c with c | ⟨o', c⟩
    · exact I.ntr b c
    · exact fun z => n (I.oldfs b o' c z)
  obtain ⟨o1, e2⟩ : ∃ o1, s.heap.get? b = some o1 := by
    rcases c with c | ⟨o', c⟩
    · exact I.hok.has c
    · exact ub.there b o' c (by simp)
  have e3 : h''.get? b = some o1 := x1.1 b o1 (keepB b o1 nb e2)
  have e4 : h''.get? b = some o := e1
  rw [e3] at e4
  cases e4
  exact keepB b _ nb e2

theorem BodyX.passes (hb : BodyX X E) (hE : ∀ c d H, E' c d H → E c d H) : Passes (CXo X.prog X.w) X E' := fun pins σ H s e s' I h => by
  obtain ⟨ea, C, H', B, rfl, q, os, bare, un, hok, fl, cov⟩ := h
  have J : Inv X pins σ H' s' := I.call' (ch := []) os un hok bare (fun b z => absurd z (by simp))
  rw [hb.xe]
  have hfr : X.A.frames = some (X.env :: X.outer) := by rw [I.ok.frames, hb.stk]
  have ub : Un X.fs [] X.H₀ H' X.s₀.heap s'.heap := by
    have z := J.base
    rw [hb.ex] at z
    exact z
  have ui : Un X.fs [] X.H₀ H X.s₀.heap s.heap := by
    have z := I.base
    rw [hb.ex] at z
    exact z
  have cov1 : ∀ b o, (H' b ≠ none ∨ ∃ o', X.s₀.heap.get? b = some o') → b ∉ frs X.stack → s'.heap.get? b = some o → B.get? b = some o := fun b o c n e =>
    cov b o (c.imp_right fun ⟨o', z⟩ => ui.there b o' z (by simp)) n e
  have fl' : FlD B (X.env :: X.outer) ea (.ref C) .none s'.heap := by
    rw [← hb.stk]
    exact fl
  refine fl_leaves hfr hb.fr fl' fun h'' x1 x2 => ?_
  refine ⟨ea, C, H', B, rfl, hE _ _ _ q, J.os, J.bare, ub.left (stk := frs X.stack) x1.1 cov1 J.oldfs (J.slotsOf x2), J.hok.left x1.1 (fun b o n e => cov1 b o (.inl n) (J.ntr b n) e), x1, ?_⟩
  intro b o c n e1
  have nb : b ∉ frs X.stack := by
    rcases c with c | ⟨o', c⟩
    · exact J.ntr b c
    · exact fun z => n (J.oldfs b o' c z)
  obtain ⟨o1, e2⟩ : ∃ o1, s'.heap.get? b = some o1 := by
    rcases c with c | ⟨o', c⟩
    · exact J.hok.has c
    · exact ub.there b o' c (by simp)
  have e3 : h''.get? b = some o1 := x1.1 b o1 (cov1 b o1 c nb e2)
  have e4 : h''.get? b = some o := e1
  rw [e3] at e4
  cases e4
  exact cov1 b _ c nb e2
end

/-! ### raise C(..) -/
section
variable {X : Cx} {E : XK} {x : Str} {C : Addr} {np cpos pos : Pos} {e₀ : Expr} {rest : List Expr} {ta : TA} {K : PySem.W.Frag} {h : Heap}
theorem exc_obj {bmB : List Value} {newId : String} (X : K.In h) (q : PySem.W.excIn K C bmB newId = true) :
    ∃ bm N nm q bs hdct sn sub ab col dd k0 k1 k2 k3 k5 mN, h.get? C = some (excClassObj nm q C N bs bm hdct sn sub ab col dd k0 k1 k2 k3 k5 newId) ∧ h.Ns N mN ∧ mN "__init__" = none ∧ OwnTail h bmB bm := by
  unfold PySem.W.excIn at q
  split at q
  · rename_i dd cd sl ho
    split at q
    · rename_i C' bm k0 k1 k2 k3 n k5 hm hs
      simp only [Bool.and_eq_true, beq_iff_eq, Bool.not_eq_true'] at q
      obtain ⟨⟨⟨⟨⟨rfl, rfl⟩, hdel⟩, ht⟩, hok⟩, hni⟩ := q
      obtain ⟨nm, bs, mro, ns, qn, hd, sn, sub, ab, col, del⟩ := cd
      dsimp only at hm hdel hok hni
      subst hm hdel
      have e : sl = #[k0, k1, k2, k3, some (.builtin n), k5] := by
        obtain ⟨l⟩ := sl
        have hs' : l = [k0, k1, k2, k3, some (.builtin n), k5] := hs
        rw [hs']
      subst e
      exact ⟨bm, ns, nm, qn, bs, hd, sn, sub, ab, col, dd, k0, k1, k2, k3, k5, _, X _ _ ho, .of_isNs (PySem.W.isNs_of_in X hok), PySem.W.nsMap_none_of_in X hok hni, PySem.W.tail_of_in X ht⟩
    · cases q
  · cases q
def vErr : List Value := [.type "ValueError", .type "Exception", .type "BaseException", .type "object"]
def tRaise (C : Addr) (E : XK) (ta : TA) : TS := fun _ σ H => ta σ H fun vs H1 => vs.length ≤ sizeLine ∧ E (.ref C) none H1
theorem ps_raise (hb : BodyX X E) (hc : X.calm = true) (hg : Gl X x) (hm : X.mg x = some (.ref C)) (hx : PySem.W.excIn X.K C vErr "ValueError.__new__" = true) (ha : PA X (e₀ :: rest) ta)
    (hd : (x == ("__debug__" : Str)) = false := by decide) (he : starEach (e₀ :: rest) X.env = (false, eval e₀ X.env) :: starEach rest X.env := by rfl) (hpl : (backTo cpos (starEach rest X.env)).any (·.1) = false := by rfl) :
    PS X (.Raise (some (.Call (.Name x np) (e₀ :: rest) [] cpos)) none pos) (tRaise C E ta) := by
  intro pins s σ H D I h
  obtain ⟨bm, N, nm, q, bs, hdct, sn, sub, ab, col, dd, k0, k1, k2, k3, k5, mN, hC, hN, hni, T⟩ := exc_obj I.ok.mod.kin hx
  have base : vErr.contains (.type "BaseException") = true := F.excBase_ValueError.hasBase
  refine wpAny_Raise_call_subT (C := C) (nm := nm) (q := q) (N := N) (bs := bs) (bm := bm) (hdct := hdct) (sn := sn) (sub := sub) (ab := ab) (col := col) (dd := dd) (k0 := k0) (k1 := k1) (k2 := k2) (k3 := k3) (k5 := k5)
    F.excBase_ValueError (mN := mN) (T.hasType base) (I.ok.hd hc) (by rw [he]; show (false || (backTo cpos (starEach rest X.env)).any (·.1)) = false; rw [hpl]; rfl) hni (ld_glob I hg hm ⟨rfl, ?_⟩ hd)
  have h1 := ha cpos pins s σ H _ I h
  rw [he] at h1 ⊢
  refine Calls.evalArgs_plain (wpAny_mono h1 (fun us s2 z => ?_) fun _ _ y => y)
  obtain ⟨vs, H1, I1, r, hl, q1⟩ := z
  exact ⟨rfl, by rw [← r.length]; exact hl, I1.bk _ _ hC, hN.keeps I1.bk, T.keeps I1.bk, fun h' e hm => hb.raises I1 hm q1⟩
end

/-! ### try .. except -/
section
variable {X : Cx} {pins : List (Addr × Obj)} {σ : St} {H : Hp} {s : Shared} {T : Addr → St → Hp → Prop}
/-- what a flight must leave alone -/
def Tcov (X : Cx) (pins : List (Addr × Obj)) (H : Hp) (B h : Heap) : Prop :=
  ∀ b o, (H b ≠ none ∨ (b ∉ X.ex ∧ ∃ o', X.s₀.heap.get? b = some o') ∨ ∃ p ∈ X.pn ++ pins, p.1 = b) → b ∉ frs X.stack → h.get? b = some o → B.get? b = some o
def tryW (X : Cx) (pins : List (Addr × Obj)) (T : Addr → St → Hp → Prop) : Value → Shared → Prop := fun e s' =>
  ∃ ea C B σ H, e = .ref ea ∧ Inv X pins σ H s' ∧ Fly B X.stack ea C s'.heap ∧ Tcov X pins H B s'.heap ∧ T C σ H
/-- the context of a try's body -/
abbrev Cx.tr (X : Cx) (pins : List (Addr × Obj)) (T : Addr → St → Hp → Prop) : Cx := { X with xe := tryW X pins T, pn := X.pn ++ pins }
theorem Inv.tr (I : Inv X pins σ H s) (T : Addr → St → Hp → Prop) : Inv (X.tr pins T) [] σ H s :=
  ⟨⟨I.ok.mod, I.ok.kind, I.ok.glob, I.ok.blt, I.ok.above, I.ok.inj, I.ok.has, I.ok.cab, I.ok.hd, I.ok.frames, I.ok.stk, I.ok.exf, I.ok.bs, I.ok.bsz, I.ok.noex, I.ok.exfs, I.ok.funs, I.ok.frf⟩, I.os, I.bare, I.base, I.loc, I.cell, I.free, I.freeC,
    fun p hp => I.pin p (by simpa using hp), I.hok, I.len⟩
theorem Inv.untr {pins' : List (Addr × Obj)} (I : Inv (X.tr pins T) pins' σ H s) : Inv X pins σ H s :=
  ⟨⟨I.ok.mod, I.ok.kind, I.ok.glob, I.ok.blt, I.ok.above, I.ok.inj, I.ok.has, I.ok.cab, I.ok.hd, I.ok.frames, I.ok.stk, I.ok.exf, I.ok.bs, I.ok.bsz, I.ok.noex, I.ok.exfs, I.ok.funs, I.ok.frf⟩, I.os, I.bare, I.base, I.loc, I.cell, I.free, I.freeC,
    fun p hp => I.pin p (List.mem_append_left _ hp), I.hok, I.len⟩
theorem cell_sl {h h' : Heap} {c : Addr} {v : Option Value} (x : h.IsCell c v) (sm : h.UpToSlots h') : h'.IsCell c v := by
  obtain ⟨o, ho, hd⟩ := x
  obtain ⟨sl, e⟩ := sm c o ho (fun vs q => by rw [hd] at q; cases q)
  exact ⟨_, e, hd⟩
/-- behind the flight -/
theorem Inv.landed {B h' : Heap} (I : Inv X pins σ H s) (hB : B.StaysIn h') (cov : Tcov X pins H B s.heap) (sm : s.heap.UpToSlots h') : Inv X pins σ H { s with heap := h' } := by
  refine ⟨I.ok, I.os, I.bare, ⟨fun b o e n hb hx => ?_, fun b o e n hb hx => ?_, I.base.free, fun b o e hx => ?_, I.base.tups, I.base.frzs, I.base.tbls⟩, ?_, fun x c e => ?_, I.free, I.freeC, fun p hp => ?_, I.hok.left hB (fun b o n e => cov b o (.inl n) (I.ntr b n) e), I.len⟩
  · exact hB b o (cov b o (.inr (.inl ⟨hx, o, e⟩)) (fun z => hb (I.oldfs b o e z)) (I.base.keep b o e n hb hx))
  · obtain ⟨s1, e1⟩ := I.base.slot b o e n hb hx
    obtain ⟨s2, e2⟩ := I.slotsOf sm b hb _ e1
    exact ⟨s2, e2⟩
  · obtain ⟨o', e'⟩ := I.base.there b o e hx
    by_cases hb : b ∈ frs X.stack
    · obtain ⟨s2, e2⟩ := I.slotsOf sm b (I.oldfs b o e hb) _ e'
      exact ⟨_, e2⟩
    · exact ⟨o', hB b o' (cov b o' (.inr (.inl ⟨hx, o, e⟩)) hb e')⟩
  · obtain ⟨m, hn, hl⟩ := I.loc
    refine ⟨m, sm.ns hn, fun i x v e1 e2 e3 => ?_⟩
    obtain ⟨u, r, l⟩ := hl i x v e1 e2 e3
    refine ⟨u, r, ?_⟩
    rcases l with l | ⟨k, c, e, l⟩
    · exact .inl l
    · exact .inr ⟨k, c, e, cell_sl l sm⟩
  · obtain ⟨v, q⟩ := I.cell x c e
    exact ⟨v, cell_sl q sm⟩
  · obtain ⟨e, n, l, f, d⟩ := I.pin p hp
    exact ⟨hB _ _ (cov p.1 p.2 (.inr (.inr ⟨p, hp, rfl⟩)) (fun z => (List.mem_cons.mp (I.stkSub _ z)).elim l f) e), n, l, f, d⟩
theorem Tcov.land {B h' : Heap} (I : Inv X pins σ H s) (hB : B.StaysIn h') (cov : Tcov X pins H B s.heap) : Tcov X pins H B h' := fun b o c n e => by
  obtain ⟨o1, e1⟩ : ∃ o1, s.heap.get? b = some o1 := by
    rcases c with c | ⟨hx, o', c⟩ | ⟨p, hp, rfl⟩
    · exact I.hok.has c
    · exact I.base.there b o' c hx
    · exact ⟨_, (I.pin p hp).1⟩
  have e2 := hB b o1 (cov b o1 c n e1)
  rw [e] at e2
  cases e2
  exact cov b _ c n e1

/-- within an except suite: nothing may be raised -/
abbrev Cx.hdl (X : Cx) (ea : Addr) : Cx := { X with A := X.A.mark (some (.ref ea)), calm := false, xe := fun _ _ => False }
theorem Inv.hdl (I : Inv X pins σ H s) (ea : Addr) : Inv (X.hdl ea) pins σ H s :=
  ⟨⟨I.ok.mod, I.ok.kind, I.ok.glob, I.ok.blt, I.ok.above, I.ok.inj, I.ok.has, I.ok.cab, fun z => Bool.noConfusion z, I.ok.frames, I.ok.stk, I.ok.exf, I.ok.bs, I.ok.bsz, I.ok.noex, I.ok.exfs, I.ok.funs, I.ok.frf⟩, I.os, I.bare, I.base, I.loc, I.cell, I.free, I.freeC,
    I.pin, I.hok, I.len⟩
theorem Inv.unhdl {ea : Addr} (ok : X.Ok) (I : Inv (X.hdl ea) pins σ H s) : Inv X pins σ H s := ⟨ok, I.os, I.bare, I.base, I.loc, I.cell, I.free, I.freeC, I.pin, I.hok, I.len⟩
theorem SP.unhdl {ea : Addr} {D : Ends} {f : Flow} {s' : Shared} (ok : X.Ok) (h : SP (X.hdl ea) pins D f s') : SP X pins D f s' := by
  cases f with
  | next => obtain ⟨σ', H', I, q⟩ := h; exact ⟨σ', H', I.unhdl ok, q⟩
  | brk => obtain ⟨σ', H', I, q⟩ := h; exact ⟨σ', H', I.unhdl ok, q⟩
  | cont => obtain ⟨σ', H', I, q⟩ := h; exact ⟨σ', H', I.unhdl ok, q⟩
  | ret u => obtain ⟨v, σ', H', I, r, q⟩ := h; exact ⟨v, σ', H', I.unhdl ok, r, q⟩

/-- the handlers, by the exception's class -/
abbrev TH := Addr → TS
def PHs (X : Cx) (hs : List ExceptHandler) (th : TH) : Prop :=
  ∀ (pins : List (Addr × Obj)) (s : Shared) (σ : St) (H : Hp) (D : Ends) (ea C : Addr) (B : Heap), Inv X pins σ H s → Fly B X.stack ea C s.heap → Tcov X pins H B s.heap → th C D σ H →
    wpAny (model X.prog X.w) X.A (handleBy (.ref ea) X.env hs) (SP X pins D) X.xe s
def thNil : TH := fun _ _ _ _ => False
theorem phs_nil : PHs X [] thNil := fun _ _ _ _ _ _ _ _ _ _ _ h => h.elim
def thCons (K : PySem.W.Frag) (Ci : Addr) (t : TS) (th : TH) : TH := fun C D σ H =>
  (PySem.W.exmOne K (.ref C) (.ref Ci) = some true ∧ t D σ H) ∨ (PySem.W.exmOne K (.ref C) (.ref Ci) = some false ∧ th C D σ H)
theorem phs_cons {x : Str} {Ci : Addr} {np pos : Pos} {b₀ : Stmt} {suite : List Stmt} {rest : List ExceptHandler} {t : TS} {th : TH} (hg : Gl X x) (hm : X.mg x = some (.ref Ci)) (hsu : ∀ ea, PSs (X.hdl ea) (b₀ :: suite) t) (hr : PHs X rest th)
    (hd : (x == ("__debug__" : Str)) = false := by decide) : PHs X (.ExceptHandler (some (.Name x np)) none (b₀ :: suite) pos :: rest) (thCons X.K Ci t th) := by
  intro pins s σ H D ea C B I fl cov h
  refine wpAny_handleBy_cons (codeAny_handlers_test ?_) (by intro q; cases q)
  refine ld_glob (X := X.hdl ea) (I.hdl ea) hg hm ?_ hd
  obtain ⟨ob, hob, hc⟩ := fl.there
  have LT : PySem.W.Looks (model X.prog X.w) s.heap (typeOf (.ref ea)) (.ref C) := by
    rw [← hc]
    exact (PySem.W.Looks.ld hob).andThen .now
  rcases h with ⟨hx, q⟩ | ⟨hx, q⟩
  · refine (PySem.W.exm_one I.kIn LT hx).here ?_
    refine codeAny_handlers_suite (fl_lands fl fun h6 fl6 sm6 => ?_)
    have I6 := I.landed fl6.1 cov sm6
    exact wpAny_mono (hsu ea pins _ σ H D (I6.hdl ea) q) (fun f s2 z => SP.unhdl I.ok z) (fun _ _ z => False.elim z)
  · refine (PySem.W.exm_one I.kIn LT hx).here ?_
    exact hr pins s σ H D ea C B I fl cov q

def tTry (T : Addr → St → Hp → Prop) (tb : TS) (th : TH) : TS := fun D σ H => tb D σ H ∧ ∀ C σ' H', σ'.length = σ.length → T C σ' H' → th C D σ' H'
theorem ps_try {body : List Stmt} {h₀ : ExceptHandler} {hs : List ExceptHandler} {pos : Pos} {tb : TS} {th : TH} (T : Addr → St → Hp → Prop) (hb : ∀ pins, PSs (X.tr pins T) body tb) (hh : PHs X (h₀ :: hs) th)
    (hst : X.stack = X.env :: X.outer := by rfl) (hfr : X.env.frame = some X.env.locals := by rfl) : PS X (.Try body (h₀ :: hs) [] [] pos) (tTry T tb th) := by
  intro pins s σ H D I h
  obtain ⟨h1, h2⟩ := h
  refine wpAny_Try_except (wpAny_mono (hb pins [] s σ H D (I.tr T) h1) (fun f s1 q => ?_) (fun e s1 q => ?_))
  · cases f with
    | next => obtain ⟨σ', H', J, q⟩ := q; exact wpAny_execs_nil ⟨σ', H', J.untr, q⟩
    | ret v => obtain ⟨v, σ', H', J, r, q⟩ := q; exact ⟨v, σ', H', J.untr, r, q⟩
    | brk => obtain ⟨σ', H', J, q⟩ := q; exact ⟨σ', H', J.untr, q⟩
    | cont => obtain ⟨σ', H', J, q⟩ := q; exact ⟨σ', H', J.untr, q⟩
  · obtain ⟨ea, C, B, σ', H', rfl, J, fl, cov, t⟩ := q
    have fl1 : FlD B (X.env :: X.outer) ea (.ref C) .none s1.heap := by
      rw [← hst]
      exact fl
    refine fl_note (by rw [J.ok.frames, hst]) hfr fl1 fun h4 x4 s4 => ?_
    refine fl_lands x4 fun h5 fl5 s5 => ?_
    have J5 := J.landed fl5.1 cov (s4.trans s5)
    rw [← hst] at fl5
    exact hh pins _ σ' H' D ea C B J5 fl5 (Tcov.land J fl5.1 cov) (h2 C σ' H' (by rw [J.len, I.len]) t)

/-- a call whose exceptions the wish E takes, which may speak of the frame's values -/
def PassesS (CX : CXT) (X : Cx) (E : St → XK) : Prop := ∀ (pins : List (Addr × Obj)) (σ : St) (H : Hp) (s : Shared) (e : Value) (s' : Shared), Inv X pins σ H s → CX X.stack H s (E σ) e s' → X.xe e s'
def tryE (T : Addr → St → Hp → Prop) : St → XK := fun σ c _ H => ∃ C, c = .ref C ∧ T C σ H
theorem try_passes : PassesS (CXo X.prog X.w) (X.tr pins T) (tryE T) := fun pins' σ H s e s' I h => by
  obtain ⟨ea, C, H', B, rfl, ⟨C', hC, q⟩, os, bare, un, hok, fl, cov⟩ := h
  cases hC
  have J : Inv (X.tr pins T) pins' σ H' s' := I.call' (ch := []) os un hok bare (fun b z => absurd z (by simp))
  refine ⟨ea, C, B, σ, H', rfl, J.untr, fl, fun b o c n e => cov b o ?_ n e, q⟩
  rcases c with c | ⟨c1, o', c2⟩ | ⟨p, hp, rfl⟩
  · exact .inl c
  · exact .inr (I.base.there b o' c2 c1)
  · exact .inr ⟨_, (I.pin p (List.mem_append_left _ hp)).1⟩
def tCallS (sp : Sp) (E : St → XK) (t : TA) : TE := fun σ H Q => t σ H fun vs H1 => sp vs H1 Q (E σ)
variable {CX : CXT} {k : Nat} {f : Addr} {fd : FuncData} {ps : List Str} {sp : Sp} {E : St → XK} {x : Str} {p pos : Pos} {e : Expr} {es : List Expr} {t : TA}
theorem pe_callS (F : FnOk X.prog X.w X.K X.mg X.base CX k f fd ps sp) (hr : Room k X.A) (hg : Gl X x) (hm : X.mg x = some (.ref f)) (hk : PySem.W.keepIn X.K (.ref f) = true) (hb : Binds X.K fd ps []) (hx : PassesS CX X E) (ha : PA X (e :: es) t)
    (hdb : (x == ("__debug__" : Str)) = false := by decide) (he : starEach (e :: es) X.env = (false, eval e X.env) :: starEach es X.env := by rfl) (hpl : (backTo pos (starEach es X.env)).any (·.1) = false := by rfl) :
    PE X (.Call (.Name x p) (e :: es) [] pos) (tCallS sp E t) := by
  intro pins s σ H Q I h
  refine wpAny_Call_Name_kw (ld_glob I hg hm ?_ hdb)
  refine PySem.W.callWith_K (h₀ := X.base) I.ok.mod.kin hk (thn (ha pos pins s σ H _ I h) fun us s1 z => ?_) he hpl
  obtain ⟨vs, H1, I1, r, q⟩ := z
  refine ⟨I1.kIn, ?_⟩
  have hl : (us ++ []).length = ps.length := by
    rw [List.append_nil, ← r.length]
    exact F.len _ _ _ _ q
  have hb1 := hb s1 us I1.kIn hl
  rw [List.append_nil] at hb1
  refine wpAny_call (codeAny_mono (F.run X.A X.stack s1 H1 ⟨us, []⟩ us vs Q (E σ) hr I1.env0 hb1 r q) fun r s' hq => ?_)
  cases r with
  | error e => exact hx pins σ H1 s1 e s' I1 hq
  | ok fl =>
    cases fl with
    | ret u => exact I1.after hq
    | next => exact False.elim hq
    | brk => exact False.elim hq
    | cont => exact False.elim hq
end
/-- the rule for a def from which own exceptions may leave -/
theorem Fun.okX {P : Program} {w : World} {K : PySem.W.Frag} {mg : Str → Option Value} {base : Heap} {x qual : Str} {st : Stmt} {f : Addr} {fd : FuncData} {N ps : List Str} {k : Nat} {sp : Sp} (F : Fun K x qual st f fd) (S : FnScope N ps (defScope st)) (len : ∀ vs H Q E, sp vs H Q E → vs.length = ps.length)
    (hbody : ∀ (cdv : Value) (A : Around) (outer : List Env) (s : Shared) (H : Hp) (vs : List V) (Q : VK) (E : XK), Room k (A.deeper (envOfC qual (defScope st) s.heap.objs.size f cdv)) → sp vs H Q E →
      ∃ t, PSs (cxOf (CXo P w) P w K mg base N qual (defScope st) f cdv A outer s H E) (defBody st) t ∧ t { nx := fun _ H' => Q .non H', rt := Q } (start N vs) H) : FnOk P w K mg base (CXo P w) (k + 1) f fd ps sp := by
  obtain ⟨oc, od, kV, doc, pm, an, cdv, ct, osl, rfl, lk, hcd⟩ := F.ex
  exact fn_of lk hcd S len fun A outer s H vs Q E hr hsp => hbody cdv A outer s H vs Q E hr hsp
end L2
set_option Elab.async false
set_option linter.all false
set_option maxRecDepth 100000
set_option maxHeartbeats 4000000
/-! LIST COMPREHENSIONS over the hand layer: one clause, its tests, an element that may call. -/
namespace L2
open PySem PySem.Spec PyProof.Rows

/-- the turns of a comprehension, the step ahead of the store kept -/
theorem compLoop_any {prog : Program} {w : World} {A : Around} {R : Result → Shared → Prop} {s : Shared} {elt target iter : Expr} {ifs : List Expr} {scope : Scope} {pos : Pos} {it acc : Value} {env : Env} (J : Nat → Shared → Prop)
    (turn : ∀ n s, J n s → wpAny (model prog w) A (pyNext it) (fun r s1 => match r with
      | none => R (.ok .next) s1
      | some v => wpAny (model prog w) A (letOwnedTupleGo target it v) (fun _ s2 => wpAny (model prog w) A (assign target env v) (fun _ s3 =>
          wpAny (model prog w) A (forIn ifs true fun c r => if r = true then do let ok ← isTrue c env (eval c env); pure (ForInStep.yield ok) else pure (ForInStep.yield r)) (fun ok s4 =>
            if ok = true then wpAny (model prog w) A (eval elt env) (fun x s5 => wpAny (model prog w) A (call (.builtin "list.append") [acc, x]) (fun _ s6 => ∃ m, m < n ∧ J m s6) (fun _ _ => False) s5) (fun _ _ => False) s4
            else ∃ m, m < n ∧ J m s4) (fun _ _ => False) s3) (fun _ _ => False) s2) (fun _ _ => False) s1) (fun _ _ => False) s)
    (n : Nat) (h : J n s) : codeAny (model prog w) A (.compLoop (.ListComp elt [⟨target, iter, ifs, 0⟩] scope pos) 0 it acc env) R s := by
  refine codeAny_loop rfl J (fun n s hI => ?_) n h
  show wpAny _ A ((compTurn (.ListComp elt [⟨target, iter, ifs, 0⟩] scope pos) 0 it acc env).onRaise
    (fun x => do noteFrame x env; theTreesLotGoes x)) _ _ s
  refine wpAny_noted ?_
  rw [compTurn_list]
  refine wpAny_bind (wpAny_standAt (wpAny_bind (wpAny_mono (turn n s hI) (fun r s1 h1 => ?_) fun _ _ z => z.elim)))
  cases r with
  | none => exact wpAny_pure h1
  | some v =>
    refine wpAny_bind (wpAny_mono h1 (fun _ s2 h2 => ?_) fun _ _ z => z.elim)
    refine wpAny_bind (wpAny_mono h2 (fun _ s3 h3 => ?_) fun _ _ z => z.elim)
    refine wpAny_bind (wpAny_mono h3 (fun ok s4 h4 => ?_) fun _ _ z => z.elim)
    cases ok with
    | false => exact wpAny_pure ⟨rfl, h4⟩
    | true =>
      refine wpAny_bind (wpAny_bind (wpAny_mono h4 (fun x s5 h5 => ?_) fun _ _ z => z.elim))
      exact wpAny_bind (wpAny_mono h5 (fun _ s6 h6 => wpAny_pure (wpAny_pure ⟨rfl, h6⟩)) fun _ _ z => z.elim)

theorem rl_local {env : Env} : ∀ {names : List (Str × NameKind)} {x : Str},
    (names.map fun (n, k) => if (k == NameKind.free && env.scope.kind == .function && env.kindOf n == some .cell) then (n, NameKind.cell) else (n, k)).lookup x = some .local → names.lookup x = some .local
  | [], _, h => by simp at h
  | (n, k) :: r, x, h => by
    have ih := @rl_local env r x
    rw [List.map_cons] at h
    dsimp only at h
    by_cases hc : (k == NameKind.free && env.scope.kind == .function && env.kindOf n == some .cell) = true
    · rw [if_pos hc] at h
      cases hx : x == n with
      | true => simp [List.lookup_cons, hx] at h
      | false =>
        simp only [List.lookup_cons, hx] at h ⊢
        exact ih h
    · rw [if_neg hc] at h
      cases hx : x == n with
      | true =>
        simp only [List.lookup_cons, hx] at h ⊢
        exact h
      | false =>
        simp only [List.lookup_cons, hx] at h ⊢
        exact ih h
theorem rl_far {env : Env} : ∀ {names : List (Str × NameKind)} {x : Str},
    ((names.map fun (n, k) => if (k == NameKind.free && env.scope.kind == .function && env.kindOf n == some .cell) then (n, NameKind.cell) else (n, k)).lookup x = some .cell ∨
     (names.map fun (n, k) => if (k == NameKind.free && env.scope.kind == .function && env.kindOf n == some .cell) then (n, NameKind.cell) else (n, k)).lookup x = some .free) → names.lookup x = some .cell ∨ names.lookup x = some .free
  | [], _, h => by simp at h
  | (n, k) :: r, x, h => by
    have ih := @rl_far env r x
    rw [List.map_cons] at h
    dsimp only at h
    by_cases hc : (k == NameKind.free && env.scope.kind == .function && env.kindOf n == some .cell) = true
    · rw [if_pos hc] at h
      have hk : k = .free := by
        have z := (Bool.and_eq_true_iff.mp (Bool.and_eq_true_iff.mp hc).1).1
        exact eq_of_beq z
      cases hx : x == n with
      | true =>
        simp only [List.lookup_cons, hx]
        rw [hk]
        exact .inr rfl
      | false =>
        simp only [List.lookup_cons, hx] at h ⊢
        exact ih h
    · rw [if_neg hc] at h
      cases hx : x == n with
      | true =>
        simp only [List.lookup_cons, hx] at h ⊢
        exact h
      | false =>
        simp only [List.lookup_cons, hx] at h ⊢
        exact ih h

/-- the cells that a block takes from around -/
def clOf (env : Env) : List (Str × NameKind) → List (Str × Addr) → List (Str × Addr)
  | [], cs => cs
  | (n, k) :: r, cs => clOf env r (if k = .free then (match env.cells.lookup n with | some c => (n, c) :: cs | none => cs) else cs)
theorem clOf_for {env : Env} : ∀ (names : List (Str × NameKind)) (cs : List (Str × Addr)), (∀ y ∈ names, y.2 = .free → ∃ c, env.cells.lookup y.1 = some c) →
    (forIn names cs fun x r => (do
      if (x.2 == NameKind.free) = true then do
        let c ← cellOf env x.1
        pure (ForInStep.yield ((x.1, c) :: r))
      else pure (ForInStep.yield r) : Sem (ForInStep (List (Str × Addr))))) = (pure (clOf env names cs) : Sem (List (Str × Addr)))
  | [], cs, _ => rfl
  | (n, k) :: r, cs, h => by
    have ih := fun cs' => clOf_for r cs' (fun y hy => h y (List.mem_cons_of_mem _ hy))
    rw [List.forIn_cons]
    by_cases hk : k = .free
    · subst hk
      obtain ⟨c, hc⟩ := h _ List.mem_cons_self rfl
      have e1 : cellOf env n = pure c := by
        unfold cellOf
        rw [show env.cells.lookup n = some c from hc]
      have e2 : clOf env ((n, .free) :: r) cs = clOf env r ((n, c) :: cs) := by
        show clOf env r (if NameKind.free = .free then (match env.cells.lookup n with | some c => (n, c) :: cs | none => cs) else cs) = _
        rw [if_pos rfl, show env.cells.lookup n = some c from hc]
      rw [e2, ← ih]
      simp [e1]
    · have e2 : clOf env ((n, k) :: r) cs = clOf env r cs := by
        show clOf env r (if k = .free then _ else cs) = _
        rw [if_neg hk]
      rw [e2, ← ih]
      have e3 : (k == NameKind.free) = false := by
        cases k <;> first | rfl | exact absurd rfl hk
      simp [e3]
theorem clOf_sub {env : Env} : ∀ {names : List (Str × NameKind)} {cs : List (Str × Addr)} {n : Str} {c : Addr}, (∀ n c, cs.lookup n = some c → env.cells.lookup n = some c) → (clOf env names cs).lookup n = some c → env.cells.lookup n = some c
  | [], _, _, _, h, e => h _ _ e
  | (m, k) :: r, cs, n, c, h, e => by
    refine clOf_sub (names := r) (fun n' c' e' => ?_) e
    by_cases hk : k = .free
    · rw [if_pos hk] at e'
      cases hm : env.cells.lookup m with
      | none =>
        rw [hm] at e'
        exact h _ _ e'
      | some d =>
        rw [hm] at e'
        dsimp only at e'
        rw [List.lookup_cons] at e'
        split at e'
        · rename_i z
          rw [eq_of_beq z, hm]
          exact e'
        · exact h _ _ e'
    · rw [if_neg hk] at e'
      exact h _ _ e'
theorem clOf_more {env : Env} : ∀ (names : List (Str × NameKind)) (cs : List (Str × Addr)) (n : Str), (∃ c, cs.lookup n = some c) → ∃ c, (clOf env names cs).lookup n = some c
  | [], _, _, h => h
  | (m, k) :: r, cs, n, h => by
    refine clOf_more r _ n ?_
    by_cases hk : k = .free
    · rw [if_pos hk]
      cases hm : env.cells.lookup m with
      | none => exact h
      | some d =>
        dsimp only
        rw [List.lookup_cons]
        split
        · exact ⟨_, rfl⟩
        · exact h
    · rw [if_neg hk]
      exact h
theorem clOf_has {env : Env} : ∀ {names : List (Str × NameKind)} {cs : List (Str × Addr)} {n : Str}, (n, NameKind.free) ∈ names → (∃ c, env.cells.lookup n = some c) → ∃ c, (clOf env names cs).lookup n = some c
  | [], _, _, h, _ => by cases h
  | (m, k) :: r, cs, n, h, hc => by
    rcases List.mem_cons.mp h with e | e
    · obtain ⟨e1, e2⟩ := Prod.mk.inj e
      subst e1 e2
      obtain ⟨c, hc⟩ := hc
      refine clOf_more r _ n ⟨c, ?_⟩
      rw [if_pos rfl, hc]
      dsimp only
      rw [List.lookup_cons, beq_self_eq_true]
    · exact clOf_has (names := r) e hc
/-- what must be seen of a comprehension's block: its own names, those that it takes from the def around it, and which of the names around are seen within (NN: a name that the block hides stands there under another one) -/
structure CompOk (X : Cx) (scope : Scope) (NN : List Str) : Prop where
  nocell : ∀ y ∈ scope.names, y.2 ≠ .cell
  kind : scope.kind = .function
  names : ∀ y ∈ scope.names, y.2 = .local → scope.names.lookup y.1 = some .local
  far : ∀ y ∈ scope.names, y.2 = .free → X.env.kindOf y.1 = some .cell ∨ X.env.kindOf y.1 = some .free
  len : NN.length = X.N.length
  apart : ∀ (i : Nat) (n : Str), NN[i]? = some n → scope.names.lookup n ≠ some .local ∧ (X.N[i]? = some n ∨ scope.names.lookup n = none)
/-- no name is taken from around -/
theorem CompOk.closed {X : Cx} {scope : Scope} (hf : ∀ y ∈ scope.names, y.2 ≠ .free) (hc : ∀ y ∈ scope.names, y.2 ≠ .cell) (hk : scope.kind = .function) (hn : ∀ y ∈ scope.names, y.2 = .local → scope.names.lookup y.1 = some .local)
    (ha : ∀ n ∈ X.N, scope.names.lookup n ≠ some .local) : CompOk X scope X.N where
  nocell := hc
  kind := hk
  names := hn
  far := fun y hy e => absurd e (hf y hy)
  len := rfl
  apart := fun i n e => ⟨ha n (List.mem_of_getElem? e), .inl e⟩
/-- all is read off the two scopes -/
theorem CompOk.open {X : Cx} {scope : Scope} {NN N : List Str} {sc : Scope} (hN : X.N = N) (hsc : X.env.scope = sc) (hc : ∀ y ∈ scope.names, y.2 ≠ .cell) (hk : scope.kind = .function) (hn : ∀ y ∈ scope.names, y.2 = .local → scope.names.lookup y.1 = some .local)
    (hf : ∀ y ∈ scope.names, y.2 = .free → sc.names.lookup y.1 = some .cell) (hl : NN.length = N.length) (ha : ∀ p ∈ NN.zip N, scope.names.lookup p.1 ≠ some .local ∧ (p.2 = p.1 ∨ scope.names.lookup p.1 = none)) : CompOk X scope NN where
  nocell := hc
  kind := hk
  names := hn
  far := fun y hy e => .inl (by have z := hf y hy e; rw [← hsc] at z; exact z)
  len := by rw [hN]; exact hl
  apart := fun i n e => by
    have lt : i < N.length := by rw [← hl]; exact (List.getElem?_eq_some_iff.mp e).1
    have e2 : N[i]? = some N[i] := List.getElem?_eq_getElem lt
    have z := ha (n, N[i]) (List.mem_of_getElem? (i := i) (by rw [List.getElem?_zip_eq_some]; exact ⟨e, e2⟩))
    refine ⟨z.1, ?_⟩
    rcases z.2 with z | z
    · left
      rw [hN, e2]
      exact congrArg some z
    · exact .inr z

/-- the block's context: s₂, H₂ the state when the iterator has come, C its names' dict -/
abbrev cxC (X : Cx) (scope : Scope) (NL : List Str) (fp : List Addr) (s₂ : Shared) (H₂ : Hp) (C : Addr) : Cx :=
  { X with N := NL, s₀ := s₂, H₀ := H₂, env := compEnvC scope (clOf X.env scope.names []) C X.env, outer := X.stack, ex := fp, fn := fun _ => false, pn := [], xe := fun _ _ => False }

/-- the tests of a clause -/
def PTs (X : Cx) (ifs : List Expr) (t : TT) : Prop :=
  ∀ (pins : List (Addr × Obj)) (s : Shared) (σ : St) (H : Hp) (Q : Bool → Hp → Prop), Inv X pins σ H s → t σ H Q →
    wpAny (model X.prog X.w) X.A (forIn ifs true fun c r => if r = true then do let ok ← isTrue c X.env (eval c X.env); pure (ForInStep.yield ok) else pure (ForInStep.yield r)) (TP X pins σ Q) X.xe s
def tAll : TT := fun _ H Q => Q true H
theorem pts_nil {X : Cx} : PTs X [] tAll := fun pins s σ H Q I h => wpAny_tests_nil ⟨H, I, h⟩
theorem pts_one {X : Cx} {c : Expr} {t : TT} (h : PT X c t) : PTs X [c] t := fun pins s σ H Q I q => wpAny_tests_one (h pins s σ H Q I q)

def tComp (n : Nat) (wi : TI) (g : TG) (tc : TT) (te : TE) : TE := fun σ H Q => wi σ H fun J H1 => ∃ W : Nat → Nat → List V → Hp → Prop, (∃ m, W 0 m [] H1) ∧ ∀ i m ys H, W i m ys H → ys.length < sizeLine ∧
  ((J.stop i H ∧ ∀ p, H p = none → Q (.ref p) (upd H p (.lst ys))) ∨
   (J.go i H ∧ ∃ N : List V → Hp → Prop, (∀ ys' H', N ys' H' → ∃ m', m' < m ∧ W (i + 1) m' ys' H') ∧ ∀ x H', J.yld i H x H' → g x (List.replicate n none ++ σ) H' fun σ2 H2 => σ2.drop n = σ ∧ tc σ2 H2 fun b H3 =>
      if b = true then te σ2 H3 fun y H4 => N (ys ++ [y]) H4 else N ys H3))

section
variable {X : Cx}
theorem drop_get {σ σ2 : St} {n : Nat} (h : σ2.drop n = σ) (i : Nat) (v : V) (e : (List.replicate n none ++ σ)[i]? = some (some v)) : σ2[i]? = some (some v) := by
  by_cases hi : i < n
  · rw [List.getElem?_append_left (by simpa using hi), List.getElem?_replicate, if_pos hi] at e
    cases e
  · rw [List.getElem?_append_right (by simpa using hi), List.length_replicate] at e
    rw [← h, List.getElem?_drop] at e
    rw [show n + (i - n) = i by omega] at e
    exact e

theorem comp_gen {elt target iter : Expr} {ifs : List Expr} {scope : Scope} {NN : List Str} {pos pos' : Pos} {wi : TI} {g : TG} {tc : TT} {te : TE} {use : Option (Value → Sem Unit)} {Qv : Value → Shared → Prop} (own : List Str) (ok : CompOk X scope NN) (hc : X.calm = true) (hi : PI X target iter wi)
    (hg : ∀ fp s₂ H₂ C, PG (cxC X scope (own ++ NN) fp s₂ H₂ C) target g) (ht : ∀ fp s₂ H₂ C, PTs (cxC X scope (own ++ NN) fp s₂ H₂ C) ifs tc) (he : ∀ fp s₂ H₂ C, PE (cxC X scope (own ++ NN) fp s₂ H₂ C) elt te)
    (hs : ∀ x, foldedSetIterable iter X.env x = pure x) {pins : List (Addr × Obj)} {s : Shared} {σ : St} {H : Hp} {Q : VK} (I : Inv X pins σ H s) (h : tComp own.length wi g tc te σ H Q)
    (hfin : ∀ (s4 : Shared) (C D : Addr) (H' : Hp) (m : Str → Option Value), s4.heap.Ns C m → Inv X pins σ H' s4 → H' C = none → C ≠ X.env.locals → X.s₀.heap.objs.size ≤ C → (∀ x c, X.env.cells.lookup x = some c → c ≠ C) → (∀ p ∈ X.pn ++ pins, p.1 ≠ C) → Q (.ref D) H' →
      compPost (model X.prog X.w) X.A X.xe use Qv (.ref D) C (.ok .next) s4) :
    wpAny (model X.prog X.w) X.A (comprehension (.ListComp elt [⟨target, iter, ifs, 0⟩] scope pos) scope X.env pos' (newList []) false (eval iter X.env) use) Qv X.xe s := by
  have hfr : ∀ y ∈ scope.names, y.2 = .free → ∃ c, X.env.cells.lookup y.1 = some c := fun y hy e => I.ok.has _ (ok.far y hy e)
  have okclos : closureFor scope X.env = pure (clOf X.env scope.names []) := by
    unfold closureFor
    rw [← clOf_for scope.names [] hfr]
    simp
  have oksub : ∀ n c, (clOf X.env scope.names []).lookup n = some c → X.env.cells.lookup n = some c := fun n c e => clOf_sub (fun n c e => by simp at e) e
  have okfar : ∀ n, (scope.names.lookup n = some .cell ∨ scope.names.lookup n = some .free) → (∃ c, (clOf X.env scope.names []).lookup n = some c) ∧ (X.env.kindOf n = some .cell ∨ X.env.kindOf n = some .free) := fun n e => by
    rcases e with e | e
    · exact absurd rfl (ok.nocell _ (PySem.mem_of_lookup e))
    · have m := PySem.mem_of_lookup e
      exact ⟨clOf_has m (hfr _ m rfl), ok.far _ m rfl⟩
  refine wpAny_comprehension_free (use := use) rfl hs okclos ok.kind ok.names (thn (hi pins s σ H _ I h) fun xv s1 h1 => thn h1 fun itv s2 h2 => ?_)
  obtain ⟨it, fp, tn, J, H2, e, I2, T, st2, f2, W, ⟨m0, w0⟩, turn⟩ := h2
  subst e
  have fpLt : ∀ b ∈ fp, b < s2.heap.objs.size := fun b hb => by
    obtain ⟨o, e, _⟩ := T.obj _ _ st2 b hb
    exact Heap.lt_size e
  refine wpAny_newObj_type (wpAny_newFunctionEnv ok.nocell (by intro y hy; simp at hy) (fun h1 hns hsb => ?_) ok.kind)
  dsimp only at hns hsb ⊢
  generalize hP : s2.heap.push { cls := .type "list", dict := none, data := .seq ([] : List Value).toArray } = P at hns hsb ⊢
  have hC : P.objs.size = s2.heap.objs.size + 1 := by rw [← hP, Heap.size_push]
  have hDC : s2.heap.objs.size ≠ P.objs.size := by rw [hC]; exact Nat.ne_of_lt (Nat.lt_succ_self _)
  have leC : s2.heap.objs.size ≤ P.objs.size := by rw [hC]; exact Nat.le_succ _
  have old : ∀ b o, s2.heap.get? b = some o → h1.get? b = some o := fun b o e =>
    hsb.extBut b o (by rw [hC]; exact Nat.ne_of_lt (Nat.lt_succ_of_lt (Heap.lt_size e))) (Heap.get?_push_of_some _ (hP ▸ Heap.get?_push_of_some _ e))
  have accAt : h1.get? s2.heap.objs.size = some { cls := .type "list", data := .seq ([] : List Value).toArray 0 } := hsb.extBut _ _ hDC (Heap.get?_push_of_some _ (hP ▸ Heap.get?_push_size _ rfl))
  -- the block's context is well made
  have okC : (cxC X scope (own ++ NN) fp s2 H2 P.objs.size).Ok := by
    refine ⟨I.ok.mod, ok.kind, I.ok.glob, I.ok.blt, by show s2.heap.objs.size ≤ P.objs.size; omega, fun y z c a b => I.ok.inj y z c (oksub _ _ a) (oksub _ _ b), fun y hy => (okfar y (rl_far hy)).1, fun y c z _ => Bool.noConfusion z, I.ok.hd, I.ok.frames, .inl rfl,
      fun b hb => ⟨fun z => ?_, fun y c e => (f2 b hb).2.2.2.2.1 y c (oksub _ _ e)⟩, I2.bs, Nat.le_trans I.ok.bsz I2.sz, fun b o e hb => ?_, fun b hb z => ?_, I2.stack, I2.stkFree⟩
    · exact Nat.ne_of_lt (Nat.lt_of_lt_of_le (fpLt b hb) leC) z
    · rcases (f2 b hb).2.2.2.1 with q | q
      · exact I.ok.noex b o e q
      · exact absurd (Nat.lt_of_lt_of_le (Heap.lt_size e) (Nat.le_trans I.ok.bsz q)) (Nat.lt_irrefl _)
    · rcases List.mem_cons.mp (I2.stkSub b z) with q | q
      · exact (f2 b hb).2.1 q
      · exact (f2 b hb).2.2.1 q
  have fpOk : ∀ {H' : Hp} {o : Obj}, (∀ b ∈ fp, H' b = none) → ∀ b ∈ fp, FpOk (cxC X scope (own ++ NN) fp s2 H2 P.objs.size) [(s2.heap.objs.size, o)] H' b := fun {H' o} hn b hb => by
    have lt := fpLt b hb
    refine ⟨hn b hb, fun z => ?_, fun z => okC.exfs b hb z, .inl hb, fun y c e => (okC.exf b hb).2 y c e, fun p hp z => ?_⟩
    · exact Nat.ne_of_lt (Nat.lt_of_lt_of_le lt leC) z
    · have hp' : p = (s2.heap.objs.size, o) := by simpa using hp
      subst hp'
      exact Nat.ne_of_lt lt (Eq.symm z)
  have cellNe : ∀ y c, (clOf X.env scope.names []).lookup y = some c → c < s2.heap.objs.size := fun y c e => by
    obtain ⟨v, q⟩ := I2.cell y c (oksub _ _ e)
    exact q.lt
  have start : Inv (cxC X scope (own ++ NN) fp s2 H2 P.objs.size) [] (List.replicate own.length none ++ σ) H2 { s2 with heap := h1, toks := s2.toks + ([] : List (Str × Value)).length } := by
    refine ⟨okC, rfl, I2.bare, Un.kept old, ⟨_, hns, fun i y v e1 e2 e3 => ?_⟩, fun y c e => ?_, I2.hok.fresh (by show s2.heap.objs.size ≤ P.objs.size; omega), fun y c e => I2.freeC y c (oksub _ _ e), fun p hp => absurd (show p ∈ ([] : List (Addr × Obj)) from by simpa using hp) (by simp), I2.hok.kept old, ?_⟩
    · by_cases hi : i < own.length
      · rw [List.getElem?_append_left (by simpa using hi), List.getElem?_replicate, if_pos hi] at e2
        cases e2
      · have e1n : NN[i - own.length]? = some y := by
          have z : (own ++ NN)[i]? = some y := e1
          rw [List.getElem?_append_right (by omega)] at z
          exact z
        rw [List.getElem?_append_right (by simpa using hi), List.length_replicate] at e2
        obtain ⟨ap1, ap2⟩ := ok.apart _ y e1n
        rcases e3 with e3 | e3
        · exact absurd (rl_local e3) ap1
        · obtain ⟨⟨c, hcl⟩, kc⟩ := okfar y (rl_far e3)
          have e1' : X.N[i - own.length]? = some y := by
            rcases ap2 with z | z
            · exact z
            · rcases rl_far e3 with q | q <;> (rw [z] at q; cases q)
          obtain ⟨m, hn, hl⟩ := I2.loc
          obtain ⟨u, r, l⟩ := hl (i - own.length) y v e1' e2 (.inr kc)
          refine ⟨u, r, .inr ⟨e3, c, hcl, ?_⟩⟩
          rcases l with ⟨l, _⟩ | ⟨_, c', e', q⟩
          · rcases kc with kc | kc <;> (rw [l] at kc; cases kc)
          · rw [oksub _ _ hcl] at e'
            cases e'
            exact q.keeps old
    · obtain ⟨v, q⟩ := I2.cell y c (oksub _ _ e)
      exact ⟨v, q.keeps old⟩
    · show (List.replicate own.length none ++ σ).length = (own ++ NN).length
      rw [List.length_append, List.length_append, List.length_replicate, I2.len, ok.len]
  have nDC : s2.heap.objs.size ≠ P.objs.size := hDC
  have nDf : s2.heap.objs.size ∉ frs X.stack := fun z => by
    rcases List.mem_cons.mp (I2.stkSub _ z) with q | q
    · exact Nat.ne_of_lt I2.lt (Eq.symm q)
    · exact I2.nofs (Nat.le_refl _) q
  have loop : ∀ s₃ : Shared, s₃ = { s2 with heap := h1, toks := s2.toks + ([] : List (Str × Value)).length } →
      codeAny (model X.prog X.w) X.A (.compLoop (.ListComp elt [⟨target, iter, ifs, 0⟩] scope pos) 0 (.ref it) (.ref s2.heap.objs.size) (compEnvC scope (clOf X.env scope.names []) P.objs.size X.env))
        (compPost (model X.prog X.w) X.A X.xe use Qv (.ref s2.heap.objs.size) P.objs.size) s₃ := by
    rintro s₃ rfl
    refine compLoop_any (fun n s' => ∃ (i : Nat) (ys : List V) (H' : Hp) (its : List Value) (k : Nat), Inv (cxC X scope (own ++ NN) fp s2 H2 P.objs.size) [] (List.replicate own.length none ++ σ) H' s' ∧ tn i s'.heap ∧ (∀ b ∈ fp, H' b = none) ∧ H' s2.heap.objs.size = none ∧ Vals ys its ∧
      s'.heap.get? s2.heap.objs.size = some { cls := .type "list", data := .seq its.toArray k } ∧ W i n ys H') ?_ m0
      ⟨0, [], H2, [], 0, start, T.keep _ _ _ st2 (fun b _ o e => old b o e), fun b hb => (f2 b hb).1, I2.hok.fresh (Nat.le_refl _), .nil, accAt, w0⟩
    rintro n s3 ⟨i, ys, H3, its, k, I3, st3, fr3, nD, rv, hD, w3⟩
    have Ip : Inv (cxC X scope (own ++ NN) fp s2 H2 P.objs.size) [(s2.heap.objs.size, { cls := .type "list", data := .seq its.toArray k })] (List.replicate own.length none ++ σ) H3 s3 := I3.pins_of fun p hp => by
      have hp' : p = (s2.heap.objs.size, { cls := .type "list", data := .seq its.toArray k }) := by simpa using hp
      subst hp'
      exact ⟨hD, nD, nDC, nDf, fun v z => by cases z⟩
    obtain ⟨hl, hw⟩ := turn i n ys H3 w3
    rcases hw with ⟨stop, fin⟩ | ⟨go, N, hN, step⟩
    · refine thn (T.done (cxC X scope (own ++ NN) fp s2 H2 P.objs.size) rfl rfl rfl hc i _ s3 _ H3 _ Ip (fpOk fr3) st3 stop) fun r s4 z => ?_
      obtain ⟨hr, I4⟩ := z
      subst hr
      obtain ⟨m, hn, _⟩ := I4.loc
      have hD4 : s4.heap.get? s2.heap.objs.size = some { cls := .type "list", data := .seq its.toArray k } := (I4.pin _ (List.mem_append_right _ List.mem_cons_self)).1
      obtain ⟨h', eh'⟩ : ∃ h', h' = s4.heap := ⟨_, rfl⟩
      have sb' : ∀ b o, b ≠ P.objs.size → s4.heap.get? b = some o → h'.get? b = some o := fun b o hb e => by rw [eh']; exact e
      have oldNe : ∀ b o, s2.heap.get? b = some o → b ≠ P.objs.size ∧ b ≠ s2.heap.objs.size := fun b o e => by
        have lt := Heap.lt_size e
        exact ⟨Nat.ne_of_lt (Nat.lt_of_lt_of_le lt leC), Nat.ne_of_lt lt⟩
      have trNe : ∀ b u, H3 b = some u → b ≠ P.objs.size ∧ b ≠ s2.heap.objs.size := fun b u e => by
        refine ⟨fun z => ?_, fun z => ?_⟩
        · have q : H3 P.objs.size = none := I4.free
          rw [← z, e] at q
          cases q
        · rw [z, nD] at e
          cases e
      have un : Un (frs X.stack) fp H2 (upd H3 s2.heap.objs.size (.lst ys)) s2.heap h' := by
        have B := I4.base
        refine ⟨fun b o e q hb hx => sb' b o (oldNe b o e).1 (B.keep b o e q hb hx), fun b o e q hb hx => ?_, fun b o e q hx => ?_, fun b o e hx => ?_, fun b xs e => ?_, fun b o u e => ?_, fun b ps e => ?_⟩
        · obtain ⟨sl, e1⟩ := B.slot b o e q hb hx
          exact ⟨sl, sb' _ _ (oldNe b o e).1 e1⟩
        · rw [upd_ne (oldNe b o e).2]
          exact B.free b o e q hx
        · obtain ⟨o', e1⟩ := B.there b o e hx
          exact ⟨o', sb' _ _ (oldNe b o e).1 e1⟩
        · have q := B.tups b xs e
          rw [upd_ne (trNe _ _ q).2]
          exact q
        · have q := B.frzs b o u e
          rw [upd_ne (trNe _ _ q).2]
          exact q
        · obtain ⟨more, q⟩ := B.tbls b ps e
          refine ⟨more, ?_⟩
          rw [upd_ne (trNe _ _ q).2]
          exact q
      have hok : HOk X.prog X.w (upd H3 s2.heap.objs.size (.lst ys)) h' := fun b u e => by
        by_cases hb : b = s2.heap.objs.size
        · subst hb
          rw [upd_same] at e
          cases e
          exact ⟨Nat.le_of_lt hl, its, k, rv, sb' _ _ nDC hD4⟩
        · rw [upd_ne hb] at e
          refine (I4.hok b u e).stay (fun c v hc q => sb' c v ?_ q) (fun c q => ?_) fun c xs q => ?_
          · rcases hc with z | z
            · rw [z]
              exact (trNe _ _ e).1
            · exact (trNe _ _ z).1
          · rw [upd_ne (trNe _ _ q).2]
            exact q
          · rw [upd_ne (trNe _ _ q).2]
            exact q
      have J := I2.call' (s' := { s4 with heap := h' }) (ch := fp) I4.os un hok I4.bare fun b hb => ⟨(f2 b hb).2.2.2.1, (f2 b hb).2.1, (f2 b hb).2.2.2.2.1, (f2 b hb).2.2.2.2.2⟩
      subst eh'
      refine hfin s4 P.objs.size s2.heap.objs.size (upd H3 s2.heap.objs.size (.lst ys)) m hn J ?_ ?_ ?_ (fun y c e => ?_) (fun q hq => ?_) (fin _ nD)
      · rw [upd_ne nDC.symm]
        exact I4.free
      · exact Nat.ne_of_gt (Nat.lt_of_lt_of_le I2.lt leC)
      · exact Nat.le_trans I2.sz leC
      · obtain ⟨v, z⟩ := I2.cell y c e
        exact Nat.ne_of_lt (Nat.lt_of_lt_of_le z.lt leC)
      · exact Nat.ne_of_lt (Nat.lt_of_lt_of_le (Heap.lt_size (I2.pin q hq).1) leC)
    · refine thn (T.item (cxC X scope (own ++ NN) fp s2 H2 P.objs.size) rfl rfl rfl hc i _ s3 _ H3 _ Ip (fpOk fr3) st3 go) fun r s4 z => ?_
      obtain ⟨u, hr, h4⟩ := z
      subst hr
      refine thn h4 fun _ s5 z => ?_
      obtain ⟨x, H5, I5, r5, y5, st5, fr5⟩ := z
      have I5' := I5.pinned (fpOk fr5) (T.obj _ _ st5)
      refine thn (hg fp s2 H2 P.objs.size _ s5 _ H5 x u _ I5' r5 (step x H5 y5)) fun _ s6 z => ?_
      obtain ⟨σ6, H6, I6, hσ, q6⟩ := z
      refine thn (ht fp s2 H2 P.objs.size _ s6 σ6 H6 _ I6 q6) fun okb s7 z => ?_
      obtain ⟨H7, I7, q7⟩ := z
      have pinD : ∀ {H8 : Hp} {s8 : Shared}, Inv (cxC X scope (own ++ NN) fp s2 H2 P.objs.size) ([(s2.heap.objs.size, { cls := .type "list", data := .seq its.toArray k })] ++ pinsAt fp s5.heap) σ6 H8 s8 →
          s8.heap.get? s2.heap.objs.size = some { cls := .type "list", data := .seq its.toArray k } ∧ H8 s2.heap.objs.size = none := fun I8 => by
        have z := I8.pin (s2.heap.objs.size, { cls := .type "list", data := .seq its.toArray k }) (List.mem_append_right _ (List.mem_append_left _ List.mem_cons_self))
        exact ⟨z.1, z.2.1⟩
      have pinF : ∀ {H8 : Hp} {s8 : Shared}, Inv (cxC X scope (own ++ NN) fp s2 H2 P.objs.size) ([(s2.heap.objs.size, { cls := .type "list", data := .seq its.toArray k })] ++ pinsAt fp s5.heap) σ6 H8 s8 →
          tn (i + 1) s8.heap ∧ ∀ b ∈ fp, H8 b = none := fun {H8 s8} I8 => by
        refine ⟨T.keep _ _ _ st5 fun b hb o e => (I8.pin (b, o) (List.mem_append_right _ (List.mem_append_right _ (mem_pinsAt hb e)))).1, fun b hb => ?_⟩
        obtain ⟨o, e, _⟩ := T.obj _ _ st5 b hb
        exact (I8.pin (b, o) (List.mem_append_right _ (List.mem_append_right _ (mem_pinsAt hb e)))).2.1
      have len6 : (List.replicate own.length none ++ σ).length = σ6.length := by rw [I6.len, start.len]
      cases okb with
      | false =>
        have q7' : N ys H7 := q7
        obtain ⟨m', lt, w'⟩ := hN _ _ q7'
        obtain ⟨d1, d2⟩ := pinD I7
        obtain ⟨p1, p2⟩ := pinF I7
        have J7 : Inv (cxC X scope (own ++ NN) fp s2 H2 P.objs.size) [] σ6 H7 s7 := I7.pins_of (fun p hp => absurd hp (by simp))
        exact ⟨m', lt, i + 1, ys, H7, its, k, J7.weak len6 (drop_get hσ), p1, p2, d2, rv, d1, w'⟩
      | true =>
        refine thn (he fp s2 H2 P.objs.size _ s7 σ6 H7 _ I7 q7) fun v8 s8 z => ?_
        obtain ⟨y, H8, I8, r8, n8⟩ := z
        obtain ⟨m', lt, w'⟩ := hN _ _ n8
        obtain ⟨d1, d2⟩ := pinD I8
        obtain ⟨p1, p2⟩ := pinF I8
        refine append_at (hsz := by rw [List.size_toArray, ← rv.length]; exact Nat.le_of_lt hl) d1 fun h9 sb hD9 => ?_
        have J8 : Inv (cxC X scope (own ++ NN) fp s2 H2 P.objs.size) [] σ6 H8 s8 := I8.pins_of (fun p hp => absurd hp (by simp))
        have J9 : Inv (cxC X scope (own ++ NN) fp s2 H2 P.objs.size) [] σ6 H8 { s8 with heap := h9 } := J8.turned (t' := s8.toks) (it := s2.heap.objs.size) (fun b o hb e => sb.extBut b o hb e) d2 nDC (.inr (Nat.le_refl _)) (fun y c e => Nat.ne_of_lt (cellNe y c e)) (fun p hp => absurd hp (by simp))
        refine ⟨m', lt, i + 1, ys ++ [y], H8, its ++ [v8], k + 1, J9.weak len6 (drop_get hσ), T.keep _ _ _ p1 (fun b hb o e => sb.extBut b o (Nat.ne_of_lt (fpLt b hb)) e), p2, d2, rv.append (.cons r8 .nil), ?_, w'⟩
        show h9.get? _ = _
        rw [hD9, List.push_toArray]
  exact codeAny_compStart_list (loop _ rfl) (T.self X.A 0 _ _ _ (T.keep _ _ _ st2 (fun b _ o e => old b o e)) (loop _ rfl))
theorem pe_comp {elt target iter : Expr} {ifs : List Expr} {scope : Scope} {NN : List Str} {pos : Pos} {wi : TI} {g : TG} {tc : TT} {te : TE} (own : List Str) (ok : CompOk X scope NN) (hc : X.calm = true) (hi : PI X target iter wi)
    (hg : ∀ fp s₂ H₂ C, PG (cxC X scope (own ++ NN) fp s₂ H₂ C) target g) (ht : ∀ fp s₂ H₂ C, PTs (cxC X scope (own ++ NN) fp s₂ H₂ C) ifs tc) (he : ∀ fp s₂ H₂ C, PE (cxC X scope (own ++ NN) fp s₂ H₂ C) elt te)
    (hs : ∀ x, foldedSetIterable iter X.env x = pure x := by intro _; rfl) : PE X (.ListComp elt [⟨target, iter, ifs, 0⟩] scope pos) (tComp own.length wi g tc te) := by
  intro pins s σ H Q I h
  rw [eval_ListComp]
  refine comp_gen (use := none) own ok hc hi hg ht he hs I h fun s4 C D H' m hn J n1 n2 n3 n4 n5 q => ?_
  exact ⟨m, hn, fun h' sb => ⟨.ref D, H', J.turned (t' := s4.toks) (it := C) (fun b o hb e => sb.extBut b o hb e) n1 n2 (.inr n3) n4 n5, rfl, q⟩⟩
/-- x = [..], x a plain local name: it is stored ahead of the block's end -/
theorem ps_comp {elt target iter : Expr} {ifs : List Expr} {scope : Scope} {NN : List Str} {pos pos' spos : Pos} {wi : TI} {g : TG} {tc : TT} {te : TE} {i : Nat} {x : Str} (own : List Str) (ok : CompOk X scope NN) (hc : X.calm = true) (hN : X.N.Nodup) (hx0 : X.N[i]? = some x) (hx : Loc X.env.scope x) (hi : PI X target iter wi)
    (hg : ∀ fp s₂ H₂ C, PG (cxC X scope (own ++ NN) fp s₂ H₂ C) target g) (ht : ∀ fp s₂ H₂ C, PTs (cxC X scope (own ++ NN) fp s₂ H₂ C) ifs tc) (he : ∀ fp s₂ H₂ C, PE (cxC X scope (own ++ NN) fp s₂ H₂ C) elt te)
    (hs : ∀ x, foldedSetIterable iter X.env x = pure x := by intro _; rfl) (hf : X.fn x = true ∨ X.env.scope.names.lookup x = some .local := by first | exact .inl rfl | exact .inr rfl | assumption)
    (hsw : swapsWith (.ListComp elt [⟨target, iter, ifs, 0⟩] scope pos) (some (.Name x pos')) spos.line X.env = pure true := by rfl) : PS X (.Assign [.Name x pos'] (.ListComp elt [⟨target, iter, ifs, 0⟩] scope pos) spos) (tAsg (tComp own.length wi g tc te) (gName i)) := by
  intro pins s σ H D I h
  rw [exec_Assign_Name_used _ _ _ _ hsw]
  refine wpAny_bind (wpAny_standAt (wpAny_bind ?_))
  show wpAny _ X.A (do let _ ← comprehension (.ListComp elt [⟨target, iter, ifs, 0⟩] scope pos) scope X.env _ (newList []) false (eval iter X.env) (some (assign (.Name x pos') X.env))) _ _ s
  refine wpAny_bind (wpAny_mono (comp_gen (use := some (assign (.Name x pos') X.env)) (Qv := fun _ s' => SP X pins D .next s') own ok hc hi hg ht he hs I h fun s4 C DD H' m hn J n1 n2 n3 n4 n5 q => ?_) (fun _ s' hq => wpAny_pure (wpAny_pure hq)) fun _ _ e => e)
  show wpAny _ X.A (assign (.Name x pos') X.env (.ref DD)) _ _ s4
  refine wpAny_assign_Name (store_ok2 J hN hx0 hx (show RelV (.ref DD) (.ref DD) from rfl) (fun s' J' z => ?_) hf)
  obtain ⟨a, sb, ha⟩ := z
  have na : C ≠ a := by
    rcases ha with ha | ha
    · rw [ha]
      exact n2
    · exact (n4 x a ha).symm
  refine ⟨m, hn.at' fun o e => sb.extBut C o na e, fun h' sb2 => ⟨_, H', J'.turned (t' := s'.toks) (it := C) (fun b o hb e => sb2.extBut b o hb e) n1 n2 (.inr n3) n4 n5, q⟩⟩
end
/-! ### the forms one uses -/
section
variable {K : PySem.W.Frag} {a : Addr} {xs : List V} {n : Nat} {g : TG} {tc : TT} {te : TE} {σ : St} {H : Hp} {Q : VK}
/-- over a list that stays -/
theorem comp_list (Pv : Nat → List V → Hp → Prop) (h0 : Pv 0 [] H) (hl : ∀ i ys H, i ≤ xs.length → Pv i ys H → SqL K H a xs ∧ ys.length < sizeLine)
    (hs : ∀ i x ys H, xs[i]? = some x → Pv i ys H → g x (List.replicate n none ++ σ) H fun σ2 H2 => σ2.drop n = σ ∧ tc σ2 H2 fun b H3 => if b = true then te σ2 H3 fun y H4 => Pv (i + 1) (ys ++ [y]) H4 else Pv (i + 1) ys H3)
    (hd : ∀ ys H, Pv xs.length ys H → ∀ p, H p = none → Q (.ref p) (upd H p (.lst ys))) :
    ∃ W : Nat → Nat → List V → Hp → Prop, (∃ m, W 0 m [] H) ∧ ∀ i m ys H, W i m ys H → ys.length < sizeLine ∧ (((Itl K a).stop i H ∧ ∀ p, H p = none → Q (.ref p) (upd H p (.lst ys))) ∨
      ((Itl K a).go i H ∧ ∃ N : List V → Hp → Prop, (∀ ys' H', N ys' H' → ∃ m', m' < m ∧ W (i + 1) m' ys' H') ∧ ∀ x H', (Itl K a).yld i H x H' → g x (List.replicate n none ++ σ) H' fun σ2 H2 => σ2.drop n = σ ∧ tc σ2 H2 fun b H3 =>
        if b = true then te σ2 H3 fun y H4 => N (ys ++ [y]) H4 else N ys H3)) := by
  refine ⟨fun i m ys H => m = xs.length - i ∧ i ≤ xs.length ∧ Pv i ys H, ⟨xs.length, by simp, Nat.zero_le _, h0⟩, ?_⟩
  rintro i m ys H ⟨rfl, hi, p⟩
  obtain ⟨q, z⟩ := hl i ys H hi p
  refine ⟨z, ?_⟩
  by_cases hlt : i < xs.length
  · refine .inr ⟨⟨xs, xs[i], q, by simp [hlt]⟩, Pv (i + 1), fun ys' H' p' => ⟨xs.length - (i + 1), by omega, rfl, hlt, p'⟩, fun x H' y => ?_⟩
    obtain ⟨e, y⟩ := y
    subst e
    exact hs i x ys _ (y xs q) p
  · have e : i = xs.length := by omega
    subst e
    exact .inl ⟨⟨xs, q, Nat.le_refl _⟩, hd ys H p⟩
/-- over a tuple -/
theorem comp_tup (Pv : Nat → List V → Hp → Prop) (h0 : Pv 0 [] H) (hl : ∀ i ys H, i ≤ xs.length → Pv i ys H → SqT K H a xs ∧ ys.length < sizeLine)
    (hs : ∀ i x ys H, xs[i]? = some x → Pv i ys H → g x (List.replicate n none ++ σ) H fun σ2 H2 => σ2.drop n = σ ∧ tc σ2 H2 fun b H3 => if b = true then te σ2 H3 fun y H4 => Pv (i + 1) (ys ++ [y]) H4 else Pv (i + 1) ys H3)
    (hd : ∀ ys H, Pv xs.length ys H → ∀ p, H p = none → Q (.ref p) (upd H p (.lst ys))) :
    ∃ W : Nat → Nat → List V → Hp → Prop, (∃ m, W 0 m [] H) ∧ ∀ i m ys H, W i m ys H → ys.length < sizeLine ∧ (((Itt K a).stop i H ∧ ∀ p, H p = none → Q (.ref p) (upd H p (.lst ys))) ∨
      ((Itt K a).go i H ∧ ∃ N : List V → Hp → Prop, (∀ ys' H', N ys' H' → ∃ m', m' < m ∧ W (i + 1) m' ys' H') ∧ ∀ x H', (Itt K a).yld i H x H' → g x (List.replicate n none ++ σ) H' fun σ2 H2 => σ2.drop n = σ ∧ tc σ2 H2 fun b H3 =>
        if b = true then te σ2 H3 fun y H4 => N (ys ++ [y]) H4 else N ys H3)) := by
  refine ⟨fun i m ys H => m = xs.length - i ∧ i ≤ xs.length ∧ Pv i ys H, ⟨xs.length, by simp, Nat.zero_le _, h0⟩, ?_⟩
  rintro i m ys H ⟨rfl, hi, p⟩
  obtain ⟨q, z⟩ := hl i ys H hi p
  refine ⟨z, ?_⟩
  by_cases hlt : i < xs.length
  · refine .inr ⟨⟨xs, xs[i], q, by simp [hlt]⟩, Pv (i + 1), fun ys' H' p' => ⟨xs.length - (i + 1), by omega, rfl, hlt, p'⟩, fun x H' y => ?_⟩
    obtain ⟨e, y⟩ := y
    subst e
    exact hs i x ys _ (y xs q) p
  · have e : i = xs.length := by omega
    subst e
    exact .inl ⟨⟨xs, q, Nat.le_refl _⟩, hd ys H p⟩
end
end L2
set_option linter.all false
set_option maxRecDepth 100000
set_option maxHeartbeats 4000000
/-! dict(xs), xs a list of pairs -/
namespace PySem
theorem dl_keys_miss : typeLookup (.type "list") "keys" = pure none := by rw [typeLookup_type, builtinLookup_eq_fast]; kernel_rfl
theorem dl_entry : entryFor table "dict.update.loop" = some Builtin.«dict.update.loop» := entryFor_of_tree (by kernel_rfl)
section
variable {prog : Program} {w : World} {A : Around} {E : Value → Shared → Prop} {s : Shared}
theorem dl_keys {a : Addr} {xs : Array Value} {k : Nat} {sl : Array (Option Value)} {Q : Option Value → Shared → Prop} (hx : s.heap.get? a = some { cls := .type "list", dict := none, data := .seq xs k, slots := sl }) (hA : A.handled = none)
    (h : ∀ h' tk, (∀ b o, s.heap.get? b = some o → h'.get? b = some o) → Q none { s with heap := h', toks := tk }) : wpAny (model prog w) A (getAttr? (.ref a) "keys") Q E s := by
  obtain ⟨hp, g, d, tk, os⟩ := s
  have hT : ∀ tk', (⟨hp, g, d, tk', os⟩ : Shared).TypeIs (.ref a) "list" := fun _ => ⟨_, hx, rfl⟩
  have f1 := sub_AttributeError
  have f3 := F.slot_list_getattribute.lookup
  have f4 := F.slot_list_getattribute.bind (.ref a)
  have f5 := am_list_getattr_none
  unfold getAttr? getAttrBy? getAttrBy
  have go : ∀ (u : Tok) (tk : Nat) (Q : Value → Shared → Prop) (E : Value → Shared → Prop), (∀ h' tk' e, Heap.NewAttrErr hp h' e (.ref a) "keys" → E (.ref e) ⟨h', g, d, tk', os⟩) → wpAny (model prog w) A (call (Value.builtin "list.__getattribute__") [.ref a, .str "keys" u]) Q E ⟨hp, g, d, tk, os⟩ := fun u tk Q E k1 =>
    call_meets F.slot_list_getattribute (hT _) am_entry_list_getattribute (F.args_list_getattribute_2 _ _) (meets_getattribute_miss_list a xs k sl "keys" _ dl_keys_miss (by decide +kernel)) ⟨hx, hA, fun h' tk' e hx' => k1 h' tk' e hx'⟩
  repeat (any_goals (first | assumption | exact hT _ | refine go _ _ _ _ (fun h' tk' e hx' => ?_) | wp_step))
  obtain ⟨t', u', he⟩ := hx'.there
  repeat (any_goals (first | assumption | wp_step))
  exact h _ _ hx'.keeps
/-- the pairs of a list's items -/
def dlPair {prog : Program} {w : World} {K : Type} [DecidableEq K] (knd : KeyKind prog w K) (h : Heap) (p : K × Value) (x : Value) : Prop :=
  ∃ (a : Addr) (kv : Value) (o : Obj) (n : Nat), x = .ref a ∧ h.get? a = some o ∧ o.cls = .type "tuple" ∧ o.data = .seq #[kv, p.2] n ∧ knd.is p.1 kv = true
variable {K : Type} [DecidableEq K] {knd : KeyKind prog w K}
theorem dl_items {a : Addr} {o : Obj} {n : Nat} {k v : Value} {Q : List Value → Shared → Prop} (ho : s.heap.get? a = some o) (hc : o.cls = .type "tuple") (hd : o.data = .seq #[k, v] n) (h : Q [k, v] s) : wpAny (model prog w) A (Builtin.Dict.pairItems (.ref a)) Q E s := by
  unfold Builtin.Dict.pairItems
  have hT : s.TypeIs (.ref a) "tuple" := ⟨o, ho, hc⟩
  refine wpAny_bind (wpAny_typeOf hT ?_)
  rw [if_pos (by decide)]
  refine wpAny_bind (wpAny_seqItems ho hd (wpAny_pure ?_))
  exact h
theorem dl_loop {R : Result → Shared → Prop} {it l d : Addr} {items : Array Value} {result : Value} (hA : A.handled = none) (hl : l ≠ d) (hi : it ≠ d) (hil : it ≠ l) : ∀ (ps : List (K × Value)) (i : Nat) (kvs : List (K × Value)) (s : Shared) (t : Tok) (z : Int),
    s.heap.IsListIter it l i → s.heap.IsList l items → s.heap.DictOf knd d kvs → Paired (fun p x => dlPair knd s.heap p x ∧ x ≠ .ref d ∧ x ≠ .ref it) ps (items.toList.drop i) → kvs.length + ps.length ≤ sizeLine →
    (∀ h' tk, h'.DictOf knd d (ps.foldl (fun m p => stored m p.1 p.2) kvs) → (∀ b o, b ≠ d → b ≠ it → s.heap.get? b = some o → h'.get? b = some o) → R (.ok (.ret result)) { s with heap := h', toks := tk }) →
    codeAny (model prog w) A (.builtin "dict.update.loop" ⟨[.ref d, .ref it, .int z t, result], []⟩) R s
  | [], i, kvs, s, t, z, hit, hls, hd, hp, hz, h => by
    have hnil : items.toList.drop i = [] := by
      have e := hp.length
      exact List.length_eq_zero_iff.mp e.symm
    have hx : items[i]? = none := by
      have e := List.drop_eq_nil_iff.mp hnil
      simp only [Array.length_toList] at e
      exact Array.getElem?_eq_none e
    refine codeAny_builtin dl_entry ?_
    unfold Builtin.«dict.update.loop»
    dsimp only
    refine wpAny_bind (wpAny_pyNext_list_end hA hit hls hx fun h' eb => ?_)
    dsimp only
    refine wpAny_bind ?_
    unfold Builtin.Dict.addKeywords
    refine wpAny_pure ?_
    refine wpAny_pure (h h' _ (hd.extBut eb hi.symm) fun b o _ hb e => eb b o hb e)
  | p :: ps, i, kvs, s, t, z, hit, hls, hd, hp, hz, h => by
    cases e0 : items.toList.drop i with
    | nil =>
      rw [e0] at hp
      cases hp
    | cons x r =>
      rw [e0] at hp
      cases hp with
      | cons h1 h2 =>
        obtain ⟨⟨a, kv, o, n, rfl, ho, hc, hdt, hk⟩, nd, ni⟩ := h1
        have hx : items[i]? = some (.ref a) := by
          have e := congrArg (fun l => l[0]?) e0
          simpa using e
        have hr : items.toList.drop (i + 1) = r := by
          have e := congrArg List.tail e0
          simpa using e
        refine codeAny_builtin dl_entry ?_
        unfold Builtin.«dict.update.loop»
        dsimp only
        refine wpAny_bind (wpAny_pyNext_list_item hit hls hx fun h1' hit' sb => ?_)
        dsimp only
        refine wpAny_bind (wpAny_holding (wpAny_bind (wpAny_tryCatch ?_)))
        have nai : a ≠ it := fun q => ni (by rw [q])
        have nad : a ≠ d := fun q => nd (by rw [q])
        refine dl_items (s := { s with heap := h1' }) ((sb.2 a nai).trans ho) hc hdt ?_
        dsimp only
        refine wpAny_holding (wpAny_dictSet_pairs (s := { s with heap := h1' }) hk (hd.extBut sb.extBut hi.symm) (fun h2' hd2 sb2 => ?_) (by simp only [List.length_cons] at hz; omega))
        refine wpAny_pure ⟨Code.quiet_builtin _ (by decide +kernel), ?_⟩
        have keep : ∀ b ob, b ≠ d → b ≠ it → s.heap.get? b = some ob → h2'.get? b = some ob := fun b ob nb1 nb2 e => sb2.extBut b ob nb1 (sb.extBut b ob nb2 e)
        refine dl_loop (items := items) hA hl hi hil ps (i + 1) (stored kvs p.1 p.2) { s with heap := h2', toks := s.toks + 1 } _ _ ?_ ?_ hd2 ?_ ?_ ?_
        · obtain ⟨oi, ei, ci, di⟩ := hit'
          exact ⟨oi, sb2.extBut it oi hi ei, ci, di⟩
        · obtain ⟨ol, el, cl⟩ := hls
          exact ⟨ol, keep l ol hl hil.symm el, cl⟩
        · rw [hr]
          clear e0 hr h hz hd hit hit' hls
          induction h2 with
          | nil => exact .nil
          | cons q1 q2 ih =>
            refine .cons ?_ ih
            obtain ⟨⟨a', kv', o', n', rfl, ho', hc', hdt', hk'⟩, nd', ni'⟩ := q1
            exact ⟨⟨a', kv', o', n', rfl, keep a' o' (fun q => nd' (by rw [q])) (fun q => ni' (by rw [q])) ho', hc', hdt', hk'⟩, nd', ni'⟩
        · have hs : (stored kvs p.1 p.2).length ≤ kvs.length + 1 := by
            unfold stored
            split
            · rw [List.length_map]
              omega
            · simp
          simp only [List.length_cons] at hz
          omega
        · intro h' tk hd' k'
          exact h h' tk hd' fun b ob nb1 nb2 e => k' b ob nb1 nb2 (keep b ob nb1 nb2 e)
theorem dl_call {l : Addr} {items : Array Value} {k : Nat} {sl : Array (Option Value)} {ps : List (K × Value)} {Q : Value → Shared → Prop} (hA : A.handled = none) (hx : s.heap.get? l = some { cls := .type "list", dict := none, data := .seq items k, slots := sl })
    (hp : Paired (dlPair knd s.heap) ps items.toList) (hz : ps.length ≤ sizeLine)
    (h : ∀ h' tk, h'.DictOf knd s.heap.objs.size (ps.foldl (fun m p => stored m p.1 p.2) []) → (∀ b o, s.heap.get? b = some o → h'.get? b = some o) → Q (.ref s.heap.objs.size) { s with heap := h', toks := tk }) :
    wpAny (model prog w) A (call (.type "dict") [.ref l]) Q E s := by
  refine callType_codes (Q₁ := fun obj s1 => obj = .ref s.heap.objs.size ∧ s1 = { s with heap := s.heap.push { cls := .type "dict", data := .dict #[] } }) F.kt_called_dict (F.kt_typeCall_dict_1 _) F.entry_dict_init (kt_code_dict_new _ ⟨rfl, rfl⟩) ?_
  rintro obj s1 ⟨rfl, rfl⟩
  have hnew : (s.heap.push { cls := .type "dict", data := .dict #[] }).DictOf knd s.heap.objs.size [] := Heap.DictOf.new s.heap
  have up : ∀ b o, s.heap.get? b = some o → (s.heap.push { cls := .type "dict", data := .dict #[] }).get? b = some o := fun b o e => Heap.get?_push_of_some _ e
  have hlt := Heap.lt_size hx
  refine ⟨hnew.typeIs, F.args_dict_init_2 _ _, ?_⟩
  unfold Builtin.«dict.__init__»
  refine wpAny_bind ?_
  unfold Builtin.Dict.selfAndRest
  refine wpAny_bind (wpAny_notOrdered_dict hnew.typeIs ?_)
  show wpAny _ _ (pure (s.heap.objs.size, [Value.ref l])) _ _ _
  refine wpAny_pure ?_
  show wpAny _ _ (Builtin.Dict.updateFrom "dict.__init__" s.heap.objs.size (.ref l) [] .none) _ _ _
  unfold Builtin.Dict.updateFrom
  have hT : ({ s with heap := s.heap.push { cls := .type "dict", data := .dict #[] } } : Shared).TypeIs (.ref l) "list" := ⟨_, up _ _ hx, rfl⟩
  refine wpAny_bind (wpAny_typeOf hT ?_)
  rw [if_pos (by decide)]
  refine wpAny_bind (dl_keys (s := { s with heap := s.heap.push { cls := .type "dict", data := .dict #[] } }) (up _ _ hx) hA fun h1 tk1 k1 => ?_)
  rw [if_pos (by rfl)]
  refine wpAny_bind (wpAny_rule (wpAny_bind ?_))
  have hl1 : h1.IsList l items := ⟨_, k1 _ _ (up _ _ hx), rfl, k, rfl⟩
  refine wpAny_pyIter_list (s := { s with heap := h1, toks := tk1 }) hl1 ?_
  have sz1 : s.heap.objs.size < h1.objs.size := by
    obtain ⟨o, _, _, e, _⟩ := hnew
    exact Heap.lt_size (k1 _ _ e)
  have up2 : ∀ b o, s.heap.get? b = some o → (h1.push { cls := .type "list_iterator", data := .fields #[.ref l, .int 0 0] }).get? b = some o := fun b o e => Heap.get?_push_of_some _ (k1 _ _ (up _ _ e))
  refine wpAny_pure ⟨Code.quiet_builtin _ (by decide +kernel), ?_⟩
  refine dl_loop (A := A.in1) (knd := knd) (items := items) hA (l := l) (Nat.ne_of_lt hlt) (Nat.ne_of_gt sz1) (Nat.ne_of_gt (Nat.lt_trans hlt sz1)) ps 0 [] _ _ _ ?_ ?_ ?_ ?_ ?_ ?_
  · exact ⟨_, Heap.get?_push_size _ rfl, rfl, rfl⟩
  · exact hl1.push _
  · obtain ⟨o, es, ep, e, r⟩ := hnew
    exact ⟨o, es, ep, Heap.get?_push_of_some _ (k1 _ _ e), r⟩
  · rw [List.drop_zero]
    clear h hz
    generalize items.toList = xs at hp
    induction hp with
    | nil => exact .nil
    | cons q1 q2 ih =>
      refine .cons ?_ ih
      obtain ⟨a, kv, o, n, rfl, ho, hc, hd, hk⟩ := q1
      have la := Heap.lt_size ho
      refine ⟨⟨a, kv, o, n, rfl, up2 _ _ ho, hc, hd, hk⟩, fun q => ?_, fun q => ?_⟩
      · injection q with q
        exact Nat.ne_of_lt la q
      · injection q with q
        exact Nat.ne_of_lt (Nat.lt_trans la sz1) q
  · simpa using hz
  · intro h' tk hd k'
    refine ⟨rfl, h h' tk hd fun b o e => k' b o ?_ ?_ (up2 b o e)⟩
    · exact Nat.ne_of_lt (Heap.lt_size e)
    · exact Nat.ne_of_lt (Nat.lt_trans (Heap.lt_size e) sz1)
end
end PySem
set_option Elab.async false
set_option linter.all false
set_option maxRecDepth 100000
set_option maxHeartbeats 4000000
/-! MORE BUILT-INS over the hand layer: // by any number of 64 bits, products of known size, isinstance, dict(pairs); the script's ints are of bounded size. -/
namespace L2
open PySem PySem.Spec PyProof.Rows
section
variable {X : Cx}
theorem log_small {n : Nat} (h : n < 2 ^ 64) : n.log2 < 9000 := by
  by_cases z : n = 0
  · subst z
    decide
  · exact Nat.lt_trans ((Nat.log2_lt z).mpr h) (by decide)
def CDivB (_ j : Int) : Prop := 0 < j ∧ j < 2 ^ 64
theorem op_fdivB : OpR X (binaryOp .FloorDiv) (rI CDivB fun i j => .int (i / j)) := opI fun i j _ _ _ _ _ hc q => by
  have h1 : (0 : Int) < j := hc.1
  have h2 : j < 2 ^ 64 := hc.2
  have h3 : j.natAbs < 2 ^ 64 := by omega
  exact floordiv_int (by omega) (by rw [Int.fdiv_eq_ediv_of_nonneg i (by omega)]; exact q) (.inl (PyProof.noPylong_of_log2 (log_small h3)))
def CDivM (_ j : Int) : Prop := j ≠ 0 ∧ j.natAbs < 2 ^ 64
theorem op_fdivM : OpR X (binaryOp .FloorDiv) (rI CDivM fun i j => .int (i.fdiv j)) := opI fun _ _ _ _ _ _ _ hc q => floordiv_int hc.1 q (.inl (PyProof.noPylong_of_log2 (log_small hc.2)))
theorem op_mulB : OpR X (binaryOp .Mult) (rI IntMulOk fun i j => .int (i * j)) := opI fun _ _ _ _ _ _ _ hc q => mul_int q hc
/-- isinstance(x, T), T a built-in type -/
theorem call_isinst : CallR X (.builtin "isinstance") (fun xs H Q => ∃ x n t b, xs = [x, .ty n] ∧ TyOf X.K H x t ∧ PySem.W.kitOne X.K t (.type n) = some b ∧ Q (.bl b) H) := by
  intro pins s σ H xs us Q I r h
  obtain ⟨x, n, t, b, rfl, ty, e, q⟩ := h
  obtain ⟨u, w', rfl, rx, rt⟩ := vals2 r
  cases (show w' = Value.type n from rt)
  exact isinst_ok I rx ty e fun tk => ⟨.bl b, H, I.tok _, rfl, q⟩
/-- isinstance(x, C), C an own class -/
theorem call_isinstC : CallR X (.builtin "isinstance") (fun xs H Q => ∃ x C t b, xs = [x, .ref C] ∧ TyOf X.K H x t ∧ PySem.W.kitOne X.K t (.ref C) = some b ∧ Q (.bl b) H) := by
  intro pins s σ H xs us Q I r h
  obtain ⟨x, C, t, b, rfl, ty, e, q⟩ := h
  obtain ⟨u, w', rfl, rx, rt⟩ := vals2 r
  cases (show w' = Value.ref C from rt)
  exact isinst_ok I rx ty e fun tk => ⟨.bl b, H, I.tok _, rfl, q⟩
/-- the pairs that stand in a list -/
def PairsIn (H : Hp) : List (Key × V) → List V → Prop := Paired fun (p : Key × V) x => ∃ a, x = V.ref a ∧ H a = some (.tup [kV p.1, p.2])
theorem pairs_of {P : Program} {w : World} {H : Hp} {h : Heap} (ok : HOk P w H h) : ∀ {ps : List (Key × V)} {vs : List V} {us : List Value}, PairsIn H ps vs → Vals vs us → ∃ qs : List (Key × Value), KV ps qs ∧ Paired (dlPair (mixKind P w) h) qs us := by
  intro ps vs us r
  unfold PairsIn at r
  induction r generalizing us with
  | nil =>
    intro v
    cases v
    exact ⟨[], .nil, .nil⟩
  | @cons p x ps vs q1 q2 ih =>
    intro v
    cases v with
    | cons r1 r2 =>
      obtain ⟨a, rfl, ha⟩ := q1
      obtain ⟨qs, k1, k2⟩ := ih r2
      cases r1
      obtain ⟨_, its, rv, o, ho, hc, n, hd⟩ := (show ObjOk P w H h a (.tup [kV p.1, p.2]) from ok a _ ha)
      obtain ⟨ku, vu, rfl, rk, rw'⟩ := vals2 rv
      exact ⟨(p.1, vu) :: qs, .cons ⟨rfl, rw'⟩ k1, .cons ⟨a, ku, o, n, rfl, ho, hc, hd, kV_is rk⟩ k2⟩
theorem kv_fold {ps : List (Key × V)} {qs : List (Key × Value)} (r : KV ps qs) : ∀ {m : List (Key × V)} {n : List (Key × Value)}, KV m n → KV (ps.foldl (fun m p => putK m p.1 p.2) m) (qs.foldl (fun m p => stored m p.1 p.2) n) := by
  unfold KV at r
  induction r with
  | nil =>
    intro m n k
    exact k
  | @cons p q ps qs h t ih =>
    intro m n k
    obtain ⟨h1, h2⟩ := h
    rw [List.foldl_cons, List.foldl_cons, ← h1]
    exact ih (k.put p.1 h2)
theorem fold_len (ps : List (Key × V)) : ∀ m : List (Key × V), (ps.foldl (fun m p => putK m p.1 p.2) m).length ≤ m.length + ps.length := by
  induction ps with
  | nil =>
    intro m
    exact Nat.le_refl _
  | cons p ps ih =>
    intro m
    rw [List.foldl_cons, List.length_cons]
    have h1 := ih (putK m p.1 p.2)
    have h2 := length_putK m p.1 p.2
    omega
theorem call_dictL (hc : X.calm = true) : CallR X (.type "dict") (fun xs H Q => ∃ p vs ps, xs = [V.ref p] ∧ H p = some (.lst vs) ∧ PairsIn H ps vs ∧ ps.length ≤ sizeLine ∧ ∀ d, H d = none → Q (.ref d) (upd H d (.dK (ps.foldl (fun m p => putK m p.1 p.2) [])))) := by
  intro pins s σ H xs us Q I r h
  obtain ⟨p, vs, ps, rfl, hp, pi, hz, q⟩ := h
  obtain ⟨u, rfl, ru⟩ := vals1 r
  cases ru
  obtain ⟨_, its, n, rv, ho⟩ := (show ObjOk X.prog X.w H s.heap p (.lst vs) from I.hok p _ hp)
  obtain ⟨qs, k1, k2⟩ := pairs_of I.hok pi rv
  refine dl_call (knd := mixKind X.prog X.w) (I.ok.hd hc) ho k2 (by rw [← k1.length]; exact hz) fun h' tk hd kk => ?_
  have hf := kv_fold k1 (m := []) (n := []) .nil
  have hl := fold_len ps []
  refine ⟨.ref s.heap.objs.size, _, I.laid (a := s.heap.objs.size) (o := .dK (ps.foldl (fun m p => putK m p.1 p.2) [])) (t' := tk) kk (Nat.le_refl _) ?_, rfl, q _ (I.hok.fresh (Nat.le_refl _))⟩
  exact dk_new (by simp only [List.length_nil] at hl; omega) (beq_eq_false_iff_ne.mpr (Ne.symm (Nat.ne_of_lt I.big))) hf hd
end
end L2
/-! ### the law's head, with the bound of the script's ints -/
namespace Att
open PySem PySem.W PySem.Calls PyProof.Rows
theorem weight_mem : ∀ (xs : List WData) (x : WData), x ∈ xs → WData.weight x ≤ WData.weightAll xs
  | [], _, h => by cases h
  | y :: r, x, h => by
    unfold WData.weightAll
    rcases List.mem_cons.mp h with e | e
    · subst e
      omega
    · have := weight_mem r x e
      omega
theorem bits_of_lay {ns : List Int} (h : WData.layableAll [WData.list (ns.map WData.int)] = true) : ∀ n ∈ ns, Builtin.Int.intBits n ≤ 1048576 := fun n hn => by
  have h1 : (WData.list (ns.map WData.int)).layable = true := (layW_cons h).1
  unfold WData.layable at h1
  have h2 : WData.weight (WData.list (ns.map WData.int)) ≤ 2 ^ 20 := of_decide_eq_true (Bool.and_eq_true_iff.mp h1).2
  have h3 := weight_mem (ns.map WData.int) (WData.int n) (List.mem_map.mpr ⟨n, hn, rfl⟩)
  have h4 : WData.weight (WData.list (ns.map WData.int)) = WData.weightAll (ns.map WData.int) := by
    rw [WData.weight]
  have h5 : WData.weight (WData.int n) = Builtin.Int.intBits n := by
    rw [WData.weight]
    rfl
  have e : (2 : Nat) ^ 20 = 1048576 := by decide
  omega
theorem attach_callB {l : OpenLaw} {n : Nat} {q : Program} {loose : List Str} {XP : (Str → Option Value) → Heap → Prop} {YP : World → Heap → Prop} {d : DefRec}
    (hn : l.most = some n) (hdf : d.params.defaults = [])
    (call : ∀ (w : World) (s₀ s₁ : Shared) (mg mb : Str → Option Value) (fa : Addr) (a : Addr) (vs : List Value) (ns : List Int),
      Ground q loose [] XP w s₀ mg mb s₁.heap → YP w s₁.heap → mg d.name = some (.ref fa) →
      s₁.heap.get? a = some { cls := .type "list", data := .seq vs.toArray } → IntsAre vs ns → ns.length ≤ n → (∀ x ∈ ns, Builtin.Int.intBits x ≤ 1048576) → s₁.gens = #[] →
      codeAny (model l.prog w) callerA (.call (.ref fa) ⟨[.ref a], []⟩) (fun r s' => r = .ok (.ret (.bool true)) ∧ OldK s₁.heap s'.heap ∧ s'.os = s₁.os ∧ AllBare s'.gens) s₁) :
    WalkO q loose XP YP l.row.toRowW d [] (fun f vs => PySem.call f vs) := by
  intro w s₀ s₁ mg mb G Y fa o pm cd doc dV kV ho hd hcd hD hmg hg args vals as hpre hlay hrd hwl hlo
  obtain rfl : dV = .none := Dflts.none hD hdf
  obtain rfl : kV = .none := Dflts.noKw hD
  obtain ⟨a, vs, ns, rfl, rfl, hobj, hints, hlen⟩ := script_of hn hpre hwl
  refine enter_call (codeAny_mono (call w s₀ s₁ mg mb fa a vs ns G Y hmg hobj hints hlen (bits_of_lay hlay) hg) fun r s' hq => ?_)
  obtain ⟨rfl, h2, h3, h4⟩ := hq
  exact ⟨.inl ⟨.bool true, .bool true, [], rfl, fun _ => rfl, .bool true, post_true l _, fun _ => ⟨List.Pairwise.nil, fun _ hm => (nomatch hm)⟩⟩, h2, h3, h4⟩
end Att
namespace L2
open PySem PySem.Spec PyProof.Rows
theorem walk_ofB {l : PySem.W.OpenLaw} {n k : Nat} {q : Program} {loose : List Str} {XP : (Str → Option Value) → Heap → Prop} {YP : World → Heap → Prop} {d : DefRec} {K : Params → PySem.W.Frag} {CX : World → CXT} {sp : World → Sp} {x : Str}
    (hn : l.most = some n) (hn2 : n ≤ sizeLine) (hdf : d.params.defaults = []) (hr : Room k callerA)
    (hY : ∀ (w : World) (h : Heap), YP w h → (K w.params).In h)
    (F : ∀ (w : World) (mg : Str → Option Value) (fa : Addr) (h : Heap), (K w.params).In h → h.Ns mainGlobals mg → mg d.name = some (.ref fa) →
      ∃ fd : FuncData, (∀ (s : Shared) (u : Value), BindsTo s fd ⟨[u], []⟩ [(x, u)]) ∧
        ∀ base : Heap, (K w.params).In base → base.Ns mainGlobals mg → FnOk l.prog w (K w.params) mg base (CX w) k fa fd [x] (sp w))
    (hsp : ∀ (w : World) (H : Hp) (a : Addr) (ns : List Int), ns.length ≤ n → (∀ x ∈ ns, Builtin.Int.intBits x ≤ 1048576) → SqL (K w.params) H a (ns.map V.int) → sp w [.ref a] H (fun v _ => v = .bl true) fun _ _ _ => False)
    (hCX : ∀ (w : World) (H : Hp) (s : Shared) (e : Value) (s' : Shared), CX w [] H s (fun _ _ _ => False) e s' → False) :
    PySem.W.WalkO q loose XP YP l.row.toRowW d [] (fun f vs => PySem.call f vs) := by
  refine Att.attach_callB hn hdf fun w s₀ s₁ mg mb fa a vs ns G Y hmg hobj hints hlen hbits hg => ?_
  have KX := hY w _ Y
  obtain ⟨fd, hb, hF⟩ := F w mg fa _ KX G.T.g hmg
  exact law_call KX G.T.g G.T.b G.T.builtins G.T.nolimit hg hobj hints (Nat.le_trans hlen hn2) hr hF hb (fun H hO hS => hsp w H a ns hlen hbits hS) fun H e s' => hCX w H s₁ e s'
end L2
set_option linter.all false
set_option maxRecDepth 100000
set_option maxHeartbeats 4000000
/-! == of lists, tuples and dicts that are alike, within one model -/
namespace PySem
open SeqAt MeetsSeq MeetsSeq2 MeetsSeq3 SeqRoads2
open AutoSeq1 (wpAny_loadPart')
/-- == answers True, in this one model -/
def EqIn (prog : Program) (w : World) (A : Around) (s : Shared) (y x : Value) : Prop :=
  ∀ (E : Value → Shared → Prop) (Q : Bool → Shared → Prop), Q true s → wpAny (model prog w) A (eqBool y x) Q E s
def RcIn (prog : Program) (w : World) (A : Around) (s : Shared) (y x : Value) : Prop :=
  ∀ (E : Value → Shared → Prop) (Q : Value → Shared → Prop), Q (.bool true) s → wpAny (model prog w) A (richCompare .Eq y x) Q E s
section
variable {prog : Program} {w : World} {A : Around} {s : Shared}
theorem EqIn.of_at {y x : Value} (h : EqAt A s y x true) : EqIn prog w A s y x := fun E Q q => h prog w E Q q
theorem EqIn.self (v : Value) : EqIn prog w A s v v := EqIn.of_at (EqAt.same v)
theorem EqIn.refs {l b : Addr} (h : RcIn prog w A s (.ref l) (.ref b)) : EqIn prog w A s (.ref l) (.ref b) := by
  by_cases e : l = b
  · rw [e]
    exact EqIn.self _
  · intro E Q q
    unfold eqBool
    refine wpAny_holding (wpAny_ite_split (fun z => ?_) (fun _ => ?_))
    · exact absurd (by have z' := eq_of_beq z; injection z') e
    · exact wpAny_bind (h E _ (wpAny_truthy_bool q))
theorem el_loop (l b : Addr) (xs ys : Array Value) (n m : Nat) (dd de : Option Addr) (sl sm : Array (Option Value)) (hsz : xs.size = ys.size) : ∀ k i : Nat, xs.size - i = k →
    MeetsIn prog w (Builtin.«list.__eq__.loop» ⟨[.ref l, .ref b, rawInt i, rawInt 2], []⟩) (fun A R s =>
      s.heap.get? l = some { cls := .type "list", dict := dd, data := .seq xs n, slots := sl } ∧ s.heap.get? b = some { cls := .type "list", dict := de, data := .seq ys m, slots := sm } ∧
      (∀ j (h1 : j < xs.size) (h2 : j < ys.size), EqIn prog w A.in1 s xs[j] ys[j]) ∧ R (.ok (.ret (.bool true))) s) := by
  intro k
  induction k with
  | zero =>
    intro i hk A R s q
    obtain ⟨hp, g, d, tk, os⟩ := s
    obtain ⟨q1, q2, q3, q4⟩ := q
    have a1 : xs[((i : Nat) : Int).toNat]? = none := by simp; omega
    have a2 : ys[((i : Nat) : Int).toNat]? = none := by simp; omega
    wp_walk using wpAny_loadPart' q1, wpAny_loadPart' q2
    rw [a1, a2]
    wp_walk using wpAny_loadPart' q1, wpAny_loadPart' q2
    show R (.ok (.ret (.bool (xs.size == ys.size)))) _
    rw [hsz, beq_self_eq_true]
    exact q4
  | succ k ih =>
    intro i hk A R s q
    obtain ⟨hp, g, d, tk, os⟩ := s
    obtain ⟨q1, q2, q3, q4⟩ := q
    have l1 : i < xs.size := by omega
    have l2 : i < ys.size := by omega
    have a1 : xs[((i : Nat) : Int).toNat]? = some xs[i] := by simp [l1]
    have a2 : ys[((i : Nat) : Int).toNat]? = some ys[i] := by simp [l2]
    have e1 : ((i : Int) + 1) = ((i + 1 : Nat) : Int) := by push_cast; rfl
    wp_walk using wpAny_loadPart' q1, wpAny_loadPart' q2
    rw [a1, a2]
    refine wpAny_bind (q3 i l1 l2 _ _ ?_)
    wp_walk
    rw [e1]
    refine ⟨plainId_quiet plain_eq_loop _, codeAny_builtin entry_eq_loop ?_⟩
    rw [Around.under_plainId plain_eq_loop _]
    exact ih (i + 1) (by omega) A R _ ⟨q1, q2, q3, q4⟩
theorem el_list (l b : Addr) (xs ys : Array Value) (n m : Nat) (dd de : Option Addr) (sl sm : Array (Option Value)) (hsz : xs.size = ys.size) :
    MeetsIn prog w (Builtin.«list.__eq__» ⟨[.ref l, .ref b], []⟩) (fun A R s =>
      s.heap.get? l = some { cls := .type "list", dict := dd, data := .seq xs n, slots := sl } ∧ s.heap.get? b = some { cls := .type "list", dict := de, data := .seq ys m, slots := sm } ∧
      (∀ j (h1 : j < xs.size) (h2 : j < ys.size), EqIn prog w A.in1 s xs[j] ys[j]) ∧ R (.ok (.ret (.bool true))) s) := by
  intro A R s q
  obtain ⟨hp, g, d, tk, os⟩ := s
  obtain ⟨q1, q2, q3, q4⟩ := q
  have f1 := AutoSeq1.sub_list_list
  have f2 : ¬ (xs.size != ys.size) = true := by simp [hsz]
  wp_walk using wpAny_loadPart' q1, wpAny_loadPart' q2
  refine ⟨plainId_quiet plain_eq_loop _, codeAny_builtin entry_eq_loop ?_⟩
  rw [Around.under_plainId plain_eq_loop _]
  exact el_loop l b xs ys n m dd de sl sm hsz _ 0 rfl A R _ ⟨q1, q2, q3, q4⟩
theorem RcIn.lists {l b : Addr} {xs ys : Array Value} (hl : s.heap.IsList l xs) (hb : s.heap.IsList b ys) (hsz : xs.size = ys.size) (hu : A.units < cLine)
    (he : ∀ j (h1 : j < xs.size) (h2 : j < ys.size), EqIn prog w A.in1 s xs[j] ys[j]) : RcIn prog w A s (.ref l) (.ref b) := fun E Q q => by
  obtain ⟨⟨c1, dd, t1, sl⟩, o1, rfl, n, rfl⟩ := id hl
  obtain ⟨⟨c2, de, t2, sm⟩, o2, rfl, m, rfl⟩ := id hb
  refine wpAny_richCompare_same_room (op := .Eq) ⟨_, o1, rfl⟩ ⟨_, o2, rfl⟩ F.slot_list_eq (call_meetsIn F.slot_list_eq ⟨_, o1, rfl⟩ F.entry_list_eq (F.args_list_eq_2 _ _) (el_list l b xs ys n m dd de sl sm hsz) ⟨o1, o2, he, ?_⟩) hu
  exact ⟨fun z => (nomatch z), q⟩
variable {K : Type} [DecidableEq K] {knd : KeyKind prog w K}
theorem pairs_at {es : List DictEntry} {kvs : List (K × Value)} (h : Pairs knd es kvs) : ∀ {i : Nat} {e : DictEntry}, es[i]? = some e → ∃ kv, kvs[i]? = some kv ∧ knd.is kv.1 e.key = true ∧ e.val = kv.2 := by
  induction h with
  | nil =>
    intro i e q
    simp at q
  | cons a b _ ih =>
    intro i e q
    cases i with
    | zero =>
      simp at q
      subst q
      exact ⟨_, rfl, a, b⟩
    | succ i =>
      obtain ⟨kv, z⟩ := ih (i := i) (by simpa using q)
      exact ⟨kv, by simpa using z.1, z.2⟩
/-- two dicts of the same keys, whose values are alike -/
theorem ed_pairs {nm : String} {d b : Addr} {kvs kws : List (K × Value)} {Q : Bool → Shared → Prop} {E : Value → Shared → Prop} (hd : (d == sysModules) = false) (hb : (b == sysModules) = false) (m1 : s.heap.DictOf knd d kvs) (m2 : s.heap.DictOf knd b kws)
    (hl : kvs.length = kws.length) (he : ∀ kv ∈ kvs, ∃ v', valueAt kws kv.1 = some v' ∧ EqIn prog w A s kv.2 v') (q : Q true s) : wpAny (model prog w) A (Builtin.Dict.samePairs nm d b) Q E s := by
  obtain ⟨o1, es, ep, h1, x1, t1, k1, p1, n1⟩ := id m1
  obtain ⟨o2, fs, fp, h2, x2, t2, k2, p2, n2⟩ := id m2
  have z1 : es.size = kvs.length := by rw [← p1.length, Array.length_toList]
  have z2 : fs.size = kws.length := by rw [← p2.length, Array.length_toList]
  unfold Builtin.Dict.samePairs
  unfold Builtin.Dict.showsAll
  rw [if_neg (by rw [hd]; exact Bool.false_ne_true), if_neg (by rw [hb]; exact Bool.false_ne_true)]
  refine wpAny_bind (wpAny_pure (wpAny_bind (wpAny_pure ?_)))
  refine wpAny_bind (wpAny_dictEntries h1 t1 (wpAny_bind (wpAny_dictEntries h2 t2 ?_)))
  rw [if_neg (by rw [z1, z2, hl]; simp)]
  refine wpAny_bind (wpAny_dictEpoch h1 t1 (wpAny_bind ?_))
  rw [Std.Legacy.Range.forIn_eq_forIn_range']
  simp only [Std.Legacy.Range.size, Nat.sub_zero, Nat.add_sub_cancel, Nat.div_one]
  refine wpAny_forIn_list _ (fun rest r s' => s' = s ∧ r.1 = none ∧ ∃ i, rest = List.range' i (es.size - i) ∧ i ≤ es.size) _ ?_ ?_ _ _ ⟨rfl, rfl, 0, by simp, Nat.zero_le _⟩
  · rintro x rest ⟨r1, r2⟩ s' ⟨rfl, e1, i, hr, hi⟩
    have lt : i < es.size := by
      rcases Nat.lt_or_ge i es.size with z | z
      · exact z
      · rw [Nat.sub_eq_zero_of_le z] at hr
        simp at hr
    obtain ⟨rfl, hrest⟩ : x = i ∧ rest = List.range' (i + 1) (es.size - (i + 1)) := by
      rw [show es.size - i = (es.size - (i + 1)) + 1 by omega, List.range'_succ] at hr
      injection hr with a1 a2
      exact ⟨a1, a2⟩
    obtain ⟨kv, y1, y2, y3⟩ := pairs_at p1 (i := x) (e := es[x]) (by simp [lt])
    obtain ⟨kk, y4, y5⟩ := k1 es[x] (Array.getElem_mem lt)
    have y6 : kk = kv.1 := knd.inj _ _ _ y4 y2
    subst y6
    obtain ⟨v', g1, g2⟩ := he kv (List.mem_of_getElem? y1)
    obtain ⟨o3, fs', fp', a1, _, a2, a3, hf⟩ := m2.mapOf
    rw [h2] at a1
    cases a1
    rw [t2] at a2
    cases a2
    rw [← hf kv.1, findBy_of_findIdx?] at g1
    refine wpAny_bind (wpAny_dictEntries h1 t1 ?_)
    rw [Array.getElem?_eq_getElem lt]
    dsimp only
    refine wpAny_bind (wpAny_holding (wpAny_bind ?_))
    rw [y5]
    refine wpAny_dictFind_of y2 h2 t2 k2 ?_
    cases hj : fs.findIdx? fun e => knd.is kv.1 e.key with
    | none =>
      rw [hj] at g1
      cases g1
    | some j =>
      rw [hj] at g1
      dsimp only at g1 ⊢
      refine wpAny_bind (wpAny_dictEntries h2 t2 ?_)
      cases hx : fs[j]? with
      | none =>
        simp [hx] at g1
      | some fe =>
        have g3 : fe.val = v' := by simpa [hx] using g1
        dsimp only
        refine wpAny_holding ?_
        rw [y3, g3]
        refine g2 _ _ ?_
        rw [if_neg (by decide)]
        refine wpAny_bind (wpAny_dictEpoch h1 t1 ?_)
        rw [if_neg (by simp)]
        exact wpAny_pure ⟨rfl, rfl, x + 1, hrest, lt⟩
  · rintro ⟨r1, r2⟩ s' ⟨rfl, e1, _⟩
    have e1 : r1 = none := e1
    subst e1
    exact wpAny_pure q
theorem meets_deq (d b : Addr) (hd : (d == sysModules) = false) (hb : (b == sysModules) = false) :
    MeetsIn prog w (Builtin.«dict.__eq__» ⟨[.ref d, .ref b], []⟩) (fun A R s => ∃ kvs kws, s.heap.DictOf knd d kvs ∧ s.heap.DictOf knd b kws ∧ kvs.length = kws.length ∧
      (∀ kv ∈ kvs, ∃ v', valueAt kws kv.1 = some v' ∧ EqIn prog w A.in1 s kv.2 v') ∧ R (.ok (.ret (.bool true))) s) :=
  .of_wp fun A R s h => by
    obtain ⟨kvs, kws, m1, m2, hl, he, q⟩ := h
    unfold Builtin.«dict.__eq__»
    show wpAny _ _ (Builtin.Dict.dictSlotArgs "__eq__" ⟨[.ref d, .ref b], []⟩ >>= _) _ _ s
    refine wpAny_bind ?_
    unfold Builtin.Dict.dictSlotArgs
    unfold Builtin.Dict.notOrdered
    rw [if_neg (by decide)]
    refine wpAny_bind (wpAny_pure ?_)
    show wpAny _ _ (pure (Value.ref d, Value.ref b)) _ _ s
    refine wpAny_pure ?_
    dsimp only
    refine wpAny_bind (wpAny_isInstance m2.typeIs isSubtype_dict_dict ?_)
    rw [if_neg (by decide)]
    refine wpAny_bind (wpAny_pure (wpAny_bind (wpAny_pure (wpAny_bind (ed_pairs hd hb m1 m2 hl he ?_)))))
    exact wpAny_pure ⟨_, rfl, q⟩
theorem RcIn.dicts {d b : Addr} {kvs kws : List (K × Value)} (hd : (d == sysModules) = false) (hb : (b == sysModules) = false) (m1 : s.heap.DictOf knd d kvs) (m2 : s.heap.DictOf knd b kws) (hl : kvs.length = kws.length) (hu : A.units < cLine)
    (he : ∀ kv ∈ kvs, ∃ v', valueAt kws kv.1 = some v' ∧ EqIn prog w A.in1 s kv.2 v') : RcIn prog w A s (.ref d) (.ref b) := fun E Q q =>
  wpAny_richCompare_same_room (op := .Eq) m1.typeIs m2.typeIs F.slot_dict_eq (call_meetsIn F.slot_dict_eq m1.typeIs F.entry_dict_eq (F.args_dict_eq_2 _ _) (meets_deq (knd := knd) d b hd hb) ⟨kvs, kws, m1, m2, hl, he, ⟨fun z => (nomatch z), q⟩⟩) hu
end
end PySem
set_option Elab.async false
set_option linter.all false
set_option maxRecDepth 100000
set_option maxHeartbeats 4000000
/-! == of things that are alike; dict.copy -/
namespace L2
open PySem PySem.Spec PyProof.Rows PySem.SeqAt
def sc0 : V → Prop
  | .int _ => True
  | .str _ => True
  | .bl _ => True
  | .non => True
  | _ => False
/-- alike, without dicts -/
def TEq (H : Hp) : Nat → V → V → Prop
  | 0, x, y => sc0 x ∧ x = y
  | n + 1, x, y => (sc0 x ∧ x = y) ∨ (∃ p q xs ys, x = .ref p ∧ y = .ref q ∧ H p = some (.lst xs) ∧ H q = some (.lst ys) ∧ Paired (TEq H n) xs ys) ∨
      ∃ p q xs ys, x = .ref p ∧ y = .ref q ∧ H p = some (.tup xs) ∧ H q = some (.tup ys) ∧ Paired (TEq H n) xs ys
/-- alike, with dicts outside -/
def DEq (H : Hp) : Nat → V → V → Prop
  | 0, x, y => ∃ n, n ≤ 20 ∧ TEq H n x y
  | n + 1, x, y => (∃ n, n ≤ 20 ∧ TEq H n x y) ∨ (∃ p q xs ys, x = .ref p ∧ y = .ref q ∧ H p = some (.lst xs) ∧ H q = some (.lst ys) ∧ Paired (DEq H n) xs ys) ∨
      ∃ p q kvs kws, x = .ref p ∧ y = .ref q ∧ H p = some (.dK kvs) ∧ H q = some (.dK kws) ∧ Paired (fun (a b : Key × V) => a.1 = b.1 ∧ DEq H n a.2 b.2) kvs kws
section
variable {P : Program} {w : World} {H : Hp} {s : Shared}
theorem pair_vals {R : V → V → Prop} : ∀ {xs ys : List V} {us vs : List Value}, Paired R xs ys → Vals xs us → Vals ys vs → us.length = vs.length ∧ ∀ j (h1 : j < us.length) (h2 : j < vs.length), ∃ x y, R x y ∧ RelV x us[j] ∧ RelV y vs[j]
  | _, _, _, _, .nil, .nil, .nil => ⟨rfl, fun j h1 => absurd h1 (Nat.not_lt_zero _)⟩
  | _, _, _, _, .cons r rs, .cons a as, .cons b bs => by
    obtain ⟨e, z⟩ := pair_vals rs as bs
    refine ⟨by rw [List.length_cons, List.length_cons, e], fun j h1 h2 => ?_⟩
    cases j with
    | zero => exact ⟨_, _, r, a, b⟩
    | succ j => exact z j (Nat.lt_of_succ_lt_succ h1) (Nat.lt_of_succ_lt_succ h2)
theorem sc_eqAt {A : Around} {x : V} {u v : Value} (h : sc0 x) (ru : RelV x u) (rv : RelV x v) : EqAt A s u v true := by
  cases x with
  | non => cases ru; cases rv; exact EqAt.same _
  | bl b => cases ru; cases rv; exact EqAt.same _
  | int i =>
    obtain ⟨t, rfl⟩ := ru
    obtain ⟨t', rfl⟩ := rv
    have z := EqAt.int_int (A := A) (s := s) i t i t'
    rw [beq_self_eq_true] at z
    exact z
  | str i =>
    obtain ⟨t, rfl⟩ := ru
    obtain ⟨t', rfl⟩ := rv
    have z := EqAt.str_str (A := A) (s := s) i t i t'
    rw [beq_self_eq_true] at z
    exact z
  | byt b => exact h.elim
  | flt b => exact h.elim
  | ref a => exact h.elim
  | ty a => exact h.elim
theorem isList_of (ok : HOk P w H s.heap) {p : Addr} {xs : List V} (h : H p = some (.lst xs)) : ∃ us : List Value, Vals xs us ∧ s.heap.IsList p us.toArray := by
  obtain ⟨_, us, n, r, e⟩ := (show ObjOk P w H s.heap p (.lst xs) from ok p _ h)
  exact ⟨us, r, _, e, rfl, n, rfl⟩
theorem isTup_of (ok : HOk P w H s.heap) {p : Addr} {xs : List V} (h : H p = some (.tup xs)) : ∃ us : List Value, Vals xs us ∧ s.heap.IsTuple p us.toArray := by
  obtain ⟨_, us, r, o, e, c, n, d⟩ := (show ObjOk P w H s.heap p (.tup xs) from ok p _ h)
  exact ⟨us, r, o, e, c, n, d⟩
theorem all_true (n : Nat) : ((List.range n).all fun _ => true) = true := by simp
/-- two lists, their items alike -/
theorem rc_lists (ok : HOk P w H s.heap) {R : V → V → Prop} {A : Around} {p q : Addr} {xs ys : List V} (hu : A.units < cLine) (h1 : H p = some (.lst xs)) (h2 : H q = some (.lst ys)) (r : Paired R xs ys)
    (he : ∀ x y u v, R x y → RelV x u → RelV y v → EqAt A.in1 s u v true) : RcAt A s (.ref p) (.ref q) true := by
  obtain ⟨us, r1, i1⟩ := isList_of ok h1
  obtain ⟨vs, r2, i2⟩ := isList_of ok h2
  obtain ⟨e, z⟩ := pair_vals r r1 r2
  have k := RcAt.lists (e := fun _ => true) i1 i2 (by simpa using e) hu (fun j a b => by
    obtain ⟨x, y, rr, rx, ry⟩ := z j (by simpa using a) (by simpa using b)
    simpa using he _ _ _ _ rr rx ry)
  rw [all_true] at k
  exact k
theorem rc_tups (ok : HOk P w H s.heap) {R : V → V → Prop} {A : Around} {p q : Addr} {xs ys : List V} (hu : A.units < cLine) (h1 : H p = some (.tup xs)) (h2 : H q = some (.tup ys)) (r : Paired R xs ys)
    (he : ∀ x y u v, R x y → RelV x u → RelV y v → EqAt A.in1 s u v true) : RcAt A s (.ref p) (.ref q) true := by
  obtain ⟨us, r1, i1⟩ := isTup_of ok h1
  obtain ⟨vs, r2, i2⟩ := isTup_of ok h2
  obtain ⟨e, z⟩ := pair_vals r r1 r2
  have k := RcAt.tuples (e := fun _ => true) i1 i2 hu (fun j a b => by
    obtain ⟨x, y, rr, rx, ry⟩ := z j (by simpa using a) (by simpa using b)
    simpa using he _ _ _ _ rr rx ry)
  rw [all_true, Bool.true_and, List.size_toArray, List.size_toArray, e, beq_self_eq_true] at k
  exact k
theorem EqAt.of_rc {A : Around} {l b : Addr} (h : RcAt A s (.ref l) (.ref b) true) : EqAt A s (.ref l) (.ref b) true := by
  by_cases e : l = b
  · rw [e]
    exact EqAt.same _
  · exact EqAt.of_refs e h
theorem teq_at (ok : HOk P w H s.heap) : ∀ {n : Nat} {A : Around} {x y : V} {u v : Value}, A.units + n < cLine → TEq H n x y → RelV x u → RelV y v → EqAt A s u v true
  | 0, A, x, y, u, v, hu, h, ru, rv => by
    obtain ⟨h1, rfl⟩ := h
    exact sc_eqAt h1 ru rv
  | n + 1, A, x, y, u, v, hu, h, ru, rv => by
    have hin : A.in1.units + n < cLine := by
      show A.units + 1 + n < cLine
      omega
    rcases h with ⟨h1, rfl⟩ | ⟨p, q, xs, ys, rfl, rfl, h1, h2, r⟩ | ⟨p, q, xs, ys, rfl, rfl, h1, h2, r⟩
    · exact sc_eqAt h1 ru rv
    · cases ru
      cases rv
      exact EqAt.of_rc (rc_lists ok (by omega) h1 h2 r fun _ _ _ _ z a b => teq_at ok hin z a b)
    · cases ru
      cases rv
      exact EqAt.of_rc (rc_tups ok (by omega) h1 h2 r fun _ _ _ _ z a b => teq_at ok hin z a b)
theorem rcIn_lists (ok : HOk P w H s.heap) {R : V → V → Prop} {A : Around} {p q : Addr} {xs ys : List V} (hu : A.units < cLine) (h1 : H p = some (.lst xs)) (h2 : H q = some (.lst ys)) (r : Paired R xs ys)
    (he : ∀ x y u v, R x y → RelV x u → RelV y v → EqIn P w A.in1 s u v) : RcIn P w A s (.ref p) (.ref q) := by
  obtain ⟨us, r1, i1⟩ := isList_of ok h1
  obtain ⟨vs, r2, i2⟩ := isList_of ok h2
  obtain ⟨e, z⟩ := pair_vals r r1 r2
  exact RcIn.lists i1 i2 (by simpa using e) hu (fun j a b => by
    obtain ⟨x, y, rr, rx, ry⟩ := z j (by simpa using a) (by simpa using b)
    simpa using he _ _ _ _ rr rx ry)
theorem pair_kv {κ : Type} {R : κ × V → κ × V → Prop} : ∀ {kvs kws : List (κ × V)} {us vs : List (κ × Value)}, Paired R kvs kws → KV kvs us → KV kws vs → us.length = vs.length ∧ ∀ (i : Nat) (q : κ × Value), us[i]? = some q → ∃ q' a b, vs[i]? = some q' ∧ R a b ∧ a.1 = q.1 ∧ b.1 = q'.1 ∧ RelV a.2 q.2 ∧ RelV b.2 q'.2
  | _, _, _, _, .nil, .nil, .nil => ⟨rfl, fun i q h => by simp at h⟩
  | _, _, _, _, .cons r rs, .cons a as, .cons b bs => by
    obtain ⟨e, z⟩ := pair_kv rs as bs
    refine ⟨by rw [List.length_cons, List.length_cons, e], fun i q h => ?_⟩
    cases i with
    | zero =>
      simp at h
      subst h
      exact ⟨_, _, _, rfl, r, a.1, b.1, a.2, b.2⟩
    | succ i =>
      obtain ⟨q', x, y, h1, h2⟩ := z i q (by simpa using h)
      exact ⟨q', x, y, by simpa using h1, h2⟩
theorem rcIn_dicts (ok : HOk P w H s.heap) {R : V → V → Prop} {A : Around} {p q : Addr} {kvs kws : List (Key × V)} (hu : A.units < cLine) (h1 : H p = some (.dK kvs)) (h2 : H q = some (.dK kws)) (r : Paired (fun (a b : Key × V) => a.1 = b.1 ∧ R a.2 b.2) kvs kws)
    (he : ∀ x y u v, R x y → RelV x u → RelV y v → EqIn P w A.in1 s u v) : RcIn P w A s (.ref p) (.ref q) := by
  obtain ⟨_, n1, us, k1, m1⟩ := (show ObjOk P w H s.heap p (.dK kvs) from ok p _ h1)
  obtain ⟨_, n2, vs, k2, m2⟩ := (show ObjOk P w H s.heap q (.dK kws) from ok q _ h2)
  obtain ⟨e, z⟩ := pair_kv r k1 k2
  refine RcIn.dicts n1 n2 m1 m2 e hu fun kv hkv => ?_
  obtain ⟨i, hi⟩ := List.getElem?_of_mem hkv
  obtain ⟨q', a, b, g1, ⟨g2, g3⟩, g4, g5, g6, g7⟩ := z i kv hi
  obtain ⟨_, _, _, _, _, _, _, _, nd⟩ := id m2
  have g8 : vs[i]? = some (kv.1, q'.2) := by
    rw [g1, ← g4, g2, g5]
  exact ⟨q'.2, valueAt_of_get nd g8, he _ _ _ _ g3 g6 g7⟩
theorem deq_in (ok : HOk P w H s.heap) : ∀ {n : Nat} {A : Around} {x y : V} {u v : Value}, A.units + n + 20 < cLine → DEq H n x y → RelV x u → RelV y v → EqIn P w A s u v
  | 0, A, x, y, u, v, hu, h, ru, rv => by
    obtain ⟨m, h0, h1⟩ := h
    exact EqIn.of_at (teq_at ok (by omega) h1 ru rv)
  | n + 1, A, x, y, u, v, hu, h, ru, rv => by
    have hin : A.in1.units + n + 20 < cLine := by
      show A.units + 1 + n + 20 < cLine
      omega
    rcases h with ⟨m, h0, h1⟩ | ⟨p, q, xs, ys, rfl, rfl, h1, h2, r⟩ | ⟨p, q, kvs, kws, rfl, rfl, h1, h2, r⟩
    · exact EqIn.of_at (teq_at ok (by omega) h1 ru rv)
    · cases ru
      cases rv
      exact EqIn.refs (rcIn_lists ok (by omega) h1 h2 r fun _ _ _ _ z a b => deq_in ok hin z a b)
    · cases ru
      cases rv
      exact EqIn.refs (rcIn_dicts ok (by omega) h1 h2 r fun _ _ _ _ z a b => deq_in ok hin z a b)
end
section
variable {X : Cx}
/-- x == y, of things that are alike -/
theorem op_eqD (hu : X.A.units + 50 < cLine) : OpR X (compareOp .Eq) (fun x y H Q => ∃ n p q, n ≤ 20 ∧ x = .ref p ∧ y = .ref q ∧ DEq H n x y ∧ Q (.bl true) H) := by
  intro pins s σ H x y v u Q I rx ry h
  obtain ⟨n, p, q, hn, rfl, rfl, d, k⟩ := h
  cases rx
  cases ry
  have fin : EP X pins σ Q (.bool true) s := ⟨.bl true, H, I, rfl, k⟩
  have hu1 : X.A.units < cLine := by omega
  have main : RcIn X.prog X.w X.A s (.ref p) (.ref q) := by
    have hin : ∀ m, m ≤ 20 → X.A.in1.units + m < cLine := fun m hm => by
      show X.A.units + 1 + m < cLine
      omega
    have tq : ∀ m, m ≤ 20 → TEq H m (.ref p) (.ref q) → RcIn X.prog X.w X.A s (.ref p) (.ref q) := fun m hm t => by
      cases m with
      | zero => exact t.1.elim
      | succ m =>
        rcases t with ⟨h1, _⟩ | ⟨p', q', xs, ys, e1, e2, h1, h2, r⟩ | ⟨p', q', xs, ys, e1, e2, h1, h2, r⟩
        · exact h1.elim
        · cases e1
          cases e2
          intro E Q' k'
          exact rc_lists I.hok hu1 h1 h2 r (fun _ _ _ _ z a b => teq_at I.hok (hin m (by omega)) z a b) X.prog X.w E Q' k'
        · cases e1
          cases e2
          intro E Q' k'
          exact rc_tups I.hok hu1 h1 h2 r (fun _ _ _ _ z a b => teq_at I.hok (hin m (by omega)) z a b) X.prog X.w E Q' k'
    cases n with
    | zero =>
      obtain ⟨m, hm, t⟩ := d
      exact tq m hm t
    | succ n =>
      have hin2 : X.A.in1.units + n + 20 < cLine := by
        show X.A.units + 1 + n + 20 < cLine
        omega
      rcases d with ⟨m, hm, t⟩ | ⟨p', q', xs, ys, e1, e2, h1, h2, r⟩ | ⟨p', q', kvs, kws, e1, e2, h1, h2, r⟩
      · exact tq m hm t
      · cases e1
        cases e2
        exact rcIn_lists I.hok hu1 h1 h2 r fun _ _ _ _ z a b => deq_in I.hok hin2 z a b
      · cases e1
        cases e2
        exact rcIn_dicts I.hok hu1 h1 h2 r fun _ _ _ _ z a b => deq_in I.hok hin2 z a b
  exact main _ _ fin
/-- x != y, of things that are alike, without dicts -/
theorem op_neT (hu : X.A.units + 50 < cLine) : OpR X (compareOp .NotEq) (fun x y H Q => ∃ n p q, n ≤ 20 ∧ x = .ref p ∧ y = .ref q ∧ TEq H n x y ∧ Q (.bl false) H) := by
  intro pins s σ H x y v u Q I rx ry h
  obtain ⟨n, p, q, hn, rfl, rfl, d, k⟩ := h
  cases rx
  cases ry
  have fin : EP X pins σ Q (.bool false) s := ⟨.bl false, H, I, rfl, k⟩
  have hu1 : X.A.units < cLine := by omega
  cases n with
  | zero => exact d.1.elim
  | succ m =>
    have hin : X.A.in1.units + m < cLine := by
      show X.A.units + 1 + m < cLine
      omega
    rcases d with ⟨h1, _⟩ | ⟨p', q', xs, ys, e1, e2, h1, h2, r⟩ | ⟨p', q', xs, ys, e1, e2, h1, h2, r⟩
    · exact h1.elim
    · cases e1
      cases e2
      obtain ⟨us, r1, i1⟩ := isList_of I.hok h1
      obtain ⟨vs, r2, i2⟩ := isList_of I.hok h2
      obtain ⟨e, z⟩ := pair_vals r r1 r2
      have k := RcNeAt.lists (A := X.A) (e := fun _ => true) i1 i2 (by simpa using e) hu1 (fun j a b => by
        obtain ⟨x, y, rr, rx, ry⟩ := z j (by simpa using a) (by simpa using b)
        simpa using teq_at I.hok hin rr rx ry)
      rw [all_true] at k
      exact k X.prog X.w _ _ fin
    · cases e1
      cases e2
      obtain ⟨us, r1, i1⟩ := isTup_of I.hok h1
      obtain ⟨vs, r2, i2⟩ := isTup_of I.hok h2
      obtain ⟨e, z⟩ := pair_vals r r1 r2
      have k := RcNeAt.tuples (A := X.A) (e := fun _ => true) i1 i2 hu1 (fun j a b => by
        obtain ⟨x, y, rr, rx, ry⟩ := z j (by simpa using a) (by simpa using b)
        simpa using teq_at I.hok hin rr rx ry)
      rw [all_true, Bool.true_and, List.size_toArray, List.size_toArray, e, beq_self_eq_true] at k
      exact k X.prog X.w _ _ fin
/-- d.copy() -/
def rDCopy : V → List V → Hp → VK → Prop := fun x vs H Q => ∃ d kvs, x = .ref d ∧ vs = [] ∧ H d = some (.dK kvs) ∧ ∀ p, H p = none → Q (.ref p) (upd H p (.dK kvs))
theorem mt_dcopy : MtR X "dict.copy" rDCopy := by
  intro pins s σ H x vs v us Q I rx rv h
  obtain ⟨d, kvs, rfl, rfl, hd, q⟩ := h
  cases rx
  cases rv
  obtain ⟨hz, n1, ws, k1, m1⟩ := (show ObjOk X.prog X.w H s.heap d (.dK kvs) from I.hok d _ hd)
  refine call_meetsIn PySem.F.slot_dict_copy m1.typeIs PySem.F.entry_dict_copy (PySem.F.args_dict_copy_1 _) (meets_dict_copy (mixKind X.prog X.w) d n1) ⟨ws, m1, by rw [← k1.length]; exact hz, fun h' hn _ kk => ?_⟩
  exact ⟨.ref s.heap.objs.size, _, I.laid (a := s.heap.objs.size) (o := .dK kvs) (t' := s.toks) kk (Nat.le_refl _) (dk_new hz (beq_eq_false_iff_ne.mpr (Ne.symm (Nat.ne_of_lt I.big))) k1 hn), rfl, q _ (I.hok.fresh (Nat.le_refl _))⟩
theorem hu50 {A : Around} {k : Nat} (hr : Room k A) : A.units + 50 < cLine := by
  have := hr.un
  omega
end
end L2
set_option Elab.async false
set_option linter.all false
set_option maxRecDepth 100000
set_option maxHeartbeats 4000000
/-! EXCEPTIONS of own classes as values: made, asked for their class, their methods called, caught by a name. -/
namespace L2
open PySem PySem.Spec PyProof.Rows
/-- a class of exceptions, as far as its things are asked -/
structure XCls (K : PySem.W.Frag) (C : Addr) : Prop where
  ga : PySem.W.findIn K (.ref C) "__getattribute__" = some (some (.builtin "BaseException.__getattribute__"))
  gh : PySem.W.findIn K (.ref C) "__getattr__" = some none
  cl : PySem.W.findIn K (.ref C) "__class__" = some (some (.builtin "object.__class__"))
  cn : PySem.W.specialIn K (.builtin "object.__class__") "__get__" = some (some (.builtin "getset_descriptor.__get__"))
  ck : PySem.W.takesIn K (.builtin "object.__class__") = some true
  ob : PySem.W.mroIn K C (.type "object") = some true
  be : PySem.W.mroIn K C (.type "BaseException") = some true
theorem XCls.cs {K : PySem.W.Frag} {C : Addr} (c : XCls K C) : ∃ cd, PySem.W.clsIn K C = some cd := by
  obtain ⟨cd, a, _⟩ := Option.bind_eq_some_iff.mp c.ob
  exact ⟨cd, a⟩
theorem canon_bexc : Manifest.canonical "BaseException.__getattribute__" = "object.__getattribute__" := by decide +kernel
section
variable {prog : Program} {w : World} {A : Around} {E : Value → Shared → Prop} {s : Shared} {K : PySem.W.Frag} {x C : Addr} {ox : Obj}
theorem exc_meth {f : Addr} {name : Str} {pl : Sem Bool} {Q : Value × List Value → Shared → Prop} (X : K.In s.heap) (I : PySem.W.InstAt s.heap x ox C none) (c : XCls K C) (hf : PySem.W.findIn K (.ref C) name = some (some (.ref f))) (ht : PySem.W.typeIn K (.ref f) = some (.type "function"))
    (h : Q (.ref f, [.ref x]) s) : wpAny (model prog w) A (getMethod (.ref x) name pl) Q E s := by
  unfold getMethod specialOf
  refine wpAny_bind (wpAny_bind (I.type.here ((PySem.W.looks_findIn X c.ga).here ?_)))
  dsimp only
  rw [canon_bexc, if_neg (by decide)]
  refine wpAny_bind (wpAny_bind (I.type.here ((PySem.W.looks_findIn X c.gh).here ?_)))
  refine wpAny_bind (wpAny_bind (I.type.here ((PySem.W.looks_findIn X hf).here (wpAny_bind ((PySem.W.looks_typeIn X ht).here ?_)))))
  rw [if_neg (by decide +kernel)]
  refine wpAny_bind (wpAny_loadPart I.at_ ?_)
  have hd := I.dict
  cases e : ox.dict with
  | none => exact wpAny_bind (wpAny_rule (wpAny_pure h))
  | some dx => rw [e] at hd; exact hd.elim
theorem exc_check {nameV : Value} {Q : Unit → Shared → Prop} (X : K.In s.heap) (I : PySem.W.InstAt s.heap x ox C none) (c : XCls K C) (h : Q () s) : wpAny (model prog w) A (checkBuiltinCall "BaseException.__getattribute__" ⟨[.ref x, nameV], []⟩) Q E s := by
  obtain ⟨hh, g, d, t, os⟩ := s
  have hk : builtinKind "BaseException.__getattribute__" = some .slot := by decide +kernel
  have hsplit : splitId "BaseException.__getattribute__" = some ("BaseException", "__getattribute__") := by decide +kernel
  have ha := F.args_bexc_ga (.ref x) nameV
  have L0 := I.type (M := model prog w)
  have L1 := PySem.W.looks_mroIn (M := model prog w) X c.be
  simp only [checkBuiltinCall, hk, hsplit]
  refine wpAny_bind ?_
  unfold isInstance
  refine wpAny_bind (L0.at (L1.at ?_))
  repeat (first | assumption | wp_step)
theorem exc_class {Q : Option Value → Shared → Prop} (X : K.In s.heap) (I : PySem.W.InstAt s.heap x ox C none) (c : XCls K C) (h : Q (some (.ref C)) { s with toks := s.toks + 1 }) : wpAny (model prog w) A (getAttr? (.ref x) "__class__") Q E s := by
  have L0 := I.type (M := model prog w)
  have L1 := PySem.W.looks_findIn (M := model prog w) X c.ga
  have L2' := PySem.W.looks_findIn (M := model prog w) X c.gh
  have hf : PySem.W.findObj K C none "__class__" = some (.bind (.builtin "getset_descriptor.__get__") (.builtin "object.__class__")) := by
    obtain ⟨cd, hc⟩ := c.cs
    unfold PySem.W.findObj
    rw [hc, Option.bind_some, c.cl, Option.bind_some]
    simp [c.cn, c.ck]
  have L3 := PySem.W.looks_find (M := model prog w) X I hf
  obtain ⟨hh, g, d, t, os⟩ := s
  unfold getAttr? getAttrBy? getAttrBy
  refine wpAny_bind (wpAny_mkText (wpAny_bind (wpAny_attempt (wpAny_holding (wpAny_bind (L0.at (wpAny_bind (L1.at ?_))))))))
  dsimp only
  rw [if_neg (show ¬ ((onTheHeap (Value.ref C) && Value.builtin "BaseException.__getattribute__" == Value.builtin "object.__getattribute__") = true) by rw [show (Value.builtin "BaseException.__getattribute__" == Value.builtin "object.__getattribute__") = false by decide +kernel, Bool.and_false]; decide)]
  unfold getAttrByItsOwn hookBefore
  rw [if_pos (show onTheHeap (Value.ref C) = true from rfl)]
  refine wpAny_bind (L2'.at (wpAny_bind (wpAny_attempt (wpAny_holding ?_))))
  unfold callGetattribute boundAndCalled
  rw [if_neg (show ¬ ((false && onTheHeap (Value.builtin "BaseException.__getattribute__")) = true) by decide), F.excAttr_ValueError.ga.bind]
  refine wpAny_bind (wpAny_pure (wpAny_call (codeAny_call_builtin F.excAttr_ValueError.ga.plain F.entry_bexc_ga (exc_check (s := ⟨hh, g, d, t + 1, os⟩) X I c ?_))))
  have fin : ∀ (A' : Around) (R : Result → Shared → Prop), R (.ok (.ret (.ref C))) ⟨hh, g, d, t + 1, os⟩ → codeAny (model prog w) A' (.call (.builtin "getset_descriptor.__get__") ⟨[.builtin "object.__class__", .ref x, .ref C], []⟩) R ⟨hh, g, d, t + 1, os⟩ := fun A' R q => PySem.W.class_get (s := ⟨hh, g, d, t + 1, os⟩) X I c.ob q
  unfold Builtin.«object.__getattribute__» slotArgs
  refine wpAny_bind (wpAny_pure ?_)
  refine wpAny_bind (wpAny_pure ?_)
  refine wpAny_bind (L0.at (wpAny_bind (L3.at ?_)))
  unfold Builtin.ObjectAttr.bindTo
  refine wpAny_bind (wpAny_holding (wpAny_call (fin _ _ ?_)))
  refine wpAny_pure ?_
  exact PySem.W.handed_on rfl (wpAny_pure h)
/-- an exception, asked for its class -/
theorem kitx_exc (c : XCls K C) : PySem.W.KitX K (.ref x) (.ref C) (fun h => PySem.W.InstAt h x ox C none) where
  ty := fun _ _ _ I => I.type
  it := fun _ _ X _ => by
    obtain ⟨cd, hc⟩ := c.cs
    unfold PySem.W.clsIn at hc
    split at hc
    · rename_i c' d' cd' sl' ho
      intro A' Q' E' s' k q
      unfold isType loadHead
      exact wpAny_bind (wpAny_loadPart (k _ _ (X _ _ ho)) (wpAny_pure q))
    · cases hc
  ne := fun h tp dd its n sl X htp => by
    obtain ⟨cd, hc⟩ := c.cs
    refine Bool.eq_false_iff.mpr fun q => ?_
    have e : C = tp := Value.ref.inj (beq_iff_eq.mp q)
    subst e
    unfold PySem.W.clsIn at hc
    split at hc
    · rename_i c' d' cd' sl' ho
      have z := (X _ _ ho).symm.trans htp
      cases z
    · cases hc
  ca := fun X I k => exc_class X I c k
end
/-- an exception of the class at C, tracked -/
def XOk (a C : Addr) (h : Heap) : Prop := ∃ ob, h.get? a = some ob ∧ ob.cls = .ref C ∧ ob.dict = none ∧ PySem.W.notCls ob = true
def XO (a C : Addr) : HO := .ext (XOk a C)
theorem XOk.obj {P : Program} {w : World} {H : Hp} {h : Heap} {a C : Addr} (x : XOk a C h) : ObjOk P w H h a (XO a C) := by
  obtain ⟨ob, e, r⟩ := x
  refine ⟨⟨ob, e, r⟩, ⟨ob, e⟩, fun h1 h2 y k => ?_⟩
  obtain ⟨o, e1, r1⟩ := y
  exact ⟨o, k o e1, r1⟩
theorem XOk.inst {h : Heap} {a C : Addr} (x : XOk a C h) : ∃ ox, PySem.W.InstAt h a ox C none := by
  obtain ⟨ob, e, c, d, n⟩ := x
  exact ⟨ob, e, c, n, by rw [d]; trivial⟩
theorem xo_get {P : Program} {w : World} {H : Hp} {h : Heap} {a C : Addr} (ok : HOk P w H h) (e : H a = some (XO a C)) : XOk a C h := (ok a _ e).1
section
variable {X : Cx} {pins : List (Addr × Obj)} {σ : St} {H : Hp} {s : Shared}
/-- isinstance(e, T), e an exception -/
theorem call_isinstX : CallR X (.builtin "isinstance") (fun xs H Q => ∃ a C cv c b, xs = [.ref a, cv] ∧ RelV cv c ∧ (∀ u, RelV cv u → u = c) ∧ H a = some (XO a C) ∧ XCls X.K C ∧ PySem.W.kitOne X.K (.ref C) c = some b ∧ Q (.bl b) H) := by
  intro pins s σ H xs us Q I r h
  obtain ⟨a, C, cv, c, b, rfl, _, hu, e, cl, k, q⟩ := h
  obtain ⟨u, w', rfl, rx, rt⟩ := vals2 r
  cases (show u = Value.ref a from rx)
  cases hu _ rt
  obtain ⟨ox, J⟩ := (xo_get I.hok e).inst
  exact PySem.W.kia_one (kitx_exc cl) I.kIn J k (fun z => nomatch z) fun tk => ⟨.bl b, H, I.tok _, rfl, q⟩
end
/-! ### C(..), a new exception -/
section
variable {P : Program} {w : World} {H : Hp} {h h' : Heap} {a : Addr} {o : HO} {fs ex : List Addr}
theorem Un.laidN (k : ∀ b u, h.get? b = some u → h'.get? b = some u) (hp : h.get? a = none) (hn : H a = none) : Un fs ex H (upd H a o) h h' where
  keep := fun b u q _ _ _ => k b u q
  slot := fun b u q _ _ _ => ⟨u.slots, k b u q⟩
  free := fun b u q n _ => by
    rw [upd_ne (fun z => by rw [z, hp] at q; cases q)]
    exact n
  there := fun b u q _ => ⟨u, k b u q⟩
  tups := fun b xs q => by rw [upd_ne (ne_of_none q hn)]; exact q
  frzs := fun b u xs q => by rw [upd_ne (ne_of_none q hn)]; exact q
  tbls := fun b ps q => ⟨#[], by rw [upd_ne (ne_of_none q hn), q]; simp⟩
theorem HOk.laidN (x : HOk P w H h) (k : ∀ b u, h.get? b = some u → h'.get? b = some u) (hn : H a = none) (new : ObjOk P w (upd H a o) h' a o) : HOk P w (upd H a o) h' := fun b u e => by
  by_cases hb : b = a
  · subst hb; rw [upd_same] at e; cases e; exact new
  · rw [upd_ne hb] at e
    exact (x b u e).stay (fun c v _ q => k c v q) (fun c q => by rw [upd_ne (ne_of_none q hn)]; exact q) fun c xs q => by rw [upd_ne (ne_of_none q hn)]; exact q
end
section
variable {X : Cx} {pins : List (Addr × Obj)} {σ : St} {H : Hp} {s : Shared} {C : Addr} {x : Str} {p pos : Pos} {e : Expr} {es : List Expr} {t : TA}
def tMakeX (C : Addr) (t : TA) : TE := fun σ H Q => t σ H fun vs H1 => vs.length ≤ sizeLine ∧ ∀ a, H1 a = none → Q (.ref a) (upd H1 a (XO a C))
theorem pe_makeX (hg : Gl X x) (hm : X.mg x = some (.ref C)) (hk : PySem.W.keepIn X.K (.ref C) = true) (hx : PySem.W.excIn X.K C vErr "ValueError.__new__" = true) (ha : PA X (e :: es) t)
    (hdb : (x == ("__debug__" : Str)) = false := by decide) (he : starEach (e :: es) X.env = (false, eval e X.env) :: starEach es X.env := by rfl) (hpl : (backTo pos (starEach es X.env)).any (·.1) = false := by rfl) :
    PE X (.Call (.Name x p) (e :: es) [] pos) (tMakeX C t) := by
  intro pins s σ H Q I h
  refine wpAny_Call_Name_kw (ld_glob I hg hm ?_ hdb)
  refine PySem.W.callWith_K (h₀ := X.base) I.ok.mod.kin hk (thn (ha pos pins s σ H _ I h) fun us s1 ⟨vs, H1, I1, r, hl, q⟩ => ⟨I1.kIn, ?_⟩) he hpl
  obtain ⟨bm, N, nm, qn, bs, hdct, sn, sub, ab, col, dd, k0, k1, k2, k3, k5, mN, hC, hN, hni, T⟩ := exc_obj I1.kIn hx
  obtain ⟨hh, g, d, tk, os⟩ := s1
  refine wpAny_call_exc_subT (C := C) (nm := nm) (q := qn) (N := N) (bs := bs) (bm := bm) (hdct := hdct) (sn := sn) (sub := sub) (ab := ab) (col := col) (dd := dd) (k0 := k0) (k1 := k1) (k2 := k2) (k3 := k3) (k5 := k5) F.excBase_ValueError T hC hN hni (fun h' a hm => ?_) (by rw [List.nil_append, ← r.length]; exact hl)
  have hn : H1 a = none := by
    cases z : H1 a with
    | none => rfl
    | some u =>
      obtain ⟨ob, e1⟩ := I1.hok.has (b := a) (by rw [z]; simp)
      rw [hm.new] at e1
      cases e1
  obtain ⟨t1, e1, _⟩ := hm.there
  exact ⟨.ref a, upd H1 a (XO a C), I1.un (t' := tk) (Un.laidN hm.keeps hm.new hn) (I1.hok.laidN hm.keeps hn (XOk.obj ⟨_, e1, rfl, rfl, rfl⟩)), rfl, q a hn⟩
end
/-! ### e.m(), a method of an exception -/
section
variable {X : Cx} {CX : CXT} {k : Nat} {f C : Addr} {fd : FuncData} {ps : List Str} {sp : Sp} {E : XK} {m : Str} {pos apos : Pos} {o : Expr} {ta : TE}
def tMethX (C : Addr) (sp : Sp) (E : XK) (ta : TE) : TE := fun σ H Q => ta σ H fun x H1 => ∃ a, x = .ref a ∧ H1 a = some (XO a C) ∧ sp [.ref a] H1 Q E
theorem pe_methX {pl : Sem Bool} (he : PE X o ta) (c : XCls X.K C) (hm : Meth X.K C m f) (F : FnOk X.prog X.w X.K X.mg X.base CX k f fd ps sp) (hr : Room k X.A) (hb : Binds X.K fd ps []) (hx : Passes CX X E)
    (ht : eval (.Call (.Attribute o m apos) [] [] pos) X.env = (do
      let ov ← eval o X.env
      standAt apos.atName
      let (f, first) ← holding [ov] (getMethod ov m pl)
      callWith pos f first (backTo pos (starEach [] X.env)) (backToKw pos (keywordEach [] X.env))) := by rfl) :
    PE X (.Call (.Attribute o m apos) [] [] pos) (tMethX C sp E ta) := by
  intro pins s σ H Q I h
  refine PySem.W.methodCall_KW (pl := pl) (thn (he pins s σ H _ I h) fun u s1 ⟨x, H1, I1, rx, a, ex, ea, q⟩ => ?_) ht
  subst ex
  obtain rfl : u = Value.ref a := rx
  obtain ⟨ox, J⟩ := (xo_get I1.hok ea).inst
  refine exc_meth I1.kIn J c hm.at_ (beq_iff_eq.mp hm.fn) ?_
  exact PySem.W.callWith_K0 (first := [.ref a]) I1.kIn hm.kp (run_fn (us := [.ref a]) (vs := [.ref a]) (dvs := []) (ds := []) F hr hb .nil hx I1 (.cons rfl .nil) q)
end
/-! ### except C as n -/
section
variable {X : Cx} {pins : List (Addr × Obj)} {σ : St} {H : Hp} {s : Shared}
/-- the caught exception, tracked from here on -/
theorem Inv.adopt {B : Heap} {ea C : Addr} {fl : Value} (I : Inv X pins σ H s) (f : FlD B X.stack ea (.ref C) fl s.heap) (cov : Tcov X pins H B s.heap) : H ea = none ∧ Inv X pins σ (upd H ea (XO ea C)) s := by
  obtain ⟨hB, hn, hl, oe, vs, T, oT, ts, he, hc, hdc, hd, _⟩ := f
  have nf : ea ∉ frs X.stack := fun z => by
    obtain ⟨_, o, ho, q⟩ := hl.mem z
    rw [he] at ho
    cases ho
    exact q vs hd
  have nb : ∀ o, B.get? ea ≠ some o := fun o z => by rw [hn] at z; cases z
  have hz : H ea = none := by
    cases z : H ea with
    | none => rfl
    | some u => exact absurd (cov ea oe (.inl (by rw [z]; simp)) nf he) (nb oe)
  have ne : ∀ {b : Addr} {o : HO}, H b = some o → b ≠ ea := fun {b o} z => ne_of_none z hz
  refine ⟨hz, I.ok, I.os, I.bare, ⟨I.base.keep, I.base.slot, fun b o e n hx => ?_, I.base.there, fun b xs e => ?_, fun b o u e => ?_, fun b ps e => ?_⟩, I.loc, I.cell, ?_, fun x c e => ?_, fun p hp => ?_, fun b u e => ?_, I.len⟩
  · rw [upd_ne]
    · exact I.base.free b o e n hx
    · rintro rfl
      exact nb oe (cov _ oe (.inr (.inl ⟨hx, o, e⟩)) nf he)
  · have z := I.base.tups b xs e
    rw [upd_ne (ne z)]
    exact z
  · have z := I.base.frzs b o u e
    rw [upd_ne (ne z)]
    exact z
  · obtain ⟨more, z⟩ := I.base.tbls b ps e
    exact ⟨more, by rw [upd_ne (ne z)]; exact z⟩
  · rw [upd_ne]
    · exact I.free
    · intro z
      obtain ⟨m, ⟨o, es, ep, ho, hdd, _⟩, _⟩ := I.loc
      rw [z, he] at ho
      cases ho
      rw [hd] at hdd
      cases hdd
  · rw [upd_ne]
    · exact I.freeC x c e
    · intro z
      obtain ⟨v, o, ho, hdd⟩ := I.cell x c e
      rw [z, he] at ho
      cases ho
      rw [hd] at hdd
      cases hdd
  · obtain ⟨e1, e2, e3, e4, e5⟩ := I.pin p hp
    refine ⟨e1, ?_, e3, e4, e5⟩
    rw [upd_ne]
    · exact e2
    · intro z
      have e6 : s.heap.get? ea = some p.2 := by rw [← z]; exact e1
      rw [he] at e6
      cases e6
      exact nb _ (cov ea _ (.inr (.inr ⟨p, hp, z⟩)) nf he)
  · by_cases hb : b = ea
    · subst hb
      rw [upd_same] at e
      cases e
      refine XOk.obj ⟨oe, he, hc, hdc, ?_⟩
      unfold PySem.W.notCls
      rw [hd]
    · rw [upd_ne hb] at e
      exact (I.hok b u e).stay (fun _ _ _ q => q) (fun c q => by rw [upd_ne (ne q)]; exact q) fun c xs q => by rw [upd_ne (ne q)]; exact q
/-- a local name is unbound -/
theorem unbind_ok {M : Model} {A : Around} {E : Value → Shared → Prop} {i : Nat} {x : Str} {v : V} {Q : Unit → Shared → Prop} (I : Inv X pins σ H s) (hN : X.N.Nodup) (hi : X.N[i]? = some x) (hk : X.env.scope.names.lookup x = some .local) (hv : σ[i]? = some (some v))
    (h : ∀ s', Inv X pins (σ.set i none) H s' → Q () s') : wpAny M A (unbindName X.env x) Q E s := by
  obtain ⟨m, hn, hl⟩ := id I.loc
  have hcls : (X.env.scope.kind == .class || (X.env.scope.kind == .module && X.env.locals != X.env.globals)) = false := by rw [I.ok.kind]; rfl
  have hkd : X.env.kindOf x = some .local := hk
  have hmx : (m x).isSome = true := by
    obtain ⟨u, _, q⟩ := hl i x v hi hv (.inl hk)
    rcases q with ⟨_, e⟩ | ⟨k, _⟩
    · rw [e]; rfl
    · rw [hkd] at k
      rcases k with k | k <;> cases k
  unfold unbindName
  refine wpAny_bind (wpAny_point (wpAny_bind ?_))
  unfold deleteName
  simp only [hkd, hcls]
  rw [if_neg (by decide)]
  refine wpAny_bind (wpAny_nsDel_keeps hn fun h' v' hn' hs => ?_)
  rw [hmx]
  simp only [Bool.not_true, Bool.false_eq_true, if_false]
  refine wpAny_pure (wpAny_point (h _ ?_))
  obtain ⟨oL, _, _, hoL, _⟩ := id hn
  have cne := I.cne
  have below : ∀ b o, X.s₀.heap.get? b = some o → b ≠ X.env.locals := fun b o e => Nat.ne_of_lt (Nat.lt_of_lt_of_le (Heap.lt_size e) I.ok.above)
  refine ⟨I.ok, I.os, I.bare, ⟨fun b o e n hb hx => (hs.2 b (below b o e)).trans (I.base.keep b o e n hb hx), fun b o e n hb hx => ?_, I.base.free, fun b o e hx => ?_, I.base.tups, I.base.frzs, I.base.tbls⟩, ⟨_, hn', fun j y v2 e1 e2 e3 => ?_⟩, fun y c e => ?_, I.free, I.freeC, fun p hp => ?_, fun b ob e => ?_, by simpa using I.len⟩
  · obtain ⟨sl, e1⟩ := I.base.slot b o e n hb hx
    exact ⟨sl, (hs.2 b (below b o e)).trans e1⟩
  · obtain ⟨o', e1⟩ := I.base.there b o e hx
    exact ⟨o', (hs.2 b (below b o e)).trans e1⟩
  · by_cases hj : j = i
    · subst hj
      have hlt : j < σ.length := (List.getElem?_eq_some_iff.mp hv).1
      rw [List.getElem?_set_self hlt] at e2
      cases e2
    · rw [List.getElem?_set_ne (Ne.symm hj)] at e2
      obtain ⟨u', r', q⟩ := hl j y v2 e1 e2 e3
      refine ⟨u', r', ?_⟩
      rcases q with ⟨k, e⟩ | ⟨k, c, e, z⟩
      · refine .inl ⟨k, ?_⟩
        have hne : y ≠ x := fun e => hj (nodup_ix hN e1 (e ▸ hi))
        simp [hne, e]
      · exact .inr ⟨k, c, e, z.sameBut hs (cne y c e)⟩
  · obtain ⟨w', z⟩ := I.cell y c e
    exact ⟨w', z.sameBut hs (cne y c e)⟩
  · obtain ⟨e, n, ne, nf, d⟩ := I.pin p hp
    exact ⟨(hs.2 p.1 ne).trans e, n, ne, nf, d⟩
  · refine (I.hok b ob e).stay (fun c w' hc q => (hs.2 c ?_).trans q) (fun _ q => q) fun _ _ q => q
    rintro rfl
    rcases hc with rfl | hc
    · rw [I.free] at e; cases e
    · rw [I.free] at hc; cases hc
def dropE (i : Nat) (D : Ends) : Ends := { nx := fun σ H => D.nx (σ.set i none) H, rt := D.rt, bk := fun σ H => D.bk (σ.set i none) H, ct := fun σ H => D.ct (σ.set i none) H }
def thAs (K : PySem.W.Frag) (Ci : Addr) (i : Nat) (t : TS) (th : TH) : TH := fun C D σ H =>
  (PySem.W.exmOne K (.ref C) (.ref Ci) = some true ∧ ∀ ea, H ea = none → t (dropE i D) (σ.set i (some (.ref ea))) (upd H ea (XO ea C))) ∨ (PySem.W.exmOne K (.ref C) (.ref Ci) = some false ∧ th C D σ H)
theorem goes_ok {M : Model} {A : Around} {E : Value → Shared → Prop} {i : Nat} {x : Str} {pos : Pos} {Q : Unit → Shared → Prop} (I : Inv X pins σ H s) (hN : X.N.Nodup) (hi : X.N[i]? = some x) (hk : X.env.scope.names.lookup x = some .local)
    (h : ∀ s', Inv X pins (σ.set i none) H s' → Q () s') : wpAny M A (do bindName X.env x .none; unbindBehindTheSuite X.env x pos) Q E s := by
  have hlt : i < σ.length := by
    rw [I.len]
    exact (List.getElem?_eq_some_iff.mp hi).1
  refine wpAny_bind (wpAny_bindName (store_ok (v := .non) I hN hi (.inl hk) rfl (fun s1 I1 => ?_) (.inr hk)))
  unfold unbindBehindTheSuite
  refine wpAny_onRaise (unbind_ok (v := .non) I1 hN hi hk (List.getElem?_set_self hlt) fun s2 I2 => h s2 ?_)
  rw [List.set_set] at I2
  exact I2
theorem phs_as {x n : Str} {Ci : Addr} {np pos : Pos} {b₀ : Stmt} {suite : List Stmt} {rest : List ExceptHandler} {t : TS} {th : TH} (i : Nat) (hg : Gl X x) (hm : X.mg x = some (.ref Ci)) (hN : X.N.Nodup) (hi : X.N[i]? = some n) (hk : X.env.scope.names.lookup n = some .local)
    (hsu : ∀ ea, PSs (X.hdl ea) (b₀ :: suite) t) (hr : PHs X rest th) (hd : (x == ("__debug__" : Str)) = false := by decide) : PHs X (.ExceptHandler (some (.Name x np)) (some n) (b₀ :: suite) pos :: rest) (thAs X.K Ci i t th) := by
  intro pins s σ H D ea C B I fl cov h
  refine wpAny_handleBy_cons (codeAny_handlers_test ?_) (by intro q; cases q)
  refine ld_glob (X := X.hdl ea) (I.hdl ea) hg hm ?_ hd
  obtain ⟨ob, hob, hc⟩ := fl.there
  have LT : PySem.W.Looks (model X.prog X.w) s.heap (typeOf (.ref ea)) (.ref C) := by
    rw [← hc]
    exact (PySem.W.Looks.ld hob).andThen .now
  rcases h with ⟨hx, q⟩ | ⟨hx, q⟩
  · refine (PySem.W.exm_one I.kIn LT hx).here ?_
    refine codeAny_handlers_suite_as (fl_lands fl fun h6 fl6 sm6 => ?_)
    have I6 := I.landed fl6.1 cov sm6
    obtain ⟨hz, J⟩ := I6.adopt fl6 (Tcov.land I fl6.1 cov)
    refine store_ok (X := X.hdl ea) (v := .ref ea) (J.hdl ea) hN hi (.inl hk) rfl (fun s2 I2 => ?_) (.inr hk)
    refine wpAny_mono (hsu ea pins _ _ _ (dropE i D) I2 (q ea hz)) (fun f s3 z => ?_) (fun _ _ z => False.elim z)
    show wpAny _ X.A (do bindName X.env n .none; unbindBehindTheSuite X.env n pos) (fun _ s₃ => SP X pins D f s₃) X.xe s3
    cases f with
    | next => obtain ⟨σ', H', I3, q3⟩ := z; exact goes_ok (I3.unhdl I.ok) hN hi hk fun s4 I4 => ⟨_, _, I4, q3⟩
    | brk => obtain ⟨σ', H', I3, q3⟩ := z; exact goes_ok (I3.unhdl I.ok) hN hi hk fun s4 I4 => ⟨_, _, I4, q3⟩
    | cont => obtain ⟨σ', H', I3, q3⟩ := z; exact goes_ok (I3.unhdl I.ok) hN hi hk fun s4 I4 => ⟨_, _, I4, q3⟩
    | ret u => obtain ⟨v, σ', H', I3, r3, q3⟩ := z; exact goes_ok (I3.unhdl I.ok) hN hi hk fun s4 I4 => ⟨v, _, _, I4, r3, q3⟩
  · refine (PySem.W.exm_one I.kIn LT hx).here ?_
    exact hr pins s σ H D ea C B I fl cov q
end
end L2
set_option Elab.async false
set_option linter.all false
set_option maxRecDepth 100000
set_option maxHeartbeats 4000000
namespace My
open PySem L2
def top (i : Nat) : Stmt := PySem.Challenge.pw_momentloom_k06_faults_sorted.main.body.getD i (.Pass ⟨0, 0, 0, 0⟩)
abbrev s_Fault_word : Stmt := inClass (top 2) 0
abbrev s_Nought_word : Stmt := inClass (top 3) 0
abbrev s_Great_word : Stmt := inClass (top 4) 0
abbrev s_Full_word : Stmt := inClass (top 5) 0
abbrev s_Dry_word : Stmt := inClass (top 6) 0
abbrev s_Span_word : Stmt := inClass (top 7) 0
abbrev s_Late_word : Stmt := inClass (top 8) 0
abbrev s_worth_of : Stmt := top 12
abbrev s_number_of_leaf : Stmt := top 13
abbrev s_number_of_two : Stmt := top 14
abbrev s_number_of_division : Stmt := top 15
abbrev s_copied : Stmt := top 17
abbrev s_Model_init : Stmt := inClass (top 18) 0
abbrev s_State_init : Stmt := inClass (top 19) 0
abbrev s_State_copy : Stmt := inClass (top 19) 1
abbrev s_first_state : Stmt := top 20
abbrev s_law_mixed : Stmt := top 22
abbrev s_law_purse : Stmt := top 23
abbrev s_law_draw : Stmt := top 24
abbrev s_law_sorts : Stmt := top 25
abbrev s_law_right : Stmt := top 26
abbrev s_law_caught : Stmt := top 27
abbrev s_law_plain : Stmt := top 28
abbrev s_law : Stmt := top 29
end My
namespace My
open PySem L2
/-- a def of the text, as it stands behind the top -/
structure Df (K : PySem.W.Frag) (mg : Str → Option Value) (x : Str) (st : Stmt) (ps : List Str) (f : Addr) (fd : FuncData) : Prop where
  F : Fun K x x st f fd
  b : Binds K fd ps []
  m : mg x = some (.ref f)
/-- the built-in names are as they were -/
structure Bl (mg : Str → Option Value) : Prop where
  len : mg "len" = none
  abs : mg "abs" = none
  isi : mg "isinstance" = none
  list : mg "list" = none
  tuple : mg "tuple" = none
  str : mg "str" = none
  int : mg "int" = none
  bool : mg "bool" = none
  range : mg "range" = none
  max : mg "max" = none
  dict : mg "dict" = none
theorem boot_abs : bootBuiltins "abs" = some (.builtin "abs") := by decide +kernel
theorem boot_isi : bootBuiltins "isinstance" = some (.builtin "isinstance") := by decide +kernel
theorem boot_list : bootBuiltins "list" = some (.type "list") := by decide +kernel
theorem boot_tuple : bootBuiltins "tuple" = some (.type "tuple") := by decide +kernel
theorem boot_str : bootBuiltins "str" = some (.type "str") := by decide +kernel
theorem boot_int : bootBuiltins "int" = some (.type "int") := by decide +kernel
theorem boot_bool : bootBuiltins "bool" = some (.type "bool") := by decide +kernel
theorem boot_max : bootBuiltins "max" = some (.builtin "max") := by decide +kernel
theorem boot_dict : bootBuiltins "dict" = some (.type "dict") := by decide +kernel
/-- what stood elsewhere stands -/
def But (p : Addr) (H H' : Hp) : Prop := ∀ b o, H b = some o → b ≠ p → H' b = some o
theorem But.refl (p : Addr) (H : Hp) : But p H H := fun _ _ e _ => e
theorem But.trans {p : Addr} {H H1 H2 : Hp} (a : But p H H1) (b : But p H1 H2) : But p H H2 := fun c o e n => b c o (a c o e n) n
theorem But.upd (p : Addr) (H : Hp) (o : HO) : But p H (upd H p o) := fun b u e n => by rw [upd_ne n]; exact e
theorem But.same {p : Addr} {H H1 H2 : Hp} (a : But p H H1) (b : Same H1 H2) : But p H H2 := fun c o e n => b c o (a c o e n)
theorem same_new {H : Hp} {p : Addr} (h : H p = none) (o : HO) : Same H (upd H p o) := fun b u q => by rw [upd_ne (ne_of_none q h)]; exact q
theorem dec_t {c : Prop} [Decidable c] (h : decide c = true) : c := of_decide_eq_true h
theorem dec_f {c : Prop} [Decidable c] (h : ¬ decide c = true) : ¬ c := fun z => h (decide_eq_true z)
theorem lt2 : 2 ≤ sizeLine := by decide
theorem lt5 : 5 ≤ sizeLine := by decide
theorem lt7 : 7 ≤ sizeLine := by decide
end My
namespace My
open PySem L2
section
variable {P : Program} {w : World} {K : PySem.W.Frag} {mg : Str → Option Value} {base : Heap} {f fM fD : Addr} {fd fdM fdD : FuncData}
/-! ### _law_mixed -/
def spMixed : Sp := fun vs H Q _ => ∃ c k : Int, vs = [.int c, .int k] ∧ Builtin.Int.intBits c ≤ 1048576 ∧ ∀ r : Int, Q (.int r) H
theorem small_mod (x : Int) : -(2 ^ 64) < x % 2147483629 ∧ x % 2147483629 < 2 ^ 64 := by
  have h1 := Int.emod_nonneg x (show (2147483629 : Int) ≠ 0 by decide)
  have h2 := Int.emod_lt_of_pos x (show (0 : Int) < 2147483629 by decide)
  omega
theorem scM : FnScope ["_law_cell", "_law_k", "_law_number"] ["_law_cell", "_law_k"] (defScope s_law_mixed) := ⟨rfl, rfl, rfl, by decide +kernel, rfl, by decide +kernel, by decide +kernel⟩
theorem ok_mixed (D : Df K mg "_law_mixed" s_law_mixed ["_law_cell", "_law_k"] f fd) : FnOk P w K mg base CX0 1 f fd ["_law_cell", "_law_k"] spMixed := by
  refine D.F.ok scM (fun vs H Q E h => ?_) (fun cdv A outer s H vs Q E hr h => ?_)
  · obtain ⟨c, k, rfl, _⟩ := h
    rfl
  obtain ⟨c, k, rfl, hc, q⟩ := h
  refine ⟨_, pss_cons (ps_set (i := 2) scM.nd rfl (Or.inl rfl) (pe_op op_mod (pe_op op_mul (pe_op op_add (pe_op op_add (pe_op op_add (pe_op op_mulB (pv 0) (pv 0)) (pe_op op_mul pe_int (pv 0))) (pe_op op_mul pe_int (pv 1))) pe_int) pe_int) pe_int))
    (pss_one (ps_ret (pe_op op_mod (pe_op op_add (pe_op op_mul (pv 2) (pv 2)) pe_int) pe_int))), ?_⟩
  refine ⟨_, rfl, _, rfl, _, _, rfl, rfl, .of_bits hc hc, _, rfl, _, _, rfl, rfl, .inl ⟨by decide, by decide⟩, _, _, rfl, rfl, _, rfl, _, _, rfl, rfl, .inl ⟨by decide, by decide⟩, _, _, rfl, rfl, _, _, rfl, rfl, _, _, rfl, rfl, .inr ⟨by decide, by decide⟩, _, _, rfl, rfl, (by show (0 : Int) < 2147483629; decide), ?_⟩
  refine ⟨_, rfl, _, rfl, _, _, rfl, rfl, .inl (small_mod _), _, _, rfl, rfl, _, _, rfl, rfl, (by show (0 : Int) < 2147483587; decide), ?_⟩
  exact q _
/-! ### _law_draw -/
/-- a purse: a list of two ints -/
def Purse (H : Hp) (p : Addr) : Prop := ∃ x y : Int, H p = some (.lst [.int x, .int y])
theorem Purse.same {H H' : Hp} {p : Addr} (a : Purse H p) (b : Same H H') : Purse H' p := by
  obtain ⟨x, y, e⟩ := a
  exact ⟨x, y, b _ _ e⟩
theorem Purse.upd {H : Hp} {p b : Addr} {o : HO} (a : Purse H p) (h : H b = none) : Purse (upd H b o) p := a.same (same_new h o)
def spDraw : Sp := fun vs H Q _ => ∃ (p : Addr) (n : Int), vs = [.ref p, .int n] ∧ Purse H p ∧ 0 < n ∧ n < 2 ^ 64 ∧ ∀ (r : Int) (H' : Hp), 0 ≤ r → r < n → Purse H' p → But p H H' → Q (.int r) H'
theorem scD : FnScope ["_law_purse_here", "_law_out_of", "_law_drawn"] ["_law_purse_here", "_law_out_of"] (defScope s_law_draw) := ⟨rfl, rfl, rfl, by decide +kernel, rfl, by decide +kernel, by decide +kernel⟩
theorem ok_draw (D : Df K mg "_law_draw" s_law_draw ["_law_purse_here", "_law_out_of"] f fd) : FnOk P w K mg base CX0 1 f fd ["_law_purse_here", "_law_out_of"] spDraw := by
  refine D.F.ok scD (fun vs H Q E h => ?_) (fun cdv A outer s H vs Q E hr h => ?_)
  · obtain ⟨p, n, rfl, _⟩ := h
    rfl
  obtain ⟨p, n, rfl, ⟨x, y, hp⟩, hn, hn2, q⟩ := h
  refine ⟨_, pss_cons (ps_if (pt_cmpR op_eq (pe_ix ix_list (pv 0) pe_int (fun _ _ => rfl)) pe_int (nomark _)) (pss_one (ps_asg (pe_ix ix_list (pv 0) pe_int (fun _ _ => rfl)) (pg_sub (pv 0) pe_int set_list))) pss_nil)
    (pss_cons (ps_set (i := 2) scD.nd rfl (Or.inl rfl) (pe_op op_mod (pe_ix ix_list (pv 0) pe_int (fun _ _ => rfl)) (pv 1)))
    (pss_cons (ps_asg (pe_op op_fdivB (pe_ix ix_list (pv 0) pe_int (fun _ _ => rfl)) (pv 1)) (pg_sub (pv 0) pe_int set_list))
    (pss_one (ps_ret (pv 2))))), ?_⟩
  refine ⟨_, rfl, p, _, _, _, rfl, rfl, SqL.of hp, rfl, rfl, _, rfl, ?_⟩
  refine ite2 (fun c => ?_) (fun c => ?_)
  · refine ⟨_, rfl, p, _, _, _, rfl, rfl, SqL.of hp, rfl, _, rfl, p, _, _, _, rfl, rfl, hp, rfl, ?_⟩
    have hp1 : upd H p (.lst [.int y, .int y]) p = some (.lst [.int y, .int y]) := upd_same
    refine ⟨_, rfl, p, _, _, _, rfl, rfl, SqL.of hp1, rfl, _, rfl, _, _, rfl, rfl, hn, ?_⟩
    refine ⟨_, rfl, p, _, _, _, rfl, rfl, SqL.of hp1, rfl, _, rfl, _, _, rfl, rfl, ⟨hn, hn2⟩, _, rfl, p, _, _, _, rfl, rfl, hp1, rfl, ?_⟩
    refine ⟨_, rfl, ?_⟩
    exact q _ _ (Int.emod_nonneg _ (by omega)) (Int.emod_lt_of_pos _ hn) ⟨_, _, upd_same⟩ ((But.upd p H _).trans (But.upd p _ _))
  · refine ⟨_, rfl, p, _, _, _, rfl, rfl, SqL.of hp, rfl, _, rfl, _, _, rfl, rfl, hn, ?_⟩
    refine ⟨_, rfl, p, _, _, _, rfl, rfl, SqL.of hp, rfl, _, rfl, _, _, rfl, rfl, ⟨hn, hn2⟩, _, rfl, p, _, _, _, rfl, rfl, hp, rfl, ?_⟩
    refine ⟨_, rfl, ?_⟩
    exact q _ _ (Int.emod_nonneg _ (by omega)) (Int.emod_lt_of_pos _ hn) ⟨_, _, upd_same⟩ (But.upd p H _)
/-! ### _law_purse -/
def spPurse (K : PySem.W.Frag) : Sp := fun vs H Q _ => ∃ (a : Addr) (ns : List Int), vs = [.ref a] ∧ SqL K H a (ns.map V.int) ∧ ns.length ≤ 63 ∧ (∀ x ∈ ns, Builtin.Int.intBits x ≤ 1048576) ∧ ∀ (p : Addr) (H' : Hp), H p = none → Purse H' p → Same H H' → Q (.ref p) H'
theorem scP : FnScope ["_law_script", "_law_cells", "_law_number", "_law_k"] ["_law_script"] (defScope s_law_purse) := ⟨rfl, rfl, rfl, by decide +kernel, rfl, by decide +kernel, by decide +kernel⟩
theorem cut_mem {xs : List V} {lo hi : Option Int} {v : V} (h : v ∈ cutV xs lo hi) : v ∈ xs := by
  unfold cutV at h
  exact List.mem_of_mem_drop (List.mem_of_mem_take h)
theorem at_mod {xs : List V} (h : xs ≠ []) (z : Int) : ∃ v, atI xs (z % (xs.length : Int)) = some v ∧ v ∈ xs := by
  have hl : 0 < xs.length := List.length_pos_iff.mpr h
  have h0 := Int.emod_nonneg z (show (xs.length : Int) ≠ 0 by omega)
  have h1 := Int.emod_lt_of_pos z (show (0 : Int) < (xs.length : Int) by omega)
  obtain ⟨j, hj⟩ : ∃ j : Nat, z % (xs.length : Int) = (j : Int) := ⟨(z % (xs.length : Int)).toNat, by omega⟩
  rw [hj] at h1 ⊢
  have hj2 : j < xs.length := by omega
  exact ⟨xs[j], atI_nat (List.getElem?_eq_getElem hj2), List.getElem_mem hj2⟩
theorem ok_purse (D : Df K mg "_law_purse" s_law_purse ["_law_script"] f fd) (DM : Df K mg "_law_mixed" s_law_mixed ["_law_cell", "_law_k"] fM fdM) (B : Bl mg) : FnOk P w K mg base CX0 2 f fd ["_law_script"] (spPurse K) := by
  have GM : FnOk P w K mg base CX0 1 fM fdM ["_law_cell", "_law_k"] spMixed := ok_mixed DM
  refine D.F.ok scP (fun vs H Q E h => ?_) (fun cdv A outer s H vs Q E hr h => ?_)
  · obtain ⟨a, ns, rfl, _⟩ := h
    rfl
  obtain ⟨a, ns, rfl, hS, hlen, hbits, q⟩ := h
  refine ⟨_, pss_cons (ps_set (i := 1) scP.nd rfl (Or.inl rfl) (pe_op op_cat (pe_slice sl_list (pv 0) po_none (po_some pe_int)) (pe_lst (pa_cons pe_int pa_nil))))
    (pss_cons (ps_set (i := 2) scP.nd rfl (Or.inl rfl) pe_int)
    (pss_cons (ps_for PassesOwn.never rfl (pi_range1 rfl B.range (pa_cons pe_int pa_nil)) (pg_name (i := 3) scP.nd rfl (Or.inl rfl))
      (pss_one (ps_set (i := 2) scP.nd rfl (Or.inl rfl) (pe_op op_add (pe_op op_mul (pv 2) pe_int) (pe_call GM hr rfl DM.m DM.F.kp DM.b .nil pass0 (pa_cons (pe_ix ix_list (pv 1) (pe_op op_mod (pv 3) (pe_callB call_len_seq (by rfl) B.len PySem.boot_len (pa_cons (pv 1) pa_nil))) (fun _ _ => rfl)) (pa_cons (pv 3) pa_nil)))))))
    (pss_cons (ps_if (pt_cmpR op_eq (pe_op op_mod (pe_ix ix_list (pv 1) pe_int (fun _ _ => rfl)) pe_int) pe_int (nomark _))
      (pss_one (ps_ret (pe_lst (pa_cons (pe_callB (call_max2 rfl) (by rfl) B.max boot_max (pa_cons (pe_op op_fdivB (pe_ix ix_list (pv 1) pe_int (fun _ _ => rfl)) pe_int) (pa_cons (pe_op op_sub (pe_un un_neg pe_int) (pe_op op_fdivB (pe_ix ix_list (pv 1) pe_int (fun _ _ => rfl)) pe_int)) pa_nil))) (pa_cons (pv 2) pa_nil))))) pss_nil)
    (pss_one (ps_ret (pe_lst (pa_cons (pv 2) (pa_cons (pv 2) pa_nil)))))))), ?_⟩
  -- cells = script[:63] + [0]
  refine ⟨_, rfl, _, rfl, a, _, rfl, hS, fun l hl => ⟨(by show 1 ≤ sizeLine; decide), fun m hm => ?_⟩⟩
  have hlm : l ≠ m := ne_of_none (upd_same : upd H l (.lst (cutV (ns.map V.int) none (some 63))) l = _) hm
  have cl : (cutV (ns.map V.int) none (some 63)).length ≤ 63 := Nat.le_trans (cutV_length _ _ _) (by rw [List.length_map]; exact hlen)
  have l64 : (cutV (ns.map V.int) none (some 63)).length + [V.int 0].length ≤ sizeLine := by
    have z : 64 ≤ sizeLine := by decide
    rw [List.length_singleton]
    omega
  refine ⟨l, m, _, _, rfl, rfl, (by rw [upd_ne hlm]; exact upd_same), upd_same, l64, fun c hc => ?_⟩
  generalize hcs : cutV (ns.map V.int) none (some 63) ++ [V.int 0] = cs at hc ⊢
  have sc : Same H (upd (upd (upd H l (.lst (cutV (ns.map V.int) none (some 63)))) m (.lst [.int 0])) c (.lst cs)) := (same_new hl _).trans ((same_new hm _).trans (same_new hc _))
  generalize hH : upd (upd (upd H l (.lst (cutV (ns.map V.int) none (some 63)))) m (.lst [.int 0])) c (.lst cs) = H1 at sc ⊢
  have hc1 : H1 c = some (.lst cs) := by rw [← hH]; exact upd_same
  have nonil : cs ≠ [] := by rw [← hcs]; simp
  have cells : ∀ v ∈ cs, ∃ z : Int, v = .int z ∧ Builtin.Int.intBits z ≤ 1048576 := fun v hv => by
    rw [← hcs] at hv
    rcases List.mem_append.mp hv with z | z
    · obtain ⟨n, hn, rfl⟩ := List.mem_map.mp (cut_mem z)
      exact ⟨n, rfl, hbits n hn⟩
    · rw [List.mem_singleton.mp z]
      exact ⟨0, rfl, by decide⟩
  -- number = 1; for k in range(150)
  refine ⟨150, rfl, by decide, by decide, for_range (n := 150) (fun i σ H2 => ∃ (z : Int) (v : Option V), σ = [some (.ref a), some (.ref c), some (.int z), v] ∧ H2 = H1) ⟨1, none, rfl, rfl⟩ ?_ ?_⟩
  · rintro i σ H2 hi ⟨z, v, rfl, rfl⟩
    obtain ⟨u, hu, hm2⟩ := at_mod nonil (0 + (i : Int))
    obtain ⟨y, rfl, hy⟩ := cells u hm2
    have lpos : (0 : Int) < (cs.length : Int) := by
      have := List.length_pos_iff.mpr nonil
      omega
    refine ⟨_, rfl, _, _, rfl, rfl, .inr ⟨by decide, by decide⟩, _, rfl, _, rfl, _, rfl, c, _, rfl, .inl (SqL.of hc1), _, _, rfl, rfl, lpos, c, _, _, _, rfl, rfl, SqL.of hc1, hu, _, rfl, y, _, rfl, hy, fun r => ?_⟩
    exact ⟨_, _, rfl, rfl, _, _, rfl, rfl⟩
  · rintro σ H2 ⟨z, v, rfl, rfl⟩
    obtain ⟨x0, hx0⟩ : ∃ x0, cs[0]? = some x0 := by
      cases cs with
      | nil => exact absurd rfl nonil
      | cons x0 r => exact ⟨x0, rfl⟩
    obtain ⟨y, rfl, hy⟩ := cells x0 (List.mem_of_getElem? hx0)
    have a0 : atI cs 0 = some (.int y) := atI_nat (j := 0) hx0
    refine ⟨_, rfl, c, _, _, _, rfl, rfl, SqL.of hc1, a0, _, _, rfl, rfl, (by show (0 : Int) < 2; decide), rfl, _, rfl, ?_⟩
    have two : CDivB y 2 := ⟨by decide, by decide⟩
    refine ite2 (fun _ => ?_) (fun _ => ?_)
    · refine ⟨_, rfl, c, _, _, _, rfl, rfl, SqL.of hc1, a0, _, _, rfl, rfl, two, _, rfl, _, rfl, c, _, _, _, rfl, rfl, SqL.of hc1, a0, _, _, rfl, rfl, two, _, _, rfl, rfl, _, _, rfl, _, rfl, lt2, fun p hp => ?_⟩
      exact q p _ (sc.free hp) ⟨_, _, upd_same⟩ (sc.trans (same_new hp _))
    · refine ⟨_, rfl, _, rfl, lt2, fun p hp => ?_⟩
      exact q p _ (sc.free hp) ⟨_, _, upd_same⟩ (sc.trans (same_new hp _))
end
end My
set_option Elab.async false
set_option linter.all false
set_option maxRecDepth 100000
set_option maxHeartbeats 4000000
namespace My
open PySem L2
/-! ### trees of lists and tuples, and their copies -/
def isSc : V → Prop
  | .int _ => True
  | .str _ => True
  | _ => False
def Tree (H : Hp) : Nat → V → Prop
  | 0, v => isSc v
  | n + 1, v => isSc v ∨ ∃ p xs, v = .ref p ∧ (H p = some (.lst xs) ∨ H p = some (.tup xs)) ∧ xs.length < 1000 ∧ ∀ x ∈ xs, Tree H n x
def Alike (H H' : Hp) : Nat → V → V → Prop
  | 0, v, v' => v' = v
  | n + 1, v, v' => (isSc v ∧ v' = v) ∨ (∃ p p' xs ys, v = .ref p ∧ v' = .ref p' ∧ H p = some (.lst xs) ∧ H' p' = some (.lst ys) ∧ Paired (Alike H H' n) xs ys) ∨
      ∃ p p' xs ys, v = .ref p ∧ v' = .ref p' ∧ H p = some (.tup xs) ∧ H' p' = some (.tup ys) ∧ Paired (Alike H H' n) xs ys
theorem Alike.mono {H H1 H2 : Hp} (s : Same H1 H2) : ∀ {n : Nat} {v v' : V}, Alike H H1 n v v' → Alike H H2 n v v'
  | 0, _, _, h => h
  | n + 1, v, v', h => by
    rcases h with h | ⟨p, p', xs, ys, e1, e2, h1, h2, r⟩ | ⟨p, p', xs, ys, e1, e2, h1, h2, r⟩
    · exact .inl h
    · exact .inr (.inl ⟨p, p', xs, ys, e1, e2, h1, s _ _ h2, L2.Paired.imp' (fun _ _ z => Alike.mono s z) r⟩)
    · exact .inr (.inr ⟨p, p', xs, ys, e1, e2, h1, s _ _ h2, L2.Paired.imp' (fun _ _ z => Alike.mono s z) r⟩)
theorem Tree.same {H H1 : Hp} (s : Same H H1) : ∀ {n : Nat} {v : V}, Tree H n v → Tree H1 n v
  | 0, _, h => h
  | n + 1, v, h => by
    rcases h with h | ⟨p, xs, e, h1, h2, h3⟩
    · exact .inl h
    · exact .inr ⟨p, xs, e, h1.imp (s _ _) (s _ _), h2, fun x hx => Tree.same s (h3 x hx)⟩
theorem Alike.from {H H0 H1 : Hp} (s : Same H H0) : ∀ {n : Nat} {v v' : V}, Tree H n v → Alike H0 H1 n v v' → Alike H H1 n v v'
  | 0, _, _, _, h => h
  | n + 1, v, v', t, h => by
    rcases t with t | ⟨q, zs, e, t1, t2, t3⟩
    · rcases h with h | ⟨p, p', xs, ys, e1, e2, h1, h2, r⟩ | ⟨p, p', xs, ys, e1, e2, h1, h2, r⟩
      · exact .inl h
      · rw [e1] at t
        exact t.elim
      · rw [e1] at t
        exact t.elim
    · rcases h with h | ⟨p, p', xs, ys, e1, e2, h1, h2, r⟩ | ⟨p, p', xs, ys, e1, e2, h1, h2, r⟩
      · exact .inl h
      · rw [e] at e1
        cases e1
        rcases t1 with t1 | t1
        · have z := s _ _ t1
          rw [h1] at z
          cases z
          refine .inr (.inl ⟨q, p', zs, ys, e, e2, t1, h2, ?_⟩)
          clear h1 t1 t2 h2
          induction r with
          | nil => exact .nil
          | cons a b ih => exact .cons (Alike.from s (t3 _ List.mem_cons_self) a) (ih fun x hx => t3 x (List.mem_cons_of_mem _ hx))
        · have z := s _ _ t1
          rw [h1] at z
          cases z
      · rw [e] at e1
        cases e1
        rcases t1 with t1 | t1
        · have z := s _ _ t1
          rw [h1] at z
          cases z
        · have z := s _ _ t1
          rw [h1] at z
          cases z
          refine .inr (.inr ⟨q, p', zs, ys, e, e2, t1, h2, ?_⟩)
          clear h1 t1 t2 h2
          induction r with
          | nil => exact .nil
          | cons a b ih => exact .cons (Alike.from s (t3 _ List.mem_cons_self) a) (ih fun x hx => t3 x (List.mem_cons_of_mem _ hx))
theorem kit_ii {K : PySem.W.Frag} : PySem.W.kitOne K (.type "int") (.type "int") = some true := by rfl
theorem kit_ib {K : PySem.W.Frag} : PySem.W.kitOne K (.type "int") (.type "bool") = some false := by kernel_rfl
theorem kit_is {K : PySem.W.Frag} : PySem.W.kitOne K (.type "int") (.type "str") = some false := by kernel_rfl
theorem kit_ss {K : PySem.W.Frag} : PySem.W.kitOne K (.type "str") (.type "str") = some true := by rfl
theorem kit_il {K : PySem.W.Frag} : PySem.W.kitOne K (.type "int") (.type "list") = some false := by kernel_rfl
theorem kit_sl {K : PySem.W.Frag} : PySem.W.kitOne K (.type "str") (.type "list") = some false := by kernel_rfl
theorem kit_it {K : PySem.W.Frag} : PySem.W.kitOne K (.type "int") (.type "tuple") = some false := by kernel_rfl
theorem kit_st {K : PySem.W.Frag} : PySem.W.kitOne K (.type "str") (.type "tuple") = some false := by kernel_rfl
theorem kit_ll {K : PySem.W.Frag} : PySem.W.kitOne K (.type "list") (.type "list") = some true := by rfl
theorem kit_tl {K : PySem.W.Frag} : PySem.W.kitOne K (.type "tuple") (.type "list") = some false := by kernel_rfl
theorem kit_tt {K : PySem.W.Frag} : PySem.W.kitOne K (.type "tuple") (.type "tuple") = some true := by rfl
section
variable {P : Program} {w : World} {K : PySem.W.Frag} {mg : Str → Option Value} {base : Heap} {f fC fI CM CS : Addr} {fd fdC fdI : FuncData}
/-! ### copied -/
def spCopied (n : Nat) : Sp := fun vs H Q _ => ∃ v, vs = [v] ∧ Tree H n v ∧ ∀ (v' : V) (H' : Hp), Same H H' → Alike H H' n v v' → Q v' H'
theorem scC : FnScope ["thing"] ["thing"] (defScope s_copied) := ⟨rfl, rfl, rfl, by decide +kernel, rfl, by decide +kernel, by decide +kernel⟩
theorem nd_part : (["part", "thing"] : List Str).Nodup := by decide +kernel
theorem pair_snoc {α β : Type} {R : α → β → Prop} {xs : List α} {ys : List β} {i : Nat} {x : α} {y : β} (r : Paired R (xs.take i) ys) (hx : xs[i]? = some x) (h : R x y) : Paired R (xs.take (i + 1)) (ys ++ [y]) := by
  have e : xs.take (i + 1) = xs.take i ++ [x] := by rw [List.take_add_one, hx]; rfl
  rw [e]
  exact Paired.snoc r h
theorem copied_step {n : Nat} (D : Df K mg "copied" s_copied ["thing"] f fd) (B : Bl mg) (G : FnOk P w K mg base CX0 (n + 1) f fd ["thing"] (spCopied n)) : FnOk P w K mg base CX0 (n + 2) f fd ["thing"] (spCopied (n + 1)) := by
  refine D.F.ok scC (fun vs H Q E h => ?_) (fun cdv A outer s H vs Q E hr h => ?_)
  · obtain ⟨v, rfl, _⟩ := h
    rfl
  obtain ⟨v, rfl, ht, q⟩ := h
  refine ⟨_, pss_cons (ps_if (pt_val (pe_callB call_isinst (by rfl) B.isi boot_isi (pa_cons (pv 0) (pa_cons (pe_bltn (v := .ty "list") (by rfl) B.list boot_list rfl) pa_nil))))
      (pss_one (ps_ret (pe_comp ["part"] (CompOk.closed (by decide +kernel) (by decide +kernel) rfl (by decide +kernel) (by intro n hn; rcases List.mem_singleton.mp hn with rfl; decide +kernel)) rfl (pi_list (pv 0)) (fun _ _ _ _ => pg_name (i := 0) nd_part rfl (Or.inl rfl)) (fun _ _ _ _ => pts_nil)
        (fun _ _ _ _ => pe_call G hr rfl D.m D.F.kp D.b .nil pass0 (pa_cons (pv 0) pa_nil))))) pss_nil)
    (pss_cons (ps_if (pt_val (pe_callB call_isinst (by rfl) B.isi boot_isi (pa_cons (pv 0) (pa_cons (pe_bltn (v := .ty "tuple") (by rfl) B.tuple boot_tuple rfl) pa_nil))))
      (pss_one (ps_ret (pe_callTy call_tuple_of (by rfl) B.tuple boot_tuple (pa_cons (pe_comp ["part"] (CompOk.closed (by decide +kernel) (by decide +kernel) rfl (by decide +kernel) (by intro n hn; rcases List.mem_singleton.mp hn with rfl; decide +kernel)) rfl (pi_tup (pv 0)) (fun _ _ _ _ => pg_name (i := 0) nd_part rfl (Or.inl rfl)) (fun _ _ _ _ => pts_nil)
        (fun _ _ _ _ => pe_call G hr rfl D.m D.F.kp D.b .nil pass0 (pa_cons (pv 0) pa_nil))) pa_nil)))) pss_nil)
    (pss_one (ps_ret (pv 0)))), ?_⟩
  have big : 1000 < sizeLine := by decide
  rcases ht with ht | ⟨p, xs, rfl, hp, hl, hx⟩
  · cases v with
    | int i =>
      refine ⟨_, rfl, _, "list", _, false, rfl, .int i, kit_il, _, rfl, iteF ?_⟩
      refine ⟨_, rfl, _, "tuple", _, false, rfl, .int i, kit_it, _, rfl, iteF ?_⟩
      exact ⟨_, rfl, q _ _ (Same.refl H) (.inl ⟨trivial, rfl⟩)⟩
    | str x =>
      refine ⟨_, rfl, _, "list", _, false, rfl, .str x, kit_sl, _, rfl, iteF ?_⟩
      refine ⟨_, rfl, _, "tuple", _, false, rfl, .str x, kit_st, _, rfl, iteF ?_⟩
      exact ⟨_, rfl, q _ _ (Same.refl H) (.inl ⟨trivial, rfl⟩)⟩
    | non => exact ht.elim
    | bl b => exact ht.elim
    | byt b => exact ht.elim
    | flt b => exact ht.elim
    | ref a => exact ht.elim
    | ty a => exact ht.elim
  · rcases hp with hp | hp
    · refine ⟨_, rfl, _, "list", _, true, rfl, .lst hp, kit_ll, _, rfl, iteT ?_⟩
      refine ⟨_, rfl, p, rfl, ⟨_, SqL.of hp⟩, comp_list (K := K) (a := p) (xs := xs) (fun i ys H1 => i ≤ xs.length ∧ ys.length = i ∧ Same H H1 ∧ Paired (Alike H H1 n) (xs.take i) ys) ⟨Nat.zero_le _, rfl, Same.refl H, .nil⟩ ?_ ?_ ?_⟩
      · rintro i ys H1 hi ⟨_, h1, h2, _⟩
        exact ⟨SqL.of (h2 _ _ hp), by omega⟩
      · rintro i x ys H1 hi ⟨h0, h1, h2, h3⟩
        have hm : x ∈ xs := List.mem_of_getElem? hi
        have lt : i < xs.length := (List.getElem?_eq_some_iff.mp hi).1
        refine ⟨rfl, ?_⟩
        unfold tAll
        refine iteT ?_
        refine ⟨_, rfl, x, rfl, Tree.same h2 (hx x hm), fun v' H2 s2 al => ?_⟩
        exact ⟨lt, by rw [List.length_append, h1]; rfl, h2.trans s2, pair_snoc (L2.Paired.imp' (fun _ _ z => Alike.mono s2 z) h3) hi (Alike.from h2 (hx x hm) al)⟩
      · rintro ys H1 ⟨_, h1, h2, h3⟩ l hl'
        rw [List.take_length] at h3
        refine q _ _ (h2.trans (same_new hl' _)) (.inr (.inl ⟨p, l, xs, ys, rfl, rfl, hp, upd_same, L2.Paired.imp' (fun _ _ z => Alike.mono (same_new hl' _) z) h3⟩))
    · refine ⟨_, rfl, _, "list", _, false, rfl, .tup hp, kit_tl, _, rfl, iteF ?_⟩
      refine ⟨_, rfl, _, "tuple", _, true, rfl, .tup hp, kit_tt, _, rfl, iteT ?_⟩
      refine ⟨_, rfl, p, rfl, ⟨_, SqT.of hp⟩, comp_tup (K := K) (a := p) (xs := xs) (Q := fun v H1 => ∃ z ys, [v] = [V.ref z] ∧ ((SqL K H1 z ys ∧ ∀ l, H1 l = none → Q (.ref l) (upd H1 l (.tup ys))) ∨ (SqT K H1 z ys ∧ Q (.ref z) H1))) (fun i ys H1 => i ≤ xs.length ∧ ys.length = i ∧ Same H H1 ∧ Paired (Alike H H1 n) (xs.take i) ys) ⟨Nat.zero_le _, rfl, Same.refl H, .nil⟩ ?_ ?_ ?_⟩
      · rintro i ys H1 hi ⟨_, h1, h2, _⟩
        exact ⟨SqT.of (h2 _ _ hp), by omega⟩
      · rintro i x ys H1 hi ⟨h0, h1, h2, h3⟩
        have hm : x ∈ xs := List.mem_of_getElem? hi
        have lt : i < xs.length := (List.getElem?_eq_some_iff.mp hi).1
        refine ⟨rfl, ?_⟩
        unfold tAll
        refine iteT ?_
        refine ⟨_, rfl, x, rfl, Tree.same h2 (hx x hm), fun v' H2 s2 al => ?_⟩
        exact ⟨lt, by rw [List.length_append, h1]; rfl, h2.trans s2, pair_snoc (L2.Paired.imp' (fun _ _ z => Alike.mono s2 z) h3) hi (Alike.from h2 (hx x hm) al)⟩
      · rintro ys H1 ⟨_, h1, h2, h3⟩ l hl'
        rw [List.take_length] at h3
        refine ⟨l, ys, rfl, .inl ⟨SqL.of upd_same, fun t ht => ?_⟩⟩
        have s3 : Same H1 (upd (upd H1 l (.lst ys)) t (.tup ys)) := (same_new hl' _).trans (same_new ht _)
        exact q _ _ (h2.trans s3) (.inr (.inr ⟨p, t, xs, ys, rfl, rfl, hp, upd_same, L2.Paired.imp' (fun _ _ z => Alike.mono s3 z) h3⟩))
theorem copied_zero (D : Df K mg "copied" s_copied ["thing"] f fd) (B : Bl mg) : FnOk P w K mg base CX0 1 f fd ["thing"] (spCopied 0) := by
  refine D.F.ok scC (fun vs H Q E h => ?_) (fun cdv A outer s H vs Q E hr h => ?_)
  · obtain ⟨v, rfl, _⟩ := h
    rfl
  obtain ⟨v, rfl, ht, q⟩ := h
  refine ⟨_, pss_cons (ps_if (pt_val (pe_callB call_isinst (by rfl) B.isi boot_isi (pa_cons (pv 0) (pa_cons (pe_bltn (v := .ty "list") (by rfl) B.list boot_list rfl) pa_nil)))) pss_never pss_nil)
    (pss_cons (ps_if (pt_val (pe_callB call_isinst (by rfl) B.isi boot_isi (pa_cons (pv 0) (pa_cons (pe_bltn (v := .ty "tuple") (by rfl) B.tuple boot_tuple rfl) pa_nil)))) pss_never pss_nil)
    (pss_one (ps_ret (pv 0)))), ?_⟩
  have ht : isSc v := ht
  cases v with
  | int i =>
    refine ⟨_, rfl, _, "list", _, false, rfl, .int i, kit_il, _, rfl, iteF ?_⟩
    refine ⟨_, rfl, _, "tuple", _, false, rfl, .int i, kit_it, _, rfl, iteF ?_⟩
    exact ⟨_, rfl, q _ _ (Same.refl H) rfl⟩
  | str x =>
    refine ⟨_, rfl, _, "list", _, false, rfl, .str x, kit_sl, _, rfl, iteF ?_⟩
    refine ⟨_, rfl, _, "tuple", _, false, rfl, .str x, kit_st, _, rfl, iteF ?_⟩
    exact ⟨_, rfl, q _ _ (Same.refl H) rfl⟩
  | non => exact ht.elim
  | bl b => exact ht.elim
  | byt b => exact ht.elim
  | flt b => exact ht.elim
  | ref a => exact ht.elim
  | ty a => exact ht.elim
theorem ok_copied (D : Df K mg "copied" s_copied ["thing"] f fd) (B : Bl mg) : ∀ n : Nat, FnOk P w K mg base CX0 (n + 1) f fd ["thing"] (spCopied n)
  | 0 => copied_zero D B
  | n + 1 => copied_step D B (ok_copied D B n)
/-! ### Model -/
structure MdT (K : PySem.W.Frag) (mg : Str → Option Value) (CM CS : Addr) : Prop where
  clM : Cls K CM
  clS : Cls K CS
  nM : NoAttr K CM "machines"
  nB : NoAttr K CS "boxes"
  nQ : NoAttr K CS "queues"
  nD : NoAttr K CS "drawn"
  nS : NoAttr K CS "sent"
  mM : mg "Model" = some (.ref CM)
  mS : mg "State" = some (.ref CS)
def spMI (CM : Addr) (n : Nat) : Sp := fun vs H Q _ => ∃ (m dx : Addr) (v : V), vs = [.ref m, v] ∧ H m = some (.ins CM dx []) ∧ Tree H n v ∧ ∀ (v' : V) (H' : Hp), Same H H' → Alike H H' n v v' → Q .non (upd H' m (.ins CM dx (putF "machines" v' [])))
theorem scMI : FnScope ["self", "machines"] ["self", "machines"] (defScope s_Model_init) := ⟨rfl, rfl, rfl, by decide +kernel, rfl, by decide +kernel, by decide +kernel⟩
theorem ok_MI {n : Nat} (F : Fun K "__init__" "Model.__init__" s_Model_init f fd) (DC : Df K mg "copied" s_copied ["thing"] fC fdC) (B : Bl mg) (T : MdT K mg CM CS) : FnOk P w K mg base CX0 (n + 2) f fd ["self", "machines"] (spMI CM n) := by
  have GC : FnOk P w K mg base CX0 (n + 1) fC fdC ["thing"] (spCopied n) := ok_copied DC B n
  refine F.ok scMI (fun vs H Q E h => ?_) (fun cdv A outer s H vs Q E hr h => ?_)
  · obtain ⟨m, dx, v, rfl, _⟩ := h
    rfl
  obtain ⟨m, dx, v, rfl, hm, ht, q⟩ := h
  refine ⟨_, pss_one (ps_fld (pv 0) (pe_call GC hr rfl DC.m DC.F.kp DC.b .nil pass0 (pa_cons (pv 1) pa_nil)) rfl), ?_⟩
  refine ⟨_, rfl, v, rfl, ht, fun v' H' s1 al => ?_⟩
  exact ⟨_, rfl, m, CM, dx, [], rfl, s1 _ _ hm, T.clM, T.nM, (by show 0 < 1000; decide), q v' H' s1 al⟩
/-! ### State -/
def stFs (b q d e : V) : List (Str × V) := putF "sent" e (putF "drawn" d (putF "queues" q (putF "boxes" b [])))
def spSI (CS : Addr) : Sp := fun vs H Q _ => ∃ (m dx : Addr) (b q d e : V), vs = [.ref m, b, q, d, e] ∧ H m = some (.ins CS dx []) ∧ ∀ H' : Hp, H' m = some (.ins CS dx (stFs b q d e)) → But m H H' → Q .non H'
theorem scSI : FnScope ["self", "boxes", "queues", "drawn", "sent"] ["self", "boxes", "queues", "drawn", "sent"] (defScope s_State_init) := ⟨rfl, rfl, rfl, by decide +kernel, rfl, by decide +kernel, by decide +kernel⟩
theorem putF_le (f : Str) (v : V) (fs : List (Str × V)) : (putF f v fs).length ≤ fs.length + 1 := by
  induction fs with
  | nil => exact Nat.le_refl _
  | cons p r ih =>
    unfold putF
    split
    · rw [List.length_cons, List.length_cons]
      omega
    · rw [List.length_cons, List.length_cons]
      omega
theorem ok_SI (F : Fun K "__init__" "State.__init__" s_State_init f fd) (T : MdT K mg CM CS) : FnOk P w K mg base CX0 1 f fd ["self", "boxes", "queues", "drawn", "sent"] (spSI CS) := by
  refine F.ok scSI (fun vs H Q E h => ?_) (fun cdv A outer s H vs Q E hr h => ?_)
  · obtain ⟨m, dx, b, q, d, e, rfl, _⟩ := h
    rfl
  obtain ⟨m, dx, b, q, d, e, rfl, hm, k⟩ := h
  refine ⟨_, pss_cons (ps_fld (pv 0) (pv 1) rfl) (pss_cons (ps_fld (pv 0) (pv 2) rfl) (pss_cons (ps_fld (pv 0) (pv 3) rfl) (pss_one (ps_fld (pv 0) (pv 4) rfl)))), ?_⟩
  have l1 := putF_le "boxes" b []
  have l2 := putF_le "queues" q (putF "boxes" b [])
  have l3 := putF_le "drawn" d (putF "queues" q (putF "boxes" b []))
  simp only [List.length_nil] at l1
  refine ⟨_, rfl, _, rfl, m, CS, dx, [], rfl, hm, T.clS, T.nB, (by show 0 < 1000; decide), _, rfl, _, rfl, m, CS, dx, _, rfl, upd_same, T.clS, T.nQ, (by omega), _, rfl, _, rfl, m, CS, dx, _, rfl, upd_same, T.clS, T.nD, (by omega), _, rfl, _, rfl, m, CS, dx, _, rfl, upd_same, T.clS, T.nS, (by omega), ?_⟩
  exact k _ upd_same (((But.upd m H _).trans (But.upd m _ _)).trans ((But.upd m _ _).trans (But.upd m _ _)))
/-! ### first_state of a machine without boxes and queues -/
def spFirst (CM : Addr) : Sp := fun vs H Q _ => ∃ (m dx l t b q : Addr) (fs : List (Str × V)) (n0 x3 x4 : V), vs = [.ref m, .int 0] ∧ H m = some (.ins CM dx fs) ∧ fs.lookup ("machines" : Str) = some (V.ref l) ∧ H l = some (.lst [.ref t]) ∧ H t = some (.tup [n0, .ref b, .ref q, x3, x4]) ∧
  H b = some (.lst []) ∧ H q = some (.lst []) ∧ ∀ (st : Addr) (H' : Hp), Same H H' → Q (.ref st) H'
theorem scFS : FnScope ["model", "at", "machine", "queues", "name"] ["model", "at"] (defScope s_first_state) := ⟨rfl, rfl, rfl, by decide +kernel, rfl, by decide +kernel, by decide +kernel⟩
theorem ok_first (D : Df K mg "first_state" s_first_state ["model", "at"] f fd) (MS : Mk K CS fI) (FI : Fun K "__init__" "State.__init__" s_State_init fI fdI) (bI : Binds K fdI ["self", "boxes", "queues", "drawn", "sent"] []) (B : Bl mg) (T : MdT K mg CM CS) :
    FnOk P w K mg base CX0 3 f fd ["model", "at"] (spFirst CM) := by
  have GI : FnOk P w K mg base CX0 1 fI fdI ["self", "boxes", "queues", "drawn", "sent"] (spSI CS) := ok_SI FI T
  refine D.F.ok scFS (fun vs H Q E h => ?_) (fun cdv A outer s H vs Q E hr h => ?_)
  · obtain ⟨m, dx, l, t, b, q, fs, n0, x3, x4, rfl, _⟩ := h
    rfl
  obtain ⟨m, dx, l, t, b, q, fs, n0, x3, x4, rfl, hm, hfs, hl, ht, hb, hq, k⟩ := h
  have hu := hu_of hr
  refine ⟨_, pss_cons (ps_set (i := 2) scFS.nd rfl (Or.inl rfl) (pe_ix ix_list (pe_fld (pv 0) rfl) (pv 1) (fun _ _ => rfl)))
    (pss_cons (ps_set (i := 3) scFS.nd rfl (Or.inl rfl) pe_dnewK)
    (pss_cons (ps_for PassesOwn.never rfl (pi_list (pe_ix ix_tup (pv 2) pe_int (fun _ _ => rfl))) (pg_name (i := 4) scFS.nd rfl (Or.inl rfl)) (pss_one (ps_dput hu (pv 3) (pv 4) (pe_lst pa_nil) rfl)))
    (pss_one (ps_ret (pe_make MS GI hr (by rfl) T.mS bI .nil pass0 (pa_cons (pe_callTy (call_dictL rfl) (by rfl) B.dict boot_dict (pa_cons (pe_ix ix_tup (pv 2) pe_int (fun _ _ => rfl)) pa_nil)) (pa_cons (pv 3) (pa_cons pe_int (pa_cons pe_int pa_nil))))))))), ?_⟩
  refine ⟨_, rfl, m, CM, dx, _, _, rfl, hm, T.clM, T.nM, hfs, _, rfl, l, _, _, _, rfl, rfl, SqL.of hl, rfl, ?_⟩
  intro d hd
  have s1 : Same H (upd H d (.dK [])) := same_new hd _
  refine ⟨_, rfl, t, _, _, _, rfl, rfl, SqT.of (s1 _ _ ht), rfl, q, rfl, ⟨_, SqL.of (s1 _ _ hq)⟩, for_list (K := K) (a := q) (xs := []) (fun i σ H2 => σ = [some (.ref m), some (.int 0), some (.ref t), some (.ref d), none] ∧ H2 = upd H d (.dK [])) ⟨rfl, rfl⟩ ?_ ?_ ?_⟩
  · rintro i σ H2 _ ⟨rfl, rfl⟩
    exact SqL.of (s1 _ _ hq)
  · intro i x σ H2 hi
    simp at hi
  · rintro σ H2 ⟨rfl, rfl⟩
    refine ⟨_, rfl, t, _, _, _, rfl, rfl, SqT.of (s1 _ _ ht), rfl, b, [], [], rfl, s1 _ _ hb, .nil, Nat.zero_le _, fun e he => ?_⟩
    have s2 : Same (upd H d (.dK [])) (upd (upd H d (.dK [])) e (.dK [])) := same_new he _
    refine ⟨_, rfl, ?_⟩
    intro x dx' nx ndx nex
    refine ⟨x, dx', _, _, _, _, rfl, upd_same, fun H' hx bt => ⟨rfl, k x H' ?_⟩⟩
    intro c o hc
    have c2 := s2 _ _ (s1 _ _ hc)
    have cx : c ≠ x := ne_of_none c2 nx
    refine bt c o ?_ cx
    rw [upd_ne cx, upd_ne (ne_of_none c2 ndx)]
    exact c2
end
end My
set_option Elab.async false
set_option linter.all false
set_option maxRecDepth 100000
set_option maxHeartbeats 4000000
namespace My
open PySem L2
/-! ### formulas, and what they come to -/
def seven : List Str := ["plus", "less", "times", "part", "rest", "below", "same"]
inductive Fm where
  | num (n : Int)
  | two (k : Str) (f g : Fm)
def Fm.depth : Fm → Nat
  | .num _ => 1
  | .two _ f g => max f.depth g.depth + 1
inductive Rs where
  | ok (r : Int)
  | nought
  | great
def twoOf (k : Str) (a b : Int) : Rs :=
  if k = "plus" then .ok (a + b) else if k = "less" then .ok (a - b) else if k = "times" then .ok (a * b) else if k = "below" then .ok (if a < b then 1 else 0)
  else if k = "same" then .ok (if a = b then 1 else 0) else if b = 0 then .nought else if k = "part" then .ok (a.fdiv b) else .ok (a.fmod b)
def sizeI (r : Int) : Int := if r < 0 then -r else r
def cap : Rs → Rs
  | .ok r => if 10 ^ 15 < sizeI r then .great else .ok r
  | .nought => .nought
  | .great => .great
def ev : Fm → Rs
  | .num n => .ok n
  | .two k f g => match ev f with
    | .ok a => (match ev g with
      | .ok b => cap (twoOf k a b)
      | .nought => .nought
      | .great => .great)
    | .nought => .nought
    | .great => .great
def Wo (a : Int) : Prop := -(10 ^ 15) ≤ a ∧ a ≤ 10 ^ 15
inductive FmIn (H : Hp) : V → Fm → Prop where
  | num {t : Addr} {n : Int} : H t = some (.tup [.str "number", .int n]) → Wo n → FmIn H (.ref t) (.num n)
  | two {t : Addr} {k : Str} {u v : V} {f g : Fm} : H t = some (.tup [.str k, u, v]) → k ∈ seven → FmIn H u f → FmIn H v g → FmIn H (.ref t) (.two k f g)
theorem FmIn.same {H H' : Hp} {v : V} {f : Fm} (h : FmIn H v f) (s : Same H H') : FmIn H' v f := by
  induction h with
  | num h1 h2 => exact .num (s _ _ h1) h2
  | two h1 h2 _ _ i1 i2 => exact .two (s _ _ h1) h2 i1 i2
theorem sizeI_le {r : Int} (h : ¬ 10 ^ 15 < sizeI r) : Wo r := by
  unfold sizeI at h
  unfold Wo
  split at h <;> omega
theorem sizeI_wo {r : Int} (h : Wo r) : ¬ 10 ^ 15 < sizeI r := by
  unfold Wo at h
  unfold sizeI
  split <;> omega
theorem cap_wo {x : Rs} {r : Int} (h : cap x = .ok r) : Wo r := by
  cases x with
  | ok y =>
    unfold cap at h
    dsimp only at h
    by_cases c : 10 ^ 15 < sizeI y
    · rw [if_pos c] at h
      cases h
    · rw [if_neg c] at h
      cases h
      exact sizeI_le c
  | nought => cases h
  | great => cases h
theorem ev_wo {H : Hp} {v : V} {f : Fm} (h : FmIn H v f) : ∀ {r : Int}, ev f = .ok r → Wo r := by
  induction h with
  | num h1 h2 =>
    intro r e
    unfold ev at e
    cases e
    exact h2
  | @two t k u v f g h1 h2 _ _ i1 i2 =>
    intro r e
    unfold ev at e
    cases e1 : ev f with
    | ok a =>
      rw [e1] at e
      cases e2 : ev g with
      | ok b =>
        rw [e2] at e
        exact cap_wo e
      | nought => rw [e2] at e; cases e
      | great => rw [e2] at e; cases e
    | nought => rw [e1] at e; cases e
    | great => rw [e1] at e; cases e
def endsX (CN CG : Addr) (r : Rs) (Q : VK) (E : XK) (H : Hp) : Prop := match r with
  | .ok r => Q (.int r) H
  | .nought => E (.ref CN) none H
  | .great => E (.ref CG) none H
def resV : Rs → V
  | .ok r => .int r
  | .nought => .str "nought"
  | .great => .str "great"
theorem seven_no : ∀ k ∈ seven, ¬ k = "number" ∧ ¬ k = "box" ∧ ¬ k = "long" ∧ ¬ k = "got" ∧ ¬ k = "now" := by decide +kernel
theorem seven_rest : ∀ k ∈ seven, ¬ k = "plus" → ¬ k = "less" → ¬ k = "times" → ¬ k = "below" → ¬ k = "same" → (k = "part" ∨ k = "rest") := by decide +kernel
theorem part_rest : ¬ (("part" : Str) = "rest") ∧ ¬ (("rest" : Str) = "part") := by decide +kernel
section
variable {P : Program} {w : World} {K : PySem.W.Frag} {mg : Str → Option Value} {base : Heap} {f fD fT fL CN CG : Addr} {fd fdD fdT fdL : FuncData}
/-- the two classes of faults -/
structure Fts (K : PySem.W.Frag) (mg : Str → Option Value) (CN CG : Addr) : Prop where
  mN : mg "Nought" = some (.ref CN)
  mG : mg "Great" = some (.ref CG)
  xN : PySem.W.excIn K CN vErr "ValueError.__new__" = true
  xG : PySem.W.excIn K CG vErr "ValueError.__new__" = true
  nn : PySem.W.exmOne K (.ref CN) (.ref CN) = some true
  gn : PySem.W.exmOne K (.ref CG) (.ref CN) = some false
  gg : PySem.W.exmOne K (.ref CG) (.ref CG) = some true
/-! ### number_of_division -/
def spDiv (CN : Addr) : Sp := fun vs H Q E => ∃ (k : Str) (a b : Int), vs = [.str k, .int a, .int b] ∧ Wo b ∧ (b = 0 → E (.ref CN) none H) ∧ (¬ b = 0 → k = "part" → Q (.int (a.fdiv b)) H) ∧ (¬ b = 0 → ¬ k = "part" → Q (.int (a.fmod b)) H)
theorem scDv : FnScope ["kind", "first", "second"] ["kind", "first", "second"] (defScope s_number_of_division) := ⟨rfl, rfl, rfl, by decide +kernel, rfl, by decide +kernel, by decide +kernel⟩
theorem int_eq {a b : Int} (h : V.int a = V.int b) : a = b := V.int.inj h
theorem str_eq {a b : Str} (h : V.str a = V.str b) : a = b := V.str.inj h
theorem ok_div (D : Df K mg "number_of_division" s_number_of_division ["kind", "first", "second"] f fd) (T : Fts K mg CN CG) : FnOk P w K mg base (CXo P w) 1 f fd ["kind", "first", "second"] (spDiv CN) := by
  refine D.F.okX scDv (fun vs H Q E h => ?_) (fun cdv A outer s H vs Q E hr h => ?_)
  · obtain ⟨k, a, b, rfl, _⟩ := h
    rfl
  obtain ⟨k, a, b, rfl, hb, h1, h2, h3⟩ := h
  refine ⟨_, pss_cons (ps_if (pt_cmpR op_eq (pv 2) pe_int (nomark _)) (pss_one (ps_raise body_cx rfl rfl T.mN T.xN (pa_cons pe_str pa_nil))) pss_nil)
    (pss_cons (ps_if (pt_cmpR op_eq (pv 0) pe_str (nomark _)) (pss_one (ps_ret (pe_op op_fdivM (pv 1) (pv 2)))) pss_nil)
    (pss_one (ps_ret (pe_op op_modN (pv 1) (pv 2))))), ?_⟩
  refine ⟨_, rfl, rfl, _, rfl, ?_⟩
  refine ite2 (fun c => ?_) (fun c => ?_)
  · exact ⟨(by show 1 ≤ sizeLine; decide), h1 (int_eq (dec_t c))⟩
  · have nb : ¬ b = 0 := fun z => dec_f c (by rw [z])
    refine ⟨_, rfl, rfl, _, rfl, ?_⟩
    refine ite2 (fun c2 => ?_) (fun c2 => ?_)
    · refine ⟨_, rfl, _, rfl, _, _, rfl, rfl, ⟨nb, ?_⟩, h2 nb (str_eq (dec_t c2))⟩
      unfold Wo at hb
      omega
    · exact ⟨_, rfl, _, rfl, _, _, rfl, rfl, nb, h3 nb (fun z => dec_f c2 (by rw [z]))⟩
/-! ### number_of_two -/
def spTwo (CN CG : Addr) : Sp := fun vs H Q E => ∃ (k : Str) (a b : Int), vs = [.str k, .int a, .int b] ∧ Wo a ∧ Wo b ∧ endsX CN CG (twoOf k a b) Q E H
theorem scTw : FnScope ["kind", "first", "second"] ["kind", "first", "second"] (defScope s_number_of_two) := ⟨rfl, rfl, rfl, by decide +kernel, rfl, by decide +kernel, by decide +kernel⟩
theorem ok_two (D : Df K mg "number_of_two" s_number_of_two ["kind", "first", "second"] f fd) (DD : Df K mg "number_of_division" s_number_of_division ["kind", "first", "second"] fD fdD) (T : Fts K mg CN CG) :
    FnOk P w K mg base (CXo P w) 2 f fd ["kind", "first", "second"] (spTwo CN CG) := by
  have GD : FnOk P w K mg base (CXo P w) 1 fD fdD ["kind", "first", "second"] (spDiv CN) := ok_div DD T
  refine D.F.okX scTw (fun vs H Q E h => ?_) (fun cdv A outer s H vs Q E hr h => ?_)
  · obtain ⟨k, a, b, rfl, _⟩ := h
    rfl
  obtain ⟨k, a, b, rfl, ha, hb, h⟩ := h
  unfold twoOf at h
  refine ⟨_, pss_cons (ps_if (pt_cmpR op_eq (pv 0) pe_str (nomark _)) (pss_one (ps_ret (pe_op op_add (pv 1) (pv 2)))) pss_nil)
    (pss_cons (ps_if (pt_cmpR op_eq (pv 0) pe_str (nomark _)) (pss_one (ps_ret (pe_op op_sub (pv 1) (pv 2)))) pss_nil)
    (pss_cons (ps_if (pt_cmpR op_eq (pv 0) pe_str (nomark _)) (pss_one (ps_ret (pe_op op_mul (pv 1) (pv 2)))) pss_nil)
    (pss_cons (ps_if (pt_cmpR op_eq (pv 0) pe_str (nomark _)) (pss_one (ps_ret (pe_ifExp (pt_cmpR op_lt (pv 1) (pv 2) (nomark _)) pe_int pe_int))) pss_nil)
    (pss_cons (ps_if (pt_cmpR op_eq (pv 0) pe_str (nomark _)) (pss_one (ps_ret (pe_ifExp (pt_cmpR op_eq (pv 1) (pv 2) (nomark _)) pe_int pe_int))) pss_nil)
    (pss_one (ps_ret (pe_call GD hr rfl DD.m DD.F.kp DD.b .nil (body_cx.passes fun _ _ _ z => z) (pa_cons (pv 0) (pa_cons (pv 1) (pa_cons (pv 2) pa_nil)))))))))), ?_⟩
  refine ⟨_, rfl, rfl, _, rfl, ite2 (fun c => ?_) (fun c => ?_)⟩
  · rw [if_pos (str_eq (dec_t c))] at h
    exact ⟨_, rfl, _, rfl, _, _, rfl, rfl, h⟩
  rw [if_neg fun z => dec_f c (by rw [z])] at h
  refine ⟨_, rfl, rfl, _, rfl, ite2 (fun c => ?_) (fun c => ?_)⟩
  · rw [if_pos (str_eq (dec_t c))] at h
    exact ⟨_, rfl, _, rfl, _, _, rfl, rfl, h⟩
  rw [if_neg fun z => dec_f c (by rw [z])] at h
  refine ⟨_, rfl, rfl, _, rfl, ite2 (fun c => ?_) (fun c => ?_)⟩
  · rw [if_pos (str_eq (dec_t c))] at h
    refine ⟨_, rfl, _, rfl, _, _, rfl, rfl, .inl ⟨?_, ?_⟩, h⟩
    · unfold Wo at ha; omega
    · unfold Wo at ha; omega
  rw [if_neg fun z => dec_f c (by rw [z])] at h
  refine ⟨_, rfl, rfl, _, rfl, ite2 (fun c => ?_) (fun c => ?_)⟩
  · rw [if_pos (str_eq (dec_t c))] at h
    refine ⟨_, rfl, _, rfl, _, _, rfl, rfl, _, rfl, ite2 (fun c2 => ?_) (fun c2 => ?_)⟩
    · rw [if_pos (dec_t c2)] at h
      exact h
    · rw [if_neg (dec_f c2)] at h
      exact h
  rw [if_neg fun z => dec_f c (by rw [z])] at h
  refine ⟨_, rfl, rfl, _, rfl, ite2 (fun c => ?_) (fun c => ?_)⟩
  · rw [if_pos (str_eq (dec_t c))] at h
    refine ⟨_, rfl, _, rfl, rfl, _, rfl, ite2 (fun c2 => ?_) (fun c2 => ?_)⟩
    · rw [if_pos (int_eq (dec_t c2))] at h
      exact h
    · rw [if_neg fun z => dec_f c2 (by rw [z])] at h
      exact h
  rw [if_neg fun z => dec_f c (by rw [z])] at h
  refine ⟨_, rfl, _, rfl, _, rfl, k, a, b, rfl, hb, fun z => ?_, fun z1 z2 => ?_, fun z1 z2 => ?_⟩
  · rw [if_pos z] at h
    exact h
  · rw [if_neg z1, if_pos z2] at h
    exact h
  · rw [if_neg z1, if_neg z2] at h
    exact h
/-! ### number_of_leaf, of a number -/
def spLeaf : Sp := fun vs H Q _ => ∃ (t : Addr) (n : Int) (st nw gt : V), vs = [.ref t, st, nw, gt] ∧ H t = some (.tup [.str "number", .int n]) ∧ Q (.int n) H
theorem scLf : FnScope ["formula", "state", "now", "got", "kind"] ["formula", "state", "now", "got"] (defScope s_number_of_leaf) := ⟨rfl, rfl, rfl, by decide +kernel, rfl, by decide +kernel, by decide +kernel⟩
theorem ok_leaf (D : Df K mg "number_of_leaf" s_number_of_leaf ["formula", "state", "now", "got"] f fd) : FnOk P w K mg base CX0 1 f fd ["formula", "state", "now", "got"] spLeaf := by
  refine D.F.ok scLf (fun vs H Q E h => ?_) (fun cdv A outer s H vs Q E hr h => ?_)
  · obtain ⟨t, n, st, nw, gt, rfl, _⟩ := h
    rfl
  obtain ⟨t, n, st, nw, gt, rfl, ht, q⟩ := h
  refine ⟨_, pss_cons (ps_set (i := 4) scLf.nd rfl (Or.inl rfl) (pe_ix ix_tup (pv 0) pe_int (fun _ _ => rfl)))
    (pss_cons (ps_if (pt_cmpR op_eq (pv 4) pe_str (nomark _)) (pss_one (ps_ret (pe_ix ix_tup (pv 0) pe_int (fun _ _ => rfl)))) pss_nil) pss_never), ?_⟩
  refine ⟨_, rfl, t, _, _, _, rfl, rfl, SqT.of ht, rfl, _, rfl, rfl, _, rfl, ite2 (fun c => ?_) (fun c => ?_)⟩
  · exact ⟨_, rfl, t, _, _, _, rfl, rfl, SqT.of ht, rfl, q⟩
  · exact absurd rfl (dec_f c)
/-! ### worth_of -/
def spWo (CN CG : Addr) (n : Nat) : Sp := fun vs H Q E => ∃ (v : V) (F : Fm) (st nw gt : V), vs = [v, st, nw, gt] ∧ FmIn H v F ∧ F.depth ≤ n ∧ endsX CN CG (ev F) Q E H
theorem scWo : FnScope ["formula", "state", "now", "got", "first", "second", "number"] ["formula", "state", "now", "got"] (defScope s_worth_of) := ⟨rfl, rfl, rfl, by decide +kernel, rfl, by decide +kernel, by decide +kernel⟩
theorem wo_step {n : Nat} (D : Df K mg "worth_of" s_worth_of ["formula", "state", "now", "got"] f fd) (DT : Df K mg "number_of_two" s_number_of_two ["kind", "first", "second"] fT fdT) (DD : Df K mg "number_of_division" s_number_of_division ["kind", "first", "second"] fD fdD)
    (DL : Df K mg "number_of_leaf" s_number_of_leaf ["formula", "state", "now", "got"] fL fdL) (T : Fts K mg CN CG) (B : Bl mg) (G : FnOk P w K mg base (CXo P w) (n + 2) f fd ["formula", "state", "now", "got"] (spWo CN CG n)) :
    FnOk P w K mg base (CXo P w) (n + 3) f fd ["formula", "state", "now", "got"] (spWo CN CG (n + 1)) := by
  have GT : FnOk P w K mg base (CXo P w) 2 fT fdT ["kind", "first", "second"] (spTwo CN CG) := ok_two DT DD T
  have GL : FnOk P w K mg base CX0 1 fL fdL ["formula", "state", "now", "got"] spLeaf := ok_leaf DL
  refine D.F.okX scWo (fun vs H Q E h => ?_) (fun cdv A outer s H vs Q E hr h => ?_)
  · obtain ⟨v, F, st, nw, gt, rfl, _⟩ := h
    rfl
  obtain ⟨v, F, st, nw, gt, rfl, hF, hd, h⟩ := h
  have r2 : Room 2 _ := hr.mono (by omega)
  have r1 : Room 1 _ := hr.mono (by omega)
  refine ⟨_, pss_cons (ps_if (pt_cmpR op_eq (pe_callB call_len_seq (by rfl) B.len PySem.boot_len (pa_cons (pv 0) pa_nil)) pe_int (nomark _))
      (pss_cons (ps_set (i := 4) scWo.nd rfl (Or.inl rfl) (pe_call G hr rfl D.m D.F.kp D.b .nil (body_cx.passes fun _ _ _ z => z) (pa_cons (pe_ix ix_tup (pv 0) pe_int (fun _ _ => rfl)) (pa_cons (pv 1) (pa_cons (pv 2) (pa_cons (pv 3) pa_nil))))))
      (pss_cons (ps_set (i := 5) scWo.nd rfl (Or.inl rfl) (pe_call G hr rfl D.m D.F.kp D.b .nil (body_cx.passes fun _ _ _ z => z) (pa_cons (pe_ix ix_tup (pv 0) pe_int (fun _ _ => rfl)) (pa_cons (pv 1) (pa_cons (pv 2) (pa_cons (pv 3) pa_nil))))))
      (pss_one (ps_set (i := 6) scWo.nd rfl (Or.inl rfl) (pe_call GT r2 rfl DT.m DT.F.kp DT.b .nil (body_cx.passes fun _ _ _ z => z) (pa_cons (pe_ix ix_tup (pv 0) pe_int (fun _ _ => rfl)) (pa_cons (pv 4) (pa_cons (pv 5) pa_nil))))))))
      (pss_one (ps_set (i := 6) scWo.nd rfl (Or.inl rfl) (pe_call GL r1 rfl DL.m DL.F.kp DL.b .nil pass0 (pa_cons (pv 0) (pa_cons (pv 1) (pa_cons (pv 2) (pa_cons (pv 3) pa_nil))))))))
    (pss_cons (ps_if (pt_cmpR op_gt (pe_callB call_abs (by rfl) B.abs boot_abs (pa_cons (pv 6) pa_nil)) (pe_op op_pow pe_int pe_int) (nomark _)) (pss_one (ps_raise body_cx rfl rfl T.mG T.xG (pa_cons pe_str pa_nil))) pss_nil)
    (pss_one (ps_ret (pv 6)))), ?_⟩
  have c15 : CPow 10 15 := ⟨by decide, by decide, by decide⟩
  have l1 : 1 ≤ sizeLine := by decide
  cases hF with
  | @num t n ht hn =>
    refine ⟨_, rfl, t, _, rfl, .inr (SqT.of ht), rfl, _, rfl, ite2 (fun c => ?_) (fun c => ?_)⟩
    · exact absurd (int_eq (dec_t c)) (show ¬ ((2 : Nat) : Int) = 3 by decide)
    refine ⟨_, rfl, _, rfl, _, rfl, _, rfl, t, n, _, _, _, rfl, ht, ?_⟩
    refine ⟨_, rfl, _, rfl, _, _, rfl, rfl, c15, _, _, rfl, rfl, _, rfl, ite2 (fun c => ?_) (fun c => ?_)⟩
    · exact absurd (dec_t c) (sizeI_wo hn)
    · exact ⟨_, rfl, h⟩
  | @two t k u v f1 f2 ht hk h1 h2 =>
    have d1 : f1.depth ≤ n := by
      unfold Fm.depth at hd
      omega
    have d2 : f2.depth ≤ n := by
      unfold Fm.depth at hd
      omega
    refine ⟨_, rfl, t, _, rfl, .inr (SqT.of ht), rfl, _, rfl, ite2 (fun c => ?_) (fun c => ?_)⟩
    · refine ⟨_, rfl, t, _, _, _, rfl, rfl, SqT.of ht, rfl, _, rfl, _, rfl, _, rfl, u, f1, _, _, _, rfl, h1, d1, ?_⟩
      unfold ev at h
      cases e1 : ev f1 with
      | nought => rw [e1] at h; exact h
      | great => rw [e1] at h; exact h
      | ok a =>
        rw [e1] at h
        refine ⟨_, rfl, t, _, _, _, rfl, rfl, SqT.of ht, rfl, _, rfl, _, rfl, _, rfl, v, f2, _, _, _, rfl, h2, d2, ?_⟩
        cases e2 : ev f2 with
        | nought => rw [e2] at h; exact h
        | great => rw [e2] at h; exact h
        | ok b =>
          rw [e2] at h
          have h : endsX CN CG (cap (twoOf k a b)) Q E H := h
          refine ⟨_, rfl, t, _, _, _, rfl, rfl, SqT.of ht, rfl, _, rfl, _, rfl, k, a, b, rfl, ev_wo h1 e1, ev_wo h2 e2, ?_⟩
          cases e3 : twoOf k a b with
          | nought => rw [e3] at h; exact h
          | great => rw [e3] at h; exact h
          | ok r =>
            rw [e3] at h
            have h' : endsX CN CG (if 10 ^ 15 < sizeI r then .great else .ok r) Q E H := h
            refine ⟨_, rfl, _, rfl, _, _, rfl, rfl, c15, _, _, rfl, rfl, _, rfl, ite2 (fun c => ?_) (fun c => ?_)⟩
            · rw [if_pos (show 10 ^ 15 < sizeI r from dec_t c)] at h'
              exact ⟨l1, h'⟩
            · rw [if_neg (show ¬ 10 ^ 15 < sizeI r from dec_f c)] at h'
              exact ⟨_, rfl, h'⟩
    · exact absurd rfl (dec_f c)
theorem depth_pos (F : Fm) : 0 < F.depth := by
  cases F with
  | num n => exact Nat.lt_succ_self 0
  | two k f g => exact Nat.succ_pos _
theorem ok_wo (D : Df K mg "worth_of" s_worth_of ["formula", "state", "now", "got"] f fd) (DT : Df K mg "number_of_two" s_number_of_two ["kind", "first", "second"] fT fdT) (DD : Df K mg "number_of_division" s_number_of_division ["kind", "first", "second"] fD fdD)
    (DL : Df K mg "number_of_leaf" s_number_of_leaf ["formula", "state", "now", "got"] fL fdL) (T : Fts K mg CN CG) (B : Bl mg) : ∀ n : Nat, FnOk P w K mg base (CXo P w) (n + 2) f fd ["formula", "state", "now", "got"] (spWo CN CG n)
  | 0 => by
    have no : ∀ vs H Q E, ¬ spWo CN CG 0 vs H Q E := fun vs H Q E h => by
      obtain ⟨v, F, st, nw, gt, _, _, hd, _⟩ := h
      have := depth_pos F
      omega
    exact ⟨fun vs H Q E h => absurd h (no vs H Q E), fun A outer s H args us vs Q E _ _ _ _ h => absurd h (no vs H Q E)⟩
  | n + 1 => wo_step D DT DD DL T B (ok_wo D DT DD DL T B n)
end
end My
set_option Elab.async false
set_option linter.all false
set_option maxRecDepth 100000
set_option maxHeartbeats 4000000
namespace My
open PySem L2
/-! one step of a reading, by name -/
theorem seq_i {t u : TS} {D : Ends} {σ : St} {H : Hp} (h : t { D with nx := u D } σ H) : tSeq t u D σ H := h
theorem asg_i {te : TE} {g : TG} {D : Ends} {σ : St} {H : Hp} (h : te σ H fun x H1 => g x σ H1 D.nx) : tAsg te g D σ H := h
theorem gname_i {i : Nat} {v : V} {σ : St} {H : Hp} {Q : St → Hp → Prop} (h : Q (σ.set i (some v)) H) : gName i v σ H Q := h
theorem c_i {v : V} {σ : St} {H : Hp} {Q : VK} (h : Q v H) : tC v σ H Q := h
theorem cons_i {t : TE} {r : TA} {σ : St} {H : Hp} {Q : List V → Hp → Prop} (h : t σ H fun x H1 => r σ H1 fun xs H2 => Q (x :: xs) H2) : tCons t r σ H Q := h
theorem tup_i {t : TA} {σ : St} {H : Hp} {Q : VK} (h : t σ H fun xs H1 => xs.length ≤ sizeLine ∧ ∀ p, H1 p = none → Q (.ref p) (upd H1 p (.tup xs))) : tTup t σ H Q := h
theorem lst_i {t : TA} {σ : St} {H : Hp} {Q : VK} (h : t σ H fun xs H1 => xs.length ≤ sizeLine ∧ ∀ p, H1 p = none → Q (.ref p) (upd H1 p (.lst xs))) : tLst t σ H Q := h
theorem call_i {sp : Sp} {dvs : List V} {E : XK} {t : TA} {σ : St} {H : Hp} {Q : VK} (h : t σ H fun vs H1 => sp (vs ++ dvs) H1 Q E) : tCall sp dvs E t σ H Q := h
theorem make_i {C : Addr} {sp : Sp} {dvs : List V} {E : XK} {t : TA} {σ : St} {H : Hp} {Q : VK} (h : t σ H fun vs H1 => ∀ x dx, H1 x = none → H1 dx = none → dx ≠ x →
    sp (.ref x :: (vs ++ dvs)) (upd (upd H1 dx (.own x)) x (.ins C dx [])) (fun v H2 => v = .non ∧ Q (.ref x) H2) E) : tMake C sp dvs E t σ H Q := h
end My
namespace My
open PySem L2
theorem imp_t {X : Cx} {e : Expr} {t t' : TT} (h : PT X e t) (i : ∀ σ H Q, t' σ H Q → t σ H Q) : PT X e t' := fun pins s σ H Q I q => h pins s σ H Q I (i σ H Q q)
theorem len8 : 8 ≤ sizeLine := by decide
theorem len4 : 4 ≤ sizeLine := by decide
theorem len3 : 3 ≤ sizeLine := by decide
theorem len1 : 1 ≤ sizeLine := by decide
/-- the classes of faults: eight in their order, Fault, MomentError -/
structure Ex (K : PySem.W.Frag) (mg : Str → Option Value) (cs : Nat → Addr) (CF CE : Addr) : Prop where
  m0 : mg "Nought" = some (.ref (cs 0))
  m1 : mg "Great" = some (.ref (cs 1))
  m2 : mg "Full" = some (.ref (cs 2))
  m3 : mg "Dry" = some (.ref (cs 3))
  m4 : mg "Span" = some (.ref (cs 4))
  m5 : mg "Late" = some (.ref (cs 5))
  m6 : mg "NoMark" = some (.ref (cs 6))
  m7 : mg "TooLate" = some (.ref (cs 7))
  mF : mg "Fault" = some (.ref CF)
  mE : mg "MomentError" = some (.ref CE)
  mV : mg "ValueError" = none
  x : ∀ i, i < 8 → PySem.W.excIn K (cs i) vErr "ValueError.__new__" = true
  xF : PySem.W.excIn K CF vErr "ValueError.__new__" = true
  kp : ∀ i, i < 8 → PySem.W.keepIn K (.ref (cs i)) = true
  kpF : PySem.W.keepIn K (.ref CF) = true
  c : ∀ i, i < 8 → XCls K (cs i)
  cF : XCls K CF
  k : ∀ i, i < 8 → ∀ j, j < 8 → PySem.W.kitOne K (.ref (cs i)) (.ref (cs j)) = some (decide (j = i))
  kF : ∀ j, j < 8 → PySem.W.kitOne K (.ref CF) (.ref (cs j)) = some false
  e : ∀ i, i < 8 → PySem.W.kitOne K (.ref (cs i)) (.ref CE) = some true
  eF : PySem.W.kitOne K (.ref CF) (.ref CE) = some true
  v : ∀ i, i < 8 → PySem.W.kitOne K (.ref (cs i)) (.type "ValueError") = some true
  f : ∀ i, i < 8 → PySem.W.kitOne K (.ref (cs i)) (.ref CF) = some (decide (i < 6))
  h0 : PySem.W.exmOne K (.ref (cs 0)) (.ref CF) = some true
  h1 : PySem.W.exmOne K (.ref (cs 1)) (.ref CF) = some true
theorem boot_verr : bootBuiltins "ValueError" = some (.type "ValueError") := by decide +kernel
section
variable {P : Program} {w : World} {K : PySem.W.Frag} {mg : Str → Option Value} {base : Heap} {f fS fW : Addr} {fd fdS fdW : FuncData} {cs : Nat → Addr} {CF CE : Addr}
/-! ### word -/
def spWord (wd : Str) : Sp := fun vs H Q _ => ∃ a, vs = [a] ∧ Q (.str wd) H
theorem scwFault : FnScope ["self"] ["self"] (defScope s_Fault_word) := ⟨rfl, rfl, rfl, by decide +kernel, rfl, by decide +kernel, by decide +kernel⟩
theorem ok_wFault (F : Fun K "word" "Fault.word" s_Fault_word f fd) : FnOk P w K mg base CX0 1 f fd ["self"] (spWord "fault") := by
  refine F.ok scwFault (fun vs H Q E h => ?_) (fun cdv A outer s H vs Q E hr h => ?_)
  · obtain ⟨a, rfl, _⟩ := h
    rfl
  obtain ⟨a, rfl, q⟩ := h
  exact ⟨_, pss_one (ps_ret pe_str), q⟩
theorem scwNought : FnScope ["self"] ["self"] (defScope s_Nought_word) := ⟨rfl, rfl, rfl, by decide +kernel, rfl, by decide +kernel, by decide +kernel⟩
theorem ok_wNought (F : Fun K "word" "Nought.word" s_Nought_word f fd) : FnOk P w K mg base CX0 1 f fd ["self"] (spWord "nought") := by
  refine F.ok scwNought (fun vs H Q E h => ?_) (fun cdv A outer s H vs Q E hr h => ?_)
  · obtain ⟨a, rfl, _⟩ := h
    rfl
  obtain ⟨a, rfl, q⟩ := h
  exact ⟨_, pss_one (ps_ret pe_str), q⟩
theorem scwGreat : FnScope ["self"] ["self"] (defScope s_Great_word) := ⟨rfl, rfl, rfl, by decide +kernel, rfl, by decide +kernel, by decide +kernel⟩
theorem ok_wGreat (F : Fun K "word" "Great.word" s_Great_word f fd) : FnOk P w K mg base CX0 1 f fd ["self"] (spWord "great") := by
  refine F.ok scwGreat (fun vs H Q E h => ?_) (fun cdv A outer s H vs Q E hr h => ?_)
  · obtain ⟨a, rfl, _⟩ := h
    rfl
  obtain ⟨a, rfl, q⟩ := h
  exact ⟨_, pss_one (ps_ret pe_str), q⟩
theorem scwFull : FnScope ["self"] ["self"] (defScope s_Full_word) := ⟨rfl, rfl, rfl, by decide +kernel, rfl, by decide +kernel, by decide +kernel⟩
theorem ok_wFull (F : Fun K "word" "Full.word" s_Full_word f fd) : FnOk P w K mg base CX0 1 f fd ["self"] (spWord "full") := by
  refine F.ok scwFull (fun vs H Q E h => ?_) (fun cdv A outer s H vs Q E hr h => ?_)
  · obtain ⟨a, rfl, _⟩ := h
    rfl
  obtain ⟨a, rfl, q⟩ := h
  exact ⟨_, pss_one (ps_ret pe_str), q⟩
theorem scwDry : FnScope ["self"] ["self"] (defScope s_Dry_word) := ⟨rfl, rfl, rfl, by decide +kernel, rfl, by decide +kernel, by decide +kernel⟩
theorem ok_wDry (F : Fun K "word" "Dry.word" s_Dry_word f fd) : FnOk P w K mg base CX0 1 f fd ["self"] (spWord "dry") := by
  refine F.ok scwDry (fun vs H Q E h => ?_) (fun cdv A outer s H vs Q E hr h => ?_)
  · obtain ⟨a, rfl, _⟩ := h
    rfl
  obtain ⟨a, rfl, q⟩ := h
  exact ⟨_, pss_one (ps_ret pe_str), q⟩
theorem scwSpan : FnScope ["self"] ["self"] (defScope s_Span_word) := ⟨rfl, rfl, rfl, by decide +kernel, rfl, by decide +kernel, by decide +kernel⟩
theorem ok_wSpan (F : Fun K "word" "Span.word" s_Span_word f fd) : FnOk P w K mg base CX0 1 f fd ["self"] (spWord "span") := by
  refine F.ok scwSpan (fun vs H Q E h => ?_) (fun cdv A outer s H vs Q E hr h => ?_)
  · obtain ⟨a, rfl, _⟩ := h
    rfl
  obtain ⟨a, rfl, q⟩ := h
  exact ⟨_, pss_one (ps_ret pe_str), q⟩
theorem scwLate : FnScope ["self"] ["self"] (defScope s_Late_word) := ⟨rfl, rfl, rfl, by decide +kernel, rfl, by decide +kernel, by decide +kernel⟩
theorem ok_wLate (F : Fun K "word" "Late.word" s_Late_word f fd) : FnOk P w K mg base CX0 1 f fd ["self"] (spWord "late") := by
  refine F.ok scwLate (fun vs H Q E h => ?_) (fun cdv A outer s H vs Q E hr h => ?_)
  · obtain ⟨a, rfl, _⟩ := h
    rfl
  obtain ⟨a, rfl, q⟩ := h
  exact ⟨_, pss_one (ps_ret pe_str), q⟩
/-! ### _law_sorts -/
def spSo (K : PySem.W.Frag) (cs : Nat → Addr) : Sp := fun vs H Q _ => ∃ (a C : Addr) (b : Nat → Bool), vs = [.ref a] ∧ H a = some (XO a C) ∧ XCls K C ∧ (∀ j, j < 8 → PySem.W.kitOne K (.ref C) (.ref (cs j)) = some (b j)) ∧
  ∀ (l : Addr) (H' : Hp), Same H H' → H' l = some (.lst [.bl (b 0), .bl (b 1), .bl (b 2), .bl (b 3), .bl (b 4), .bl (b 5), .bl (b 6), .bl (b 7)]) → Q (.ref l) H'
theorem scSo : FnScope ["_law_error", "_law_found"] ["_law_error"] (defScope s_law_sorts) := ⟨rfl, rfl, rfl, by decide +kernel, rfl, by decide +kernel, by decide +kernel⟩
theorem ok_So (D : Df K mg "_law_sorts" s_law_sorts ["_law_error"] f fd) (B : Bl mg) (X6 : Ex K mg cs CF CE) : FnOk P w K mg base CX0 1 f fd ["_law_error"] (spSo K cs) := by
  refine D.F.ok scSo (fun vs H Q E h => ?_) (fun cdv A outer s H vs Q E hr h => ?_)
  · obtain ⟨a, C, b, rfl, _⟩ := h
    rfl
  obtain ⟨a, C, b, rfl, ha, cl, kk, q⟩ := h
  refine ⟨_, pss_cons (ps_set (i := 1) scSo.nd rfl (Or.inl rfl) (pe_lst (pa_cons (pe_callB call_isinstX (by rfl) B.isi boot_isi (pa_cons (pv 0) (pa_cons (pe_glob (v := .ref (cs 0)) (by rfl) X6.m0 rfl) pa_nil))) (pa_cons (pe_callB call_isinstX (by rfl) B.isi boot_isi (pa_cons (pv 0) (pa_cons (pe_glob (v := .ref (cs 1)) (by rfl) X6.m1 rfl) pa_nil))) (pa_cons (pe_callB call_isinstX (by rfl) B.isi boot_isi (pa_cons (pv 0) (pa_cons (pe_glob (v := .ref (cs 2)) (by rfl) X6.m2 rfl) pa_nil))) (pa_cons (pe_callB call_isinstX (by rfl) B.isi boot_isi (pa_cons (pv 0) (pa_cons (pe_glob (v := .ref (cs 3)) (by rfl) X6.m3 rfl) pa_nil))) pa_nil))))))
    (pss_cons (ps_set (i := 1) scSo.nd rfl (Or.inl rfl) (pe_op op_cat (pv 1) (pe_lst (pa_cons (pe_callB call_isinstX (by rfl) B.isi boot_isi (pa_cons (pv 0) (pa_cons (pe_glob (v := .ref (cs 4)) (by rfl) X6.m4 rfl) pa_nil))) (pa_cons (pe_callB call_isinstX (by rfl) B.isi boot_isi (pa_cons (pv 0) (pa_cons (pe_glob (v := .ref (cs 5)) (by rfl) X6.m5 rfl) pa_nil))) (pa_cons (pe_callB call_isinstX (by rfl) B.isi boot_isi (pa_cons (pv 0) (pa_cons (pe_glob (v := .ref (cs 6)) (by rfl) X6.m6 rfl) pa_nil))) pa_nil))))))
    (pss_one (ps_ret (pe_op op_cat (pv 1) (pe_lst (pa_cons (pe_callB call_isinstX (by rfl) B.isi boot_isi (pa_cons (pv 0) (pa_cons (pe_glob (v := .ref (cs 7)) (by rfl) X6.m7 rfl) pa_nil))) pa_nil)))))), ?_⟩
  refine ⟨_, rfl, a, C, _, .ref (cs 0), b 0, rfl, rfl, fun _ z => z, ha, cl, kk 0 (by decide), _, rfl, a, C, _, .ref (cs 1), b 1, rfl, rfl, fun _ z => z, ha, cl, kk 1 (by decide), _, rfl, a, C, _, .ref (cs 2), b 2, rfl, rfl, fun _ z => z, ha, cl, kk 2 (by decide), _, rfl, a, C, _, .ref (cs 3), b 3, rfl, rfl, fun _ z => z, ha, cl, kk 3 (by decide), len4, fun l hl => ?_⟩
  have s1 := same_new hl (.lst [.bl (b 0), .bl (b 1), .bl (b 2), .bl (b 3)])
  refine ⟨_, rfl, _, rfl, a, C, _, .ref (cs 4), b 4, rfl, rfl, fun _ z => z, s1 _ _ ha, cl, kk 4 (by decide), _, rfl, a, C, _, .ref (cs 5), b 5, rfl, rfl, fun _ z => z, s1 _ _ ha, cl, kk 5 (by decide), _, rfl, a, C, _, .ref (cs 6), b 6, rfl, rfl, fun _ z => z, s1 _ _ ha, cl, kk 6 (by decide), len3, fun m hm => ?_⟩
  have s2 := s1.trans (same_new hm (.lst [.bl (b 4), .bl (b 5), .bl (b 6)]))
  refine ⟨l, m, _, _, rfl, rfl, (by rw [upd_ne (ne_of_none (upd_same : upd H l _ l = _) hm)]; exact upd_same), upd_same, (by show 7 ≤ sizeLine; decide), fun c hc => ?_⟩
  have s3 := s2.trans (same_new hc (.lst [.bl (b 0), .bl (b 1), .bl (b 2), .bl (b 3), .bl (b 4), .bl (b 5), .bl (b 6)]))
  refine ⟨_, rfl, _, rfl, a, C, _, .ref (cs 7), b 7, rfl, rfl, fun _ z => z, s3 _ _ ha, cl, kk 7 (by decide), len1, fun n hn => ?_⟩
  refine ⟨c, n, _, _, rfl, rfl, (by rw [upd_ne (ne_of_none (upd_same : upd _ c _ c = _) hn)]; exact upd_same), upd_same, (by show 8 ≤ sizeLine; decide), fun d hd => ?_⟩
  exact q d _ (s3.trans ((same_new hn _).trans (same_new hd _))) upd_same
/-! ### _law_right -/
def wds (i : Nat) : Str := match i with
  | 0 => "nought"
  | 1 => "great"
  | 2 => "full"
  | 3 => "dry"
  | 4 => "span"
  | _ => "late"
abbrev nRi : List Str := ["_law_error", "_law_at", "_law_due"]
theorem scRi : FnScope nRi ["_law_error", "_law_at"] (defScope s_law_right) := ⟨rfl, rfl, rfl, by decide +kernel, rfl, by decide +kernel, by decide +kernel⟩
theorem ndRi : ((["_law_k"] : List Str) ++ nRi).Nodup := by decide +kernel
def spRi (cs : Nat → Addr) (i : Nat) : Sp := fun vs H Q _ => ∃ a : Addr, vs = [.ref a, .int i] ∧ H a = some (XO a (cs i)) ∧ ∀ H', Same H H' → Q (.bl true) H'
theorem dec_int2 {j i : Nat} : decide (V.int (0 + (j : Int)) = V.int (i : Int)) = decide (j = i) := by
  rw [Bool.eq_iff_iff, decide_eq_true_iff, decide_eq_true_iff]
  constructor
  · intro z
    have := V.int.inj z
    omega
  · intro z
    rw [z, Int.zero_add]
/-- a comprehension over range(m) -/
theorem comp_rng {n m : Nat} {g : TG} {tc : TT} {te : TE} {σ : St} {H : Hp} {Q : VK} (Pv : Nat → List V → Hp → Prop) (h0 : Pv 0 [] H) (hl : ∀ i ys H, i ≤ m → Pv i ys H → ys.length < sizeLine)
    (hs : ∀ i ys H, i < m → Pv i ys H → g (.int (0 + i)) (List.replicate n none ++ σ) H fun σ2 H2 => σ2.drop n = σ ∧ tc σ2 H2 fun b H3 => if b = true then te σ2 H3 fun y H4 => Pv (i + 1) (ys ++ [y]) H4 else Pv (i + 1) ys H3)
    (hd : ∀ ys H, Pv m ys H → ∀ p, H p = none → Q (.ref p) (upd H p (.lst ys))) :
    ∃ W : Nat → Nat → List V → Hp → Prop, (∃ k, W 0 k [] H) ∧ ∀ i k ys H, W i k ys H → ys.length < sizeLine ∧ (((Itr 0 m).stop i H ∧ ∀ p, H p = none → Q (.ref p) (upd H p (.lst ys))) ∨
      ((Itr 0 m).go i H ∧ ∃ N : List V → Hp → Prop, (∀ ys' H', N ys' H' → ∃ k', k' < k ∧ W (i + 1) k' ys' H') ∧ ∀ x H', (Itr 0 m).yld i H x H' → g x (List.replicate n none ++ σ) H' fun σ2 H2 => σ2.drop n = σ ∧ tc σ2 H2 fun b H3 =>
        if b = true then te σ2 H3 fun y H4 => N (ys ++ [y]) H4 else N ys H3)) := by
  refine ⟨fun i k ys H => k = m - i ∧ i ≤ m ∧ Pv i ys H, ⟨m, by simp, Nat.zero_le _, h0⟩, ?_⟩
  rintro i k ys H ⟨rfl, hi, pv'⟩
  refine ⟨hl i ys H hi pv', ?_⟩
  by_cases lt : i < m
  · refine .inr ⟨lt, Pv (i + 1), fun ys' H' p' => ⟨m - (i + 1), by omega, rfl, lt, p'⟩, fun x H' y => ?_⟩
    obtain ⟨e, y⟩ := y
    subst e y
    exact hs i ys _ lt pv'
  · have e : i = m := by omega
    subst e
    exact .inl ⟨Nat.le_refl _, hd ys H pv'⟩
theorem cb_i {r : List V → Hp → VK → Prop} {t : TA} {σ : St} {H : Hp} {Q : VK} (h : t σ H fun vs H1 => r vs H1 Q) : tCB r t σ H Q := h
theorem comp_rngI {n : Nat} {M : Int} (m : Nat) (hm : M.toNat = m) {g : TG} {tc : TT} {te : TE} {σ : St} {H : Hp} {Q : VK} (h1 : -(2 ^ 62) ≤ M) (h2 : M < 2 ^ 62) (Pv : Nat → List V → Hp → Prop) (h0 : Pv 0 [] H) (hl : ∀ i ys H, i ≤ m → Pv i ys H → ys.length < sizeLine)
    (hs : ∀ i ys H, i < m → Pv i ys H → g (.int (0 + i)) (List.replicate n none ++ σ) H fun σ2 H2 => σ2.drop n = σ ∧ tc σ2 H2 fun b H3 => if b = true then te σ2 H3 fun y H4 => Pv (i + 1) (ys ++ [y]) H4 else Pv (i + 1) ys H3)
    (hd : ∀ ys H, Pv m ys H → ∀ p, H p = none → Q (.ref p) (upd H p (.lst ys))) : tComp n (iRng1 (tCons (tC (.int M)) tNil)) g tc te σ H Q := by
  subst hm
  exact ⟨M, rfl, h1, h2, comp_rng Pv h0 hl hs hd⟩
theorem ok_Rilo {i : Nat} (D : Df K mg "_law_right" s_law_right ["_law_error", "_law_at"] f fd) (DS : Df K mg "_law_sorts" s_law_sorts ["_law_error"] fS fdS) (B : Bl mg) (X6 : Ex K mg cs CF CE) (hi : i < 6) (mW : Meth K (cs i) "word" fW) (bW : Binds K fdW ["self"] []) (GW : FnOk P w K mg base CX0 1 fW fdW ["self"] (spWord (wds i))) :
    FnOk P w K mg base CX0 2 f fd ["_law_error", "_law_at"] (spRi cs i) := by
  have GS : FnOk P w K mg base CX0 1 fS fdS ["_law_error"] (spSo K cs) := ok_So DS B X6
  refine D.F.ok scRi (fun vs H Q E h => ?_) (fun cdv A outer s H vs Q E hr h => ?_)
  · obtain ⟨a, rfl, _⟩ := h
    rfl
  obtain ⟨a, rfl, ha, q⟩ := h
  have h50 := hu50 hr
  have r1 : Room 1 _ := hr
  have i8 : i < 8 := by omega
  refine ⟨_, pss_cons (ps_comp (i := 2) ["_law_k"] (CompOk.open (NN := nRi) (N := nRi) (sc := defScope s_law_right) rfl rfl (by decide +kernel) rfl (by decide +kernel) (by decide +kernel) rfl (by decide +kernel)) rfl scRi.nd rfl (Or.inl rfl) (pi_range1 rfl B.range (pa_cons pe_int pa_nil)) (fun _ _ _ _ => pg_name (i := 0) ndRi rfl (Or.inl rfl)) (fun _ _ _ _ => pts_nil) (fun _ _ _ _ => pe_cmpR op_eq (pv 0) (pv 2) (nomark _)))
    (pss_cons (ps_if (pw_or (pt_cmpR (op_neT h50) (pe_call GS r1 (by rfl) DS.m DS.F.kp DS.b .nil pass0 (pa_cons (pv 0) pa_nil)) (pv 2) (nomark _)) (pw_or (pt_not (pt_val (pe_callB call_isinstX (by rfl) B.isi boot_isi (pa_cons (pv 0) (pa_cons (pe_glob (v := .ref CE) (by rfl) X6.mE rfl) pa_nil))))) (pw_or1 (pt_not (pt_val (pe_callB call_isinstX (by rfl) B.isi boot_isi (pa_cons (pv 0) (pa_cons (pe_bltn (v := .ty "ValueError") (by rfl) X6.mV boot_verr rfl) pa_nil)))))))).pt (pss_one (ps_ret pe_bl)) pss_nil)
    (pss_cons (ps_if (pt_cmpR op_ne (pe_callB call_isinstX (by rfl) B.isi boot_isi (pa_cons (pv 0) (pa_cons (pe_glob (v := .ref CF) (by rfl) X6.mF rfl) pa_nil))) (pe_cmpR op_lt (pv 1) pe_int (nomark _)) (nomark _)) (pss_one (ps_ret pe_bl)) pss_nil)
    (pss_cons (ps_if (pt_cmpR op_gt (pv 1) pe_int (nomark _)) (pss_one (ps_ret pe_bl)) pss_nil)
    (pss_one (ps_ret (pe_cmpR op_eq (pe_methX (pv 0) (X6.c i (by omega)) mW GW r1 bW pass0) (pe_ix ix_list (pe_lst (pa_cons pe_str (pa_cons pe_str (pa_cons pe_str (pa_cons pe_str (pa_cons pe_str (pa_cons pe_str pa_nil))))))) (pv 1) (fun _ _ => rfl)) (nomark _))))))), ?_⟩
  refine seq_i (asg_i (comp_rngI 8 rfl (by decide) (by decide) (fun j ys G => G = H ∧ ys = (List.range j).map fun x => V.bl (decide (x = i))) ⟨rfl, rfl⟩ ?_ ?_ ?_))
  · rintro j ys G hj ⟨_, rfl⟩
    rw [List.length_map, List.length_range]
    have : 9 < sizeLine := by decide
    omega
  · rintro j ys G hj ⟨rfl, rfl⟩
    refine ⟨rfl, ?_⟩
    unfold tAll
    refine iteT ?_
    refine ⟨_, rfl, _, rfl, rfl, rfl, ?_⟩
    rw [List.range_succ, List.map_append, dec_int2]
    rfl
  · rintro ys G ⟨rfl, rfl⟩ l hl
    have s1 := same_new hl (.lst ((List.range 8).map fun x => V.bl (decide (x = i))))
    refine gname_i ?_
    dsimp only
    refine ⟨_, rfl, a, cs i, fun x => decide (x = i), rfl, s1 _ _ ha, X6.c i i8, X6.k i i8, fun m G1 s2 hm => ?_⟩
    have s12 := s1.trans s2
    have hl2 := s2 _ _ (upd_same : upd _ l _ l = _)
    refine ⟨_, rfl, 1, m, l, by decide, rfl, rfl, .inr (.inl ⟨m, l, _, _, rfl, rfl, hm, hl2, ?_⟩), _, rfl, iteF ?_⟩
    · exact .cons ⟨trivial, rfl⟩ (.cons ⟨trivial, rfl⟩ (.cons ⟨trivial, rfl⟩ (.cons ⟨trivial, rfl⟩ (.cons ⟨trivial, rfl⟩ (.cons ⟨trivial, rfl⟩ (.cons ⟨trivial, rfl⟩ (.cons ⟨trivial, rfl⟩ .nil)))))))
    refine ⟨_, rfl, a, cs i, _, .ref CE, true, rfl, rfl, fun _ z => z, s12 _ _ ha, X6.c i i8, X6.e i i8, true, rfl, iteF ?_⟩
    refine ⟨_, rfl, a, cs i, _, .type "ValueError", true, rfl, rfl, fun _ z => z, s12 _ _ ha, X6.c i i8, X6.v i i8, true, rfl, iteF ?_⟩
    refine ⟨_, rfl, a, cs i, _, .ref CF, decide (i < 6), rfl, rfl, fun _ z => z, s12 _ _ ha, X6.c i i8, X6.f i i8, _, rfl, _, _, rfl, rfl, rfl, _, rfl, ?_⟩

    have e6 : decide ((i : Int) < 6) = decide (i < 6) := by
      rw [Bool.eq_iff_iff, decide_eq_true_iff, decide_eq_true_iff]
      omega
    refine ite2 (fun c => ?_) (fun c => ?_)
    · exact absurd (congrArg V.bl e6.symm) (fun z => by
        have z' := decide_eq_true z
        rw [show (!decide (V.bl (decide (i < 6)) = V.bl (decide ((i : Int) < 6)))) = false from by rw [z']; rfl] at c
        cases c)
    have c5 := c
    clear c5
    refine ⟨_, rfl, _, _, rfl, rfl, _, rfl, ite2 (fun c => ?_) (fun c => ?_)⟩
    · have := dec_t c
      omega
    have hat : atI [V.str "nought", .str "great", .str "full", .str "dry", .str "span", .str "late"] (i : Int) = some (.str (wds i)) := by
      have : i = 0 ∨ i = 1 ∨ i = 2 ∨ i = 3 ∨ i = 4 ∨ i = 5 := by omega
      rcases this with rfl | rfl | rfl | rfl | rfl | rfl <;> rfl
    refine ⟨_, rfl, a, rfl, s12 _ _ ha, _, rfl, (by show 6 ≤ sizeLine; decide), fun l6 h6 => ⟨_, rfl, l6, _, _, _, rfl, rfl, SqL.of upd_same, hat, rfl, ?_⟩⟩
    rw [show decide (V.str (wds i) = V.str (wds i)) = true from decide_eq_true rfl]
    exact q _ (s12.trans (same_new h6 _))

theorem ok_Rihi {i : Nat} (D : Df K mg "_law_right" s_law_right ["_law_error", "_law_at"] f fd) (DS : Df K mg "_law_sorts" s_law_sorts ["_law_error"] fS fdS) (B : Bl mg) (X6 : Ex K mg cs CF CE) (hi : i < 8) (h6 : ¬ i < 6) :
    FnOk P w K mg base CX0 2 f fd ["_law_error", "_law_at"] (spRi cs i) := by
  have GS : FnOk P w K mg base CX0 1 fS fdS ["_law_error"] (spSo K cs) := ok_So DS B X6
  refine D.F.ok scRi (fun vs H Q E h => ?_) (fun cdv A outer s H vs Q E hr h => ?_)
  · obtain ⟨a, rfl, _⟩ := h
    rfl
  obtain ⟨a, rfl, ha, q⟩ := h
  have h50 := hu50 hr
  have r1 : Room 1 _ := hr
  have i8 : i < 8 := by omega
  refine ⟨_, pss_cons (ps_comp (i := 2) ["_law_k"] (CompOk.open (NN := nRi) (N := nRi) (sc := defScope s_law_right) rfl rfl (by decide +kernel) rfl (by decide +kernel) (by decide +kernel) rfl (by decide +kernel)) rfl scRi.nd rfl (Or.inl rfl) (pi_range1 rfl B.range (pa_cons pe_int pa_nil)) (fun _ _ _ _ => pg_name (i := 0) ndRi rfl (Or.inl rfl)) (fun _ _ _ _ => pts_nil) (fun _ _ _ _ => pe_cmpR op_eq (pv 0) (pv 2) (nomark _)))
    (pss_cons (ps_if (pw_or (pt_cmpR (op_neT h50) (pe_call GS r1 (by rfl) DS.m DS.F.kp DS.b .nil pass0 (pa_cons (pv 0) pa_nil)) (pv 2) (nomark _)) (pw_or (pt_not (pt_val (pe_callB call_isinstX (by rfl) B.isi boot_isi (pa_cons (pv 0) (pa_cons (pe_glob (v := .ref CE) (by rfl) X6.mE rfl) pa_nil))))) (pw_or1 (pt_not (pt_val (pe_callB call_isinstX (by rfl) B.isi boot_isi (pa_cons (pv 0) (pa_cons (pe_bltn (v := .ty "ValueError") (by rfl) X6.mV boot_verr rfl) pa_nil)))))))).pt (pss_one (ps_ret pe_bl)) pss_nil)
    (pss_cons (ps_if (pt_cmpR op_ne (pe_callB call_isinstX (by rfl) B.isi boot_isi (pa_cons (pv 0) (pa_cons (pe_glob (v := .ref CF) (by rfl) X6.mF rfl) pa_nil))) (pe_cmpR op_lt (pv 1) pe_int (nomark _)) (nomark _)) (pss_one (ps_ret pe_bl)) pss_nil)
    (pss_cons (ps_if (pt_cmpR op_gt (pv 1) pe_int (nomark _)) (pss_one (ps_ret pe_bl)) pss_nil)
    pss_never))), ?_⟩
  refine seq_i (asg_i (comp_rngI 8 rfl (by decide) (by decide) (fun j ys G => G = H ∧ ys = (List.range j).map fun x => V.bl (decide (x = i))) ⟨rfl, rfl⟩ ?_ ?_ ?_))
  · rintro j ys G hj ⟨_, rfl⟩
    rw [List.length_map, List.length_range]
    have : 9 < sizeLine := by decide
    omega
  · rintro j ys G hj ⟨rfl, rfl⟩
    refine ⟨rfl, ?_⟩
    unfold tAll
    refine iteT ?_
    refine ⟨_, rfl, _, rfl, rfl, rfl, ?_⟩
    rw [List.range_succ, List.map_append, dec_int2]
    rfl
  · rintro ys G ⟨rfl, rfl⟩ l hl
    have s1 := same_new hl (.lst ((List.range 8).map fun x => V.bl (decide (x = i))))
    refine gname_i ?_
    dsimp only
    refine ⟨_, rfl, a, cs i, fun x => decide (x = i), rfl, s1 _ _ ha, X6.c i i8, X6.k i i8, fun m G1 s2 hm => ?_⟩
    have s12 := s1.trans s2
    have hl2 := s2 _ _ (upd_same : upd _ l _ l = _)
    refine ⟨_, rfl, 1, m, l, by decide, rfl, rfl, .inr (.inl ⟨m, l, _, _, rfl, rfl, hm, hl2, ?_⟩), _, rfl, iteF ?_⟩
    · exact .cons ⟨trivial, rfl⟩ (.cons ⟨trivial, rfl⟩ (.cons ⟨trivial, rfl⟩ (.cons ⟨trivial, rfl⟩ (.cons ⟨trivial, rfl⟩ (.cons ⟨trivial, rfl⟩ (.cons ⟨trivial, rfl⟩ (.cons ⟨trivial, rfl⟩ .nil)))))))
    refine ⟨_, rfl, a, cs i, _, .ref CE, true, rfl, rfl, fun _ z => z, s12 _ _ ha, X6.c i i8, X6.e i i8, true, rfl, iteF ?_⟩
    refine ⟨_, rfl, a, cs i, _, .type "ValueError", true, rfl, rfl, fun _ z => z, s12 _ _ ha, X6.c i i8, X6.v i i8, true, rfl, iteF ?_⟩
    refine ⟨_, rfl, a, cs i, _, .ref CF, decide (i < 6), rfl, rfl, fun _ z => z, s12 _ _ ha, X6.c i i8, X6.f i i8, _, rfl, _, _, rfl, rfl, rfl, _, rfl, ?_⟩

    have e6 : decide ((i : Int) < 6) = decide (i < 6) := by
      rw [Bool.eq_iff_iff, decide_eq_true_iff, decide_eq_true_iff]
      omega
    refine ite2 (fun c => ?_) (fun c => ?_)
    · exact absurd (congrArg V.bl e6.symm) (fun z => by
        have z' := decide_eq_true z
        rw [show (!decide (V.bl (decide (i < 6)) = V.bl (decide ((i : Int) < 6)))) = false from by rw [z']; rfl] at c
        cases c)
    have c5 := c
    clear c5
    refine ⟨_, rfl, _, _, rfl, rfl, _, rfl, ite2 (fun c => ?_) (fun c => ?_)⟩
    · exact q _ s12
    · exact absurd (show (5 : Int) < (i : Int) by omega) (dec_f c)
/-! ### _law_caught, _law_plain -/
theorem scCt : FnScope ["_law_formula", "_law_state", "_law_caught_here", "e"] ["_law_formula", "_law_state"] (defScope s_law_caught) := ⟨rfl, rfl, rfl, by decide +kernel, rfl, by decide +kernel, by decide +kernel⟩
def spCt (cs : Nat → Addr) : Sp := fun vs H Q _ => ∃ (v st : V) (F : Fm) (i : Nat), vs = [v, st] ∧ FmIn H v F ∧ F.depth ≤ 3 ∧ ((ev F = .nought ∧ i = 0) ∨ (ev F = .great ∧ i = 1)) ∧ ∀ (a : Addr) (H' : Hp), Same H H' → H' a = some (XO a (cs i)) → Q (.ref a) H'
theorem set4 {σ : St} (hl : σ.length = 4) (v u : Option V) : ((σ.set 3 v).set 2 u).length = 4 := by rw [List.length_set, List.length_set, hl]
theorem ok_Ct (D : Df K mg "_law_caught" s_law_caught ["_law_formula", "_law_state"] f fd) (DW : Df K mg "worth_of" s_worth_of ["formula", "state", "now", "got"] fW fdW)
    (GW : FnOk P w K mg base (CXo P w) 5 fW fdW ["formula", "state", "now", "got"] (spWo (cs 0) (cs 1) 3)) (X6 : Ex K mg cs CF CE) : FnOk P w K mg base CX0 6 f fd ["_law_formula", "_law_state"] (spCt cs) := by
  refine D.F.ok scCt (fun vs H Q E h => ?_) (fun cdv A outer s H vs Q E hr h => ?_)
  · obtain ⟨v, st, F, i, rfl, _⟩ := h
    rfl
  obtain ⟨v, st, F, i, rfl, hF, hd, he, q⟩ := h
  refine ⟨_, pss_cons (ps_set (i := 2) scCt.nd rfl (Or.inl rfl) pe_non)
    (pss_cons (ps_try (fun C _ H' => Same H H' ∧ C = cs i)
      (fun pins => pss_one (ps_expr (pe_callS GW hr rfl DW.m DW.F.kp DW.b try_passes (pa_cons (pv 0) (pa_cons (pv 1) (pa_cons pe_int (pa_cons (pe_lst (pa_cons pe_int (pa_cons pe_int pa_nil))) pa_nil)))))))
      (phs_as 3 rfl X6.mF scCt.nd rfl rfl (fun ea => pss_one (ps_set (i := 2) scCt.nd rfl (Or.inl rfl) (pv 3))) phs_nil))
    (pss_one (ps_ret (pv 2)))), ?_⟩
  refine ⟨⟨_, rfl, _, rfl, lt2, fun g hg => ?_⟩, fun C σ' H' hl ht => ?_⟩
  · have s1 := same_new hg (.lst [.int 1, .int 2])
    refine ⟨v, F, _, _, _, rfl, hF.same s1, hd, ?_⟩
    rcases he with ⟨e, rfl⟩ | ⟨e, rfl⟩
    · rw [e]
      exact ⟨cs 0, rfl, s1, rfl⟩
    · rw [e]
      exact ⟨cs 1, rfl, s1, rfl⟩
  · obtain ⟨s1, rfl⟩ := ht
    have hx : PySem.W.exmOne K (.ref (cs i)) (.ref CF) = some true := by
      rcases he with ⟨_, rfl⟩ | ⟨_, rfl⟩
      · exact X6.h0
      · exact X6.h1
    have l4 : σ'.length = 4 := by
      rw [hl]
      rfl
    refine .inl ⟨hx, fun ea hea => ?_⟩
    have s2 := same_new hea (XO ea (cs i))
    refine ⟨.ref ea, List.getElem?_set_self (by rw [l4]; decide), ?_⟩
    refine ⟨.ref ea, ?_, q ea _ (s1.trans s2) upd_same⟩
    rw [List.getElem?_set_ne (by decide)]
    exact List.getElem?_set_self (by rw [List.length_set, l4]; decide)
theorem scPl : FnScope ["_law_number"] ["_law_number"] (defScope s_law_plain) := ⟨rfl, rfl, rfl, by decide +kernel, rfl, by decide +kernel, by decide +kernel⟩
def spPl : Sp := fun vs H Q _ => ∃ n : Int, vs = [.int n] ∧ ∀ t, H t = none → Q (.ref t) (upd H t (.tup [.str "number", .int n]))
theorem ok_Pl (D : Df K mg "_law_plain" s_law_plain ["_law_number"] f fd) : FnOk P w K mg base CX0 1 f fd ["_law_number"] spPl := by
  refine D.F.ok scPl (fun vs H Q E h => ?_) (fun cdv A outer s H vs Q E hr h => ?_)
  · obtain ⟨n, rfl, _⟩ := h
    rfl
  obtain ⟨n, rfl, q⟩ := h
  refine ⟨_, pss_one (ps_ret (pe_tup (pa_cons pe_str (pa_cons (pv 0) pa_nil)))), ?_⟩
  exact ⟨_, rfl, lt2, fun t ht => q t ht⟩
end
end My
set_option Elab.async false
set_option linter.all false
set_option maxRecDepth 100000
set_option maxHeartbeats 4000000
namespace My
open PySem L2
theorem lt3 : 3 ≤ sizeLine := by decide
theorem lt1 : 1 ≤ sizeLine := by decide
/-- the copy of the model's machines -/
theorem alike_one {H H' : Hp} {l t b q c d : Addr} {v' : V} (hl : H l = some (.lst [.ref t])) (ht : H t = some (.tup [.str "one", .ref b, .ref q, .ref c, .ref d])) (hb : H b = some (.lst [])) (hq : H q = some (.lst [])) (al : Alike H H' 3 (.ref l) v') :
    ∃ (l' t' b' q' : Addr) (n0 x3 x4 : V), v' = .ref l' ∧ H' l' = some (.lst [.ref t']) ∧ H' t' = some (.tup [n0, .ref b', .ref q', x3, x4]) ∧ H' b' = some (.lst []) ∧ H' q' = some (.lst []) := by
  have empty : ∀ {a : Addr} {y : V}, H a = some (.lst []) → Alike H H' 1 (.ref a) y → ∃ a' : Addr, y = .ref a' ∧ H' a' = some (.lst []) := fun {a y} ha z => by
    rcases z with ⟨z, _⟩ | ⟨p, p', xs, ys, e1, e2, h1, h2, r⟩ | ⟨p, p', xs, ys, e1, e2, h1, h2, r⟩
    · exact z.elim
    · cases e1
      rw [ha] at h1
      cases h1
      cases r
      exact ⟨p', e2, h2⟩
    · cases e1
      rw [ha] at h1
      cases h1
  rcases al with ⟨z, _⟩ | ⟨p, p', xs, ys, e1, e2, h1, h2, r⟩ | ⟨p, p', xs, ys, e1, e2, h1, h2, r⟩
  · exact z.elim
  · cases e1
    rw [hl] at h1
    cases h1
    cases r with
    | cons r1 r2 =>
      cases r2
      rcases r1 with ⟨z, _⟩ | ⟨p1, p1', xs1, ys1, f1, f2, g1, g2, s⟩ | ⟨p1, p1', xs1, ys1, f1, f2, g1, g2, s⟩
      · exact z.elim
      · cases f1
        rw [ht] at g1
        cases g1
      · cases f1
        rw [ht] at g1
        cases g1
        cases s with
        | cons s1 s =>
          cases s with
          | cons s2 s =>
            cases s with
            | cons s3 s =>
              cases s with
              | cons s4 s =>
                cases s with
                | cons s5 s =>
                  cases s
                  obtain ⟨b', eb, hb'⟩ := empty hb s2
                  obtain ⟨q', eq, hq'⟩ := empty hq s3
                  subst eb eq f2
                  exact ⟨p', p1', b', q', _, _, _, e2, h2, g2, hb', hq'⟩
  · cases e1
    rw [hl] at h1
    cases h1

def spLaw (K : PySem.W.Frag) : Sp := fun vs H Q _ => ∃ (a : Addr) (ns : List Int), vs = [.ref a] ∧ SqL K H a (ns.map V.int) ∧ ns.length ≤ 63 ∧ (∀ x ∈ ns, Builtin.Int.intBits x ≤ 1048576) ∧ ∀ H', Q (.bl true) H'
theorem if_i {t : TT} {a b : TS} {D : Ends} {σ : St} {H : Hp} (h : t σ H fun c H1 => if c = true then a D σ H1 else b D σ H1) : tIfS t a b D σ H := h
theorem test_i {t : TE} {σ : St} {H : Hp} {Q : Bool → Hp → Prop} (h : t σ H fun x H' => ∃ k, x = .bl k ∧ Q k H') : tTest t σ H Q := h
theorem op_i {r : R2} {ta tb : TE} {σ : St} {H : Hp} {Q : VK} (h : ta σ H fun x H1 => tb σ H1 fun y H2 => r x y H2 Q) : tOp r ta tb σ H Q := h
theorem iteE {c : Bool} {b : Bool} {p q : Prop} (h : c = b) (t : if b = true then p else q) : if c = true then p else q := by
  rw [h]
  exact t
theorem ix_listK {X : Cx} (K : PySem.W.Frag) (hK : X.K = K) : IxR X (rIxL K) := by
  rw [← hK]
  exact ix_list
theorem pg_tupK {X : Cx} {pos : Pos} {es : List Expr} {k : Nat} {t : TGs} {n : Nat} (K : PySem.W.Frag) (hK : X.K = K) (hc : X.calm = true) (h : PGs X es t)
    (hn : (assignEach es X.env).length = n := by rfl) (hst : (assignEach es X.env).findIdx? (·.1) = none := by rfl) : PG X (.Tuple es k pos) (gTup K n t) := by
  rw [← hK]
  exact pg_tup hc h hn hst
/-- the tuples stay -/
def Tk (H H' : Hp) : Prop := ∀ t xs, H t = some (.tup xs) → H' t = some (.tup xs)
theorem Tk.of {H H' : Hp} (s : Same H H') : Tk H H' := fun _ _ e => s _ _ e
theorem Tk.new {H : Hp} {a : Addr} {o : HO} (h : H a = none) : Tk H (upd H a o) := Tk.of (same_new h o)
theorem Tk.but {p : Addr} {H H' : Hp} (pu : Purse H p) (b : But p H H') : Tk H H' := fun t xs e => by
  obtain ⟨x, y, z⟩ := pu
  exact b t _ e (ne_of e z (by intro q; cases q))
theorem Tk.trans {A B C : Hp} (h : Tk A B) (g : Tk B C) : Tk A C := fun t xs e => g t xs (h t xs e)
theorem FmIn.tk {H H' : Hp} {v : V} {f : Fm} (h : FmIn H v f) (s : Tk H H') : FmIn H' v f := by
  induction h with
  | num h1 h2 => exact .num (s _ _ h1) h2
  | two h1 h2 _ _ i1 i2 => exact .two (s _ _ h1) h2 i1 i2
/-- what is asked: a formula with a fault, and which -/
def Ask (H : Hp) (v : V) : Prop := ∃ (t : Addr) (u : V) (F : Fm) (i : Nat), v = .ref t ∧ H t = some (.tup [u, .int i]) ∧ FmIn H u F ∧ F.depth ≤ 3 ∧ ((ev F = .nought ∧ i = 0) ∨ (ev F = .great ∧ i = 1))
theorem Ask.tk {H H' : Hp} {v : V} (h : Ask H v) (s : Tk H H') : Ask H' v := by
  obtain ⟨t, u, F, i, e, h1, h2, h3⟩ := h
  exact ⟨t, u, F, i, e, s _ _ h1, h2.tk s, h3⟩
section
variable {P : Program} {w : World} {K : PySem.W.Frag} {mg : Str → Option Value} {base : Heap} {f fP fM fD fF fI fMI fC fWo fNT fND fNL fS fR fCt fPl fW0 fW1 fW2 fW3 fW4 fW5 fWF CM CS CF CE : Addr} {fd fdP fdM fdD fdF fdI fdMI fdC fdWo fdNT fdND fdNL fdS fdR fdCt fdPl fdW0 fdW1 fdW2 fdW3 fdW4 fdW5 fdWF : FuncData} {cs : Nat → Addr}
abbrev nL6 : List Str := ["_law_script", "_law_purse_here", "_law_made", "_law_bare", "_law_state", "_law_great", "_law_nought", "_law_word", "_law_asked"]
theorem scL : FnScope nL6 ["_law_script"] (defScope s_law) := ⟨rfl, rfl, rfl, by decide +kernel, rfl, by decide +kernel, by decide +kernel⟩
theorem ndL6 : ((["_law_at"] : List Str) ++ nL6).Nodup := by decide +kernel
theorem ndL62 : ((["_law_one", "_law_at"] : List Str) ++ nL6).Nodup := by decide +kernel
def lawPS {cdv : Value} {A : Around} {outer : List Env} {s : Shared} {H : Hp} {E : XK} (DP : Df K mg "_law_purse" s_law_purse ["_law_script"] fP fdP) (DD : Df K mg "_law_draw" s_law_draw ["_law_purse_here", "_law_out_of"] fD fdD)
    (DF : Df K mg "first_state" s_first_state ["model", "at"] fF fdF) (MM : Mk K CM fMI) (bMI : Binds K fdMI ["self", "machines"] []) (DS : Df K mg "_law_sorts" s_law_sorts ["_law_error"] fS fdS) (DR : Df K mg "_law_right" s_law_right ["_law_error", "_law_at"] fR fdR) (DCt : Df K mg "_law_caught" s_law_caught ["_law_formula", "_law_state"] fCt fdCt)
    (DPl : Df K mg "_law_plain" s_law_plain ["_law_number"] fPl fdPl) (mWF : Meth K CF "word" fWF) (bWF : Binds K fdWF ["self"] []) (B : Bl mg) (X6 : Ex K mg cs CF CE) (TM : MdT K mg CM CS)
    (GP : FnOk P w K mg base CX0 2 fP fdP ["_law_script"] (spPurse K)) (GD : FnOk P w K mg base CX0 1 fD fdD ["_law_purse_here", "_law_out_of"] spDraw) (GF : FnOk P w K mg base CX0 3 fF fdF ["model", "at"] (spFirst CM)) (GMI : FnOk P w K mg base CX0 5 fMI fdMI ["self", "machines"] (spMI CM 3))
    (GCt : FnOk P w K mg base CX0 6 fCt fdCt ["_law_formula", "_law_state"] (spCt cs)) (GS : FnOk P w K mg base CX0 1 fS fdS ["_law_error"] (spSo K cs)) (GPl : FnOk P w K mg base CX0 1 fPl fdPl ["_law_number"] spPl) (GWF : FnOk P w K mg base CX0 1 fWF fdWF ["self"] (spWord "fault"))
    (GR : FnOk P w K mg base CX0 2 fR fdR ["_law_error", "_law_at"] (fun vs H Q E => ∃ i, i < 8 ∧ spRi cs i vs H Q E))
    (r1 : Room 1 (A.deeper (PyProof.Rows.envOfC "law" (defScope s_law) s.heap.objs.size f cdv))) (r2 : Room 2 (A.deeper (PyProof.Rows.envOfC "law" (defScope s_law) s.heap.objs.size f cdv))) (r3 : Room 3 (A.deeper (PyProof.Rows.envOfC "law" (defScope s_law) s.heap.objs.size f cdv))) (r6 : Room (5 + 1) (A.deeper (PyProof.Rows.envOfC "law" (defScope s_law) s.heap.objs.size f cdv))) :=
  (show PSs (cxOf CX0 P w K mg base nL6 "law" (defScope s_law) f cdv A outer s H E).nox (defBody s_law) _ from (pss_cons (ps_set (i := 1) scL.nd rfl (Or.inl rfl) (pe_call GP r2 rfl DP.m DP.F.kp DP.b .nil pass0 (pa_cons (pv 0) pa_nil)))
    (pss_cons (ps_set (i := 2) scL.nd rfl (Or.inr rfl) (pe_lst (pa_cons (pe_makeX (by rfl) X6.m0 (X6.kp 0 (by decide)) (X6.x 0 (by decide)) (pa_cons pe_str pa_nil)) (pa_cons (pe_makeX (by rfl) X6.m1 (X6.kp 1 (by decide)) (X6.x 1 (by decide)) (pa_cons pe_str pa_nil)) (pa_cons (pe_makeX (by rfl) X6.m2 (X6.kp 2 (by decide)) (X6.x 2 (by decide)) (pa_cons pe_str pa_nil)) (pa_cons (pe_makeX (by rfl) X6.m3 (X6.kp 3 (by decide)) (X6.x 3 (by decide)) (pa_cons pe_str pa_nil)) (pa_cons (pe_makeX (by rfl) X6.m4 (X6.kp 4 (by decide)) (X6.x 4 (by decide)) (pa_cons pe_str pa_nil)) (pa_cons (pe_makeX (by rfl) X6.m5 (X6.kp 5 (by decide)) (X6.x 5 (by decide)) (pa_cons pe_str pa_nil)) (pa_cons (pe_makeX (by rfl) X6.m6 (X6.kp 6 (by decide)) (X6.x 6 (by decide)) (pa_cons pe_str pa_nil)) (pa_cons (pe_makeX (by rfl) X6.m7 (X6.kp 7 (by decide)) (X6.x 7 (by decide)) (pa_cons pe_str pa_nil)) pa_nil))))))))))
    (pss_cons (ps_if (pt_cmpR op_gt (pe_callB call_len_seq (by rfl) B.len PySem.boot_len (pa_cons (pe_comp ["_law_at"] (CompOk.open (NN := nL6) (N := nL6) (sc := defScope s_law) rfl rfl (by decide +kernel) rfl (by decide +kernel) (by decide +kernel) rfl (by decide +kernel)) rfl (pi_range1 rfl B.range (pa_cons pe_int pa_nil)) (fun _ _ _ _ => pg_name (i := 0) ndL6 rfl (Or.inl rfl)) (fun _ _ _ _ => pts_one (pt_not (pt_val (pe_call GR r2 (by rfl) DR.m DR.F.kp DR.b .nil pass0 (pa_cons (pe_ix (ix_listK K (by rfl)) (pv 3) (pv 0) (by intro _ _; rfl)) (pa_cons (pv 0) pa_nil)))))) (fun _ _ _ _ => pv 0)) pa_nil)) pe_int (nomark _)) (pss_one (ps_ret pe_bl)) pss_nil)
    (pss_cons (ps_set (i := 3) scL.nd rfl (Or.inl rfl) (pe_makeX (by rfl) X6.mF X6.kpF X6.xF (pa_cons pe_str pa_nil)))
    (pss_cons (ps_if (pw_or (pt_cmpR op_ne (pe_methX (pv 3) X6.cF mWF GWF r1 bWF pass0) pe_str (nomark _)) (pw_or (pt_cmpR op_in_seq pe_bl (pe_call GS r1 (by rfl) DS.m DS.F.kp DS.b .nil pass0 (pa_cons (pv 3) pa_nil)) (by rfl)) (pw_or1 (pt_not (pt_val (pe_callB call_isinstX (by rfl) B.isi boot_isi (pa_cons (pv 3) (pa_cons (pe_glob (v := .ref CE) (by rfl) X6.mE rfl) pa_nil)))))))).pt (pss_one (ps_ret pe_bl)) pss_nil)
    (pss_cons (ps_set (i := 4) scL.nd rfl (Or.inr rfl) (pe_call GF r3 rfl DF.m DF.F.kp DF.b .nil pass0 (pa_cons (pe_make MM GMI r6 (by rfl) TM.mM bMI .nil pass0 (pa_cons (pe_lst (pa_cons (pe_tup (pa_cons pe_str (pa_cons (pe_lst pa_nil) (pa_cons (pe_lst pa_nil) (pa_cons (pe_lst pa_nil) (pa_cons (pe_lst pa_nil) pa_nil)))))) pa_nil)) pa_nil)) (pa_cons pe_int pa_nil))))
    (pss_cons (ps_set (i := 5) scL.nd rfl (Or.inl rfl) (pe_tup (pa_cons pe_str (pa_cons (pe_call GPl r1 (by rfl) DPl.m DPl.F.kp DPl.b .nil pass0 (pa_cons (pe_op op_sub (pe_op op_pow pe_int pe_int) (pe_call GD r1 (by rfl) DD.m DD.F.kp DD.b .nil pass0 (pa_cons (pv 1) (pa_cons pe_int pa_nil)))) pa_nil)) (pa_cons (pe_call GPl r1 (by rfl) DPl.m DPl.F.kp DPl.b .nil pass0 (pa_cons (pe_op op_add pe_int (pe_call GD r1 (by rfl) DD.m DD.F.kp DD.b .nil pass0 (pa_cons (pv 1) (pa_cons (pe_op op_sub (pe_op op_pow pe_int pe_int) pe_int) pa_nil)))) pa_nil)) pa_nil)))))
    (pss_cons (ps_set (i := 6) scL.nd rfl (Or.inl rfl) (pe_tup (pa_cons (pe_ix ix_list (pe_lst (pa_cons pe_str (pa_cons pe_str pa_nil))) (pe_call GD r1 (by rfl) DD.m DD.F.kp DD.b .nil pass0 (pa_cons (pv 1) (pa_cons pe_int pa_nil))) (fun _ _ => rfl)) (pa_cons (pe_call GPl r1 (by rfl) DPl.m DPl.F.kp DPl.b .nil pass0 (pa_cons (pe_call GD r1 (by rfl) DD.m DD.F.kp DD.b .nil pass0 (pa_cons (pv 1) (pa_cons pe_int pa_nil))) pa_nil)) (pa_cons (pe_call GPl r1 (by rfl) DPl.m DPl.F.kp DPl.b .nil pass0 (pa_cons pe_int pa_nil)) pa_nil)))))
    (pss_cons (ps_set (i := 7) scL.nd rfl (Or.inl rfl) (pe_ix ix_list (pe_lst (pa_cons pe_str (pa_cons pe_str (pa_cons pe_str (pa_cons pe_str (pa_cons pe_str (pa_cons pe_str (pa_cons pe_str pa_nil)))))))) (pe_call GD r1 (by rfl) DD.m DD.F.kp DD.b .nil pass0 (pa_cons (pv 1) (pa_cons pe_int pa_nil))) (fun _ _ => rfl)))
    (pss_cons (ps_set (i := 8) scL.nd rfl (Or.inl rfl) (pe_lst (pa_cons (pe_tup (pa_cons (pv 5) (pa_cons pe_int pa_nil))) (pa_cons (pe_tup (pa_cons (pv 6) (pa_cons pe_int pa_nil))) (pa_cons (pe_tup (pa_cons (pe_tup (pa_cons (pv 7) (pa_cons (pv 5) (pa_cons (pv 6) pa_nil)))) (pa_cons pe_int pa_nil))) (pa_cons (pe_tup (pa_cons (pe_tup (pa_cons (pv 7) (pa_cons (pv 6) (pa_cons (pv 5) pa_nil)))) (pa_cons pe_int pa_nil))) pa_nil))))))
    (pss_cons (ps_set (i := 8) scL.nd rfl (Or.inl rfl) (pe_op op_cat (pv 8) (pe_lst (pa_cons (pe_tup (pa_cons (pe_tup (pa_cons (pv 7) (pa_cons (pe_call GPl r1 (by rfl) DPl.m DPl.F.kp DPl.b .nil pass0 (pa_cons pe_int pa_nil)) (pa_cons (pv 5) pa_nil)))) (pa_cons pe_int pa_nil))) (pa_cons (pe_tup (pa_cons (pe_tup (pa_cons (pv 7) (pa_cons (pv 6) (pa_cons (pe_call GPl r1 (by rfl) DPl.m DPl.F.kp DPl.b .nil pass0 (pa_cons pe_int pa_nil)) pa_nil)))) (pa_cons pe_int pa_nil))) pa_nil)))))
    (pss_cons (ps_set (i := 8) scL.nd rfl (Or.inl rfl) (pe_op op_cat (pv 8) (pe_lst (pa_cons (pe_tup (pa_cons (pe_tup (pa_cons pe_str (pa_cons (pv 5) (pa_cons (pe_call GPl r1 (by rfl) DPl.m DPl.F.kp DPl.b .nil pass0 (pa_cons pe_int pa_nil)) pa_nil)))) (pa_cons pe_int pa_nil))) (pa_cons (pe_tup (pa_cons (pe_tup (pa_cons pe_str (pa_cons (pe_call GPl r1 (by rfl) DPl.m DPl.F.kp DPl.b .nil pass0 (pa_cons pe_int pa_nil)) (pa_cons (pv 6) pa_nil)))) (pa_cons pe_int pa_nil))) pa_nil)))))
    (pss_one (ps_ret (pe_cmpR op_eq (pe_callB call_len_seq (by rfl) B.len PySem.boot_len (pa_cons (pe_comp ["_law_one", "_law_at"] (CompOk.open (NN := nL6) (N := nL6) (sc := defScope s_law) rfl rfl (by decide +kernel) rfl (by decide +kernel) (by decide +kernel) rfl (by decide +kernel)) rfl (pi_list (pv 8)) (fun _ _ _ _ => pg_tupK (n := 2) K (by rfl) rfl (pgs_cons (pg_name (i := 0) ndL62 rfl (Or.inl rfl)) (pgs_cons (pg_name (i := 1) ndL62 rfl (Or.inl rfl)) pgs_nil))) (fun _ _ _ _ => pts_one (pt_not (pt_val (pe_call GR r2 (by rfl) DR.m DR.F.kp DR.b .nil pass0 (pa_cons (pe_call GCt r6 (by rfl) DCt.m DCt.F.kp DCt.b .nil pass0 (pa_cons (pv 0) (pa_cons (pv 6) pa_nil))) (pa_cons (pv 1) pa_nil)))))) (fun _ _ _ _ => pv 0)) pa_nil)) pe_int (nomark _)))))))))))))))))
end
end My
set_option Elab.async false
set_option linter.all false
set_option maxRecDepth 100000
set_option maxHeartbeats 4000000
namespace My
open PySem L2
theorem ret_i {te : TE} {D : Ends} {σ : St} {H : Hp} (h : te σ H D.rt) : tRet te D σ H := h
theorem comp_var {K : PySem.W.Frag} {a : Addr} {xs : List V} {n i : Nat} {g : TG} {tc : TT} {te : TE} {σ : St} {H : Hp} {Q : VK} (hv : σ[i]? = some (some (.ref a))) (hx : SqL K H a xs) (Pv : Nat → List V → Hp → Prop) (h0 : Pv 0 [] H)
    (hl : ∀ i ys H, i ≤ xs.length → Pv i ys H → SqL K H a xs ∧ ys.length < sizeLine)
    (hs : ∀ i x ys H, xs[i]? = some x → Pv i ys H → g x (List.replicate n none ++ σ) H fun σ2 H2 => σ2.drop n = σ ∧ tc σ2 H2 fun b H3 => if b = true then te σ2 H3 fun y H4 => Pv (i + 1) (ys ++ [y]) H4 else Pv (i + 1) ys H3)
    (hd : ∀ ys H, Pv xs.length ys H → ∀ p, H p = none → Q (.ref p) (upd H p (.lst ys))) : tComp n (iList K (tVar i)) g tc te σ H Q :=
  ⟨.ref a, hv, a, rfl, ⟨xs, hx⟩, comp_list Pv h0 hl hs hd⟩
theorem ev_great {A B : Int} (hA : 10 ^ 15 - 8 ≤ A) (hB : 2 ≤ B) : ev (.two "times" (.num A) (.num B)) = .great := by
  have e : twoOf "times" A B = .ok (A * B) := by
    unfold twoOf
    rw [if_neg (by decide +kernel), if_neg (by decide +kernel), if_pos rfl]
  have m : A * 2 ≤ A * B := Int.mul_le_mul_of_nonneg_left hB (by omega)
  show cap (twoOf "times" A B) = .great
  rw [e]
  show (if 10 ^ 15 < sizeI (A * B) then Rs.great else .ok (A * B)) = .great
  rw [if_pos]
  unfold sizeI
  rw [if_neg (by omega)]
  omega
theorem ev_nought {k : Str} {x : Int} (h : k = "part" ∨ k = "rest") : ev (.two k (.num x) (.num 0)) = .nought := by
  have e : twoOf k x 0 = .nought := by
    unfold twoOf
    rcases h with rfl | rfl <;> rw [if_neg (by decide +kernel), if_neg (by decide +kernel), if_neg (by decide +kernel), if_neg (by decide +kernel), if_neg (by decide +kernel), if_pos rfl]
  show cap (twoOf k x 0) = .nought
  rw [e]
  rfl
theorem ev_l {k : Str} {f g : Fm} {r : Rs} (h : ev f = r) (nr : r = .nought ∨ r = .great) : ev (.two k f g) = r := by
  show (match ev f with | .ok a => (match ev g with | .ok b => cap (twoOf k a b) | .nought => Rs.nought | .great => .great) | .nought => Rs.nought | .great => .great) = r
  rw [h]
  rcases nr with rfl | rfl <;> rfl
theorem ev_r {k : Str} {f g : Fm} {r : Rs} {a : Int} (hf : ev f = .ok a) (h : ev g = r) (nr : r = .nought ∨ r = .great) : ev (.two k f g) = r := by
  show (match ev f with | .ok a => (match ev g with | .ok b => cap (twoOf k a b) | .nought => Rs.nought | .great => .great) | .nought => Rs.nought | .great => .great) = r
  rw [hf, h]
  rcases nr with rfl | rfl <;> rfl
theorem two3 {k : Str} {f g : Fm} (h1 : f.depth ≤ 2) (h2 : g.depth ≤ 2) : (Fm.two k f g).depth ≤ 3 := by
  unfold Fm.depth
  omega
theorem num2 {n : Int} : (Fm.num n).depth ≤ 2 := by
  show 1 ≤ 2
  decide
section
variable {P : Program} {w : World} {K : PySem.W.Frag} {mg : Str → Option Value} {base : Heap} {f fP fM fD fF fI fMI fC fWo fNT fND fNL fS fR fCt fPl fW0 fW1 fW2 fW3 fW4 fW5 fWF CM CS CF CE : Addr} {fd fdP fdM fdD fdF fdI fdMI fdC fdWo fdNT fdND fdNL fdS fdR fdCt fdPl fdW0 fdW1 fdW2 fdW3 fdW4 fdW5 fdWF : FuncData} {cs : Nat → Addr}

theorem ok_law (D : Df K mg "law" s_law ["_law_script"] f fd) (DP : Df K mg "_law_purse" s_law_purse ["_law_script"] fP fdP) (DM : Df K mg "_law_mixed" s_law_mixed ["_law_cell", "_law_k"] fM fdM) (DD : Df K mg "_law_draw" s_law_draw ["_law_purse_here", "_law_out_of"] fD fdD)
    (DF : Df K mg "first_state" s_first_state ["model", "at"] fF fdF) (MS : Mk K CS fI) (FI : Fun K "__init__" "State.__init__" s_State_init fI fdI) (bI : Binds K fdI ["self", "boxes", "queues", "drawn", "sent"] [])
    (MM : Mk K CM fMI) (FMI : Fun K "__init__" "Model.__init__" s_Model_init fMI fdMI) (bMI : Binds K fdMI ["self", "machines"] []) (DC : Df K mg "copied" s_copied ["thing"] fC fdC)
    (DWo : Df K mg "worth_of" s_worth_of ["formula", "state", "now", "got"] fWo fdWo) (DNT : Df K mg "number_of_two" s_number_of_two ["kind", "first", "second"] fNT fdNT) (DND : Df K mg "number_of_division" s_number_of_division ["kind", "first", "second"] fND fdND)
    (DNL : Df K mg "number_of_leaf" s_number_of_leaf ["formula", "state", "now", "got"] fNL fdNL) (DS : Df K mg "_law_sorts" s_law_sorts ["_law_error"] fS fdS) (DR : Df K mg "_law_right" s_law_right ["_law_error", "_law_at"] fR fdR) (DCt : Df K mg "_law_caught" s_law_caught ["_law_formula", "_law_state"] fCt fdCt)
    (DPl : Df K mg "_law_plain" s_law_plain ["_law_number"] fPl fdPl) (mW0 : Meth K (cs 0) "word" fW0) (bW0 : Binds K fdW0 ["self"] []) (FW0 : Fun K "word" "Nought.word" s_Nought_word fW0 fdW0) (mW1 : Meth K (cs 1) "word" fW1) (bW1 : Binds K fdW1 ["self"] []) (FW1 : Fun K "word" "Great.word" s_Great_word fW1 fdW1) (mW2 : Meth K (cs 2) "word" fW2) (bW2 : Binds K fdW2 ["self"] []) (FW2 : Fun K "word" "Full.word" s_Full_word fW2 fdW2) (mW3 : Meth K (cs 3) "word" fW3) (bW3 : Binds K fdW3 ["self"] []) (FW3 : Fun K "word" "Dry.word" s_Dry_word fW3 fdW3) (mW4 : Meth K (cs 4) "word" fW4) (bW4 : Binds K fdW4 ["self"] []) (FW4 : Fun K "word" "Span.word" s_Span_word fW4 fdW4) (mW5 : Meth K (cs 5) "word" fW5) (bW5 : Binds K fdW5 ["self"] []) (FW5 : Fun K "word" "Late.word" s_Late_word fW5 fdW5) (mWF : Meth K CF "word" fWF) (bWF : Binds K fdWF ["self"] []) (FWF : Fun K "word" "Fault.word" s_Fault_word fWF fdWF)
    (B : Bl mg) (X6 : Ex K mg cs CF CE) (TF : Fts K mg (cs 0) (cs 1)) (TM : MdT K mg CM CS) : FnOk P w K mg base CX0 12 f fd ["_law_script"] (spLaw K) := by
  have GP : FnOk P w K mg base CX0 2 fP fdP ["_law_script"] (spPurse K) := ok_purse DP DM B
  have GD : FnOk P w K mg base CX0 1 fD fdD ["_law_purse_here", "_law_out_of"] spDraw := ok_draw DD
  have GF : FnOk P w K mg base CX0 3 fF fdF ["model", "at"] (spFirst CM) := ok_first DF MS FI bI B TM
  have GMI : FnOk P w K mg base CX0 5 fMI fdMI ["self", "machines"] (spMI CM 3) := ok_MI FMI DC B TM
  have GWo : FnOk P w K mg base (CXo P w) 5 fWo fdWo ["formula", "state", "now", "got"] (spWo (cs 0) (cs 1) 3) := ok_wo DWo DNT DND DNL TF B 3
  have GCt : FnOk P w K mg base CX0 6 fCt fdCt ["_law_formula", "_law_state"] (spCt cs) := ok_Ct DCt DWo GWo X6
  have GS : FnOk P w K mg base CX0 1 fS fdS ["_law_error"] (spSo K cs) := ok_So DS B X6
  have GPl : FnOk P w K mg base CX0 1 fPl fdPl ["_law_number"] spPl := ok_Pl DPl
  have GWF : FnOk P w K mg base CX0 1 fWF fdWF ["self"] (spWord "fault") := ok_wFault FWF
  have GRi : ∀ i, i < 8 → FnOk P w K mg base CX0 2 fR fdR ["_law_error", "_law_at"] (spRi cs i) := fun i hi => by
    have c : i = 0 ∨ i = 1 ∨ i = 2 ∨ i = 3 ∨ i = 4 ∨ i = 5 ∨ i = 6 ∨ i = 7 := by omega
    rcases c with rfl | rfl | rfl | rfl | rfl | rfl | rfl | rfl
    · exact ok_Rilo DR DS B X6 (by decide) mW0 bW0 (ok_wNought FW0)
    · exact ok_Rilo DR DS B X6 (by decide) mW1 bW1 (ok_wGreat FW1)
    · exact ok_Rilo DR DS B X6 (by decide) mW2 bW2 (ok_wFull FW2)
    · exact ok_Rilo DR DS B X6 (by decide) mW3 bW3 (ok_wDry FW3)
    · exact ok_Rilo DR DS B X6 (by decide) mW4 bW4 (ok_wSpan FW4)
    · exact ok_Rilo DR DS B X6 (by decide) mW5 bW5 (ok_wLate FW5)
    · exact ok_Rihi DR DS B X6 (by decide) (by decide)
    · exact ok_Rihi DR DS B X6 (by decide) (by decide)
  have GR : FnOk P w K mg base CX0 2 fR fdR ["_law_error", "_law_at"] (fun vs H Q E => ∃ i, i < 8 ∧ spRi cs i vs H Q E) :=
    ⟨fun vs H Q E h => by obtain ⟨i, hi, h⟩ := h; exact (GRi i hi).len vs H Q E h, fun A outer s H args us vs Q E hr he hb hv h => by obtain ⟨i, hi, h⟩ := h; exact (GRi i hi).run A outer s H args us vs Q E hr he hb hv h⟩
  refine D.F.ok scL (fun vs H Q E h => ?_) (fun cdv A outer s H vs Q E hr h => ?_)
  · obtain ⟨a, ns, rfl, _⟩ := h
    rfl
  obtain ⟨a, ns, rfl, hS, hlen, hbits, k⟩ := h
  have r1 : Room 1 _ := hr.mono (by decide)
  have r2 : Room 2 _ := hr.mono (by decide)
  have r3 : Room 3 _ := hr.mono (by decide)
  have r6 : Room (5 + 1) _ := hr.mono (by decide)
  refine ⟨_, lawPS (A := A) (cdv := cdv) (outer := outer) (s := s) (H := H) (E := E) DP DD DF MM bMI DS DR DCt DPl mWF bWF B X6 TM GP GD GF GMI GCt GS GPl GWF GR r1 r2 r3 r6, ?_⟩
  have c15 : CPow 10 15 := ⟨by decide, by decide, by decide⟩
  have e15 : (10 : Int) ^ (15 : Int).toNat = 1000000000000000 := by decide
  -- the purse
  refine ⟨_, rfl, a, ns, rfl, hS, hlen, hbits, fun p H1 _ pu1 _ => ?_⟩
  -- the eight
  refine ⟨lt1, fun a0 g0 => ⟨lt1, fun a1 g1 => ⟨lt1, fun a2 g2 => ⟨lt1, fun a3 g3 => ⟨lt1, fun a4 g4 => ⟨lt1, fun a5 g5 => ⟨lt1, fun a6 g6 => ⟨lt1, fun a7 g7 => ⟨len8, fun l gl => ?_⟩⟩⟩⟩⟩⟩⟩⟩⟩
  have t0 := same_new g0 (XO a0 (cs 0))
  have t1 := same_new g1 (XO a1 (cs 1))
  have t2 := same_new g2 (XO a2 (cs 2))
  have t3 := same_new g3 (XO a3 (cs 3))
  have t4 := same_new g4 (XO a4 (cs 4))
  have t5 := same_new g5 (XO a5 (cs 5))
  have t6 := same_new g6 (XO a6 (cs 6))
  have t7 := same_new g7 (XO a7 (cs 7))
  have tl := same_new gl (.lst [.ref a0, .ref a1, .ref a2, .ref a3, .ref a4, .ref a5, .ref a6, .ref a7])
  have b7 := tl _ _ (upd_same : upd _ a7 (XO a7 (cs 7)) a7 = _)
  have b6 := tl _ _ (t7 _ _ (upd_same : upd _ a6 (XO a6 (cs 6)) a6 = _))
  have b5 := tl _ _ (t7 _ _ (t6 _ _ (upd_same : upd _ a5 (XO a5 (cs 5)) a5 = _)))
  have b4 := tl _ _ (t7 _ _ (t6 _ _ (t5 _ _ (upd_same : upd _ a4 (XO a4 (cs 4)) a4 = _))))
  have b3 := tl _ _ (t7 _ _ (t6 _ _ (t5 _ _ (t4 _ _ (upd_same : upd _ a3 (XO a3 (cs 3)) a3 = _)))))
  have b2 := tl _ _ (t7 _ _ (t6 _ _ (t5 _ _ (t4 _ _ (t3 _ _ (upd_same : upd _ a2 (XO a2 (cs 2)) a2 = _))))))
  have b1 := tl _ _ (t7 _ _ (t6 _ _ (t5 _ _ (t4 _ _ (t3 _ _ (t2 _ _ (upd_same : upd _ a1 (XO a1 (cs 1)) a1 = _)))))))
  have b0 := tl _ _ (t7 _ _ (t6 _ _ (t5 _ _ (t4 _ _ (t3 _ _ (t2 _ _ (t1 _ _ (upd_same : upd _ a0 (XO a0 (cs 0)) a0 = _))))))))
  have bl := upd_same (H := upd (upd (upd (upd (upd (upd (upd (upd H1 a0 (XO a0 (cs 0))) a1 (XO a1 (cs 1))) a2 (XO a2 (cs 2))) a3 (XO a3 (cs 3))) a4 (XO a4 (cs 4))) a5 (XO a5 (cs 5))) a6 (XO a6 (cs 6))) a7 (XO a7 (cs 7))) (a := l) (o := HO.lst [V.ref a0, .ref a1, .ref a2, .ref a3, .ref a4, .ref a5, .ref a6, .ref a7])
  have sA := t0.trans (t1.trans (t2.trans (t3.trans (t4.trans (t5.trans (t6.trans (t7.trans tl)))))))
  generalize upd (upd (upd (upd (upd (upd (upd (upd (upd H1 a0 (XO a0 (cs 0))) a1 (XO a1 (cs 1))) a2 (XO a2 (cs 2))) a3 (XO a3 (cs 3))) a4 (XO a4 (cs 4))) a5 (XO a5 (cs 5))) a6 (XO a6 (cs 6))) a7 (XO a7 (cs 7))) l (HO.lst [V.ref a0, .ref a1, .ref a2, .ref a3, .ref a4, .ref a5, .ref a6, .ref a7]) = H2 at b0 b1 b2 b3 b4 b5 b6 b7 bl sA ⊢
  have items : ∀ i : Nat, i < 8 → ∃ b : Addr, atI [V.ref a0, .ref a1, .ref a2, .ref a3, .ref a4, .ref a5, .ref a6, .ref a7] (0 + (i : Int)) = some (.ref b) ∧ H2 b = some (XO b (cs i)) := fun i hi => by
    have c : i = 0 ∨ i = 1 ∨ i = 2 ∨ i = 3 ∨ i = 4 ∨ i = 5 ∨ i = 6 ∨ i = 7 := by omega
    rcases c with rfl | rfl | rfl | rfl | rfl | rfl | rfl | rfl
    · exact ⟨a0, rfl, b0⟩
    · exact ⟨a1, rfl, b1⟩
    · exact ⟨a2, rfl, b2⟩
    · exact ⟨a3, rfl, b3⟩
    · exact ⟨a4, rfl, b4⟩
    · exact ⟨a5, rfl, b5⟩
    · exact ⟨a6, rfl, b6⟩
    · exact ⟨a7, rfl, b7⟩
  refine gname_i ?_
  dsimp only
  refine seq_i (if_i (test_i (op_i (cb_i (cons_i (comp_rngI 8 rfl (by decide) (by decide) (fun j ys G => ys = [] ∧ Same H2 G) ⟨rfl, Same.refl H2⟩ ?_ ?_ ?_))))))
  · rintro j ys G hj ⟨rfl, _⟩
    exact (by decide : 0 < sizeLine)
  · rintro j ys G hj ⟨rfl, sG⟩
    obtain ⟨b, hat, hb⟩ := items j hj
    refine ⟨rfl, ?_⟩
    refine ⟨_, rfl, _, rfl, l, _, _, _, rfl, rfl, SqL.of (sG _ _ bl), hat, _, rfl, j, hj, b, (by rw [Int.zero_add]; rfl), sG _ _ hb, fun G' s' => ⟨true, rfl, iteF ⟨rfl, sG.trans s'⟩⟩⟩
  rintro ys G ⟨rfl, sG⟩ l2 hl2
  refine ⟨l2, [], rfl, .inl (SqL.of upd_same), _, _, rfl, rfl, _, rfl, iteE (b := false) rfl (iteF ?_)⟩
  -- the bare one
  refine ⟨lt1, fun ab gb => ?_⟩
  have sB := sG.trans ((same_new hl2 (.lst [])).trans (same_new gb (XO ab CF)))
  have hab : upd (upd G l2 (.lst [])) ab (XO ab CF) ab = some (XO ab CF) := upd_same
  generalize upd (upd G l2 (.lst [])) ab (XO ab CF) = H3 at sB hab ⊢
  refine ⟨_, rfl, ab, rfl, hab, _, rfl, rfl, _, rfl, iteE (b := false) (by rw [decide_eq_true rfl]; rfl) (iteF ?_)⟩
  refine ⟨_, rfl, ab, CF, fun _ => false, rfl, hab, X6.cF, X6.kF, fun l3 H4 s4 hl3 => ⟨l3, _, rfl, .inl (SqL.of hl3), rfl, rfl, _, rfl, iteE (b := false) rfl (iteF ?_)⟩⟩
  refine ⟨_, rfl, ab, CF, _, .ref CE, true, rfl, rfl, fun _ z => z, s4 _ _ hab, X6.cF, X6.eF, true, rfl, iteF ?_⟩
  have pu4 : Purse H4 p := (pu1.same sA).same (sB.trans s4)
  -- the model
  refine ⟨Nat.zero_le _, fun b hb => ⟨Nat.zero_le _, fun q hq => ⟨Nat.zero_le _, fun c hc => ⟨Nat.zero_le _, fun d hd => ⟨lt5, fun t ht => ⟨lt1, fun l' hl' => ?_⟩⟩⟩⟩⟩⟩
  intro m dx nm ndx nem
  have q1 := same_new hb (.lst [])
  have q2 := same_new hq (.lst [])
  have q3 := same_new hc (.lst [])
  have q4 := same_new hd (.lst [])
  have q5 := same_new ht (.tup [.str "one", .ref b, .ref q, .ref c, .ref d])
  have q6 := same_new hl' (.lst [.ref t])
  have q7 := same_new ndx (.own m)
  have q8 := same_new ((upd_ne (o := .own m) nem.symm).trans nm) (.ins CM dx [])
  have q78 := q7.trans q8
  have at_l := q78 _ _ (upd_same : upd _ l' (.lst [.ref t]) l' = _)
  have at_t := q78 _ _ (q6 _ _ (upd_same : upd _ t (.tup [.str "one", .ref b, .ref q, .ref c, .ref d]) t = _))
  have at_d := q78 _ _ (q6 _ _ (q5 _ _ (upd_same : upd _ d (.lst []) d = _)))
  have at_c := q78 _ _ (q6 _ _ (q5 _ _ (q4 _ _ (upd_same : upd _ c (.lst []) c = _))))
  have at_q := q78 _ _ (q6 _ _ (q5 _ _ (q4 _ _ (q3 _ _ (upd_same : upd _ q (.lst []) q = _)))))
  have at_b := q78 _ _ (q6 _ _ (q5 _ _ (q4 _ _ (q3 _ _ (q2 _ _ (upd_same : upd _ b (.lst []) b = _))))))
  have allS := q1.trans (q2.trans (q3.trans (q4.trans (q5.trans (q6.trans q78)))))
  refine ⟨m, dx, .ref l', rfl, upd_same, .inr ⟨l', _, rfl, .inl at_l, (show 1 < 1000 by decide), fun x hx => ?_⟩, fun v' H5 s5 al => ⟨rfl, ?_⟩⟩
  · rw [List.mem_singleton.mp hx]
    refine .inr ⟨t, _, rfl, .inr at_t, (show 5 < 1000 by decide), fun y hy => ?_⟩
    have e : ∀ {z : Addr} {G : Hp}, G z = some (.lst []) → Tree G 1 (.ref z) := fun hz => .inr ⟨_, [], rfl, .inl hz, by decide, fun _ h => absurd h (by simp)⟩
    simp only [List.mem_cons, List.not_mem_nil, or_false] at hy
    rcases hy with rfl | rfl | rfl | rfl | rfl
    · exact .inl trivial
    · exact e at_b
    · exact e at_q
    · exact e at_c
    · exact e at_d
  obtain ⟨l1', t1', b1', q1', n0, x3, x4, rfl, al1, al2, al3, al4⟩ := alike_one at_l at_t at_b at_q al
  have hm2 : H5 m = some (.ins CM dx []) := s5 _ _ upd_same
  have u : ∀ {z : Addr} {o : HO}, H5 z = some o → o ≠ .ins CM dx [] → upd H5 m (.ins CM dx (putF "machines" (.ref l1') [])) z = some o := fun {z o} hz ho => by
    rw [upd_ne (ne_of hz hm2 ho)]
    exact hz
  obtain ⟨px, py, hp2⟩ := (pu4.same allS).same s5
  refine ⟨m, dx, l1', t1', b1', q1', _, n0, x3, x4, rfl, upd_same, (by rw [lookup_putF, if_pos rfl]), u al1 (by intro z; cases z), u al2 (by intro z; cases z), u al3 (by intro z; cases z), u al4 (by intro z; cases z), fun st H6 s6 => ?_⟩
  have pu6 : Purse H6 p := ⟨px, py, s6 _ _ (u hp2 (by intro z; cases z))⟩
  clear s6 u hm2 al1 al2 al3 al4 al s5 allS at_b at_q at_c at_d at_t at_l q78 q8 q7 q6 q5 q4 q3 q2 q1
  -- the great one
  refine ⟨_, _, rfl, rfl, c15, _, rfl, p, 9, rfl, pu6, by decide, by decide, fun d1 G1 d10 d11 pg1 e1 => ⟨_, _, rfl, rfl, _, rfl, fun u1 f1 => ?_⟩⟩
  refine ⟨_, rfl, _, _, rfl, rfl, c15, _, _, rfl, rfl, p, _, rfl, pg1.upd f1, ?_, ?_, fun d2 G2 d20 d21 pg2 e2 => ⟨_, _, rfl, rfl, _, rfl, fun u2 f2 => ⟨lt3, fun gr f3 => ?_⟩⟩⟩
  · rw [e15]; decide
  · rw [e15]; decide
  have w1 := Tk.but (pg1.upd f1) e2
  have w2 := Tk.new (o := .tup [.str "number", .int (2 + d2)]) f2
  have w3 := Tk.new (o := .tup [.str "times", .ref u1, .ref u2]) f3
  have woA : Wo (10 ^ (15 : Int).toNat - d1) := by
    unfold Wo
    rw [e15]
    omega
  have woB : Wo (2 + d2) := by
    rw [e15] at d21
    unfold Wo
    omega
  have hg : FmIn _ (.ref gr) (.two "times" (.num (10 ^ (15 : Int).toNat - d1)) (.num (2 + d2))) := .two (upd_same : upd _ gr (.tup [.str "times", .ref u1, .ref u2]) gr = _) (by decide +kernel) (.num (w3 _ _ (w2 _ _ (w1 _ _ upd_same))) woA) (.num (w3 _ _ upd_same) woB)
  have evG := ev_great (A := 10 ^ (15 : Int).toNat - d1) (B := 2 + d2) (by rw [e15]; omega) (by omega)
  have pu7 := (pg2.upd (o := .tup [.str "number", .int (2 + d2)]) f2).upd (o := .tup [.str "times", .ref u1, .ref u2]) f3
  have dG : (Fm.two "times" (.num (10 ^ (15 : Int).toNat - d1)) (.num (2 + d2))).depth ≤ 2 := Nat.le_refl _
  generalize Fm.two "times" (.num (10 ^ (15 : Int).toNat - d1)) (.num (2 + d2)) = FG at hg evG dG
  generalize upd (upd G2 u2 (.tup [.str "number", .int (2 + d2)])) gr (.tup [.str "times", .ref u1, .ref u2]) = H7 at hg pu7 ⊢
  clear w1 w2 w3
  -- the one divided by 0
  refine ⟨lt2, fun l5 k5 => ⟨_, rfl, p, 2, rfl, pu7.upd k5, by decide, by decide, fun j J1 j0 j1 pj1 ej1 => ?_⟩⟩
  have n5 : l5 ≠ p := by
    obtain ⟨x, y, e⟩ := pu7
    exact (ne_of_none e k5).symm
  obtain ⟨kw, hat, hkw⟩ : ∃ kw : Str, atI [V.str "part", .str "rest"] j = some (.str kw) ∧ (kw = "part" ∨ kw = "rest") := by
    have hj : j = 0 ∨ j = 1 := by omega
    rcases hj with rfl | rfl
    · exact ⟨_, rfl, .inl rfl⟩
    · exact ⟨_, rfl, .inr rfl⟩
  refine ⟨l5, _, _, _, rfl, rfl, SqL.of (ej1 _ _ upd_same n5), hat, _, rfl, p, 9, rfl, pj1, by decide, by decide, fun x J2 x0 x1 pj2 ej2 => ⟨_, rfl, fun v1 g1' => ⟨_, rfl, fun v2 g2' => ⟨lt3, fun no g3' => ?_⟩⟩⟩⟩
  have w1 := Tk.new (o := .lst [.str "part", .str "rest"]) k5
  have w2 := Tk.but (pu7.upd k5) ej1
  have w3 := Tk.but pj1 ej2
  have w4 := Tk.new (o := .tup [.str "number", .int x]) g1'
  have w5 := Tk.new (o := .tup [.str "number", .int 0]) g2'
  have w6 := Tk.new (o := .tup [.str kw, .ref v1, .ref v2]) g3'
  have hk7 : kw ∈ seven := by
    rcases hkw with rfl | rfl
    · decide +kernel
    · decide +kernel
  have hn : FmIn _ (.ref no) (.two kw (.num x) (.num 0)) := .two (upd_same : upd _ no (.tup [.str kw, .ref v1, .ref v2]) no = _) hk7 (.num (w6 _ _ (w5 _ _ upd_same)) (by unfold Wo; omega)) (.num (w6 _ _ upd_same) (by unfold Wo; omega))
  have evN := ev_nought (x := x) hkw
  have dN : (Fm.two kw (.num x) (.num 0)).depth ≤ 2 := Nat.le_refl _
  have hg := hg.tk (w1.trans (w2.trans (w3.trans (w4.trans (w5.trans w6)))))
  have pu8 := ((pj2.upd (o := .tup [.str "number", .int x]) g1').upd (o := .tup [.str "number", .int 0]) g2').upd (o := .tup [.str kw, .ref v1, .ref v2]) g3'
  generalize Fm.two kw (.num x) (.num 0) = FN at hn evN dN
  generalize upd (upd (upd J2 v1 (.tup [.str "number", .int x])) v2 (.tup [.str "number", .int 0])) no (.tup [.str kw, .ref v1, .ref v2]) = H8 at hg hn pu8 ⊢
  clear w1 w2 w3 w4 w5 w6
  -- the word
  refine ⟨lt7, fun l6 k6 => ⟨_, rfl, p, 7, rfl, pu8.upd k6, by decide, by decide, fun j2 J3 j20 j21 pj3 ej3 => ?_⟩⟩
  have n6 : l6 ≠ p := by
    obtain ⟨x, y, e⟩ := pu8
    exact (ne_of_none e k6).symm
  obtain ⟨ww, hat2, hww⟩ : ∃ ww : Str, atI [V.str "plus", .str "less", .str "times", .str "below", .str "same", .str "part", .str "rest"] j2 = some (.str ww) ∧ ww ∈ seven := by
    have hj : j2 = 0 ∨ j2 = 1 ∨ j2 = 2 ∨ j2 = 3 ∨ j2 = 4 ∨ j2 = 5 ∨ j2 = 6 := by omega
    rcases hj with rfl | rfl | rfl | rfl | rfl | rfl | rfl
    · exact ⟨_, rfl, by decide +kernel⟩
    · exact ⟨_, rfl, by decide +kernel⟩
    · exact ⟨_, rfl, by decide +kernel⟩
    · exact ⟨_, rfl, by decide +kernel⟩
    · exact ⟨_, rfl, by decide +kernel⟩
    · exact ⟨_, rfl, by decide +kernel⟩
    · exact ⟨_, rfl, by decide +kernel⟩
  refine ⟨l6, _, _, _, rfl, rfl, SqL.of (ej3 _ _ upd_same n6), hat2, ?_⟩
  have w0 := (Tk.new (o := .lst [.str "plus", .str "less", .str "times", .str "below", .str "same", .str "part", .str "rest"]) k6).trans (Tk.but (pu8.upd k6) ej3)
  have hg := hg.tk w0
  have hn := hn.tk w0
  clear w0
  -- what is asked
  refine ⟨_, rfl, lt2, fun x1 y1 => ⟨_, rfl, lt2, fun x2 y2 => ⟨_, rfl, _, rfl, _, rfl, lt3, fun x3 y3 => ⟨lt2, fun x4 y4 => ⟨_, rfl, _, rfl, _, rfl, lt3, fun x5 y5 => ⟨lt2, fun x6 y6 => ⟨len4, fun k1 z1 => ?_⟩⟩⟩⟩⟩⟩⟩
  have w1 := Tk.new (o := .tup [.ref gr, .int 1]) y1
  have w2 := Tk.new (o := .tup [.ref no, .int 0]) y2
  have w3 := Tk.new (o := .tup [.str ww, .ref gr, .ref no]) y3
  have w4 := Tk.new (o := .tup [.ref x3, .int 1]) y4
  have w5 := Tk.new (o := .tup [.str ww, .ref no, .ref gr]) y5
  have w6 := Tk.new (o := .tup [.ref x5, .int 0]) y6
  have w7 := Tk.new (o := .lst [.ref x1, .ref x2, .ref x4, .ref x6]) z1
  have w27 := w2.trans (w3.trans (w4.trans (w5.trans (w6.trans w7))))
  have w37 := w3.trans (w4.trans (w5.trans (w6.trans w7)))
  have w57 := w5.trans (w6.trans w7)
  have hg2 := hg.tk (w1.trans w2)
  have hn2 := hn.tk (w1.trans w2)
  have hg4 := hg2.tk (w3.trans w4)
  have hn4 := hn2.tk (w3.trans w4)
  have Q1 : Ask _ (.ref x1) := Ask.tk ⟨x1, .ref gr, FG, 1, rfl, upd_same, hg.tk w1, Nat.le_succ_of_le dG, .inr ⟨evG, rfl⟩⟩ w27
  have Q2 : Ask _ (.ref x2) := Ask.tk ⟨x2, .ref no, FN, 0, rfl, upd_same, hn2, Nat.le_succ_of_le dN, .inl ⟨evN, rfl⟩⟩ w37
  have Q3 : Ask _ (.ref x4) := Ask.tk ⟨x4, .ref x3, .two ww FG FN, 1, rfl, upd_same, .two (w4 _ _ upd_same) hww hg4 hn4, two3 dG dN, .inr ⟨ev_l evG (.inr rfl), rfl⟩⟩ w57
  have Q4 : Ask _ (.ref x6) := Ask.tk ⟨x6, .ref x5, .two ww FN FG, 0, rfl, upd_same, .two (w6 _ _ upd_same) hww (hn4.tk (w5.trans w6)) (hg4.tk (w5.trans w6)), two3 dN dG, .inl ⟨ev_l evN (.inl rfl), rfl⟩⟩ w7
  have hgA := hg4.tk w57
  have hnA := hn4.tk w57
  have hkA : upd _ k1 (HO.lst [V.ref x1, .ref x2, .ref x4, .ref x6]) k1 = _ := upd_same (H := upd (upd (upd (upd (upd (upd J3 x1 (.tup [.ref gr, .int 1])) x2 (.tup [.ref no, .int 0])) x3 (.tup [.str ww, .ref gr, .ref no])) x4 (.tup [.ref x3, .int 1])) x5 (.tup [.str ww, .ref no, .ref gr])) x6 (.tup [.ref x5, .int 0]))
  clear w1 w2 w3 w4 w5 w6 w7 w27 w37 w57 hg2 hn2 hg4 hn4
  generalize upd (upd (upd (upd (upd (upd (upd J3 x1 (.tup [.ref gr, .int 1])) x2 (.tup [.ref no, .int 0])) x3 (.tup [.str ww, .ref gr, .ref no])) x4 (.tup [.ref x3, .int 1])) x5 (.tup [.str ww, .ref no, .ref gr])) x6 (.tup [.ref x5, .int 0])) k1 (HO.lst [V.ref x1, .ref x2, .ref x4, .ref x6]) = HA at Q1 Q2 Q3 Q4 hgA hnA hkA ⊢
  refine ⟨_, rfl, _, rfl, _, rfl, fun x7 y7 => ⟨_, rfl, lt3, fun x8 y8 => ⟨lt2, fun x9 y9 => ⟨_, rfl, _, rfl, _, rfl, fun xa ya => ⟨lt3, fun xb yb => ⟨lt2, fun xc yc => ⟨lt2, fun k2 z2 => ?_⟩⟩⟩⟩⟩⟩⟩
  have s7 := same_new y7 (.tup [.str "number", .int 0])
  have s8 := same_new y8 (.tup [.str ww, .ref x7, .ref gr])
  have s9 := same_new y9 (.tup [.ref x8, .int 1])
  have sa := same_new ya (.tup [.str "number", .int 1])
  have sb := same_new yb (.tup [.str ww, .ref no, .ref xa])
  have sc := same_new yc (.tup [.ref xb, .int 0])
  have sd := same_new z2 (.lst [.ref x9, .ref xc])
  have sac := sa.trans (sb.trans (sc.trans sd))
  have s79 := s7.trans (s8.trans s9)
  have Q5 : Ask _ (.ref x9) := Ask.tk ⟨x9, .ref x8, .two ww (.num 0) FG, 1, rfl, upd_same, .two (s9 _ _ upd_same) hww (.num (s9 _ _ (s8 _ _ upd_same)) (by unfold Wo; omega)) (hgA.same s79), two3 num2 dG, .inr ⟨ev_r (a := 0) rfl evG (.inr rfl), rfl⟩⟩ (Tk.of sac)
  have Q6 : Ask _ (.ref xc) := Ask.tk ⟨xc, .ref xb, .two ww FN (.num 1), 0, rfl, upd_same, .two (sc _ _ upd_same) hww ((hnA.same s79).same (sa.trans (sb.trans sc))) (.num (sc _ _ (sb _ _ upd_same)) (by unfold Wo; omega)), two3 dN num2, .inl ⟨ev_l evN (.inl rfl), rfl⟩⟩ (Tk.of sd)
  refine ⟨k1, k2, _, _, rfl, rfl, sac _ _ (s79 _ _ hkA), upd_same, (by show 6 ≤ sizeLine; decide), fun k3 z3 => ?_⟩
  have se := same_new z3 (.lst [.ref x1, .ref x2, .ref x4, .ref x6, .ref x9, .ref xc])
  have sAll := (s79.trans sac).trans se
  have Q1 := Q1.tk (Tk.of sAll)
  have Q2 := Q2.tk (Tk.of sAll)
  have Q3 := Q3.tk (Tk.of sAll)
  have Q4 := Q4.tk (Tk.of sAll)
  have Q5 := Q5.tk (Tk.of se)
  have Q6 := Q6.tk (Tk.of se)
  have hgB := hgA.same sAll
  have hnB := hnA.same sAll
  have hkB : upd _ k3 (HO.lst [V.ref x1, .ref x2, .ref x4, .ref x6, .ref x9, .ref xc]) k3 = _ := upd_same (H := upd (upd (upd (upd (upd (upd (upd HA x7 (.tup [.str "number", .int 0])) x8 (.tup [.str ww, .ref x7, .ref gr])) x9 (.tup [.ref x8, .int 1])) xa (.tup [.str "number", .int 1])) xb (.tup [.str ww, .ref no, .ref xa])) xc (.tup [.ref xb, .int 0])) k2 (.lst [.ref x9, .ref xc]))
  have e6 : ([V.ref x1, .ref x2, .ref x4, .ref x6] ++ [V.ref x9, .ref xc]) = [V.ref x1, .ref x2, .ref x4, .ref x6, .ref x9, .ref xc] := rfl
  clear s7 s8 s9 sa sb sc sd sac s79 se sAll
  rw [e6]
  generalize upd (upd (upd (upd (upd (upd (upd (upd HA x7 (.tup [.str "number", .int 0])) x8 (.tup [.str ww, .ref x7, .ref gr])) x9 (.tup [.ref x8, .int 1])) xa (.tup [.str "number", .int 1])) xb (.tup [.str ww, .ref no, .ref xa])) xc (.tup [.ref xb, .int 0])) k2 (.lst [.ref x9, .ref xc])) k3 (HO.lst [V.ref x1, .ref x2, .ref x4, .ref x6, .ref x9, .ref xc]) = HB at Q1 Q2 Q3 Q4 Q5 Q6 hgB hnB hkB ⊢
  refine ⟨_, rfl, _, rfl, _, rfl, fun y13 i13 => ⟨lt3, fun y14 i14 => ⟨lt2, fun y15 i15 => ⟨_, rfl, fun y16 i16 => ⟨_, rfl, lt3, fun y17 i17 => ⟨lt2, fun y18 i18 => ⟨lt2, fun k4 i4 => ?_⟩⟩⟩⟩⟩⟩⟩
  have s7 := same_new i13 (.tup [.str "number", .int 0])
  have s8 := same_new i14 (.tup [.str "part", .ref gr, .ref y13])
  have s9 := same_new i15 (.tup [.ref y14, .int 1])
  have sa := same_new i16 (.tup [.str "number", .int 1])
  have sb := same_new i17 (.tup [.str "rest", .ref y16, .ref no])
  have sc := same_new i18 (.tup [.ref y17, .int 0])
  have sd := same_new i4 (.lst [.ref y15, .ref y18])
  have sac := sa.trans (sb.trans (sc.trans sd))
  have s79 := s7.trans (s8.trans s9)
  have Q7 : Ask _ (.ref y15) := Ask.tk ⟨y15, .ref y14, .two "part" FG (.num 0), 1, rfl, upd_same, .two (s9 _ _ upd_same) (by decide +kernel) (hgB.same s79) (.num (s9 _ _ (s8 _ _ upd_same)) (by unfold Wo; omega)), two3 dG num2, .inr ⟨ev_l evG (.inr rfl), rfl⟩⟩ (Tk.of sac)
  have Q8 : Ask _ (.ref y18) := Ask.tk ⟨y18, .ref y17, .two "rest" (.num 1) FN, 0, rfl, upd_same, .two (sc _ _ upd_same) (by decide +kernel) (.num (sc _ _ (sb _ _ upd_same)) (by unfold Wo; omega)) ((hnB.same s79).same (sa.trans (sb.trans sc))), two3 num2 dN, .inl ⟨ev_r (a := 1) rfl evN (.inl rfl), rfl⟩⟩ (Tk.of sd)
  refine ⟨k3, k4, _, _, rfl, rfl, sac _ _ (s79 _ _ hkB), upd_same, (by show 8 ≤ sizeLine; decide), fun k5' i5 => ?_⟩
  have se := same_new i5 (.lst [.ref x1, .ref x2, .ref x4, .ref x6, .ref x9, .ref xc, .ref y15, .ref y18])
  have sAll := (s79.trans sac).trans se
  have Q1 := Q1.tk (Tk.of sAll)
  have Q2 := Q2.tk (Tk.of sAll)
  have Q3 := Q3.tk (Tk.of sAll)
  have Q4 := Q4.tk (Tk.of sAll)
  have Q5 := Q5.tk (Tk.of sAll)
  have Q6 := Q6.tk (Tk.of sAll)
  have Q7 := Q7.tk (Tk.of se)
  have Q8 := Q8.tk (Tk.of se)
  have hkC : upd _ k5' (HO.lst [V.ref x1, .ref x2, .ref x4, .ref x6, .ref x9, .ref xc, .ref y15, .ref y18]) k5' = _ := upd_same (H := upd (upd (upd (upd (upd (upd (upd HB y13 (.tup [.str "number", .int 0])) y14 (.tup [.str "part", .ref gr, .ref y13])) y15 (.tup [.ref y14, .int 1])) y16 (.tup [.str "number", .int 1])) y17 (.tup [.str "rest", .ref y16, .ref no])) y18 (.tup [.ref y17, .int 0])) k4 (.lst [.ref y15, .ref y18]))
  have e8 : ([V.ref x1, .ref x2, .ref x4, .ref x6, .ref x9, .ref xc] ++ [V.ref y15, .ref y18]) = [V.ref x1, .ref x2, .ref x4, .ref x6, .ref x9, .ref xc, .ref y15, .ref y18] := rfl
  clear s7 s8 s9 sa sb sc sd sac s79 se sAll
  rw [e8]
  generalize upd (upd (upd (upd (upd (upd (upd (upd HB y13 (.tup [.str "number", .int 0])) y14 (.tup [.str "part", .ref gr, .ref y13])) y15 (.tup [.ref y14, .int 1])) y16 (.tup [.str "number", .int 1])) y17 (.tup [.str "rest", .ref y16, .ref no])) y18 (.tup [.ref y17, .int 0])) k4 (.lst [.ref y15, .ref y18])) k5' (HO.lst [V.ref x1, .ref x2, .ref x4, .ref x6, .ref x9, .ref xc, .ref y15, .ref y18]) = HC at Q1 Q2 Q3 Q4 Q5 Q6 Q7 Q8 hkC ⊢
  have all8 : ∀ v ∈ [V.ref x1, .ref x2, .ref x4, .ref x6, .ref x9, .ref xc, .ref y15, .ref y18], Ask HC v := fun v hv => by
    simp only [List.mem_cons, List.not_mem_nil, or_false] at hv
    rcases hv with rfl | rfl | rfl | rfl | rfl | rfl | rfl | rfl
    · exact Q1
    · exact Q2
    · exact Q3
    · exact Q4
    · exact Q5
    · exact Q6
    · exact Q7
    · exact Q8
  -- the last row
  refine gname_i ?_
  dsimp only
  refine ret_i (op_i (cb_i (cons_i (comp_var (K := K) (a := k5') (xs := [V.ref x1, .ref x2, .ref x4, .ref x6, .ref x9, .ref xc, .ref y15, .ref y18]) rfl (SqL.of hkC) (fun j ys G => ys = [] ∧ Same HC G) ⟨rfl, Same.refl HC⟩ ?_ ?_ ?_))))
  · rintro j ys G hj ⟨rfl, sG⟩
    exact ⟨SqL.of (sG _ _ hkC), (by decide : 0 < sizeLine)⟩
  · rintro j v ys G hj ⟨rfl, sG⟩
    obtain ⟨t, u, F, i, rfl, h1, h2, h3, h4⟩ := Ask.tk (all8 v (List.mem_of_getElem? hj)) (Tk.of sG)
    have i8 : i < 8 := by
      rcases h4 with ⟨_, rfl⟩ | ⟨_, rfl⟩ <;> decide
    refine ⟨t, _, rfl, SqT.of h1, rfl, _, _, rfl, _, _, rfl, rfl, rfl, ?_⟩
    refine ⟨_, rfl, _, rfl, u, _, F, i, rfl, h2, h3, h4, fun a' G' s' ha => ⟨_, rfl, i, i8, a', rfl, ha, fun G'' s'' => ⟨true, rfl, iteF ⟨rfl, sG.trans (s'.trans s'')⟩⟩⟩⟩
  rintro ys G ⟨rfl, sG⟩ l9 hl9
  refine ⟨l9, [], rfl, .inl (SqL.of upd_same), rfl, ?_⟩
  exact k _

end
end My
set_option Elab.async false
set_option linter.all false
set_option maxRecDepth 100000
set_option maxHeartbeats 4000000
namespace My
open PySem L2
theorem kit_self {K : PySem.W.Frag} {t : Value} : PySem.W.kitOne K t t = some true := by
  unfold PySem.W.kitOne
  rw [if_pos (beq_self_eq_true t)]
theorem kit_none {K : PySem.W.Frag} {t : Value} : ∀ {cs : List Value}, PySem.W.kitAny K t cs = some false → ∀ c ∈ cs, PySem.W.kitOne K t c = some false
  | [], _, c, h => absurd h (by simp)
  | d :: r, e, c, h => by
    unfold PySem.W.kitAny at e
    split at e
    · cases e
    · rename_i q
      rcases List.mem_cons.mp h with rfl | h
      · exact q
      · exact kit_none e c h
    · cases e
def csOf (a b c d e f g h : Addr) : Nat → Addr
  | 0 => a
  | 1 => b
  | 2 => c
  | 3 => d
  | 4 => e
  | 5 => f
  | 6 => g
  | _ => h
theorem df_mk {K : PySem.W.Frag} {h : Heap} {mg : Str → Option Value} {x : Str} {st : Stmt} {f : Addr} {oc : Value} {od an : Option Addr} {sl : Array (Option Value)} {kV dc pm cd ct : Value} {ps : List Str} (X : K.In h) (G : h.Ns mainGlobals mg) (a : PySem.W.nsIn K mainGlobals x = some (some (.ref f)))
    (l : K.lookup f = some ⟨oc, od, .func (PySem.W.fnOf x x (defArgs st) (defBody st) (defScope st) .none kV dc pm an cd ct), sl⟩) (c : PySem.W.codeIn K cd x = true) (k : PySem.W.keepIn K (.ref f) = true)
    (hb : ∀ (kV doc pm : Value) (an : Option Addr) (cdv ct : Value) (us : List Value), us.length = ps.length → bindArgs (PySem.W.fnOf x x (defArgs st) (defBody st) (defScope st) .none kV doc pm an cdv ct) ⟨us, []⟩ = pure (ps.zip us)) :
    Df K mg x st ps f (PySem.W.fnOf x x (defArgs st) (defBody st) (defScope st) .none kV dc pm an cd ct) := ⟨fun_mk l c k, (fun_mk l c k).binds hb, PySem.W.mg_of X G a⟩
theorem all_mk {l : PySem.W.OpenLaw} {w : World} {K : PySem.W.Frag} {h : Heap} {mg : Str → Option Value} {fa f1 f2 f3 f4 f5 f6 f7 f8 f9 f10 f11 f12 f13 f14 CM f15 CS f16 CN CG CU CY CP CL CK CT CF CE f100 f101 f102 f103 f104 f105 f106 : Addr} (X : K.In h) (G : h.Ns mainGlobals mg) (hfa : mg "law" = some (.ref fa))
    {od100 an100 : Option Addr} {sl100 : Array (Option Value)} {oc100 kV100 dc100 pm100 cd100 ct100 : Value}
    {od101 an101 : Option Addr} {sl101 : Array (Option Value)} {oc101 kV101 dc101 pm101 cd101 ct101 : Value}
    {od102 an102 : Option Addr} {sl102 : Array (Option Value)} {oc102 kV102 dc102 pm102 cd102 ct102 : Value}
    {od103 an103 : Option Addr} {sl103 : Array (Option Value)} {oc103 kV103 dc103 pm103 cd103 ct103 : Value}
    {od104 an104 : Option Addr} {sl104 : Array (Option Value)} {oc104 kV104 dc104 pm104 cd104 ct104 : Value}
    {od105 an105 : Option Addr} {sl105 : Array (Option Value)} {oc105 kV105 dc105 pm105 cd105 ct105 : Value}
    {od106 an106 : Option Addr} {sl106 : Array (Option Value)} {oc106 kV106 dc106 pm106 cd106 ct106 : Value}
    {od1 an1 : Option Addr} {sl1 : Array (Option Value)} {oc1 kV1 dc1 pm1 cd1 ct1 : Value}
    {od2 an2 : Option Addr} {sl2 : Array (Option Value)} {oc2 kV2 dc2 pm2 cd2 ct2 : Value}
    {od3 an3 : Option Addr} {sl3 : Array (Option Value)} {oc3 kV3 dc3 pm3 cd3 ct3 : Value}
    {od4 an4 : Option Addr} {sl4 : Array (Option Value)} {oc4 kV4 dc4 pm4 cd4 ct4 : Value}
    {od5 an5 : Option Addr} {sl5 : Array (Option Value)} {oc5 kV5 dc5 pm5 cd5 ct5 : Value}
    {od6 an6 : Option Addr} {sl6 : Array (Option Value)} {oc6 kV6 dc6 pm6 cd6 ct6 : Value}
    {od7 an7 : Option Addr} {sl7 : Array (Option Value)} {oc7 kV7 dc7 pm7 cd7 ct7 : Value}
    {od8 an8 : Option Addr} {sl8 : Array (Option Value)} {oc8 kV8 dc8 pm8 cd8 ct8 : Value}
    {od9 an9 : Option Addr} {sl9 : Array (Option Value)} {oc9 kV9 dc9 pm9 cd9 ct9 : Value}
    {od10 an10 : Option Addr} {sl10 : Array (Option Value)} {oc10 kV10 dc10 pm10 cd10 ct10 : Value}
    {od11 an11 : Option Addr} {sl11 : Array (Option Value)} {oc11 kV11 dc11 pm11 cd11 ct11 : Value}
    {od12 an12 : Option Addr} {sl12 : Array (Option Value)} {oc12 kV12 dc12 pm12 cd12 ct12 : Value}
    {od13 an13 : Option Addr} {sl13 : Array (Option Value)} {oc13 kV13 dc13 pm13 cd13 ct13 : Value}
    {od14 an14 : Option Addr} {sl14 : Array (Option Value)} {oc14 kV14 dc14 pm14 cd14 ct14 : Value}
    {od15 an15 : Option Addr} {sl15 : Array (Option Value)} {oc15 kV15 dc15 pm15 cd15 ct15 : Value}
    {od16 an16 : Option Addr} {sl16 : Array (Option Value)} {oc16 kV16 dc16 pm16 cd16 ct16 : Value}
    (a1 : PySem.W.nsIn K mainGlobals "worth_of" = some (some (.ref f1))) (l1 : K.lookup f1 = some ⟨oc1, od1, .func (PySem.W.fnOf "worth_of" "worth_of" (defArgs s_worth_of) (defBody s_worth_of) (defScope s_worth_of) .none kV1 dc1 pm1 an1 cd1 ct1), sl1⟩) (c1 : PySem.W.codeIn K cd1 "worth_of" = true) (k1 : PySem.W.keepIn K (.ref f1) = true)
    (a2 : PySem.W.nsIn K mainGlobals "number_of_leaf" = some (some (.ref f2))) (l2 : K.lookup f2 = some ⟨oc2, od2, .func (PySem.W.fnOf "number_of_leaf" "number_of_leaf" (defArgs s_number_of_leaf) (defBody s_number_of_leaf) (defScope s_number_of_leaf) .none kV2 dc2 pm2 an2 cd2 ct2), sl2⟩) (c2 : PySem.W.codeIn K cd2 "number_of_leaf" = true) (k2 : PySem.W.keepIn K (.ref f2) = true)
    (a3 : PySem.W.nsIn K mainGlobals "number_of_two" = some (some (.ref f3))) (l3 : K.lookup f3 = some ⟨oc3, od3, .func (PySem.W.fnOf "number_of_two" "number_of_two" (defArgs s_number_of_two) (defBody s_number_of_two) (defScope s_number_of_two) .none kV3 dc3 pm3 an3 cd3 ct3), sl3⟩) (c3 : PySem.W.codeIn K cd3 "number_of_two" = true) (k3 : PySem.W.keepIn K (.ref f3) = true)
    (a4 : PySem.W.nsIn K mainGlobals "number_of_division" = some (some (.ref f4))) (l4 : K.lookup f4 = some ⟨oc4, od4, .func (PySem.W.fnOf "number_of_division" "number_of_division" (defArgs s_number_of_division) (defBody s_number_of_division) (defScope s_number_of_division) .none kV4 dc4 pm4 an4 cd4 ct4), sl4⟩) (c4 : PySem.W.codeIn K cd4 "number_of_division" = true) (k4 : PySem.W.keepIn K (.ref f4) = true)
    (a5 : PySem.W.nsIn K mainGlobals "copied" = some (some (.ref f5))) (l5 : K.lookup f5 = some ⟨oc5, od5, .func (PySem.W.fnOf "copied" "copied" (defArgs s_copied) (defBody s_copied) (defScope s_copied) .none kV5 dc5 pm5 an5 cd5 ct5), sl5⟩) (c5 : PySem.W.codeIn K cd5 "copied" = true) (k5 : PySem.W.keepIn K (.ref f5) = true)
    (a6 : PySem.W.nsIn K mainGlobals "first_state" = some (some (.ref f6))) (l6 : K.lookup f6 = some ⟨oc6, od6, .func (PySem.W.fnOf "first_state" "first_state" (defArgs s_first_state) (defBody s_first_state) (defScope s_first_state) .none kV6 dc6 pm6 an6 cd6 ct6), sl6⟩) (c6 : PySem.W.codeIn K cd6 "first_state" = true) (k6 : PySem.W.keepIn K (.ref f6) = true)
    (a7 : PySem.W.nsIn K mainGlobals "_law_mixed" = some (some (.ref f7))) (l7 : K.lookup f7 = some ⟨oc7, od7, .func (PySem.W.fnOf "_law_mixed" "_law_mixed" (defArgs s_law_mixed) (defBody s_law_mixed) (defScope s_law_mixed) .none kV7 dc7 pm7 an7 cd7 ct7), sl7⟩) (c7 : PySem.W.codeIn K cd7 "_law_mixed" = true) (k7 : PySem.W.keepIn K (.ref f7) = true)
    (a8 : PySem.W.nsIn K mainGlobals "_law_purse" = some (some (.ref f8))) (l8 : K.lookup f8 = some ⟨oc8, od8, .func (PySem.W.fnOf "_law_purse" "_law_purse" (defArgs s_law_purse) (defBody s_law_purse) (defScope s_law_purse) .none kV8 dc8 pm8 an8 cd8 ct8), sl8⟩) (c8 : PySem.W.codeIn K cd8 "_law_purse" = true) (k8 : PySem.W.keepIn K (.ref f8) = true)
    (a9 : PySem.W.nsIn K mainGlobals "_law_draw" = some (some (.ref f9))) (l9 : K.lookup f9 = some ⟨oc9, od9, .func (PySem.W.fnOf "_law_draw" "_law_draw" (defArgs s_law_draw) (defBody s_law_draw) (defScope s_law_draw) .none kV9 dc9 pm9 an9 cd9 ct9), sl9⟩) (c9 : PySem.W.codeIn K cd9 "_law_draw" = true) (k9 : PySem.W.keepIn K (.ref f9) = true)
    (a10 : PySem.W.nsIn K mainGlobals "_law_sorts" = some (some (.ref f10))) (l10 : K.lookup f10 = some ⟨oc10, od10, .func (PySem.W.fnOf "_law_sorts" "_law_sorts" (defArgs s_law_sorts) (defBody s_law_sorts) (defScope s_law_sorts) .none kV10 dc10 pm10 an10 cd10 ct10), sl10⟩) (c10 : PySem.W.codeIn K cd10 "_law_sorts" = true) (k10 : PySem.W.keepIn K (.ref f10) = true)
    (a11 : PySem.W.nsIn K mainGlobals "_law_right" = some (some (.ref f11))) (l11 : K.lookup f11 = some ⟨oc11, od11, .func (PySem.W.fnOf "_law_right" "_law_right" (defArgs s_law_right) (defBody s_law_right) (defScope s_law_right) .none kV11 dc11 pm11 an11 cd11 ct11), sl11⟩) (c11 : PySem.W.codeIn K cd11 "_law_right" = true) (k11 : PySem.W.keepIn K (.ref f11) = true)
    (a12 : PySem.W.nsIn K mainGlobals "_law_caught" = some (some (.ref f12))) (l12 : K.lookup f12 = some ⟨oc12, od12, .func (PySem.W.fnOf "_law_caught" "_law_caught" (defArgs s_law_caught) (defBody s_law_caught) (defScope s_law_caught) .none kV12 dc12 pm12 an12 cd12 ct12), sl12⟩) (c12 : PySem.W.codeIn K cd12 "_law_caught" = true) (k12 : PySem.W.keepIn K (.ref f12) = true)
    (a13 : PySem.W.nsIn K mainGlobals "_law_plain" = some (some (.ref f13))) (l13 : K.lookup f13 = some ⟨oc13, od13, .func (PySem.W.fnOf "_law_plain" "_law_plain" (defArgs s_law_plain) (defBody s_law_plain) (defScope s_law_plain) .none kV13 dc13 pm13 an13 cd13 ct13), sl13⟩) (c13 : PySem.W.codeIn K cd13 "_law_plain" = true) (k13 : PySem.W.keepIn K (.ref f13) = true)
    (a14 : PySem.W.nsIn K mainGlobals "law" = some (some (.ref f14))) (l14 : K.lookup f14 = some ⟨oc14, od14, .func (PySem.W.fnOf "law" "law" (defArgs s_law) (defBody s_law) (defScope s_law) .none kV14 dc14 pm14 an14 cd14 ct14), sl14⟩) (c14 : PySem.W.codeIn K cd14 "law" = true) (k14 : PySem.W.keepIn K (.ref f14) = true)
    (aCM : PySem.W.nsIn K mainGlobals "Model" = some (some (.ref CM)))
    (a15 : PySem.W.findIn K (.ref CM) "__init__" = some (some (.ref f15))) (i15 : PySem.W.isFn K (.ref f15) = true) (l15 : K.lookup f15 = some ⟨oc15, od15, .func (PySem.W.fnOf "__init__" "Model.__init__" (defArgs s_Model_init) (defBody s_Model_init) (defScope s_Model_init) .none kV15 dc15 pm15 an15 cd15 ct15), sl15⟩) (c15 : PySem.W.codeIn K cd15 "Model.__init__" = true) (k15 : PySem.W.keepIn K (.ref f15) = true)
    (pgCM : PySem.W.plainGet K CM Str.empty = true) (hdCM : PySem.W.hasDictIn K CM = true) (poCM : PySem.W.plainOver K CM = true) (saCM : PySem.W.findIn K (.ref CM) "__setattr__" = some (some (.builtin "object.__setattr__"))) (mkCM : PySem.W.makesIn K CM = true) (kcCM : PySem.W.keepIn K (.ref CM) = true)
    (nCMmachines : PySem.W.findIn K (.ref CM) "machines" = some none)
    (aCS : PySem.W.nsIn K mainGlobals "State" = some (some (.ref CS)))
    (a16 : PySem.W.findIn K (.ref CS) "__init__" = some (some (.ref f16))) (i16 : PySem.W.isFn K (.ref f16) = true) (l16 : K.lookup f16 = some ⟨oc16, od16, .func (PySem.W.fnOf "__init__" "State.__init__" (defArgs s_State_init) (defBody s_State_init) (defScope s_State_init) .none kV16 dc16 pm16 an16 cd16 ct16), sl16⟩) (c16 : PySem.W.codeIn K cd16 "State.__init__" = true) (k16 : PySem.W.keepIn K (.ref f16) = true)
    (pgCS : PySem.W.plainGet K CS Str.empty = true) (hdCS : PySem.W.hasDictIn K CS = true) (poCS : PySem.W.plainOver K CS = true) (saCS : PySem.W.findIn K (.ref CS) "__setattr__" = some (some (.builtin "object.__setattr__"))) (mkCS : PySem.W.makesIn K CS = true) (kcCS : PySem.W.keepIn K (.ref CS) = true)
    (nCSboxes : PySem.W.findIn K (.ref CS) "boxes" = some none)
    (nCSqueues : PySem.W.findIn K (.ref CS) "queues" = some none)
    (nCSdrawn : PySem.W.findIn K (.ref CS) "drawn" = some none)
    (nCSsent : PySem.W.findIn K (.ref CS) "sent" = some none)
    (aCN : PySem.W.nsIn K mainGlobals "Nought" = some (some (.ref CN))) (xCN : PySem.W.excIn K CN vErr "ValueError.__new__" = true)
    (aCG : PySem.W.nsIn K mainGlobals "Great" = some (some (.ref CG))) (xCG : PySem.W.excIn K CG vErr "ValueError.__new__" = true)
    (aCU : PySem.W.nsIn K mainGlobals "Full" = some (some (.ref CU))) (xCU : PySem.W.excIn K CU vErr "ValueError.__new__" = true)
    (aCY : PySem.W.nsIn K mainGlobals "Dry" = some (some (.ref CY))) (xCY : PySem.W.excIn K CY vErr "ValueError.__new__" = true)
    (aCP : PySem.W.nsIn K mainGlobals "Span" = some (some (.ref CP))) (xCP : PySem.W.excIn K CP vErr "ValueError.__new__" = true)
    (aCL : PySem.W.nsIn K mainGlobals "Late" = some (some (.ref CL))) (xCL : PySem.W.excIn K CL vErr "ValueError.__new__" = true)
    (aCK : PySem.W.nsIn K mainGlobals "NoMark" = some (some (.ref CK))) (xCK : PySem.W.excIn K CK vErr "ValueError.__new__" = true)
    (aCT : PySem.W.nsIn K mainGlobals "TooLate" = some (some (.ref CT))) (xCT : PySem.W.excIn K CT vErr "ValueError.__new__" = true)
    (aCF : PySem.W.nsIn K mainGlobals "Fault" = some (some (.ref CF))) (xCF : PySem.W.excIn K CF vErr "ValueError.__new__" = true)
    (enn : PySem.W.exmOne K (.ref CN) (.ref CN) = some true)
    (egn : PySem.W.exmOne K (.ref CG) (.ref CN) = some false)
    (egg : PySem.W.exmOne K (.ref CG) (.ref CG) = some true)
    (zlen : PySem.W.nsIn K mainGlobals "len" = some none)
    (zabs : PySem.W.nsIn K mainGlobals "abs" = some none)
    (zisinstance : PySem.W.nsIn K mainGlobals "isinstance" = some none)
    (zlist : PySem.W.nsIn K mainGlobals "list" = some none)
    (ztuple : PySem.W.nsIn K mainGlobals "tuple" = some none)
    (zstr : PySem.W.nsIn K mainGlobals "str" = some none)
    (zint : PySem.W.nsIn K mainGlobals "int" = some none)
    (zbool : PySem.W.nsIn K mainGlobals "bool" = some none)
    (zrange : PySem.W.nsIn K mainGlobals "range" = some none)
    (zmax : PySem.W.nsIn K mainGlobals "max" = some none)
    (zdict : PySem.W.nsIn K mainGlobals "dict" = some none)
    (aCE : PySem.W.nsIn K mainGlobals "MomentError" = some (some (.ref CE)))
    (zV : PySem.W.nsIn K mainGlobals "ValueError" = some none)
    (hcn : PySem.W.specialIn K (.builtin "object.__class__") "__get__" = some (some (.builtin "getset_descriptor.__get__")))
    (hck : PySem.W.takesIn K (.builtin "object.__class__") = some true)
    (kpCN : PySem.W.keepIn K (.ref CN) = true)
    (gaCN : PySem.W.findIn K (.ref CN) "__getattribute__" = some (some (.builtin "BaseException.__getattribute__")))
    (ghCN : PySem.W.findIn K (.ref CN) "__getattr__" = some none)
    (gcCN : PySem.W.findIn K (.ref CN) "__class__" = some (some (.builtin "object.__class__")))
    (obCN : PySem.W.mroIn K CN (.type "object") = some true)
    (beCN : PySem.W.mroIn K CN (.type "BaseException") = some true)
    (kpCG : PySem.W.keepIn K (.ref CG) = true)
    (gaCG : PySem.W.findIn K (.ref CG) "__getattribute__" = some (some (.builtin "BaseException.__getattribute__")))
    (ghCG : PySem.W.findIn K (.ref CG) "__getattr__" = some none)
    (gcCG : PySem.W.findIn K (.ref CG) "__class__" = some (some (.builtin "object.__class__")))
    (obCG : PySem.W.mroIn K CG (.type "object") = some true)
    (beCG : PySem.W.mroIn K CG (.type "BaseException") = some true)
    (kpCU : PySem.W.keepIn K (.ref CU) = true)
    (gaCU : PySem.W.findIn K (.ref CU) "__getattribute__" = some (some (.builtin "BaseException.__getattribute__")))
    (ghCU : PySem.W.findIn K (.ref CU) "__getattr__" = some none)
    (gcCU : PySem.W.findIn K (.ref CU) "__class__" = some (some (.builtin "object.__class__")))
    (obCU : PySem.W.mroIn K CU (.type "object") = some true)
    (beCU : PySem.W.mroIn K CU (.type "BaseException") = some true)
    (kpCY : PySem.W.keepIn K (.ref CY) = true)
    (gaCY : PySem.W.findIn K (.ref CY) "__getattribute__" = some (some (.builtin "BaseException.__getattribute__")))
    (ghCY : PySem.W.findIn K (.ref CY) "__getattr__" = some none)
    (gcCY : PySem.W.findIn K (.ref CY) "__class__" = some (some (.builtin "object.__class__")))
    (obCY : PySem.W.mroIn K CY (.type "object") = some true)
    (beCY : PySem.W.mroIn K CY (.type "BaseException") = some true)
    (kpCP : PySem.W.keepIn K (.ref CP) = true)
    (gaCP : PySem.W.findIn K (.ref CP) "__getattribute__" = some (some (.builtin "BaseException.__getattribute__")))
    (ghCP : PySem.W.findIn K (.ref CP) "__getattr__" = some none)
    (gcCP : PySem.W.findIn K (.ref CP) "__class__" = some (some (.builtin "object.__class__")))
    (obCP : PySem.W.mroIn K CP (.type "object") = some true)
    (beCP : PySem.W.mroIn K CP (.type "BaseException") = some true)
    (kpCL : PySem.W.keepIn K (.ref CL) = true)
    (gaCL : PySem.W.findIn K (.ref CL) "__getattribute__" = some (some (.builtin "BaseException.__getattribute__")))
    (ghCL : PySem.W.findIn K (.ref CL) "__getattr__" = some none)
    (gcCL : PySem.W.findIn K (.ref CL) "__class__" = some (some (.builtin "object.__class__")))
    (obCL : PySem.W.mroIn K CL (.type "object") = some true)
    (beCL : PySem.W.mroIn K CL (.type "BaseException") = some true)
    (kpCK : PySem.W.keepIn K (.ref CK) = true)
    (gaCK : PySem.W.findIn K (.ref CK) "__getattribute__" = some (some (.builtin "BaseException.__getattribute__")))
    (ghCK : PySem.W.findIn K (.ref CK) "__getattr__" = some none)
    (gcCK : PySem.W.findIn K (.ref CK) "__class__" = some (some (.builtin "object.__class__")))
    (obCK : PySem.W.mroIn K CK (.type "object") = some true)
    (beCK : PySem.W.mroIn K CK (.type "BaseException") = some true)
    (kpCT : PySem.W.keepIn K (.ref CT) = true)
    (gaCT : PySem.W.findIn K (.ref CT) "__getattribute__" = some (some (.builtin "BaseException.__getattribute__")))
    (ghCT : PySem.W.findIn K (.ref CT) "__getattr__" = some none)
    (gcCT : PySem.W.findIn K (.ref CT) "__class__" = some (some (.builtin "object.__class__")))
    (obCT : PySem.W.mroIn K CT (.type "object") = some true)
    (beCT : PySem.W.mroIn K CT (.type "BaseException") = some true)
    (kpCF : PySem.W.keepIn K (.ref CF) = true)
    (gaCF : PySem.W.findIn K (.ref CF) "__getattribute__" = some (some (.builtin "BaseException.__getattribute__")))
    (ghCF : PySem.W.findIn K (.ref CF) "__getattr__" = some none)
    (gcCF : PySem.W.findIn K (.ref CF) "__class__" = some (some (.builtin "object.__class__")))
    (obCF : PySem.W.mroIn K CF (.type "object") = some true)
    (beCF : PySem.W.mroIn K CF (.type "BaseException") = some true)
    (qa0 : PySem.W.kitAny K (.ref CN) [.ref CG, .ref CU, .ref CY, .ref CP, .ref CL, .ref CK, .ref CT] = some false)
    (e0 : PySem.W.kitOne K (.ref CN) (.ref CE) = some true)
    (v0 : PySem.W.kitOne K (.ref CN) (.type "ValueError") = some true)
    (f0F : PySem.W.kitOne K (.ref CN) (.ref CF) = some true)
    (qa1 : PySem.W.kitAny K (.ref CG) [.ref CN, .ref CU, .ref CY, .ref CP, .ref CL, .ref CK, .ref CT] = some false)
    (e1 : PySem.W.kitOne K (.ref CG) (.ref CE) = some true)
    (v1 : PySem.W.kitOne K (.ref CG) (.type "ValueError") = some true)
    (f1F : PySem.W.kitOne K (.ref CG) (.ref CF) = some true)
    (qa2 : PySem.W.kitAny K (.ref CU) [.ref CN, .ref CG, .ref CY, .ref CP, .ref CL, .ref CK, .ref CT] = some false)
    (e2 : PySem.W.kitOne K (.ref CU) (.ref CE) = some true)
    (v2 : PySem.W.kitOne K (.ref CU) (.type "ValueError") = some true)
    (f2F : PySem.W.kitOne K (.ref CU) (.ref CF) = some true)
    (qa3 : PySem.W.kitAny K (.ref CY) [.ref CN, .ref CG, .ref CU, .ref CP, .ref CL, .ref CK, .ref CT] = some false)
    (e3 : PySem.W.kitOne K (.ref CY) (.ref CE) = some true)
    (v3 : PySem.W.kitOne K (.ref CY) (.type "ValueError") = some true)
    (f3F : PySem.W.kitOne K (.ref CY) (.ref CF) = some true)
    (qa4 : PySem.W.kitAny K (.ref CP) [.ref CN, .ref CG, .ref CU, .ref CY, .ref CL, .ref CK, .ref CT] = some false)
    (e4 : PySem.W.kitOne K (.ref CP) (.ref CE) = some true)
    (v4 : PySem.W.kitOne K (.ref CP) (.type "ValueError") = some true)
    (f4F : PySem.W.kitOne K (.ref CP) (.ref CF) = some true)
    (qa5 : PySem.W.kitAny K (.ref CL) [.ref CN, .ref CG, .ref CU, .ref CY, .ref CP, .ref CK, .ref CT] = some false)
    (e5 : PySem.W.kitOne K (.ref CL) (.ref CE) = some true)
    (v5 : PySem.W.kitOne K (.ref CL) (.type "ValueError") = some true)
    (f5F : PySem.W.kitOne K (.ref CL) (.ref CF) = some true)
    (qa6 : PySem.W.kitAny K (.ref CK) [.ref CN, .ref CG, .ref CU, .ref CY, .ref CP, .ref CL, .ref CT] = some false)
    (e6 : PySem.W.kitOne K (.ref CK) (.ref CE) = some true)
    (v6 : PySem.W.kitOne K (.ref CK) (.type "ValueError") = some true)
    (f6F : PySem.W.kitOne K (.ref CK) (.ref CF) = some false)
    (qa7 : PySem.W.kitAny K (.ref CT) [.ref CN, .ref CG, .ref CU, .ref CY, .ref CP, .ref CL, .ref CK] = some false)
    (e7 : PySem.W.kitOne K (.ref CT) (.ref CE) = some true)
    (v7 : PySem.W.kitOne K (.ref CT) (.type "ValueError") = some true)
    (f7F : PySem.W.kitOne K (.ref CT) (.ref CF) = some false)
    (qaF : PySem.W.kitAny K (.ref CF) [.ref CN, .ref CG, .ref CU, .ref CY, .ref CP, .ref CL, .ref CK, .ref CT] = some false)
    (eF : PySem.W.kitOne K (.ref CF) (.ref CE) = some true)
    (xh0 : PySem.W.exmOne K (.ref CN) (.ref CF) = some true)
    (xh1 : PySem.W.exmOne K (.ref CG) (.ref CF) = some true)
    (a100 : PySem.W.findIn K (.ref CN) "word" = some (some (.ref f100)))
    (i100 : PySem.W.isFn K (.ref f100) = true)
    (l100 : K.lookup f100 = some ⟨oc100, od100, .func (PySem.W.fnOf "word" "Nought.word" (defArgs s_Nought_word) (defBody s_Nought_word) (defScope s_Nought_word) .none kV100 dc100 pm100 an100 cd100 ct100), sl100⟩)
    (c100 : PySem.W.codeIn K cd100 "Nought.word" = true)
    (k100 : PySem.W.keepIn K (.ref f100) = true)
    (a101 : PySem.W.findIn K (.ref CG) "word" = some (some (.ref f101)))
    (i101 : PySem.W.isFn K (.ref f101) = true)
    (l101 : K.lookup f101 = some ⟨oc101, od101, .func (PySem.W.fnOf "word" "Great.word" (defArgs s_Great_word) (defBody s_Great_word) (defScope s_Great_word) .none kV101 dc101 pm101 an101 cd101 ct101), sl101⟩)
    (c101 : PySem.W.codeIn K cd101 "Great.word" = true)
    (k101 : PySem.W.keepIn K (.ref f101) = true)
    (a102 : PySem.W.findIn K (.ref CU) "word" = some (some (.ref f102)))
    (i102 : PySem.W.isFn K (.ref f102) = true)
    (l102 : K.lookup f102 = some ⟨oc102, od102, .func (PySem.W.fnOf "word" "Full.word" (defArgs s_Full_word) (defBody s_Full_word) (defScope s_Full_word) .none kV102 dc102 pm102 an102 cd102 ct102), sl102⟩)
    (c102 : PySem.W.codeIn K cd102 "Full.word" = true)
    (k102 : PySem.W.keepIn K (.ref f102) = true)
    (a103 : PySem.W.findIn K (.ref CY) "word" = some (some (.ref f103)))
    (i103 : PySem.W.isFn K (.ref f103) = true)
    (l103 : K.lookup f103 = some ⟨oc103, od103, .func (PySem.W.fnOf "word" "Dry.word" (defArgs s_Dry_word) (defBody s_Dry_word) (defScope s_Dry_word) .none kV103 dc103 pm103 an103 cd103 ct103), sl103⟩)
    (c103 : PySem.W.codeIn K cd103 "Dry.word" = true)
    (k103 : PySem.W.keepIn K (.ref f103) = true)
    (a104 : PySem.W.findIn K (.ref CP) "word" = some (some (.ref f104)))
    (i104 : PySem.W.isFn K (.ref f104) = true)
    (l104 : K.lookup f104 = some ⟨oc104, od104, .func (PySem.W.fnOf "word" "Span.word" (defArgs s_Span_word) (defBody s_Span_word) (defScope s_Span_word) .none kV104 dc104 pm104 an104 cd104 ct104), sl104⟩)
    (c104 : PySem.W.codeIn K cd104 "Span.word" = true)
    (k104 : PySem.W.keepIn K (.ref f104) = true)
    (a105 : PySem.W.findIn K (.ref CL) "word" = some (some (.ref f105)))
    (i105 : PySem.W.isFn K (.ref f105) = true)
    (l105 : K.lookup f105 = some ⟨oc105, od105, .func (PySem.W.fnOf "word" "Late.word" (defArgs s_Late_word) (defBody s_Late_word) (defScope s_Late_word) .none kV105 dc105 pm105 an105 cd105 ct105), sl105⟩)
    (c105 : PySem.W.codeIn K cd105 "Late.word" = true)
    (k105 : PySem.W.keepIn K (.ref f105) = true)
    (a106 : PySem.W.findIn K (.ref CF) "word" = some (some (.ref f106)))
    (i106 : PySem.W.isFn K (.ref f106) = true)
    (l106 : K.lookup f106 = some ⟨oc106, od106, .func (PySem.W.fnOf "word" "Fault.word" (defArgs s_Fault_word) (defBody s_Fault_word) (defScope s_Fault_word) .none kV106 dc106 pm106 an106 cd106 ct106), sl106⟩)
    (c106 : PySem.W.codeIn K cd106 "Fault.word" = true)
    (k106 : PySem.W.keepIn K (.ref f106) = true) :
    ∃ fd : FuncData, (∀ (s : Shared) (v : Value), BindsTo s fd ⟨[v], []⟩ [("_law_script", v)]) ∧ ∀ base : Heap, K.In base → base.Ns mainGlobals mg → FnOk l.prog w K mg base CX0 12 fa fd ["_law_script"] (spLaw K) := by
  have e := hfa.symm.trans (PySem.W.mg_of X G a14)
  cases e
  have D1 := df_mk (ps := ["formula", "state", "now", "got"]) X G a1 l1 c1 k1 fun _ _ _ _ _ _ us hl => match us, hl with | [_, _, _, _], _ => rfl
  have D2 := df_mk (ps := ["formula", "state", "now", "got"]) X G a2 l2 c2 k2 fun _ _ _ _ _ _ us hl => match us, hl with | [_, _, _, _], _ => rfl
  have D3 := df_mk (ps := ["kind", "first", "second"]) X G a3 l3 c3 k3 fun _ _ _ _ _ _ us hl => match us, hl with | [_, _, _], _ => rfl
  have D4 := df_mk (ps := ["kind", "first", "second"]) X G a4 l4 c4 k4 fun _ _ _ _ _ _ us hl => match us, hl with | [_, _, _], _ => rfl
  have D5 := df_mk (ps := ["thing"]) X G a5 l5 c5 k5 fun _ _ _ _ _ _ us hl => match us, hl with | [_], _ => rfl
  have D6 := df_mk (ps := ["model", "at"]) X G a6 l6 c6 k6 fun _ _ _ _ _ _ us hl => match us, hl with | [_, _], _ => rfl
  have D7 := df_mk (ps := ["_law_cell", "_law_k"]) X G a7 l7 c7 k7 fun _ _ _ _ _ _ us hl => match us, hl with | [_, _], _ => rfl
  have D8 := df_mk (ps := ["_law_script"]) X G a8 l8 c8 k8 fun _ _ _ _ _ _ us hl => match us, hl with | [_], _ => rfl
  have D9 := df_mk (ps := ["_law_purse_here", "_law_out_of"]) X G a9 l9 c9 k9 fun _ _ _ _ _ _ us hl => match us, hl with | [_, _], _ => rfl
  have D10 := df_mk (ps := ["_law_error"]) X G a10 l10 c10 k10 fun _ _ _ _ _ _ us hl => match us, hl with | [_], _ => rfl
  have D11 := df_mk (ps := ["_law_error", "_law_at"]) X G a11 l11 c11 k11 fun _ _ _ _ _ _ us hl => match us, hl with | [_, _], _ => rfl
  have D12 := df_mk (ps := ["_law_formula", "_law_state"]) X G a12 l12 c12 k12 fun _ _ _ _ _ _ us hl => match us, hl with | [_, _], _ => rfl
  have D13 := df_mk (ps := ["_law_number"]) X G a13 l13 c13 k13 fun _ _ _ _ _ _ us hl => match us, hl with | [_], _ => rfl
  have D14 := df_mk (ps := ["_law_script"]) X G a14 l14 c14 k14 fun _ _ _ _ _ _ us hl => match us, hl with | [_], _ => rfl
  have FMI := fun_mk (x := "__init__") (qual := "Model.__init__") (st := s_Model_init) l15 c15 k15
  have bMI := FMI.binds (ps := ["self", "machines"]) fun _ _ _ _ _ _ us hl => match us, hl with | [_, _], _ => rfl
  have MCM : Mk K CM f15 := ⟨mkCM, a15, i15, kcCM⟩
  have FSI := fun_mk (x := "__init__") (qual := "State.__init__") (st := s_State_init) l16 c16 k16
  have bSI := FSI.binds (ps := ["self", "boxes", "queues", "drawn", "sent"]) fun _ _ _ _ _ _ us hl => match us, hl with | [_, _, _, _, _], _ => rfl
  have MCS : Mk K CS f16 := ⟨mkCS, a16, i16, kcCS⟩
  have B : Bl mg := ⟨PySem.W.mg_none_of X G zlen, PySem.W.mg_none_of X G zabs, PySem.W.mg_none_of X G zisinstance, PySem.W.mg_none_of X G zlist, PySem.W.mg_none_of X G ztuple, PySem.W.mg_none_of X G zstr, PySem.W.mg_none_of X G zint, PySem.W.mg_none_of X G zbool, PySem.W.mg_none_of X G zrange, PySem.W.mg_none_of X G zmax, PySem.W.mg_none_of X G zdict⟩
  have XCCN : XCls K CN := ⟨gaCN, ghCN, gcCN, hcn, hck, obCN, beCN⟩
  have XCCG : XCls K CG := ⟨gaCG, ghCG, gcCG, hcn, hck, obCG, beCG⟩
  have XCCU : XCls K CU := ⟨gaCU, ghCU, gcCU, hcn, hck, obCU, beCU⟩
  have XCCY : XCls K CY := ⟨gaCY, ghCY, gcCY, hcn, hck, obCY, beCY⟩
  have XCCP : XCls K CP := ⟨gaCP, ghCP, gcCP, hcn, hck, obCP, beCP⟩
  have XCCL : XCls K CL := ⟨gaCL, ghCL, gcCL, hcn, hck, obCL, beCL⟩
  have XCCK : XCls K CK := ⟨gaCK, ghCK, gcCK, hcn, hck, obCK, beCK⟩
  have XCCT : XCls K CT := ⟨gaCT, ghCT, gcCT, hcn, hck, obCT, beCT⟩
  have XCCF : XCls K CF := ⟨gaCF, ghCF, gcCF, hcn, hck, obCF, beCF⟩
  have FW0 := fun_mk (x := "word") (qual := "Nought.word") (st := s_Nought_word) l100 c100 k100
  have bW0 := FW0.binds (ps := ["self"]) fun _ _ _ _ _ _ us hl => match us, hl with | [_], _ => rfl
  have mW0 : Meth K CN "word" f100 := ⟨a100, i100, k100⟩
  have FW1 := fun_mk (x := "word") (qual := "Great.word") (st := s_Great_word) l101 c101 k101
  have bW1 := FW1.binds (ps := ["self"]) fun _ _ _ _ _ _ us hl => match us, hl with | [_], _ => rfl
  have mW1 : Meth K CG "word" f101 := ⟨a101, i101, k101⟩
  have FW2 := fun_mk (x := "word") (qual := "Full.word") (st := s_Full_word) l102 c102 k102
  have bW2 := FW2.binds (ps := ["self"]) fun _ _ _ _ _ _ us hl => match us, hl with | [_], _ => rfl
  have mW2 : Meth K CU "word" f102 := ⟨a102, i102, k102⟩
  have FW3 := fun_mk (x := "word") (qual := "Dry.word") (st := s_Dry_word) l103 c103 k103
  have bW3 := FW3.binds (ps := ["self"]) fun _ _ _ _ _ _ us hl => match us, hl with | [_], _ => rfl
  have mW3 : Meth K CY "word" f103 := ⟨a103, i103, k103⟩
  have FW4 := fun_mk (x := "word") (qual := "Span.word") (st := s_Span_word) l104 c104 k104
  have bW4 := FW4.binds (ps := ["self"]) fun _ _ _ _ _ _ us hl => match us, hl with | [_], _ => rfl
  have mW4 : Meth K CP "word" f104 := ⟨a104, i104, k104⟩
  have FW5 := fun_mk (x := "word") (qual := "Late.word") (st := s_Late_word) l105 c105 k105
  have bW5 := FW5.binds (ps := ["self"]) fun _ _ _ _ _ _ us hl => match us, hl with | [_], _ => rfl
  have mW5 : Meth K CL "word" f105 := ⟨a105, i105, k105⟩
  have FWF := fun_mk (x := "word") (qual := "Fault.word") (st := s_Fault_word) l106 c106 k106
  have bWF := FWF.binds (ps := ["self"]) fun _ _ _ _ _ _ us hl => match us, hl with | [_], _ => rfl
  have mWF : Meth K CF "word" f106 := ⟨a106, i106, k106⟩
  have TF : Fts K mg (csOf CN CG CU CY CP CL CK CT 0) (csOf CN CG CU CY CP CL CK CT 1) := ⟨PySem.W.mg_of X G aCN, PySem.W.mg_of X G aCG, xCN, xCG, enn, egn, egg⟩
  have TM : MdT K mg CM CS := ⟨⟨pgCM, hdCM, poCM, saCM⟩, ⟨pgCS, hdCS, poCS, saCS⟩, nCMmachines, nCSboxes, nCSqueues, nCSdrawn, nCSsent, PySem.W.mg_of X G aCM, PySem.W.mg_of X G aCS⟩
  have X6 : Ex K mg (csOf CN CG CU CY CP CL CK CT) CF CE := ⟨PySem.W.mg_of X G aCN, PySem.W.mg_of X G aCG, PySem.W.mg_of X G aCU, PySem.W.mg_of X G aCY, PySem.W.mg_of X G aCP, PySem.W.mg_of X G aCL, PySem.W.mg_of X G aCK, PySem.W.mg_of X G aCT, PySem.W.mg_of X G aCF, PySem.W.mg_of X G aCE, PySem.W.mg_none_of X G zV, fun i hi => match i, hi with | 0, _ => xCN | 1, _ => xCG | 2, _ => xCU | 3, _ => xCY | 4, _ => xCP | 5, _ => xCL | 6, _ => xCK | 7, _ => xCT | n + 8, h => absurd h (by omega), xCF, fun i hi => match i, hi with | 0, _ => kpCN | 1, _ => kpCG | 2, _ => kpCU | 3, _ => kpCY | 4, _ => kpCP | 5, _ => kpCL | 6, _ => kpCK | 7, _ => kpCT | n + 8, h => absurd h (by omega), kpCF, fun i hi => match i, hi with | 0, _ => XCCN | 1, _ => XCCG | 2, _ => XCCU | 3, _ => XCCY | 4, _ => XCCP | 5, _ => XCCL | 6, _ => XCCK | 7, _ => XCCT | n + 8, h => absurd h (by omega), XCCF, fun i hi => match i, hi with | 0, _ => (fun i hi => match i, hi with | 0, _ => kit_self | 1, _ => kit_none qa0 _ (.head _) | 2, _ => kit_none qa0 _ (.tail _ (.head _)) | 3, _ => kit_none qa0 _ (.tail _ (.tail _ (.head _))) | 4, _ => kit_none qa0 _ (.tail _ (.tail _ (.tail _ (.head _)))) | 5, _ => kit_none qa0 _ (.tail _ (.tail _ (.tail _ (.tail _ (.head _))))) | 6, _ => kit_none qa0 _ (.tail _ (.tail _ (.tail _ (.tail _ (.tail _ (.head _)))))) | 7, _ => kit_none qa0 _ (.tail _ (.tail _ (.tail _ (.tail _ (.tail _ (.tail _ (.head _))))))) | n + 8, h => absurd h (by omega)) | 1, _ => (fun i hi => match i, hi with | 0, _ => kit_none qa1 _ (.head _) | 1, _ => kit_self | 2, _ => kit_none qa1 _ (.tail _ (.head _)) | 3, _ => kit_none qa1 _ (.tail _ (.tail _ (.head _))) | 4, _ => kit_none qa1 _ (.tail _ (.tail _ (.tail _ (.head _)))) | 5, _ => kit_none qa1 _ (.tail _ (.tail _ (.tail _ (.tail _ (.head _))))) | 6, _ => kit_none qa1 _ (.tail _ (.tail _ (.tail _ (.tail _ (.tail _ (.head _)))))) | 7, _ => kit_none qa1 _ (.tail _ (.tail _ (.tail _ (.tail _ (.tail _ (.tail _ (.head _))))))) | n + 8, h => absurd h (by omega)) | 2, _ => (fun i hi => match i, hi with | 0, _ => kit_none qa2 _ (.head _) | 1, _ => kit_none qa2 _ (.tail _ (.head _)) | 2, _ => kit_self | 3, _ => kit_none qa2 _ (.tail _ (.tail _ (.head _))) | 4, _ => kit_none qa2 _ (.tail _ (.tail _ (.tail _ (.head _)))) | 5, _ => kit_none qa2 _ (.tail _ (.tail _ (.tail _ (.tail _ (.head _))))) | 6, _ => kit_none qa2 _ (.tail _ (.tail _ (.tail _ (.tail _ (.tail _ (.head _)))))) | 7, _ => kit_none qa2 _ (.tail _ (.tail _ (.tail _ (.tail _ (.tail _ (.tail _ (.head _))))))) | n + 8, h => absurd h (by omega)) | 3, _ => (fun i hi => match i, hi with | 0, _ => kit_none qa3 _ (.head _) | 1, _ => kit_none qa3 _ (.tail _ (.head _)) | 2, _ => kit_none qa3 _ (.tail _ (.tail _ (.head _))) | 3, _ => kit_self | 4, _ => kit_none qa3 _ (.tail _ (.tail _ (.tail _ (.head _)))) | 5, _ => kit_none qa3 _ (.tail _ (.tail _ (.tail _ (.tail _ (.head _))))) | 6, _ => kit_none qa3 _ (.tail _ (.tail _ (.tail _ (.tail _ (.tail _ (.head _)))))) | 7, _ => kit_none qa3 _ (.tail _ (.tail _ (.tail _ (.tail _ (.tail _ (.tail _ (.head _))))))) | n + 8, h => absurd h (by omega)) | 4, _ => (fun i hi => match i, hi with | 0, _ => kit_none qa4 _ (.head _) | 1, _ => kit_none qa4 _ (.tail _ (.head _)) | 2, _ => kit_none qa4 _ (.tail _ (.tail _ (.head _))) | 3, _ => kit_none qa4 _ (.tail _ (.tail _ (.tail _ (.head _)))) | 4, _ => kit_self | 5, _ => kit_none qa4 _ (.tail _ (.tail _ (.tail _ (.tail _ (.head _))))) | 6, _ => kit_none qa4 _ (.tail _ (.tail _ (.tail _ (.tail _ (.tail _ (.head _)))))) | 7, _ => kit_none qa4 _ (.tail _ (.tail _ (.tail _ (.tail _ (.tail _ (.tail _ (.head _))))))) | n + 8, h => absurd h (by omega)) | 5, _ => (fun i hi => match i, hi with | 0, _ => kit_none qa5 _ (.head _) | 1, _ => kit_none qa5 _ (.tail _ (.head _)) | 2, _ => kit_none qa5 _ (.tail _ (.tail _ (.head _))) | 3, _ => kit_none qa5 _ (.tail _ (.tail _ (.tail _ (.head _)))) | 4, _ => kit_none qa5 _ (.tail _ (.tail _ (.tail _ (.tail _ (.head _))))) | 5, _ => kit_self | 6, _ => kit_none qa5 _ (.tail _ (.tail _ (.tail _ (.tail _ (.tail _ (.head _)))))) | 7, _ => kit_none qa5 _ (.tail _ (.tail _ (.tail _ (.tail _ (.tail _ (.tail _ (.head _))))))) | n + 8, h => absurd h (by omega)) | 6, _ => (fun i hi => match i, hi with | 0, _ => kit_none qa6 _ (.head _) | 1, _ => kit_none qa6 _ (.tail _ (.head _)) | 2, _ => kit_none qa6 _ (.tail _ (.tail _ (.head _))) | 3, _ => kit_none qa6 _ (.tail _ (.tail _ (.tail _ (.head _)))) | 4, _ => kit_none qa6 _ (.tail _ (.tail _ (.tail _ (.tail _ (.head _))))) | 5, _ => kit_none qa6 _ (.tail _ (.tail _ (.tail _ (.tail _ (.tail _ (.head _)))))) | 6, _ => kit_self | 7, _ => kit_none qa6 _ (.tail _ (.tail _ (.tail _ (.tail _ (.tail _ (.tail _ (.head _))))))) | n + 8, h => absurd h (by omega)) | 7, _ => (fun i hi => match i, hi with | 0, _ => kit_none qa7 _ (.head _) | 1, _ => kit_none qa7 _ (.tail _ (.head _)) | 2, _ => kit_none qa7 _ (.tail _ (.tail _ (.head _))) | 3, _ => kit_none qa7 _ (.tail _ (.tail _ (.tail _ (.head _)))) | 4, _ => kit_none qa7 _ (.tail _ (.tail _ (.tail _ (.tail _ (.head _))))) | 5, _ => kit_none qa7 _ (.tail _ (.tail _ (.tail _ (.tail _ (.tail _ (.head _)))))) | 6, _ => kit_none qa7 _ (.tail _ (.tail _ (.tail _ (.tail _ (.tail _ (.tail _ (.head _))))))) | 7, _ => kit_self | n + 8, h => absurd h (by omega)) | n + 8, h => absurd h (by omega), fun i hi => match i, hi with | 0, _ => kit_none qaF _ (.head _) | 1, _ => kit_none qaF _ (.tail _ (.head _)) | 2, _ => kit_none qaF _ (.tail _ (.tail _ (.head _))) | 3, _ => kit_none qaF _ (.tail _ (.tail _ (.tail _ (.head _)))) | 4, _ => kit_none qaF _ (.tail _ (.tail _ (.tail _ (.tail _ (.head _))))) | 5, _ => kit_none qaF _ (.tail _ (.tail _ (.tail _ (.tail _ (.tail _ (.head _)))))) | 6, _ => kit_none qaF _ (.tail _ (.tail _ (.tail _ (.tail _ (.tail _ (.tail _ (.head _))))))) | 7, _ => kit_none qaF _ (.tail _ (.tail _ (.tail _ (.tail _ (.tail _ (.tail _ (.tail _ (.head _)))))))) | n + 8, h => absurd h (by omega), fun i hi => match i, hi with | 0, _ => e0 | 1, _ => e1 | 2, _ => e2 | 3, _ => e3 | 4, _ => e4 | 5, _ => e5 | 6, _ => e6 | 7, _ => e7 | n + 8, h => absurd h (by omega), eF, fun i hi => match i, hi with | 0, _ => v0 | 1, _ => v1 | 2, _ => v2 | 3, _ => v3 | 4, _ => v4 | 5, _ => v5 | 6, _ => v6 | 7, _ => v7 | n + 8, h => absurd h (by omega), fun i hi => match i, hi with | 0, _ => f0F | 1, _ => f1F | 2, _ => f2F | 3, _ => f3F | 4, _ => f4F | 5, _ => f5F | 6, _ => f6F | 7, _ => f7F | n + 8, h => absurd h (by omega), xh0, xh1⟩
  exact ⟨_, fun s v => .of_eq rfl, fun base _ _ => ok_law (cs := csOf CN CG CU CY CP CL CK CT) D14 D8 D7 D9 D6 MCS FSI bSI MCM FMI bMI D5 D1 D3 D4 D2 D10 D11 D12 D13 mW0 bW0 FW0 mW1 bW1 FW1 mW2 bW2 FW2 mW3 bW3 FW3 mW4 bW4 FW4 mW5 bW5 FW5 mWF bWF FWF B X6 TF TM⟩
theorem walk {l : PySem.W.OpenLaw} {q : Program} {loose : List Str} {XP : (Str → Option Value) → Heap → Prop} {YP : World → Heap → Prop} {d : DefRec} {K : Params → PySem.W.Frag} (hn : l.most = some 63) (hdf : d.params.defaults = [])
    (hY : ∀ (w : World) (h : Heap), YP w h → (K w.params).In h)
    (F : ∀ (w : World) (mg : Str → Option Value) (fa : Addr) (h : Heap), (K w.params).In h → h.Ns mainGlobals mg → mg d.name = some (.ref fa) →
      ∃ fd : FuncData, (∀ (s : Shared) (u : Value), BindsTo s fd ⟨[u], []⟩ [("_law_script", u)]) ∧ ∀ base : Heap, (K w.params).In base → base.Ns mainGlobals mg → FnOk l.prog w (K w.params) mg base CX0 12 fa fd ["_law_script"] (spLaw (K w.params))) :
    PySem.W.WalkO q loose XP YP l.row.toRowW d [] (fun f vs => PySem.call f vs) :=
  L2.walk_ofB (n := 63) (k := 12) (x := "_law_script") (CX := fun _ => CX0) (sp := fun w => spLaw (K w.params)) hn (by decide) hdf ⟨rfl, by decide, by decide⟩ hY F (fun _ _ a ns hl hb hS => ⟨a, ns, rfl, hS, hl, hb, fun _ => rfl⟩) fun _ _ _ _ _ z => z
end My
open PySem PySem.W PyProof.Rows
set_option maxRecDepth 100000 in
set_option maxHeartbeats 0 in
theorem PySem.Challenge.cw_momentloom_k06_faults_sorted_holds : PySem.Challenge.rw_momentloom_k06_faults_sorted.Holds := by
  w_on; o_law; k_head; (case hw => w_witness2)
  k_fill
  refine My.walk (l := PySem.Challenge.rw_momentloom_k06_faults_sorted) rfl rfl (fun w h Y => PySem.W.kIn_of Y) ?F
  case F =>
    intro w mg fa h KX G hmg
    refine' My.all_mk KX G hmg ?a1 ?l1 ?c1 ?k1 ?a2 ?l2 ?c2 ?k2 ?a3 ?l3 ?c3 ?k3 ?a4 ?l4 ?c4 ?k4 ?a5 ?l5 ?c5 ?k5 ?a6 ?l6 ?c6 ?k6 ?a7 ?l7 ?c7 ?k7 ?a8 ?l8 ?c8 ?k8 ?a9 ?l9 ?c9 ?k9 ?a10 ?l10 ?c10 ?k10 ?a11 ?l11 ?c11 ?k11 ?a12 ?l12 ?c12 ?k12 ?a13 ?l13 ?c13 ?k13 ?a14 ?l14 ?c14 ?k14 ?aCM ?a15 ?i15 ?l15 ?c15 ?k15 ?pgCM ?hdCM ?poCM ?saCM ?mkCM ?kcCM ?nCMmachines ?aCS ?a16 ?i16 ?l16 ?c16 ?k16 ?pgCS ?hdCS ?poCS ?saCS ?mkCS ?kcCS ?nCSboxes ?nCSqueues ?nCSdrawn ?nCSsent ?aCN ?xCN ?aCG ?xCG ?aCU ?xCU ?aCY ?xCY ?aCP ?xCP ?aCL ?xCL ?aCK ?xCK ?aCT ?xCT ?aCF ?xCF ?enn ?egn ?egg ?zlen ?zabs ?zisinstance ?zlist ?ztuple ?zstr ?zint ?zbool ?zrange ?zmax ?zdict ?aCE ?zV ?hcn ?hck ?kpCN ?gaCN ?ghCN ?gcCN ?obCN ?beCN ?kpCG ?gaCG ?ghCG ?gcCG ?obCG ?beCG ?kpCU ?gaCU ?ghCU ?gcCU ?obCU ?beCU ?kpCY ?gaCY ?ghCY ?gcCY ?obCY ?beCY ?kpCP ?gaCP ?ghCP ?gcCP ?obCP ?beCP ?kpCL ?gaCL ?ghCL ?gcCL ?obCL ?beCL ?kpCK ?gaCK ?ghCK ?gcCK ?obCK ?beCK ?kpCT ?gaCT ?ghCT ?gcCT ?obCT ?beCT ?kpCF ?gaCF ?ghCF ?gcCF ?obCF ?beCF ?qa0 ?e0 ?v0 ?f0F ?qa1 ?e1 ?v1 ?f1F ?qa2 ?e2 ?v2 ?f2F ?qa3 ?e3 ?v3 ?f3F ?qa4 ?e4 ?v4 ?f4F ?qa5 ?e5 ?v5 ?f5F ?qa6 ?e6 ?v6 ?f6F ?qa7 ?e7 ?v7 ?f7F ?qaF ?eF ?xh0 ?xh1 ?a100 ?i100 ?l100 ?c100 ?k100 ?a101 ?i101 ?l101 ?c101 ?k101 ?a102 ?i102 ?l102 ?c102 ?k102 ?a103 ?i103 ?l103 ?c103 ?k103 ?a104 ?i104 ?l104 ?c104 ?k104 ?a105 ?i105 ?l105 ?c105 ?k105 ?a106 ?i106 ?l106 ?c106 ?k106
    (case a1 => k_is)
    (case l1 => k_is)
    (case c1 => k_is)
    (case k1 => k_is)
    (case a2 => k_is)
    (case l2 => k_is)
    (case c2 => k_is)
    (case k2 => k_is)
    (case a3 => k_is)
    (case l3 => k_is)
    (case c3 => k_is)
    (case k3 => k_is)
    (case a4 => k_is)
    (case l4 => k_is)
    (case c4 => k_is)
    (case k4 => k_is)
    (case a5 => k_is)
    (case l5 => k_is)
    (case c5 => k_is)
    (case k5 => k_is)
    (case a6 => k_is)
    (case l6 => k_is)
    (case c6 => k_is)
    (case k6 => k_is)
    (case a7 => k_is)
    (case l7 => k_is)
    (case c7 => k_is)
    (case k7 => k_is)
    (case a8 => k_is)
    (case l8 => k_is)
    (case c8 => k_is)
    (case k8 => k_is)
    (case a9 => k_is)
    (case l9 => k_is)
    (case c9 => k_is)
    (case k9 => k_is)
    (case a10 => k_is)
    (case l10 => k_is)
    (case c10 => k_is)
    (case k10 => k_is)
    (case a11 => k_is)
    (case l11 => k_is)
    (case c11 => k_is)
    (case k11 => k_is)
    (case a12 => k_is)
    (case l12 => k_is)
    (case c12 => k_is)
    (case k12 => k_is)
    (case a13 => k_is)
    (case l13 => k_is)
    (case c13 => k_is)
    (case k13 => k_is)
    (case a14 => k_is)
    (case l14 => k_is)
    (case c14 => k_is)
    (case k14 => k_is)
    (case aCM => k_is)
    (case a15 => k_is)
    (case i15 => k_is)
    (case l15 => k_is)
    (case c15 => k_is)
    (case k15 => k_is)
    (case pgCM => k_is)
    (case hdCM => k_is)
    (case poCM => k_is)
    (case saCM => k_is)
    (case mkCM => k_is)
    (case kcCM => k_is)
    (case nCMmachines => k_is)
    (case aCS => k_is)
    (case a16 => k_is)
    (case i16 => k_is)
    (case l16 => k_is)
    (case c16 => k_is)
    (case k16 => k_is)
    (case pgCS => k_is)
    (case hdCS => k_is)
    (case poCS => k_is)
    (case saCS => k_is)
    (case mkCS => k_is)
    (case kcCS => k_is)
    (case nCSboxes => k_is)
    (case nCSqueues => k_is)
    (case nCSdrawn => k_is)
    (case nCSsent => k_is)
    (case aCN => k_is)
    (case xCN => k_exc)
    (case aCG => k_is)
    (case xCG => k_exc)
    (case aCU => k_is)
    (case xCU => k_exc)
    (case aCY => k_is)
    (case xCY => k_exc)
    (case aCP => k_is)
    (case xCP => k_exc)
    (case aCL => k_is)
    (case xCL => k_exc)
    (case aCK => k_is)
    (case xCK => k_exc)
    (case aCT => k_is)
    (case xCT => k_exc)
    (case aCF => k_is)
    (case xCF => k_exc)
    (case enn => kts_exm)
    (case egn => kts_exm)
    (case egg => kts_exm)
    (case zlen => k_is)
    (case zabs => k_is)
    (case zisinstance => k_is)
    (case zlist => k_is)
    (case ztuple => k_is)
    (case zstr => k_is)
    (case zint => k_is)
    (case zbool => k_is)
    (case zrange => k_is)
    (case zmax => k_is)
    (case zdict => k_is)
    (case aCE => k_is)
    (case zV => k_is)
    (case hcn => k_is)
    (case hck => k_is)
    (case kpCN => k_is)
    (case gaCN => k_is)
    (case ghCN => k_is)
    (case gcCN => k_is)
    (case obCN => k_is)
    (case beCN => k_is)
    (case kpCG => k_is)
    (case gaCG => k_is)
    (case ghCG => k_is)
    (case gcCG => k_is)
    (case obCG => k_is)
    (case beCG => k_is)
    (case kpCU => k_is)
    (case gaCU => k_is)
    (case ghCU => k_is)
    (case gcCU => k_is)
    (case obCU => k_is)
    (case beCU => k_is)
    (case kpCY => k_is)
    (case gaCY => k_is)
    (case ghCY => k_is)
    (case gcCY => k_is)
    (case obCY => k_is)
    (case beCY => k_is)
    (case kpCP => k_is)
    (case gaCP => k_is)
    (case ghCP => k_is)
    (case gcCP => k_is)
    (case obCP => k_is)
    (case beCP => k_is)
    (case kpCL => k_is)
    (case gaCL => k_is)
    (case ghCL => k_is)
    (case gcCL => k_is)
    (case obCL => k_is)
    (case beCL => k_is)
    (case kpCK => k_is)
    (case gaCK => k_is)
    (case ghCK => k_is)
    (case gcCK => k_is)
    (case obCK => k_is)
    (case beCK => k_is)
    (case kpCT => k_is)
    (case gaCT => k_is)
    (case ghCT => k_is)
    (case gcCT => k_is)
    (case obCT => k_is)
    (case beCT => k_is)
    (case kpCF => k_is)
    (case gaCF => k_is)
    (case ghCF => k_is)
    (case gcCF => k_is)
    (case obCF => k_is)
    (case beCF => k_is)
    (case qa0 => kit_is)
    (case e0 => kit_is)
    (case v0 => kit_is)
    (case f0F => kit_is)
    (case qa1 => kit_is)
    (case e1 => kit_is)
    (case v1 => kit_is)
    (case f1F => kit_is)
    (case qa2 => kit_is)
    (case e2 => kit_is)
    (case v2 => kit_is)
    (case f2F => kit_is)
    (case qa3 => kit_is)
    (case e3 => kit_is)
    (case v3 => kit_is)
    (case f3F => kit_is)
    (case qa4 => kit_is)
    (case e4 => kit_is)
    (case v4 => kit_is)
    (case f4F => kit_is)
    (case qa5 => kit_is)
    (case e5 => kit_is)
    (case v5 => kit_is)
    (case f5F => kit_is)
    (case qa6 => kit_is)
    (case e6 => kit_is)
    (case v6 => kit_is)
    (case f6F => kit_is)
    (case qa7 => kit_is)
    (case e7 => kit_is)
    (case v7 => kit_is)
    (case f7F => kit_is)
    (case qaF => kit_is)
    (case eF => kit_is)
    (case xh0 => kts_exm)
    (case xh1 => kts_exm)
    (case a100 => k_is)
    (case i100 => k_is)
    (case l100 => k_is)
    (case c100 => k_is)
    (case k100 => k_is)
    (case a101 => k_is)
    (case i101 => k_is)
    (case l101 => k_is)
    (case c101 => k_is)
    (case k101 => k_is)
    (case a102 => k_is)
    (case i102 => k_is)
    (case l102 => k_is)
    (case c102 => k_is)
    (case k102 => k_is)
    (case a103 => k_is)
    (case i103 => k_is)
    (case l103 => k_is)
    (case c103 => k_is)
    (case k103 => k_is)
    (case a104 => k_is)
    (case i104 => k_is)
    (case l104 => k_is)
    (case c104 => k_is)
    (case k104 => k_is)
    (case a105 => k_is)
    (case i105 => k_is)
    (case l105 => k_is)
    (case c105 => k_is)
    (case k105 => k_is)
    (case a106 => k_is)
    (case i106 => k_is)
    (case l106 => k_is)
    (case c106 => k_is)
    (case k106 => k_is)

import PyProof.Rows.All
import Wide.All
import OpenK.AllK
import Wide.FinOn
import Lean
import PyProof.EqAt
import PyProof.EqKinds
import PyProof.TupleCall
import KE.KDictOf
import PyProof.AttrMissSeq
import PyProof.DictCopy
import PyProof.NeKinds
import PyProof.DictWalks
import PyProof.MinMaxWalk
import PyProof.MeetsDictList
import PyProof.DictFindH
import PyProof.DictTruth
import KE.KRevSl
import PySem.Challenge.RW_momentloom_k24_wheels_used
-- CHANGE: your row's module here, as the last of these rows
set_option Elab.async false
set_option linter.all false
set_option maxRecDepth 100000
/-! THE HAND LAYER, for ints, bools, texts, own classes, LISTS and tuples (index, slices, in, append, pop ..), calls, loops. Paste it whole ahead of your own text; what your proof does not reach may be deleted. -/
namespace L2
open PySem PySem.Spec PyProof.Rows

/-- a key: an int or a str -/
abbrev Key := Sum Int Str
def keyIs : Key → Value → Bool
  | .inl k, v => Value.isInt k v
  | .inr x, v => Value.isStrOf x v
def keyH (w : World) : Key → Int
  | .inl k => hashInt k
  | .inr x => hashStr w x
theorem keyIs_shape : ∀ {k : Key} {v : Value}, keyIs k v = true → (∃ i t, k = Sum.inl i ∧ v = Value.int i t) ∨ (∃ x t, k = Sum.inr x ∧ v = Value.str x t)
  | .inl i, v, h => by
    obtain ⟨t, e⟩ := Value.isInt_shape (k := i) (v := v) h
    exact .inl ⟨i, t, rfl, e⟩
  | .inr x, v, h => by
    obtain ⟨t, e⟩ := Value.isStrOf_shape (x := x) (v := v) h
    exact .inr ⟨x, t, rfl, e⟩
theorem keyIs_int (i : Int) (t : Tok) : keyIs (.inl i) (.int i t) = true := by simp [keyIs, Value.isInt]
theorem keyIs_str (x : Str) (t : Tok) : keyIs (.inr x) (.str x t) = true := by simp [keyIs, Value.isStrOf]
theorem key_ll (a b : Int) : decide ((Sum.inl a : Key) = Sum.inl b) = (a == b) := by
  by_cases e : a = b
  · subst e; simp
  · have h : ¬ (Sum.inl a : Key) = Sum.inl b := fun q => e (Sum.inl.inj q)
    rw [decide_eq_false h]
    exact (beq_eq_false_iff_ne.mpr e).symm
theorem key_rr (a b : Str) : decide ((Sum.inr a : Key) = Sum.inr b) = decide (a = b) := by
  by_cases e : a = b
  · subst e; simp
  · have h : ¬ (Sum.inr a : Key) = Sum.inr b := fun q => e (Sum.inr.inj q)
    rw [decide_eq_false h, decide_eq_false e]
theorem key_lr (a : Int) (b : Str) : decide ((Sum.inl a : Key) = Sum.inr b) = false := decide_eq_false (fun q => nomatch q)
theorem key_rl (a : Str) (b : Int) : decide ((Sum.inr a : Key) = Sum.inl b) = false := decide_eq_false (fun q => nomatch q)

def mixKind (prog : Program) (w : World) : PySem.KeyKind prog w Key where
  is := keyIs
  hash := keyH w
  inj := fun v a b ha hb => by
    rcases keyIs_shape ha with ⟨i, t, rfl, rfl⟩ | ⟨x, t, rfl, rfl⟩
    · rcases keyIs_shape hb with ⟨j, u, rfl, e⟩ | ⟨y, u, rfl, e⟩
      · injection e with e1 _; rw [e1]
      · exact nomatch e
    · rcases keyIs_shape hb with ⟨j, u, rfl, e⟩ | ⟨y, u, rfl, e⟩
      · exact nomatch e
      · injection e with e1 _; rw [e1]
  byValue := fun k v h => by
    rcases keyIs_shape h with ⟨i, t, rfl, rfl⟩ | ⟨x, t, rfl, rfl⟩ <;> rfl
  pyHash := fun hv h => by
    rcases keyIs_shape hv with ⟨i, t, rfl, rfl⟩ | ⟨x, t, rfl, rfl⟩
    · exact wpAny_pyHash_int h
    · exact wpAny_pyHash_str h
  eqBool := fun hu hv h => by
    rcases keyIs_shape hu with ⟨i, t, rfl, rfl⟩ | ⟨x, t, rfl, rfl⟩
    · rcases keyIs_shape hv with ⟨j, u, rfl, rfl⟩ | ⟨y, u, rfl, rfl⟩
      · rw [key_ll] at h; exact wpAny_eqBool_int h
      · rw [key_lr] at h; exact SeqAt.EqAt.int_str i t y u _ _ _ _ h
    · rcases keyIs_shape hv with ⟨j, u, rfl, rfl⟩ | ⟨y, u, rfl, rfl⟩
      · rw [key_rl] at h; exact SeqAt.EqAt.str_int x t j u _ _ _ _ h
      · rw [key_rr] at h; exact wpAny_eqBool_str h
  «strs» := fun k x t v h => by
    rcases keyIs_shape h with ⟨i, u, rfl, e⟩ | ⟨y, u, rfl, e⟩
    · exact nomatch e
    · injection e with e1 _
      subst e1
      cases v <;> rfl

theorem mixKind_is (prog : Program) (w : World) (k : Key) (v : Value) : (mixKind prog w).is k v = keyIs k v := rfl
theorem mixKind_int (prog : Program) (w : World) (i : Int) (t : Tok) : (mixKind prog w).is (.inl i) (.int i t) = true := keyIs_int i t
theorem mixKind_str (prog : Program) (w : World) (x : Str) (t : Tok) : (mixKind prog w).is (.inr x) (.str x t) = true := keyIs_str x t
end L2

namespace L2
open PySem PySem.Spec PyProof.Rows

/-- a value, without the heap -/
inductive V where
  | non | bl (b : Bool) | int (i : Int) | str (x : Str) | byt (b : Array UInt8) | flt (b : UInt64) | ref (a : Addr) | ty (n : String)
  deriving DecidableEq

def RelV : V → Value → Prop
  | .non, u => u = Value.none
  | .bl b, u => u = Value.bool b
  | .int i, u => ∃ t, u = Value.int i t
  | .str x, u => ∃ t, u = Value.str x t
  | .byt b, u => ∃ t, u = Value.bytes b t
  | .flt b, u => ∃ t, u = Value.float b t
  | .ref a, u => u = Value.ref a
  | .ty n, u => u = Value.type n

abbrev Vals : List V → List Value → Prop := Paired RelV
theorem Vals.length {xs : List V} {us : List Value} (r : Vals xs us) : xs.length = us.length := Paired.length r
theorem Vals.get : ∀ {xs : List V} {us : List Value} {i : Nat} {x : V}, Vals xs us → xs[i]? = some x → ∃ u, us[i]? = some u ∧ RelV x u
  | _, _, _, _, .nil, e => by simp at e
  | _, _, 0, _, .cons r _, e => by simp at e; subst e; exact ⟨_, rfl, r⟩
  | _, _, i + 1, x, .cons _ t, e => by
    obtain ⟨u, h1, h2⟩ := Vals.get (i := i) (x := x) t (by simpa using e)
    exact ⟨u, by simpa using h1, h2⟩
theorem Vals.set {x : V} {u : Value} (r : RelV x u) : ∀ {xs : List V} {us : List Value} (i : Nat), Vals xs us → Vals (xs.set i x) (us.set i u)
  | _, _, _, .nil => .nil
  | _, _, 0, .cons _ t => .cons r t
  | _, _, i + 1, .cons q t => .cons q (Vals.set r i t)
theorem Vals.append : ∀ {xs ys : List V} {us ws : List Value}, Vals xs us → Vals ys ws → Vals (xs ++ ys) (us ++ ws)
  | _, _, _, _, .nil, s => s
  | _, _, _, _, .cons r t, s => .cons r (Vals.append t s)
theorem Vals.take : ∀ {xs : List V} {us : List Value} (n : Nat), Vals xs us → Vals (xs.take n) (us.take n)
  | _, _, 0, _ => .nil
  | _, _, _ + 1, .nil => .nil
  | _, _, n + 1, .cons r t => .cons r (Vals.take n t)
theorem Vals.drop : ∀ {xs : List V} {us : List Value} (n : Nat), Vals xs us → Vals (xs.drop n) (us.drop n)
  | _, _, 0, r => r
  | _, _, _ + 1, .nil => .nil
  | _, _, n + 1, .cons _ t => Vals.drop n t
theorem Vals.none_of : ∀ {xs : List V} {us : List Value} {i : Nat}, Vals xs us → xs[i]? = none → us[i]? = none := fun {xs us i} r e => by
  have h1 := r.length
  have h2 : xs.length ≤ i := List.getElem?_eq_none_iff.mp e
  exact List.getElem?_eq_none_iff.mpr (by omega)

def RelO : Option V → Option Value → Prop
  | some v, some u => RelV v u
  | none, none => True
  | _, _ => False
def KV {κ : Type} : List (κ × V) → List (κ × Value) → Prop := Paired fun (p : κ × V) (q : κ × Value) => p.1 = q.1 ∧ RelV p.2 q.2

/-- a key of a dict (00_mix): an int or a text -/
def kV : Key → V
  | .inl i => .int i
  | .inr x => .str x

/-- what stands at a tracked address -/
inductive HO where
  /-- a list -/
  | lst (xs : List V)
  /-- a tuple (never changes) -/
  | tup (xs : List V)
  /-- a dict whose keys are ints and texts; one whose keys are tuples of ints and texts (the empty one is both) -/
  | dK (kvs : List (Key × V)) | dT (kvs : List (List Key × V))
  /-- a set of ints: its members, its size -/
  | set (S : Int → Bool) (n : Nat)
  /-- an instance of the class at C, its dict at dx, its attributes -/
  | ins (C dx : Addr) (fs : List (Str × V))
  /-- the dict of the instance at x -/
  | own (x : Addr)
  /-- the dict of an exception -/
  | xd (fs : List (Str × V))
  /-- a bound method, f of x -/
  | met (f x : Addr)
  /-- a range object lo, lo + 1, .. below hi -/
  | rng (lo hi : Int)
  /-- a thing that is known to the object (the script; a dict while a loop walks it): read, never written while it is so -/
  | frz (o : Obj) (u : HO)
  /-- a code object's table -/
  | tbl (ps : Array Value)
  /-- any other thing, by what is true of its one object (a def of one's own: SetO a S n := HO.ext fun h => ..) -/
  | ext (φ : Heap → Prop)

abbrev Hp := Addr → Option HO
def upd (H : Hp) (a : Addr) (o : HO) : Hp := fun b => if b = a then some o else H b
theorem upd_same {H : Hp} {a : Addr} {o : HO} : upd H a o a = some o := by unfold upd; rw [if_pos rfl]
theorem upd_ne {H : Hp} {a b : Addr} {o : HO} (h : b ≠ a) : upd H a o b = H b := by unfold upd; rw [if_neg h]
theorem upd_upd {H : Hp} {a : Addr} {o u : HO} : upd (upd H a o) a u = upd H a u := by
  funext b; unfold upd; split <;> rfl
/-- two objects of different content stand apart -/
theorem ne_of {H : Hp} {a b : Addr} {o u : HO} (h : H a = some o) (h' : H b = some u) (d : o ≠ u) : a ≠ b := by
  intro e; subst e; rw [h] at h'; exact d (Option.some.inj h')
theorem ne_of_none {H : Hp} {a b : Addr} {o : HO} (h : H a = some o) (h' : H b = none) : a ≠ b := by
  intro e; subst e; rw [h] at h'; cases h'

section
variable (P : Program) (w : World)
def ObjOk (H : Hp) (h : Heap) (a : Addr) : HO → Prop
  | .lst xs => xs.length ≤ sizeLine ∧ ∃ (its : List Value) (n : Nat), Vals xs its ∧ h.get? a = some { cls := .type "list", data := .seq its.toArray n }
  | .tup xs => xs.length ≤ sizeLine ∧ ∃ its : List Value, Vals xs its ∧ IsTup h a its.toArray
  | .dK kvs => kvs.length ≤ sizeLine ∧ (a == sysModules) = false ∧ ∃ vs, KV kvs vs ∧ h.DictOf (mixKind P w) a vs
  | .dT kvs => kvs.length ≤ sizeLine ∧ (a == sysModules) = false ∧ ∃ xs : List (List Key × Addr × Value),
      Paired (fun (p : List Key × V) (q : List Key × Addr × Value) => p.1 = q.1 ∧ H q.2.1 = some (.tup (p.1.map kV)) ∧ RelV p.2 q.2.2) kvs xs ∧
      ∃ o es ep, h.get? a = some o ∧ o.ExactDict ∧ o.data = .dict es ep ∧ es.toList = xs.map (entryOfKey (tupleKind (mixKind P w))) ∧ (xs.map (·.1)).Nodup
  | .set S n => h.SetOf (intKind P w) a S n
  | .ins C dx fs => H dx = some (.own a) ∧ fs.length ≤ 1000 ∧ dx ≠ a ∧ h.get? a = some (PySem.W.instObj C dx) ∧
      ∃ mA, h.Ns1 dx mA ∧ (∀ f, RelO (fs.lookup f) (mA f)) ∧ PySem.Within mA (fs.map (·.1))
  | .own _ => ∃ o, h.get? a = some o
  | .xd fs => ∃ mA, h.Ns1 a mA ∧ ∀ f, RelO (fs.lookup f) (mA f)
  | .rng lo hi => ∃ t u v, h.get? a = some { cls := .type "range", data := .fields #[.int lo t, .int hi u, .int 1 v] }
  | .frz o u => h.get? a = some o ∧ ObjOk H h a u
  | .tbl ps => h.get? a = some { cls := .none, data := .fields ps }
  | .met f x => h.get? a = some (PySem.W.methodObj (.ref f) (.ref x))
  | .ext φ => φ h ∧ (∃ o, h.get? a = some o) ∧ ∀ h1 h2 : Heap, φ h1 → (∀ o, h1.get? a = some o → h2.get? a = some o) → φ h2
/-- the abstract heap is held -/
def HOk (H : Hp) (h : Heap) : Prop := ∀ a o, H a = some o → ObjOk P w H h a o
end

section
variable {P : Program} {w : World} {H H' : Hp} {h h' : Heap} {a : Addr} {o : HO}
theorem ObjOk.lt (x : ObjOk P w H h a o) : a < h.objs.size := by
  cases o with
  | lst xs => obtain ⟨_, _, _, _, e⟩ := x; exact Heap.lt_size e
  | tup xs => obtain ⟨_, _, _, p⟩ := x; exact p.lt
  | dK kvs => obtain ⟨_, _, _, _, o, _, _, e, _⟩ := x; exact Heap.lt_size e
  | dT kvs => obtain ⟨_, _, _, _, o, _, _, e, _⟩ := x; exact Heap.lt_size e
  | set S n => obtain ⟨o, _, _, _, e, _⟩ := x; exact Heap.lt_size e
  | ins C dx fs => obtain ⟨_, _, _, e, _⟩ := x; exact Heap.lt_size e
  | own y => obtain ⟨_, e⟩ := x; exact Heap.lt_size e
  | xd fs => obtain ⟨_, ⟨_, _, _, e, _⟩, _⟩ := x; exact Heap.lt_size e
  | rng lo hi => obtain ⟨_, _, _, e⟩ := x; exact Heap.lt_size e
  | frz ob u => obtain ⟨e, _⟩ := x; exact Heap.lt_size e
  | tbl ps => exact Heap.lt_size (show h.get? a = some _ from x)
  | met f y => exact Heap.lt_size (show h.get? a = some _ from x)
  | ext φ => obtain ⟨_, ⟨_, e⟩, _⟩ := x; exact Heap.lt_size e
theorem Paired.mapP {α β : Type} {F G : α → β → Prop} : ∀ {l₁ : List α} {l₂ : List β}, Paired F l₁ l₂ → (∀ a b, F a b → G a b) → Paired G l₁ l₂
  | _, _, .nil, _ => .nil
  | _, _, .cons r t, f => .cons (f _ _ r) (Paired.mapP t f)
theorem Paired.imp' {α β : Type} {F G : α → β → Prop} (f : ∀ a b, F a b → G a b) {l₁ : List α} {l₂ : List β} (r : Paired F l₁ l₂) : Paired G l₁ l₂ := Paired.mapP r f
/-- what an object's description leans on: its own object, its own dict, the tuples -/
theorem ObjOk.stay (x : ObjOk P w H h a o) (k : ∀ b u, (b = a ∨ H b = some (.own a)) → h.get? b = some u → h'.get? b = some u)
    (ho : ∀ b, H b = some (.own a) → H' b = some (.own a)) (ht : ∀ b xs, H b = some (.tup xs) → H' b = some (.tup xs)) : ObjOk P w H' h' a o := by
  induction o with
  | lst xs => obtain ⟨z, its, n, r, e⟩ := x; exact ⟨z, its, n, r, k _ _ (.inl rfl) e⟩
  | tup xs => obtain ⟨z, its, r, ob, e, c⟩ := x; exact ⟨z, its, r, ob, k _ _ (.inl rfl) e, c⟩
  | dK kvs => obtain ⟨z, y, vs, r, ob, es, ep, e, c⟩ := x; exact ⟨z, y, vs, r, ob, es, ep, k _ _ (.inl rfl) e, c⟩
  | dT kvs =>
    obtain ⟨z, y, xs, r, ob, es, ep, e, c⟩ := x
    exact ⟨z, y, xs, Paired.mapP r fun p q z => ⟨z.1, ht _ _ z.2.1, z.2.2⟩, ob, es, ep, k _ _ (.inl rfl) e, c⟩
  | set S n => obtain ⟨ob, es, ep, t, e, c⟩ := x; exact ⟨ob, es, ep, t, k _ _ (.inl rfl) e, c⟩
  | ins C dx fs =>
    obtain ⟨d, z, ne, e, mA, ⟨od, es, ep, e2, c⟩, r⟩ := x
    exact ⟨ho _ d, z, ne, k _ _ (.inl rfl) e, mA, ⟨od, es, ep, k _ _ (.inr d) e2, c⟩, r⟩
  | own y => obtain ⟨ob, e⟩ := x; exact ⟨ob, k _ _ (.inl rfl) e⟩
  | xd fs => obtain ⟨mA, ⟨od, es, ep, e, c⟩, r⟩ := x; exact ⟨mA, ⟨od, es, ep, k _ _ (.inl rfl) e, c⟩, r⟩
  | rng lo hi => obtain ⟨t, u, v, e⟩ := x; exact ⟨t, u, v, k _ _ (.inl rfl) e⟩
  | frz ob u ih => obtain ⟨e, q⟩ := x; exact ⟨k _ _ (.inl rfl) e, ih q⟩
  | tbl ps =>
    have e : h.get? a = some { cls := .none, data := .fields ps } := x
    show h'.get? a = some { cls := .none, data := .fields ps }
    exact k a _ (.inl rfl) e
  | met f y =>
    have e : h.get? a = some (PySem.W.methodObj (.ref f) (.ref y)) := x
    show h'.get? a = some (PySem.W.methodObj (.ref f) (.ref y))
    exact k a _ (.inl rfl) e
  | ext φ => obtain ⟨p, ⟨o, e⟩, st⟩ := x; exact ⟨st _ _ p fun o q => k _ _ (.inl rfl) q, ⟨o, k _ _ (.inl rfl) e⟩, st⟩
theorem HOk.lt (x : HOk P w H h) (e : H a = some o) : a < h.objs.size := (x a o e).lt
theorem HOk.fresh (x : HOk P w H h) (e : h.objs.size ≤ a) : H a = none := by
  cases q : H a with
  | none => rfl
  | some u => exact absurd (Nat.lt_of_lt_of_le (x.lt q) e) (Nat.lt_irrefl _)
/-- every object of the heap is kept -/
theorem HOk.kept (x : HOk P w H h) (k : ∀ b u, h.get? b = some u → h'.get? b = some u) : HOk P w H h' := fun a o e =>
  (x a o e).stay (fun b u _ q => k b u q) (fun _ q => q) fun _ _ q => q
/-- a new object is laid and tracked -/
theorem HOk.laid (x : HOk P w H h) (k : ∀ b u, h.get? b = some u → h'.get? b = some u) (hp : h.objs.size ≤ a) (new : ObjOk P w (upd H a o) h' a o) : HOk P w (upd H a o) h' := fun b u e => by
  have hn := x.fresh hp
  by_cases hb : b = a
  · subst hb; rw [upd_same] at e; cases e; exact new
  · rw [upd_ne hb] at e
    exact (x b u e).stay (fun c v _ q => k c v q) (fun c q => by rw [upd_ne (ne_of_none q hn)]; exact q) fun c xs q => by rw [upd_ne (ne_of_none q hn)]; exact q
end

/-- what may be read as u: it is u, or a known u -/
def Rd (H : Hp) (a : Addr) (u : HO) : Prop := H a = some u ∨ ∃ o, H a = some (.frz o u)
theorem Rd.of {H : Hp} {a : Addr} {u : HO} (h : H a = some u) : Rd H a u := .inl h
theorem Rd.ok {P : Program} {w : World} {H : Hp} {h : Heap} {a : Addr} {u : HO} (r : Rd H a u) (x : HOk P w H h) : ObjOk P w H h a u := by
  rcases r with r | ⟨o, r⟩
  · exact x a u r
  · obtain ⟨_, q⟩ := x a _ r
    exact q
/-- what may be written -/
def Mut : Option HO → Prop
  | some (.lst _) => True
  | some (.dK _) => True
  | some (.dT _) => True
  | some (.set _ _) => True
  | some (.ins _ _ _) => True
  | some (.ext _) => True
  | _ => False
section
variable {P : Program} {w : World} {H : Hp} {h h' : Heap} {x e : Addr} {o' : HO}
/-- the object at e is changed: x itself, or the dict of the instance x -/
theorem HOk.write (ok : HOk P w H h) (mu : Mut (H x)) (he : e = x ∨ H e = some (.own x)) (k : ∀ b u, b ≠ e → h.get? b = some u → h'.get? b = some u) (heo : ∃ u, h'.get? e = some u)
    (new : ObjOk P w (upd H x o') h' x o') : HOk P w (upd H x o') h' := fun b u q => by
  have nown : ∀ c y, H c = some (.own y) → c ≠ x := fun c y r z => by subst z; rw [r] at mu; exact mu
  have ntup : ∀ c xs, H c = some (.tup xs) → c ≠ x := fun c xs r z => by subst z; rw [r] at mu; exact mu
  by_cases hb : b = x
  · subst hb; rw [upd_same] at q; cases q; exact new
  · rw [upd_ne hb] at q
    by_cases hbe : b = e
    · have q' : H b = some (.own x) := by
        rcases he with z | z
        · exact absurd (hbe.trans z) hb
        · rw [hbe]; exact z
      rw [q] at q'; cases q'
      obtain ⟨v, hv⟩ := heo
      exact ⟨v, by rw [hbe]; exact hv⟩
    · refine (ok b u q).stay (fun c v hc r => k c v ?_ r) (fun c r => by rw [upd_ne (nown c b r)]; exact r) fun c xs r => by rw [upd_ne (ntup c xs r)]; exact r
      rcases hc with rfl | hc
      · exact hbe
      · rintro rfl
        rcases he with z | z
        · exact nown c b hc z
        · rw [hc] at z; cases z; exact hb rfl
end

/-! ### kept unless tracked; of the frames at fs (the callers') the slots may change (an exception that passes writes there); of the records at ex (iterators) nothing is said -/
structure Un (fs ex : List Addr) (H H' : Hp) (h h' : Heap) : Prop where
  keep : ∀ b o, h.get? b = some o → H b = none → b ∉ fs → b ∉ ex → h'.get? b = some o
  slot : ∀ b o, h.get? b = some o → H b = none → b ∈ fs → b ∉ ex → ∃ sl, h'.get? b = some { o with slots := sl }
  free : ∀ b o, h.get? b = some o → H b = none → b ∉ ex → H' b = none
  there : ∀ b o, h.get? b = some o → b ∉ ex → ∃ o', h'.get? b = some o'
  tups : ∀ b xs, H b = some (.tup xs) → H' b = some (.tup xs)
  frzs : ∀ b o u, H b = some (.frz o u) → H' b = some (.frz o u)
  tbls : ∀ b ps, H b = some (.tbl ps) → ∃ more, H' b = some (.tbl (ps ++ more))
section
variable {fs fs' ex ex' : List Addr} {H H1 H2 : Hp} {h h1 h2 h' : Heap} {a x e : Addr} {o : HO}
theorem Un.any (u : Un fs ex H H1 h h1) {b : Addr} {ob : Obj} (q : h.get? b = some ob) (n : H b = none) (hx : b ∉ ex) : ∃ sl, h1.get? b = some { ob with slots := sl } := by
  by_cases hb : b ∈ fs
  · exact u.slot b ob q n hb hx
  · exact ⟨ob.slots, u.keep b ob q n hb hx⟩
theorem Un.trans (a : Un fs ex H H1 h h1) (b : Un fs ex H1 H2 h1 h2) : Un fs ex H H2 h h2 where
  keep := fun c ob q n hc hx => b.keep c ob (a.keep c ob q n hc hx) (a.free c ob q n hx) hc hx
  slot := fun c ob q n hc hx => by
    obtain ⟨sl, e1⟩ := a.slot c ob q n hc hx
    obtain ⟨sl', e2⟩ := b.slot c _ e1 (a.free c ob q n hx) hc hx
    exact ⟨sl', e2⟩
  free := fun c ob q n hx => by
    obtain ⟨o', e1⟩ := a.there c ob q hx
    exact b.free c o' e1 (a.free c ob q n hx) hx
  there := fun c ob q hx => by
    obtain ⟨o', e1⟩ := a.there c ob q hx
    exact b.there c o' e1 hx
  tups := fun c xs q => b.tups c xs (a.tups c xs q)
  frzs := fun c ob xs q => b.frzs c ob xs (a.frzs c ob xs q)
  tbls := fun c ps q => by
    obtain ⟨m1, e1⟩ := a.tbls c ps q
    obtain ⟨m2, e2⟩ := b.tbls c _ e1
    exact ⟨m1 ++ m2, by rw [e2, Array.append_assoc]⟩
theorem Un.kept (k : ∀ b u, h.get? b = some u → h'.get? b = some u) : Un fs ex H H h h' :=
  ⟨fun b ob q _ _ _ => k b ob q, fun b ob q _ _ _ => ⟨ob.slots, k b ob q⟩, fun _ _ _ n _ => n, fun b ob q _ => ⟨ob, k b ob q⟩, fun _ _ q => q, fun _ _ _ q => q, fun _ ps q => ⟨#[], by rw [q]; simp⟩⟩
theorem Un.refl : Un fs ex H H h h := Un.kept fun _ _ q => q
theorem Un.laid (k : ∀ b u, h.get? b = some u → h'.get? b = some u) (hp : h.objs.size ≤ a) (hn : H a = none) : Un fs ex H (upd H a o) h h' where
  keep := fun b u q _ _ _ => k b u q
  slot := fun b u q _ _ _ => ⟨u.slots, k b u q⟩
  free := fun b u q n _ => by rw [upd_ne (Nat.ne_of_lt (Nat.lt_of_lt_of_le (Heap.lt_size q) hp))]; exact n
  there := fun b u q _ => ⟨u, k b u q⟩
  tups := fun b xs q => by rw [upd_ne (ne_of_none q hn)]; exact q
  frzs := fun b u xs q => by rw [upd_ne (ne_of_none q hn)]; exact q
  tbls := fun b ps q => ⟨#[], by rw [upd_ne (ne_of_none q hn), q]; simp⟩
theorem Un.write (mu : Mut (H x)) (he : e = x ∨ H e = some (.own x)) (k : ∀ b u, b ≠ e → h.get? b = some u → h'.get? b = some u) (heo : ∃ u, h'.get? e = some u) : Un fs ex H (upd H x o) h h' := by
  have hx : ∀ b, H b = none → b ≠ x := fun b n z => by subst z; rw [n] at mu; exact mu
  have hb : ∀ b, H b = none → b ≠ e := fun b n z => by
    subst z
    rcases he with r | r
    · exact hx b n r
    · rw [n] at r; cases r
  have hm : ∀ b u, H b = some u → ¬ Mut (some u) → b ≠ x := fun b u q nm z => by subst z; rw [q] at mu; exact nm mu
  refine ⟨fun b u q n _ _ => k b u (hb b n) q, fun b u q n _ _ => ⟨u.slots, k b u (hb b n) q⟩, fun b u q n _ => by rw [upd_ne (hx b n)]; exact n, fun b u q _ => ?_,
    fun b xs q => by rw [upd_ne (hm b _ q fun z => z)]; exact q, fun b u xs q => by rw [upd_ne (hm b _ q fun z => z)]; exact q, fun b ps q => ⟨#[], by rw [upd_ne (hm b _ q fun z => z), q]; simp⟩⟩
  by_cases hbe : b = e
  · subst hbe; exact heo
  · exact ⟨u, k b u hbe q⟩
theorem Un.mono (u : Un fs ex H H1 h h1) (hs : ∀ b ∈ fs, b ∈ fs') (hx : ∀ b ∈ ex, b ∈ ex') : Un fs' ex' H H1 h h1 :=
  ⟨fun b ob q n hb he => u.keep b ob q n (fun z => hb (hs b z)) fun z => he (hx b z), fun _ _ q n _ he => u.any q n fun z => he (hx _ z), fun b ob q n he => u.free b ob q n fun z => he (hx b z), fun b ob q he => u.there b ob q fun z => he (hx b z), u.tups, u.frzs, u.tbls⟩
end

/-! ### the heap without what is tracked -/
def trk (h : Heap) (H : Hp) : List Addr := (List.range h.objs.size).filter fun a => (H a).isSome
def hidT (h : Heap) (H : Hp) : Heap := PySem.W.hideAll h (trk h H)
theorem hidT_size (h : Heap) (H : Hp) : (hidT h H).objs.size = h.objs.size := PySem.W.hideAll_size _ _
theorem hidT_get {h : Heap} {H : Hp} {b : Addr} {o : Obj} (e : h.get? b = some o) (n : H b = none) : (hidT h H).get? b = some o :=
  PySem.W.hideAll_get _ e fun hm => by
    have q : (H b).isSome = true := (List.mem_filter.mp hm).2
    rw [n] at q; simp at q
theorem of_hidT {h : Heap} {H : Hp} {b : Addr} {o : Obj} (e : (hidT h H).get? b = some o) : h.get? b = some o ∧ H b = none := by
  have e' : h.get? b = some o := PySem.W.of_hideAll (trk h H) e
  refine ⟨e', ?_⟩
  cases q : H b with
  | none => rfl
  | some x =>
    have hm : b ∈ trk h H := List.mem_filter.mpr ⟨List.mem_range.mpr (Heap.lt_size e'), by simp [q]⟩
    have z : (hidT h H).get? b = none := PySem.W.hideAll_none (trk h H) hm
    rw [z] at e; cases e

/-! ### OpenK's ledger, filled with every new object but one -/
def allNews (g h : Heap) (L : Addr) : List (Addr × Obj) := (List.range h.objs.size).filterMap fun a => if a = L ∨ (g.get? a).isSome = true then none else (h.get? a).map fun o => (a, o)
theorem mem_allNews {g h : Heap} {L a : Addr} {o : Obj} (h1 : a ≠ L) (h2 : g.get? a = none) (h3 : h.get? a = some o) : (a, o) ∈ allNews g h L :=
  List.mem_filterMap.mpr ⟨a, List.mem_range.mpr (Heap.lt_size h3), by simp [h1, h2, h3]⟩
theorem of_mem_allNews {g h : Heap} {L : Addr} {p : Addr × Obj} (hp : p ∈ allNews g h L) : p.1 ≠ L ∧ g.get? p.1 = none ∧ h.get? p.1 = some p.2 := by
  obtain ⟨b, _, e⟩ := List.mem_filterMap.mp hp
  split at e
  · cases e
  · rename_i hn
    cases q : h.get? b with
    | none => rw [q] at e; simp at e
    | some u =>
      rw [q] at e
      simp only [Option.map_some, Option.some.injEq] at e
      subst e
      refine ⟨fun z => hn (.inl z), ?_, q⟩
      show g.get? b = none
      cases r : g.get? b with
      | none => rfl
      | some v => exact (hn (.inr (by simp [r]))).elim
def rest (g h : Heap) (L d : Addr) : List (Addr × Obj) := (allNews g h L).filter fun p => decide (p.1 ≠ d)
theorem rest_ne {g h : Heap} {L d : Addr} : ∀ p ∈ rest g h L d, p.1 ≠ d := fun p hp => of_decide_eq_true (List.mem_filter.mp hp).2
theorem mem_rest {g h : Heap} {L d a : Addr} {o : Obj} (h1 : a ≠ L) (h2 : g.get? a = none) (h3 : h.get? a = some o) (h4 : a ≠ d) : (a, o) ∈ rest g h L d :=
  List.mem_filter.mpr ⟨mem_allNews h1 h2 h3, decide_eq_true h4⟩
theorem news_all {g h : Heap} {L : Addr} : News g L h (allNews g h L) := fun p hp => let ⟨a, b, c⟩ := of_mem_allNews hp; ⟨c, a, b⟩
theorem news_at {g h : Heap} {L d : Addr} {o : Obj} (h1 : d ≠ L) (h2 : g.get? d = none) (h3 : h.get? d = some o) : News g L h ((d, o) :: rest g h L d) := fun p hp => by
  rcases List.mem_cons.mp hp with rfl | hp
  · exact ⟨h3, h1, h2⟩
  · exact news_all p (List.mem_filter.mp hp).1
/-- behind a rule that changed d alone: all else but the frame is kept -/
theorem kept_of_news {g h h' : Heap} {L d : Addr} {m : Str → Option Value} (k : ∀ b o, g.get? b = some o → h.get? b = some o) (F : Fr g L h' m) (N : News g L h' (rest g h L d)) :
    ∀ b o, b ≠ L → b ≠ d → h.get? b = some o → h'.get? b = some o := fun b o h1 h2 e => by
  cases q : g.get? b with
  | some u =>
    have := k b u q
    rw [e] at this; cases this
    exact F.keep b _ q
  | none => exact (N (b, o) (mem_rest h1 q e h2)).1
end L2

namespace L2
open PySem PySem.Spec PyProof.Rows

/-- the module's facts, over the base: the heap at the law's entry without what is tracked there -/
structure Mod (K : PySem.W.Frag) (mg : Str → Option Value) (base : Heap) : Prop where
  kin : K.In base
  glob : base.Ns mainGlobals mg
  blt : ∃ mb, base.Ns builtinsNs mb ∧ ∀ x : Str, x ≠ "__name__" → mb x = bootBuiltins x
  nolimit : base.NoLimit

/-- the context: a def's body (or a comprehension's block) running. base: fixed through the whole law; s₀, H₀: the entry; outer: the frames whose slots others may change (a def's callers); stack: all frames that run;
   ex: iterators that were made ahead of the entry and are walked here (a comprehension's); fn: the names whose cells were made at the entry (a def: all; a comprehension's block: its own); calm: not within an except suite; pn: pins that every state bears; xe: what is wanted of an exception that leaves the code -/
structure Cx where
  prog : Program
  w : World
  K : PySem.W.Frag
  mg : Str → Option Value
  base : Heap
  A : Around
  N : List Str
  s₀ : Shared
  H₀ : Hp
  env : Env
  outer : List Env
  stack : List Env
  ex : List Addr
  fn : Str → Bool
  calm : Bool
  pn : List (Addr × Obj)
  xe : Value → Shared → Prop
/-- the callers' frames -/
def frs (l : List Env) : List Addr := l.filterMap (·.frame)
abbrev Cx.fs (X : Cx) : List Addr := frs X.outer

def Vis (sc : Scope) (x : Str) : Prop := sc.names.lookup x = some .local ∨ sc.names.lookup x = some .cell ∨ sc.names.lookup x = some .free
def Loc (sc : Scope) (x : Str) : Prop := sc.names.lookup x = some .local ∨ sc.names.lookup x = some .cell
def Look (env : Env) (h : Heap) (m : Str → Option Value) (x : Str) (u : Value) : Prop :=
  (env.kindOf x = some .local ∧ m x = some u) ∨ ((env.kindOf x = some .cell ∨ env.kindOf x = some .free) ∧ ∃ c, env.cells.lookup x = some c ∧ h.IsCell c (some u))

structure Cx.Ok (X : Cx) : Prop where
  mod : Mod X.K X.mg X.base
  kind : X.env.scope.kind = .function
  glob : X.env.globals = mainGlobals
  blt : X.env.builtins = builtinsNs
  above : X.s₀.heap.objs.size ≤ X.env.locals
  inj : ∀ x y c, X.env.cells.lookup x = some c → X.env.cells.lookup y = some c → x = y
  has : ∀ x, (X.env.kindOf x = some .cell ∨ X.env.kindOf x = some .free) → ∃ c, X.env.cells.lookup x = some c
  cab : ∀ x c, X.fn x = true → X.env.cells.lookup x = some c → X.s₀.heap.objs.size ≤ c
  hd : X.calm = true → X.A.handled = none
  frames : X.A.frames = some X.stack
  stk : X.stack = X.outer ∨ (X.stack = X.env :: X.outer ∧ X.env.frame = some X.env.locals)
  exf : ∀ b ∈ X.ex, b ≠ X.env.locals ∧ ∀ x c, X.env.cells.lookup x = some c → c ≠ b
  bs : ∀ b o, X.base.get? b = some o → X.s₀.heap.get? b = some o ∧ X.H₀ b = none
  bsz : X.base.objs.size ≤ X.s₀.heap.objs.size
  noex : ∀ b o, X.base.get? b = some o → b ∉ X.ex
  exfs : ∀ b ∈ X.ex, b ∉ X.fs
  funs : X.s₀.heap.FunFrames X.base X.outer
  frf : ∀ b ∈ X.fs, X.H₀ b = none

structure Inv (X : Cx) (pins : List (Addr × Obj)) (σ : List (Option V)) (H : Hp) (s : Shared) : Prop where
  ok : X.Ok
  os : s.os = X.s₀.os
  bare : AllBare s.gens
  base : Un X.fs X.ex X.H₀ H X.s₀.heap s.heap
  loc : ∃ m, s.heap.Ns X.env.locals m ∧ ∀ (i : Nat) (x : Str) (v : V), X.N[i]? = some x → σ[i]? = some (some v) → Vis X.env.scope x → ∃ u, RelV v u ∧ Look X.env s.heap m x u
  cell : ∀ x c, X.env.cells.lookup x = some c → ∃ v, s.heap.IsCell c v
  free : H X.env.locals = none
  freeC : ∀ x c, X.env.cells.lookup x = some c → H c = none
  pin : ∀ p ∈ X.pn ++ pins, s.heap.get? p.1 = some p.2 ∧ H p.1 = none ∧ p.1 ≠ X.env.locals ∧ p.1 ∉ X.fs ∧ ∀ v, p.2.data ≠ .cell v
  hok : HOk X.prog X.w H s.heap
  len : σ.length = X.N.length

section
variable {X : Cx} {pins : List (Addr × Obj)} {σ : List (Option V)} {H H' : Hp} {s : Shared} {h' : Heap}

theorem Cx.Ok.nofr (ok : X.Ok) {b : Addr} {o : Obj} (e : X.base.get? b = some o) : b ∉ X.fs := fun hb => by
  have := (ok.funs.mem hb).1
  rw [e] at this; cases this
theorem Inv.bs (I : Inv X pins σ H s) : ∀ b o, X.base.get? b = some o → s.heap.get? b = some o ∧ H b = none := fun b o e =>
  ⟨I.base.keep b o (I.ok.bs b o e).1 (I.ok.bs b o e).2 (I.ok.nofr e) (I.ok.noex b o e), I.base.free b o (I.ok.bs b o e).1 (I.ok.bs b o e).2 (I.ok.noex b o e)⟩
theorem Inv.bk (I : Inv X pins σ H s) : ∀ b o, X.base.get? b = some o → s.heap.get? b = some o := fun b o e => (I.bs b o e).1
theorem Inv.mod (I : Inv X pins σ H s) : Mod X.K X.mg X.base := I.ok.mod
theorem Inv.kIn (I : Inv X pins σ H s) : X.K.In s.heap := I.ok.mod.kin.keeps I.bk
theorem Inv.nolimit (I : Inv X pins σ H s) : s.heap.NoLimit := I.ok.mod.nolimit.keeps I.bk
/-- the frame over the base: for OpenK's rules (K.In X.base is I.mod.kin) -/
theorem Inv.fr (I : Inv X pins σ H s) : ∃ m, Fr X.base X.env.locals s.heap m :=
  let ⟨m, hn, _⟩ := I.loc
  ⟨m, hn, I.bk, Nat.le_trans I.ok.bsz I.ok.above⟩
theorem Inv.lt (I : Inv X pins σ H s) : X.env.locals < s.heap.objs.size := let ⟨_, hn, _⟩ := I.loc; hn.lt
theorem Inv.sz (I : Inv X pins σ H s) : X.s₀.heap.objs.size ≤ s.heap.objs.size := Nat.le_trans I.ok.above (Nat.le_of_lt I.lt)
theorem Inv.nofs (I : Inv X pins σ H s) {a : Addr} (h : s.heap.objs.size ≤ a) : a ∉ X.fs := fun hb => by
  obtain ⟨_, o, ho, _⟩ := I.ok.funs.mem hb
  exact absurd (Nat.lt_of_lt_of_le (Heap.lt_size ho) (Nat.le_trans I.sz h)) (Nat.lt_irrefl _)
theorem Inv.cne (I : Inv X pins σ H s) : ∀ x c, X.env.cells.lookup x = some c → c ≠ X.env.locals := fun x c e z => by
  obtain ⟨v, o, ho, hd⟩ := I.cell x c e
  obtain ⟨m, ⟨o', es, ep, ho', hd', _⟩, _⟩ := I.loc
  rw [z, ho'] at ho; cases ho; rw [hd'] at hd; cases hd
theorem Inv.funs (I : Inv X pins σ H s) : s.heap.FunFrames X.base X.outer := by
  have all : ∀ (l : List Env), (∀ b ∈ frs l, b ∈ X.fs) → X.s₀.heap.FunFrames X.base l → s.heap.FunFrames X.base l := by
    intro l
    induction l with
    | nil => intro _ _; trivial
    | cons env r ih =>
      intro hs hl
      obtain ⟨hk, ⟨L, o, hf, hn, ho, hd⟩, hr⟩ := hl
      have hL : L ∈ X.fs := hs L (by unfold frs; rw [List.filterMap_cons, hf]; exact List.mem_cons_self)
      obtain ⟨sl, e⟩ := I.base.slot L o ho (I.ok.frf L hL) hL fun z => I.ok.exfs L z hL
      exact ⟨hk, ⟨L, _, hf, hn, e, hd⟩, ih (fun b hb => hs b (by unfold frs; rw [List.filterMap_cons, hf]; exact List.mem_cons_of_mem _ hb)) hr⟩
  exact all X.outer (fun _ hb => hb) I.ok.funs

/-- the frames that run, for a call -/
theorem Inv.stack (I : Inv X pins σ H s) : s.heap.FunFrames X.base X.stack := by
  rcases I.ok.stk with e | ⟨e, hf⟩
  · rw [e]; exact I.funs
  · rw [e]
    obtain ⟨m, hn, _⟩ := I.loc
    refine .cons (by rw [I.ok.kind]; decide) hf hn ?_ I.funs
    exact Heap.get?_none_of_le (Nat.le_trans I.ok.bsz I.ok.above)
theorem Inv.stkSub (I : Inv X pins σ H s) : ∀ b ∈ frs X.stack, b ∈ X.env.locals :: X.fs := fun b hb => by
  rcases I.ok.stk with e | ⟨e, hf⟩
  · rw [e] at hb; exact List.mem_cons_of_mem _ hb
  · rw [e] at hb
    unfold frs at hb
    rw [List.filterMap_cons, hf] at hb
    exact hb
theorem Inv.stkFree (I : Inv X pins σ H s) : ∀ b ∈ frs X.stack, H b = none := fun b hb => by
  rcases List.mem_cons.mp (I.stkSub b hb) with e | hb
  · rw [e]; exact I.free
  · obtain ⟨_, o, ho, _⟩ := I.ok.funs.mem hb
    exact I.base.free b o ho (I.ok.frf b hb) fun z => I.ok.exfs b z hb

/-- THE STEP: the untracked objects but the frame and the records at ch are kept (the callers' frames up to slots), the frame's map is kept, the new abstract heap is held -/
theorem Inv.step {g' : Array GenState} {t' : Nat} {d' : Drawn} {ch : List Addr} (I : Inv X pins σ H s)
    (hch : ∀ b ∈ ch, (b ∈ X.ex ∨ X.s₀.heap.objs.size ≤ b) ∧ b ≠ X.env.locals ∧ (∀ x c, X.env.cells.lookup x = some c → c ≠ b) ∧ ∀ p ∈ X.pn ++ pins, p.1 ≠ b)
    (keep : ∀ b o, b ≠ X.env.locals → b ∉ X.fs → b ∉ ch → s.heap.get? b = some o → H b = none → h'.get? b = some o)
    (slot : ∀ b o, b ≠ X.env.locals → b ∈ X.fs → b ∉ ch → s.heap.get? b = some o → H b = none → ∃ sl, h'.get? b = some { o with slots := sl }) (free : ∀ b o, b ∉ ch → s.heap.get? b = some o → H b = none → H' b = none)
    (there : ∀ b o, b ∉ ch → s.heap.get? b = some o → ∃ o', h'.get? b = some o')
    (tups : ∀ b xs, H b = some (.tup xs) → H' b = some (.tup xs)) (frzs : ∀ b o u, H b = some (.frz o u) → H' b = some (.frz o u)) (tbls : ∀ b ps, H b = some (.tbl ps) → ∃ more, H' b = some (.tbl (ps ++ more)))
    (ns : ∀ m, s.heap.Ns X.env.locals m → h'.Ns X.env.locals m) (hok : HOk X.prog X.w H' h') (hg : AllBare g') :
    Inv X pins σ H' { s with heap := h', gens := g', drawn := d', toks := t' } := by
  have neL : ∀ b o, X.s₀.heap.get? b = some o → b ≠ X.env.locals := fun b o e => Nat.ne_of_lt (Nat.lt_of_lt_of_le (Heap.lt_size e) I.ok.above)
  have neC : ∀ b o, X.s₀.heap.get? b = some o → b ∉ X.ex → b ∉ ch := fun b o e hx hb => by
    rcases (hch b hb).1 with z | z
    · exact hx z
    · exact absurd (Nat.lt_of_lt_of_le (Heap.lt_size e) z) (Nat.lt_irrefl _)
  have cellK : ∀ x c, X.env.cells.lookup x = some c → ∀ v, s.heap.IsCell c v → h'.IsCell c v := fun x c e v ⟨o, ho, hd⟩ => by
    have nch : c ∉ ch := fun z => (hch c z).2.2.1 x c e rfl
    by_cases hc : c ∈ X.fs
    · obtain ⟨sl, q⟩ := slot c o (I.cne x c e) hc nch ho (I.freeC x c e)
      exact ⟨_, q, hd⟩
    · exact ⟨o, keep c o (I.cne x c e) hc nch ho (I.freeC x c e), hd⟩
  refine ⟨I.ok, I.os, hg, ⟨fun b o e n hb hx => ?_, fun b o e n hb hx => ?_, fun b o e n hx => ?_, fun b o e hx => ?_, fun b xs e => tups b xs (I.base.tups b xs e), fun b o xs e => frzs b o xs (I.base.frzs b o xs e), fun b ps e => ?_⟩, ?_, fun x c e => ?_, ?_, fun x c e => ?_, fun p hp => ?_, hok, I.len⟩
  · exact keep b o (neL b o e) hb (neC b o e hx) (I.base.keep b o e n hb hx) (I.base.free b o e n hx)
  · obtain ⟨sl, e1⟩ := I.base.slot b o e n hb hx
    obtain ⟨sl', e2⟩ := slot b _ (neL b o e) hb (neC b o e hx) e1 (I.base.free b o e n hx)
    exact ⟨sl', e2⟩
  · obtain ⟨o', e1⟩ := I.base.there b o e hx
    exact free b o' (neC b o e hx) e1 (I.base.free b o e n hx)
  · obtain ⟨o', e1⟩ := I.base.there b o e hx
    exact there b o' (neC b o e hx) e1
  · obtain ⟨m1, e1⟩ := I.base.tbls b ps e
    obtain ⟨m2, e2⟩ := tbls b _ e1
    exact ⟨m1 ++ m2, by rw [e2, Array.append_assoc]⟩
  · obtain ⟨m, hn, hl⟩ := I.loc
    refine ⟨m, ns m hn, fun i x v e1 e2 e3 => ?_⟩
    obtain ⟨u, r, l⟩ := hl i x v e1 e2 e3
    refine ⟨u, r, ?_⟩
    rcases l with l | ⟨k, c, e, z⟩
    · exact .inl l
    · exact .inr ⟨k, c, e, cellK x c e _ z⟩
  · obtain ⟨v, z⟩ := I.cell x c e
    exact ⟨v, cellK x c e v z⟩
  · obtain ⟨m, ⟨o, _, _, ho, _⟩, _⟩ := I.loc
    exact free _ o (fun z => (hch _ z).2.1 rfl) ho I.free
  · obtain ⟨v, o, ho, hd⟩ := I.cell x c e
    exact free c o (fun z => (hch c z).2.2.1 x c e rfl) ho (I.freeC x c e)
  · obtain ⟨e, n, ne, nf, d⟩ := I.pin p hp
    have nch : p.1 ∉ ch := fun z => (hch p.1 z).2.2.2 p hp rfl
    exact ⟨keep p.1 p.2 ne nf nch e n, free p.1 p.2 nch e n, ne, nf, d⟩
/-- .. where the frame's own object is kept too -/
theorem Inv.un {t' : Nat} (I : Inv X pins σ H s) (u : Un X.fs [] H H' s.heap h') (hok : HOk X.prog X.w H' h') : Inv X pins σ H' { s with heap := h', toks := t' } := by
  obtain ⟨m, ⟨o, es, ep, ho, r⟩, _⟩ := id I.loc
  obtain ⟨sl, hL⟩ := u.any ho I.free (by simp)
  exact I.step (g' := s.gens) (d' := s.drawn) (ch := []) (fun _ z => nomatch z) (fun b o _ hb _ e n => u.keep b o e n hb (by simp)) (fun b o _ hb _ e n => u.slot b o e n hb (by simp)) (fun b o _ e n => u.free b o e n (by simp)) (fun b o _ e => u.there b o e (by simp)) u.tups u.frzs u.tbls (fun m' hm => by
    obtain ⟨o', es', ep', ho', r'⟩ := hm
    rw [ho] at ho'; cases ho'
    exact ⟨_, es', ep', hL, r'⟩) hok I.bare
/-- behind a call (or a comprehension's block): the slots of this frame may have changed too, the records at ch may have turned -/
theorem Inv.call {g' : Array GenState} {t' : Nat} {d' : Drawn} {ch : List Addr} (I : Inv X pins σ H s) (u : Un (frs X.stack) ch H H' s.heap h') (hok : HOk X.prog X.w H' h') (hg : AllBare g')
    (hch : ∀ b ∈ ch, (b ∈ X.ex ∨ X.s₀.heap.objs.size ≤ b) ∧ b ≠ X.env.locals ∧ (∀ x c, X.env.cells.lookup x = some c → c ≠ b) ∧ ∀ p ∈ X.pn ++ pins, p.1 ≠ b) :
    Inv X pins σ H' { s with heap := h', gens := g', drawn := d', toks := t' } := by
  obtain ⟨m, ⟨o, es, ep, ho, r⟩, _⟩ := id I.loc
  obtain ⟨sl, hL⟩ := u.any ho I.free fun z => (hch _ z).2.1 rfl
  exact I.step (ch := ch) hch (fun b o hL hb hc e n => u.keep b o e n (fun z => (List.mem_cons.mp (I.stkSub b z)).elim hL hb) hc) (fun b o _ _ hc e n => u.any e n hc) (fun b o hc e n => u.free b o e n hc) (fun b o hc e => u.there b o e hc) u.tups u.frzs u.tbls (fun m' hm => by
    obtain ⟨o', es', ep', ho', r'⟩ := hm
    rw [ho] at ho'; cases ho'
    exact ⟨_, es', ep', hL, r'⟩) hok hg
/-- an untracked record of ours (an iterator) has turned -/
theorem Inv.turned {t' : Nat} {it : Addr} (I : Inv X pins σ H s) (k : ∀ b o, b ≠ it → s.heap.get? b = some o → h'.get? b = some o) (hn : H it = none) (hL : it ≠ X.env.locals)
    (h1 : it ∈ X.ex ∨ X.s₀.heap.objs.size ≤ it) (h2 : ∀ x c, X.env.cells.lookup x = some c → c ≠ it) (h3 : ∀ p ∈ X.pn ++ pins, p.1 ≠ it) : Inv X pins σ H { s with heap := h', toks := t' } := by
  have nit : ∀ b u, H b = some u → b ≠ it := fun b u e z => by rw [z, hn] at e; cases e
  refine I.step (g' := s.gens) (d' := s.drawn) (ch := [it]) (fun b hb => ?_) (fun b o _ _ hc e _ => k b o (fun z => hc (by simp [z])) e) (fun b o _ _ hc e _ => ⟨o.slots, k b o (fun z => hc (by simp [z])) e⟩) (fun _ _ _ _ n => n)
    (fun b o hc e => ⟨o, k b o (fun z => hc (by simp [z])) e⟩) (fun _ _ e => e) (fun _ _ _ e => e) (fun b ps e => ⟨#[], by rw [e]; simp⟩) (fun m hm => ?_) (fun b u e => ?_) I.bare
  · have e : b = it := by simpa using hb
    subst e
    exact ⟨h1, hL, h2, h3⟩
  · obtain ⟨o, es, ep, ho, r⟩ := hm
    exact ⟨o, es, ep, k _ o (Ne.symm hL) ho, r⟩
  · refine (I.hok b u e).stay (fun c v hc q => k c v ?_ q) (fun _ q => q) fun _ _ q => q
    rcases hc with z | z
    · rw [z]; exact nit b u e
    · exact nit c _ z
theorem Inv.tok (I : Inv X pins σ H s) (t : Nat) : Inv X pins σ H { s with toks := t } := I.un (h' := s.heap) (t' := t) Un.refl I.hok
/-- all objects kept -/
theorem Inv.kept {t' : Nat} (I : Inv X pins σ H s) (k : ∀ b u, s.heap.get? b = some u → h'.get? b = some u) : Inv X pins σ H { s with heap := h', toks := t' } := I.un (Un.kept k) (I.hok.kept k)
/-- a new object laid and tracked -/
theorem Inv.laid {a : Addr} {o : HO} {t' : Nat} (I : Inv X pins σ H s) (k : ∀ b u, s.heap.get? b = some u → h'.get? b = some u) (hp : s.heap.objs.size ≤ a) (new : ObjOk X.prog X.w (upd H a o) h' a o) :
    Inv X pins σ (upd H a o) { s with heap := h', toks := t' } := I.un (Un.laid k hp (I.hok.fresh hp)) (I.hok.laid k hp new)
/-- an object written -/
theorem Inv.write {x e : Addr} {o : HO} {t' : Nat} (I : Inv X pins σ H s) (mu : Mut (H x)) (he : e = x ∨ H e = some (.own x)) (k : ∀ b u, b ≠ e → s.heap.get? b = some u → h'.get? b = some u) (heo : ∃ u, h'.get? e = some u)
    (new : ObjOk X.prog X.w (upd H x o) h' x o) : Inv X pins σ (upd H x o) { s with heap := h', toks := t' } := I.un (Un.write mu he k heo) (I.hok.write mu he k heo new)
/-- forgetting slots, pins -/
theorem Inv.weak {σ' : List (Option V)} (I : Inv X pins σ H s) (hl : σ'.length = σ.length) (w : ∀ (i : Nat) v, σ'[i]? = some (some v) → σ[i]? = some (some v)) : Inv X pins σ' H s :=
  ⟨I.ok, I.os, I.bare, I.base, let ⟨m, hn, hl'⟩ := I.loc; ⟨m, hn, fun i x v e1 e2 e3 => hl' i x v e1 (w i v e2) e3⟩, I.cell, I.free, I.freeC, I.pin, I.hok, hl.trans I.len⟩
theorem Inv.pins_of {pins' : List (Addr × Obj)} (I : Inv X pins σ H s) (h : ∀ p ∈ pins', s.heap.get? p.1 = some p.2 ∧ H p.1 = none ∧ p.1 ≠ X.env.locals ∧ p.1 ∉ X.fs ∧ ∀ v, p.2.data ≠ .cell v) : Inv X pins' σ H s :=
  ⟨I.ok, I.os, I.bare, I.base, I.loc, I.cell, I.free, I.freeC, fun p hp => (List.mem_append.mp hp).elim (fun z => I.pin p (List.mem_append_left _ z)) (h p), I.hok, I.len⟩

theorem nodup_ix {N : List Str} (hN : N.Nodup) {i j : Nat} {x : Str} (a : N[i]? = some x) (b : N[j]? = some x) : i = j := by
  obtain ⟨h1, e1⟩ := List.getElem?_eq_some_iff.mp a
  obtain ⟨h2, e2⟩ := List.getElem?_eq_some_iff.mp b
  exact (List.getElem_inj hN).mp (e1.trans e2.symm)

/-- a name is stored; what changed -/
theorem store_ok2 {M : Model} {A : Around} {E : Value → Shared → Prop} {i : Nat} {x : Str} {v : V} {u : Value} {Q : Unit → Shared → Prop} (I : Inv X pins σ H s) (hN : X.N.Nodup) (hi : X.N[i]? = some x) (hx : Loc X.env.scope x) (r : RelV v u)
    (h : ∀ s', Inv X pins (σ.set i (some v)) H s' → (∃ a, Heap.SameBut a s.heap s'.heap ∧ (a = X.env.locals ∨ X.env.cells.lookup x = some a)) → Q () s') (hf : X.fn x = true ∨ X.env.scope.names.lookup x = some .local := by first | exact .inl rfl | exact .inr rfl | assumption) : wpAny M A (storeName X.env x u) Q E s := by
  obtain ⟨m, hn, hl⟩ := id I.loc
  have hcls : (X.env.scope.kind == .class || (X.env.scope.kind == .module && X.env.locals != X.env.globals)) = false := by rw [I.ok.kind]; rfl
  have hiσ : i < σ.length := by rw [I.len]; exact (List.getElem?_eq_some_iff.mp hi).1
  have cne := I.cne
  have tracked : ∀ {a : Addr} {h' : Heap}, (∃ o, s.heap.get? a = some o ∧ H a = none) → Heap.SameBut a s.heap h' → HOk X.prog X.w H h' := fun {a h'} ha hs b ob e => by
    obtain ⟨_, _, hfree⟩ := ha
    refine (I.hok b ob e).stay (fun c w' hc q => (hs.2 c ?_).trans q) (fun _ q => q) fun _ _ q => q
    rintro rfl
    rcases hc with rfl | hc
    · rw [hfree] at e; cases e
    · rw [hfree] at hc; cases hc
  rcases hx with hk | hk
  · refine wpAny_storeName_local hk hn (fun h' hn' hs => ?_) hcls
    obtain ⟨oL, _, _, hoL, _⟩ := id hn
    refine h _ ⟨I.ok, I.os, I.bare, ⟨fun b o e n hb hx => ?_, fun b o e n hb hx => ?_, I.base.free, fun b o e hx => ?_, I.base.tups, I.base.frzs, I.base.tbls⟩, ⟨_, hn', fun j y v' e1 e2 e3 => ?_⟩, fun y c e => ?_, I.free, I.freeC, fun p hp => ?_, tracked ⟨oL, hoL, I.free⟩ hs, by simpa using I.len⟩ ⟨_, hs, .inl rfl⟩
    · exact (hs.2 b (Nat.ne_of_lt (Nat.lt_of_lt_of_le (Heap.lt_size e) I.ok.above))).trans (I.base.keep b o e n hb hx)
    · obtain ⟨sl, e1⟩ := I.base.slot b o e n hb hx
      exact ⟨sl, (hs.2 b (Nat.ne_of_lt (Nat.lt_of_lt_of_le (Heap.lt_size e) I.ok.above))).trans e1⟩
    · obtain ⟨o', e1⟩ := I.base.there b o e hx
      exact ⟨o', (hs.2 b (Nat.ne_of_lt (Nat.lt_of_lt_of_le (Heap.lt_size e) I.ok.above))).trans e1⟩
    · by_cases hj : j = i
      · subst hj
        rw [hi] at e1; cases e1
        rw [List.getElem?_set_self hiσ] at e2
        cases e2
        exact ⟨u, r, .inl ⟨hk, by simp⟩⟩
      · rw [List.getElem?_set_ne (Ne.symm hj)] at e2
        obtain ⟨u', r', q⟩ := hl j y v' e1 e2 e3
        refine ⟨u', r', ?_⟩
        rcases q with ⟨k, e⟩ | ⟨k, c, e, z⟩
        · refine .inl ⟨k, ?_⟩
          have : y ≠ x := fun e => hj (nodup_ix hN e1 (e ▸ hi))
          simp [this, e]
        · exact .inr ⟨k, c, e, z.sameBut hs (cne y c e)⟩
    · obtain ⟨w', z⟩ := I.cell y c e
      exact ⟨w', z.sameBut hs (cne y c e)⟩
    · obtain ⟨e, n, ne, nf, d⟩ := I.pin p hp
      exact ⟨(hs.2 p.1 ne).trans e, n, ne, nf, d⟩
  · have hfn : X.fn x = true := by
      rcases hf with z | z
      · exact z
      · rw [z] at hk; cases hk
    obtain ⟨c, hc⟩ := I.ok.has x (.inl hk)
    obtain ⟨w', z⟩ := I.cell x c hc
    refine wpAny_storeName_cell I.ok.kind hk hc z (fun h' hc' hs => ?_)
    obtain ⟨oc, hoc, hocd⟩ := id z
    refine h { s with heap := h' } ⟨I.ok, I.os, I.bare, ⟨fun b o e n hb hx => ?_, fun b o e n hb hx => ?_, I.base.free, fun b o e hx => ?_, I.base.tups, I.base.frzs, I.base.tbls⟩, ⟨m, hn.sameBut hs (Ne.symm (cne x c hc)), fun j y v' e1 e2 e3 => ?_⟩, fun y c' e => ?_, I.free, I.freeC, fun p hp => ?_, tracked ⟨oc, hoc, I.freeC x c hc⟩ hs, by simpa using I.len⟩ ⟨c, hs, .inr hc⟩
    · exact (hs.2 b (Nat.ne_of_lt (Nat.lt_of_lt_of_le (Heap.lt_size e) (I.ok.cab x c hfn hc)))).trans (I.base.keep b o e n hb hx)
    · obtain ⟨sl, e1⟩ := I.base.slot b o e n hb hx
      exact ⟨sl, (hs.2 b (Nat.ne_of_lt (Nat.lt_of_lt_of_le (Heap.lt_size e) (I.ok.cab x c hfn hc)))).trans e1⟩
    · obtain ⟨o', e1⟩ := I.base.there b o e hx
      exact ⟨o', (hs.2 b (Nat.ne_of_lt (Nat.lt_of_lt_of_le (Heap.lt_size e) (I.ok.cab x c hfn hc)))).trans e1⟩
    · by_cases hj : j = i
      · subst hj
        rw [hi] at e1; cases e1
        rw [List.getElem?_set_self hiσ] at e2
        cases e2
        exact ⟨u, r, .inr ⟨.inl hk, c, hc, hc'⟩⟩
      · rw [List.getElem?_set_ne (Ne.symm hj)] at e2
        obtain ⟨u', r', q⟩ := hl j y v' e1 e2 e3
        refine ⟨u', r', ?_⟩
        rcases q with q | ⟨k, c', e, z'⟩
        · exact .inl q
        · refine .inr ⟨k, c', e, z'.sameBut hs ?_⟩
          rintro rfl
          exact hj (nodup_ix hN e1 (I.ok.inj _ _ _ e hc ▸ hi))
    · by_cases hcc : c' = c
      · subst hcc; exact ⟨_, hc'⟩
      · obtain ⟨w2, z2⟩ := I.cell y c' e
        exact ⟨w2, z2.sameBut hs hcc⟩
    · obtain ⟨e, n, ne, nf, d⟩ := I.pin p hp
      refine ⟨(hs.2 p.1 ?_).trans e, n, ne, nf, d⟩
      intro q
      rw [q, hoc] at e
      have q' : oc = p.2 := Option.some.inj e
      exact d w' (by rw [← q']; exact hocd)
theorem store_ok {M : Model} {A : Around} {E : Value → Shared → Prop} {i : Nat} {x : Str} {v : V} {u : Value} {Q : Unit → Shared → Prop} (I : Inv X pins σ H s) (hN : X.N.Nodup) (hi : X.N[i]? = some x) (hx : Loc X.env.scope x) (r : RelV v u)
    (h : ∀ s', Inv X pins (σ.set i (some v)) H s' → Q () s') (hf : X.fn x = true ∨ X.env.scope.names.lookup x = some .local := by first | exact .inl rfl | exact .inr rfl | assumption) : wpAny M A (storeName X.env x u) Q E s :=
  store_ok2 I hN hi hx r (fun s' I' _ => h s' I') hf
/-- behind a call or a block, the state as it is -/
theorem Inv.call' {s' : Shared} {ch : List Addr} (I : Inv X pins σ H s) (ho : s'.os = s.os) (u : Un (frs X.stack) ch H H' s.heap s'.heap) (hok : HOk X.prog X.w H' s'.heap) (hg : AllBare s'.gens)
    (hch : ∀ b ∈ ch, (b ∈ X.ex ∨ X.s₀.heap.objs.size ≤ b) ∧ b ≠ X.env.locals ∧ (∀ x c, X.env.cells.lookup x = some c → c ≠ b) ∧ ∀ p ∈ X.pn ++ pins, p.1 ≠ b) : Inv X pins σ H' s' := by
  obtain ⟨h', g', d', t', o'⟩ := s'
  have e : o' = s.os := ho
  subst e
  exact I.call (g' := g') (t' := t') (d' := d') u hok hg hch
end

/-! ### the judgements -/
/-- an exception: its class, its own dict's address (where it has one), the abstract heap behind it -/
abbrev XK := Value → Option Addr → Hp → Prop
abbrev St := List (Option V)
abbrev VK := V → Hp → Prop
/-- an expression's reading; a test's; an argument list's -/
abbrev TE := St → Hp → VK → Prop
abbrev TT := St → Hp → (Bool → Hp → Prop) → Prop
abbrev TA := St → Hp → (List V → Hp → Prop) → Prop
/-- what is wanted behind a statement -/
structure Ends where
  nx : St → Hp → Prop
  rt : VK
  bk : St → Hp → Prop := fun _ _ => False
  ct : St → Hp → Prop := fun _ _ => False
abbrev TS := Ends → St → Hp → Prop

def EP (X : Cx) (pins : List (Addr × Obj)) (σ : St) (Q : VK) (u : Value) (s' : Shared) : Prop := ∃ v H', Inv X pins σ H' s' ∧ RelV v u ∧ Q v H'
def TP (X : Cx) (pins : List (Addr × Obj)) (σ : St) (Q : Bool → Hp → Prop) (b : Bool) (s' : Shared) : Prop := ∃ H', Inv X pins σ H' s' ∧ Q b H'
def AP (X : Cx) (pins : List (Addr × Obj)) (σ : St) (Q : List V → Hp → Prop) (us : List Value) (s' : Shared) : Prop := ∃ vs H', Inv X pins σ H' s' ∧ Vals vs us ∧ Q vs H'
def SP (X : Cx) (pins : List (Addr × Obj)) (D : Ends) (f : Flow) (s' : Shared) : Prop :=
  match f with
  | .next => ∃ σ' H', Inv X pins σ' H' s' ∧ D.nx σ' H'
  | .brk => ∃ σ' H', Inv X pins σ' H' s' ∧ D.bk σ' H'
  | .cont => ∃ σ' H', Inv X pins σ' H' s' ∧ D.ct σ' H'
  | .ret u => ∃ v σ' H', Inv X pins σ' H' s' ∧ RelV v u ∧ D.rt v H'

def PE (X : Cx) (e : Expr) (t : TE) : Prop :=
  ∀ (pins : List (Addr × Obj)) (s : Shared) (σ : St) (H : Hp) (Q : VK), Inv X pins σ H s → t σ H Q → wpAny (model X.prog X.w) X.A (eval e X.env) (EP X pins σ Q) X.xe s
def PT (X : Cx) (e : Expr) (t : TT) : Prop :=
  ∀ (pins : List (Addr × Obj)) (s : Shared) (σ : St) (H : Hp) (Q : Bool → Hp → Prop), Inv X pins σ H s → t σ H Q → wpAny (model X.prog X.w) X.A (isTrue e X.env (eval e X.env)) (TP X pins σ Q) X.xe s
/-- a test whatever its 'whole' is (and, or) -/
def PW (X : Cx) (e : Expr) (t : TT) : Prop :=
  ∀ (whole : Sem Value) (pins : List (Addr × Obj)) (s : Shared) (σ : St) (H : Hp) (Q : Bool → Hp → Prop), Inv X pins σ H s → t σ H Q → wpAny (model X.prog X.w) X.A (isTrue e X.env whole) (TP X pins σ Q) X.xe s
theorem PW.pt {X : Cx} {e : Expr} {t : TT} (h : PW X e t) : PT X e t := h _
/-- an argument list (no star), from the left -/
def PA (X : Cx) (es : List Expr) (t : TA) : Prop :=
  ∀ (pos : Pos) (pins : List (Addr × Obj)) (s : Shared) (σ : St) (H : Hp) (Q : List V → Hp → Prop), Inv X pins σ H s → t σ H Q → wpAny (model X.prog X.w) X.A (spliced (backTo pos (starEach es X.env))) (AP X pins σ Q) X.xe s
def PS (X : Cx) (st : Stmt) (t : TS) : Prop :=
  ∀ (pins : List (Addr × Obj)) (s : Shared) (σ : St) (H : Hp) (D : Ends), Inv X pins σ H s → t D σ H → wpAny (model X.prog X.w) X.A (exec st X.env) (SP X pins D) X.xe s
def PSs (X : Cx) (st : List Stmt) (t : TS) : Prop :=
  ∀ (pins : List (Addr × Obj)) (s : Shared) (σ : St) (H : Hp) (D : Ends), Inv X pins σ H s → t D σ H → wpAny (model X.prog X.w) X.A (execs st X.env) (SP X pins D) X.xe s
/-- weaken the end -/
theorem thn {α : Type} {t : Sem α} {Q Q' : α → Shared → Prop} {M : Model} {A : Around} {E : Value → Shared → Prop} {s : Shared} (h : wpAny M A t Q E s) (hQ : ∀ a s, Q a s → Q' a s) : wpAny M A t Q' E s := wpAny_mono h hQ fun _ _ x => x
end L2

namespace L2
open PySem PySem.Spec PyProof.Rows
section
variable {X : Cx}

/-- two expressions in a row -/
theorem bin {a b : Expr} {ta tb : TE} (ha : PE X a ta) (hb : PE X b tb) {pins : List (Addr × Obj)} {s : Shared} {σ : St} {H : Hp} {R : V → V → Hp → Prop} (I : Inv X pins σ H s) (h : ta σ H fun x H1 => tb σ H1 fun y H2 => R x y H2)
    {α : Type} {Q : α → Shared → Prop} {f : Value → Value → Sem α}
    (hf : ∀ v u s2 x y H2, Inv X pins σ H2 s2 → RelV x v → RelV y u → R x y H2 → wpAny (model X.prog X.w) X.A (f v u) Q X.xe s2) :
    wpAny (model X.prog X.w) X.A (eval a X.env) (fun v s₁ => wpAny (model X.prog X.w) X.A (eval b X.env) (fun u s₂ => wpAny (model X.prog X.w) X.A (f v u) Q X.xe s₂) X.xe s₁) X.xe s := by
  refine thn (ha pins s σ H _ I h) fun v s1 ⟨x, H1, I1, r1, q1⟩ => ?_
  refine thn (hb pins s1 σ H1 _ I1 q1) fun u s2 ⟨y, H2, I2, r2, q2⟩ => ?_
  exact hf v u s2 x y H2 I2 r1 r2 q2

/-! ### names and constants -/
def tVar (i : Nat) : TE := fun σ H Q => ∃ v, σ[i]? = some (some v) ∧ Q v H
def tC (v : V) : TE := fun _ H Q => Q v H
theorem pe_var {i : Nat} {x : Str} {pos : Pos} (hN : X.N[i]? = some x) (hv : Vis X.env.scope x) (hd : (x == ("__debug__" : Str)) = false := by decide) (hcd : (x == ("__classdict__" : Str)) = false := by decide) : PE X (.Name x pos) (tVar i) := by
  intro pins s σ H Q I h
  obtain ⟨v, e, h⟩ := h
  obtain ⟨m, hn, hl⟩ := I.loc
  obtain ⟨u, r, l⟩ := hl i x v hN e hv
  have fin : EP X pins σ Q u s := ⟨v, H, I, r, h⟩
  rcases l with ⟨hk, hm⟩ | ⟨hk, c, hc, hcell⟩
  · exact wpAny_Name (wpAny_loadName_local I.ok.kind hk hn hm fin) hd
  · rcases hk with hk | hk
    · exact wpAny_Name (wpAny_loadName_cell I.ok.kind hk hc hcell fin) hd
    · exact wpAny_Name (wpAny_loadName_free I.ok.kind hk hc hcell fin hcd) hd
theorem pe_int {i j pos} : PE X (.Constant (.int i) j pos) (tC (.int i)) := fun _ _ _ H _ I h => wpAny_Constant_int ⟨.int i, H, I.tok _, ⟨_, rfl⟩, h⟩
theorem pe_bl {b j pos} : PE X (.Constant (.bool b) j pos) (tC (.bl b)) := fun _ _ _ H _ I h => Constant_bool ⟨.bl b, H, I, rfl, h⟩
theorem pe_non {j pos} : PE X (.Constant .none j pos) (tC .non) := fun _ _ _ H _ I h => Constant_none ⟨.non, H, I, rfl, h⟩
theorem pe_str {x j pos} : PE X (.Constant (.str x) j pos) (tC (.str x)) := fun _ _ _ H _ I h => Calls.Constant_str ⟨.str x, H, I.tok _, ⟨_, rfl⟩, h⟩

/-- a global name of the def -/
def Gl (X : Cx) (x : Str) : Prop := X.env.kindOf x = some .globalImplicit
theorem ld_glob {E : Value → Shared → Prop} {pins : List (Addr × Obj)} {s : Shared} {σ : St} {H : Hp} {x : Str} {u : Value} {pos : Pos} {Q : Value → Shared → Prop} (I : Inv X pins σ H s) (hg : Gl X x) (hm : X.mg x = some u) (h : Q u s)
    (hd : (x == ("__debug__" : Str)) = false := by decide) : wpAny (model X.prog X.w) X.A (eval (.Name x pos) X.env) Q E s :=
  Calls.Name_function_global I.ok.kind hg (Calls.loadGlobal_global (by rw [I.ok.glob]; exact I.mod.glob.keeps I.bk) hm h) hd
theorem ld_blt {E : Value → Shared → Prop} {pins : List (Addr × Obj)} {s : Shared} {σ : St} {H : Hp} {x : Str} {u : Value} {pos : Pos} {Q : Value → Shared → Prop} (I : Inv X pins σ H s) (hg : Gl X x) (hm : X.mg x = none) (hv : bootBuiltins x = some u) (h : Q u s)
    (hn : x ≠ "__name__" := by decide) (hd : (x == ("__debug__" : Str)) = false := by decide) : wpAny (model X.prog X.w) X.A (eval (.Name x pos) X.env) Q E s := by
  obtain ⟨mb, h1, h2⟩ := I.mod.blt
  exact Calls.Name_function_global I.ok.kind hg (Calls.loadGlobal_builtin (by rw [I.ok.glob]; exact I.mod.glob.keeps I.bk) hm (by rw [I.ok.blt]; exact h1.keeps I.bk) ((h2 x hn).trans hv) h) hd
/-- a module's constant, a class, a function, as a value -/
theorem pe_glob {x : Str} {v : V} {u : Value} {pos : Pos} (hg : Gl X x) (hm : X.mg x = some u) (r : RelV v u) (hd : (x == ("__debug__" : Str)) = false := by decide) : PE X (.Name x pos) (tC v) :=
  fun _ _ _ H _ I h => ld_glob I hg hm ⟨v, H, I, r, h⟩ hd
theorem pe_bltn {x : Str} {v : V} {u : Value} {pos : Pos} (hg : Gl X x) (hm : X.mg x = none) (hv : bootBuiltins x = some u) (r : RelV v u) (hn : x ≠ "__name__" := by decide) (hd : (x == ("__debug__" : Str)) = false := by decide) : PE X (.Name x pos) (tC v) :=
  fun _ _ _ H _ I h => ld_blt I hg hm hv ⟨v, H, I, r, h⟩ hn hd

/-! ### arithmetic -/
/-- two ints -/
def t2I (ta tb : TE) (k : Int → Int → Hp → Prop) : St → Hp → Prop := fun σ H => ta σ H fun x H1 => tb σ H1 fun y H2 => ∃ i j, x = .int i ∧ y = .int j ∧ k i j H2
def tAdd (ta tb : TE) : TE := fun σ H Q => t2I ta tb (fun i j H2 => Q (.int (i + j)) H2) σ H
def tSub (ta tb : TE) : TE := fun σ H Q => t2I ta tb (fun i j H2 => Q (.int (i - j)) H2) σ H
/-- the left factor below 2^64 -/
def tMul (ta tb : TE) : TE := fun σ H Q => t2I ta tb (fun i j H2 => (-(2 ^ 64) < i ∧ i < 2 ^ 64) ∧ Q (.int (i * j)) H2) σ H
variable {a b : Expr} {ta tb : TE} {pos : Pos}
theorem pe_add (ha : PE X a ta) (hb : PE X b tb) : PE X (.BinOp a .Add b pos) (tAdd ta tb) := by
  intro pins s σ H Q I h
  refine wpAny_BinOp (bin ha hb I h fun v u s2 x y H2 I2 rx ry q => ?_)
  obtain ⟨i, j, rfl, rfl, q⟩ := q
  obtain ⟨t, rfl⟩ := rx
  obtain ⟨t', rfl⟩ := ry
  exact add_int ⟨.int _, H2, I2.tok _, ⟨_, rfl⟩, q⟩
theorem pe_sub (ha : PE X a ta) (hb : PE X b tb) : PE X (.BinOp a .Sub b pos) (tSub ta tb) := by
  intro pins s σ H Q I h
  refine wpAny_BinOp (bin ha hb I h fun v u s2 x y H2 I2 rx ry q => ?_)
  obtain ⟨i, j, rfl, rfl, q⟩ := q
  obtain ⟨t, rfl⟩ := rx
  obtain ⟨t', rfl⟩ := ry
  exact sub_int ⟨.int _, H2, I2.tok _, ⟨_, rfl⟩, q⟩
theorem pe_mul (ha : PE X a ta) (hb : PE X b tb) : PE X (.BinOp a .Mult b pos) (tMul ta tb) := by
  intro pins s σ H Q I h
  refine wpAny_BinOp (bin ha hb I h fun v u s2 x y H2 I2 rx ry q => ?_)
  obtain ⟨i, j, rfl, rfl, ⟨q1, q2⟩, q⟩ := q
  obtain ⟨t, rfl⟩ := rx
  obtain ⟨t', rfl⟩ := ry
  exact mul_int ⟨.int _, H2, I2.tok _, ⟨_, rfl⟩, q⟩ (.of_left (intBits_le_64 q1 q2))

/-! ### comparisons -/
def PC (X : Cx) (op : CmpOp) (a b : Expr) (t : TE) : Prop :=
  ∀ (pins : List (Addr × Obj)) (s : Shared) (σ : St) (H : Hp) (Q : VK), Inv X pins σ H s → t σ H Q →
    wpAny (model X.prog X.w) X.A (eval a X.env) (fun v s₁ => wpAny (model X.prog X.w) X.A (eval b X.env) (fun u s₂ => wpAny (model X.prog X.w) X.A (compareOp op v u) (EP X pins σ Q) X.xe s₂) X.xe s₁) X.xe s
theorem nobehind (b : Expr) {op : CmpOp} (h : op ≠ .In) (h2 : op ≠ .NotIn) : behindInMarks op b = false := by
  have e1 : (op == CmpOp.In) = false := by cases op <;> first | rfl | exact absurd rfl h
  have e2 : (op == CmpOp.NotIn) = false := by cases op <;> first | rfl | exact absurd rfl h2
  cases b <;> simp [behindInMarks, e1, e2]
def tCmp (p : Int → Int → Bool) (ta tb : TE) : TE := fun σ H Q => t2I ta tb (fun i j H2 => Q (.bl (p i j)) H2) σ H
abbrev tLt : TE → TE → TE := tCmp fun i j => decide (i < j)
abbrev tLe : TE → TE → TE := tCmp fun i j => decide (i ≤ j)
abbrev tGt : TE → TE → TE := tCmp fun i j => decide (j < i)
abbrev tGe : TE → TE → TE := tCmp fun i j => decide (j ≤ i)
abbrev tEqI : TE → TE → TE := tCmp fun i j => decide (i = j)
abbrev tNeI : TE → TE → TE := tCmp fun i j => !decide (i = j)
/-- a comparison of two ints, by its rule -/
theorem pc_int {op : CmpOp} {p : Int → Int → Bool} (ha : PE X a ta) (hb : PE X b tb)
    (rule : ∀ (i j : Int) (t u : Tok) (Q : Value → Shared → Prop) (s : Shared), Q (.bool (p i j)) s → wpAny (model X.prog X.w) X.A (compareOp op (.int i t) (.int j u)) Q X.xe s) : PC X op a b (tCmp p ta tb) := by
  intro pins s σ H Q I h
  refine bin ha hb I h fun v u s2 x y H2 I2 rx ry q => ?_
  obtain ⟨i, j, rfl, rfl, q⟩ := q
  obtain ⟨t, rfl⟩ := rx
  obtain ⟨t', rfl⟩ := ry
  exact rule i j t t' _ s2 ⟨.bl _, H2, I2, rfl, q⟩
theorem pc_lt (ha : PE X a ta) (hb : PE X b tb) : PC X .Lt a b (tLt ta tb) := pc_int ha hb fun _ _ _ _ _ _ h => lt_int h
theorem pc_le (ha : PE X a ta) (hb : PE X b tb) : PC X .LtE a b (tLe ta tb) := pc_int ha hb fun _ _ _ _ _ _ h => le_int h
theorem pc_gt (ha : PE X a ta) (hb : PE X b tb) : PC X .Gt a b (tGt ta tb) := pc_int ha hb fun _ _ _ _ _ _ h => gt_int h
theorem pc_ge (ha : PE X a ta) (hb : PE X b tb) : PC X .GtE a b (tGe ta tb) := pc_int ha hb fun _ _ _ _ _ _ h => ge_int h
theorem pc_eqI (ha : PE X a ta) (hb : PE X b tb) : PC X .Eq a b (tEqI ta tb) := pc_int ha hb fun _ _ _ _ _ _ h => eq_int (by rw [Bool.beq_eq_decide_eq]; exact h)
theorem pc_neI (ha : PE X a ta) (hb : PE X b tb) : PC X .NotEq a b (tNeI ta tb) := pc_int ha hb fun _ _ _ _ _ _ h => ne_int (by rw [bne, Bool.beq_eq_decide_eq]; exact h)
/-- is None -/
def tIsN (ta : TE) : TE := fun σ H Q => ta σ H fun x H1 => Q (.bl (decide (x = .non))) H1
def tNotN (ta : TE) : TE := fun σ H Q => ta σ H fun x H1 => Q (.bl (!decide (x = .non))) H1
theorem RelV.none_iff {x : V} {v : Value} (r : RelV x v) : (v == Value.none) = decide (x = .non) := by
  cases x with
  | non => cases r; rfl
  | bl _ => cases r; rfl
  | int _ => obtain ⟨t, rfl⟩ := r; rfl
  | str _ => obtain ⟨t, rfl⟩ := r; rfl
  | byt _ => obtain ⟨t, rfl⟩ := r; rfl
  | flt _ => obtain ⟨t, rfl⟩ := r; rfl
  | ref _ => cases r; rfl
  | ty _ => cases r; rfl
theorem pc_isN {j pos'} (ha : PE X a ta) : PC X .Is a (.Constant .none j pos') (tIsN ta) := by
  intro pins s σ H Q I h
  refine thn (ha pins s σ H _ I h) fun v s1 ⟨x, H1, I1, r1, q1⟩ => ?_
  exact Constant_none (is_none_gen ⟨.bl _, H1, I1, by rw [r1.none_iff]; rfl, q1⟩)
theorem pc_notN {j pos'} (ha : PE X a ta) : PC X .IsNot a (.Constant .none j pos') (tNotN ta) := by
  intro pins s σ H Q I h
  refine thn (ha pins s σ H _ I h) fun v s1 ⟨x, H1, I1, r1, q1⟩ => ?_
  exact Constant_none (isnot_none_gen ⟨.bl _, H1, I1, by rw [r1.none_iff]; rfl, q1⟩)
/-- a comparison as a value, as a test -/
def tB (t : TE) : TT := fun σ H Q => t σ H fun x H1 => ∃ c, x = .bl c ∧ Q c H1
theorem pe_cmp {op : CmpOp} {t : TE} (h : PC X op a b t) (h1 : behindInMarks op b = false := by first | exact nobehind _ (by decide) (by decide) | rfl) : PE X (.Compare a [op] [b] pos) t := fun pins s σ H Q I hw => wpAny_Compare1 (h pins s σ H Q I hw) h1
theorem pt_cmp {op : CmpOp} {t : TE} (h : PC X op a b t) (h1 : behindInMarks op b = false := by first | exact nobehind _ (by decide) (by decide) | rfl) : PT X (.Compare a [op] [b] pos) (tB t) := by
  intro pins s σ H Q I hw
  refine wpAny_isTrue_Compare1 (thn (h pins s σ H _ I hw) fun v s1 h1 => thn h1 fun u s2 h2 => thn h2 fun c s3 ⟨x, H1, I1, r1, q1⟩ => ?_) h1
  obtain ⟨d, rfl, q⟩ := q1
  cases r1
  exact wpAny_truthy_bool ⟨H1, I1, q⟩
/-- an expression whose value is a bool, as a test -/
theorem pt_val {e : Expr} {t : TE} (h : PE X e t) (he : ∀ whole, isTrue e X.env whole = (do let v ← whole; standAt e.pos; holding [v] (truthy v)) := by intro _; rfl) : PT X e (tB t) := by
  intro pins s σ H Q I hw
  refine isTrue_plain (thn (h pins s σ H _ I hw) fun v s1 ⟨x, H1, I1, r1, q1⟩ => ?_) (he _)
  obtain ⟨d, rfl, q⟩ := q1
  cases r1
  exact wpAny_truthy_bool ⟨H1, I1, q⟩

/-! ### and, or, not -/
variable {tA tB' : TT} {rest : List Expr}
def tAnd (t u : TT) : TT := fun σ H Q => t σ H fun c H1 => if c = true then u σ H1 Q else Q false H1
def tOr (t u : TT) : TT := fun σ H Q => t σ H fun c H1 => if c = true then Q true H1 else u σ H1 Q
def tNot (t : TT) : TT := fun σ H Q => t σ H fun c H1 => Q (!c) H1
theorem pw_and1 (ha : PT X a tA) : PW X (.BoolOp .And [a] pos) tA := by
  intro wh pins s σ H Q I h
  refine isTrue_and (thn (ha pins s σ H Q I h) fun c s1 e => ?_)
  cases c with
  | true => exact isTrue_and_nil e
  | false => exact e
theorem pw_or1 (ha : PT X a tA) : PW X (.BoolOp .Or [a] pos) tA := by
  intro wh pins s σ H Q I h
  refine isTrue_or (thn (ha pins s σ H Q I h) fun c s1 e => ?_)
  cases c with
  | false => exact isTrue_or_nil e
  | true => exact e
theorem pw_and (ha : PT X a tA) (hb : PW X (.BoolOp .And (b :: rest) pos) tB') : PW X (.BoolOp .And (a :: b :: rest) pos) (tAnd tA tB') := by
  intro wh pins s σ H Q I h
  refine isTrue_and (thn (ha pins s σ H _ I h) fun c s1 ⟨H1, I1, q1⟩ => ?_)
  cases c with
  | true => exact hb wh pins s1 σ H1 Q I1 q1
  | false => exact ⟨H1, I1, q1⟩
theorem pw_or (ha : PT X a tA) (hb : PW X (.BoolOp .Or (b :: rest) pos) tB') : PW X (.BoolOp .Or (a :: b :: rest) pos) (tOr tA tB') := by
  intro wh pins s σ H Q I h
  refine isTrue_or (thn (ha pins s σ H _ I h) fun c s1 ⟨H1, I1, q1⟩ => ?_)
  cases c with
  | true => exact ⟨H1, I1, q1⟩
  | false => exact hb wh pins s1 σ H1 Q I1 q1
theorem pt_not (ha : PT X a tA) : PT X (.UnaryOp .Not a pos) (tNot tA) := by
  intro pins s σ H Q I h
  exact isTrue_not (ha pins s σ H (fun c H1 => Q (!c) H1) I h)
/-- .. as values (bools) -/
def tAndV (ta tb : TE) : TE := fun σ H Q => ta σ H fun x H1 => ∃ c, x = .bl c ∧ if c = true then tb σ H1 Q else Q (.bl false) H1
def tOrV (ta tb : TE) : TE := fun σ H Q => ta σ H fun x H1 => ∃ c, x = .bl c ∧ if c = true then Q (.bl true) H1 else tb σ H1 Q
def tNotV (ta : TE) : TE := fun σ H Q => ta σ H fun x H1 => ∃ c, x = .bl c ∧ Q (.bl (!c)) H1
theorem pe_one {op} {t : TE} (h : PE X a t) : PE X (.BoolOp op [a] pos) t := fun pins s σ H Q I hw => BoolOp_one (h pins s σ H Q I hw)
theorem pe_and (ha : PE X a ta) (hb : PE X (.BoolOp .And (b :: rest) pos) tb) : PE X (.BoolOp .And (a :: b :: rest) pos) (tAndV ta tb) := by
  intro pins s σ H Q I h
  refine BoolOp_and (thn (ha pins s σ H _ I h) fun v s1 ⟨x, H1, I1, r1, q1⟩ => ?_)
  obtain ⟨c, rfl, q1⟩ := q1
  cases r1
  refine wpAny_truthy_bool ?_
  cases c with
  | true => exact hb pins s1 σ H1 Q I1 q1
  | false => exact ⟨.bl false, H1, I1, rfl, q1⟩
theorem pe_or (ha : PE X a ta) (hb : PE X (.BoolOp .Or (b :: rest) pos) tb) : PE X (.BoolOp .Or (a :: b :: rest) pos) (tOrV ta tb) := by
  intro pins s σ H Q I h
  refine BoolOp_or (thn (ha pins s σ H _ I h) fun v s1 ⟨x, H1, I1, r1, q1⟩ => ?_)
  obtain ⟨c, rfl, q1⟩ := q1
  cases r1
  refine wpAny_truthy_bool ?_
  cases c with
  | false => exact hb pins s1 σ H1 Q I1 q1
  | true => exact ⟨.bl true, H1, I1, rfl, q1⟩
theorem pe_not (ha : PE X a ta) : PE X (.UnaryOp .Not a pos) (tNotV ta) := by
  intro pins s σ H Q I h
  refine UnaryOp_ (thn (ha pins s σ H _ I h) fun v s1 ⟨x, H1, I1, r1, q1⟩ => ?_)
  obtain ⟨c, rfl, q1⟩ := q1
  cases r1
  exact not_of (wpAny_truthy_bool ⟨.bl (!c), H1, I1, rfl, q1⟩)
/-- a if t else b -/
def tIf (t : TT) (ta tb : TE) : TE := fun σ H Q => t σ H fun c H1 => if c = true then ta σ H1 Q else tb σ H1 Q
theorem pe_ifExp {c : Expr} (hc : PT X c tA) (ha : PE X a ta) (hb : PE X b tb) : PE X (.IfExp c a b pos) (tIf tA ta tb) := by
  intro pins s σ H Q I h
  refine wpAny_IfExp (thn (hc pins s σ H _ I h) fun d s1 ⟨H1, I1, q1⟩ => ?_)
  cases d with
  | true => exact ha pins s1 σ H1 Q I1 q1
  | false => exact hb pins s1 σ H1 Q I1 q1
end
end L2

namespace L2
open PySem PySem.Spec PyProof.Rows

/-! ### a list, a tuple that is read: tracked, frozen, or an object of the module -/
def SqL (K : PySem.W.Frag) (H : Hp) (a : Addr) (xs : List V) : Prop :=
  Rd H a (.lst xs) ∨
    ∃ (o : Obj) (its : Array Value) (n : Nat), K.lookup a = some o ∧ o.cls = .type "list" ∧ o.dict = none ∧ o.data = .seq its n ∧ its.size ≤ sizeLine ∧ Vals xs its.toList
def SqT (K : PySem.W.Frag) (H : Hp) (a : Addr) (xs : List V) : Prop :=
  Rd H a (.tup xs) ∨
    ∃ (o : Obj) (its : Array Value) (n : Nat), K.lookup a = some o ∧ o.cls = .type "tuple" ∧ o.data = .seq its n ∧ its.size ≤ sizeLine ∧ Vals xs its.toList
def absV : Value → Option V
  | .none => some .non
  | .bool b => some (.bl b)
  | .int i _ => some (.int i)
  | .str x _ => some (.str x)
  | .bytes b _ => some (.byt b)
  | .float b _ => some (.flt b)
  | .ref a => some (.ref a)
  | .type n => some (.ty n)
  | _ => none
theorem RelV.abs {x : V} {u : Value} (r : RelV x u) : absV u = some x := by
  cases x with
  | non => cases r; rfl
  | bl _ => cases r; rfl
  | int _ => obtain ⟨t, rfl⟩ := r; rfl
  | str _ => obtain ⟨t, rfl⟩ := r; rfl
  | byt _ => obtain ⟨t, rfl⟩ := r; rfl
  | flt _ => obtain ⟨t, rfl⟩ := r; rfl
  | ref _ => cases r; rfl
  | ty _ => cases r; rfl
theorem RelV.inj {x y : V} {u : Value} (r : RelV x u) (q : RelV y u) : x = y := Option.some.inj (r.abs.symm.trans q.abs)
theorem Vals.inj : ∀ {xs ys : List V} {us : List Value}, Vals xs us → Vals ys us → xs = ys
  | _, _, _, .nil, .nil => rfl
  | _, _, _, .cons r t, .cons r' t' => by rw [r.inj r', Vals.inj t t']
section
variable {X : Cx} {pins : List (Addr × Obj)} {σ : St} {H : Hp} {s : Shared} {a : Addr} {xs ys : List V}
theorem SqL.of {K : PySem.W.Frag} (h : H a = some (.lst xs)) : SqL K H a xs := .inl (.inl h)
theorem SqT.of {K : PySem.W.Frag} (h : H a = some (.tup xs)) : SqT K H a xs := .inl (.inl h)
theorem Inv.list (I : Inv X pins σ H s) (h : SqL X.K H a xs) : ∃ its : List Value, Vals xs its ∧ PlainL s.heap a its.toArray ∧ xs.length ≤ sizeLine := by
  rcases h with h | ⟨o, its, n, hk, hc, hd, hs, hz, r⟩
  · obtain ⟨z, its, n, r, e⟩ := h.ok I.hok
    exact ⟨its, r, ⟨_, n, e, rfl, rfl, rfl⟩, z⟩
  · refine ⟨its.toList, r, ⟨o, n, I.kIn a o hk, hc, hd, by simpa using hs⟩, ?_⟩
    have e := r.length
    simp only [Array.length_toList] at e
    omega
theorem Inv.tuple (I : Inv X pins σ H s) (h : SqT X.K H a xs) : ∃ its : List Value, Vals xs its ∧ IsTup s.heap a its.toArray ∧ xs.length ≤ sizeLine := by
  rcases h with h | ⟨o, its, n, hk, hc, hs, hz, r⟩
  · obtain ⟨z, its, r, p⟩ := h.ok I.hok
    exact ⟨its, r, p, z⟩
  · refine ⟨its.toList, r, ⟨o, I.kIn a o hk, hc, n, by simpa using hs⟩, ?_⟩
    have e := r.length
    simp only [Array.length_toList] at e
    omega
theorem Inv.list_inj (I : Inv X pins σ H s) (h : SqL X.K H a xs) (h' : SqL X.K H a ys) : xs = ys := by
  obtain ⟨its, r, ⟨o, n, e, _, _, d⟩, _⟩ := I.list h
  obtain ⟨its', r', ⟨o', n', e', _, _, d'⟩, _⟩ := I.list h'
  rw [e] at e'; cases e'
  rw [d] at d'
  injection d' with d1 _
  have : its = its' := by simpa using congrArg Array.toList d1
  subst this
  exact r.inj r'
theorem Inv.tuple_inj (I : Inv X pins σ H s) (h : SqT X.K H a xs) (h' : SqT X.K H a ys) : xs = ys := by
  obtain ⟨its, r, ⟨o, e, _, n, d⟩, _⟩ := I.tuple h
  obtain ⟨its', r', ⟨o', e', _, n', d'⟩, _⟩ := I.tuple h'
  rw [e] at e'; cases e'
  rw [d] at d'
  injection d' with d1 _
  have : its = its' := by simpa using congrArg Array.toList d1
  subst this
  exact r.inj r'
end

/-! ### another wish about exceptions -/
abbrev Cx.wish (X : Cx) (E : Value → Shared → Prop) : Cx := { X with xe := E }
/-- no exception leaves -/
abbrev Cx.nox (X : Cx) : Cx := X.wish fun _ _ => False
theorem Cx.Ok.wish {X : Cx} (ok : X.Ok) (E : Value → Shared → Prop) : (X.wish E).Ok :=
  ⟨ok.mod, ok.kind, ok.glob, ok.blt, ok.above, ok.inj, ok.has, ok.cab, ok.hd, ok.frames, ok.stk, ok.exf, ok.bs, ok.bsz, ok.noex, ok.exfs, ok.funs, ok.frf⟩
theorem Cx.Ok.unwish {X : Cx} {E : Value → Shared → Prop} (ok : (X.wish E).Ok) : X.Ok :=
  ⟨ok.mod, ok.kind, ok.glob, ok.blt, ok.above, ok.inj, ok.has, ok.cab, ok.hd, ok.frames, ok.stk, ok.exf, ok.bs, ok.bsz, ok.noex, ok.exfs, ok.funs, ok.frf⟩
section
variable {X : Cx} {pins : List (Addr × Obj)} {σ : St} {H : Hp} {s : Shared} {E : Value → Shared → Prop}
theorem Inv.wish (I : Inv X pins σ H s) (E : Value → Shared → Prop) : Inv (X.wish E) pins σ H s := ⟨I.ok.wish E, I.os, I.bare, I.base, I.loc, I.cell, I.free, I.freeC, I.pin, I.hok, I.len⟩
theorem Inv.unwish (I : Inv (X.wish E) pins σ H s) : Inv X pins σ H s := ⟨I.ok.unwish, I.os, I.bare, I.base, I.loc, I.cell, I.free, I.freeC, I.pin, I.hok, I.len⟩
theorem SP.unwish {D : Ends} {f : Flow} {s' : Shared} (h : SP (X.wish E) pins D f s') : SP X pins D f s' := by
  cases f with
  | next => obtain ⟨σ', H', I, q⟩ := h; exact ⟨σ', H', I.unwish, q⟩
  | brk => obtain ⟨σ', H', I, q⟩ := h; exact ⟨σ', H', I.unwish, q⟩
  | cont => obtain ⟨σ', H', I, q⟩ := h; exact ⟨σ', H', I.unwish, q⟩
  | ret u => obtain ⟨v, σ', H', I, r, q⟩ := h; exact ⟨v, σ', H', I.unwish, r, q⟩
theorem PE.nox {e : Expr} {t : TE} (h : PE X.nox e t) : PE X e t := fun pins s σ H Q I hw =>
  wpAny_mono (h pins s σ H Q (I.wish _) hw) (fun _ _ ⟨v, H', I', r, q⟩ => ⟨v, H', I'.unwish, r, q⟩) fun _ _ z => False.elim z
theorem PT.nox {e : Expr} {t : TT} (h : PT X.nox e t) : PT X e t := fun pins s σ H Q I hw =>
  wpAny_mono (h pins s σ H Q (I.wish _) hw) (fun _ _ ⟨H', I', q⟩ => ⟨H', I'.unwish, q⟩) fun _ _ z => False.elim z
theorem PSs.nox {st : List Stmt} {t : TS} (h : PSs X.nox st t) : PSs X st t := fun pins s σ H D I hw =>
  wpAny_mono (h pins s σ H D (I.wish _) hw) (fun _ _ q => q.unwish) fun _ _ z => False.elim z
end

/-! ### blocks and small statements -/
section
variable {X : Cx} {st : Stmt} {rest : List Stmt} {t u : TS} {e : Expr} {te : TE} {pos : Pos}
def tNext : TS := fun D σ H => D.nx σ H
def tSeq (t u : TS) : TS := fun D σ H => t { D with nx := u D } σ H
theorem pss_nil : PSs X [] tNext := fun _ _ σ H _ I h => wpAny_execs_nil ⟨σ, H, I, h⟩
theorem pss_cons (h1 : PS X st t) (h2 : PSs X rest u) : PSs X (st :: rest) (tSeq t u) := by
  intro pins s σ H D I h
  refine wpAny_execs_cons (thn (h1 pins s σ H { D with nx := u D } I h) fun f s1 q => ?_)
  cases f with
  | next =>
    obtain ⟨σ', H', I', q⟩ := q
    exact h2 pins s1 σ' H' D I' q
  | ret v => exact q
  | brk => exact q
  | cont => exact q
theorem pss_one (h1 : PS X st t) : PSs X [st] t := by
  intro pins s σ H D I h
  refine wpAny_execs_cons (thn (h1 pins s σ H D I h) fun f s1 q => ?_)
  cases f with
  | next => exact wpAny_execs_nil q
  | ret v => exact q
  | brk => exact q
  | cont => exact q
def tBreak : TS := fun D σ H => D.bk σ H
def tCont : TS := fun D σ H => D.ct σ H
theorem ps_pass : PS X (.Pass pos) tNext := fun _ _ σ H _ I h => wpAny_Pass ⟨σ, H, I, h⟩
theorem ps_break : PS X (.Break pos) tBreak := fun _ _ σ H _ I h => wpAny_Break ⟨σ, H, I, h⟩
theorem ps_continue : PS X (.Continue pos) tCont := fun _ _ σ H _ I h => wpAny_Continue ⟨σ, H, I, h⟩
/-- in a def's body nothing is shown -/
theorem Inv.quiet {pins : List (Addr × Obj)} {σ : St} {H : Hp} {s : Shared} (I : Inv X pins σ H s) : interactive X.env = false := by simp [interactive, I.ok.kind]
/-- a docstring -/
theorem ps_doc {x j pos pos'} : PS X (.Expr (.Constant (.str x) j pos) pos') tNext := fun _ s σ H _ I h => wpAny_Expr (Calls.Constant_str (show SP X _ _ .next { s with toks := s.toks + 1 } from ⟨σ, H, I.tok _, h⟩)) I.quiet
/-- an expression whose value is dropped -/
def tDrop (te : TE) : TS := fun D σ H => te σ H fun _ H1 => D.nx σ H1
theorem ps_expr (he : PE X e te) (hs : swapsWith e none pos.line X.env = pure false := by rfl) : PS X (.Expr e pos) (tDrop te) := by
  intro pins s σ H D I h
  exact wpAny_Expr_any (thn (he pins s σ H _ I h) fun v s1 ⟨x, H1, I1, r1, q1⟩ => ⟨σ, H1, I1, q1⟩) I.quiet hs
def tRet (te : TE) : TS := fun D σ H => te σ H D.rt
theorem ps_ret (he : PE X e te) : PS X (.Return (some e) pos) (tRet te) := by
  intro pins s σ H D I h
  exact wpAny_Return_some (thn (he pins s σ H _ I h) fun v s1 ⟨x, H1, I1, r1, q1⟩ => ⟨x, σ, H1, I1, r1, q1⟩)
def tRetN : TS := fun D _ H => D.rt .non H
theorem ps_retN : PS X (.Return none pos) tRetN := fun _ _ σ H _ I h => wpAny_Return_none ⟨.non, σ, H, I, rfl, h⟩
def tIfS (c : TT) (t u : TS) : TS := fun D σ H => c σ H fun b H1 => if b = true then t D σ H1 else u D σ H1
theorem ps_if {c : Expr} {a b : List Stmt} {tc : TT} (hc : PT X c tc) (ha : PSs X a t) (hb : PSs X b u) : PS X (.If c a b pos) (tIfS tc t u) := by
  intro pins s σ H D I h
  refine wpAny_If (thn (hc pins s σ H _ I h) fun d s1 ⟨H1, I1, q1⟩ => ?_)
  cases d with
  | true => exact ha pins s1 σ H1 D I1 q1
  | false => exact hb pins s1 σ H1 D I1 q1
/-- code that the proof never comes to -/
def tNever : TS := fun _ _ _ => False
theorem ps_never : PS X st tNever := fun _ _ _ _ _ _ h => h.elim
theorem pss_never {sts : List Stmt} : PSs X sts tNever := fun _ _ _ _ _ _ h => h.elim
end

/-! ### targets -/
abbrev TG := V → St → Hp → (St → Hp → Prop) → Prop
abbrev TGs := List V → St → Hp → (St → Hp → Prop) → Prop
def PG (X : Cx) (target : Expr) (t : TG) : Prop :=
  ∀ (pins : List (Addr × Obj)) (s : Shared) (σ : St) (H : Hp) (v : V) (u : Value) (Q : St → Hp → Prop), Inv X pins σ H s → RelV v u → t v σ H Q →
    wpAny (model X.prog X.w) X.A (assign target X.env u) (fun _ s' => ∃ σ' H', Inv X pins σ' H' s' ∧ Q σ' H') X.xe s
/-- several targets, one after another -/
def PGs (X : Cx) (ts : List Expr) (t : TGs) : Prop :=
  ∀ (pins : List (Addr × Obj)) (s : Shared) (σ : St) (H : Hp) (vs : List V) (us : List Value) (Q : St → Hp → Prop), Inv X pins σ H s → Vals vs us → t vs σ H Q →
    wpAny (model X.prog X.w) X.A (assignInOrder ((assignEach ts X.env).map (·.2)) us) (fun _ s' => ∃ σ' H', Inv X pins σ' H' s' ∧ Q σ' H') X.xe s
/-- o[i] = v, by values -/
abbrev TSet := V → V → V → Hp → (Hp → Prop) → Prop
def PSet (X : Cx) (t : TSet) : Prop :=
  ∀ (pins : List (Addr × Obj)) (s : Shared) (σ : St) (H : Hp) (o i v : V) (ov iv u : Value) (Q : Hp → Prop), Inv X pins σ H s → RelV o ov → RelV i iv → RelV v u → t o i v H Q →
    wpAny (model X.prog X.w) X.A (setItem ov iv u) (fun _ s' => ∃ H', Inv X pins σ H' s' ∧ Q H') X.xe s
/-- a op= b, by values -/
abbrev TIp := V → V → Hp → VK → Prop
def PIp (X : Cx) (op : Operator) (t : TIp) : Prop :=
  ∀ (pins : List (Addr × Obj)) (s : Shared) (σ : St) (H : Hp) (x y : V) (v u : Value) (Q : VK), Inv X pins σ H s → RelV x v → RelV y u → t x y H Q →
    wpAny (model X.prog X.w) X.A (inplaceOp op v u) (EP X pins σ Q) X.xe s
section
variable {X : Cx} {pos : Pos}
def gName (i : Nat) : TG := fun v σ H Q => Q (σ.set i (some v)) H
theorem pg_name {i : Nat} {x : Str} (hN : X.N.Nodup) (hi : X.N[i]? = some x) (hx : Loc X.env.scope x) (hf : X.fn x = true ∨ X.env.scope.names.lookup x = some .local := by first | exact .inl rfl | exact .inr rfl | assumption) : PG X (.Name x pos) (gName i) := by
  intro pins s σ H v u Q I r h
  exact wpAny_assign_Name (store_ok I hN hi hx r (fun s' I' => ⟨_, H, I', h⟩) hf)
def gNil : TGs := fun vs σ H Q => vs = [] ∧ Q σ H
def gCons (t : TG) (u : TGs) : TGs := fun vs σ H Q => ∃ v r, vs = v :: r ∧ t v σ H fun σ' H' => u r σ' H' Q
theorem pgs_nil : PGs X [] gNil := by
  intro pins s σ H vs us Q I r h
  obtain ⟨e, h⟩ := h
  subst e
  cases r
  exact assignInOrder_nil ⟨σ, H, I, h⟩
theorem pgs_cons {e : Expr} {es : List Expr} {t : TG} {u : TGs} (h1 : PG X e t) (h2 : PGs X es u)
    (hs : (assignEach (e :: es) X.env).map (·.2) = assign e X.env :: (assignEach es X.env).map (·.2) := by rfl) : PGs X (e :: es) (gCons t u) := by
  intro pins s σ H vs us Q I r h
  obtain ⟨v, vr, e1, h⟩ := h
  subst e1
  cases r with
  | cons r rr =>
    rw [hs]
    refine assignInOrder_cons (thn (h1 pins s σ H _ _ _ I r h) fun _ s1 ⟨σ1, H1, I1, q1⟩ => ?_)
    exact h2 pins s1 σ1 H1 _ _ Q I1 rr q1
/-- (a, b, ..) = a tuple of that length -/
def gTup (K : PySem.W.Frag) (n : Nat) (t : TGs) : TG := fun v σ H Q => ∃ a xs, v = .ref a ∧ SqT K H a xs ∧ xs.length = n ∧ t xs σ H Q
theorem pg_tup {es : List Expr} {k : Nat} {t : TGs} {n : Nat} (hc : X.calm = true) (h : PGs X es t)
    (hn : (assignEach es X.env).length = n := by rfl) (hst : (assignEach es X.env).findIdx? (·.1) = none := by rfl) : PG X (.Tuple es k pos) (gTup X.K n t) := by
  intro pins s σ H v u Q I r hw
  obtain ⟨a, xs, e1, hq, hl, hw⟩ := hw
  subst e1
  cases r
  obtain ⟨its, rv, ht, hz⟩ := I.tuple hq
  refine assign_Tuple_tuple (I.ok.hd hc) ht (by simp [hn, ← hl, rv.length]) hst fun h' hx => ?_
  have I1 : Inv X pins σ H { s with heap := h' } := I.kept (t' := s.toks) fun b o e => hx b o (Nat.ne_of_lt (Heap.lt_size e)) e
  exact h pins _ σ H xs _ Q I1 (by simpa using rv) hw
/-- o[i] = .. -/
def gSub (to ti : TE) (t : TSet) : TG := fun v σ H Q => to σ H fun o H1 => ti σ H1 fun i H2 => t o i v H2 fun H3 => Q σ H3
theorem pg_sub {o i : Expr} {to ti : TE} {t : TSet} (ho : PE X o to) (hi : PE X i ti) (hs : PSet X t)
    (ha : ∀ v, assign (.Subscript o i pos) X.env v = (do
      let ov ← holding [v] (eval o X.env)
      let iv ← holding [v, ov] (eval i X.env)
      standAt pos
      holding [v, ov, iv] (setItem ov iv v)
      release [v, ov, iv] []) := by intro _; rfl) : PG X (.Subscript o i pos) (gSub to ti t) := by
  intro pins s σ H v u Q I r h
  rw [ha]
  refine wpAny_bind (wpAny_holding (thn (ho pins s σ H _ I h) fun ov s1 ⟨x, H1, I1, r1, q1⟩ => ?_))
  refine wpAny_bind (wpAny_holding (thn (hi pins s1 σ H1 _ I1 q1) fun iv s2 ⟨y, H2, I2, r2, q2⟩ => ?_))
  refine wpAny_bind (wpAny_standAt (wpAny_bind (wpAny_holding (thn (hs pins s2 σ H2 x y v ov iv u _ I2 r1 r2 r q2) fun _ s3 ⟨H3, I3, q3⟩ => ?_))))
  exact wpAny_release ⟨σ, H3, I3, q3⟩
/-- target = value -/
def tAsg (te : TE) (g : TG) : TS := fun D σ H => te σ H fun x H1 => g x σ H1 D.nx
theorem ps_asg {tg e : Expr} {te : TE} {g : TG} (he : PE X e te) (hg : PG X tg g) (hs : swapsWithSole [tg] e pos.line X.env = pure false := by rfl) (hw : swappedStores [tg] e X.env = pure none := by rfl)
    (h1 : (assignEach [tg] X.env).map (·.2) = [assign tg X.env] := by rfl) : PS X (.Assign [tg] e pos) (tAsg te g) := by
  intro pins s σ H D I h
  refine wpAny_Assign_stores (thn (he pins s σ H _ I h) fun v s1 ⟨x, H1, I1, r1, q1⟩ => ?_) hs hw
  rw [h1]
  exact thn (hg pins s1 σ H1 x v _ I1 r1 q1) fun _ s2 q => q
/-- name = value -/
theorem ps_set {i : Nat} {x : Str} {e : Expr} {te : TE} {pos' : Pos} (hN : X.N.Nodup) (hi : X.N[i]? = some x) (hx : Loc X.env.scope x) (he : PE X e te) (hs : swapsWith e (some (.Name x pos')) pos.line X.env = pure false := by rfl) (hf : X.fn x = true ∨ X.env.scope.names.lookup x = some .local := by first | exact .inl rfl | exact .inr rfl | assumption) :
    PS X (.Assign [.Name x pos'] e pos) (tAsg te (gName i)) := by
  intro pins s σ H D I h
  refine wpAny_Assign_Name (thn (he pins s σ H _ I h) fun v s1 ⟨y, H1, I1, r1, q1⟩ => ?_) hs
  exact store_ok I1 hN hi hx r1 (fun s2 I2 => ⟨_, H1, I2, q1⟩) hf
/-- a, b = x, y with plain local names: stored from the right; the pair itself is not tracked (the opening rows as in PyProof/Rows/TupAssign.lean:23) -/
def tPar (i j : Nat) (ta : TA) : TS := fun D σ H => ta σ H fun vs H1 => ∃ v w, vs = [v, w] ∧ D.nx ((σ.set i (some v)).set j (some w)) H1
theorem ps_par {i j : Nat} {x y : Str} {a b : Expr} {ta : TA} {px py pt : Pos} {kt k2 pt2} (hc : X.calm = true) (hN : X.N.Nodup) (hi : X.N[i]? = some x) (hj : X.N[j]? = some y) (hij : i ≠ j)
    (hx : X.env.scope.names.lookup x = some .local) (hy : X.env.scope.names.lookup y = some .local) (ha : PA X [a, b] ta)
    (hw : swappedStores [.Tuple [.Name x px, .Name y py] kt pt] (.Tuple [a, b] k2 pt2) X.env = pure (some [x, y]))
    (hs : swapsWithSole [.Tuple [.Name x px, .Name y py] kt pt] (.Tuple [a, b] k2 pt2) pos.line X.env = pure false := by rfl) :
    PS X (.Assign [.Tuple [.Name x px, .Name y py] kt pt] (.Tuple [a, b] k2 pt2) pos) (tPar i j ta) := by
  intro pins s σ H D I h
  rw [exec_Assign_arm]
  refine wpAny_bind (wpAny_standAt ?_)
  rw [hs]
  refine wpAny_bind (wpAny_pure ?_)
  rw [if_neg (by decide)]
  refine wpAny_bind (Tuple_ (thn (ha _ pins s σ H _ I h) fun us s1 ⟨vs, H1, I1, r1, q1⟩ => ?_))
  obtain ⟨v, w, e1, q1⟩ := q1
  subst e1
  obtain ⟨u1, u2, rfl, rv, rw'⟩ : ∃ u1 u2, us = [u1, u2] ∧ RelV v u1 ∧ RelV w u2 := by
    cases r1 with
    | cons p q =>
      cases q with
      | cons p' q' =>
        cases q'
        exact ⟨_, _, rfl, p, p'⟩
  refine wpAny_newObj_type ?_ (by show 2 ≤ sizeLine; decide)
  have I2 : Inv X pins σ H1 { s1 with heap := s1.heap.push { cls := .type "tuple", data := .seq [u1, u2].toArray } } := I1.kept (t' := s1.toks) fun b o e => Heap.get?_push_of_some _ e
  rw [hw]
  refine wpAny_bind (wpAny_pure ?_)
  show wpAny (model X.prog X.w) X.A (do rule "assign.swapped-stores"; let items ← unpackItems (.ref s1.heap.objs.size) 2 none; assignInOrder [fun v => bindName X.env y v, fun v => bindName X.env x v] items.reverse; pure Flow.next) _ _ _
  refine wpAny_bind (wpAny_rule (wpAny_bind (unpackItems_tuple (items := #[u1, u2]) (I.ok.hd hc) (IsTup.new s1.heap _) fun h' hx' => ?_)))
  have I3 := I2.kept (h' := h') (t' := s1.toks) fun b o e => hx' b o (Nat.ne_of_lt (Heap.lt_size e)) e
  show wpAny _ _ (assignInOrder [fun v => bindName X.env y v, fun v => bindName X.env x v] [u2, u1] >>= fun _ => pure Flow.next) _ _ _
  refine wpAny_bind (assignInOrder_cons (wpAny_bindName (store_ok I3 hN hj (.inl hy) rw' (fun s2 I4 => ?_) (.inr hy))))
  refine assignInOrder_cons (wpAny_bindName (store_ok I4 hN hi (.inl hx) rv (fun s3 I5 => assignInOrder_nil (wpAny_pure ?_)) (.inr hx)))
  rw [List.set_comm _ _ (Ne.symm hij)] at I5
  exact ⟨_, H1, I5, q1⟩
/-- name op= e -/
def tAug (i : Nat) (te : TE) (ti : TIp) : TS := fun D σ H => ∃ x, σ[i]? = some (some x) ∧ te σ H fun y H1 => ti x y H1 fun z H2 => D.nx (σ.set i (some z)) H2
theorem ps_aug {i : Nat} {x : Str} {e : Expr} {te : TE} {op : Operator} {ti : TIp} {pos' : Pos} (hN : X.N.Nodup) (hi : X.N[i]? = some x) (hx : Loc X.env.scope x) (he : PE X e te) (ho : PIp X op ti) (hf : X.fn x = true ∨ X.env.scope.names.lookup x = some .local := by first | exact .inl rfl | exact .inr rfl | assumption) :
    PS X (.AugAssign (.Name x pos') op e pos) (tAug i te ti) := by
  intro pins s σ H D I h
  obtain ⟨v, e1, h⟩ := h
  obtain ⟨m, hn, hl⟩ := I.loc
  have vis : Vis X.env.scope x := by rcases hx with k | k; exact .inl k; exact .inr (.inl k)
  obtain ⟨u, r, l⟩ := hl i x v hi e1 vis
  refine wpAny_AugAssign_Name ?_
  have go : wpAny (model X.prog X.w) X.A (eval e X.env) (fun w s₂ => wpAny (model X.prog X.w) X.A (inplaceOp op u w) (fun r s₃ => wpAny (model X.prog X.w) X.A (storeName X.env x r) (fun _ => SP X pins D .next) X.xe s₃) X.xe s₂) X.xe s := by
    refine thn (he pins s σ H _ I h) fun w s1 ⟨y, H1, I1, r1, q1⟩ => ?_
    refine thn (ho pins s1 σ H1 v y u w _ I1 r r1 q1) fun z s2 ⟨zv, H2, I2, r2, q2⟩ => ?_
    exact store_ok I2 hN hi hx r2 (fun s3 I3 => ⟨_, H2, I3, q2⟩) hf
  rcases l with ⟨hk, hm⟩ | ⟨hk, c, hc, hcell⟩
  · exact wpAny_loadName_local I.ok.kind hk hn hm go
  · rcases hk with hk | hk
    · exact wpAny_loadName_cell I.ok.kind hk hc hcell go
    · rcases hx with k | k
      · have : X.env.scope.names.lookup x = some .free := hk
        rw [k] at this; cases this
      · have : X.env.scope.names.lookup x = some .free := hk
        rw [k] at this; cases this
/-- o[i] op= e -/
def tAugS (to ti te : TE) (tget : V → V → Hp → VK → Prop) (tip : TIp) (tset : TSet) : TS := fun D σ H => to σ H fun o H1 => ti σ H1 fun i H2 => tget o i H2 fun x H3 => te σ H3 fun y H4 => tip x y H4 fun z H5 => tset o i z H5 fun H6 => D.nx σ H6
/-- o[i], by values -/
def PGet (X : Cx) (t : V → V → Hp → VK → Prop) : Prop :=
  ∀ (pins : List (Addr × Obj)) (s : Shared) (σ : St) (H : Hp) (o i : V) (ov iv : Value) (Q : VK), Inv X pins σ H s → RelV o ov → RelV i iv → t o i H Q →
    wpAny (model X.prog X.w) X.A (getItem ov iv) (EP X pins σ Q) X.xe s
theorem ps_augS {o i e : Expr} {to ti te : TE} {tget : V → V → Hp → VK → Prop} {tip : TIp} {tset : TSet} {op : Operator} {tpos : Pos} (ho : PE X o to) (hi : PE X i ti) (hg : PGet X tget) (he : PE X e te) (hp : PIp X op tip) (hs : PSet X tset)
    (ha : ∀ ov iv new, augStore i ov iv new = (do holding [new, ov, iv] (setItem ov iv new); release [new, ov, iv] []; pure .next) := by intros; rfl) : PS X (.AugAssign (.Subscript o i tpos) op e pos) (tAugS to ti te tget tip tset) := by
  intro pins s σ H D I h
  refine wpAny_AugAssign_SubscriptAny (thn (ho pins s σ H _ I h) fun ov s1 ⟨x1, H1, I1, r1, q1⟩ => ?_) ha
  refine thn (hi pins s1 σ H1 _ I1 q1) fun iv s2 ⟨x2, H2, I2, r2, q2⟩ => ?_
  refine thn (hg pins s2 σ H2 x1 x2 ov iv _ I2 r1 r2 q2) fun old s3 ⟨x3, H3, I3, r3, q3⟩ => ?_
  refine thn (he pins s3 σ H3 _ I3 q3) fun v s4 ⟨x4, H4, I4, r4, q4⟩ => ?_
  refine thn (hp pins s4 σ H4 x3 x4 old v _ I4 r3 r4 q4) fun new s5 ⟨x5, H5, I5, r5, q5⟩ => ?_
  exact thn (hs pins s5 σ H5 x1 x2 x5 ov iv new _ I5 r1 r2 r5 q5) fun _ s6 ⟨H6, I6, q6⟩ => ⟨σ, H6, I6, q6⟩
/-- ints -/
def ipI (f : Int → Int → Int) : TIp := fun x y H Q => ∃ i j, x = .int i ∧ y = .int j ∧ Q (.int (f i j)) H
theorem ip_add : PIp X .Add (ipI fun i j => i + j) := by
  intro pins s σ H x y v u Q I r1 r2 h
  obtain ⟨i, j, e1, e2, q⟩ := h
  subst e1; subst e2
  obtain ⟨t, rfl⟩ := r1
  obtain ⟨t', rfl⟩ := r2
  exact iadd_int ⟨.int _, H, I.tok _, ⟨_, rfl⟩, q⟩
theorem ip_sub : PIp X .Sub (ipI fun i j => i - j) := by
  intro pins s σ H x y v u Q I r1 r2 h
  obtain ⟨i, j, e1, e2, q⟩ := h
  subst e1; subst e2
  obtain ⟨t, rfl⟩ := r1
  obtain ⟨t', rfl⟩ := r2
  exact isub_int ⟨.int _, H, I.tok _, ⟨_, rfl⟩, q⟩
end

/-! ### while -/
section
variable {X : Cx} {pos : Pos}
/-- the invariant W with its measure -/
def tWhile (c : TT) (tb : TS) : TS := fun D σ H => ∃ W : Nat → St → Hp → Prop, (∃ m, W m σ H) ∧ ∀ m σ H, W m σ H →
  c σ H fun b H1 => if b = true then ∃ N : St → Hp → Prop, (∀ σ' H', N σ' H' → ∃ m', m' < m ∧ W m' σ' H') ∧ tb { D with nx := N, ct := N, bk := D.nx } σ H1 else D.nx σ H1
theorem ps_while {c : Expr} {body : List Stmt} {tc : TT} {tb : TS} (hp : PassesOwn (model X.prog X.w) X.A X.env X.xe) (hc : PT X c tc) (hb : PSs X body tb) : PS X (.While c body [] pos) (tWhile tc tb) := by
  intro pins s σ H D I h
  obtain ⟨W, ⟨m0, w0⟩, turn⟩ := h
  refine wpAny_While (codeAny_whileLoop (fun n s' => ∃ σ' H', Inv X pins σ' H' s' ∧ W n σ' H') ?_ m0 ⟨σ, H, I, w0⟩)
  rintro n s1 ⟨σ1, H1, I1, w1⟩
  refine wpAny_passesOwn hp (thn (hc pins s1 σ1 H1 _ I1 (turn n σ1 H1 w1)) fun b s2 ⟨H2, I2, q2⟩ => ?_)
  cases b with
  | true =>
    obtain ⟨N, hN, q2⟩ := q2
    rw [if_pos rfl]
    refine wpAny_passesOwn hp (thn (hb pins s2 σ1 H2 _ I2 q2) fun f s3 q3 => ?_)
    cases f with
    | next =>
      obtain ⟨σ3, H3, I3, n3⟩ := q3
      obtain ⟨m', hm, w3⟩ := hN σ3 H3 n3
      exact ⟨m', hm, σ3, H3, I3, w3⟩
    | cont =>
      obtain ⟨σ3, H3, I3, n3⟩ := q3
      obtain ⟨m', hm, w3⟩ := hN σ3 H3 n3
      exact ⟨m', hm, σ3, H3, I3, w3⟩
    | brk => exact q3
    | ret v => exact q3
  | false =>
    rw [if_neg Bool.false_ne_true]
    exact wpAny_execs_nil ⟨σ1, H2, I2, q2⟩
end

/-! ### what a loop or a comprehension walks -/
/-- at turn i: it yields x (the heap may grow), or it stops -/
structure It where
  go : Nat → Hp → Prop
  yld : Nat → Hp → V → Hp → Prop
  stop : Nat → Hp → Prop
/-- the iterator's own objects may turn: they are not the frame's, not pinned, younger than the entry (or a comprehension's own) -/
def FpOk (X : Cx) (pins : List (Addr × Obj)) (H : Hp) (b : Addr) : Prop :=
  H b = none ∧ b ≠ X.env.locals ∧ b ∉ X.fs ∧ (b ∈ X.ex ∨ X.s₀.heap.objs.size ≤ b) ∧ (∀ x c, X.env.cells.lookup x = some c → c ≠ b) ∧ ∀ p ∈ X.pn ++ pins, p.1 ≠ b
theorem Inv.fpOk {X : Cx} {pins : List (Addr × Obj)} {σ : St} {H H' : Hp} {s : Shared} {b : Addr} (I : Inv X pins σ H s) (hb : s.heap.objs.size ≤ b) (hn : H' b = none) : FpOk X pins H' b := by
  refine ⟨hn, Nat.ne_of_gt (Nat.lt_of_lt_of_le I.lt hb), I.nofs hb, .inr (Nat.le_trans I.sz hb), fun x c e z => ?_, fun p hp z => ?_⟩
  · obtain ⟨v, q⟩ := I.cell x c e
    exact absurd (Nat.lt_of_lt_of_le q.lt (by rw [z]; exact hb)) (Nat.lt_irrefl _)
  · exact absurd (Nat.lt_of_lt_of_le (Heap.lt_size (I.pin p hp).1) (by rw [z]; exact hb)) (Nat.lt_irrefl _)
structure Turn (P : Program) (w : World) (K : PySem.W.Frag) (tg : Expr) (J : It) (fp : List Addr) (it : Addr) (tn : Nat → Heap → Prop) : Prop where
  mem : it ∈ fp
  obj : ∀ i h, tn i h → ∀ b ∈ fp, ∃ o, h.get? b = some o ∧ ∀ v, o.data ≠ .cell v
  keep : ∀ i h h', tn i h → (∀ b ∈ fp, ∀ o, h.get? b = some o → h'.get? b = some o) → tn i h'
  item : ∀ (X : Cx), X.prog = P → X.w = w → X.K = K → X.calm = true → ∀ (i : Nat) (pins : List (Addr × Obj)) (s : Shared) (σ : St) (H : Hp) (E : Value → Shared → Prop), Inv X pins σ H s → (∀ b ∈ fp, FpOk X pins H b) → tn i s.heap → J.go i H →
    wpAny (model P w) X.A (pyNext (.ref it)) (fun r s1 => ∃ u, r = some u ∧
      wpAny (model P w) X.A (letOwnedTupleGo tg (.ref it) u) (fun _ s2 => ∃ x H', Inv X pins σ H' s2 ∧ RelV x u ∧ J.yld i H x H' ∧ tn (i + 1) s2.heap ∧ ∀ b ∈ fp, H' b = none) E s1) E s
  done : ∀ (X : Cx), X.prog = P → X.w = w → X.K = K → X.calm = true → ∀ (i : Nat) (pins : List (Addr × Obj)) (s : Shared) (σ : St) (H : Hp) (E : Value → Shared → Prop), Inv X pins σ H s → (∀ b ∈ fp, FpOk X pins H b) → tn i s.heap → J.stop i H →
    wpAny (model P w) X.A (pyNext (.ref it)) (fun r s1 => r = none ∧ Inv X pins σ H s1) E s
  self : ∀ (A : Around) (i : Nat) (s : Shared) (Q : Value → Shared → Prop) (E : Value → Shared → Prop), tn i s.heap → Q (.ref it) s → wpAny (model P w) A (pyIter (.ref it)) Q E s
abbrev TI := St → Hp → (It → Hp → Prop) → Prop
/-- an iterator has come -/
def PIE (X : Cx) (pins : List (Addr × Obj)) (σ : St) (tg : Expr) (R : It → Hp → Prop) (itv : Value) (s2 : Shared) : Prop :=
  ∃ (it : Addr) (fp : List Addr) (tn : Nat → Heap → Prop) (J : It) (H' : Hp), itv = .ref it ∧ Inv X pins σ H' s2 ∧ Turn X.prog X.w X.K tg J fp it tn ∧ tn 0 s2.heap ∧ (∀ b ∈ fp, FpOk X pins H' b) ∧ R J H'
def PI (X : Cx) (tg iter : Expr) (wi : TI) : Prop :=
  ∀ (pins : List (Addr × Obj)) (s : Shared) (σ : St) (H : Hp) (R : It → Hp → Prop), Inv X pins σ H s → wi σ H R →
    wpAny (model X.prog X.w) X.A (eval iter X.env) (fun v s1 => wpAny (model X.prog X.w) X.A (pyIter v) (PIE X pins σ tg R) X.xe s1) X.xe s

/-- the step ahead of the store is nothing for an iterator that keeps no tuple -/
theorem go_of {M : Model} {A : Around} {E : Value → Shared → Prop} {s : Shared} {tg : Expr} {it : Addr} {u : Value} {o : Obj} {n : String} {vs : Array Value} {Q : Unit → Shared → Prop} (ho : s.heap.get? it = some o) (hc : o.cls = .type n) (hd : o.data = .fields vs)
    (hn : ["enumerate", "zip", "dict_itemiterator", "dict_reverseitemiterator", "odict_iterator", "itertools.zip_longest", "itertools.pairwise"].contains n = false) (hQ : Q () s) : wpAny M A (letOwnedTupleGo tg (.ref it) u) Q E s := by
  unfold letOwnedTupleGo
  cases tg <;> first
    | exact wpAny_pure hQ
    | (cases u <;> first
        | exact wpAny_pure hQ
        | (refine wpAny_bind (wpAny_load ho ?_)
           rw [hc, hd]
           show wpAny M A (if (["enumerate", "zip", "dict_itemiterator", "dict_reverseitemiterator", "odict_iterator", "itertools.zip_longest", "itertools.pairwise"].contains n && vs[0]? == some (rawInt _)) = true then _ else _) Q E s
           rw [if_neg (by intro h; rw [hn, Bool.false_and] at h; cases h)]
           exact wpAny_pure hQ))

/-- the list at a, as it stands at each turn (a loop may append to it) -/
def Itl (K : PySem.W.Frag) (a : Addr) : It :=
  ⟨fun i H => ∃ xs x, SqL K H a xs ∧ xs[i]? = some x, fun i H x H' => H' = H ∧ ∀ xs, SqL K H a xs → xs[i]? = some x, fun i H => ∃ xs, SqL K H a xs ∧ xs.length ≤ i⟩
def Itt (K : PySem.W.Frag) (a : Addr) : It :=
  ⟨fun i H => ∃ xs x, SqT K H a xs ∧ xs[i]? = some x, fun i H x H' => H' = H ∧ ∀ xs, SqT K H a xs → xs[i]? = some x, fun i H => ∃ xs, SqT K H a xs ∧ xs.length ≤ i⟩
/-- lo, lo + 1, .. (n of them) -/
def Itr (lo : Int) (n : Nat) : It := ⟨fun i _ => i < n, fun i H x H' => H' = H ∧ x = .int (lo + i), fun i _ => n ≤ i⟩
theorem turn_list {P : Program} {w : World} {K : PySem.W.Frag} {tg : Expr} (a it : Addr) : Turn P w K tg (Itl K a) [it] it (fun i h => h.IsListIter it a i) where
  mem := by simp
  obj := fun i h st b hb => by
    have e : b = it := by simpa using hb
    subst e
    obtain ⟨o, e, c, d⟩ := st
    exact ⟨o, e, fun v z => by rw [d] at z; cases z⟩
  keep := fun i h h' st k => st.at fun o e => k it (by simp) o e
  item := by
    intro X hP hw hK hc i pins s σ H E I hf st hg
    subst hP hw hK
    obtain ⟨xs, x, hq, hx⟩ := hg
    obtain ⟨its, rv, p, hz⟩ := I.list hq
    obtain ⟨u, hu, ru⟩ := rv.get hx
    obtain ⟨f0, f1, f2, f3, f4, f5⟩ := hf it (by simp)
    refine wpAny_pyNext_list_item st p.isList (x := u) (by simpa using hu) fun h' st' sb => ?_
    have I1 : Inv X pins σ H { s with heap := h' } := I.turned (t' := s.toks) (fun b o hb e => (sb.2 b hb).trans e) f0 f1 f3 f4 f5
    obtain ⟨o, e, c, d⟩ := id st'
    exact ⟨u, rfl, go_of (s := { s with heap := h' }) e c d (by decide) ⟨x, H, I1, ru, ⟨rfl, fun ys hy => by rw [I.list_inj hy hq]; exact hx⟩, st', fun b hb => (hf b hb).1⟩⟩
  done := by
    intro X hP hw hK hc i pins s σ H E I hf st hg
    subst hP hw hK
    obtain ⟨xs, hq, hx⟩ := hg
    obtain ⟨its, rv, p, hz⟩ := I.list hq
    obtain ⟨f0, f1, f2, f3, f4, f5⟩ := hf it (by simp)
    have hl := rv.length
    exact wpAny_pyNext_list_end (I.ok.hd hc) st p.isList (by simp; omega) fun h' eb => ⟨rfl, I.turned (t' := s.toks) (fun b o hb e => eb b o hb e) f0 f1 f3 f4 f5⟩
  self := fun _ _ _ _ _ st h => wpAny_pyIter_listiter st h
theorem turn_tuple {P : Program} {w : World} {K : PySem.W.Frag} {tg : Expr} (a it : Addr) : Turn P w K tg (Itt K a) [it] it (fun i h => h.IsTupleIter it a i) where
  mem := by simp
  obj := fun i h st b hb => by
    have e : b = it := by simpa using hb
    subst e
    obtain ⟨o, e, c, d⟩ := st
    exact ⟨o, e, fun v z => by rw [d] at z; cases z⟩
  keep := fun i h h' st k => st.at fun o e => k it (by simp) o e
  item := by
    intro X hP hw hK hc i pins s σ H E I hf st hg
    subst hP hw hK
    obtain ⟨xs, x, hq, hx⟩ := hg
    obtain ⟨its, rv, p, hz⟩ := I.tuple hq
    obtain ⟨u, hu, ru⟩ := rv.get hx
    obtain ⟨f0, f1, f2, f3, f4, f5⟩ := hf it (by simp)
    refine wpAny_pyNext_tuple_item st (show s.heap.IsTuple a its.toArray from p) (x := u) (by simpa using hu) fun h' st' sb => ?_
    have I1 : Inv X pins σ H { s with heap := h' } := I.turned (t' := s.toks) (fun b o hb e => (sb.2 b hb).trans e) f0 f1 f3 f4 f5
    obtain ⟨o, e, c, d⟩ := id st'
    exact ⟨u, rfl, go_of (s := { s with heap := h' }) e c d (by decide) ⟨x, H, I1, ru, ⟨rfl, fun ys hy => by rw [I.tuple_inj hy hq]; exact hx⟩, st', fun b hb => (hf b hb).1⟩⟩
  done := by
    intro X hP hw hK hc i pins s σ H E I hf st hg
    subst hP hw hK
    obtain ⟨xs, hq, hx⟩ := hg
    obtain ⟨its, rv, p, hz⟩ := I.tuple hq
    obtain ⟨f0, f1, f2, f3, f4, f5⟩ := hf it (by simp)
    have hl := rv.length
    exact wpAny_pyNext_tuple_end (I.ok.hd hc) st (show s.heap.IsTuple a its.toArray from p) (by simp; omega) fun h' eb => ⟨rfl, I.turned (t' := s.toks) (fun b o hb e => eb b o hb e) f0 f1 f3 f4 f5⟩
  self := fun _ _ _ _ _ st h => wpAny_pyIter_tupleiter st h
theorem turn_range {P : Program} {w : World} {K : PySem.W.Frag} {tg : Expr} (it : Addr) (lo : Int) (n : Nat) : Turn P w K tg (Itr lo n) [it] it (fun i h => IsRangeIter h it (lo + (i : Nat) * 1) ((n : Int) - (i : Nat)) 1) where
  mem := by simp
  obj := fun i h st b hb => by
    have e : b = it := by simpa using hb
    subst e
    exact ⟨_, st, fun v z => by
      have z' : Data.fields _ = Data.cell v := z
      cases z'⟩
  keep := fun i h h' st k => k it (by simp) _ st
  item := by
    intro X hP hw hK hc i pins s σ H E I hf st hg
    subst hP hw hK
    obtain ⟨f0, f1, f2, f3, f4, f5⟩ := hf it (by simp)
    have W := Walks.range (prog := X.prog) (w := X.w) (I.ok.hd hc) it lo 1 n
    refine W.item i s _ _ hg st fun v h' tk hv st' kk => ?_
    obtain ⟨t, rfl⟩ := hv
    have I1 : Inv X pins σ H { s with heap := h', toks := tk } := I.turned (fun b o hb e => kk b o (by simpa using hb) e) f0 f1 f3 f4 f5
    refine ⟨_, rfl, go_of (s := { s with heap := h', toks := tk }) (n := "range_iterator") st' rfl rfl (by decide) ⟨.int (lo + i), H, I1, ⟨t, ?_⟩, ⟨rfl, rfl⟩, st', fun b hb => (hf b hb).1⟩⟩
    rw [Int.mul_one]
  done := by
    intro X hP hw hK hc i pins s σ H E I hf st hg
    subst hP hw hK
    obtain ⟨f0, f1, f2, f3, f4, f5⟩ := hf it (by simp)
    exact wpAny_pyNext_range_end (I.ok.hd hc) st (by have : n ≤ i := hg; omega) fun h' eb => ⟨rfl, I.turned (t' := s.toks) (fun b o hb e => eb b o hb e) f0 f1 f3 f4 f5⟩
  self := fun _ _ _ _ _ st h => wpAny_pyIter_rangeiter st h
end L2

namespace L2
open PySem PySem.Spec PyProof.Rows
section
variable {X : Cx} {tg : Expr}
def iList (K : PySem.W.Frag) (tl : TE) : TI := fun σ H R => tl σ H fun x H1 => ∃ a, x = .ref a ∧ (∃ xs, SqL K H1 a xs) ∧ R (Itl K a) H1
def iTup (K : PySem.W.Frag) (tl : TE) : TI := fun σ H R => tl σ H fun x H1 => ∃ a, x = .ref a ∧ (∃ xs, SqT K H1 a xs) ∧ R (Itt K a) H1
theorem pi_list {l : Expr} {tl : TE} (hl : PE X l tl) : PI X tg l (iList X.K tl) := by
  intro pins s σ H R I h
  refine thn (hl pins s σ H _ I h) fun v s1 ⟨x, H1, I1, r1, q1⟩ => ?_
  obtain ⟨a, e, ⟨xs, hq⟩, q⟩ := q1
  subst e
  cases r1
  obtain ⟨its, rv, p, hz⟩ := I1.list hq
  refine wpAny_pyIter_list p.isList ?_
  refine ⟨s1.heap.objs.size, [s1.heap.objs.size], _, _, H1, rfl, I1.kept (t' := s1.toks) fun b o e => Heap.get?_push_of_some _ e, turn_list a _, ⟨_, Heap.get?_push_size _ rfl, rfl, rfl⟩, fun b hb => ?_, q⟩
  have e : b = s1.heap.objs.size := by simpa using hb
  subst e
  exact I1.fpOk (Nat.le_refl _) (I1.hok.fresh (Nat.le_refl _))
theorem pi_tup {l : Expr} {tl : TE} (hl : PE X l tl) : PI X tg l (iTup X.K tl) := by
  intro pins s σ H R I h
  refine thn (hl pins s σ H _ I h) fun v s1 ⟨x, H1, I1, r1, q1⟩ => ?_
  obtain ⟨a, e, ⟨xs, hq⟩, q⟩ := q1
  subst e
  cases r1
  obtain ⟨its, rv, p, hz⟩ := I1.tuple hq
  refine wpAny_pyIter_tuple (show s1.heap.IsTuple a its.toArray from p) ?_
  refine ⟨s1.heap.objs.size, [s1.heap.objs.size], _, _, H1, rfl, I1.kept (t' := s1.toks) fun b o e => Heap.get?_push_of_some _ e, turn_tuple a _, ⟨_, Heap.get?_push_size _ rfl, rfl, rfl⟩, fun b hb => ?_, q⟩
  have e : b = s1.heap.objs.size := by simpa using hb
  subst e
  exact I1.fpOk (Nat.le_refl _) (I1.hok.fresh (Nat.le_refl _))
/-- a range object just made, walked -/
theorem range_it {pins : List (Addr × Obj)} {σ : St} {H : Hp} {s : Shared} {R : It → Hp → Prop} {E : Value → Shared → Prop} {lo hi : Int} {t u v : Tok} {tk : Nat} (I : Inv X pins σ H s) (h1 : -(2 ^ 62) ≤ lo) (h2 : lo < 2 ^ 62) (h3 : -(2 ^ 62) ≤ hi) (h4 : hi < 2 ^ 62)
    (q : R (Itr lo (hi - lo).toNat) H) : wpAny (model X.prog X.w) X.A (pyIter (.ref s.heap.objs.size)) (PIE X pins σ tg R) E { s with heap := s.heap.push { cls := .type "range", data := .fields #[.int lo t, .int hi u, .int 1 v] }, toks := tk } := by
  refine wpAny_pyIter_range (IsRange.new ..) (small_one h1 h2 h3 h4) ?_
  have I1 : Inv X pins σ H { s with heap := s.heap.push { cls := .type "range", data := .fields #[.int lo t, .int hi u, .int 1 v] }, toks := tk } := I.kept fun b o e => Heap.get?_push_of_some _ e
  refine ⟨(s.heap.push { cls := .type "range", data := .fields #[.int lo t, .int hi u, .int 1 v] }).objs.size, [(s.heap.push { cls := .type "range", data := .fields #[.int lo t, .int hi u, .int 1 v] }).objs.size], _, _, H, rfl,
    I1.kept (t' := tk) fun b o e => Heap.get?_push_of_some _ e, turn_range _ lo (hi - lo).toNat, ?_, fun b hb => ?_, q⟩
  · have e1 : lo + ((0 : Nat) : Int) * 1 = lo := by simp
    have e2 : (((hi - lo).toNat : Nat) : Int) - ((0 : Nat) : Int) = Builtin.Range.rangeSize lo hi 1 := by rw [rangeSize_one]; split <;> omega
    show IsRangeIter _ _ (lo + ((0 : Nat) : Int) * 1) ((((hi - lo).toNat : Nat) : Int) - ((0 : Nat) : Int)) 1
    rw [e1, e2]
    exact Heap.get?_push_size _ rfl
  · have e : b = (s.heap.push { cls := .type "range", data := .fields #[.int lo t, .int hi u, .int 1 v] }).objs.size := by simpa using hb
    subst e
    exact I1.fpOk (Nat.le_refl _) (I1.hok.fresh (Nat.le_refl _))
def iRng1 (ta : TA) : TI := fun σ H R => ta σ H fun vs H1 => ∃ j : Int, vs = [.int j] ∧ -(2 ^ 62) ≤ j ∧ j < 2 ^ 62 ∧ R (Itr 0 j.toNat) H1
def iRng2 (ta : TA) : TI := fun σ H R => ta σ H fun vs H1 => ∃ i j : Int, vs = [.int i, .int j] ∧ (-(2 ^ 62) ≤ i ∧ i < 2 ^ 62 ∧ -(2 ^ 62) ≤ j ∧ j < 2 ^ 62) ∧ R (Itr i (j - i).toNat) H1
theorem pi_range1 {a : Expr} {ta : TA} {p pos : Pos} (hg : Gl X "range") (hm : X.mg "range" = none) (ha : PA X [a] ta) (hs : starEach [a] X.env = [(false, eval a X.env)] := by rfl) : PI X tg (.Call (.Name "range" p) [a] [] pos) (iRng1 ta) := by
  intro pins s σ H R I h
  refine Call_ (ld_blt I hg hm boot_range (PyProof.Rows.callWith_type1 (thn (ha pos pins s σ H _ I h) fun us s1 ⟨vs, H1, I1, r1, q1⟩ => ?_) hs rfl))
  obtain ⟨j, e, q1, q2, q⟩ := q1
  subst e
  cases r1 with
  | cons r rr =>
    cases rr
    obtain ⟨t, rfl⟩ := r
    exact call_range_1 (range_it I1 (by omega) (by omega) q1 q2 (by simpa using q))
theorem pi_range2 {a b : Expr} {ta : TA} {p pos : Pos} (hg : Gl X "range") (hm : X.mg "range" = none) (ha : PA X [a, b] ta) (hs : starEach [a, b] X.env = [(false, eval a X.env), (false, eval b X.env)] := by rfl) (hs2 : starEach [b] X.env = [(false, eval b X.env)] := by rfl) :
    PI X tg (.Call (.Name "range" p) [a, b] [] pos) (iRng2 ta) := by
  intro pins s σ H R I h
  refine Call_ (ld_blt I hg hm boot_range (PyProof.Rows.callWith_type1 (thn (ha pos pins s σ H _ I h) fun us s1 ⟨vs, H1, I1, r1, q1⟩ => ?_) (by rw [hs, hs2]) (by rw [hs2]; rfl)))
  obtain ⟨i, j, e, ⟨q1, q2, q3, q4⟩, q⟩ := q1
  subst e
  cases r1 with
  | cons r rr =>
    cases rr with
    | cons r' rr =>
      cases rr
      obtain ⟨t, rfl⟩ := r
      obtain ⟨t', rfl⟩ := r'
      exact call_range_2 (range_it I1 q1 q2 q3 q4 q)

/-! ### for -/
/-- W: the invariant by the turn and a measure; N: what the body is to reach -/
def tFor (wi : TI) (g : TG) (tb : TS) : TS := fun D σ H => wi σ H fun J H1 => ∃ W : Nat → Nat → St → Hp → Prop, (∃ m, W 0 m σ H1) ∧ ∀ i m σ H, W i m σ H →
  (J.stop i H ∧ D.nx σ H) ∨ (J.go i H ∧ ∃ N : St → Hp → Prop, (∀ σ' H', N σ' H' → ∃ m', m' < m ∧ W (i + 1) m' σ' H') ∧ ∀ x H', J.yld i H x H' → g x σ H' fun σ2 H2 => tb { D with nx := N, ct := N, bk := D.nx } σ2 H2)
/-- the records at fp as they stand -/
def pinsAt (fp : List Addr) (h : Heap) : List (Addr × Obj) := fp.filterMap fun b => (h.get? b).map fun o => (b, o)
theorem mem_pinsAt {fp : List Addr} {h : Heap} {b : Addr} {o : Obj} (hb : b ∈ fp) (e : h.get? b = some o) : (b, o) ∈ pinsAt fp h := List.mem_filterMap.mpr ⟨b, hb, by rw [e]; rfl⟩
theorem of_pinsAt {fp : List Addr} {h : Heap} {p : Addr × Obj} (hp : p ∈ pinsAt fp h) : p.1 ∈ fp ∧ h.get? p.1 = some p.2 := by
  obtain ⟨b, hb, e⟩ := List.mem_filterMap.mp hp
  cases q : h.get? b with
  | none => rw [q] at e; cases e
  | some o =>
    rw [q] at e
    have e' : (b, o) = p := Option.some.inj e
    subst e'
    exact ⟨hb, q⟩
theorem Inv.pinned {pins : List (Addr × Obj)} {σ : St} {H : Hp} {s : Shared} {fp : List Addr} (I : Inv X pins σ H s) (hf : ∀ b ∈ fp, FpOk X pins H b) (ho : ∀ b ∈ fp, ∃ o, s.heap.get? b = some o ∧ ∀ v, o.data ≠ .cell v) : Inv X (pins ++ pinsAt fp s.heap) σ H s :=
  I.pins_of fun p hp => (List.mem_append.mp hp).elim (fun z => I.pin p (List.mem_append_right _ z)) fun z => by
    obtain ⟨hb, e⟩ := of_pinsAt z
    obtain ⟨f0, f1, f2, _⟩ := hf p.1 hb
    obtain ⟨o, e', d⟩ := ho p.1 hb
    rw [e] at e'; cases e'
    exact ⟨e, f0, f1, f2, d⟩
theorem Inv.unpinned {pins pl : List (Addr × Obj)} {σ : St} {H : Hp} {s : Shared} (I : Inv X (pins ++ pl) σ H s) : Inv X pins σ H s := I.pins_of fun p hp => I.pin p (List.mem_append_right _ (List.mem_append_left _ hp))
theorem ps_for {iter : Expr} {body : List Stmt} {wi : TI} {g : TG} {tb : TS} {pos : Pos} (hp : PassesOwn (model X.prog X.w) X.A X.env X.xe) (hc : X.calm = true) (hi : PI X tg iter wi) (hg : PG X tg g) (hb : PSs X body tb)
    (hs : ∀ x, foldedSetIterable iter X.env x = pure x := by intro _; rfl) : PS X (.For tg iter body [] pos) (tFor wi g tb) := by
  intro pins s σ H D I h
  refine wpAny_For (thn (hi pins s σ H _ I h) fun v s1 h1 => thn h1 fun itv s2 h2 => ?_) hs
  obtain ⟨it, fp, tn, J, H2, e, I2, T, st2, f2, W, ⟨m0, w0⟩, turn⟩ := h2
  subst e
  -- what stays true of the iterator's objects through the loop
  have stat : ∀ {H' : Hp}, (∀ b ∈ fp, H' b = none) → ∀ b ∈ fp, FpOk X pins H' b := fun hn b hb => ⟨hn b hb, (f2 b hb).2⟩
  refine codeAny_forLoop_any (fun n s' => ∃ i σ' H', Inv X pins σ' H' s' ∧ tn i s'.heap ∧ (∀ b ∈ fp, H' b = none) ∧ W i n σ' H') ?_ m0 ⟨0, σ, H2, I2, st2, fun b hb => (f2 b hb).1, w0⟩
  rintro n s3 ⟨i, σ3, H3, I3, st3, fr3, w3⟩
  rcases turn i n σ3 H3 w3 with ⟨stop, qn⟩ | ⟨go, N, hN, step⟩
  · refine wpAny_passesOwn hp (thn (T.done X rfl rfl rfl hc i pins s3 σ3 H3 X.xe I3 (stat fr3) st3 stop) fun r s4 ⟨hr, I4⟩ => ?_)
    subst hr
    exact wpAny_execs_nil ⟨σ3, H3, I4, qn⟩
  · refine wpAny_passesOwn hp (thn (T.item X rfl rfl rfl hc i pins s3 σ3 H3 X.xe I3 (stat fr3) st3 go) fun r s4 ⟨u, hr, h4⟩ => ?_)
    subst hr
    refine wpAny_passesOwn hp (thn h4 fun _ s5 ⟨x, H5, I5, r5, y5, st5, fr5⟩ => ?_)
    have I5' := I5.pinned (stat fr5) (T.obj _ _ st5)
    refine wpAny_passesOwn hp (thn (hg _ s5 σ3 H5 x u _ I5' r5 (step x H5 y5)) fun _ s6 ⟨σ6, H6, I6, q6⟩ => ?_)
    refine wpAny_passesOwn hp (thn (hb _ s6 σ6 H6 _ I6 q6) fun f s7 q7 => ?_)
    have again : ∀ {σ7 : St} {H7 : Hp}, Inv X (pins ++ pinsAt fp s5.heap) σ7 H7 s7 → N σ7 H7 → ∃ m, m < n ∧ ∃ i σ' H', Inv X pins σ' H' s7 ∧ tn i s7.heap ∧ (∀ b ∈ fp, H' b = none) ∧ W i m σ' H' := fun {σ7 H7} I7 n7 => by
      obtain ⟨m', hm, w7⟩ := hN σ7 H7 n7
      refine ⟨m', hm, i + 1, σ7, H7, I7.unpinned, T.keep _ _ _ st5 fun b hb o e => (I7.pin (b, o) (List.mem_append_right _ (List.mem_append_right _ (mem_pinsAt hb e)))).1, fun b hb => ?_, w7⟩
      obtain ⟨o, e, d⟩ := T.obj _ _ st5 b hb
      exact (I7.pin (b, o) (List.mem_append_right _ (List.mem_append_right _ (mem_pinsAt hb e)))).2.1
    cases f with
    | next => obtain ⟨σ7, H7, I7, n7⟩ := q7; exact again I7 n7
    | cont => obtain ⟨σ7, H7, I7, n7⟩ := q7; exact again I7 n7
    | brk => obtain ⟨σ7, H7, I7, q7⟩ := q7; exact ⟨σ7, H7, I7.unpinned, q7⟩
    | ret v => obtain ⟨x7, σ7, H7, I7, r7, q7⟩ := q7; exact ⟨x7, σ7, H7, I7.unpinned, r7, q7⟩
end

/-! ### the forms one uses -/
/-- over a list that the body leaves as it is -/
theorem for_list {K : PySem.W.Frag} {a : Addr} {xs : List V} {g : TG} {tb : TS} {D : Ends} {σ : St} {H : Hp} (Pv : Nat → St → Hp → Prop) (h0 : Pv 0 σ H) (hl : ∀ i σ H, i ≤ xs.length → Pv i σ H → SqL K H a xs)
    (hs : ∀ i x σ H, xs[i]? = some x → Pv i σ H → g x σ H fun σ2 H2 => tb { D with nx := Pv (i + 1), ct := Pv (i + 1), bk := D.nx } σ2 H2) (hd : ∀ σ H, Pv xs.length σ H → D.nx σ H) :
    ∃ W : Nat → Nat → St → Hp → Prop, (∃ m, W 0 m σ H) ∧ ∀ i m σ H, W i m σ H →
      ((Itl K a).stop i H ∧ D.nx σ H) ∨ ((Itl K a).go i H ∧ ∃ N : St → Hp → Prop, (∀ σ' H', N σ' H' → ∃ m', m' < m ∧ W (i + 1) m' σ' H') ∧ ∀ x H', (Itl K a).yld i H x H' → g x σ H' fun σ2 H2 => tb { D with nx := N, ct := N, bk := D.nx } σ2 H2) := by
  refine ⟨fun i m σ H => m = xs.length - i ∧ i ≤ xs.length ∧ Pv i σ H, ⟨xs.length, by simp, Nat.zero_le _, h0⟩, ?_⟩
  rintro i m σ H ⟨rfl, hi, p⟩
  have q := hl i σ H hi p
  by_cases hlt : i < xs.length
  · refine .inr ⟨⟨xs, xs[i], q, by simp [hlt]⟩, Pv (i + 1), fun σ' H' p' => ⟨xs.length - (i + 1), by omega, rfl, hlt, p'⟩, fun x H' y => ?_⟩
    obtain ⟨e, y⟩ := y
    subst e
    exact hs i x σ _ (y xs q) p
  · have e : i = xs.length := by omega
    subst e
    exact .inl ⟨⟨xs, q, Nat.le_refl _⟩, hd σ H p⟩
theorem for_tup {K : PySem.W.Frag} {a : Addr} {xs : List V} {g : TG} {tb : TS} {D : Ends} {σ : St} {H : Hp} (Pv : Nat → St → Hp → Prop) (h0 : Pv 0 σ H) (hl : ∀ i σ H, i ≤ xs.length → Pv i σ H → SqT K H a xs)
    (hs : ∀ i x σ H, xs[i]? = some x → Pv i σ H → g x σ H fun σ2 H2 => tb { D with nx := Pv (i + 1), ct := Pv (i + 1), bk := D.nx } σ2 H2) (hd : ∀ σ H, Pv xs.length σ H → D.nx σ H) :
    ∃ W : Nat → Nat → St → Hp → Prop, (∃ m, W 0 m σ H) ∧ ∀ i m σ H, W i m σ H →
      ((Itt K a).stop i H ∧ D.nx σ H) ∨ ((Itt K a).go i H ∧ ∃ N : St → Hp → Prop, (∀ σ' H', N σ' H' → ∃ m', m' < m ∧ W (i + 1) m' σ' H') ∧ ∀ x H', (Itt K a).yld i H x H' → g x σ H' fun σ2 H2 => tb { D with nx := N, ct := N, bk := D.nx } σ2 H2) := by
  refine ⟨fun i m σ H => m = xs.length - i ∧ i ≤ xs.length ∧ Pv i σ H, ⟨xs.length, by simp, Nat.zero_le _, h0⟩, ?_⟩
  rintro i m σ H ⟨rfl, hi, p⟩
  have q := hl i σ H hi p
  by_cases hlt : i < xs.length
  · refine .inr ⟨⟨xs, xs[i], q, by simp [hlt]⟩, Pv (i + 1), fun σ' H' p' => ⟨xs.length - (i + 1), by omega, rfl, hlt, p'⟩, fun x H' y => ?_⟩
    obtain ⟨e, y⟩ := y
    subst e
    exact hs i x σ _ (y xs q) p
  · have e : i = xs.length := by omega
    subst e
    exact .inl ⟨⟨xs, q, Nat.le_refl _⟩, hd σ H p⟩
theorem for_range {lo : Int} {n : Nat} {g : TG} {tb : TS} {D : Ends} {σ : St} {H : Hp} (Pv : Nat → St → Hp → Prop) (h0 : Pv 0 σ H)
    (hs : ∀ i σ H, i < n → Pv i σ H → g (.int (lo + i)) σ H fun σ2 H2 => tb { D with nx := Pv (i + 1), ct := Pv (i + 1), bk := D.nx } σ2 H2) (hd : ∀ σ H, Pv n σ H → D.nx σ H) :
    ∃ W : Nat → Nat → St → Hp → Prop, (∃ m, W 0 m σ H) ∧ ∀ i m σ H, W i m σ H →
      ((Itr lo n).stop i H ∧ D.nx σ H) ∨ ((Itr lo n).go i H ∧ ∃ N : St → Hp → Prop, (∀ σ' H', N σ' H' → ∃ m', m' < m ∧ W (i + 1) m' σ' H') ∧ ∀ x H', (Itr lo n).yld i H x H' → g x σ H' fun σ2 H2 => tb { D with nx := N, ct := N, bk := D.nx } σ2 H2) := by
  refine ⟨fun i m σ H => m = n - i ∧ i ≤ n ∧ Pv i σ H, ⟨n, by simp, Nat.zero_le _, h0⟩, ?_⟩
  rintro i m σ H ⟨rfl, hi, p⟩
  by_cases hlt : i < n
  · refine .inr ⟨hlt, Pv (i + 1), fun σ' H' p' => ⟨n - (i + 1), by omega, rfl, hlt, p'⟩, fun x H' y => ?_⟩
    obtain ⟨e, y⟩ := y
    subst e y
    exact hs i σ _ hlt p
  · have e : i = n := by omega
    subst e
    exact .inl ⟨Nat.le_refl _, hd σ H p⟩
/-- while, by a word and a measure of the state -/
theorem while_by {c : TT} {tb : TS} {D : Ends} {σ : St} {H : Hp} (Pv : St → Hp → Prop) (μ : St → Hp → Nat) (h0 : Pv σ H)
    (hs : ∀ σ H, Pv σ H → c σ H fun b H1 => if b = true then tb { D with nx := fun σ' H' => Pv σ' H' ∧ μ σ' H' < μ σ H, ct := fun σ' H' => Pv σ' H' ∧ μ σ' H' < μ σ H, bk := D.nx } σ H1 else D.nx σ H1)
    (mono : ∀ σ H Q Q', (∀ b H1, Q b H1 → Q' b H1) → c σ H Q → c σ H Q') : tWhile c tb D σ H := by
  refine ⟨fun m σ H => m = μ σ H ∧ Pv σ H, ⟨_, rfl, h0⟩, ?_⟩
  rintro m σ H ⟨rfl, p⟩
  refine mono σ H _ _ (fun b H1 q => ?_) (hs σ H p)
  cases b with
  | true => exact ⟨_, fun σ' H' ⟨p', l⟩ => ⟨_, l, rfl, p'⟩, q⟩
  | false => exact q
end L2

namespace L2
open PySem PySem.Spec PyProof.Rows

abbrev R2 := V → V → Hp → VK → Prop
/-- a two-place operation on values: f is binaryOp op, inplaceOp op or compareOp op -/
def OpR (X : Cx) (f : Value → Value → Sem Value) (r : R2) : Prop :=
  ∀ (pins : List (Addr × Obj)) (s : Shared) (σ : St) (H : Hp) (x y : V) (v u : Value) (Q : VK), Inv X pins σ H s → RelV x v → RelV y u → r x y H Q →
    wpAny (model X.prog X.w) X.A (f v u) (EP X pins σ Q) X.xe s
/-- a one-place operation -/
def UnR (X : Cx) (f : Value → Sem Value) (r : V → Hp → VK → Prop) : Prop :=
  ∀ (pins : List (Addr × Obj)) (s : Shared) (σ : St) (H : Hp) (x : V) (v : Value) (Q : VK), Inv X pins σ H s → RelV x v → r x H Q →
    wpAny (model X.prog X.w) X.A (f v) (EP X pins σ Q) X.xe s
/-- a call of a value that is known (a builtin, a type) with values -/
def CallR (X : Cx) (f : Value) (r : List V → Hp → VK → Prop) : Prop :=
  ∀ (pins : List (Addr × Obj)) (s : Shared) (σ : St) (H : Hp) (xs : List V) (us : List Value) (Q : VK), Inv X pins σ H s → Vals xs us → r xs H Q →
    wpAny (model X.prog X.w) X.A (call f us) (EP X pins σ Q) X.xe s
/-- a value's truth -/
def TruR (X : Cx) (r : V → Hp → (Bool → Hp → Prop) → Prop) : Prop :=
  ∀ (pins : List (Addr × Obj)) (s : Shared) (σ : St) (H : Hp) (x : V) (v : Value) (Q : Bool → Hp → Prop), Inv X pins σ H s → RelV x v → r x H Q →
    wpAny (model X.prog X.w) X.A (truthy v) (TP X pins σ Q) X.xe s

def tOp (r : R2) (ta tb : TE) : TE := fun σ H Q => ta σ H fun x H1 => tb σ H1 fun y H2 => r x y H2 Q
def tUn (r : V → Hp → VK → Prop) (ta : TE) : TE := fun σ H Q => ta σ H fun x H1 => r x H1 Q
/-- ints in, under C, and a value out -/
def rI (C : Int → Int → Prop) (g : Int → Int → V) : R2 := fun x y H Q => ∃ i j, x = .int i ∧ y = .int j ∧ C i j ∧ Q (g i j) H
def rI0 (g : Int → Int → V) : R2 := fun x y H Q => ∃ i j, x = .int i ∧ y = .int j ∧ Q (g i j) H
def rU (g : Int → V) : V → Hp → VK → Prop := fun x H Q => ∃ i, x = .int i ∧ Q (g i) H

section
variable {X : Cx} {a b c : Expr} {ta tb tc : TE} {pos : Pos}

theorem binT (ha : PE X a ta) (hb : PE X b tb) {pins : List (Addr × Obj)} {s : Shared} {σ : St} {H : Hp} {R : V → V → Hp → Prop} (I : Inv X pins σ H s)
    (h : ta σ H fun x H1 => tb σ H1 fun y H2 => R x y H2) {Q : Value → Shared → Prop} {f : Value → Value → Sem Value}
    (hf : ∀ v u s2 x y H2, Inv X pins σ H2 s2 → RelV x v → RelV y u → R x y H2 → wpAny (model X.prog X.w) X.A (f v u) Q X.xe s2) :
    wpAny (model X.prog X.w) X.A (eval a X.env) (fun v s₁ => wpAny (model X.prog X.w) X.A (eval b X.env) (fun u s₂ => wpAny (model X.prog X.w) X.A (f v u) Q X.xe s₂) X.xe s₁) X.xe s := by
  refine thn (ha pins s σ H _ I h) fun v s1 ⟨x, H1, I1, r1, q1⟩ => ?_
  refine thn (hb pins s1 σ H1 _ I1 q1) fun u s2 ⟨y, H2, I2, r2, q2⟩ => ?_
  exact hf v u s2 x y H2 I2 r1 r2 q2

theorem pe_op {op : Operator} {r : R2} (ho : OpR X (binaryOp op) r) (ha : PE X a ta) (hb : PE X b tb) : PE X (.BinOp a op b pos) (tOp r ta tb) := by
  intro pins s σ H Q I h
  exact wpAny_BinOp (binT ha hb I h fun v u s2 x y H2 I2 rx ry q => ho pins s2 σ H2 x y v u Q I2 rx ry q)
theorem pe_un {op : UnaryOp} {r : V → Hp → VK → Prop} (ho : UnR X (unaryOp op) r) (ha : PE X a ta) : PE X (.UnaryOp op a pos) (tUn r ta) := by
  intro pins s σ H Q I h
  exact UnaryOp_ (thn (ha pins s σ H _ I h) fun v s1 ⟨x, H1, I1, r1, q1⟩ => ho pins s1 σ H1 x v Q I1 r1 q1)
/-- a op= e at a name: the name's slot i -/
theorem augR {op : Operator} {r : R2} (ho : OpR X (inplaceOp op) r) {pins : List (Addr × Obj)} {s : Shared} {σ : St} {H : Hp} {x y : V} {v u : Value} {Q : VK} (I : Inv X pins σ H s)
    (rx : RelV x v) (ry : RelV y u) (q : r x y H Q) : wpAny (model X.prog X.w) X.A (inplaceOp op v u) (EP X pins σ Q) X.xe s := ho pins s σ H x y v u Q I rx ry q

/-! ### ints -/
theorem opI {f : Value → Value → Sem Value} {C : Int → Int → Prop} {g : Int → Int → Int}
    (rule : ∀ (i j : Int) (t u : Tok) (s : Shared) (Q : Value → Shared → Prop) (E : Value → Shared → Prop), C i j → Q (.int (g i j) s.toks) { s with toks := s.toks + 1 } → wpAny (model X.prog X.w) X.A (f (.int i t) (.int j u)) Q E s) :
    OpR X f (rI C fun i j => .int (g i j)) := by
  intro pins s σ H x y v u Q I rx ry h
  obtain ⟨i, j, rfl, rfl, hc, q⟩ := h
  obtain ⟨t, rfl⟩ := rx
  obtain ⟨t', rfl⟩ := ry
  exact rule i j t t' s _ _ hc ⟨.int (g i j), H, I.tok _, ⟨_, rfl⟩, q⟩
theorem opI0 {f : Value → Value → Sem Value} {g : Int → Int → Int}
    (rule : ∀ (i j : Int) (t u : Tok) (s : Shared) (Q : Value → Shared → Prop) (E : Value → Shared → Prop), Q (.int (g i j) s.toks) { s with toks := s.toks + 1 } → wpAny (model X.prog X.w) X.A (f (.int i t) (.int j u)) Q E s) :
    OpR X f (rI0 fun i j => .int (g i j)) := by
  intro pins s σ H x y v u Q I rx ry h
  obtain ⟨i, j, rfl, rfl, q⟩ := h
  obtain ⟨t, rfl⟩ := rx
  obtain ⟨t', rfl⟩ := ry
  exact rule i j t t' s _ _ ⟨.int (g i j), H, I.tok _, ⟨_, rfl⟩, q⟩
theorem opB0 {f : Value → Value → Sem Value} {g : Int → Int → Bool}
    (rule : ∀ (i j : Int) (t u : Tok) (s : Shared) (Q : Value → Shared → Prop) (E : Value → Shared → Prop), Q (.bool (g i j)) s → wpAny (model X.prog X.w) X.A (f (.int i t) (.int j u)) Q E s) :
    OpR X f (rI0 fun i j => .bl (g i j)) := by
  intro pins s σ H x y v u Q I rx ry h
  obtain ⟨i, j, rfl, rfl, q⟩ := h
  obtain ⟨t, rfl⟩ := rx
  obtain ⟨t', rfl⟩ := ry
  exact rule i j t t' s _ _ ⟨.bl (g i j), H, I, rfl, q⟩

def CDiv (i j : Int) : Prop := 0 < j ∧ j < 1073741824
def CDivN (i j : Int) : Prop := j ≠ 0 ∧ j.natAbs < 1073741824
def CPow (i j : Int) : Prop := 0 ≤ j ∧ j ≤ 1000000 ∧ i.natAbs < 2 ^ 64
def CMul (i j : Int) : Prop := (-(2 ^ 64) < i ∧ i < 2 ^ 64) ∨ (-(2 ^ 64) < j ∧ j < 2 ^ 64)
theorem CMul.ok {i j : Int} (h : CMul i j) : IntMulOk i j := by
  rcases h with ⟨h1, h2⟩ | ⟨h1, h2⟩
  · exact .of_left (intBits_le_64 h1 h2)
  · exact .of_right (intBits_le_64 h1 h2)
theorem two_pow_nn (k : Nat) : (0 : Int) ≤ 2 ^ k := by
  rw [two_pow_cast]
  exact Int.natCast_nonneg _

theorem op_add : OpR X (binaryOp .Add) (rI0 fun i j => .int (i + j)) := opI0 fun _ _ _ _ _ _ _ q => add_int q
theorem op_sub : OpR X (binaryOp .Sub) (rI0 fun i j => .int (i - j)) := opI0 fun _ _ _ _ _ _ _ q => sub_int q
theorem op_mul : OpR X (binaryOp .Mult) (rI CMul fun i j => .int (i * j)) := opI fun _ _ _ _ _ _ _ hc q => mul_int q hc.ok
/-- // by a positive divisor -/
theorem op_fdiv : OpR X (binaryOp .FloorDiv) (rI CDiv fun i j => .int (i / j)) := opI fun i j _ _ _ _ _ hc q => by
  have h1 : (0 : Int) < j := hc.1
  have h2 : j < 1073741824 := hc.2
  exact floordiv_int (by omega) (by rw [Int.fdiv_eq_ediv_of_nonneg i (by omega)]; exact q) (.inl (PyProof.noPylong_small (by omega)))
theorem op_fdivN : OpR X (binaryOp .FloorDiv) (rI CDivN fun i j => .int (i.fdiv j)) := opI fun _ _ _ _ _ _ _ hc q => floordiv_int hc.1 q (.inl (PyProof.noPylong_small hc.2))
/-- % by a positive divisor of any size -/
theorem op_mod : OpR X (binaryOp .Mod) (rI (fun _ j => 0 < j) fun i j => .int (i % j)) := opI fun i j _ _ _ _ _ hc q => by
  have h1 : (0 : Int) < j := hc
  exact mod_int' (by omega) (by rw [Int.fmod_eq_emod_of_nonneg i (by omega)]; exact q)
theorem op_modN : OpR X (binaryOp .Mod) (rI (fun _ j => j ≠ 0) fun i j => .int (i.fmod j)) := opI fun _ _ _ _ _ _ _ hc q => mod_int' hc q
theorem op_pow : OpR X (binaryOp .Pow) (rI CPow fun i j => .int (i ^ j.toNat)) := opI fun _ _ _ _ _ _ _ hc q => pow_int_small hc.1 hc.2.1 hc.2.2 q
theorem op_shl : OpR X (binaryOp .LShift) (rI CPow fun i j => .int (i * 2 ^ j.toNat)) := opI fun _ _ _ _ _ _ _ hc q => lshift_int_small hc.1 hc.2.1 hc.2.2 q
theorem op_shr : OpR X (binaryOp .RShift) (rI (fun _ j => 0 ≤ j) fun i j => .int (i / 2 ^ j.toNat)) := opI fun i j _ _ _ _ _ hc q =>
  rshift_int hc (by rw [Int.fdiv_eq_ediv_of_nonneg i (two_pow_nn _)]; exact q)
theorem op_and : OpR X (binaryOp .BitAnd) (rI0 fun i j => .int (Builtin.bitAnd i j)) := opI0 fun _ _ _ _ _ _ _ q => and_int q
theorem op_or : OpR X (binaryOp .BitOr) (rI0 fun i j => .int (Builtin.bitOr i j)) := opI0 fun _ _ _ _ _ _ _ q => or_int q
theorem op_xor : OpR X (binaryOp .BitXor) (rI0 fun i j => .int (Builtin.bitXor i j)) := opI0 fun _ _ _ _ _ _ _ q => xor_int q

theorem iop_add : OpR X (inplaceOp .Add) (rI0 fun i j => .int (i + j)) := opI0 fun _ _ _ _ _ _ _ q => iadd_int q
theorem iop_sub : OpR X (inplaceOp .Sub) (rI0 fun i j => .int (i - j)) := opI0 fun _ _ _ _ _ _ _ q => isub_int q
theorem iop_mul : OpR X (inplaceOp .Mult) (rI CMul fun i j => .int (i * j)) := opI fun _ _ _ _ _ _ _ hc q => imul_int q hc.ok
theorem iop_fdiv : OpR X (inplaceOp .FloorDiv) (rI CDiv fun i j => .int (i / j)) := opI fun i j _ _ _ _ _ hc q => by
  have h1 : (0 : Int) < j := hc.1
  have h2 : j < 1073741824 := hc.2
  exact ifloordiv_int (by omega) (by rw [Int.fdiv_eq_ediv_of_nonneg i (by omega)]; exact q) (.inl (PyProof.noPylong_small (by omega)))
theorem iop_mod : OpR X (inplaceOp .Mod) (rI (fun _ j => 0 < j) fun i j => .int (i % j)) := opI fun i j _ _ _ _ _ hc q => by
  have h1 : (0 : Int) < j := hc
  exact imod_int (by omega) (by rw [Int.fmod_eq_emod_of_nonneg i (by omega)]; exact q)
theorem iop_shl : OpR X (inplaceOp .LShift) (rI CPow fun i j => .int (i * 2 ^ j.toNat)) := opI fun _ _ _ _ _ _ _ hc q => ilshift_int_small hc.1 hc.2.1 hc.2.2 q
theorem iop_shr : OpR X (inplaceOp .RShift) (rI (fun _ j => 0 ≤ j) fun i j => .int (i / 2 ^ j.toNat)) := opI fun i j _ _ _ _ _ hc q =>
  irshift_int hc (by rw [Int.fdiv_eq_ediv_of_nonneg i (two_pow_nn _)]; exact q)
theorem iop_and : OpR X (inplaceOp .BitAnd) (rI0 fun i j => .int (Builtin.bitAnd i j)) := opI0 fun _ _ _ _ _ _ _ q => iand_int q
theorem iop_or : OpR X (inplaceOp .BitOr) (rI0 fun i j => .int (Builtin.bitOr i j)) := opI0 fun _ _ _ _ _ _ _ q => ior_int q
theorem iop_xor : OpR X (inplaceOp .BitXor) (rI0 fun i j => .int (Builtin.bitXor i j)) := opI0 fun _ _ _ _ _ _ _ q => ixor_int q

theorem unI {f : Value → Sem Value} {g : Int → Int}
    (rule : ∀ (i : Int) (t : Tok) (s : Shared) (Q : Value → Shared → Prop) (E : Value → Shared → Prop), Q (.int (g i) s.toks) { s with toks := s.toks + 1 } → wpAny (model X.prog X.w) X.A (f (.int i t)) Q E s) :
    UnR X f (rU fun i => .int (g i)) := by
  intro pins s σ H x v Q I rx h
  obtain ⟨i, rfl, q⟩ := h
  obtain ⟨t, rfl⟩ := rx
  exact rule i t s _ _ ⟨.int (g i), H, I.tok _, ⟨_, rfl⟩, q⟩
theorem un_neg : UnR X (unaryOp .USub) (rU fun i => .int (-i)) := unI fun _ _ _ _ _ q => neg_int q
theorem un_inv : UnR X (unaryOp .Invert) (rU fun i => .int (Builtin.bitNot i)) := unI fun _ _ _ _ _ q => invert_int q

/-! ### bools among ints: n += (a < b) -/
theorem op_add_ib : OpR X (binaryOp .Add) (fun x y H Q => ∃ i k, x = .int i ∧ y = .bl k ∧ Q (.int (i + b2i k)) H) := by
  intro pins s σ H x y v u Q I rx ry h
  obtain ⟨i, k, rfl, rfl, q⟩ := h
  obtain ⟨t, rfl⟩ := rx
  cases ry
  exact add_int_bool ⟨.int (i + b2i k), H, I.tok _, ⟨_, rfl⟩, q⟩
end

/-! ### comparisons -/
/-- the scalars that == tells apart as data does -/
def scal : V → V → Bool
  | .non, .non => true | .non, .int _ => true | .int _, .non => true | .non, .bl _ => true | .bl _, .non => true | .non, .str _ => true | .str _, .non => true
  | .int _, .int _ => true | .bl _, .bl _ => true | .str _, .str _ => true | .byt _, .byt _ => true
  | .int _, .str _ => true | .str _, .int _ => true | .bl _, .str _ => true | .str _, .bl _ => true
  | _, _ => false
def rEq : R2 := fun x y H Q => scal x y = true ∧ Q (.bl (decide (x = y))) H
def rNe : R2 := fun x y H Q => scal x y = true ∧ Q (.bl (!decide (x = y))) H

theorem dec_int {i j : Int} : decide (V.int i = V.int j) = (i == j) := by
  rw [Bool.eq_iff_iff]
  simp
theorem dec_bl {i j : Bool} : decide (V.bl i = V.bl j) = (i == j) := by
  rw [Bool.eq_iff_iff]
  simp
theorem dec_str {i j : Str} : decide (V.str i = V.str j) = (i == j) := by
  rw [Bool.eq_iff_iff]
  simp
theorem dec_byt {i j : Array UInt8} : decide (V.byt i = V.byt j) = (i.toList == j.toList) := by
  rw [Bool.eq_iff_iff]
  cases i
  cases j
  simp

section
variable {X : Cx} {a b c : Expr} {ta tb tc : TE} {pos : Pos}
theorem fin_bl {pins : List (Addr × Obj)} {σ : St} {H : Hp} {s : Shared} {Q : VK} {k k' : Bool} (I : Inv X pins σ H s) (q : Q (.bl k) H) (e : k = k') : EP X pins σ Q (.bool k') s := by
  subst e
  exact ⟨.bl k, H, I, rfl, q⟩
theorem op_eq : OpR X (compareOp .Eq) rEq := by
  intro pins s σ H x y v u Q I rx ry h
  obtain ⟨hs, q⟩ := h
  cases x with
  | non =>
    cases rx
    cases y with
    | non => cases ry; exact PySem.EqNone.eq_none_none (fin_bl I q (by simp))
    | bl j => cases ry; exact PySem.EqNone.eq_none_bool (fin_bl I q (by simp))
    | int j => obtain ⟨t', rfl⟩ := ry; exact PySem.EqNone.eq_none_int (fin_bl I q (by simp))
    | str j => obtain ⟨t', rfl⟩ := ry; exact PySem.EqNone.eq_none_str (fin_bl I q (by simp))
    | _ => exact absurd (show false = true from hs) Bool.false_ne_true
  | bl i =>
    cases rx
    cases y with
    | non => cases ry; exact PySem.EqNone.eq_bool_none (fin_bl I q (by simp))
    | bl j => cases ry; exact eq_bool (fin_bl I q dec_bl)
    | str j => obtain ⟨t', rfl⟩ := ry; exact PySem.EqMixed.eq_bool_str (fin_bl I q (by simp))
    | _ => exact absurd (show false = true from hs) Bool.false_ne_true
  | int i =>
    obtain ⟨t, rfl⟩ := rx
    cases y with
    | non => cases ry; exact PySem.EqNone.eq_int_none (fin_bl I q (by simp))
    | int j => obtain ⟨t', rfl⟩ := ry; exact eq_int (fin_bl I q dec_int)
    | str j => obtain ⟨t', rfl⟩ := ry; exact PySem.EqMixed.eq_int_str (fin_bl I q (by simp))
    | _ => exact absurd (show false = true from hs) Bool.false_ne_true
  | str i =>
    obtain ⟨t, rfl⟩ := rx
    cases y with
    | non => cases ry; exact PySem.EqNone.eq_str_none (fin_bl I q (by simp))
    | bl j => cases ry; exact PySem.EqMixed.eq_str_bool (fin_bl I q (by simp))
    | int j => obtain ⟨t', rfl⟩ := ry; exact PySem.EqMixed.eq_str_int (fin_bl I q (by simp))
    | str j => obtain ⟨t', rfl⟩ := ry; exact eq_str (fin_bl I q dec_str)
    | _ => exact absurd (show false = true from hs) Bool.false_ne_true
  | byt i =>
    obtain ⟨t, rfl⟩ := rx
    cases y with
    | byt j => obtain ⟨t', rfl⟩ := ry; exact PySem.W.eq_bytes (fin_bl I q dec_byt)
    | _ => exact absurd (show false = true from hs) Bool.false_ne_true
  | _ => cases y <;> exact absurd (show false = true from hs) Bool.false_ne_true
theorem op_ne : OpR X (compareOp .NotEq) rNe := by
  intro pins s σ H x y v u Q I rx ry h
  obtain ⟨hs, q⟩ := h
  cases x with
  | non =>
    cases rx
    cases y with
    | non => cases ry; exact PySem.EqNone.ne_none_none (fin_bl I q (by simp))
    | bl j => cases ry; exact PySem.EqNone.ne_none_bool (fin_bl I q (by simp))
    | int j => obtain ⟨t', rfl⟩ := ry; exact PySem.EqNone.ne_none_int (fin_bl I q (by simp))
    | str j => obtain ⟨t', rfl⟩ := ry; exact PySem.EqNone.ne_none_str (fin_bl I q (by simp))
    | _ => exact absurd (show false = true from hs) Bool.false_ne_true
  | bl i =>
    cases rx
    cases y with
    | non => cases ry; exact PySem.EqNone.ne_bool_none (fin_bl I q (by simp))
    | bl j => cases ry; exact ne_bool (fin_bl I q (congrArg not dec_bl))
    | str j => obtain ⟨t', rfl⟩ := ry; exact PySem.EqMixed.ne_bool_str (fin_bl I q (by simp))
    | _ => exact absurd (show false = true from hs) Bool.false_ne_true
  | int i =>
    obtain ⟨t, rfl⟩ := rx
    cases y with
    | non => cases ry; exact PySem.EqNone.ne_int_none (fin_bl I q (by simp))
    | int j => obtain ⟨t', rfl⟩ := ry; exact ne_int (fin_bl I q (congrArg not dec_int))
    | str j => obtain ⟨t', rfl⟩ := ry; exact PySem.EqMixed.ne_int_str (fin_bl I q (by simp))
    | _ => exact absurd (show false = true from hs) Bool.false_ne_true
  | str i =>
    obtain ⟨t, rfl⟩ := rx
    cases y with
    | non => cases ry; exact PySem.EqNone.ne_str_none (fin_bl I q (by simp))
    | bl j => cases ry; exact PySem.EqMixed.ne_str_bool (fin_bl I q (by simp))
    | int j => obtain ⟨t', rfl⟩ := ry; exact PySem.EqMixed.ne_str_int (fin_bl I q (by simp))
    | str j => obtain ⟨t', rfl⟩ := ry; exact ne_str (fin_bl I q (congrArg not dec_str))
    | _ => exact absurd (show false = true from hs) Bool.false_ne_true
  | byt i =>
    obtain ⟨t, rfl⟩ := rx
    cases y with
    | byt j => obtain ⟨t', rfl⟩ := ry; exact PySem.W.ne_bytes (fin_bl I q (congrArg not dec_byt))
    | _ => exact absurd (show false = true from hs) Bool.false_ne_true
  | _ => cases y <;> exact absurd (show false = true from hs) Bool.false_ne_true

theorem op_lt : OpR X (compareOp .Lt) (rI0 fun i j => .bl (decide (i < j))) := opB0 fun _ _ _ _ _ _ _ q => lt_int q
theorem op_le : OpR X (compareOp .LtE) (rI0 fun i j => .bl (decide (i ≤ j))) := opB0 fun _ _ _ _ _ _ _ q => le_int q
theorem op_gt : OpR X (compareOp .Gt) (rI0 fun i j => .bl (decide (j < i))) := opB0 fun _ _ _ _ _ _ _ q => gt_int q
theorem op_ge : OpR X (compareOp .GtE) (rI0 fun i j => .bl (decide (j ≤ i))) := opB0 fun _ _ _ _ _ _ _ q => ge_int q
theorem op_lt_str : OpR X (compareOp .Lt) (fun x y H Q => ∃ i j, x = .str i ∧ y = .str j ∧ Q (.bl (decide (i.cps.toList < j.cps.toList))) H) := by
  intro pins s σ H x y v u Q I rx ry h
  obtain ⟨i, j, rfl, rfl, q⟩ := h
  obtain ⟨t, rfl⟩ := rx
  obtain ⟨t', rfl⟩ := ry
  exact lt_str (fin_bl I q rfl)
/-- the one string within the other -/
theorem op_in_str : OpR X (compareOp .In) (fun x y H Q => ∃ i j, x = .str i ∧ y = .str j ∧ Q (.bl (!(Builtin.Str.occurrences j i 0 j.length 1).isEmpty)) H) := by
  intro pins s σ H x y v u Q I rx ry h
  obtain ⟨i, j, rfl, rfl, q⟩ := h
  obtain ⟨t, rfl⟩ := rx
  obtain ⟨t', rfl⟩ := ry
  exact in_str (fin_bl I q rfl)

/-- is None, is not None: the right side a value none -/
theorem op_isN : OpR X (compareOp .Is) (fun x y H Q => y = .non ∧ Q (.bl (decide (x = .non))) H) := by
  intro pins s σ H x y v u Q I rx ry h
  obtain ⟨rfl, q⟩ := h
  cases ry
  refine is_none_gen (fin_bl I q ?_)
  cases x <;> first
    | (cases rx; rfl)
    | (obtain ⟨t, rfl⟩ := rx; rfl)
theorem op_notN : OpR X (compareOp .IsNot) (fun x y H Q => y = .non ∧ Q (.bl (!decide (x = .non))) H) := by
  intro pins s σ H x y v u Q I rx ry h
  obtain ⟨rfl, q⟩ := h
  cases ry
  refine isnot_none_gen (fin_bl I q ?_)
  cases x <;> first
    | (cases rx; rfl)
    | (obtain ⟨t, rfl⟩ := rx; rfl)

theorem op_notin_str : OpR X (compareOp .NotIn) (fun x y H Q => ∃ i j, x = .str i ∧ y = .str j ∧ Q (.bl (!(!(Builtin.Str.occurrences j i 0 j.length 1).isEmpty))) H) := by
  intro pins s σ H x y v u Q I rx ry h
  obtain ⟨i, j, rfl, rfl, q⟩ := h
  obtain ⟨t, rfl⟩ := rx
  obtain ⟨t', rfl⟩ := ry
  exact notIn_str (fin_bl I q rfl)
/-- is, is not of two objects that are tracked lists or instances -/
def isObj : HO → Bool
  | .lst _ => true
  | .ins _ _ _ => true
  | _ => false
theorem obj_there {pins : List (Addr × Obj)} {s : Shared} {σ : St} {H : Hp} {a : Addr} {o : HO} (I : Inv X pins σ H s) (h : H a = some o) (p : isObj o = true) : ∃ ob, s.heap.get? a = some ob ∧ ob.cls ≠ .type "tuple" := by
  cases o with
  | lst xs =>
    obtain ⟨_, its, n, _, e⟩ : xs.length ≤ sizeLine ∧ ∃ (its : List Value) (n : Nat), Vals xs its ∧ s.heap.get? a = some { cls := .type "list", data := .seq its.toArray n } := I.hok a _ h
    exact ⟨_, e, (by show Value.type "list" ≠ .type "tuple"; decide +kernel)⟩
  | ins C dx fs =>
    have x := I.hok a _ h
    obtain ⟨_, _, _, e, _⟩ := x
    exact ⟨_, e, (by show Value.ref C ≠ .type "tuple"; exact fun z => by cases z)⟩
  | _ => exact absurd (show false = true from p) Bool.false_ne_true
theorem op_is_ref : OpR X (compareOp .Is) (fun x y H Q => ∃ a b oa ob, x = .ref a ∧ y = .ref b ∧ H a = some oa ∧ isObj oa = true ∧ H b = some ob ∧ isObj ob = true ∧ Q (.bl (decide (a = b))) H) := by
  intro pins s σ H x y v u Q I rx ry h
  obtain ⟨a, b, oa, ob, rfl, rfl, ha, pa, hb, pb, q⟩ := h
  cases rx
  cases ry
  obtain ⟨o1, e1, n1⟩ := obj_there I ha pa
  obtain ⟨o2, e2, _⟩ := obj_there I hb pb
  by_cases z : a = b
  · subst z
    exact wpAny_is_ref_self (fin_bl I q (by simp))
  · exact wpAny_is_ref_other z e1 e2 n1 (fin_bl I q (by simp [z]))
theorem op_isnot_ref : OpR X (compareOp .IsNot) (fun x y H Q => ∃ a b oa ob, x = .ref a ∧ y = .ref b ∧ H a = some oa ∧ isObj oa = true ∧ H b = some ob ∧ isObj ob = true ∧ Q (.bl (!decide (a = b))) H) := by
  intro pins s σ H x y v u Q I rx ry h
  obtain ⟨a, b, oa, ob, rfl, rfl, ha, pa, hb, pb, q⟩ := h
  cases rx
  cases ry
  obtain ⟨o1, e1, n1⟩ := obj_there I ha pa
  obtain ⟨o2, e2, _⟩ := obj_there I hb pb
  by_cases z : a = b
  · subst z
    exact wpAny_isNot_ref_self (fin_bl I q (by simp))
  · exact wpAny_isNot_ref_other z e1 e2 n1 (fin_bl I q (by simp [z]))

/-- two rules for one operation: by cases -/
theorem OpR.or {f : Value → Value → Sem Value} {r r' : R2} (h : OpR X f r) (h' : OpR X f r') : OpR X f (fun x y H Q => r x y H Q ∨ r' x y H Q) := by
  intro pins s σ H x y v u Q I rx ry q
  rcases q with q | q
  · exact h pins s σ H x y v u Q I rx ry q
  · exact h' pins s σ H x y v u Q I rx ry q

theorem nomark (b : Expr) {op : CmpOp} (h : op ≠ .In := by decide) (h2 : op ≠ .NotIn := by decide) : behindInMarks op b = false := by
  have e1 : (op == CmpOp.In) = false := by cases op <;> first | rfl | exact absurd rfl h
  have e2 : (op == CmpOp.NotIn) = false := by cases op <;> first | rfl | exact absurd rfl h2
  cases b <;> simp [behindInMarks, e1, e2]
/-- a comparison as a value; hm: nomark b, or (for in, not in) by with_unfolding_all rfl -/
theorem pe_cmpR {op : CmpOp} {r : R2} (ho : OpR X (compareOp op) r) (ha : PE X a ta) (hb : PE X b tb) (hm : behindInMarks op b = false) : PE X (.Compare a [op] [b] pos) (tOp r ta tb) := by
  intro pins s σ H Q I h
  exact wpAny_Compare1 (binT ha hb I h fun v u s2 x y H2 I2 rx ry q => ho pins s2 σ H2 x y v u Q I2 rx ry q) hm
/-- a reading of a value as a test -/
def tTest (t : TE) : TT := fun σ H Q => t σ H fun x H' => ∃ k, x = .bl k ∧ Q k H'
theorem pt_cmpR {op : CmpOp} {r : R2} (ho : OpR X (compareOp op) r) (ha : PE X a ta) (hb : PE X b tb) (hm : behindInMarks op b = false) : PT X (.Compare a [op] [b] pos) (tTest (tOp r ta tb)) := by
  intro pins s σ H Q I h
  refine wpAny_isTrue_Compare1 (thn (ha pins s σ H _ I h) fun v s1 ⟨x, H1, I1, r1, q1⟩ => thn (hb pins s1 σ H1 _ I1 q1) fun u s2 ⟨y, H2, I2, r2, q2⟩ =>
    thn (ho pins s2 σ H2 x y v u _ I2 r1 r2 q2) fun c s3 ⟨z, H3, I3, r3, k, e, q3⟩ => ?_) hm
  subst e
  cases r3
  exact wpAny_truthy_bool ⟨H3, I3, q3⟩
/-- a op1 b op2 c -/
def tChain (r r' : R2) (ta tb tc : TE) : TE := fun σ H Q => ta σ H fun x H1 => tb σ H1 fun y H2 => r x y H2 fun z H3 => ∃ k, z = .bl k ∧
  (if k = true then tc σ H3 fun w' H4 => r' y w' H4 Q else Q (.bl false) H3)
theorem pe_chain {op op' : CmpOp} {r r' : R2} (ho : OpR X (compareOp op) r) (ho' : OpR X (compareOp op') r') (ha : PE X a ta) (hb : PE X b tb) (hc : PE X c tc)
    (hm : lastMarks [op, op'] [b, c] = false := by with_unfolding_all rfl) : PE X (.Compare a [op, op'] [b, c] pos) (tChain r r' ta tb tc) := by
  intro pins s σ H Q I h
  refine Compare_chain (thn (ha pins s σ H _ I h) fun v s1 ⟨x, H1, I1, r1, q1⟩ => chain_link (thn (hb pins s1 σ H1 _ I1 q1) fun u s2 ⟨y, H2, I2, r2, q2⟩ =>
    thn (ho pins s2 σ H2 x y v u _ I2 r1 r2 q2) fun d s3 ⟨z, H3, I3, r3, k, e, q3⟩ => ?_)) hm
  subst e
  cases r3
  refine wpAny_truthy_bool ?_
  cases k with
  | false => exact ite_ff ⟨.bl false, H3, I3, rfl, q3⟩
  | true => exact ite_tt (chain_last (thn (hc pins s3 σ H3 _ I3 q3) fun w' s4 ⟨z', H4, I4, r4, q4⟩ => ho' pins s4 σ H4 y z' u w' Q I4 r2 r4 q4))
theorem pt_chain {op op' : CmpOp} {r r' : R2} (ho : OpR X (compareOp op) r) (ho' : OpR X (compareOp op') r') (ha : PE X a ta) (hb : PE X b tb) (hc : PE X c tc)
    (hm : lastMarks [op, op'] [b, c] = false := by with_unfolding_all rfl) : PT X (.Compare a [op, op'] [b, c] pos) (tTest (tChain r r' ta tb tc)) := by
  intro pins s σ H Q I h
  refine isTrue_chain (thn (ha pins s σ H _ I h) fun v s1 ⟨x, H1, I1, r1, q1⟩ => test_link (thn (hb pins s1 σ H1 _ I1 q1) fun u s2 ⟨y, H2, I2, r2, q2⟩ =>
    thn (ho pins s2 σ H2 x y v u _ I2 r1 r2 q2) fun d s3 ⟨z, H3, I3, r3, k, e, q3⟩ => ?_)) hm
  subst e
  cases r3
  refine wpAny_truthy_bool ?_
  cases k with
  | false =>
    obtain ⟨k', e', q'⟩ := q3
    cases e'
    exact ite_ff ⟨H3, I3, q'⟩
  | true =>
    refine ite_tt (test_last (thn (hc pins s3 σ H3 _ I3 q3) fun w' s4 ⟨z', H4, I4, r4, q4⟩ => thn (ho' pins s4 σ H4 y z' u w' _ I4 r2 r4 q4) fun d' s5 ⟨z2, H5, I5, r5, k2, e2, q5⟩ => ?_))
    subst e2
    cases r5
    exact wpAny_truthy_bool ⟨H5, I5, q5⟩

/-! ### truth -/
/-- a value's truth by the abstract heap -/
def TruV (K : PySem.W.Frag) (x : V) (H : Hp) (k : Bool) : Prop :=
  match x with
  | .non => k = false
  | .bl b => k = b
  | .int i => k = (i != 0)
  | .str y => y.length ≤ sizeLine ∧ k = ((y.length : Int) != 0)
  | .byt y => y.size ≤ sizeLine ∧ k = ((y.size : Int) != 0)
  | .ref p => (∃ xs, SqL K H p xs ∧ k = !xs.isEmpty) ∨ (∃ xs, SqT K H p xs ∧ k = !xs.isEmpty) ∨ ∃ kvs, H p = some (.dK kvs) ∧ k = !kvs.isEmpty
  | _ => False
theorem isEmpty_kv {κ : Type} {kvs : List (κ × V)} {vs : List (κ × Value)} (r : KV kvs vs) : (!vs.isEmpty) = !kvs.isEmpty := by
  cases r <;> rfl
theorem isEmpty_of {xs : List V} {its : List Value} (r : Vals xs its) : (!its.toArray.isEmpty) = !xs.isEmpty := by
  cases r <;> simp
theorem line63 : (sizeLine : Nat) < 2 ^ 63 := by rw [sizeLine_eq]; decide
theorem tru_ok : TruR X (fun x H Q => ∃ k, TruV X.K x H k ∧ Q k H) := by
  intro pins s σ H x v Q I rx h
  obtain ⟨k, e, q⟩ := h
  have hl := line63
  have hs : sizeLine = 16777216 := sizeLine_eq
  cases x with
  | non =>
    cases rx
    have e' : k = false := e
    subst e'
    exact truthy_none ⟨H, I, q⟩
  | bl b =>
    cases rx
    have e' : k = b := e
    subst e'
    exact wpAny_truthy_bool ⟨H, I, q⟩
  | int i =>
    obtain ⟨t, rfl⟩ := rx
    have e' : k = (i != 0) := e
    subst e'
    exact PySem.P.truthy_int ⟨H, I, q⟩
  | str y =>
    obtain ⟨t, rfl⟩ := rx
    obtain ⟨hy, e'⟩ : y.length ≤ sizeLine ∧ k = ((y.length : Int) != 0) := e
    subst e'
    exact PySem.P.truthy_str (by omega) ⟨H, I.tok _, q⟩
  | byt y =>
    obtain ⟨t, rfl⟩ := rx
    obtain ⟨hy, e'⟩ : y.size ≤ sizeLine ∧ k = ((y.size : Int) != 0) := e
    subst e'
    exact PySem.W.truthy_bytes (by omega) ⟨H, I.tok _, q⟩
  | ref p =>
    cases rx
    have e' : (∃ xs, SqL X.K H p xs ∧ k = !xs.isEmpty) ∨ (∃ xs, SqT X.K H p xs ∧ k = !xs.isEmpty) ∨ ∃ kvs, H p = some (.dK kvs) ∧ k = !kvs.isEmpty := e
    rcases e' with ⟨xs, hx, e'⟩ | ⟨xs, hx, e'⟩ | ⟨kvs, hx, e'⟩
    · subst e'
      obtain ⟨its, r, pl, hz⟩ := I.list hx
      have hlen := r.length
      exact wpAny_truthy_list pl.isList (by simp only [List.size_toArray]; omega) ⟨H, I.tok _, by rw [isEmpty_of r]; exact q⟩
    · subst e'
      obtain ⟨its, r, pl, hz⟩ := I.tuple hx
      have hlen := r.length
      exact truthy_tuple pl (by simp only [List.size_toArray]; omega) ⟨H, I.tok _, by rw [isEmpty_of r]; exact q⟩
    · subst e'
      obtain ⟨hz, hS, vs, r, m⟩ : kvs.length ≤ sizeLine ∧ (p == sysModules) = false ∧ ∃ vs, KV kvs vs ∧ s.heap.DictOf (mixKind X.prog X.w) p vs := I.hok p _ hx
      have hlen : kvs.length = vs.length := Paired.length r
      exact wpAny_truthy_dict hS m (by omega) ⟨H, I.tok _, by rw [isEmpty_kv r]; exact q⟩
  | _ => exact (show False from e).elim
/-- any expression whose test is its value's truth (a name, a call, a subscript, a field ..: he by fun _ => rfl) -/
theorem pt_truth (ha : PE X a ta) (he : ∀ whole, isTrue a X.env whole = (do let v ← whole; standAt a.pos; holding [v] (truthy v))) :
    PT X a (fun σ H Q => ta σ H fun x H' => ∃ k, TruV X.K x H' k ∧ Q k H') := by
  intro pins s σ H Q I h
  exact isTrue_plain (thn (ha pins s σ H _ I h) fun v s1 ⟨x, H1, I1, r1, q1⟩ => tru_ok pins s1 σ H1 x v Q I1 r1 q1) (he _)

/-! ### strs and bytes -/
theorem pe_byt {x : List UInt8} {k : Nat} : PE X (.Constant (.bytes x) k pos) (fun _ H Q => Q (.byt x.toArray) H) := fun _ _ _ H _ I h => PySem.W.Constant_bytes ⟨.byt x.toArray, H, I.tok _, ⟨_, rfl⟩, h⟩
theorem op_add_str : OpR X (binaryOp .Add) (fun x y H Q => ∃ i j, x = .str i ∧ y = .str j ∧ i.length + j.length ≤ sizeLine ∧ Q (.str (i ++ j)) H) := by
  intro pins s σ H x y v u Q I rx ry h
  obtain ⟨i, j, rfl, rfl, hz, q⟩ := h
  obtain ⟨t, rfl⟩ := rx
  obtain ⟨t', rfl⟩ := ry
  exact add_str (fun t' tk => ⟨.str (i ++ j), H, I.tok _, ⟨_, rfl⟩, q⟩) hz
theorem iop_add_str : OpR X (inplaceOp .Add) (fun x y H Q => ∃ i j, x = .str i ∧ y = .str j ∧ i.length + j.length ≤ sizeLine ∧ Q (.str (i ++ j)) H) := by
  intro pins s σ H x y v u Q I rx ry h
  obtain ⟨i, j, rfl, rfl, hz, q⟩ := h
  obtain ⟨t, rfl⟩ := rx
  obtain ⟨t', rfl⟩ := ry
  exact iadd_str (fun t' tk => ⟨.str (i ++ j), H, I.tok _, ⟨_, rfl⟩, q⟩) hz
theorem op_add_byt : OpR X (binaryOp .Add) (fun x y H Q => ∃ i j, x = .byt i ∧ y = .byt j ∧ i.size + j.size ≤ 16777216 ∧ Q (.byt (i ++ j)) H) := by
  intro pins s σ H x y v u Q I rx ry h
  obtain ⟨i, j, rfl, rfl, hz, q⟩ := h
  obtain ⟨t, rfl⟩ := rx
  obtain ⟨t', rfl⟩ := ry
  exact PySem.W.KBy.add_bytes hz (fun t' tk => ⟨.byt (i ++ j), H, I.tok _, ⟨_, rfl⟩, q⟩)

def PlainIxT (b : Expr) : Prop := ∀ o i, subscripted b false o i = operate [o, i] (getItem o i)
/-- s[i], 0 ≤ i < len -/
theorem pe_item_str (ha : PE X a ta) (hb : PE X b tb) (hs : PlainIxT b) :
    PE X (.Subscript a b pos) (tOp (fun x y H Q => ∃ z i c, x = .str z ∧ y = .int i ∧ 0 ≤ i ∧ i < 2 ^ 63 ∧ i < z.length ∧ z.cps[i.toNat]? = some c ∧ Q (.str ⟨#[c]⟩) H) ta tb) := by
  intro pins s σ H Q I h
  refine Subscript_ (binT ha hb I h fun v u s2 x y H2 I2 rx ry q => ?_)
  obtain ⟨z, i, c, rfl, rfl, h0, h63, h1, hc, q⟩ := q
  obtain ⟨t, rfl⟩ := rx
  obtain ⟨t', rfl⟩ := ry
  have e : seqIndex? i z.length = some i.toNat := PySem.StrLaws.seqIndex_nonneg h0 h1
  exact tail_any (typeIs_str s2 z t) slot_str_getitem.lookup (getItem_str (c := c) (by
    have e1 : decide (i < -(2 ^ 63 : Int)) = false := decide_eq_false (by omega)
    have e2 : decide (i ≥ 2 ^ 63) = false := decide_eq_false (by omega)
    rw [e1, e2] <;> rfl) (by rw [e]; exact hc) ⟨.str ⟨#[c]⟩, H2, I2.tok _, ⟨_, rfl⟩, q⟩) (hs _ _)
/-- b[i], 0 ≤ i < len -/
theorem pe_item_byt (ha : PE X a ta) (hb : PE X b tb) (hs : PlainIxT b) :
    PE X (.Subscript a b pos) (tOp (fun x y H Q => ∃ (z : List UInt8) (i : Int), x = .byt z.toArray ∧ y = .int i ∧ z.length ≤ sizeLine ∧ 0 ≤ i ∧ i < z.length ∧ Q (.int ((z.getD i.toNat 0).toNat : Nat)) H) ta tb) := by
  intro pins s σ H Q I h
  refine Subscript_ (binT ha hb I h fun v u s2 x y H2 I2 rx ry q => ?_)
  obtain ⟨z, i, rfl, rfl, hz, h0, h1, q⟩ := q
  obtain ⟨t, rfl⟩ := rx
  obtain ⟨t', rfl⟩ := ry
  have hl : sizeLine = 16777216 := sizeLine_eq
  exact tail_any (PySem.W.typeIs_bytes s2 z.toArray t) PySem.W.FB.slot_bytes_getitem.lookup (PySem.W.getItem_bytes (by omega) h0 h1 ⟨.int ((z.getD i.toNat 0).toNat : Nat), H2, I2.tok _, ⟨_, rfl⟩, q⟩) (hs _ _)

/-! ### scalar builtins, by CallR -/
theorem vals1 {x : V} {us : List Value} (r : Vals [x] us) : ∃ u, us = [u] ∧ RelV x u := by
  cases r with
  | cons r1 r2 => cases r2; exact ⟨_, rfl, r1⟩
theorem vals2 {x y : V} {us : List Value} (r : Vals [x, y] us) : ∃ u w', us = [u, w'] ∧ RelV x u ∧ RelV y w' := by
  cases r with
  | cons r1 r2 =>
    cases r2 with
    | cons r3 r4 => cases r4; exact ⟨_, _, rfl, r1, r3⟩
theorem call_abs : CallR X (.builtin "abs") (fun xs H Q => ∃ i, xs = [.int i] ∧ Q (.int (if i < 0 then -i else i)) H) := by
  intro pins s σ H xs us Q I r h
  obtain ⟨i, rfl, q⟩ := h
  obtain ⟨u, rfl, t, rfl⟩ := vals1 r
  exact call_abs_int fun u tk => ⟨.int (if i < 0 then -i else i), H, I.tok _, ⟨_, rfl⟩, q⟩
theorem call_max2 (hc : X.calm = true) : CallR X (.builtin "max") (fun xs H Q => ∃ i j, xs = [.int i, .int j] ∧ Q (.int (if j > i then j else i)) H) := by
  intro pins s σ H xs us Q I r h
  obtain ⟨i, j, rfl, q⟩ := h
  obtain ⟨u, w', rfl, ⟨t, rfl⟩, ⟨t', rfl⟩⟩ := vals2 r
  refine max_two_ints (I.ok.hd hc) fun h' tk k => ⟨_, H, I.kept k, ?_, q⟩
  by_cases hj : j > i
  · rw [if_pos hj, if_pos hj]; exact ⟨_, rfl⟩
  · rw [if_neg hj, if_neg hj]; exact ⟨_, rfl⟩
theorem call_min2 (hc : X.calm = true) : CallR X (.builtin "min") (fun xs H Q => ∃ i j, xs = [.int i, .int j] ∧ Q (.int (if j < i then j else i)) H) := by
  intro pins s σ H xs us Q I r h
  obtain ⟨i, j, rfl, q⟩ := h
  obtain ⟨u, w', rfl, ⟨t, rfl⟩, ⟨t', rfl⟩⟩ := vals2 r
  refine min_two_ints (I.ok.hd hc) fun h' tk k => ⟨_, H, I.kept k, ?_, q⟩
  by_cases hj : j < i
  · rw [if_pos hj, if_pos hj]; exact ⟨_, rfl⟩
  · rw [if_neg hj, if_neg hj]; exact ⟨_, rfl⟩
theorem call_int1 : CallR X (.type "int") (fun xs H Q => (∃ i, xs = [.int i] ∧ Q (.int i) H) ∨ ∃ k, xs = [.bl k] ∧ Q (.int (if k then 1 else 0)) H) := by
  intro pins s σ H xs us Q I r h
  rcases h with ⟨i, rfl, q⟩ | ⟨k, rfl, q⟩
  · obtain ⟨u, rfl, t, rfl⟩ := vals1 r
    exact call_int_int ⟨.int i, H, I, ⟨_, rfl⟩, q⟩
  · obtain ⟨u, rfl, r1⟩ := vals1 r
    cases r1
    exact call_int_bool ⟨.int (if k then 1 else 0), H, I.tok _, ⟨_, rfl⟩, q⟩
theorem call_bool1 : CallR X (.type "bool") (fun xs H Q => (∃ i, xs = [.int i] ∧ Q (.bl (i != 0)) H) ∨ ∃ k, xs = [.bl k] ∧ Q (.bl k) H) := by
  intro pins s σ H xs us Q I r h
  rcases h with ⟨i, rfl, q⟩ | ⟨k, rfl, q⟩
  · obtain ⟨u, rfl, t, rfl⟩ := vals1 r
    exact call_bool_int ⟨.bl (i != 0), H, I, rfl, q⟩
  · obtain ⟨u, rfl, r1⟩ := vals1 r
    cases r1
    exact call_bool_bool ⟨.bl k, H, I, rfl, q⟩
theorem call_str_int : CallR X (.type "str") (fun xs H Q => ∃ i, xs = [.int i] ∧ i.natAbs.log2 < 1920 ∧ Q (.str (toString i)) H) := by
  intro pins s σ H xs us Q I r h
  obtain ⟨i, rfl, hz, q⟩ := h
  obtain ⟨u, rfl, t, rfl⟩ := vals1 r
  exact PySem.P.str_of_int hz ⟨.str _, H, I.tok _, ⟨_, rfl⟩, q⟩
theorem call_ord : CallR X (.builtin "ord") (fun xs H Q => ∃ x, xs = [.str x] ∧ x.length = 1 ∧ Q (.int (x.cps.getD 0 0 : Nat)) H) := by
  intro pins s σ H xs us Q I r h
  obtain ⟨x, rfl, hz, q⟩ := h
  obtain ⟨u, rfl, t, rfl⟩ := vals1 r
  exact ord_of_one hz ⟨.int _, H, I.tok _, ⟨_, rfl⟩, q⟩
theorem call_chr : CallR X (.builtin "chr") (fun xs H Q => ∃ i, xs = [.int i] ∧ 0 ≤ i ∧ i ≤ 1114111 ∧ Q (.str ⟨#[i.toNat]⟩) H) := by
  intro pins s σ H xs us Q I r h
  obtain ⟨i, rfl, h0, h1, q⟩ := h
  obtain ⟨u, rfl, t, rfl⟩ := vals1 r
  exact chr_of_range h0 h1 ⟨.str _, H, I.tok _, ⟨_, rfl⟩, q⟩
/-- len of a str, a bytes, a list, a tuple -/
def LenV (K : PySem.W.Frag) (x : V) (H : Hp) (n : Nat) : Prop :=
  match x with
  | .str y => y.length ≤ sizeLine ∧ n = y.length
  | .byt y => y.size ≤ sizeLine ∧ n = y.size
  | .ref p => (∃ xs, SqL K H p xs ∧ n = xs.length) ∨ ∃ xs, SqT K H p xs ∧ n = xs.length
  | _ => False
theorem call_len : CallR X (.builtin "len") (fun xs H Q => ∃ x n, xs = [x] ∧ LenV X.K x H n ∧ Q (.int n) H) := by
  intro pins s σ H xs us Q I r h
  obtain ⟨x, n, rfl, e, q⟩ := h
  obtain ⟨u, rfl, rx⟩ := vals1 r
  have hl := line63
  have hs : sizeLine = 16777216 := sizeLine_eq
  cases x with
  | str y =>
    obtain ⟨t, rfl⟩ := rx
    obtain ⟨hy, e'⟩ : y.length ≤ sizeLine ∧ n = y.length := e
    subst e'
    exact len_str (by omega) ⟨.int _, H, I.tok _, ⟨_, rfl⟩, q⟩
  | byt y =>
    obtain ⟨t, rfl⟩ := rx
    obtain ⟨hy, e'⟩ : y.size ≤ sizeLine ∧ n = y.size := e
    subst e'
    exact PySem.W.len_bytes (by omega) ⟨.int _, H, I.tok _, ⟨_, rfl⟩, q⟩
  | ref p =>
    cases rx
    have e' : (∃ xs, SqL X.K H p xs ∧ n = xs.length) ∨ ∃ xs, SqT X.K H p xs ∧ n = xs.length := e
    rcases e' with ⟨xs, hx, e'⟩ | ⟨xs, hx, e'⟩
    · subst e'
      obtain ⟨its, r', pl, hz⟩ := I.list hx
      have hlen := r'.length
      exact Calls.call_len_list pl.isList (by simp only [List.size_toArray]; omega) ⟨.int xs.length, H, I.tok _, ⟨_, by simp only [List.size_toArray]; rw [hlen]⟩, q⟩
    · subst e'
      obtain ⟨its, r', pl, hz⟩ := I.tuple hx
      have hlen := r'.length
      exact len_tuple pl (by simp only [List.size_toArray]; omega) ⟨.int xs.length, H, I.tok _, ⟨_, by simp only [List.size_toArray]; rw [hlen]⟩, q⟩
  | _ => exact (show False from e).elim
/-- divmod: a new tuple -/
theorem call_divmod : CallR X (.builtin "divmod") (fun xs H Q => ∃ i j, xs = [.int i, .int j] ∧ CDiv i j ∧ ∀ p, H p = none → Q (.ref p) (upd H p (.tup [.int (i / j), .int (i % j)]))) := by
  intro pins s σ H xs us Q I r h
  obtain ⟨i, j, rfl, ⟨h1, h2⟩, q⟩ := h
  obtain ⟨u, w', rfl, ⟨t, rfl⟩, ⟨t', rfl⟩⟩ := vals2 r
  refine divmod_int (by omega) ?_ (.inl (PyProof.noPylong_small (by omega)))
  rw [Int.fdiv_eq_ediv_of_nonneg i (by omega), Int.fmod_eq_emod_of_nonneg i (by omega)]
  have hn : H s.heap.objs.size = none := I.hok.fresh (Nat.le_refl _)
  refine ⟨.ref s.heap.objs.size, _, ?_, rfl, q _ hn⟩
  refine I.laid (fun b o e => Heap.get?_push_of_some _ e) (Nat.le_refl _) ⟨by simp only [List.length_cons, List.length_nil]; rw [sizeLine_eq]; decide, [.int (i / j) s.toks, .int (i % j) (s.toks + 1)], .cons ⟨_, rfl⟩ (.cons ⟨_, rfl⟩ .nil), ?_⟩
  exact ⟨_, Heap.get?_push_size s.heap rfl, rfl, 0, rfl⟩
end
end L2

namespace L2
open PySem PySem.Spec PyProof.Rows

/-! ### an instance, its attributes a map -/
structure ObjM (h : Heap) (x dx C : Addr) (mA : Str → Option Value) : Prop where
  obj : h.get? x = some (PySem.W.instObj C dx)
  ns : h.Ns1 dx mA
  ne : dx ≠ x

theorem lookIn_ns {h : Heap} {dx : Addr} {mA : Str → Option Value} (n : h.Ns1 dx mA) : ∃ od, h.get? dx = some od ∧ ∀ name, PySem.W.lookIn name od = some (mA name) := by
  obtain ⟨o, es, ep, ho, hd, hk, _, hm⟩ := n
  refine ⟨o, ho, fun name => ?_⟩
  have e := hm name
  unfold nsFind findBy at e
  rw [← Array.find?_toList] at e
  unfold PySem.W.lookIn
  rw [hd]
  dsimp only
  split
  · rename_i y q
    rw [q] at e
    exact congrArg some e
  · rename_i q
    rw [q] at e
    have a : es.toList.any (·.refKey) = false := by
      rw [List.any_eq_false]
      intro y hy
      obtain ⟨z, t, hkey⟩ := hk y (Array.mem_toList_iff.mp hy)
      simp [DictEntry.refKey, hkey]
    have a' : ¬ es.toList.any (·.refKey) = true := by rw [a]; exact Bool.false_ne_true
    rw [if_neg a']
    exact congrArg some e

theorem ObjM.look {h : Heap} {x dx C : Addr} {mA : Str → Option Value} (I : ObjM h x dx C mA) : ∃ od, PySem.W.InstAt h x (PySem.W.instObj C dx) C (some od) ∧ ∀ name, PySem.W.lookIn name od = some (mA name) :=
  let ⟨od, ho, hl⟩ := lookIn_ns I.ns
  ⟨od, ⟨I.obj, rfl, rfl, ho⟩, hl⟩

section
variable {prog : Program} {w : World} {A : Around} {E : Value → Shared → Prop} {s : Shared} {K : PySem.W.Frag} {x dx C f : Addr} {mA : Str → Option Value} {name : Str} {v : Value}

theorem get_map {expr : Bool} {Q : Value → Shared → Prop} (X : K.In s.heap) (I : ObjM s.heap x dx C mA) (hg : PySem.W.plainGet K C name = true) (hh : PySem.W.hasDictIn K C = true)
    (ha : PySem.W.findIn K (.ref C) name = some none) (hv : mA name = some v) (hv' : PySem.W.handedIn v = true) (h : Q v { s with toks := s.toks + 1 }) :
    wpAny (model prog w) A (getAttr (.ref x) name expr) Q E s := by
  obtain ⟨od, J, hl⟩ := I.look
  exact PySem.W.get_value X J (PySem.W.plainGet_of hg).1 (PySem.W.findObj_own hh ha rfl (by rw [hl, hv])) hv' h

theorem get_const {expr : Bool} {a : Value} {Q : Value → Shared → Prop} (X : K.In s.heap) (I : ObjM s.heap x dx C mA) (hg : PySem.W.plainGet K C name = true) (hh : PySem.W.hasDictIn K C = true)
    (ha : PySem.W.findIn K (.ref C) name = some (some a)) (hn : PySem.W.specialIn K a "__get__" = some none) (hc : PySem.W.copiedNames.contains name = false) (hv : mA name = none) (hv' : PySem.W.handedIn a = true)
    (h : Q a { s with toks := s.toks + 1 }) : wpAny (model prog w) A (getAttr (.ref x) name expr) Q E s := by
  obtain ⟨od, J, hl⟩ := I.look
  exact PySem.W.get_value X J (PySem.W.plainGet_of hg).1 (PySem.W.findObj_cls hh ha hn hv' hc (by rw [hl, hv])) hv' h

theorem get_meth {pl : Sem Bool} {Q : Value × List Value → Shared → Prop} (X : K.In s.heap) (I : ObjM s.heap x dx C mA) (hg : PySem.W.plainGet K C name = true)
    (hf : PySem.W.findIn K (.ref C) name = some (some (.ref f))) (ht : PySem.W.isFn K (.ref f) = true) (hv : mA name = none) (h : Q (.ref f, [.ref x]) s) :
    wpAny (model prog w) A (getMethod (.ref x) name pl) Q E s := by
  obtain ⟨od, J, hl⟩ := I.look
  exact PySem.W.method_fn X J (PySem.W.plainGet_of hg).1 (PySem.W.plainGet_of hg).2 hf (beq_iff_eq.mp ht) (by show (PySem.W.lookIn name od).map (·.isSome) = some false; rw [hl, hv]; rfl) h

theorem set_map {ns : List Str} {Q : Unit → Shared → Prop} (X : K.In s.heap) (I : ObjM s.heap x dx C mA)
    (hs : PySem.W.findIn K (.ref C) "__setattr__" = some (some (.builtin "object.__setattr__"))) (hp : PySem.W.plainOver K C = true) (ht : PySem.W.takerIn K C name = some none) (hh : PySem.W.hasDictIn K C = true)
    (hw : PySem.Within mA ns) (hsz : ns.length ≤ sizeLine)
    (h : ∀ h', ObjM h' x dx C (fun y => if y = name then some v else mA y) → Heap.SameBut dx s.heap h' → Q () { s with heap := h', toks := s.toks + 2 }) :
    wpAny (model prog w) A (setAttr (.ref x) name v) Q E s := by
  obtain ⟨od, J, hl⟩ := I.look
  refine PySem.W.set_plain X J hs (PySem.W.osa_open (s := { s with toks := s.toks + 1 }) (r := none) X J hp ht fun b => ?_)
  obtain ⟨cd, hc, hd'⟩ := PySem.W.any_some hh
  have hx : s.heap.get? x = some ⟨.ref C, some dx, .plain, #[]⟩ := I.obj
  refine wpAny_bind (wpAny_pure (wpAny_bind (wpAny_bind (wpAny_loadPart hx (wpAny_bind (PySem.W.Looks.here (s := { s with toks := s.toks + 1 }) (PySem.W.looks_clsIn X hc) ?_))))))
  rw [hd']
  refine wpAny_pure (a := some dx) (wpAny_bind (wpAny_pure (wpAny_bind ?_)))
  refine wpAny_nsSet1 (s := { s with toks := s.toks + 1 }) I.ns fun h' hn2 hs2 => ?_
  obtain ⟨oD, esD, epD, hoD, hdD, hcD⟩ := hn2.count (PySem.Within.cons name v hw)
  refine wpAny_bind (wpAny_lookBehind hoD (by rw [hdD]; exact pastItsLine_dict (Nat.le_trans hcD (by rw [List.length_cons]; omega))) ?_)
  exact wpAny_pure (h _ ⟨(hs2.2 _ (Ne.symm I.ne)).trans I.obj, hn2, I.ne⟩ hs2)

/-- C(..): the dict at the heap's end, the instance behind it; then its __init__ -/
theorem make_map {R : Result → Shared → Prop} {vs : List Value} {kw : List (Str × Value)} (X : K.In s.heap) (hm : PySem.W.makesIn K C = true)
    (hi : PySem.W.findIn K (.ref C) "__init__" = some (some (.ref f))) (hf : PySem.W.typeIn K (.ref f) = some (.type "function"))
    (h : codeAny (model prog w) (A.under (.builtin "type.__call__" ⟨.ref C :: vs, kw⟩)) (.call (.ref f) ⟨.ref (s.heap.objs.size + 1) :: vs, kw⟩) (PySem.W.InitBack (s.heap.objs.size + 1) R)
      { s with heap := (s.heap.push PySem.W.emptyDict).push (PySem.W.instObj C s.heap.objs.size) }) :
    codeAny (model prog w) A (.call (.ref C) ⟨vs, kw⟩) R s := by
  obtain ⟨hh, g, d, t, os⟩ := s
  exact PySem.W.make_core (PySem.W.makes_of X hm) (PySem.W.looks_findIn X hi) (fun self => PySem.W.bind_fn X self hf) (.inl rfl) h
/-- C() where there is no __init__ but object's -/
theorem make_map0 {R : Result → Shared → Prop} (X : K.In s.heap) (hm : PySem.W.makesIn K C = true)
    (hi : PySem.W.findIn K (.ref C) "__init__" = some (some (.builtin "object.__init__")))
    (hb : ∀ self, PySem.W.Looks (model prog w) s.heap (bindSpecial (.builtin "object.__init__") self) (.builtin "object.__init__", [self]))
    (h : codeAny (model prog w) (A.under (.builtin "type.__call__" ⟨[.ref C], []⟩)) (.call (.builtin "object.__init__") ⟨[.ref (s.heap.objs.size + 1)], []⟩) (PySem.W.InitBack (s.heap.objs.size + 1) R)
      { s with heap := (s.heap.push PySem.W.emptyDict).push (PySem.W.instObj C s.heap.objs.size) }) :
    codeAny (model prog w) A (.call (.ref C) ⟨[], []⟩) R s := by
  obtain ⟨hh, g, d, t, os⟩ := s
  exact PySem.W.make_core (PySem.W.makes_of X hm) (PySem.W.looks_findIn X hi) hb (.inr ⟨rfl, rfl⟩) h
end

/-! ### the attributes as a list of pairs -/
def putF (f : Str) (v : V) : List (Str × V) → List (Str × V)
  | [] => [(f, v)]
  | (g, x) :: r => if g = f then (g, v) :: r else (g, x) :: putF f v r
theorem lookup_putF (f g : Str) (v : V) : ∀ fs : List (Str × V), (putF f v fs).lookup g = if g = f then some v else fs.lookup g
  | [] => by
    show List.lookup g [(f, v)] = _
    by_cases h : g = f
    · have hb : (g == f) = true := beq_iff_eq.mpr h
      simp only [List.lookup, hb, if_pos h]
    · have hb : (g == f) = false := beq_eq_false_iff_ne.mpr h
      simp only [List.lookup, hb, if_neg h]
  | (k, x) :: r => by
    have ih := lookup_putF f g v r
    rw [show putF f v ((k, x) :: r) = (if k = f then (k, v) :: r else (k, x) :: putF f v r) from rfl]
    by_cases hk : k = f
    · rw [if_pos hk]
      by_cases h : g = k
      · have hb : (g == k) = true := beq_iff_eq.mpr h
        simp only [List.lookup, hb, if_pos (h.trans hk)]
      · have hb : (g == k) = false := beq_eq_false_iff_ne.mpr h
        simp only [List.lookup, hb, if_neg (fun e : g = f => h (e.trans hk.symm))]
    · rw [if_neg hk]
      by_cases h : g = k
      · have hb : (g == k) = true := beq_iff_eq.mpr h
        simp only [List.lookup, hb, if_neg (fun e : g = f => hk (h.symm.trans e))]
      · have hb : (g == k) = false := beq_eq_false_iff_ne.mpr h
        simp only [List.lookup, hb]
        exact ih
theorem keys_putF (f : Str) (v : V) : ∀ fs : List (Str × V), f ∈ (putF f v fs).map (·.1) ∧ ∀ g, g ∈ fs.map (·.1) → g ∈ (putF f v fs).map (·.1)
  | [] => ⟨by simp [putF], fun g h => by simp at h⟩
  | (k, x) :: r => by
    obtain ⟨i1, i2⟩ := keys_putF f v r
    rw [show putF f v ((k, x) :: r) = (if k = f then (k, v) :: r else (k, x) :: putF f v r) from rfl]
    by_cases hk : k = f
    · rw [if_pos hk]
      subst hk
      exact ⟨by simp, fun g h => by simpa using h⟩
    · rw [if_neg hk]
      refine ⟨?_, fun g h => ?_⟩
      · rw [List.map_cons]
        exact List.mem_cons_of_mem _ i1
      · rw [List.map_cons] at h ⊢
        rcases List.mem_cons.mp h with e | e
        · exact List.mem_cons.mpr (.inl e)
        · exact List.mem_cons_of_mem _ (i2 g e)
theorem length_putF (f : Str) (v : V) : ∀ fs : List (Str × V), (putF f v fs).length ≤ fs.length + 1
  | [] => by simp [putF]
  | (k, x) :: r => by
    have ih := length_putF f v r
    rw [show putF f v ((k, x) :: r) = (if k = f then (k, v) :: r else (k, x) :: putF f v r) from rfl]
    by_cases hk : k = f
    · rw [if_pos hk, List.length_cons, List.length_cons]; omega
    · rw [if_neg hk, List.length_cons, List.length_cons]; omega

theorem RelO.some_of {v : V} {o : Option Value} (r : RelO (some v) o) : ∃ u, o = some u ∧ RelV v u := by
  cases o with
  | none => exact (show False from r).elim
  | some u => exact ⟨u, rfl, r⟩
theorem RelO.none_of {o : Option Value} (r : RelO none o) : o = none := by
  cases o with
  | none => rfl
  | some u => exact (show False from r).elim
theorem handed_of {v : V} {u : Value} (r : RelV v u) : PySem.W.handedIn u = true := by
  cases v with
  | non => cases (show u = Value.none from r); rfl
  | bl b => cases (show u = Value.bool b from r); rfl
  | int i => obtain ⟨t, e⟩ := (show ∃ t, u = Value.int i t from r); cases e; rfl
  | str x => obtain ⟨t, e⟩ := (show ∃ t, u = Value.str x t from r); cases e; rfl
  | byt b => obtain ⟨t, e⟩ := (show ∃ t, u = Value.bytes b t from r); cases e; rfl
  | flt b => obtain ⟨t, e⟩ := (show ∃ t, u = Value.float b t from r); cases e; rfl
  | ref a => cases (show u = Value.ref a from r); rfl
  | ty n => cases (show u = Value.type n from r); rfl

section
variable {P : Program} {w : World} {H H' : Hp} {h h' : Heap} {a C dx : Addr} {fs fs' : List (Str × V)}
theorem ins_get (hok : HOk P w H h) (e : H a = some (.ins C dx fs)) : ∃ mA, ObjM h a dx C mA ∧ (∀ f, RelO (fs.lookup f) (mA f)) ∧ PySem.Within mA (fs.map (·.1)) ∧ fs.length ≤ 1000 ∧ H dx = some (.own a) := by
  obtain ⟨d, z, ne, ob, mA, n, r, q⟩ := (show ObjOk P w H h a (.ins C dx fs) from hok a _ e)
  exact ⟨mA, ⟨ob, n, ne⟩, r, q, z, d⟩
end

/-! ### what of the text a class must have -/
structure Cls (K : PySem.W.Frag) (C : Addr) : Prop where
  pg : PySem.W.plainGet K C Str.empty = true
  hd : PySem.W.hasDictIn K C = true
  po : PySem.W.plainOver K C = true
  sa : PySem.W.findIn K (.ref C) "__setattr__" = some (some (.builtin "object.__setattr__"))
theorem Cls.get {K : PySem.W.Frag} {C : Addr} (c : Cls K C) (f : Str) : PySem.W.plainGet K C f = true := c.pg
/-- no class of it has the name -/
def NoAttr (K : PySem.W.Frag) (C : Addr) (f : Str) : Prop := PySem.W.findIn K (.ref C) f = some none
theorem NoAttr.taker {K : PySem.W.Frag} {C : Addr} {f : Str} (n : NoAttr K C f) : PySem.W.takerIn K C f = some none := by
  unfold PySem.W.takerIn
  rw [show PySem.W.findIn K (.ref C) f = some none from n]
  rfl
/-- a constant of the class -/
structure Con (K : PySem.W.Frag) (C : Addr) (f : Str) (v : V) (u : Value) : Prop where
  at_ : PySem.W.findIn K (.ref C) f = some (some u)
  rel : RelV v u
  get : PySem.W.specialIn K u "__get__" = some none
  cp : PySem.W.copiedNames.contains f = false
/-- a method: a plain def of the class or of one above it -/
structure Meth (K : PySem.W.Frag) (C : Addr) (m : Str) (f : Addr) : Prop where
  at_ : PySem.W.findIn K (.ref C) m = some (some (.ref f))
  fn : PySem.W.isFn K (.ref f) = true
  kp : PySem.W.keepIn K (.ref f) = true

section
variable {X : Cx} {pins : List (Addr × Obj)} {σ : St} {H : Hp} {s : Shared} {a C dx : Addr} {fs : List (Str × V)} {f : Str} {v : V} {A : Around} {E : Value → Shared → Prop}

theorem getattr_ok {b : Bool} {Q : Value → Shared → Prop} (I : Inv X pins σ H s) (e : H a = some (.ins C dx fs)) (c : Cls X.K C) (n : NoAttr X.K C f) (l : fs.lookup f = some v)
    (h : ∀ u s', Inv X pins σ H s' → RelV v u → Q u s') : wpAny (model X.prog X.w) A (getAttr (.ref a) f b) Q E s := by
  obtain ⟨mA, O, r, _, _, _⟩ := ins_get I.hok e
  obtain ⟨u, hu, ru⟩ := RelO.some_of (v := v) (o := mA f) (by rw [← l]; exact r f)
  exact get_map I.kIn O (c.get f) c.hd n hu (handed_of ru) (h u _ (I.tok _) ru)

theorem getcon_ok {b : Bool} {u : Value} {Q : Value → Shared → Prop} (I : Inv X pins σ H s) (e : H a = some (.ins C dx fs)) (c : Cls X.K C) (k : Con X.K C f v u) (l : fs.lookup f = none)
    (h : ∀ s', Inv X pins σ H s' → Q u s') : wpAny (model X.prog X.w) A (getAttr (.ref a) f b) Q E s := by
  obtain ⟨mA, O, r, _, _, _⟩ := ins_get I.hok e
  have hn : mA f = none := RelO.none_of (by rw [← l]; exact r f)
  exact get_const I.kIn O (c.get f) c.hd k.at_ k.get k.cp hn (handed_of k.rel) (h _ (I.tok _))

theorem getmeth_ok {m : Str} {g : Addr} {pl : Sem Bool} {Q : Value × List Value → Shared → Prop} (I : Inv X pins σ H s) (e : H a = some (.ins C dx fs)) (c : Cls X.K C) (k : Meth X.K C m g) (l : fs.lookup m = none)
    (h : Q (.ref g, [.ref a]) s) : wpAny (model X.prog X.w) A (getMethod (.ref a) m pl) Q E s := by
  obtain ⟨mA, O, r, _, _, _⟩ := ins_get I.hok e
  have hn : mA m = none := RelO.none_of (by rw [← l]; exact r m)
  exact get_meth I.kIn O (c.get m) k.at_ k.fn hn h

theorem setattr_ok {y : V} {u : Value} {Q : Unit → Shared → Prop} (I : Inv X pins σ H s) (e : H a = some (.ins C dx fs)) (c : Cls X.K C) (n : NoAttr X.K C f) (hl : fs.length < 1000) (ry : RelV y u)
    (h : ∀ s', Inv X pins σ (upd H a (.ins C dx (putF f y fs))) s' → Q () s') : wpAny (model X.prog X.w) A (setAttr (.ref a) f u) Q E s := by
  obtain ⟨mA, O, r, wi, _, ho⟩ := ins_get I.hok e
  have hz : (fs.map (·.1)).length ≤ sizeLine := by rw [List.length_map, sizeLine_eq]; omega
  refine set_map I.kIn O c.sa c.po n.taker c.hd wi hz fun h' O' sb => h _ ?_
  have hd : ∃ o, h'.get? dx = some o := let ⟨o, _, _, e', _⟩ := O'.ns; ⟨o, e'⟩
  refine I.write (x := a) (e := dx) (by rw [e]; exact True.intro) (.inr ho) (fun b q hb z => (sb.2 b hb).trans z) hd ?_
  refine ⟨by rw [upd_ne O.ne]; exact ho, ?_, O.ne, O'.obj, _, O'.ns, fun g => ?_, fun g hg => ?_⟩
  · have := length_putF f y fs; omega
  · show RelO ((putF f y fs).lookup g) (if g = f then some u else mA g)
    rw [lookup_putF]
    by_cases q : g = f
    · rw [if_pos q, if_pos q]; exact ry
    · rw [if_neg q, if_neg q]; exact r g
  · by_cases q : g = f
    · rw [q]; exact (keys_putF f y fs).1
    · refine (keys_putF f y fs).2 g (wi g fun z => hg ?_)
      show (if g = f then some u else mA g) = none
      rw [if_neg q]; exact z

/-- a new instance, tracked, without attributes -/
theorem Inv.made (I : Inv X pins σ H s) : Inv X pins σ (upd (upd H s.heap.objs.size (.own (s.heap.objs.size + 1))) (s.heap.objs.size + 1) (.ins C s.heap.objs.size []))
    { s with heap := (s.heap.push PySem.W.emptyDict).push (PySem.W.instObj C s.heap.objs.size) } := by
  have e1 : (s.heap.push PySem.W.emptyDict).get? s.heap.objs.size = some PySem.W.emptyDict := Heap.get?_push_size s.heap rfl
  have e2 : ((s.heap.push PySem.W.emptyDict).push (PySem.W.instObj C s.heap.objs.size)).get? (s.heap.objs.size + 1) = some (PySem.W.instObj C s.heap.objs.size) := by
    have := Heap.get?_push_size (s.heap.push PySem.W.emptyDict) (o := PySem.W.instObj C s.heap.objs.size) rfl
    rwa [Heap.size_push] at this
  have e3 : (s.heap.push PySem.W.emptyDict).Ns s.heap.objs.size (fun _ => none) := ⟨PySem.W.emptyDict, #[], _, e1, rfl, (fun e he => absurd he (by simp)), fun _ => rfl⟩
  have I1 := I.laid (a := s.heap.objs.size) (o := .own (s.heap.objs.size + 1)) (h' := s.heap.push PySem.W.emptyDict) (t' := s.toks) (fun b u q => Heap.get?_push_of_some _ q) (Nat.le_refl _) ⟨_, e1⟩
  refine I1.laid (a := s.heap.objs.size + 1) (o := .ins C s.heap.objs.size []) (t' := s.toks) (fun b u q => Heap.get?_push_of_some _ q) (Nat.le_of_eq (Heap.size_push _ _)) ?_
  have ne : s.heap.objs.size ≠ s.heap.objs.size + 1 := Nat.ne_of_lt (Nat.lt_succ_self _)
  refine ⟨by rw [upd_ne ne, upd_same], Nat.zero_le _, ne, e2, fun _ => none, (Heap.Ns1.of_empty e3).at fun o q => Heap.get?_push_of_some _ q, fun _ => True.intro, fun y hy => absurd rfl hy⟩

/-- e.f where nothing but the object is asked: through attributeBase (super) and the last hold -/
theorem attr_of {prog : Program} {w : World} {env : Env} {e : Expr} {f : Str} {pos : Pos} {s : Shared} {Q : Value → Shared → Prop} (hb : attributeBase e f env (eval e env) = eval e env)
    (h : wpAny (model prog w) A (eval e env) (fun o s₁ => wpAny (model prog w) A (getAttr o f true) Q E s₁) E s) : wpAny (model prog w) A (eval (.Attribute e f pos) env) Q E s :=
  Attribute_any_ h (by rw [arm_eval_Attribute, hb])
end

/-! ### readings and rules -/
/-- e.f, an attribute of the instance -/
def tFld (K : PySem.W.Frag) (ta : TE) (f : Str) : TE := fun σ H Q => ta σ H fun x H1 => ∃ a C dx fs v, x = .ref a ∧ H1 a = some (.ins C dx fs) ∧ Cls K C ∧ NoAttr K C f ∧ fs.lookup f = some v ∧ Q v H1
/-- e.f, a constant of the class -/
def tCon (K : PySem.W.Frag) (ta : TE) (f : Str) : TE := fun σ H Q => ta σ H fun x H1 => ∃ a C dx fs v u, x = .ref a ∧ H1 a = some (.ins C dx fs) ∧ Cls K C ∧ Con K C f v u ∧ fs.lookup f = none ∧ Q v H1
/-- e.f = value -/
def sFld (K : PySem.W.Frag) (ta tv : TE) (f : Str) : TS := fun D σ H => tv σ H fun y H1 => ta σ H1 fun x H2 => ∃ a C dx fs, x = .ref a ∧ H2 a = some (.ins C dx fs) ∧ Cls K C ∧ NoAttr K C f ∧ fs.length < 1000 ∧
  D.nx σ (upd H2 a (.ins C dx (putF f y fs)))
/-- an augmented operator on two values -/
def InOp (X : Cx) (op : Operator) (rd : V → V → Hp → VK → Prop) : Prop :=
  ∀ (pins : List (Addr × Obj)) (s : Shared) (σ : St) (H : Hp) (x y : V) (u v : Value) (Q : VK), Inv X pins σ H s → RelV x u → RelV y v → rd x y H Q → wpAny (model X.prog X.w) X.A (inplaceOp op u v) (EP X pins σ Q) X.xe s
/-- e.f op= value -/
def sFldAug (K : PySem.W.Frag) (ta tv : TE) (rd : V → V → Hp → VK → Prop) (f : Str) : TS := fun D σ H => ta σ H fun x H1 => ∃ a C dx fs v, x = .ref a ∧ H1 a = some (.ins C dx fs) ∧ Cls K C ∧ NoAttr K C f ∧ fs.lookup f = some v ∧
  tv σ H1 fun y H2 => rd v y H2 fun z H3 => ∃ dx' fs', H3 a = some (.ins C dx' fs') ∧ fs'.length < 1000 ∧ D.nx σ (upd H3 a (.ins C dx' (putF f z fs')))

section
variable {X : Cx} {o e value : Expr} {f : Str} {pos pos' tpos : Pos} {ta tv : TE}
theorem pe_fld (he : PE X e ta) (hb : attributeBase e f X.env (eval e X.env) = eval e X.env) : PE X (.Attribute e f pos) (tFld X.K ta f) := by
  intro pins s σ H Q I h
  refine attr_of hb (thn (he pins s σ H _ I h) fun u s1 ⟨x, H1, I1, rx, a, C, dx, fs, v, ex, ea, c, n, l, q⟩ => ?_)
  subst ex
  obtain rfl : u = Value.ref a := rx
  exact getattr_ok I1 ea c n l fun u' s2 I2 ru => ⟨v, H1, I2, ru, q⟩
theorem pe_con (he : PE X e ta) (hb : attributeBase e f X.env (eval e X.env) = eval e X.env) : PE X (.Attribute e f pos) (tCon X.K ta f) := by
  intro pins s σ H Q I h
  refine attr_of hb (thn (he pins s σ H _ I h) fun u s1 ⟨x, H1, I1, rx, a, C, dx, fs, v, u0, ex, ea, c, k, l, q⟩ => ?_)
  subst ex
  obtain rfl : u = Value.ref a := rx
  exact getcon_ok I1 ea c k l fun s2 I2 => ⟨v, H1, I2, k.rel, q⟩
theorem ps_fld (ha : PE X o ta) (hv : PE X value tv) (hs : swapsWith value (some (.Attribute o f pos')) pos.line X.env = pure false) : PS X (.Assign [.Attribute o f pos'] value pos) (sFld X.K ta tv f) := by
  intro pins s σ H D I h
  refine plainObj_wpAny_Assign_Attribute (thn (hv pins s σ H _ I h) fun u s1 ⟨y, H1, I1, ry, q⟩ => thn (ha pins s1 σ H1 _ I1 q) fun ov s2 ⟨x, H2, I2, rx, a, C, dx, fs, ex, ea, c, n, l, q2⟩ => ?_) hs
  subst ex
  obtain rfl : ov = Value.ref a := rx
  exact setattr_ok I2 ea c n l ry fun s3 I3 => ⟨σ, _, I3, q2⟩
theorem ps_fldaug {op : Operator} {rd : V → V → Hp → VK → Prop} (ha : PE X o ta) (hv : PE X value tv) (hop : InOp X op rd) : PS X (.AugAssign (.Attribute o f tpos) op value pos) (sFldAug X.K ta tv rd f) := by
  intro pins s σ H D I h
  refine wpAny_AugAssign_AttributeAny (thn (ha pins s σ H _ I h) fun ov s1 ⟨x, H1, I1, rx, a, C, dx, fs, v, ex, ea, c, n, l, q⟩ => ?_)
  subst ex
  obtain rfl : ov = Value.ref a := rx
  refine getattr_ok I1 ea c n l fun u s2 I2 ru => thn (hv pins s2 σ H1 _ I2 q) fun w3 s3 ⟨y, H2, I3, ry, q3⟩ => thn (hop pins s3 σ H2 v y u w3 _ I3 ru ry q3) fun w4 s4 ⟨z, H3, I4, rz, dx', fs', ea', l', q4⟩ => ?_
  exact setattr_ok I4 ea' c n l' rz fun s5 I5 => ⟨σ, _, I5, q4⟩
def rAdd : V → V → Hp → VK → Prop := fun x y H Q => ∃ i j, x = .int i ∧ y = .int j ∧ Q (.int (i + j)) H
def rSub : V → V → Hp → VK → Prop := fun x y H Q => ∃ i j, x = .int i ∧ y = .int j ∧ Q (.int (i - j)) H
theorem in_add : InOp X .Add rAdd := by
  rintro pins s σ H x y u v Q I rx ry ⟨i, j, rfl, rfl, q⟩
  obtain ⟨t, rfl⟩ := (show ∃ t, u = Value.int i t from rx)
  obtain ⟨t', rfl⟩ := (show ∃ t', v = Value.int j t' from ry)
  exact PyProof.Rows.iadd_int ⟨.int (i + j), H, I.tok _, ⟨_, rfl⟩, q⟩
theorem in_sub : InOp X .Sub rSub := by
  rintro pins s σ H x y u v Q I rx ry ⟨i, j, rfl, rfl, q⟩
  obtain ⟨t, rfl⟩ := (show ∃ t, u = Value.int i t from rx)
  obtain ⟨t', rfl⟩ := (show ∃ t', v = Value.int j t' from ry)
  exact PyProof.Rows.isub_int ⟨.int (i - j), H, I.tok _, ⟨_, rfl⟩, q⟩

/-- what is between an instance and its method: the tree of a method call -/
theorem methcall_of {pl : Sem Bool} {m : Str} {apos : Pos} {args : List Expr} {pins : List (Addr × Obj)} {s : Shared} {σ : St} {H : Hp} {Q : Value → Shared → Prop} {te : TE} (he : PE X e te) (I : Inv X pins σ H s)
    (h : te σ H fun x H1 => ∃ a C dx fs g, x = .ref a ∧ H1 a = some (.ins C dx fs) ∧ Cls X.K C ∧ Meth X.K C m g ∧ fs.lookup m = none ∧
      ∀ s1, Inv X pins σ H1 s1 → wpAny (model X.prog X.w) X.A (callWith pos (.ref g) [.ref a] (backTo pos (starEach args X.env)) (backToKw pos (keywordEach [] X.env))) Q X.xe s1)
    (ht : eval (.Call (.Attribute e m apos) args [] pos) X.env = (do
      let ov ← eval e X.env
      standAt apos.atName
      let (f, first) ← holding [ov] (getMethod ov m pl)
      callWith pos f first (backTo pos (starEach args X.env)) (backToKw pos (keywordEach [] X.env)))) :
    wpAny (model X.prog X.w) X.A (eval (.Call (.Attribute e m apos) args [] pos) X.env) Q X.xe s := by
  refine PySem.W.methodCall_KW (pl := pl) (thn (he pins s σ H _ I h) fun u s1 ⟨x, H1, I1, rx, a, C, dx, fs, g, ex, ea, c, k, l, q⟩ => ?_) ht
  subst ex
  obtain rfl : u = Value.ref a := rx
  exact getmeth_ok I1 ea c k l (q s1 I1)
end

/-! ### isinstance -/
section
variable {X : Cx} {pins : List (Addr × Obj)} {σ : St} {H : Hp} {s : Shared} {A : Around} {E : Value → Shared → Prop} {Q : Value → Shared → Prop} {c : Value} {b : Bool}
/-- the type of a value, as the fragment's deciders take it; for an instance its class -/
inductive TyOf (K : PySem.W.Frag) (H : Hp) : V → Value → Prop where
  | non : TyOf K H .non (.type "NoneType")
  | bl (x : Bool) : TyOf K H (.bl x) (.type "bool")
  | int (i : Int) : TyOf K H (.int i) (.type "int")
  | str (x : Str) : TyOf K H (.str x) (.type "str")
  | flt (x : UInt64) : TyOf K H (.flt x) (.type "float")
  | lst {a : Addr} {xs : List V} (e : H a = some (.lst xs)) : TyOf K H (.ref a) (.type "list")
  | frz {a : Addr} {o : Obj} {xs : List V} (e : H a = some (.frz o (.lst xs))) : TyOf K H (.ref a) (.type "list")
  | tup {a : Addr} {xs : List V} (e : H a = some (.tup xs)) : TyOf K H (.ref a) (.type "tuple")
  | dK {a : Addr} {kvs : List (Key × V)} (e : H a = some (.dK kvs)) : TyOf K H (.ref a) (.type "dict")
  | dT {a : Addr} {kvs : List (List Key × V)} (e : H a = some (.dT kvs)) : TyOf K H (.ref a) (.type "dict")
  | ins {a C dx : Addr} {fs : List (Str × V)} (e : H a = some (.ins C dx fs)) (cl : Cls K C) (ha : PySem.W.findIn K (.ref C) "__class__" = some (some (.builtin "object.__class__")))
      (hn : PySem.W.specialIn K (.builtin "object.__class__") "__get__" = some (some (.builtin "getset_descriptor.__get__"))) (htk : PySem.W.takesIn K (.builtin "object.__class__") = some true)
      (hm : PySem.W.mroIn K C (.type "object") = some true) : TyOf K H (.ref a) (.ref C)
/-- isinstance(x, c) for one class c, a built-in or an own one: kitOne's answer -/
theorem isinst_ok {x : V} {u t : Value} (I : Inv X pins σ H s) (rx : RelV x u) (ty : TyOf X.K H x t) (e : PySem.W.kitOne X.K t c = some b) (h : ∀ tk, Q (.bool b) { s with toks := tk }) :
    wpAny (model X.prog X.w) A (call (.builtin "isinstance") [u, c]) Q E s := by
  cases ty with
  | non => cases (show u = Value.none from rx); exact PySem.W.kia_one PySem.W.kitx_none I.kIn True.intro e (fun z => nomatch z) h
  | bl y => cases (show u = Value.bool y from rx); exact PySem.W.kia_one PySem.W.kitx_bool I.kIn True.intro e (fun z => nomatch z) h
  | int i => obtain ⟨t, q⟩ := (show ∃ t, u = Value.int i t from rx); cases q; exact PySem.W.kia_one PySem.W.kitx_int I.kIn True.intro e (fun z => nomatch z) h
  | str y => obtain ⟨t, q⟩ := (show ∃ t, u = Value.str y t from rx); cases q; exact PySem.W.kia_one PySem.W.kitx_str I.kIn True.intro e (fun z => nomatch z) h
  | flt y => obtain ⟨t, q⟩ := (show ∃ t, u = Value.float y t from rx); cases q; exact PySem.W.kia_one PySem.W.kitx_float I.kIn True.intro e (fun z => nomatch z) h
  | @lst a xs ea =>
    cases (show u = Value.ref a from rx)
    obtain ⟨_, _, n, _, h1⟩ := (show ObjOk X.prog X.w H s.heap a (.lst xs) from I.hok a _ ea)
    exact PySem.W.kia_one PySem.W.kitx_list I.kIn ⟨_, h1, rfl⟩ e (fun z => nomatch z) h
  | @frz a ob xs ea =>
    cases (show u = Value.ref a from rx)
    obtain ⟨_, _, _, n, _, h1⟩ := (show ObjOk X.prog X.w H s.heap a (.frz ob (.lst xs)) from I.hok a _ ea)
    exact PySem.W.kia_one PySem.W.kitx_list I.kIn ⟨_, h1, rfl⟩ e (fun z => nomatch z) h
  | @tup a xs ea =>
    cases (show u = Value.ref a from rx)
    obtain ⟨_, _, _, p⟩ := (show ObjOk X.prog X.w H s.heap a (.tup xs) from I.hok a _ ea)
    obtain ⟨o, h1, h2, _⟩ := p
    exact PySem.W.kia_one PySem.W.kitx_tuple I.kIn ⟨o, h1, h2⟩ e (fun z => nomatch z) h
  | @dK a kvs ea =>
    cases (show u = Value.ref a from rx)
    obtain ⟨_, _, vs, _, p⟩ := (show ObjOk X.prog X.w H s.heap a (.dK kvs) from I.hok a _ ea)
    obtain ⟨o, es, ep, h1, h2, _⟩ := p
    exact PySem.W.kia_one PySem.W.kitx_dict I.kIn ⟨o, h1, h2.1⟩ e (fun z => nomatch z) h
  | @dT a kvs ea =>
    cases (show u = Value.ref a from rx)
    obtain ⟨_, _, xs, _, o, es, ep, h1, h2, _⟩ := (show ObjOk X.prog X.w H s.heap a (.dT kvs) from I.hok a _ ea)
    exact PySem.W.kia_one PySem.W.kitx_dict I.kIn ⟨o, h1, h2.1⟩ e (fun z => nomatch z) h
  | @ins a C dx fs ea cl ha hn htk hm =>
    cases (show u = Value.ref a from rx)
    obtain ⟨mA, O, _⟩ := ins_get I.hok ea
    obtain ⟨od, J, _⟩ := O.look
    exact PySem.W.kia_one (PySem.W.kitx_own (cl.get _) cl.hd ha hn htk hm) I.kIn J e (fun z => nomatch z) h
end
end L2

namespace L2
open PySem PySem.Spec PyProof.Rows

/-! ### room -/
structure Room (k : Nat) (A : Around) : Prop where
  hd : A.handled = none
  dp : A.depth + 3 * k + 5 < recursionLimit
  un : A.units + 16 * k + 200 < cLine
theorem Room.mono {j k : Nat} {A : Around} (r : Room k A) (h : j ≤ k) : Room j A := ⟨r.hd, by have := r.dp; omega, by have := r.un; omega⟩
theorem Room.deeper {k : Nat} {A : Around} (r : Room (k + 1) A) (env : Env) : Room k (A.deeper env) :=
  ⟨r.hd, by have := r.dp; show A.depth + 1 + 3 * k + 5 < _; omega, by have := r.un; show A.units + 3 + 16 * k + 200 < _; omega⟩
theorem Room.in1 {k : Nat} {A : Around} (r : Room (k + 1) A) : Room k A.in1 :=
  ⟨r.hd, by have := r.dp; show A.depth + 3 * k + 5 < _; omega, by have := r.un; show A.units + 1 + 16 * k + 200 < _; omega⟩
theorem make_depth {A : Around} {C : Addr} {us : List Value} {kw : List (Str × Value)} : (A.under (.builtin "type.__call__" ⟨.ref C :: us, kw⟩)).depth = A.depth + 1 := by
  first | rfl | simp [Around.under, Code.weight, Code.isCreation, Code.isGuard, Code.isCaller, Code.frames, Code.isFrame, guardIds]
theorem make_units {A : Around} {C : Addr} {us : List Value} {kw : List (Str × Value)} : (A.under (.builtin "type.__call__" ⟨.ref C :: us, kw⟩)).units = A.units + 1 := by
  first | rfl | simp [Around.under, Code.cUnits, Code.frames, Code.isFrame]
theorem Room.make {k : Nat} {A : Around} (r : Room (k + 1) A) (C : Addr) (us : List Value) (kw : List (Str × Value)) : Room k (A.under (.builtin "type.__call__" ⟨.ref C :: us, kw⟩)) :=
  ⟨r.hd, by have := r.dp; rw [make_depth]; omega, by have := r.un; rw [make_units]; omega⟩
theorem Room.depth {k : Nat} {A : Around} (r : Room k A) : A.depth < recursionLimit := by have := r.dp; omega
theorem Room.units {k : Nat} {A : Around} (r : Room k A) : A.units + 64 < cLine := by have := r.un; omega
theorem Room.units0 {k : Nat} {A : Around} (r : Room k A) : A.units < cLine := by have := r.un; omega

/-! ### argument lists and displays -/
def tNil : TA := fun _ H Q => Q [] H
def tCons (ta : TE) (tr : TA) : TA := fun σ H Q => ta σ H fun x H1 => tr σ H1 fun xs H2 => Q (x :: xs) H2
section
variable {X : Cx} {e : Expr} {es : List Expr} {te : TE} {t : TA} {pos : Pos}
theorem pa_nil : PA X [] tNil := fun _ _ _ _ H Q I h => Calls.spliced_nil ⟨[], H, I, .nil, h⟩
theorem pa_cons (ha : PE X e te) (hr : PA X es t) (hs : starEach (e :: es) X.env = (false, eval e X.env) :: starEach es X.env := by rfl) : PA X (e :: es) (tCons te t) := by
  intro pos pins s σ H Q I h
  rw [hs]
  show wpAny _ _ (spliced ((false, eval e X.env) :: backTo pos (starEach es X.env))) _ _ s
  refine Calls.spliced_cons (thn (ha pins s σ H _ I h) fun u s1 ⟨x, H1, I1, r1, q1⟩ => ?_)
  exact thn (hr pos pins s1 σ H1 _ I1 q1) fun us s2 ⟨xs, H2, I2, r2, q2⟩ => ⟨x :: xs, H2, I2, .cons r1 r2, q2⟩

/-- a tuple, a list of written items -/
def tTup (t : TA) : TE := fun σ H Q => t σ H fun xs H1 => xs.length ≤ sizeLine ∧ ∀ p, H1 p = none → Q (.ref p) (upd H1 p (.tup xs))
def tLst (t : TA) : TE := fun σ H Q => t σ H fun xs H1 => xs.length ≤ sizeLine ∧ ∀ p, H1 p = none → Q (.ref p) (upd H1 p (.lst xs))
theorem pe_tup {x1} (h : PA X es t) : PE X (.Tuple es x1 pos) (tTup t) := by
  intro pins s σ H Q I hq
  refine wpAny_Tuple_spliced (thn (h pos pins s σ H _ I hq) fun us s1 ⟨xs, H1, I1, r, z, q⟩ => ⟨by rw [← r.length]; exact z, ?_⟩)
  have hf : H1 s1.heap.objs.size = none := I1.hok.fresh (Nat.le_refl _)
  refine ⟨.ref s1.heap.objs.size, upd H1 s1.heap.objs.size (.tup xs), I1.laid (t' := s1.toks) (fun b u e => Heap.get?_push_of_some _ e) (Nat.le_refl _) ?_, rfl, q _ hf⟩
  exact ⟨z, us, r, ⟨_, Heap.get?_push_size _ rfl, rfl, _, rfl⟩⟩
theorem pe_lst (h : PA X es t) : PE X (.List es pos) (tLst t) := by
  intro pins s σ H Q I hq
  refine wpAny_List_spliced (thn (h pos pins s σ H _ I hq) fun us s1 ⟨xs, H1, I1, r, z, q⟩ => ⟨by rw [← r.length]; exact z, ?_⟩)
  have hf : H1 s1.heap.objs.size = none := I1.hok.fresh (Nat.le_refl _)
  refine ⟨.ref s1.heap.objs.size, upd H1 s1.heap.objs.size (.lst xs), I1.laid (t' := s1.toks) (fun b u e => Heap.get?_push_of_some _ e) (Nat.le_refl _) ?_, rfl, q _ hf⟩
  exact ⟨z, us, 0, r, Heap.get?_push_size _ rfl⟩
end

/-! ### what a def promises -/
/-- a def's promise: the bound arguments in the parameters' order, the heap, the wanted end, the wanted exception -/
abbrev Sp := List V → Hp → VK → XK → Prop
/-- how an exception lies behind a call (file 08 gives it): the callers' frames, abstract heap and state ahead of the call, the wish, the exception, the state -/
abbrev CXT := List Env → Hp → Shared → XK → Value → Shared → Prop

/-- the state at a call -/
structure Env0 (P : Program) (w : World) (K : PySem.W.Frag) (mg : Str → Option Value) (base : Heap) (A : Around) (outer : List Env) (s : Shared) (H : Hp) : Prop where
  frames : A.frames = some outer
  mod : Mod K mg base
  bs : ∀ b o, base.get? b = some o → s.heap.get? b = some o ∧ H b = none
  bsz : base.objs.size ≤ s.heap.objs.size
  funs : s.heap.FunFrames base outer
  frf : ∀ b ∈ frs outer, H b = none
  hok : HOk P w H s.heap
  bare : AllBare s.gens
/-- a call's end -/
def CE (outer : List Env) (P : Program) (w : World) (H : Hp) (s : Shared) (Q : VK) (u : Value) (s' : Shared) : Prop :=
  ∃ v H', s'.os = s.os ∧ AllBare s'.gens ∧ Un (frs outer) [] H H' s.heap s'.heap ∧ HOk P w H' s'.heap ∧ RelV v u ∧ Q v H'
def CR (CX : CXT) (outer : List Env) (P : Program) (w : World) (H : Hp) (s : Shared) (Q : VK) (E : XK) (r : Result) (s' : Shared) : Prop :=
  match r with
  | .ok (.ret u) => CE outer P w H s Q u s'
  | .ok _ => False
  | .error e => CX outer H s E e s'
structure FnOk (P : Program) (w : World) (K : PySem.W.Frag) (mg : Str → Option Value) (base : Heap) (CX : CXT) (k : Nat) (f : Addr) (fd : FuncData) (ps : List Str) (sp : Sp) : Prop where
  len : ∀ vs H Q E, sp vs H Q E → vs.length = ps.length
  run : ∀ (A : Around) (outer : List Env) (s : Shared) (H : Hp) (args : Args) (us : List Value) (vs : List V) (Q : VK) (E : XK), Room k A → Env0 P w K mg base A outer s H → BindsTo s fd args (ps.zip us) → Vals vs us → sp vs H Q E →
    codeAny (model P w) A (.call (.ref f) args) (CR CX outer P w H s Q E) s
theorem FnOk.mono {P : Program} {w : World} {K : PySem.W.Frag} {mg : Str → Option Value} {base : Heap} {CX : CXT} {j k : Nat} {f : Addr} {fd : FuncData} {ps : List Str} {sp : Sp} (F : FnOk P w K mg base CX j f fd ps sp) (h : j ≤ k) :
    FnOk P w K mg base CX k f fd ps sp := ⟨F.len, fun A outer s H args us vs Q E hr => F.run A outer s H args us vs Q E (hr.mono h)⟩
/-- a weaker promise -/
theorem FnOk.imp {P : Program} {w : World} {K : PySem.W.Frag} {mg : Str → Option Value} {base : Heap} {CX : CXT} {k : Nat} {f : Addr} {fd : FuncData} {ps : List Str} {sp sp' : Sp} (F : FnOk P w K mg base CX k f fd ps sp)
    (h : ∀ vs H Q E, sp' vs H Q E → sp vs H Q E) : FnOk P w K mg base CX k f fd ps sp' :=
  ⟨fun vs H Q E q => F.len vs H Q E (h _ _ _ _ q), fun A outer s H args us vs Q E hr he hb hv hs => F.run A outer s H args us vs Q E hr he hb hv (h _ _ _ _ hs)⟩

theorem Env0.make {P : Program} {w : World} {K : PySem.W.Frag} {mg : Str → Option Value} {base : Heap} {A : Around} {outer : List Env} {s : Shared} {H : Hp} (e : Env0 P w K mg base A outer s H) (C : Addr) (us : List Value) (kw : List (Str × Value)) :
    Env0 P w K mg base (A.under (.builtin "type.__call__" ⟨.ref C :: us, kw⟩)) outer s H := ⟨by first | exact e.frames | (simpa [Around.under, Code.envs, Code.isFrame, pushEnvs] using e.frames), e.mod, e.bs, e.bsz, e.funs, e.frf, e.hok, e.bare⟩
theorem Env0.in1 {P : Program} {w : World} {K : PySem.W.Frag} {mg : Str → Option Value} {base : Heap} {A : Around} {outer : List Env} {s : Shared} {H : Hp} (e : Env0 P w K mg base A outer s H) :
    Env0 P w K mg base A.in1 outer s H := ⟨e.frames, e.mod, e.bs, e.bsz, e.funs, e.frf, e.hok, e.bare⟩

section
variable {X : Cx} {pins : List (Addr × Obj)} {σ : St} {H : Hp} {s s' : Shared}
/-- from a body: what a callee wants -/
theorem Inv.env0 (I : Inv X pins σ H s) : Env0 X.prog X.w X.K X.mg X.base X.A X.stack s H :=
  ⟨I.ok.frames, I.ok.mod, I.bs, Nat.le_trans I.ok.bsz I.sz, I.stack, I.stkFree, I.hok, I.bare⟩
/-- behind a call -/
theorem Inv.after {Q : VK} {u : Value} (I : Inv X pins σ H s) (h : CE X.stack X.prog X.w H s Q u s') : EP X pins σ Q u s' := by
  obtain ⟨v, H', os, bare, un, hok, r, q⟩ := h
  obtain ⟨hh, g, d, t, os'⟩ := s'
  obtain rfl : os' = s.os := os
  exact ⟨v, H', I.call (h' := hh) (g' := g) (d' := d) (t' := t) (ch := []) un hok bare (fun b z => absurd z (by simp)), r, q⟩
end

/-! ### calls -/
/-- f(..): the written arguments, then the defaults dvs; E: what is wanted of an exception -/
def tCall (sp : Sp) (dvs : List V) (E : XK) (t : TA) : TE := fun σ H Q => t σ H fun vs H1 => sp (vs ++ dvs) H1 Q E
/-- o.m(..) of an instance of the class at C -/
def tMeth (C : Addr) (m : Str) (sp : Sp) (dvs : List V) (E : XK) (ta : TE) (t : TA) : TE := fun σ H Q => ta σ H fun x H1 => ∃ a dx fs, x = .ref a ∧ H1 a = some (.ins C dx fs) ∧ fs.lookup m = none ∧
  t σ H1 fun vs H2 => sp (x :: (vs ++ dvs)) H2 Q E
/-- C(..): a new instance and its dict, then __init__ -/
def tMake (C : Addr) (sp : Sp) (dvs : List V) (E : XK) (t : TA) : TE := fun σ H Q => t σ H fun vs H1 => ∀ x dx, H1 x = none → H1 dx = none → dx ≠ x →
  sp (.ref x :: (vs ++ dvs)) (upd (upd H1 dx (.own x)) x (.ins C dx [])) (fun v H2 => v = .non ∧ Q (.ref x) H2) E

/-- how the parameters are bound: us the positional arguments, kw the keywords' values by name, ds the defaults that fill up -/
def Binds (K : PySem.W.Frag) (fd : FuncData) (ps : List Str) (ds : List Value) : Prop :=
  ∀ (s : Shared) (us : List Value), K.In s.heap → (us ++ ds).length = ps.length → BindsTo s fd ⟨us, []⟩ (ps.zip (us ++ ds))
/-- every parameter is given -/
theorem Binds.all {K : PySem.W.Frag} {fd : FuncData} {ps : List Str} (h : ∀ us : List Value, us.length = ps.length → bindArgs fd ⟨us, []⟩ = pure (ps.zip us)) : Binds K fd ps [] := fun s us _ hl => by
  rw [List.append_nil] at hl ⊢
  exact .of_eq (h us hl)

/-- an exception of a callee reaches what this body wants of exceptions -/
def Passes (CX : CXT) (X : Cx) (E : XK) : Prop := ∀ (pins : List (Addr × Obj)) (σ : St) (H : Hp) (s : Shared) (e : Value) (s' : Shared), Inv X pins σ H s → CX X.stack H s E e s' → X.xe e s'

section
variable {X : Cx} {CX : CXT} {k : Nat} {f C : Addr} {fd : FuncData} {ps : List Str} {sp : Sp} {dvs : List V} {ds : List Value} {E : XK} {x m : Str} {p pos apos : Pos} {e o : Expr} {es : List Expr} {ta : TE} {t : TA}

/-- the callee runs -/
theorem run_fn {pins : List (Addr × Obj)} {σ : St} {H : Hp} {s : Shared} {Q : VK} {us : List Value} {vs : List V} (F : FnOk X.prog X.w X.K X.mg X.base CX k f fd ps sp) (hr : Room k X.A) (hb : Binds X.K fd ps ds) (hd : Vals dvs ds) (hx : Passes CX X E)
    (I : Inv X pins σ H s) (r : Vals vs us) (h : sp (vs ++ dvs) H Q E) : wpAny (model X.prog X.w) X.A (call (.ref f) us) (EP X pins σ Q) X.xe s := by
  have r2 : Vals (vs ++ dvs) (us ++ ds) := r.append hd
  have hl : (us ++ ds).length = ps.length := by rw [← r2.length]; exact F.len _ _ _ _ h
  refine wpAny_call (codeAny_mono (F.run X.A X.stack s H ⟨us, []⟩ (us ++ ds) (vs ++ dvs) Q E hr I.env0 (hb s us I.kIn hl) r2 h) fun r s' hq => ?_)
  cases r with
  | error e => exact hx pins σ H s e s' I hq
  | ok fl =>
    cases fl with
    | ret u => exact I.after hq
    | next => exact False.elim hq
    | brk => exact False.elim hq
    | cont => exact False.elim hq

theorem pe_call (F : FnOk X.prog X.w X.K X.mg X.base CX k f fd ps sp) (hr : Room k X.A) (hg : Gl X x) (hm : X.mg x = some (.ref f)) (hk : PySem.W.keepIn X.K (.ref f) = true) (hb : Binds X.K fd ps ds) (hd : Vals dvs ds) (hx : Passes CX X E)
    (ha : PA X (e :: es) t) (hdb : (x == ("__debug__" : Str)) = false := by decide) (he : starEach (e :: es) X.env = (false, eval e X.env) :: starEach es X.env := by rfl) (hpl : (backTo pos (starEach es X.env)).any (·.1) = false := by rfl) :
    PE X (.Call (.Name x p) (e :: es) [] pos) (tCall sp dvs E t) := by
  intro pins s σ H Q I h
  refine wpAny_Call_Name_kw (ld_glob I hg hm ?_ hdb)
  refine PySem.W.callWith_K (h₀ := X.base) I.ok.mod.kin hk (thn (ha pos pins s σ H _ I h) fun us s1 ⟨vs, H1, I1, r, q⟩ => ⟨I1.kIn, ?_⟩) he hpl
  exact run_fn F hr hb hd hx I1 r q
theorem pe_call0 (F : FnOk X.prog X.w X.K X.mg X.base CX k f fd ps sp) (hr : Room k X.A) (hg : Gl X x) (hm : X.mg x = some (.ref f)) (hk : PySem.W.keepIn X.K (.ref f) = true) (hb : Binds X.K fd ps ds) (hd : Vals dvs ds) (hx : Passes CX X E)
    (hdb : (x == ("__debug__" : Str)) = false := by decide) : PE X (.Call (.Name x p) [] [] pos) (tCall sp dvs E tNil) := by
  intro pins s σ H Q I h
  refine wpAny_Call_Name_kw (ld_glob I hg hm ?_ hdb)
  exact PySem.W.callWith_K0 I.kIn hk (run_fn (us := []) F hr hb hd hx I .nil h)

/-- o.m(e, ..) -/
theorem pe_meth {pl : Sem Bool} (he : PE X o ta) (c : Cls X.K C) (hm : Meth X.K C m f) (F : FnOk X.prog X.w X.K X.mg X.base CX k f fd ps sp) (hr : Room k X.A) (hb : Binds X.K fd ps ds) (hd : Vals dvs ds) (hx : Passes CX X E) (ha : PA X (e :: es) t)
    (hst : starEach (e :: es) X.env = (false, eval e X.env) :: starEach es X.env := by rfl) (hpl : (backTo pos (starEach es X.env)).any (·.1) = false := by rfl)
    (ht : eval (.Call (.Attribute o m apos) (e :: es) [] pos) X.env = (do
      let ov ← eval o X.env
      standAt apos.atName
      let (f, first) ← holding [ov] (getMethod ov m pl)
      callWith pos f first (backTo pos (starEach (e :: es) X.env)) (backToKw pos (keywordEach [] X.env))) := by rfl) :
    PE X (.Call (.Attribute o m apos) (e :: es) [] pos) (tMeth C m sp dvs E ta t) := by
  intro pins s σ H Q I h
  refine PySem.W.methodCall_KW (pl := pl) (thn (he pins s σ H _ I h) fun u s1 ⟨x, H1, I1, rx, a, dx, fs, ex, ea, l, q⟩ => ?_) ht
  subst ex
  obtain rfl : u = Value.ref a := rx
  refine getmeth_ok I1 ea c hm l ?_
  refine PySem.W.callWith_K (first := [.ref a]) (h₀ := X.base) I.ok.mod.kin hm.kp (thn (ha pos pins s1 σ H1 _ I1 q) fun us s2 ⟨vs, H2, I2, r, q2⟩ => ⟨I2.kIn, ?_⟩) hst hpl
  exact run_fn (us := .ref a :: us) (vs := .ref a :: vs) F hr hb hd hx I2 (.cons rfl r) q2
/-- o.m() -/
theorem pe_meth0 {pl : Sem Bool} (he : PE X o ta) (c : Cls X.K C) (hm : Meth X.K C m f) (F : FnOk X.prog X.w X.K X.mg X.base CX k f fd ps sp) (hr : Room k X.A) (hb : Binds X.K fd ps ds) (hd : Vals dvs ds) (hx : Passes CX X E)
    (ht : eval (.Call (.Attribute o m apos) [] [] pos) X.env = (do
      let ov ← eval o X.env
      standAt apos.atName
      let (f, first) ← holding [ov] (getMethod ov m pl)
      callWith pos f first (backTo pos (starEach [] X.env)) (backToKw pos (keywordEach [] X.env))) := by rfl) :
    PE X (.Call (.Attribute o m apos) [] [] pos) (tMeth C m sp dvs E ta tNil) := by
  intro pins s σ H Q I h
  refine PySem.W.methodCall_KW (pl := pl) (thn (he pins s σ H _ I h) fun u s1 ⟨x, H1, I1, rx, a, dx, fs, ex, ea, l, q⟩ => ?_) ht
  subst ex
  obtain rfl : u = Value.ref a := rx
  refine getmeth_ok I1 ea c hm l ?_
  exact PySem.W.callWith_K0 (first := [.ref a]) I1.kIn hm.kp (run_fn (us := [.ref a]) (vs := [.ref a]) F hr hb hd hx I1 (.cons rfl .nil) q)

/-- what a class must have to be made -/
structure Mk (K : PySem.W.Frag) (C f : Addr) : Prop where
  makes : PySem.W.makesIn K C = true
  init : PySem.W.findIn K (.ref C) "__init__" = some (some (.ref f))
  fn : PySem.W.isFn K (.ref f) = true
  kp : PySem.W.keepIn K (.ref C) = true

theorem run_make {pins : List (Addr × Obj)} {σ : St} {H : Hp} {s : Shared} {Q : VK} {us : List Value} {vs : List V} (M : Mk X.K C f) (F : FnOk X.prog X.w X.K X.mg X.base CX k f fd ps sp) (hr : Room (k + 1) X.A) (hb : Binds X.K fd ps ds) (hd : Vals dvs ds)
    (hx : Passes CX X E) (I : Inv X pins σ H s) (r : Vals vs us)
    (h : ∀ x dx, H x = none → H dx = none → dx ≠ x → sp (.ref x :: (vs ++ dvs)) (upd (upd H dx (.own x)) x (.ins C dx [])) (fun v H2 => v = .non ∧ Q (.ref x) H2) E) :
    wpAny (model X.prog X.w) X.A (call (.ref C) us) (EP X pins σ Q) X.xe s := by
  have hq := h (s.heap.objs.size + 1) s.heap.objs.size (I.hok.fresh (Nat.le_succ _)) (I.hok.fresh (Nat.le_refl _)) (Nat.ne_of_lt (Nat.lt_succ_self _))
  have I2 := Inv.made (C := C) I
  have r2 : Vals (V.ref (s.heap.objs.size + 1) :: (vs ++ dvs)) (Value.ref (s.heap.objs.size + 1) :: (us ++ ds)) := .cons rfl (r.append hd)
  have hl : (Value.ref (s.heap.objs.size + 1) :: us ++ ds).length = ps.length := by
    have e := r2.length
    rw [F.len _ _ _ _ hq] at e
    exact e.symm
  refine wpAny_call (make_map (f := f) I.kIn M.makes M.init (beq_iff_eq.mp M.fn) (codeAny_mono (F.run _ X.stack _ _ ⟨Value.ref (s.heap.objs.size + 1) :: us, []⟩ (Value.ref (s.heap.objs.size + 1) :: (us ++ ds)) _ _ E (hr.make C us [])
    (I2.env0.make C us []) (hb _ (Value.ref (s.heap.objs.size + 1) :: us) I2.kIn hl) r2 hq) fun r s' hq' => ?_))
  cases r with
  | error e => exact hx pins σ _ _ e s' I2 hq'
  | ok fl =>
    cases fl with
    | ret u =>
      obtain ⟨v, H', I3, rv, ev, q3⟩ := I2.after hq'
      subst ev
      exact ⟨rv, ⟨V.ref (s.heap.objs.size + 1), H', I3, rfl, q3⟩⟩
    | next => exact False.elim hq'
    | brk => exact False.elim hq'
    | cont => exact False.elim hq'
theorem pe_make (M : Mk X.K C f) (F : FnOk X.prog X.w X.K X.mg X.base CX k f fd ps sp) (hr : Room (k + 1) X.A) (hg : Gl X x) (hm : X.mg x = some (.ref C)) (hb : Binds X.K fd ps ds) (hd : Vals dvs ds) (hx : Passes CX X E)
    (ha : PA X (e :: es) t) (hdb : (x == ("__debug__" : Str)) = false := by decide) (he : starEach (e :: es) X.env = (false, eval e X.env) :: starEach es X.env := by rfl) (hpl : (backTo pos (starEach es X.env)).any (·.1) = false := by rfl) :
    PE X (.Call (.Name x p) (e :: es) [] pos) (tMake C sp dvs E t) := by
  intro pins s σ H Q I h
  refine wpAny_Call_Name_kw (ld_glob I hg hm ?_ hdb)
  refine PySem.W.callWith_K (h₀ := X.base) I.ok.mod.kin M.kp (thn (ha pos pins s σ H _ I h) fun us s1 ⟨vs, H1, I1, r, q⟩ => ⟨I1.kIn, ?_⟩) he hpl
  exact run_make M F hr hb hd hx I1 r q
theorem pe_make0 (M : Mk X.K C f) (F : FnOk X.prog X.w X.K X.mg X.base CX k f fd ps sp) (hr : Room (k + 1) X.A) (hg : Gl X x) (hm : X.mg x = some (.ref C)) (hb : Binds X.K fd ps ds) (hd : Vals dvs ds) (hx : Passes CX X E)
    (hdb : (x == ("__debug__" : Str)) = false := by decide) : PE X (.Call (.Name x p) [] [] pos) (tMake C sp dvs E tNil) := by
  intro pins s σ H Q I h
  refine wpAny_Call_Name_kw (ld_glob I hg hm ?_ hdb)
  exact PySem.W.callWith_K0 I.kIn M.kp (run_make (us := []) M F hr hb hd hx I .nil h)
end

/-! ### keywords -/
/-- the values of the keywords, from the left -/
def PK (X : Cx) (kws : List Keyword) (t : TA) : Prop :=
  ∀ (pos : Pos) (pins : List (Addr × Obj)) (s : Shared) (σ : St) (H : Hp) (Q : List V → Hp → Prop), Inv X pins σ H s → t σ H Q → wpAny (model X.prog X.w) X.A (evalAll ((backToKw pos (keywordEach kws X.env)).map (·.2))) (AP X pins σ Q) X.xe s
section
variable {X : Cx} {CX : CXT} {k : Nat} {f C : Addr} {fd : FuncData} {ps ks : List Str} {sp : Sp} {E : XK} {x m : Str} {p pos apos kpos : Pos} {e o : Expr} {es : List Expr} {kws : List Keyword} {te ta : TE} {t tk : TA} {nm : Option Str}
theorem pk_nil : PK X [] tNil := fun _ _ _ _ H Q I h => wpAny_evalAll_nil ⟨[], H, I, .nil, h⟩
theorem pk_cons (ha : PE X e te) (hr : PK X kws t) : PK X (⟨nm, e, kpos⟩ :: kws) (tCons te t) := by
  intro pos pins s σ H Q I h
  show wpAny _ _ (evalAll ((do let v ← eval e X.env; standAt pos; pure v) :: (backToKw pos (keywordEach kws X.env)).map (·.2))) _ _ s
  refine wpAny_evalAll_cons (wpAny_bind (thn (ha pins s σ H _ I h) fun u s1 ⟨x, H1, I1, r1, q1⟩ => wpAny_bind (wpAny_standAt (wpAny_pure ?_))))
  exact thn (hr pos pins s1 σ H1 _ I1 q1) fun us s2 ⟨xs, H2, I2, r2, q2⟩ => ⟨x :: xs, H2, I2, .cons r1 r2, q2⟩

/-- how a call with keywords binds: g puts the positional values us and the keywords' values ws (names ks) in the parameters' order, defaults among them -/
structure KBinds (K : PySem.W.Frag) (fd : FuncData) (ps ks : List Str) (g : List Value → List Value → List Value) (gV : List V → List V → List V) : Prop where
  to : ∀ (s : Shared) (us ws : List Value), K.In s.heap → (g us ws).length = ps.length → BindsTo s fd ⟨us, ks.zip ws⟩ (ps.zip (g us ws))
  rel : ∀ {vs : List V} {us : List Value} {zs : List V} {ws : List Value}, Vals vs us → Vals zs ws → Vals (gV vs zs) (g us ws)
def tCallK (sp : Sp) (gV : List V → List V → List V) (E : XK) (t tk : TA) : TE := fun σ H Q => t σ H fun vs H1 => tk σ H1 fun zs H2 => sp (gV vs zs) H2 Q E
variable {g : List Value → List Value → List Value} {gV : List V → List V → List V}
theorem run_fnk {pins : List (Addr × Obj)} {σ : St} {H : Hp} {s : Shared} {Q : VK} {us ws : List Value} {vs zs : List V} (F : FnOk X.prog X.w X.K X.mg X.base CX k f fd ps sp) (hr : Room k X.A) (hb : KBinds X.K fd ps ks g gV) (hx : Passes CX X E)
    (I : Inv X pins σ H s) (r : Vals vs us) (rz : Vals zs ws) (h : sp (gV vs zs) H Q E) : wpAny (model X.prog X.w) X.A (call (.ref f) us (ks.zip ws)) (EP X pins σ Q) X.xe s := by
  have r2 := hb.rel r rz
  have hl : (g us ws).length = ps.length := by rw [← r2.length]; exact F.len _ _ _ _ h
  refine wpAny_call (codeAny_mono (F.run X.A X.stack s H ⟨us, ks.zip ws⟩ (g us ws) (gV vs zs) Q E hr I.env0 (hb.to s us ws I.kIn hl) r2 h) fun r s' hq => ?_)
  cases r with
  | error e => exact hx pins σ H s e s' I hq
  | ok fl =>
    cases fl with
    | ret u => exact I.after hq
    | next => exact False.elim hq
    | brk => exact False.elim hq
    | cont => exact False.elim hq
/-- f(e, .., k = v, ..) -/
theorem pe_callK (F : FnOk X.prog X.w X.K X.mg X.base CX k f fd ps sp) (hr : Room k X.A) (hg : Gl X x) (hm : X.mg x = some (.ref f)) (hk : PySem.W.keepIn X.K (.ref f) = true) (hb : KBinds X.K fd ps ks g gV) (hx : Passes CX X E)
    (ha : PA X (e :: es) t) (hkw : PK X kws tk) (hall : (backToKw pos (keywordEach kws X.env)).all (·.1.isSome) = true := by rfl) (hks : (backToKw pos (keywordEach kws X.env)).filterMap (·.1) = ks := by rfl)
    (hdb : (x == ("__debug__" : Str)) = false := by decide) (he : starEach (e :: es) X.env = (false, eval e X.env) :: starEach es X.env := by rfl)
    (hpl : ((backTo pos (starEach (e :: es) X.env)).any (·.1) || (backToKw pos (keywordEach kws X.env)).any (·.1.isNone)) = false := by rfl) :
    PE X (.Call (.Name x p) (e :: es) kws pos) (tCallK sp gV E t tk) := by
  intro pins s σ H Q I h
  refine wpAny_Call_Name_kw (ld_glob I hg hm ?_ hdb)
  refine PySem.W.callWith_KW (h₀ := X.base) I.ok.mod.kin hk hall (thn (ha pos pins s σ H _ I h) fun us s1 ⟨vs, H1, I1, r, q⟩ => ?_) hpl he
  refine thn (hkw pos pins s1 σ H1 _ I1 q) fun ws s2 ⟨zs, H2, I2, rz, q2⟩ => ⟨I2.kIn, ?_⟩
  rw [hks]
  exact run_fnk F hr hb hx I2 r rz q2
end

/-! ### a def's body keeps its promise -/
/-- names: the parameters first -/
structure FnScope (N P : List Str) (sc : Scope) : Prop where
  kind : sc.kind = .function
  co : sc.isCoroutine = false
  gen : sc.isGenerator = false
  nd : N.Nodup
  pre : N.take P.length = P
  par : ∀ x ∈ P, sc.names.lookup x = some .local ∨ sc.names.lookup x = some .cell
  nofree : ∀ y ∈ sc.names, y.2 ≠ .free

theorem bindL_out {kindOf : Str → Option NameKind} {x : Str} : ∀ {binds : List (Str × Value)} {m : Str → Option Value}, (∀ v, (x, v) ∉ binds) → bindL kindOf binds m x = m x
  | [], _, _ => rfl
  | (n, v) :: r, m, h => by
    unfold bindL
    rw [bindL_out fun w hw => h w (List.mem_cons_of_mem _ hw)]
    split
    · have : x ≠ n := by rintro rfl; exact h v List.mem_cons_self
      simp [this]
    · rfl
theorem bindC_out {kindOf : Str → Option NameKind} {x : Str} : ∀ {binds : List (Str × Value)} {m : Str → Option Value}, (∀ v, (x, v) ∉ binds) → bindC kindOf binds m x = m x
  | [], _, _ => rfl
  | (n, v) :: r, m, h => by
    unfold bindC
    rw [bindC_out fun w hw => h w (List.mem_cons_of_mem _ hw)]
    split
    · rfl
    · have : x ≠ n := by rintro rfl; exact h v List.mem_cons_self
      simp [this]
theorem bindL_get {kindOf : Str → Option NameKind} {x : Str} {v : Value} : ∀ {P : List Str} {vs : List Value} {i : Nat} {m : Str → Option Value}, P.Nodup → P[i]? = some x → vs[i]? = some v → kindOf x = some .local →
    bindL kindOf (P.zip vs) m x = some v
  | [], _, _, _, _, h, _, _ => by simp at h
  | _ :: _, [], _, _, _, _, h, _ => by simp at h
  | p :: P, w :: vs, 0, m, nd, h1, h2, hk => by
    simp at h1 h2; subst h1; subst h2
    show bindL kindOf ((p, w) :: P.zip vs) m p = _
    unfold bindL
    rw [bindL_out fun v hv => (List.nodup_cons.mp nd).1 (List.of_mem_zip hv).1, if_pos hk]
    simp
  | p :: P, w :: vs, i + 1, m, nd, h1, h2, hk => by
    show bindL kindOf ((p, w) :: P.zip vs) m x = _
    unfold bindL
    exact bindL_get (i := i) (List.nodup_cons.mp nd).2 (by simpa using h1) (by simpa using h2) hk
theorem bindC_get {kindOf : Str → Option NameKind} {x : Str} {v : Value} : ∀ {P : List Str} {vs : List Value} {i : Nat} {m : Str → Option Value}, P.Nodup → P[i]? = some x → vs[i]? = some v → kindOf x ≠ some .local →
    bindC kindOf (P.zip vs) m x = some v
  | [], _, _, _, _, h, _, _ => by simp at h
  | _ :: _, [], _, _, _, _, h, _ => by simp at h
  | p :: P, w :: vs, 0, m, nd, h1, h2, hk => by
    simp at h1 h2; subst h1; subst h2
    show bindC kindOf ((p, w) :: P.zip vs) m p = _
    unfold bindC
    rw [bindC_out fun v hv => (List.nodup_cons.mp nd).1 (List.of_mem_zip hv).1, if_neg hk]
    simp
  | p :: P, w :: vs, i + 1, m, nd, h1, h2, hk => by
    show bindC kindOf ((p, w) :: P.zip vs) m x = _
    unfold bindC
    exact bindC_get (i := i) (List.nodup_cons.mp nd).2 (by simpa using h1) (by simpa using h2) hk

/-- the names' values at the entry -/
def start (N : List Str) (vs : List V) : St := vs.map some ++ List.replicate (N.length - vs.length) none

/-- the context of a def's body, at its entry; an exception leaves the frame, then lies as CX says -/
def cxOf (CX : CXT) (P : Program) (w : World) (K : PySem.W.Frag) (mg : Str → Option Value) (base : Heap) (N : List Str) (qual : Str) (scope : Scope) (f : Addr) (cd : Value) (A : Around) (outer : List Env) (s : Shared) (H : Hp) (E : XK) : Cx where
  prog := P
  w := w
  K := K
  mg := mg
  base := base
  A := A.deeper (envOfC qual scope s.heap.objs.size f cd)
  N := N
  s₀ := s
  H₀ := H
  env := envOfC qual scope s.heap.objs.size f cd
  outer := outer
  stack := envOfC qual scope s.heap.objs.size f cd :: outer
  ex := []
  calm := true
  fn := fun _ => true
  pn := []
  xe := fun e s' => wpAny (model P w) (A.deeper (envOfC qual scope s.heap.objs.size f cd)) (leaving (envOfC qual scope s.heap.objs.size f cd) e) (fun _ s'' => CX outer H s E e s'') (fun e' s'' => CX outer H s E e' s'') s'

theorem cell_has {sc : Scope} {n : Nat} {x : Str} (h : sc.names.lookup x = some .cell) : ∃ c, (cellsFrom n sc.names []).lookup x = some c := by
  have q := PySem.W.cellsFrom_some sc.names n [] (.inl h)
  exact Option.isSome_iff_exists.mp q

theorem inv_start {CX : CXT} {P : Program} {w : World} {K : PySem.W.Frag} {mg : Str → Option Value} {base : Heap} {N ps : List Str} {qual : Str} {scope : Scope} {f : Addr} {cd : Value} {A : Around} {outer : List Env} {s s1 : Shared} {H : Hp} {E : XK} {us : List Value} {vs : List V}
    (S : FnScope N ps scope) (hd : A.handled = none) (e0 : Env0 P w K mg base A outer s H) (hl : vs.length = ps.length) (r : Vals vs us)
    (x : InCallC s s.heap.objs.size (bindL (envOfC qual scope s.heap.objs.size f cd).kindOf (ps.zip us) fun _ => none) (cellsFrom (s.heap.objs.size + 1) scope.names []) (bindC (envOfC qual scope s.heap.objs.size f cd).kindOf (ps.zip us) fun _ => none) s1) :
    Inv (cxOf CX P w K mg base N qual scope f cd A outer s H E) [] (start N vs) H s1 := by
  have hpl : ps.length ≤ N.length := by have := congrArg List.length S.pre; rw [List.length_take] at this; omega
  obtain ⟨h1, tk, rfl, hk⟩ := x.done
  have noA : ∀ b : Addr, b ∉ (cxOf CX P w K mg base N qual scope f cd A outer s H E).ex := fun b z => absurd (show b ∈ ([] : List Addr) from z) (by simp)
  refine ⟨⟨e0.mod, S.kind, rfl, rfl, Nat.le_refl _, fun y z c h1 h2 => ?_, fun y hy => ?_, fun y c _ h => ?_, fun _ => hd, Around.frames_deeper e0.frames, .inr ⟨rfl, rfl⟩, fun b z => absurd z (noA b), e0.bs, e0.bsz, fun b _ _ => noA b, fun b z => absurd z (noA b), e0.funs, e0.frf⟩,
    rfl, e0.bare, Un.kept hk, ⟨_, x.toInCall.ns, fun i y v h1 h2 h3 => ?_⟩, fun y c h => ⟨_, x.cell y c h⟩, e0.hok.fresh (Nat.le_refl _), fun y c h => ?_, fun p hp => absurd (show p ∈ ([] : List (Addr × Obj)) from hp) (by simp), e0.hok.kept hk, ?_⟩
  · exact name_of_addr x.apart (PySem.mem_of_lookup h1) (PySem.mem_of_lookup h2)
  · have hy : scope.names.lookup y = some .cell ∨ scope.names.lookup y = some .free := hy
    rcases hy with hy | hy
    · exact cell_has hy
    · exact absurd rfl (S.nofree _ (PySem.mem_of_lookup hy))
  · exact Nat.le_of_lt (x.above y c (PySem.mem_of_lookup h))
  · have hi : i < vs.length := by
      unfold start at h2
      by_cases hi : i < vs.length
      · exact hi
      · rw [List.getElem?_append_right (by simpa using hi)] at h2
        rw [List.getElem?_replicate] at h2
        split at h2 <;> cases h2
    have ha : vs[i]? = some v := by
      unfold start at h2
      rw [List.getElem?_append_left (by simpa using hi), List.getElem?_map] at h2
      cases e : vs[i]? with
      | none => rw [e] at h2; cases h2
      | some a => rw [e] at h2; cases h2; rfl
    obtain ⟨u, hu, rv⟩ := r.get ha
    have hp : ps[i]? = some y := by
      rw [← S.pre, List.getElem?_take_of_lt (by omega)]; exact h1
    have ndP : ps.Nodup := by rw [← S.pre]; exact S.nd.sublist (List.take_sublist _ _)
    refine ⟨u, rv, ?_⟩
    rcases S.par y (List.mem_of_getElem? hp) with k | k
    · exact .inl ⟨k, bindL_get ndP hp hu k⟩
    · obtain ⟨c, e⟩ := cell_has (n := s.heap.objs.size + 1) k
      refine .inr ⟨.inl k, c, e, ?_⟩
      have q := x.cell y c e
      rw [bindC_get ndP hp hu (by show scope.names.lookup y ≠ _; rw [k]; decide)] at q
      exact q
  · exact e0.hok.fresh (Nat.le_of_lt (x.above y c (PySem.mem_of_lookup h)))
  · unfold start
    show _ = N.length
    rw [List.length_append, List.length_map, List.length_replicate]
    omega

/-- THE RULE: a def (or a method) of the text, by its body. The body's reading t is chosen for each entry; it is run at the parameters' values -/
theorem fn_of {CX : CXT} {P : Program} {w : World} {K : PySem.W.Frag} {mg : Str → Option Value} {base : Heap} {k : Nat} {f : Addr} {name qual : Str} {params : Arguments} {body : List Stmt} {scope : Scope} {dV kV doc pm cdv ct oc : Value} {an od : Option Addr}
    {osl : Array (Option Value)} {N ps : List Str} {sp : Sp} (lk : K.lookup f = some ⟨oc, od, .func (PySem.W.fnOf name qual params body scope dV kV doc pm an cdv ct), osl⟩) (hcd : PySem.W.codeIn K cdv qual = true) (S : FnScope N ps scope)
    (len : ∀ vs H Q E, sp vs H Q E → vs.length = ps.length)
    (hbody : ∀ (A : Around) (outer : List Env) (s : Shared) (H : Hp) (vs : List V) (Q : VK) (E : XK), Room k (A.deeper (envOfC qual scope s.heap.objs.size f cdv)) → sp vs H Q E →
      ∃ t, PSs (cxOf CX P w K mg base N qual scope f cdv A outer s H E) body t ∧ t { nx := fun _ H' => Q .non H', rt := Q } (start N vs) H) :
    FnOk P w K mg base CX (k + 1) f (PySem.W.fnOf name qual params body scope dV kV doc pm an cdv ct) ps sp := by
  refine ⟨len, fun A outer s H args us vs Q E hr e0 hb r hsp => ?_⟩
  have hl := len _ _ _ _ hsp
  have KX : K.In s.heap := e0.mod.kin.keeps fun b o e => (e0.bs b o e).1
  have lim : s.heap.NoLimit := e0.mod.nolimit.keeps fun b o e => (e0.bs b o e).1
  have hkind : ∀ y ∈ ps.zip us, scope.names.lookup y.1 = some .local ∨ (scope.names.lookup y.1 = some .cell ∧ ((cellsFrom (s.heap.objs.size + 1) scope.names []).lookup y.1).isSome = true) := fun ⟨n, v⟩ hy => by
    rcases S.par n (List.of_mem_zip hy).1 with q | q
    · exact .inl q
    · exact .inr ⟨q, PySem.W.cellsFrom_some _ _ _ (.inl q)⟩
  refine codeAny_call_function hr.depth (KX _ _ lk) rfl S.co S.gen rfl (PySem.W.codeRec_of KX hcd) (hb _ _ _ _ ?_)
  refine wpAny_newFunctionEnv_cells S.kind hkind fun env he s1 x => ?_
  subst he
  refine ⟨lim.keeps x.toInCall.keep, codeAny_func ?_⟩
  obtain ⟨t, ht, hq⟩ := hbody A outer s H vs Q E (hr.deeper _) hsp
  have I : Inv (cxOf CX P w K mg base N qual scope f cdv A outer s H E) [] (start N vs) H s1 := inv_start S hr.hd e0 hl r x
  refine wpAny_mono (ht [] s1 (start N vs) H _ I hq) (fun fl s' hs => ?_) fun e s' hs => hs
  have fin : ∀ {σ' : St} {H' : Hp} {v : V} {u : Value}, Inv (cxOf CX P w K mg base N qual scope f cdv A outer s H E) [] σ' H' s' → RelV v u → Q v H' → CE outer P w H s Q u s' :=
    fun {σ' H' v u} J rv q => ⟨v, H', J.os, J.bare, J.base, J.hok, rv, q⟩
  cases fl with
  | ret u =>
    obtain ⟨v, σ', H', J, rv, q⟩ := hs
    exact fin J rv q
  | next =>
    obtain ⟨σ', H', J, q⟩ := hs
    exact fin (v := V.non) (u := Value.none) J rfl q
  | brk =>
    obtain ⟨_, _, _, q⟩ := hs
    exact False.elim q
  | cont =>
    obtain ⟨_, _, _, q⟩ := hs
    exact False.elim q
end L2

namespace L2
open PySem PySem.Spec PyProof.Rows
section
variable {X : Cx} {x : Str} {p pos : Pos} {e : Expr} {es : List Expr} {t : TA} {id T : String} {r : List V → Hp → VK → Prop}

def tCB (r : List V → Hp → VK → Prop) (t : TA) : TE := fun σ H Q => t σ H fun vs H1 => r vs H1 Q
/-- f(e, ..), f a built-in function -/
theorem pe_callB (hc : CallR X (.builtin id) r) (hg : Gl X x) (hm : X.mg x = none) (hv : bootBuiltins x = some (.builtin id)) (ha : PA X (e :: es) t) (hn : x ≠ "__name__" := by decide) (hdb : (x == ("__debug__" : Str)) = false := by decide)
    (he : starEach (e :: es) X.env = (false, eval e X.env) :: starEach es X.env := by rfl) (hpl : (backTo pos (starEach es X.env)).any (·.1) = false := by rfl) : PE X (.Call (.Name x p) (e :: es) [] pos) (tCB r t) := by
  intro pins s σ H Q I h
  refine wpAny_Call_Name_kw (ld_blt I hg hm hv ?_ hn hdb)
  exact PyProof.Rows.callWith_builtin1 (thn (ha pos pins s σ H _ I h) fun us s1 ⟨vs, H1, I1, r1, q1⟩ => hc pins s1 σ H1 vs us Q I1 r1 q1) he hpl
/-- T(e, ..), T a built-in type -/
theorem pe_callTy (hc : CallR X (.type T) r) (hg : Gl X x) (hm : X.mg x = none) (hv : bootBuiltins x = some (.type T)) (ha : PA X (e :: es) t) (hn : x ≠ "__name__" := by decide) (hdb : (x == ("__debug__" : Str)) = false := by decide)
    (he : starEach (e :: es) X.env = (false, eval e X.env) :: starEach es X.env := by rfl) (hpl : (backTo pos (starEach es X.env)).any (·.1) = false := by rfl) : PE X (.Call (.Name x p) (e :: es) [] pos) (tCB r t) := by
  intro pins s σ H Q I h
  refine wpAny_Call_Name_kw (ld_blt I hg hm hv ?_ hn hdb)
  exact PyProof.Rows.callWith_type1 (thn (ha pos pins s σ H _ I h) fun us s1 ⟨vs, H1, I1, r1, q1⟩ => hc pins s1 σ H1 vs us Q I1 r1 q1) he hpl
/-- T() -/
theorem pe_callTy0 (hc : CallR X (.type T) r) (hg : Gl X x) (hm : X.mg x = none) (hv : bootBuiltins x = some (.type T)) (hn : x ≠ "__name__" := by decide) (hdb : (x == ("__debug__" : Str)) = false := by decide) :
    PE X (.Call (.Name x p) [] [] pos) (tCB r tNil) := by
  intro pins s σ H Q I h
  refine wpAny_Call_Name_kw (ld_blt I hg hm hv ?_ hn hdb)
  exact PyProof.Rows.callWith_type0 (hc pins s σ H [] [] Q I .nil h)
end
end L2

namespace HT
open PySem PyProof.Rows

/-- t < u of tuples of ints -/
def lexLt : List Int → List Int → Bool
  | [], [] => false
  | [], _ :: _ => true
  | _ :: _, [] => false
  | x :: xs, y :: ys => if x = y then lexLt xs ys else decide (x < y)
theorem lexLt_cons (x y : Int) (xs ys : List Int) : lexLt (x :: xs) (y :: ys) = if x = y then lexLt xs ys else decide (x < y) := rfl
theorem lexLt_nil_nil : lexLt [] [] = false := rfl
theorem lexLt_nil_cons (y : Int) (ys : List Int) : lexLt [] (y :: ys) = true := rfl
theorem lexLt_cons_nil (x : Int) (xs : List Int) : lexLt (x :: xs) [] = false := rfl

theorem eqAt_int (A : Around) (s : Shared) (a : Int) (t : Tok) (c : Int) (u : Tok) : ∃ e, SeqAt.EqAt A s (.int a t) (.int c u) e ∧ (e = true ↔ a = c) :=
  ⟨(a == c), SeqAt.EqAt.int_int a t c u, by simp⟩
theorem rcLt_int (A : Around) (s : Shared) (a : Int) (t : Tok) (c : Int) (u : Tok) (prog : Program) (w : World) (E : Value → Shared → Prop) (Q : Value → Shared → Prop) (h : Q (.bool (decide (a < c))) s) :
    wpAny (model prog w) A (richCompare .Lt (.int a t) (.int c u)) Q E s :=
  (PyProof.Rows.lt_int h : wpAny (model prog w) A (compareOp .Lt (.int a t) (.int c u)) Q E s)

section
open PySem.SeqAt
open PySem.AutoSeq1 (wpAny_loadPart')
open PySem.MeetsSeq PySem.MeetsSeq2 PySem.MeetsSeq3

theorem tuple_lt_ints (l b : Addr) (items items2 : Array Value) (n n2 : Nat) (dd dd2 : Option Addr) (sl sl2 : Array (Option Value)) (ns ms : List Int) (hi : IntsAre items.toList ns) (hj : IntsAre items2.toList ms) :
    Meets (Builtin.«tuple.__lt__» ⟨[.ref l, .ref b], []⟩)
      (fun _ R s => s.heap.get? l = some { cls := .type "tuple", dict := dd, data := .seq items n, slots := sl } ∧ s.heap.get? b = some { cls := .type "tuple", dict := dd2, data := .seq items2 n2, slots := sl2 } ∧
        R (.ok (.ret (.bool (lexLt ns ms)))) s) :=
  .of_wp fun prog w A R s h => by
    obtain ⟨hp, g, d, tk, os⟩ := s; obtain ⟨hl, hb, h⟩ := h
    have f2 := AutoSeq1.sub_tuple_tuple
    have z1 : items.size = ns.length := by rw [← hi.length]; simp
    have z2 : items2.size = ms.length := by rw [← hj.length]; simp
    wp_walk using wpAny_loadPart' hl, wpAny_loadPart' hb, wpAny_forIn_list _ (fun rest b s' => b.1 = none ∧ s' = ⟨hp, g, d, tk, os⟩ ∧ ∃ (vs ws : List Value) (ns' ms' : List Int), rest = vs.zip ws ∧
      IntsAre vs ns' ∧ IntsAre ws ms' ∧ ns'.length + items2.size = ms'.length + items.size ∧ R (.ok (.ret (.bool (lexLt ns' ms')))) ⟨hp, g, d, tk, os⟩) _
    case turn =>
      rintro ⟨y, x⟩ rest b s' ⟨hb', rfl, vs, ws, ns', ms', hz, hvi, hwi, hlen, hR⟩
      cases hvi with
      | nil => rw [List.zip_nil_left] at hz; cases hz
      | cons a t hvi' =>
        cases hwi with
        | nil => rw [List.zip_nil_right] at hz; cases hz
        | cons c u hwi' =>
          rw [List.zip_cons_cons] at hz
          injection hz with hyx hrest
          injection hyx with hy hx
          subst hy hx
          rw [lexLt_cons] at hR
          simp only [List.length_cons] at hlen
          obtain ⟨e, he, hiff⟩ := eqAt_int A.in1 ⟨hp, g, d, tk, os⟩ a t c u
          refine wpAny_bind (he prog w _ _ ?_)
          cases e with
          | true =>
            rw [if_pos (hiff.mp rfl)] at hR
            wp_walk
            exact ⟨rfl, rfl, _, _, _, _, hrest, hvi', hwi', by omega, hR⟩
          | false =>
            rw [if_neg (fun q => absurd (hiff.mpr q) Bool.false_ne_true)] at hR
            have hri := rcLt_int A.in1 ⟨hp, g, d, tk, os⟩ a t c u prog w
            wp_walk using hri
            exact ⟨_, rfl, by simpa using hR⟩
    case fin =>
      rintro ⟨b1, b2⟩ s' ⟨hb', rfl, vs, ws, ns', ms', hz, hvi, hwi, hlen, hR⟩
      simp only at hb'
      subst hb'
      have hv : lexLt ns' ms' = decide (items.size < items2.size) := by
        cases hvi with
        | nil =>
          cases hwi with
          | nil =>
            simp only [List.length_nil] at hlen
            rw [lexLt_nil_nil]
            exact (decide_eq_false (by omega)).symm
          | cons c u hw =>
            simp only [List.length_nil, List.length_cons] at hlen
            rw [lexLt_nil_cons]
            exact (decide_eq_true (by omega)).symm
        | cons a t hv =>
          cases hwi with
          | nil =>
            simp only [List.length_nil, List.length_cons] at hlen
            rw [lexLt_cons_nil]
            exact (decide_eq_false (by omega)).symm
          | cons c u hw =>
            rw [List.zip_cons_cons] at hz
            cases hz
      rw [hv] at hR
      wp_walk
      exact ⟨_, rfl, by simpa [Builtin.Tuple.tupleCompareSizes] using hR⟩
    case h =>
      exact ⟨rfl, rfl, items.toList, items2.toList, ns, ms, rfl, hi, hj, by omega, h⟩
end

section
variable {prog : Program} {w : World} {A : Around} {E : Value → Shared → Prop} {s : Shared}

theorem lt_tupInts {l b : Addr} {items items2 : Array Value} {ns ms : List Int} {Q : Value → Shared → Prop} (hl : IsTup s.heap l items) (hb : IsTup s.heap b items2) (hi : IntsAre items.toList ns) (hj : IntsAre items2.toList ms)
    (hu : A.units < cLine) (h : Q (.bool (lexLt ns ms)) s) : wpAny (model prog w) A (compareOp .Lt (.ref l) (.ref b)) Q E s := by
  obtain ⟨⟨cls, dd, data, sl⟩, ho, hc, n, hd⟩ := id hl
  obtain ⟨⟨cls2, dd2, data2, sl2⟩, ho2, hc2, n2, hd2⟩ := id hb
  simp only at hc hd hc2 hd2
  subst hc hd hc2 hd2
  exact richCompare_meets_room (op := .Lt) ⟨_, ho, rfl⟩ ⟨_, ho2, rfl⟩ PySem.F.slot_tuple_lt PySem.F.entry_tuple_lt (PySem.F.args_tuple_lt_2 _ _) (tuple_lt_ints l b items items2 n n2 dd dd2 sl sl2 ns ms hi hj)
    ⟨ho, ho2, show Value.bool (lexLt ns ms) ≠ Value.notImplemented ∧ Q (.bool (lexLt ns ms)) s from ⟨(fun x => nomatch x), h⟩⟩ hu

/-- t + u, t not empty -/
theorem cat_tup {t b : Addr} {vs ws : List Value} {Q : Value → Shared → Prop} (ht : IsTup s.heap t vs.toArray) (hb : IsTup s.heap b ws.toArray) (hv : vs ≠ [])
    (h1 : ws = [] → Q (.ref t) s) (h2 : ws ≠ [] → Q (.ref s.heap.objs.size) { s with heap := s.heap.push { cls := .type "tuple", data := .seq (vs ++ ws).toArray } })
    (hsz : vs.length + ws.length ≤ sizeLine) : wpAny (model prog w) A (binaryOp .Add (.ref t) (.ref b)) Q E s := by
  obtain ⟨⟨cls, dd, data, sl⟩, ho, hc, n, hd⟩ := id ht
  obtain ⟨⟨cls2, dd2, data2, sl2⟩, ho2, hc2, n2, hd2⟩ := id hb
  simp only at hc hd hc2 hd2
  subst hc hd hc2 hd2
  have e : vs.toArray ++ ws.toArray = (vs ++ ws).toArray := by simp
  by_cases hw : ws = []
  · exact concat_meets ⟨_, ho, rfl⟩ ⟨_, ho2, rfl⟩ noFill_tuple_add seq_tuple_add PySem.F.slot_tuple_add PySem.F.entry_tuple_add (PySem.F.args_tuple_add_2 _ _)
      (tuple_addW1 t b vs.toArray ws.toArray n n2 dd dd2 sl sl2 (by simpa using hv) (by simp [hw])) ⟨ho, ho2, h1 hw⟩
  · refine concat_meets ⟨_, ho, rfl⟩ ⟨_, ho2, rfl⟩ noFill_tuple_add seq_tuple_add PySem.F.slot_tuple_add PySem.F.entry_tuple_add (PySem.F.args_tuple_add_2 _ _)
      (tuple_addW2 t b vs.toArray ws.toArray n n2 dd dd2 sl sl2 (by simpa using hv) (by simpa using hw) (by rw [List.size_toArray, List.size_toArray]; exact hsz)) ⟨ho, ho2, ?_⟩
    rw [e]
    exact h2 hw

/-! ### t[a:b], not the whole -/
/-- a slice's bound as a place among n (d where it is left out) -/
def sIx (n d : Nat) : Option Int → Nat
  | none => d
  | some v => if v < 0 then (v + (n : Int)).toNat else min v.toNat n
theorem sIx_none (n d : Nat) : sIx n d none = d := rfl
theorem sIx_nat (n d k : Nat) : sIx n d (some (k : Int)) = min k n := by
  show (if (k : Int) < 0 then ((k : Int) + (n : Int)).toNat else min (k : Int).toNat n) = min k n
  rw [if_neg (by omega), Int.toNat_natCast]
theorem sIx_le (n d : Nat) (hd : d ≤ n) (o : Option Int) : sIx n d o ≤ n := by
  cases o with
  | none => exact hd
  | some v =>
    show (if v < 0 then (v + (n : Int)).toNat else min v.toNat n) ≤ n
    by_cases hv : v < 0
    · rw [if_pos hv]; omega
    · rw [if_neg hv]; exact Nat.min_le_right _ _
theorem clip_eq (v : Int) (n d : Nat) : (if v < 0 then max (v + (n : Int)) 0 else min v (n : Int)) = ((sIx n d (some v) : Nat) : Int) := by
  show (if v < 0 then max (v + (n : Int)) 0 else min v (n : Int)) = (((if v < 0 then (v + (n : Int)).toNat else min v.toNat n) : Nat) : Int)
  by_cases hv : v < 0
  · simp only [if_pos hv]; omega
  · simp only [if_neg hv]; omega
theorem adjust_gen (lo hi : Option Int) (n : Nat) : Builtin.Slice.sliceAdjust lo hi 1 (n : Int) = (((sIx n 0 lo : Nat) : Int), ((sIx n n hi : Nat) : Int)) := by
  have h1 : ¬ ((1 : Int) < 0) := by omega
  unfold Builtin.Slice.sliceAdjust
  simp only [h1, if_false]
  refine Prod.ext ?_ ?_
  · cases lo with
    | none => rfl
    | some v => exact clip_eq v n 0
  · cases hi with
    | none => rfl
    | some v => exact clip_eq v n n
theorem places_gen (i j : Nat) : Builtin.Slice.slicePlaces (i : Int) (j : Int) 1 = j - i := by
  unfold Builtin.Slice.slicePlaces
  have h1 : (1 : Int) > 0 := by omega
  simp only [h1, if_true, Int.ediv_one]
  split <;> omega
theorem slicePart_ {v : Value} {o : Option Int} {Q : Option Int → Shared → Prop} (p : IsPart v o) (h : Q o s) : wpAny (model prog w) A (Builtin.Slice.slicePartIndex v) Q E s := by
  cases p with
  | none => exact slicePart_none h
  | int i t => exact slicePart_int h
theorem sliceApplied_gen {sl : Addr} {vl vu : Value} {lo hi : Option Int} {n : Nat} {Q : Int × Int × Nat → Shared → Prop} (hs : s.heap.IsSliceOf sl vl vu .none) (pl : IsPart vl lo) (pu : IsPart vu hi)
    (h : Q (((sIx n 0 lo : Nat) : Int), 1, sIx n n hi - sIx n 0 lo) s) : wpAny (model prog w) A (Builtin.Slice.sliceApplied (.ref sl) (pure (n : Int))) Q E s := by
  obtain ⟨os, hos, hcs, hds⟩ := id hs
  unfold Builtin.Slice.sliceApplied Builtin.Slice.sliceFields
  refine wpAny_bind (wpAny_bind (wpAny_field hos hds (x := vl) rfl (wpAny_bind (wpAny_field hos hds (x := vu) rfl (wpAny_bind (wpAny_field hos hds (x := .none) rfl (wpAny_pure ?_)))))))
  refine wpAny_bind (slicePart_none ?_)
  show wpAny _ _ (if ((1 : Int) == 0) = true then _ else _) _ _ s
  rw [if_neg (by decide)]
  refine wpAny_bind (slicePart_ pl (wpAny_bind (slicePart_ pu (wpAny_bind (wpAny_pure ?_)))))
  show wpAny _ _ (match Builtin.Slice.sliceAdjust lo hi 1 (n : Int) with | (lo, hi) => pure (lo, (1 : Int), Builtin.Slice.slicePlaces lo hi 1)) _ _ s
  rw [adjust_gen lo hi n]
  show wpAny _ _ (pure (((sIx n 0 lo : Nat) : Int), (1 : Int), Builtin.Slice.slicePlaces ((sIx n 0 lo : Nat) : Int) ((sIx n n hi : Nat) : Int) 1)) _ _ s
  rw [places_gen]
  exact wpAny_pure h
theorem pick_gen (xs : Array Value) (i k : Nat) : ((List.range k).filterMap fun (m : Nat) => xs[((i : Int) + (m : Int) * 1).toNat]?).toArray = ((xs.toList.drop i).take k).toArray := by
  have e : (fun (m : Nat) => xs[((i : Int) + (m : Int) * 1).toNat]?) = fun m => xs[i + m]? := by
    funext m
    have : ((i : Int) + (m : Int) * 1).toNat = i + m := by omega
    rw [this]
  rw [e]
  have := pick_run xs i k
  rw [List.filterMap_map] at this
  have e2 : ((fun x => xs[x]?) ∘ fun x => i + x) = fun m => xs[i + m]? := rfl
  rw [e2] at this
  rw [this]

theorem getItem_tuple_cut {t sl : Addr} {items : Array Value} {vl vu : Value} {lo hi : Option Int} {Q : Value → Shared → Prop} (ht : IsTup s.heap t items) (hs : s.heap.IsSliceOf sl vl vu .none) (pl : IsPart vl lo) (pu : IsPart vu hi)
    (hw : ¬ (sIx items.size 0 lo = 0 ∧ sIx items.size items.size hi = items.size))
    (h : Q (.ref s.heap.objs.size) { s with heap := s.heap.push { cls := .type "tuple", data := .seq ((items.toList.drop (sIx items.size 0 lo)).take (sIx items.size items.size hi - sIx items.size 0 lo)).toArray } })
    (hsz : items.size ≤ sizeLine) : wpAny (model prog w) A (getItem (.ref t) (.ref sl)) Q E s := by
  have htake : sizeOk (.seq ((items.toList.drop (sIx items.size 0 lo)).take (sIx items.size items.size hi - sIx items.size 0 lo)).toArray) := by
    show ((items.toList.drop (sIx items.size 0 lo)).take (sIx items.size items.size hi - sIx items.size 0 lo)).toArray.size ≤ sizeLine
    rw [List.size_toArray, List.length_take, List.length_drop, Array.length_toList]
    omega
  have hj : sIx items.size items.size hi ≤ items.size := sIx_le _ _ (Nat.le_refl _) hi
  obtain ⟨os, hos, hcs, hds⟩ := id hs
  have hTs : s.TypeIs (.ref sl) "slice" := ⟨os, hos, hcs⟩
  unfold getItem
  try with_reducible refine wpAny_holding ?_
  first | refine wpAny_bind (wpAny_pure ?_) | skip
  refine wpAny_bind (wpAny_sequenceKey ht.typeIs (by decide) ?_)
  refine wpAny_bind (wpAny_callSpecial?_slot (name := Str.ofString "__getitem__") ht.typeIs PyProof.Rows.slot_tuple_getitem
    (wpAny_call_entry PyProof.Rows.slot_tuple_getitem ht.typeIs entry_tuple_getitem ?_ (args_tuple_getitem _ _)))
  show wpAny _ _ (Builtin.Tuple.tupleItemsOf (.ref t) >>= _) _ _ s
  refine wpAny_bind (tupleItemsOf_ ht ?_)
  refine wpAny_bind (wpAny_typeOf hTs ?_)
  rw [if_pos (by decide)]
  refine wpAny_bind (sliceApplied_gen hs pl pu ?_)
  have hno : ¬ ((((sIx items.size 0 lo : Nat) : Int) == 0 && (1 : Int) == 1 && (sIx items.size items.size hi - sIx items.size 0 lo) == items.size) = true) := by
    intro q
    rw [Bool.and_eq_true, Bool.and_eq_true] at q
    have q1 : ((sIx items.size 0 lo : Nat) : Int) = 0 := eq_of_beq q.1.1
    have q2 : sIx items.size items.size hi - sIx items.size 0 lo = items.size := eq_of_beq q.2
    exact hw ⟨by omega, by omega⟩
  show wpAny _ _ (if (((sIx items.size 0 lo : Nat) : Int) == 0 && (1 : Int) == 1 && (sIx items.size items.size hi - sIx items.size 0 lo) == items.size) = true then _ else _) _ _ s
  rw [if_neg hno, pick_gen]
  first
    | exact wpAny_bind (m := Builtin.Tuple.tupleExact _) (wpAny_newObj_type (wpAny_pure ⟨_, rfl, wpAny_pure h⟩) htake)
    | exact wpAny_bind (m := Builtin.Tuple.tupleExact _) (wpAny_newObj_type (wpAny_bind (wpAny_pure (wpAny_pure ⟨_, rfl, wpAny_pure h⟩))) htake)
    | exact wpAny_bind (wpAny_bind (m := Builtin.Tuple.tupleExact _) (wpAny_newObj_type (wpAny_pure (wpAny_pure ⟨_, rfl, wpAny_pure h⟩)) htake))
    | exact wpAny_bind (wpAny_bind (m := Builtin.Tuple.tupleExact _) (wpAny_newObj_type (wpAny_pure ⟨_, rfl, wpAny_pure h⟩) htake))
end
end HT

namespace L2
open PySem PySem.Spec PyProof.Rows

/-! ### the parts of a slice -/
abbrev TO := St → Hp → (Option Int → Hp → Prop) → Prop
/-- a slice's part (left out, or an int) -/
def PO (X : Cx) (e : Option Expr) (t : TO) : Prop :=
  ∀ (pins : List (Addr × Obj)) (s : Shared) (σ : St) (H : Hp) (Q : Option Int → Hp → Prop), Inv X pins σ H s → t σ H Q →
    wpAny (model X.prog X.w) X.A (evalPart e X.env) (fun u s' => ∃ o H', Inv X pins σ H' s' ∧ IsPart u o ∧ Q o H') X.xe s
def tNoPart : TO := fun _ H Q => Q none H
def tPart (t : TE) : TO := fun σ H Q => t σ H fun x H1 => ∃ i, x = .int i ∧ Q (some i) H1

theorem intsAre_of {ns : List Int} : ∀ {us : List Value}, Vals (ns.map V.int) us → IntsAre us ns := by
  induction ns with
  | nil => intro us r; rw [List.map_nil] at r; cases r; exact .nil
  | cons n ns ih =>
    intro us r
    rw [List.map_cons] at r
    cases r with
    | cons r1 r2 =>
      obtain ⟨t, e⟩ := r1
      subst e
      exact .cons n t (ih r2)

section
variable {X : Cx} {e : Expr} {te : TE} {lo hi : Option Expr} {tl th : TO} {pos p2 : Pos}

theorem po_none : PO X none tNoPart := by
  intro pins s σ H Q I h
  rw [evalPart_none]
  exact wpAny_pure ⟨none, H, I, .none, h⟩
theorem po_some (h : PE X e te) : PO X (some e) (tPart te) := by
  intro pins s σ H Q I hw
  rw [evalPart_some]
  refine thn (h pins s σ H _ I hw) fun u s1 ⟨x, H1, I1, r1, q1⟩ => ?_
  obtain ⟨i, rfl, q⟩ := q1
  obtain ⟨t, rfl⟩ := r1
  exact ⟨some i, H1, I1, .int i t, q⟩

/-- what a slice of a value is, by values: the slice object stands at sl -/
def SlR (X : Cx) (r : V → Option Int → Option Int → Hp → VK → Prop) : Prop :=
  ∀ (pins : List (Addr × Obj)) (s : Shared) (σ : St) (H : Hp) (x : V) (v vl vu : Value) (lo hi : Option Int) (sl : Addr) (Q : VK), Inv X pins σ H s → RelV x v → s.heap.IsSliceOf sl vl vu .none → IsPart vl lo → IsPart vu hi → r x lo hi H Q →
    ∃ T id, typeLookup (.type T) "__getitem__" = pure (some (.builtin id)) ∧ s.TypeIs v T ∧ wpAny (model X.prog X.w) X.A (getItem v (.ref sl)) (EP X pins σ Q) X.xe s
theorem SlR.or {r r' : V → Option Int → Option Int → Hp → VK → Prop} (h : SlR X r) (h' : SlR X r') : SlR X (fun x lo hi H Q => r x lo hi H Q ∨ r' x lo hi H Q) := by
  intro pins s σ H x v vl vu lo hi sl Q I rx hs pl pu q
  rcases q with q | q
  · exact h pins s σ H x v vl vu lo hi sl Q I rx hs pl pu q
  · exact h' pins s σ H x v vl vu lo hi sl Q I rx hs pl pu q
def tSl (r : V → Option Int → Option Int → Hp → VK → Prop) (te : TE) (tl th : TO) : TE := fun σ H Q => te σ H fun x H1 => tl σ H1 fun l H2 => th σ H2 fun u H3 => r x l u H3 Q
/-- a[lo:hi], any a -/
theorem pe_slice {r : V → Option Int → Option Int → Hp → VK → Prop} (hr : SlR X r) (he : PE X e te) (hl : PO X lo tl) (hu : PO X hi th) : PE X (.Subscript e (.Slice lo hi none p2) pos) (tSl r te tl th) := by
  intro pins s σ H Q I h
  refine Subscript_ (thn (he pins s σ H _ I h) fun v s1 ⟨x, H1, I1, r1, q1⟩ => ?_)
  refine wpAny_Slice (thn (hl pins s1 σ H1 _ I1 q1) fun vl s2 ⟨l, H2, I2, pl, q2⟩ => thn (hu pins s2 σ H2 _ I2 q2) fun vu s3 ⟨u, H3, I3, pu, q3⟩ => ?_)
  rw [evalPart_none]
  refine wpAny_pure ?_
  have I4 : Inv X pins σ H3 { s3 with heap := s3.heap.push { cls := .type "slice", data := .fields #[vl, vu, .none] } } := I3.kept (t' := s3.toks) fun b ob q => Heap.get?_push_of_some _ q
  obtain ⟨T, id, hT, ht, hg⟩ := hr pins { s3 with heap := s3.heap.push { cls := .type "slice", data := .fields #[vl, vu, .none] } } σ H3 x v vl vu l u s3.heap.objs.size Q I4 r1 (Heap.IsSliceOf.new ..) pl pu q3
  show wpAny (model X.prog X.w) X.A (subscriptTail e (.Slice lo hi none p2) v (.ref s3.heap.objs.size)) (EP X pins σ Q) X.xe { s3 with heap := s3.heap.push { cls := .type "slice", data := .fields #[vl, vu, .none] } }
  exact tail_any (ops := [.ref s3.heap.objs.size, v]) ht hT hg (by with_unfolding_all rfl)

/-- the items of xs[lo:hi] -/
def cutV (xs : List V) (lo hi : Option Int) : List V := (xs.drop (HT.sIx xs.length 0 lo)).take (HT.sIx xs.length xs.length hi - HT.sIx xs.length 0 lo)
theorem cutV_length (xs : List V) (lo hi : Option Int) : (cutV xs lo hi).length ≤ xs.length := by
  unfold cutV
  rw [List.length_take, List.length_drop]
  omega
/-- t[lo:hi], not the whole of it (the whole would be t itself) -/
def rSlT (K : PySem.W.Frag) : V → Option Int → Option Int → Hp → VK → Prop := fun x lo hi H Q => ∃ a xs, x = .ref a ∧ SqT K H a xs ∧
  ¬ (HT.sIx xs.length 0 lo = 0 ∧ HT.sIx xs.length xs.length hi = xs.length) ∧ ∀ p, H p = none → Q (.ref p) (upd H p (.tup (cutV xs lo hi)))
theorem sl_tup : SlR X (rSlT X.K) := by
  intro pins s σ H x v vl vu lo hi sl Q I rx hs pl pu h
  obtain ⟨a, xs, rfl, hx, hw, q⟩ := h
  cases rx
  obtain ⟨its, r, ht, hz⟩ := I.tuple hx
  have hlen : its.toArray.size = xs.length := by rw [List.size_toArray]; exact r.length.symm
  refine ⟨"tuple", _, PyProof.Rows.slot_tuple_getitem.lookup, ht.typeIs, ?_⟩
  refine HT.getItem_tuple_cut ht hs pl pu (by rw [hlen]; exact hw) ?_ (by rw [hlen]; exact hz)
  rw [hlen]
  refine ⟨.ref s.heap.objs.size, _, I.laid (t' := s.toks) (o := .tup (cutV xs lo hi)) (fun b ob q => Heap.get?_push_of_some _ q) (Nat.le_refl _) ?_, rfl, q _ (I.hok.fresh (Nat.le_refl _))⟩
  exact ⟨Nat.le_trans (cutV_length xs lo hi) hz, _, (r.drop (HT.sIx xs.length 0 lo)).take (HT.sIx xs.length xs.length hi - HT.sIx xs.length 0 lo), IsTup.new _ _⟩

/-! ### t < u, t + u -/
def rLtT (K : PySem.W.Frag) : R2 := fun x y H Q => ∃ a b ns ms, x = .ref a ∧ y = .ref b ∧ SqT K H a (ns.map V.int) ∧ SqT K H b (ms.map V.int) ∧ Q (.bl (HT.lexLt ns ms)) H
theorem op_ltT (hu : X.A.units < cLine) : OpR X (compareOp .Lt) (rLtT X.K) := by
  intro pins s σ H x y v u Q I rx ry h
  obtain ⟨a, b, ns, ms, rfl, rfl, ha, hb, q⟩ := h
  cases rx
  cases ry
  obtain ⟨its, r1, p1, _⟩ := I.tuple ha
  obtain ⟨its2, r2, p2, _⟩ := I.tuple hb
  have i1 : IntsAre its.toArray.toList ns := intsAre_of r1
  have i2 : IntsAre its2.toArray.toList ms := intsAre_of r2
  exact HT.lt_tupInts p1 p2 i1 i2 hu ⟨.bl (HT.lexLt ns ms), H, I, rfl, q⟩
/-- t + u, t not empty: u empty gives t itself -/
def rCatT (K : PySem.W.Frag) : R2 := fun x y H Q => ∃ a b xs ys, x = .ref a ∧ y = .ref b ∧ SqT K H a xs ∧ SqT K H b ys ∧ xs ≠ [] ∧ xs.length + ys.length ≤ sizeLine ∧
  (ys = [] → Q (.ref a) H) ∧ (ys ≠ [] → ∀ p, H p = none → Q (.ref p) (upd H p (.tup (xs ++ ys))))
theorem Vals.nil_iff {xs : List V} {us : List Value} (r : Vals xs us) : us = [] ↔ xs = [] := by
  cases r with
  | nil => simp
  | cons _ _ => simp
theorem op_catT : OpR X (binaryOp .Add) (rCatT X.K) := by
  intro pins s σ H x y v u Q I rx ry h
  obtain ⟨a, b, xs, ys, rfl, rfl, ha, hb, hx, hz, q1, q2⟩ := h
  cases rx
  cases ry
  obtain ⟨its, r1, p1, _⟩ := I.tuple ha
  obtain ⟨its2, r2, p2, _⟩ := I.tuple hb
  refine HT.cat_tup p1 p2 (fun z => hx (r1.nil_iff.mp z)) (fun z => ⟨.ref a, H, I, rfl, q1 (r2.nil_iff.mp z)⟩) (fun z => ?_) (by rw [← r1.length, ← r2.length]; exact hz)
  refine ⟨.ref s.heap.objs.size, _, I.laid (t' := s.toks) (o := .tup (xs ++ ys)) (fun b ob q => Heap.get?_push_of_some _ q) (Nat.le_refl _) ?_, rfl, q2 (fun w => z (r2.nil_iff.mpr w)) _ (I.hok.fresh (Nat.le_refl _))⟩
  exact ⟨by rw [List.length_append]; exact hz, _, r1.append r2, IsTup.new _ _⟩
/-- tuple(t) -/
theorem call_tupleT : CallR X (.type "tuple") (fun xs H Q => ∃ a ys, xs = [.ref a] ∧ SqT X.K H a ys ∧ Q (.ref a) H) := by
  intro pins s σ H xs us Q I r h
  obtain ⟨a, ys, rfl, ha, q⟩ := h
  obtain ⟨u, rfl, ru⟩ := vals1 r
  cases ru
  obtain ⟨its, _, p1, _⟩ := I.tuple ha
  exact call_tuple_same (items := its.toArray) p1 ⟨.ref a, H, I, rfl, q⟩
end
end L2

namespace L2
open PySem PySem.Spec PyProof.Rows

/-! ### places -/
/-- the place that an index of any sign means -/
def ixN (n : Nat) (i : Int) : Option Nat := if 0 ≤ i then (if i < n then some i.toNat else none) else if -(n : Int) ≤ i then some (i + n).toNat else none
def atI {α : Type} (xs : List α) (i : Int) : Option α := (ixN xs.length i).bind fun j => xs[j]?
theorem ixN_seq {n : Nat} {i : Int} {j : Nat} (h : ixN n i = some j) : seqIndex? i n = some j ∧ j < n ∧ -(n : Int) ≤ i ∧ i < n := by
  unfold ixN at h
  by_cases h0 : 0 ≤ i
  · rw [if_pos h0] at h
    by_cases h1 : i < n
    · rw [if_pos h1] at h
      have e : i.toNat = j := Option.some.inj h
      exact ⟨by rw [seqIndex_of h0 h1, e], by omega, by omega, h1⟩
    · rw [if_neg h1] at h; cases h
  · rw [if_neg h0] at h
    by_cases h1 : -(n : Int) ≤ i
    · rw [if_pos h1] at h
      have e : (i + n).toNat = j := Option.some.inj h
      exact ⟨by rw [seqIndex_neg (by omega) h1, e], by omega, h1, by omega⟩
    · rw [if_neg h1] at h; cases h
theorem atI_get {α : Type} {xs : List α} {i : Int} {v : α} (h : atI xs i = some v) : ∃ j, seqIndex? i xs.length = some j ∧ xs[j]? = some v ∧ j < xs.length ∧ -(xs.length : Int) ≤ i ∧ i < xs.length := by
  unfold atI at h
  cases e : ixN xs.length i with
  | none => rw [e] at h; cases h
  | some j =>
    rw [e] at h
    obtain ⟨h1, h2, h3, h4⟩ := ixN_seq e
    exact ⟨j, h1, h, h2, h3, h4⟩
theorem atI_nat {α : Type} {xs : List α} {j : Nat} {v : α} (h : xs[j]? = some v) : atI xs (j : Int) = some v := by
  have hj : j < xs.length := (List.getElem?_eq_some_iff.mp h).1
  have e : ixN xs.length (j : Int) = some j := by
    unfold ixN
    rw [if_pos (by omega), if_pos (by omega)]; simp
  unfold atI; rw [e]; exact h
theorem atI_last {α : Type} (xs : List α) (v : α) : atI (xs ++ [v]) (-1) = some v := by
  have hl : (xs ++ [v]).length = xs.length + 1 := by simp
  have e : ixN (xs ++ [v]).length (-1) = some xs.length := by
    unfold ixN
    rw [hl, if_neg (by decide), if_pos (by omega)]
    congr 1
    omega
  unfold atI
  rw [e]
  show (xs ++ [v])[xs.length]? = some v
  simp

/-! ### what may be subscripted -/
/-- what stands as an index of a plain subscript -/
def PlainIx (b : Expr) : Prop := ∀ o i, subscripted b false o i = operate [o, i] (getItem o i)
/-- a subscript by values -/
def IxR (X : Cx) (r : R2) : Prop :=
  ∀ (value slice : Expr) (pins : List (Addr × Obj)) (s : Shared) (σ : St) (H : Hp) (x y : V) (v u : Value) (Q : VK), Inv X pins σ H s → RelV x v → RelV y u → r x y H Q →
    subscripted slice false v u = operate [v, u] (getItem v u) → wpAny (model X.prog X.w) X.A (subscriptTail value slice v u) (EP X pins σ Q) X.xe s
/-- a call of a builtin's method by values: the receiver, the arguments -/
def MtR (X : Cx) (id : String) (r : V → List V → Hp → VK → Prop) : Prop :=
  ∀ (pins : List (Addr × Obj)) (s : Shared) (σ : St) (H : Hp) (x : V) (xs : List V) (v : Value) (us : List Value) (Q : VK), Inv X pins σ H s → RelV x v → Vals xs us → r x xs H Q →
    wpAny (model X.prog X.w) X.A (call (.builtin id) (v :: us)) (EP X pins σ Q) X.xe s
section
variable {X : Cx} {a b : Expr} {ta tb : TE} {pos : Pos}
theorem IxR.or {r r' : R2} (h : IxR X r) (h' : IxR X r') : IxR X (fun x y H Q => r x y H Q ∨ r' x y H Q) := by
  intro value slice pins s σ H x y v u Q I rx ry q hs
  rcases q with q | q
  · exact h value slice pins s σ H x y v u Q I rx ry q hs
  · exact h' value slice pins s σ H x y v u Q I rx ry q hs
theorem MtR.or {id : String} {r r' : V → List V → Hp → VK → Prop} (h : MtR X id r) (h' : MtR X id r') : MtR X id (fun x xs H Q => r x xs H Q ∨ r' x xs H Q) := by
  intro pins s σ H x xs v us Q I rx rs q
  rcases q with q | q
  · exact h pins s σ H x xs v us Q I rx rs q
  · exact h' pins s σ H x xs v us Q I rx rs q
/-- a[b] -/
theorem pe_ix {r : R2} (hr : IxR X r) (ha : PE X a ta) (hb : PE X b tb) (hs : PlainIx b) : PE X (.Subscript a b pos) (tOp r ta tb) := by
  intro pins s σ H Q I h
  exact Subscript_ (binT ha hb I h fun v u s2 x y H2 I2 rx ry q => hr a b pins s2 σ H2 x y v u Q I2 rx ry q (hs _ _))

def rIxL (K : PySem.W.Frag) : R2 := fun x y H Q => ∃ p xs i v, x = .ref p ∧ y = .int i ∧ SqL K H p xs ∧ atI xs i = some v ∧ Q v H
def rIxT (K : PySem.W.Frag) : R2 := fun x y H Q => ∃ p xs i v, x = .ref p ∧ y = .int i ∧ SqT K H p xs ∧ atI xs i = some v ∧ Q v H
def rIxS : R2 := fun x y H Q => ∃ z i c, x = .str z ∧ y = .int i ∧ z.length ≤ sizeLine ∧ atI z.cps.toList i = some c ∧ Q (.str ⟨#[c]⟩) H
theorem ix_list : IxR X (rIxL X.K) := by
  intro value slice pins s σ H x y v u Q I rx ry h hs
  obtain ⟨p, xs, i, z, rfl, rfl, hq, he, q⟩ := h
  cases rx
  obtain ⟨t, rfl⟩ := ry
  obtain ⟨its, r, pl, hz⟩ := I.list hq
  obtain ⟨j, h1, h2, h3, h4, h5⟩ := atI_get he
  obtain ⟨w, ew, rw'⟩ := r.get h2
  have hl := r.length
  have hn := line63
  have fin : EP X pins σ Q w s := ⟨z, H, I, rw', q⟩
  by_cases h0 : 0 ≤ i
  · have hj : i.toNat = j := by
      rw [seqIndex_of h0 h5] at h1
      exact Option.some.inj h1
    exact item_listR pl.isList h0 (by omega) (by rw [hj]; simpa using ew) fin hs
  · have hj : (i + (its.toArray.size : Int)).toNat = j := by
      rw [seqIndex_neg (by omega) h4] at h1
      rw [List.size_toArray, ← hl]
      exact Option.some.inj h1
    exact subscriptTail_builtinR (x := w) pl.isList.typeIs slot_list_getitem.lookup
      (wpAny_getItem_list_neg (Q := fun r s' => r = w ∧ EP X pins σ Q r s') pl.isList (by omega) (by rw [List.size_toArray] <;> omega) (by omega) (by rw [hj]; simpa using ew) ⟨rfl, fin⟩) hs
theorem ix_tup : IxR X (rIxT X.K) := by
  intro value slice pins s σ H x y v u Q I rx ry h hs
  obtain ⟨p, xs, i, z, rfl, rfl, hq, he, q⟩ := h
  cases rx
  obtain ⟨t, rfl⟩ := ry
  obtain ⟨its, r, pl, hz⟩ := I.tuple hq
  obtain ⟨j, h1, h2, h3, h4, h5⟩ := atI_get he
  obtain ⟨w, ew, rw'⟩ := r.get h2
  have hl := r.length
  have hn := line63
  have fin : EP X pins σ Q w s := ⟨z, H, I, rw', q⟩
  exact subscriptTail_builtinR (x := w) pl.typeIs slot_tuple_getitem.lookup
    (getItem_tuple (j := j) (Q := fun r s' => r = w ∧ EP X pins σ Q r s') pl (by omega) (by omega) (by rw [List.size_toArray, ← hl]; exact h1) (by simpa using ew) ⟨rfl, fin⟩) hs
theorem ix_str : IxR X rIxS := by
  intro value slice pins s σ H x y v u Q I rx ry h hs
  obtain ⟨z, i, c, rfl, rfl, hz, he, q⟩ := h
  obtain ⟨t, rfl⟩ := rx
  obtain ⟨t', rfl⟩ := ry
  obtain ⟨j, h1, h2, h3, h4, h5⟩ := atI_get he
  have hl : z.cps.toList.length = z.length := by simp [Str.length]
  rw [hl] at h1 h4 h5
  have hn := line63
  exact tail_any (typeIs_str s z t) slot_str_getitem.lookup (getItem_str (c := c) (by
    have e1 : decide (i < -(2 ^ 63 : Int)) = false := decide_eq_false (by omega)
    have e2 : decide (i ≥ 2 ^ 63) = false := decide_eq_false (by omega)
    rw [e1, e2, Bool.or_false]) (by rw [h1]; simpa using h2) ⟨.str ⟨#[c]⟩, H, I.tok _, ⟨_, rfl⟩, q⟩) hs
/-- list, tuple or str -/
def rIx (K : PySem.W.Frag) : R2 := fun x y H Q => rIxL K x y H Q ∨ rIxT K x y H Q ∨ rIxS x y H Q
theorem ix_seq : IxR X (rIx X.K) := ix_list.or (ix_tup.or ix_str)

/-! ### xs[i] = v, any sign -/
/-- the list's object behind a store -/
theorem mapSeq_set (its : List Value) (n j : Nat) (u : Value) : Obj.mapSeq (·.setIfInBounds j u) { cls := .type "list", data := .seq its.toArray n } = { cls := .type "list", data := .seq (its.set j u).toArray n } := by
  simp [Obj.mapSeq]
theorem Inv.lst {pins : List (Addr × Obj)} {σ : St} {H : Hp} {s : Shared} {p : Addr} {xs : List V} (I : Inv X pins σ H s) (h : H p = some (.lst xs)) :
    ∃ (its : List Value) (n : Nat), Vals xs its ∧ s.heap.get? p = some { cls := .type "list", data := .seq its.toArray n } ∧ xs.length ≤ sizeLine := by
  obtain ⟨z, its, n, r, e⟩ := I.hok p _ h
  exact ⟨its, n, r, e, z⟩
/-- the list at p is written by an update of its object -/
theorem Inv.lstUpd {pins : List (Addr × Obj)} {σ : St} {H : Hp} {s : Shared} {p : Addr} {xs ys : List V} {its its' : List Value} {n n' : Nat} {f : Obj → Obj} (I : Inv X pins σ H s) (h : H p = some (.lst xs))
    (ho : s.heap.get? p = some { cls := .type "list", data := .seq its.toArray n }) (hf : f { cls := .type "list", data := .seq its.toArray n } = { cls := .type "list", data := .seq its'.toArray n' }) (r : Vals ys its') (hz : ys.length ≤ sizeLine) (t : Nat) :
    Inv X pins σ (upd H p (.lst ys)) { s with heap := s.heap.update p f, toks := t } := by
  have e : (s.heap.update p f).get? p = some { cls := .type "list", data := .seq its'.toArray n' } := by
    rw [Heap.get?_update_self f ho (by rw [hf] <;> rfl), hf]
  refine I.write (x := p) (e := p) (by rw [h]; trivial) (.inl rfl) (fun b u hb q => (Heap.get?_update_other _ _ (Ne.symm hb)).trans q) ⟨_, e⟩ ?_
  exact ⟨hz, its', n', r, e⟩
def rSetL : V → V → V → Hp → (Hp → Prop) → Prop := fun o i v H Q => ∃ p xs k j, o = .ref p ∧ i = .int k ∧ H p = some (.lst xs) ∧ ixN xs.length k = some j ∧ Q (upd H p (.lst (xs.set j v)))
theorem set_list : PSet X rSetL := by
  intro pins s σ H o i v ov iv u Q I ro ri rv h
  obtain ⟨p, xs, k, j, rfl, rfl, hp, hj, q⟩ := h
  cases ro
  obtain ⟨t, rfl⟩ := ri
  obtain ⟨its, n, r, ho, hz⟩ := I.lst hp
  obtain ⟨h1, h2, h3, h4⟩ := ixN_seq hj
  have hl := r.length
  have hn := line63
  have I' : Inv X pins σ (upd H p (.lst (xs.set j v))) { s with heap := s.heap.update p (Obj.mapSeq (·.setIfInBounds j u)) } :=
    I.lstUpd hp ho (mapSeq_set its n j u) (r.set rv j) (by rw [List.length_set]; exact hz) s.toks
  by_cases h0 : 0 ≤ k
  · have hk : k.toNat = j := by
      rw [seqIndex_of h0 h4] at h1
      exact Option.some.inj h1
    exact PySem.W.ki_setAt ho h0 (by omega) (by rw [List.size_toArray, ← hl]; exact h4) (by rw [hk]; exact ⟨_, I', q⟩)
  · have hk : (k + (its.toArray.size : Int)).toNat = j := by
      rw [seqIndex_neg (by omega) h3] at h1
      rw [List.size_toArray, ← hl]
      exact Option.some.inj h1
    exact PySem.W.ki_setBack ho (by omega) (by rw [List.size_toArray, ← hl]; exact h3) (by omega) (by rw [hk]; exact ⟨_, I', q⟩)

/-! ### slices -/
theorem slice_bounds (lo hi : Option Int) (n : Nat) : (sliceBounds lo hi none n).1 = ((HT.sIx n 0 lo : Nat) : Int) ∧ (sliceBounds lo hi none n).2.1 = ((HT.sIx n n hi : Nat) : Int) ∧ (sliceBounds lo hi none n).2.2 = 1 := by
  refine ⟨?_, ?_, rfl⟩
  · cases lo with
    | none => simp [sliceBounds, HT.sIx]
    | some i =>
      simp only [sliceBounds, HT.sIx, Option.getD_none, show (1 : Int) > 0 by decide, if_true]
      by_cases h : i < 0
      · simp only [h, if_true] <;> omega
      · simp only [h, if_false] <;> omega
  · cases hi with
    | none => simp [sliceBounds, HT.sIx]
    | some i =>
      simp only [sliceBounds, HT.sIx, Option.getD_none, show (1 : Int) > 0 by decide, if_true]
      by_cases h : i < 0
      · simp only [h, if_true] <;> omega
      · simp only [h, if_false] <;> omega
theorem slicePick_cut (its : List Value) (lo hi : Option Int) : slicePick its.toArray lo hi none = ((its.drop (HT.sIx its.length 0 lo)).take (HT.sIx its.length its.length hi - HT.sIx its.length 0 lo)).toArray := by
  obtain ⟨h1, h2, h3⟩ := slice_bounds lo hi its.toArray.size
  unfold slicePick
  rw [h1, h2, h3]
  simp only [sliceRange_one, pick_run, List.size_toArray] <;> rfl
/-- xs[lo:hi] of a list: a new list -/
def rSlL (K : PySem.W.Frag) : V → Option Int → Option Int → Hp → VK → Prop := fun x lo hi H Q => ∃ a xs, x = .ref a ∧ SqL K H a xs ∧ ∀ p, H p = none → Q (.ref p) (upd H p (.lst (cutV xs lo hi)))
theorem sl_list : SlR X (rSlL X.K) := by
  intro pins s σ H x v vl vu lo hi sl Q I rx hs pl pu h
  obtain ⟨a, xs, rfl, hx, q⟩ := h
  cases rx
  obtain ⟨its, r, ht, hz⟩ := I.list hx
  have hlen := r.length
  refine ⟨"list", _, slot_list_getitem.lookup, ht.isList.typeIs, ?_⟩
  refine wpAny_getItem_list_slice ht.isList hs pl pu .none (by simp) ?_ (by rw [List.size_toArray] <;> omega)
  rw [slicePick_cut, ← hlen]
  refine ⟨.ref s.heap.objs.size, _, I.laid (t' := s.toks) (o := .lst (cutV xs lo hi)) (fun b ob q => Heap.get?_push_of_some _ q) (Nat.le_refl _) ?_, rfl, q _ (I.hok.fresh (Nat.le_refl _))⟩
  exact ⟨Nat.le_trans (cutV_length xs lo hi) hz, _, 0, (r.drop (HT.sIx xs.length 0 lo)).take (HT.sIx xs.length xs.length hi - HT.sIx xs.length 0 lo), Heap.get?_push_size _ rfl⟩

/-! ### in, not in: flat items -/
def flatV : V → Bool
  | .non => true
  | .bl _ => true
  | .int _ => true
  | .str _ => true
  | _ => false
/-- == of flat values -/
def eqV : V → V → Bool
  | .non, .non => true
  | .bl a, .bl b => a == b
  | .bl a, .int b => (if a then 1 else 0) == b
  | .int a, .bl b => a == (if b then 1 else 0)
  | .int a, .int b => a == b
  | .str a, .str b => a == b
  | _, _ => false
theorem eqAt_V {A : Around} {s : Shared} {y x : V} {u v : Value} (ry : RelV y u) (rx : RelV x v) (fy : flatV y = true) (fx : flatV x = true) : SeqAt.EqAt A s u v (eqV y x) := by
  cases y with
  | non =>
    cases ry
    cases x with
    | non => cases rx; exact SeqAt.EqAt.same _
    | bl b => cases rx; exact SeqAt.EqAt.none_bool b
    | int b => obtain ⟨t, rfl⟩ := rx; exact SeqAt.EqAt.none_int b t
    | str b => obtain ⟨t, rfl⟩ := rx; exact SeqAt.EqAt.none_str b t
    | _ => exact absurd (show false = true from fx) Bool.false_ne_true
  | bl a =>
    cases ry
    cases x with
    | non => cases rx; exact SeqAt.EqAt.bool_none a
    | bl b => cases rx; exact SeqAt.EqAt.bool_bool a b
    | int b => obtain ⟨t, rfl⟩ := rx; exact SeqAt.EqAt.bool_int a b t
    | str b => obtain ⟨t, rfl⟩ := rx; exact SeqAt.EqAt.bool_str a b t
    | _ => exact absurd (show false = true from fx) Bool.false_ne_true
  | int a =>
    obtain ⟨t', rfl⟩ := ry
    cases x with
    | non => cases rx; exact SeqAt.EqAt.int_none a t'
    | bl b => cases rx; exact SeqAt.EqAt.int_bool a t' b
    | int b => obtain ⟨t, rfl⟩ := rx; exact SeqAt.EqAt.int_int a t' b t
    | str b => obtain ⟨t, rfl⟩ := rx; exact SeqAt.EqAt.int_str a t' b t
    | _ => exact absurd (show false = true from fx) Bool.false_ne_true
  | str a =>
    obtain ⟨t', rfl⟩ := ry
    cases x with
    | non => cases rx; exact SeqAt.EqAt.str_none a t'
    | bl b => cases rx; exact SeqAt.EqAt.str_bool a t' b
    | int b => obtain ⟨t, rfl⟩ := rx; exact SeqAt.EqAt.str_int a t' b t
    | str b => obtain ⟨t, rfl⟩ := rx; exact SeqAt.EqAt.str_str a t' b t
    | _ => exact absurd (show false = true from fx) Bool.false_ne_true
  | _ => exact absurd (show false = true from fy) Bool.false_ne_true
/-- the items' answers, read off the values (a value's own answer does not lean on its token) -/
def eqU (x : V) (u : Value) : Bool := match u with
  | .none => eqV .non x
  | .bool b => eqV (.bl b) x
  | .int i _ => eqV (.int i) x
  | .str z _ => eqV (.str z) x
  | _ => false
theorem eqU_of {x y : V} {u : Value} (r : RelV y u) (f : flatV y = true) : eqU x u = eqV y x := by
  cases y with
  | non => cases r; rfl
  | bl b => cases r; rfl
  | int i => obtain ⟨t, rfl⟩ := r; rfl
  | str z => obtain ⟨t, rfl⟩ := r; rfl
  | _ => exact absurd (show false = true from f) Bool.false_ne_true
theorem any_eqU {x : V} : ∀ {xs : List V} {us : List Value}, Vals xs us → xs.all flatV = true → us.any (eqU x) = xs.any fun y => eqV y x
  | _, _, .nil, _ => rfl
  | y :: xs, u :: us, .cons r t, f => by
    rw [List.all_cons, Bool.and_eq_true] at f
    rw [List.any_cons, List.any_cons, eqU_of r f.1, any_eqU t f.2]
theorem mem_eqAt {A : Around} {s : Shared} {x : V} {v : Value} (rx : RelV x v) (fx : flatV x = true) : ∀ {xs : List V} {us : List Value}, Vals xs us → xs.all flatV = true → ∀ u ∈ us, SeqAt.EqAt A s u v (eqU x u)
  | _, _, .nil, _ => fun u hu => by cases hu
  | y :: xs, u :: us, .cons r t, f => fun u' hu => by
    rw [List.all_cons, Bool.and_eq_true] at f
    rcases List.mem_cons.mp hu with rfl | hu
    · rw [eqU_of r f.1]; exact eqAt_V r rx f.1 fx
    · exact mem_eqAt rx fx t f.2 u' hu
def inV (x : V) (xs : List V) : Bool := xs.any fun y => eqV y x
/-- x in a list or tuple of flat items -/
def rIn (K : PySem.W.Frag) (neg : Bool) : R2 := fun x y H Q => ∃ p xs, y = .ref p ∧ (SqL K H p xs ∨ SqT K H p xs) ∧ flatV x = true ∧ xs.all flatV = true ∧ Q (.bl (if neg then !inV x xs else inV x xs)) H
theorem op_in_seq : OpR X (compareOp .In) (rIn X.K false) := by
  intro pins s σ H x y v u Q I rx ry h
  obtain ⟨p, xs, rfl, hq, fx, fs, q⟩ := h
  cases ry
  rcases hq with hq | hq
  · obtain ⟨its, r, pl, hz⟩ := I.list hq
    refine SeqAt.in_listAt (eqU x) pl.isList (fun w hw => mem_eqAt rx fx r fs w (by simpa using hw)) ⟨.bl _, H, I, rfl, ?_⟩
    rw [show its.toArray.any (eqU x) = its.any (eqU x) by simp, any_eqU r fs]
    exact q
  · obtain ⟨its, r, pl, hz⟩ := I.tuple hq
    refine SeqAt.in_tupleAt (eqU x) pl (fun w hw => mem_eqAt rx fx r fs w (by simpa using hw)) ⟨.bl _, H, I, rfl, ?_⟩
    rw [show its.toArray.any (eqU x) = its.any (eqU x) by simp, any_eqU r fs]
    exact q
theorem op_notIn_seq : OpR X (compareOp .NotIn) (rIn X.K true) := by
  intro pins s σ H x y v u Q I rx ry h
  obtain ⟨p, xs, rfl, hq, fx, fs, q⟩ := h
  cases ry
  rcases hq with hq | hq
  · obtain ⟨its, r, pl, hz⟩ := I.list hq
    refine SeqAt.notIn_listAt (eqU x) pl.isList (fun w hw => mem_eqAt rx fx r fs w (by simpa using hw)) ⟨.bl _, H, I, rfl, ?_⟩
    rw [show its.toArray.any (eqU x) = its.any (eqU x) by simp, any_eqU r fs]
    exact q
  · obtain ⟨its, r, pl, hz⟩ := I.tuple hq
    refine SeqAt.notIn_tupleAt (eqU x) pl (fun w hw => mem_eqAt rx fx r fs w (by simpa using hw)) ⟨.bl _, H, I, rfl, ?_⟩
    rw [show its.toArray.any (eqU x) = its.any (eqU x) by simp, any_eqU r fs]
    exact q
theorem op_notIn_str : OpR X (compareOp .NotIn) (fun x y H Q => ∃ i j, x = .str i ∧ y = .str j ∧ Q (.bl (!(!(Builtin.Str.occurrences j i 0 j.length 1).isEmpty))) H) := by
  intro pins s σ H x y v u Q I rx ry h
  obtain ⟨i, j, rfl, rfl, q⟩ := h
  obtain ⟨t, rfl⟩ := rx
  obtain ⟨t', rfl⟩ := ry
  exact notIn_str ⟨.bl _, H, I, rfl, q⟩

/-! ### len, list(x), tuple(x) of any list or tuple that is read -/
theorem call_len_seq : CallR X (.builtin "len") (fun xs H Q => ∃ p ys, xs = [.ref p] ∧ (SqL X.K H p ys ∨ SqT X.K H p ys) ∧ Q (.int ys.length) H) := by
  intro pins s σ H xs us Q I r h
  obtain ⟨p, ys, rfl, hq, q⟩ := h
  obtain ⟨u, rfl, rx⟩ := vals1 r
  cases rx
  have hn := line63
  rcases hq with hq | hq
  · obtain ⟨its, r', pl, hz⟩ := I.list hq
    have hlen := r'.length
    exact Calls.call_len_list pl.isList (by simp only [List.size_toArray] <;> omega) ⟨.int ys.length, H, I.tok _, ⟨s.toks + 1, by rw [List.size_toArray, hlen]⟩, q⟩
  · obtain ⟨its, r', pl, hz⟩ := I.tuple hq
    have hlen := r'.length
    exact len_tuple pl (by simp only [List.size_toArray] <;> omega) ⟨.int ys.length, H, I.tok _, ⟨s.toks + 1, by rw [List.size_toArray, hlen]⟩, q⟩
theorem call_len_str : CallR X (.builtin "len") (fun xs H Q => ∃ z, xs = [.str z] ∧ z.length ≤ sizeLine ∧ Q (.int z.length) H) := by
  intro pins s σ H xs us Q I r h
  obtain ⟨z, rfl, hz, q⟩ := h
  obtain ⟨u, rfl, t, rfl⟩ := vals1 r
  have hn := line63
  exact len_str (by omega) ⟨.int z.length, H, I.tok _, ⟨_, rfl⟩, q⟩
theorem CallR.or {f : Value} {r r' : List V → Hp → VK → Prop} (h : CallR X f r) (h' : CallR X f r') : CallR X f (fun xs H Q => r xs H Q ∨ r' xs H Q) := by
  intro pins s σ H xs us Q I rs q
  rcases q with q | q
  · exact h pins s σ H xs us Q I rs q
  · exact h' pins s σ H xs us Q I rs q
theorem call_list_of : CallR X (.type "list") (fun xs H Q => ∃ p ys, xs = [.ref p] ∧ (SqL X.K H p ys ∨ SqT X.K H p ys) ∧ ∀ l, H l = none → Q (.ref l) (upd H l (.lst ys))) := by
  intro pins s σ H xs us Q I r h
  obtain ⟨p, ys, rfl, hq, q⟩ := h
  obtain ⟨u, rfl, rx⟩ := vals1 r
  cases rx
  have fin : ∀ (its : List Value), Vals ys its → ys.length ≤ sizeLine → ∀ (h' : Heap) (c' : Nat), (∀ b o', s.heap.get? b = some o' → h'.get? b = some o') →
      h'.get? s.heap.objs.size = some { cls := .type "list", dict := none, data := .seq its.toArray c', slots := #[] } → EP X pins σ Q (.ref s.heap.objs.size) { s with heap := h' } := fun its r' hz h' c' kp e =>
    ⟨.ref s.heap.objs.size, _, I.laid (t' := s.toks) kp (Nat.le_refl _) (show ObjOk X.prog X.w _ h' _ (.lst ys) from ⟨hz, its, c', r', e⟩), rfl, q _ (I.hok.fresh (Nat.le_refl _))⟩
  rcases hq with hq | hq
  · obtain ⟨its, r', pl, hz⟩ := I.list hq
    have hlen := r'.length
    obtain ⟨o, ho, hc, n, hd⟩ := pl.isList
    exact call_list_seq p (.inl rfl) ho hc hd (fun h' c' kp e => fin its r' hz h' c' kp e) (by simp only [List.size_toArray] <;> omega)
  · obtain ⟨its, r', pl, hz⟩ := I.tuple hq
    have hlen := r'.length
    obtain ⟨o, ho, hc, n, hd⟩ := pl
    exact call_list_seq p (.inr rfl) ho hc hd (fun h' c' kp e => fin its r' hz h' c' kp e) (by simp only [List.size_toArray] <;> omega)
theorem call_tuple_of : CallR X (.type "tuple") (fun xs H Q => ∃ p ys, xs = [.ref p] ∧ ((SqL X.K H p ys ∧ ∀ l, H l = none → Q (.ref l) (upd H l (.tup ys))) ∨ (SqT X.K H p ys ∧ Q (.ref p) H))) := by
  intro pins s σ H xs us Q I r h
  obtain ⟨p, ys, rfl, h⟩ := h
  obtain ⟨u, rfl, rx⟩ := vals1 r
  cases rx
  rcases h with ⟨hq, q⟩ | ⟨hq, q⟩
  · obtain ⟨its, r', pl, hz⟩ := I.list hq
    have hlen := r'.length
    refine call_tuple_list pl.isList (fun h' kp => ?_) (by simp only [List.size_toArray] <;> omega)
    have I1 : Inv X pins σ H { s with heap := h' } := I.kept (t' := s.toks) kp
    have I2 : Inv X pins σ (upd H h'.objs.size (.tup ys)) { s with heap := h'.push { cls := .type "tuple", data := .seq its.toArray } } :=
      I1.laid (t' := s.toks) (fun b o e => Heap.get?_push_of_some _ e) (Nat.le_refl _) (show ObjOk X.prog X.w _ _ _ (.tup ys) from ⟨hz, its, r', IsTup.new _ _⟩)
    exact ⟨.ref h'.objs.size, _, I2, rfl, q _ (I1.hok.fresh (Nat.le_refl _))⟩
  · obtain ⟨its, r', pl, hz⟩ := I.tuple hq
    exact call_tuple_same pl ⟨.ref p, H, I, rfl, q⟩

/-! ### the call of a builtin's method: o.m(..) -/
/-- the value is of that builtin type -/
def tyV (K : PySem.W.Frag) (T : String) (x : V) (H : Hp) : Prop := match x with
  | .str _ => T = "str"
  | .int _ => T = "int"
  | .ref p => (T = "list" ∧ ∃ xs, SqL K H p xs) ∨ (T = "tuple" ∧ ∃ o, K.lookup p = some o ∧ o.cls = .type "tuple" ∧ o.dict = none) ∨
      (T = "dict" ∧ ((∃ kvs, H p = some (.dK kvs)) ∨ ∃ kvs, H p = some (.dT kvs))) ∨ (T = "set" ∧ ∃ S n, H p = some (.set S n))
  | _ => False
theorem tyV_is {pins : List (Addr × Obj)} {σ : St} {H : Hp} {s : Shared} {T : String} {x : V} {v : Value} (I : Inv X pins σ H s) (r : RelV x v) (ty : tyV X.K T x H) :
    s.TypeIs v T ∧ ∀ a, v = .ref a → ∃ ob, s.heap.get? a = some ob ∧ ob.dict = none := by
  cases x with
  | str z =>
    obtain ⟨t, rfl⟩ := r
    cases (show T = "str" from ty)
    exact ⟨typeIs_str s z t, fun _ e => nomatch e⟩
  | int i =>
    obtain ⟨t, rfl⟩ := r
    cases (show T = "int" from ty)
    exact ⟨typeIs_int s i t, fun _ e => nomatch e⟩
  | ref p =>
    cases r
    rcases ty with ⟨rfl, xs, hq⟩ | ⟨rfl, o, hk, hc, hd⟩ | ⟨rfl, hk⟩ | ⟨rfl, S, n, hk⟩
    · obtain ⟨its, _, pl, _⟩ := I.list hq
      refine ⟨pl.isList.typeIs, fun a e => ?_⟩
      cases e
      obtain ⟨o, n, e, c, hd, _⟩ := pl
      exact ⟨o, e, hd⟩
    · refine ⟨⟨o, I.kIn p o hk, hc⟩, fun a e => ?_⟩
      cases e
      exact ⟨o, I.kIn _ o hk, hd⟩
    · have z : ∃ o, s.heap.get? p = some o ∧ o.ExactDict := by
        rcases hk with ⟨kvs, hk⟩ | ⟨kvs, hk⟩
        · obtain ⟨_, _, _, _, o, _, _, e, ex, _⟩ := I.hok p _ hk
          exact ⟨o, e, ex⟩
        · obtain ⟨_, _, _, _, o, _, _, e, ex, _⟩ := I.hok p _ hk
          exact ⟨o, e, ex⟩
      obtain ⟨o, e, ex⟩ := z
      refine ⟨⟨o, e, ex.1⟩, fun a e2 => ?_⟩
      cases e2
      exact ⟨o, e, ex.2.1⟩
    · obtain ⟨o, _, _, _, e, ex, _⟩ := I.hok p _ hk
      refine ⟨⟨o, e, ex.1⟩, fun a e2 => ?_⟩
      cases e2
      exact ⟨o, e, ex.2.1⟩
  | _ => exact False.elim ty
def tBM0 (K : PySem.W.Frag) (T : String) (r : V → List V → Hp → VK → Prop) (to : TE) : TE := fun σ H Q => to σ H fun x H1 => tyV K T x H1 ∧ r x [] H1 Q
def tBM (K : PySem.W.Frag) (T : String) (r : V → List V → Hp → VK → Prop) (to : TE) (t : TA) : TE := fun σ H Q => to σ H fun x H1 => tyV K T x H1 ∧ t σ H1 fun xs H2 => r x xs H2 Q
variable {o e : Expr} {es : List Expr} {to : TE} {t : TA} {name : Str} {apos cpos : Pos} {T id : String} {r : V → List V → Hp → VK → Prop}
theorem pe_bm0 (pa : PlainAttrs T) (slot : Slot T name id) (hty : typeOf (.builtin id) = pure (.type "method_descriptor")) (hm : MtR X id r) (ho : PE X o to)
    (hbase : attributeBase o name X.env (eval o X.env) = eval o X.env := by rfl) (hline : (apos.endLine == cpos.line) = true := by rfl) : PE X (.Call (.Attribute o name apos) [] [] cpos) (tBM0 X.K T r to) := by
  intro pins s σ H Q I h
  refine wpAny_Call_method0_late hbase hline (thn (ho pins s σ H _ I h) fun v s1 ⟨x, H1, I1, r1, ty, q1⟩ => ?_)
  obtain ⟨h1, h2⟩ := tyV_is I1 r1 ty
  exact ⟨T, id, pa, slot, hty, h1, h2, Calls.callWith_builtin rfl (PySem.evalArgs_none (hm pins s1 σ H1 x [] v [] Q I1 r1 .nil q1))⟩
theorem pe_bm (pa : PlainAttrs T) (slot : Slot T name id) (hty : typeOf (.builtin id) = pure (.type "method_descriptor")) (hm : MtR X id r) (ho : PE X o to) (ha : PA X (e :: es) t)
    (hbase : attributeBase o name X.env (eval o X.env) = eval o X.env := by rfl)
    (hfew : ((backTo cpos (starEach (e :: es) X.env)).all (fun x => !x.1) && (backToKw cpos (keywordEach [] X.env)).all (fun x => x.1.isSome)
      && decide ((e :: es).length + ([] : List Keyword).length + (if ([] : List Keyword).isEmpty then 0 else 1) < 30)) = true := by rfl)
    (hline : (apos.endLine == cpos.line) = true := by rfl) (hs : starEach (e :: es) X.env = (false, eval e X.env) :: starEach es X.env := by rfl) (hplain : (backTo cpos (starEach es X.env)).any (·.1) = false := by rfl) :
    PE X (.Call (.Attribute o name apos) (e :: es) [] cpos) (tBM X.K T r to t) := by
  intro pins s σ H Q I h
  refine wpAny_Call_method_late hbase hfew hline rfl (thn (ho pins s σ H _ I h) fun v s1 ⟨x, H1, I1, r1, ty, q1⟩ => ?_)
  obtain ⟨h1, h2⟩ := tyV_is I1 r1 ty
  refine ⟨T, id, pa, slot, hty, h1, h2, ?_⟩
  have hA := ha cpos pins s1 σ H1 _ I1 q1
  rw [hs] at hA ⊢
  refine Calls.callWith_builtin (by show (false || (backTo cpos (starEach es X.env)).any (·.1)) = false; rw [hplain] <;> rfl) (Calls.evalArgs_plain ?_)
  exact thn hA fun us s2 ⟨vs, H2, I2, r2, q2⟩ => hm pins s2 σ H2 x vs v us Q I2 r1 r2 q2
/- xs.append(e), list.index on a module's tuple .. are MtR facts of 06m -/
end
end L2

namespace L2
open PySem PySem.Spec PyProof.Rows

def MtM (X : Cx) (id : String) (r : V → List V → Hp → VK → Prop) : Prop :=
  ∀ (pins : List (Addr × Obj)) (s : Shared) (σ : St) (H : Hp) (x : V) (xs : List V) (v : Value) (us : List Value) (Q : VK), Inv X pins σ H s → RelV x v → Vals xs us → r x xs H Q →
    wpAny (model X.prog X.w) X.A (call (.builtin id) (v :: us)) (EP X pins σ Q) X.xe s

/-! ### lists of values -/
theorem Vals.one : ∀ {x : V} {us : List Value}, Vals [x] us → ∃ u, us = [u] ∧ RelV x u
  | _, _, .cons r .nil => ⟨_, rfl, r⟩
theorem Vals.two : ∀ {x y : V} {us : List Value}, Vals [x, y] us → ∃ u v, us = [u, v] ∧ RelV x u ∧ RelV y v
  | _, _, _, .cons r (.cons q .nil) => ⟨_, _, rfl, r, q⟩
theorem Vals.zero : ∀ {us : List Value}, Vals [] us → us = []
  | _, .nil => rfl
theorem Vals.dropLast {xs : List V} {us : List Value} (h : Vals xs us) : Vals xs.dropLast us.dropLast := by
  induction h with
  | nil => exact .nil
  | cons r t ih =>
    cases t with
    | nil => exact .nil
    | cons q t' => exact .cons r ih
theorem Vals.eraseIdx : ∀ {xs : List V} {us : List Value} (i : Nat), Vals xs us → Vals (xs.eraseIdx i) (us.eraseIdx i)
  | _, _, _, .nil => .nil
  | _, _, 0, .cons _ t => t
  | _, _, i + 1, .cons r t => .cons r (Vals.eraseIdx i t)
theorem Vals.reverse {xs : List V} {us : List Value} (h : Vals xs us) : Vals xs.reverse us.reverse := by
  induction h with
  | nil => exact .nil
  | cons r t ih => rw [List.reverse_cons, List.reverse_cons]; exact Vals.append ih (.cons r .nil)
theorem Vals.rep {xs : List V} {us : List Value} (h : Vals xs us) : ∀ k : Nat, Vals (List.replicate k xs).flatten (List.replicate k us).flatten
  | 0 => .nil
  | k + 1 => by
    rw [List.replicate_succ, List.replicate_succ, List.flatten_cons, List.flatten_cons]
    exact Vals.append h (Vals.rep h k)
theorem erase_last {α : Type} (l : List α) : l.eraseIdx (l.length - 1) = l.dropLast := by
  induction l with
  | nil => rfl
  | cons a r ih =>
    cases r with
    | nil => rfl
    | cons b r =>
      have e : (a :: b :: r).length - 1 = ((b :: r).length - 1) + 1 := by
        have h1 : (a :: b :: r).length = r.length + 2 := rfl
        have h2 : (b :: r).length = r.length + 1 := rfl
        omega
      rw [e, List.eraseIdx_cons_succ, ih]
      all_goals rfl
theorem len_erase {α : Type} : ∀ (l : List α) (i : Nat), (l.eraseIdx i).length ≤ l.length
  | [], _ => Nat.le_refl _
  | _ :: _, 0 => Nat.le_succ _
  | _ :: r, i + 1 => Nat.succ_le_succ (len_erase r i)
theorem foldl_rep (its : List Value) : ∀ (k : Nat) (acc : List Value),
    List.foldl (fun x1 x2 => x1 ++ x2) acc.toArray (List.replicate k its.toArray) = (acc ++ (List.replicate k its).flatten).toArray
  | 0, acc => by simp
  | k + 1, acc => by
    have e : acc.toArray ++ its.toArray = (acc ++ its).toArray := by simp
    have e2 : (acc ++ its) ++ (List.replicate k its).flatten = acc ++ (List.replicate (k + 1) its).flatten := by
      rw [List.replicate_succ, List.flatten_cons, List.append_assoc]
    rw [← e2, ← foldl_rep its k (acc ++ its), ← e, List.replicate_succ, List.foldl_cons]

section
variable {X : Cx} {pins : List (Addr × Obj)} {σ : St} {H : Hp} {s : Shared} {l b : Addr} {xs ys zs : List V}

/-! ### the two steps: a tracked list is rewritten, a new list is laid -/
theorem Inv.lset {its its' : List Value} {n : Nat} {f : Array Value → Array Value} {t' : Nat} (I : Inv X pins σ H s) (hH : H l = some (.lst xs))
    (e : s.heap.get? l = some { cls := .type "list", data := .seq its.toArray n }) (hf : f its.toArray = its'.toArray) (hv : Vals ys its') (hz : ys.length ≤ sizeLine) :
    Inv X pins σ (upd H l (.lst ys)) { s with heap := s.heap.update l (Obj.mapSeq f), toks := t' } := by
  have q := PySem.IsL.update e f
  rw [hf] at q
  refine I.write (x := l) (e := l) (by rw [hH]; exact trivial) (.inl rfl) (fun b' u hb hu => (Heap.get?_update_other s.heap (Obj.mapSeq f) (Ne.symm hb)).trans hu) ⟨_, q⟩ ?_
  exact ⟨hz, its', _, hv, q⟩
theorem Inv.lnew {its : List Value} {t' : Nat} (I : Inv X pins σ H s) (hv : Vals ys its) (hz : ys.length ≤ sizeLine) :
    Inv X pins σ (upd H s.heap.objs.size (.lst ys)) { s with heap := s.heap.push { cls := .type "list", data := .seq its.toArray }, toks := t' } :=
  I.laid (fun _ _ q => Heap.get?_push_of_some _ q) (Nat.le_refl _) ⟨hz, its, 0, hv, Heap.get?_push_size _ rfl⟩
theorem Inv.fresh (I : Inv X pins σ H s) : H s.heap.objs.size = none := I.hok.fresh (Nat.le_refl _)
theorem Inv.lstM (I : Inv X pins σ H s) (hH : H l = some (.lst xs)) : xs.length ≤ sizeLine ∧ ∃ (its : List Value) (n : Nat), Vals xs its ∧ xs.length = its.length ∧ s.heap.get? l = some { cls := .type "list", data := .seq its.toArray n } := by
  obtain ⟨z, its, n, r, e⟩ := I.hok l _ hH
  exact ⟨z, its, n, r, r.length, e⟩

theorem notLongL {n : Nat} (h : n ≤ sizeLine) : Builtin.List.listTooLong n = false := by
  unfold Builtin.List.listTooLong
  exact decide_eq_false (by omega)
end

section
variable {X : Cx}

/-! ### methods -/
def rAppend : V → List V → Hp → VK → Prop := fun x vs H Q => ∃ l xs y, x = .ref l ∧ vs = [y] ∧ H l = some (.lst xs) ∧ xs.length < sizeLine ∧ Q .non (upd H l (.lst (xs ++ [y])))
theorem mt_append : MtM X "list.append" rAppend := by
  intro pins s σ H x vs v us Q I rx rv h
  obtain ⟨l, xs, y, rfl, rfl, hH, hz, q⟩ := h
  cases rx
  obtain ⟨u, rfl, ru⟩ := rv.one
  obtain ⟨z, its, n, r, hl, e⟩ := I.lstM hH
  refine call_meets F.slot_list_append ⟨_, e, rfl⟩ F.entry_list_append (F.args_list_append_2 _ _) (PySem.list_append l its.toArray n u (by rw [List.size_toArray]; omega)) ⟨e, ?_⟩
  refine ⟨.non, _, I.lset (its' := its ++ [u]) hH e (by simp) (r.append (.cons ru .nil)) ?_, rfl, q⟩
  rw [List.length_append, List.length_singleton]
  omega

def rExtend : V → List V → Hp → VK → Prop := fun x vs H Q => ∃ l b xs zs, x = .ref l ∧ vs = [.ref b] ∧ H l = some (.lst xs) ∧ H b = some (.lst zs) ∧ xs.length + zs.length ≤ sizeLine ∧ Q .non (upd H l (.lst (xs ++ zs)))
theorem mt_extend : MtM X "list.extend" rExtend := by
  intro pins s σ H x vs v us Q I rx rv h
  obtain ⟨l, b, xs, zs, rfl, rfl, hH, hB, hz, q⟩ := h
  cases rx
  obtain ⟨u, rfl, ru⟩ := rv.one
  cases ru
  obtain ⟨z, its, n, r, hl, e⟩ := I.lstM hH
  obtain ⟨z2, its2, n2, r2, hl2, e2⟩ := I.lstM hB
  have hsz : its.toArray.size + its2.toArray.size ≤ sizeLine := by rw [List.size_toArray, List.size_toArray]; omega
  have hlong : ¬ (!its.toArray.isEmpty && Builtin.List.listTooLong (its.toArray.size + its2.toArray.size)) = true := by
    rw [notLongL hsz, Bool.and_false]
    exact Bool.false_ne_true
  refine call_meets F.slot_list_extend ⟨_, e, rfl⟩ F.entry_list_extend (F.args_list_extend_2 _ _)
    (AutoSeq1.list_extend_list_list_0 l its.toArray n b its2.toArray n2 hlong (by rw [List.size_toArray]; omega) (by omega)) ⟨e, e2, ?_⟩
  refine ⟨.non, _, I.lset (its' := its ++ its2) hH e (by simp) (r.append r2) ?_, rfl, q⟩
  rw [List.length_append]
  omega

def rPop : V → List V → Hp → VK → Prop := fun x vs H Q => ∃ l xs y, x = .ref l ∧ vs = [] ∧ H l = some (.lst xs) ∧ xs[xs.length - 1]? = some y ∧ Q y (upd H l (.lst xs.dropLast))
theorem mt_pop : MtM X "list.pop" rPop := by
  intro pins s σ H x vs v us Q I rx rv h
  obtain ⟨l, xs, y, rfl, rfl, hH, hy, q⟩ := h
  cases rx
  have hus := rv.zero
  subst hus
  obtain ⟨z, its, n, r, hl, e⟩ := I.lstM hH
  obtain ⟨u, hu, ru⟩ := r.get hy
  have hy' : its.toArray[its.toArray.size - 1]? = some u := by
    show its.toArray[its.length - 1]? = some u
    rw [← Array.getElem?_toList, ← hl]
    exact hu
  refine call_meets F.slot_list_pop ⟨_, e, rfl⟩ F.entry_list_pop (F.args_list_pop_1 _) (MeetsSeq.list_pop_last l its.toArray n u hy' (by rw [List.size_toArray]; omega)) ⟨e, ?_⟩
  refine ⟨y, _, I.lset (its' := its.dropLast) hH e ?_ r.dropLast ?_, ru, q⟩
  · show its.toArray.eraseIdxIfInBounds (its.toArray.size - 1) = its.dropLast.toArray
    rw [List.size_toArray, List.eraseIdxIfInBounds_toArray, erase_last]
  · rw [List.length_dropLast]
    omega

def rPopAt : V → List V → Hp → VK → Prop := fun x vs H Q => ∃ l xs i k y, x = .ref l ∧ vs = [.int i] ∧ H l = some (.lst xs) ∧ -(2 ^ 63) ≤ i ∧ i < 2 ^ 63 ∧ seqIndex? i xs.length = some k ∧ xs[k]? = some y ∧ Q y (upd H l (.lst (xs.eraseIdx k)))
theorem mt_popAt : MtM X "list.pop" rPopAt := by
  intro pins s σ H x vs v us Q I rx rv h
  obtain ⟨l, xs, i, k, y, rfl, rfl, hH, h1, h2, hk, hy, q⟩ := h
  cases rx
  obtain ⟨u, rfl, ru⟩ := rv.one
  obtain ⟨t, rfl⟩ := ru
  obtain ⟨z, its, n, r, hl, e⟩ := I.lstM hH
  obtain ⟨w, hw, rw'⟩ := r.get hy
  refine call_meets F.slot_list_pop ⟨_, e, rfl⟩ F.entry_list_pop (F.args_list_pop_2 _ _)
    (MeetsSeq.list_pop_at l its.toArray n i t k w (fitsIndex_both h1 h2) (by rw [List.size_toArray, ← hl]; exact hk) (by rw [← Array.getElem?_toList]; exact hw) (by rw [List.size_toArray]; omega)) ⟨e, ?_⟩
  refine ⟨y, _, I.lset (its' := its.eraseIdx k) hH e ?_ (r.eraseIdx k) ?_, rw', q⟩
  · show its.toArray.eraseIdxIfInBounds k = (its.eraseIdx k).toArray
    rw [List.eraseIdxIfInBounds_toArray]
  · have := len_erase xs k
    omega

def rReverse : V → List V → Hp → VK → Prop := fun x vs H Q => ∃ l xs, x = .ref l ∧ vs = [] ∧ H l = some (.lst xs) ∧ Q .non (upd H l (.lst xs.reverse))
theorem mt_reverse : MtM X "list.reverse" rReverse := by
  intro pins s σ H x vs v us Q I rx rv h
  obtain ⟨l, xs, rfl, rfl, hH, q⟩ := h
  cases rx
  have hus := rv.zero
  subst hus
  obtain ⟨z, its, n, r, hl, e⟩ := I.lstM hH
  refine call_meets F.slot_list_reverse ⟨_, e, rfl⟩ F.entry_list_reverse (F.args_list_reverse_1 _) (AutoSeq1.list_reverse_list_0 l its.toArray n (by rw [List.size_toArray]; omega)) ⟨e, ?_⟩
  refine ⟨.non, _, I.lset (its' := its.reverse) hH e (by simp) r.reverse ?_, rfl, q⟩
  rw [List.length_reverse]
  omega

def rClear : V → List V → Hp → VK → Prop := fun x vs H Q => ∃ l xs, x = .ref l ∧ vs = [] ∧ H l = some (.lst xs) ∧ Q .non (upd H l (.lst []))
theorem mt_clear : MtM X "list.clear" rClear := by
  intro pins s σ H x vs v us Q I rx rv h
  obtain ⟨l, xs, rfl, rfl, hH, q⟩ := h
  cases rx
  have hus := rv.zero
  subst hus
  obtain ⟨z, its, n, r, hl, e⟩ := I.lstM hH
  refine call_meets F.slot_list_clear ⟨_, e, rfl⟩ F.entry_list_clear (F.args_list_clear_1 _) (AutoSeq1.list_clear_list_0 l its.toArray n (by rw [List.size_toArray]; omega)) ⟨e, ?_⟩
  exact ⟨.non, _, I.lset (its' := []) (ys := []) hH e rfl .nil (Nat.zero_le _), rfl, q⟩

/-! ### list + list, list += list, list * int -/
def rCat : R2 := fun x y H Q => ∃ l b xs zs, x = .ref l ∧ y = .ref b ∧ H l = some (.lst xs) ∧ H b = some (.lst zs) ∧ xs.length + zs.length ≤ sizeLine ∧ ∀ p, H p = none → Q (.ref p) (upd H p (.lst (xs ++ zs)))
theorem op_cat : OpR X (binaryOp .Add) rCat := by
  intro pins s σ H x y v u Q I rx ry h
  obtain ⟨l, b, xs, zs, rfl, rfl, hH, hB, hz, q⟩ := h
  cases rx
  cases ry
  obtain ⟨z, its, n, r, hl, e⟩ := I.lstM hH
  obtain ⟨z2, its2, n2, r2, hl2, e2⟩ := I.lstM hB
  refine PySem.P.add_list e e2 ?_ (by rw [List.size_toArray, List.size_toArray]; omega)
  have ea : its.toArray ++ its2.toArray = (its ++ its2).toArray := by simp
  rw [ea]
  exact ⟨.ref _, _, I.lnew (t' := s.toks) (r.append r2) (by rw [List.length_append]; omega), rfl, q _ I.fresh⟩
/-- a list times an int (a negative one is nothing) -/
def rRep : R2 := fun x y H Q => ∃ l k xs, x = .ref l ∧ y = .int k ∧ H l = some (.lst xs) ∧ -(2 ^ 63) ≤ k ∧ k < 2 ^ 63 ∧ xs.length * k.toNat ≤ sizeLine ∧
  ∀ p, H p = none → Q (.ref p) (upd H p (.lst (List.replicate k.toNat xs).flatten))
theorem len_rep {α : Type} (xs : List α) (k : Nat) : (List.replicate k xs).flatten.length = k * xs.length := by
  induction k with
  | zero => simp
  | succ k ih => rw [List.replicate_succ, List.flatten_cons, List.length_append, ih, Nat.succ_mul, Nat.add_comm]
theorem op_rep : OpR X (binaryOp .Mult) rRep := by
  intro pins s σ H x y v u Q I rx ry h
  obtain ⟨l, k, xs, rfl, rfl, hH, h1, h2, hz, q⟩ := h
  cases rx
  obtain ⟨t, rfl⟩ := ry
  obtain ⟨z, its, n, r, hl, e⟩ := I.lstM hH
  have hlen : its.toArray.size * k.toNat ≤ sizeLine := by rw [List.size_toArray, ← hl]; exact hz
  have hcap : ¬ its.toArray.size * k.toNat > (2 ^ 63 - 1) / 8 := by
    have : (sizeLine : Nat) ≤ (2 ^ 63 - 1) / 8 := by decide
    omega
  have hfit : ¬ (!Builtin.List.listFitsIndex k) = true := by
    rw [fitsIndex_both h1 h2]
    exact Bool.false_ne_true
  have hlong : ¬ Builtin.List.listTooLong (its.toArray.size * k.toNat) = true := by
    rw [notLongL hlen]
    exact Bool.false_ne_true
  have hnew : List.foldl (fun x1 x2 => x1 ++ x2) #[] (List.replicate (if its.toArray.isEmpty = true then 0 else k.toNat) its.toArray) = (List.replicate k.toNat its).flatten.toArray := by
    have f0 : ∀ m : Nat, List.foldl (fun x1 x2 => x1 ++ x2) #[] (List.replicate m its.toArray) = (List.replicate m its).flatten.toArray := fun m => by
      have := foldl_rep its m []
      rw [List.nil_append] at this
      exact this
    rw [f0]
    cases its with
    | nil => simp
    | cons a r' => rw [if_neg (by simp)]
  refine wpAny_binaryOp_repeat_ref (T := "list") (U := "int") (by decide) ⟨_, e, rfl⟩ (fun s' => typeIs_int s' k t) noFill_list_mul F.fills_int_mul F.slot_int_rmul repeat_list F.slot_int_index.lookup
    (call_meets F.slot_int_rmul (typeIs_int s k t) F.entry_int_rmul (F.args_int_rmul_2 _ _) (int___rmul___int_list k t l its.toArray n)
      ⟨e, rfl, ⟨_, e, rfl⟩, call_meets F.slot_list_mul ⟨_, e, rfl⟩ F.entry_list_mul (F.args_list_mul_2 _ _) (AutoListH.list___mul___list_int_3 l its.toArray n k t hfit hcap hlong) ⟨e, ?_⟩⟩)
  rw [hnew]
  exact ⟨.ref _, _, I.lnew (t' := s.toks) (r.rep k.toNat) (by rw [len_rep, Nat.mul_comm]; exact hz), rfl, q _ I.fresh⟩

/-! ### del xs[i] -/
theorem del_list {pins : List (Addr × Obj)} {s : Shared} {σ : St} {H : Hp} {l : Addr} {xs : List V} {i : Int} {t : Tok} {k : Nat} {Q : Unit → Shared → Prop} (I : Inv X pins σ H s) (hH : H l = some (.lst xs))
    (h1 : -(2 ^ 63) ≤ i) (h2 : i < 2 ^ 63) (hk : seqIndex? i xs.length = some k) (h : ∀ s', Inv X pins σ (upd H l (.lst (xs.eraseIdx k))) s' → Q () s') :
    wpAny (model X.prog X.w) X.A (delItem (.ref l) (.int i t)) Q X.xe s := by
  obtain ⟨z, its, n, r, hl, e⟩ := I.lstM hH
  refine PySem.P.delItem_list (k := k) e (fitsIndex_both h1 h2) (by rw [List.size_toArray, ← hl]; exact hk) (h _ ?_) (by rw [List.size_toArray]; omega)
  refine I.lset (its' := its.eraseIdx k) (t' := s.toks) hH e ?_ (r.eraseIdx k) ?_
  · show its.toArray.eraseIdxIfInBounds k = (its.eraseIdx k).toArray
    rw [List.eraseIdxIfInBounds_toArray]
  · have := len_erase xs k
    omega
end

/-! ### xs[a:b] = ys -/
section
variable {prog : Program} {w : World} {A : Around} {E : Value → Shared → Prop} {s : Shared}
theorem splice_eq (its its2 : List Value) (a c : Nat) : its.toArray.extract 0 a ++ its2.toArray ++ its.toArray.extract c its.toArray.size = (its.take a ++ its2 ++ its.drop c).toArray := by
  apply Array.toList_inj.mp
  first
    | (simp
       exact List.take_of_length_le (by simp))
    | simp [List.take_of_length_le]
    | simp
theorem bounds_run {a c n : Nat} (hac : a ≤ c) (hc : c ≤ n) : sliceBounds (some (a : Int)) (some (c : Int)) none n = ((a : Int), (c : Int), 1) := by
  simp only [sliceBounds, Option.getD_none]
  have h1 : ¬ ((a : Int) < 0) := by omega
  have h2 : ¬ ((c : Int) < 0) := by omega
  simp only [h1, h2, if_false, show (1 : Int) > 0 by decide, if_true]
  congr 1
  · omega
  · congr 1; omega
set_option maxRecDepth 100000 in
/-- list.__setitem__ with a slice of step one and another list -/
theorem setItem_slice {l b sl : Addr} {items new : Array Value} {n n2 : Nat} {vl vu : Value} {a c : Nat} {Q : Unit → Shared → Prop}
    (e : s.heap.get? l = some { cls := .type "list", data := .seq items n }) (e2 : s.heap.get? b = some { cls := .type "list", data := .seq new n2 }) (hne : l ≠ b)
    (hs : s.heap.IsSliceOf sl vl vu .none) (pl : IsPart vl (some (a : Int))) (pu : IsPart vu (some (c : Int))) (hac : a ≤ c) (hc : c ≤ items.size)
    (hsz : items.size + new.size ≤ sizeLine) (h : Q () { s with heap := s.heap.update l (Obj.mapSeq fun xs => xs.extract 0 a ++ new ++ xs.extract c xs.size) }) :
    wpAny (model prog w) A (setItem (.ref l) (.ref sl) (.ref b)) Q E s := by
  have hl : s.heap.IsList l items := PySem.IsL.isList e
  have hb : s.heap.IsList b new := PySem.IsL.isList e2
  obtain ⟨os, hos, hcs, hds⟩ := id hs
  have hTs : s.TypeIs (.ref sl) "slice" := ⟨os, hos, hcs⟩
  have hstep : ¬ ((rawPart none == rawInt 0) = true) := Bool.false_ne_true
  have hsame : Builtin.List.listSameRef (.ref l) (.ref b) = false := by
    unfold Builtin.List.listSameRef
    exact beq_eq_false_iff_ne.mpr hne
  have hmax : (max (a : Int) (c : Int)).toNat = c := by omega
  have hz' : ((fun xs : Array Value => xs.extract 0 a ++ new ++ xs.extract c xs.size) items).size ≤ sizeLine + 1 := by
    simp only [Array.size_append, Array.size_extract]
    omega
  unfold setItem
  try with_reducible refine wpAny_holding ?_
  first | refine wpAny_bind (wpAny_pure ?_) | skip
  refine wpAny_bind (wpAny_sequenceKey hl.typeIs (by decide) ?_)
  refine wpAny_bind (wpAny_callSpecial?_slot (name := Str.ofString "__setitem__") hl.typeIs slot_list_setitem
    (wpAny_call_entry slot_list_setitem hl.typeIs entry_list_setitem ?_ (args_list_setitem _ _ _)))
  show wpAny _ _ (Builtin.List.listSubscript? (.ref sl) >>= _) _ _ s
  refine wpAny_bind ?_
  unfold Builtin.List.listSubscript?
  refine wpAny_bind (wpAny_specialOf hTs slice_no_index ?_)
  simp only [Option.isNone_none, if_true]
  refine wpAny_pure ?_
  show wpAny _ _ (typeOf (.ref sl) >>= _) _ _ s
  refine wpAny_bind (wpAny_typeOf hTs ?_)
  first
    | rw [if_neg (by decide)]
    | refine PySem.W.KFB.if_not (by decide) ?_
  rw [listSliceParts_eq]
  refine wpAny_bind (wpAny_bind (wpAny_field hos hds (x := .none) rfl (wpAny_bind (wpAny_listPart .none ?_))))
  rw [if_neg hstep]
  refine wpAny_bind (wpAny_field hos hds (x := vl) rfl (wpAny_bind (wpAny_listPart pl ?_)))
  refine wpAny_bind (wpAny_field hos hds (x := vu) rfl (wpAny_bind (wpAny_listPart pu (wpAny_pure ?_))))
  first
    | simp only [hsame, Bool.false_eq_true, if_false]
    | refine PySem.W.KFB.if_not hsame ?_
    | (dsimp only
       rw [if_neg (by rw [hsame]; exact Bool.false_ne_true)])
  refine wpAny_bind (m := Builtin.List.listAllItems (.ref b) "must assign iterable to extended slice") ?_
  unfold Builtin.List.listAllItems
  refine wpAny_bind (wpAny_typeOf hb.typeIs ?_)
  first
    | refine PySem.W.KFB.if_so (by decide) ?_
    | rw [if_pos (by decide)]
    | simp only [beq_self_eq_true, Bool.true_or, if_true]
  unfold Builtin.List.listItems
  refine wpAny_bind (wpAny_seqItems e2 rfl (wpAny_pure ?_))
  refine wpAny_bind (wpAny_bind (wpAny_seqItems e rfl (wpAny_pure ?_)))
  refine wpAny_bind (wpAny_of_eq ((sliceIndices_raw (some (a : Int)) (some (c : Int)) none items.size (by simp)).trans (congrArg (pure : Int × Int × Int → Sem (Int × Int × Int)) (bounds_run hac hc))) ?_)
  show wpAny _ _ (if ((1 : Int) == 1) = true then _ else _) _ _ s
  rw [if_pos (by decide)]
  refine wpAny_bind (wpAny_rule ?_)
  first
    | simp only [notLongL hsz, Bool.false_eq_true, if_false]
    | refine PySem.W.KFB.if_not (notLongL hsz) ?_
  first | refine wpAny_bind (wpAny_pure ?_) | skip
  show wpAny _ _ (updateSeq l (fun xs => xs.extract 0 ((a : Int)).toNat ++ new ++ xs.extract (max (a : Int) (c : Int)).toNat xs.size) >>= _) _ _ s
  rw [hmax, Int.toNat_natCast]
  refine wpAny_bind (wpAny_updateSeq (hz := Nat.le_trans (Nat.le_add_right _ _) hsz) (_hz' := hz') e rfl ?_)
  refine wpAny_bind (wpAny_letGo ?_)
  first
    | exact wpAny_bind (wpAny_pure (wpAny_pure ⟨.none, rfl, wpAny_pure h⟩))
    | exact wpAny_pure ⟨.none, rfl, wpAny_pure h⟩
end

section
variable {X : Cx}
/-- xs[a:c] = ys of another list, at the value level: sl is the slice object that was just made -/
theorem set_slice {pins : List (Addr × Obj)} {s : Shared} {σ : St} {H : Hp} {l b sl : Addr} {xs ys : List V} {a c : Int} {vl vu : Value} {Q : Unit → Shared → Prop} (I : Inv X pins σ H s)
    (hH : H l = some (.lst xs)) (hB : H b = some (.lst ys)) (hne : l ≠ b) (hs : s.heap.IsSliceOf sl vl vu .none) (ra : RelV (.int a) vl) (rc : RelV (.int c) vu) (h0 : 0 ≤ a) (hac : a ≤ c) (hc : c ≤ xs.length)
    (hz : xs.length + ys.length ≤ sizeLine) (h : ∀ s', Inv X pins σ (upd H l (.lst (xs.take a.toNat ++ ys ++ xs.drop c.toNat))) s' → Q () s') :
    wpAny (model X.prog X.w) X.A (setItem (.ref l) (.ref sl) (.ref b)) Q X.xe s := by
  obtain ⟨ta, rfl⟩ := ra
  obtain ⟨tc, rfl⟩ := rc
  obtain ⟨z, its, n, r, hl, e⟩ := I.lstM hH
  obtain ⟨z2, its2, n2, r2, hl2, e2⟩ := I.lstM hB
  obtain ⟨a', rfl⟩ := Int.eq_ofNat_of_zero_le h0
  obtain ⟨c', rfl⟩ := Int.eq_ofNat_of_zero_le (Int.le_trans h0 hac)
  simp only [Int.toNat_natCast] at h
  refine setItem_slice (a := a') (c := c') e e2 hne hs (.int _ _) (.int _ _) (by omega) (by rw [List.size_toArray]; omega) (by rw [List.size_toArray, List.size_toArray]; omega) (h _ ?_)
  refine I.lset (its' := its.take a' ++ its2 ++ its.drop c') (t' := s.toks) hH e ?_ (Vals.append (Vals.append (r.take _) r2) (r.drop _)) ?_
  · exact splice_eq its its2 a' c'
  · rw [List.length_append, List.length_append, List.length_take, List.length_drop]
    omega
end
end L2

namespace Att
open PySem PySem.W PySem.Calls PyProof.Rows

/-! ### the script -/
theorem ints_of_wellAll {P : Params} {h : Heap} : ∀ (ns : List Int) (vs : List Value), WellAll P h vs (ns.map WData.int) → IntsAre vs ns := by
  intro ns
  induction ns with
  | nil =>
    intro vs w
    rw [List.map_nil] at w
    cases w
    exact .nil
  | cons n ns ih =>
    intro vs w
    rw [List.map_cons] at w
    cases w with
    | cons a b =>
      cases a
      exact .cons _ _ (ih _ b)

theorem script_of {l : OpenLaw} {n : Nat} (hn : l.most = some n) {P : Params} {h : Heap} {args : List WData} {vals : List Value}
    (hpre : l.row.toRowW.claim.pre args = true) (hwl : WellAll P h vals args) :
    ∃ a vs ns, vals = [Value.ref a] ∧ args = [WData.list (ns.map WData.int)] ∧ h.get? a = some { cls := .type "list", data := .seq vs.toArray } ∧ IntsAre vs ns ∧ ns.length ≤ n := by
  have hsh : WShape.hasAll [] args [.list .int] = true := (pre_splitW hpre).1
  have hc : l.pre.holds [] { args := args } = true := (pre_splitW hpre).2
  obtain ⟨d, r, rfl, h1, h2⟩ := hasAllW_cons hsh
  obtain rfl := hasAllW_nil h2
  obtain ⟨xs, rfl, h3⟩ := hasW_list h1
  obtain ⟨ns, rfl⟩ := items_int h3
  have hlen : ns.length ≤ n := by
    unfold OpenLaw.pre at hc
    have h4 : (WTm.not (.lt (.lit (.int (n : Int))) (.len (.arg 0)))).holds [] { args := [.list (ns.map .int)] } = true := by
      have h4 := (holds_andW hc).1
      rw [hn] at h4
      exact h4
    have h5 := condW_of h4 (w_not (w_lt w_lit (w_len_list (w_arg rfl))))
    rw [List.length_map] at h5
    refine Nat.le_of_not_lt fun q => ?_
    have q' : (n : Int) < ((ns.length : Nat) : Int) := by omega
    first
      | (rw [decide_eq_true q'] at h5; exact absurd h5 (by decide))
      | (simp at h5; omega)
  cases hwl with
  | cons w1 w2 =>
    cases w2
    cases w1 with
    | list ho hall => exact ⟨_, _, ns, rfl, rfl, ho, ints_of_wellAll ns _ hall, hlen⟩

theorem post_true (l : OpenLaw) (args : List WData) : l.row.toRowW.claim.post args (.bool true) args = true :=
  postW_of (r := l.row.toRowW) (X := (true == true))
    (show WShape.has [] (.bool true) .bool = true by first | rfl | decide | simp [WShape.has, WShape.arms, WShape.armsAll])
    (show (WTm.eq .res (.lit (.bool true))).value [] { args := args, res := some (.bool true), after := args } = some (.bool (true == true)) from w_eq_bool (w_res rfl) w_lit) rfl

/-! ### the attachment: holds_open's last premise (the goal 'hc' behind k_head) from a wpAny of the law's body -/
theorem attach {l : OpenLaw} {n : Nat} {q : Program} {loose : List Str} {XP : (Str → Option Value) → Heap → Prop} {YP : World → Heap → Prop} {d : DefRec} {x : Str}
    (hn : l.most = some n) (hdf : d.params.defaults = [])
    (hbind : ∀ pm cd doc v : Value, bindArgs (docDef d.name d.params d.body d.scope pm cd doc) ⟨[v], []⟩ = pure [(x, v)])
    (hx : d.scope.names.lookup x = some .local ∨ d.scope.names.lookup x = some .cell)
    (hk : d.scope.kind = .function) (hco : d.scope.isCoroutine = false) (hgen : d.scope.isGenerator = false)
    (body : ∀ (w : World) (s₀ s₁ s : Shared) (mg mb : Str → Option Value) (fa : Addr) (o : Obj) (pm cd doc : Value) (a : Addr) (vs : List Value) (ns : List Int),
      Ground q loose [] XP w s₀ mg mb s₁.heap → YP w s₁.heap →
      s₁.heap.get? fa = some o → o.data = .func (docDef d.name d.params d.body d.scope pm cd doc) → s₁.heap.CodeRec cd d.name → mg d.name = some (.ref fa) →
      s₁.heap.get? a = some { cls := .type "list", data := .seq vs.toArray } → IntsAre vs ns → ns.length ≤ n →
      s.gens = #[] → s.os = s₁.os →
      Fr s₁.heap s₁.heap.objs.size s.heap (bindL (envOfC d.name d.scope s₁.heap.objs.size fa cd).kindOf [(x, .ref a)] fun _ => none) →
      Cl s₁.heap.objs.size (cellsFrom (s₁.heap.objs.size + 1) d.scope.names []) s.heap (bindC (envOfC d.name d.scope s₁.heap.objs.size fa cd).kindOf [(x, .ref a)] fun _ => none) →
      wpAny (model l.prog w) (callerA.deeper (envOfC d.name d.scope s₁.heap.objs.size fa cd)) (execs d.body (envOfC d.name d.scope s₁.heap.objs.size fa cd))
        (fun f s' => f = .ret (.bool true) ∧ OldK s₁.heap s'.heap ∧ s'.os = s₁.os ∧ AllBare s'.gens) (fun _ _ => False) s) :
    WalkO q loose XP YP l.row.toRowW d [] (fun f vs => PySem.call f vs) := by
  intro w s₀ s₁ mg mb G Y fa o pm cd doc dV kV ho hd hcd hD hmg hg args vals as hpre hlay hrd hwl hlo
  obtain rfl : dV = .none := Dflts.none hD hdf
  obtain rfl : kV = .none := Dflts.noKw hD
  obtain ⟨a, vs, ns, rfl, rfl, hobj, hints, hlen⟩ := script_of hn hpre hwl
  refine enter_call ?_
  refine call_cells_ret (o := o) (by rw [depth_caller]; decide) ho (fd_plain hd) G.T.nolimit hcd (hbind pm cd doc (.ref a)) (fun y hy => ?_) (fun h₁ tk F X => ?_) hco hgen hk
  · obtain rfl : y = (x, Value.ref a) := List.mem_singleton.mp hy
    rcases hx with e | e
    · exact .inl e
    · exact .inr ⟨e, cellsFrom_some _ _ _ (.inl e)⟩
  · refine wpAny_mono (body w s₀ s₁ { s₁ with heap := h₁, toks := tk } mg mb fa o pm cd doc a vs ns G Y ho (fd_plain hd) hcd hmg hobj hints hlen hg rfl F X) (fun f s' hq => ?_) (fun _ _ hq => hq)
    obtain ⟨rfl, h2, h3, h4⟩ := hq
    exact ⟨.inl ⟨.bool true, .bool true, [], rfl, fun _ => rfl, .bool true, post_true l _, fun _ => ⟨List.Pairwise.nil, fun _ hm => (nomatch hm)⟩⟩, h2, h3, h4⟩

/-- the same from a codeAny of the CALL (for a layer whose function contracts speak of calls) -/
theorem attach_call {l : OpenLaw} {n : Nat} {q : Program} {loose : List Str} {XP : (Str → Option Value) → Heap → Prop} {YP : World → Heap → Prop} {d : DefRec}
    (hn : l.most = some n) (hdf : d.params.defaults = [])
    (call : ∀ (w : World) (s₀ s₁ : Shared) (mg mb : Str → Option Value) (fa : Addr) (o : Obj) (pm cd doc : Value) (a : Addr) (vs : List Value) (ns : List Int),
      Ground q loose [] XP w s₀ mg mb s₁.heap → YP w s₁.heap →
      s₁.heap.get? fa = some o → o.data = .func (docDef d.name d.params d.body d.scope pm cd doc) → s₁.heap.CodeRec cd d.name → mg d.name = some (.ref fa) →
      s₁.heap.get? a = some { cls := .type "list", data := .seq vs.toArray } → IntsAre vs ns → ns.length ≤ n → s₁.gens = #[] →
      codeAny (model l.prog w) callerA (.call (.ref fa) ⟨[.ref a], []⟩) (fun r s' => r = .ok (.ret (.bool true)) ∧ OldK s₁.heap s'.heap ∧ s'.os = s₁.os ∧ AllBare s'.gens) s₁) :
    WalkO q loose XP YP l.row.toRowW d [] (fun f vs => PySem.call f vs) := by
  intro w s₀ s₁ mg mb G Y fa o pm cd doc dV kV ho hd hcd hD hmg hg args vals as hpre hlay hrd hwl hlo
  obtain rfl : dV = .none := Dflts.none hD hdf
  obtain rfl : kV = .none := Dflts.noKw hD
  obtain ⟨a, vs, ns, rfl, rfl, hobj, hints, hlen⟩ := script_of hn hpre hwl
  refine enter_call (codeAny_mono (call w s₀ s₁ mg mb fa o pm cd doc a vs ns G Y ho (fd_plain hd) hcd hmg hobj hints hlen hg) fun r s' hq => ?_)
  obtain ⟨rfl, h2, h3, h4⟩ := hq
  exact ⟨.inl ⟨.bool true, .bool true, [], rfl, fun _ => rfl, .bool true, post_true l _, fun _ => ⟨List.Pairwise.nil, fun _ hm => (nomatch hm)⟩⟩, h2, h3, h4⟩

/-- the same where the top left finished generators (o_head chose holds_openN): nothing may have changed at all and no generator may be left -/
theorem attachN {l : OpenLaw} {n : Nat} {q : Program} {loose : List Str} {XP : (Str → Option Value) → Heap → Prop} {YP : World → Heap → Prop} {d : DefRec} {x : Str}
    (hn : l.most = some n) (hdf : d.params.defaults = [])
    (hbind : ∀ pm cd doc v : Value, bindArgs (docDef d.name d.params d.body d.scope pm cd doc) ⟨[v], []⟩ = pure [(x, v)])
    (hx : d.scope.names.lookup x = some .local ∨ d.scope.names.lookup x = some .cell)
    (hk : d.scope.kind = .function) (hco : d.scope.isCoroutine = false) (hgen : d.scope.isGenerator = false)
    (body : ∀ (w : World) (s₀ s₁ s : Shared) (mg mb : Str → Option Value) (fa : Addr) (o : Obj) (pm cd doc : Value) (a : Addr) (vs : List Value) (ns : List Int),
      Ground q loose [] XP w s₀ mg mb s₁.heap → YP w s₁.heap →
      s₁.heap.get? fa = some o → o.data = .func (docDef d.name d.params d.body d.scope pm cd doc) → s₁.heap.CodeRec cd d.name → mg d.name = some (.ref fa) →
      s₁.heap.get? a = some { cls := .type "list", data := .seq vs.toArray } → IntsAre vs ns → ns.length ≤ n →
      s.gens = #[] → s.os = s₁.os →
      Fr s₁.heap s₁.heap.objs.size s.heap (bindL (envOfC d.name d.scope s₁.heap.objs.size fa cd).kindOf [(x, .ref a)] fun _ => none) →
      Cl s₁.heap.objs.size (cellsFrom (s₁.heap.objs.size + 1) d.scope.names []) s.heap (bindC (envOfC d.name d.scope s₁.heap.objs.size fa cd).kindOf [(x, .ref a)] fun _ => none) →
      wpAny (model l.prog w) (callerA.deeper (envOfC d.name d.scope s₁.heap.objs.size fa cd)) (execs d.body (envOfC d.name d.scope s₁.heap.objs.size fa cd))
        (fun f s' => f = .ret (.bool true) ∧ (∀ b o, s₁.heap.get? b = some o → s'.heap.get? b = some o) ∧ s'.os = s₁.os ∧ s'.gens = #[]) (fun _ _ => False) s) :
    WalkN q loose XP YP l.row.toRowW d [] (fun f vs => PySem.call f vs) := by
  intro w s₀ s₁ mg mb G Y fa o pm cd doc dV kV ho hd hcd hD hmg hg args vals as hpre hlay hrd hwl hlo
  obtain rfl : dV = .none := Dflts.none hD hdf
  obtain rfl : kV = .none := Dflts.noKw hD
  obtain ⟨a, vs, ns, rfl, rfl, hobj, hints, hlen⟩ := script_of hn hpre hwl
  refine enter_callW ?_
  refine call_cells_ret (o := o) (by rw [depth_caller]; decide) ho (fd_plain hd) G.T.nolimit hcd (hbind pm cd doc (.ref a)) (fun y hy => ?_) (fun h₁ tk F X => ?_) hco hgen hk
  · obtain rfl : y = (x, Value.ref a) := List.mem_singleton.mp hy
    rcases hx with e | e
    · exact .inl e
    · exact .inr ⟨e, cellsFrom_some _ _ _ (.inl e)⟩
  · refine wpAny_mono (body w s₀ s₁ { s₁ with heap := h₁, toks := tk } mg mb fa o pm cd doc a vs ns G Y ho (fd_plain hd) hcd hmg hobj hints hlen hg rfl F X) (fun f s' hq => ?_) (fun _ _ hq => hq)
    obtain ⟨rfl, h2, h3, h4⟩ := hq
    exact ⟨.inl ⟨.bool true, .bool true, [], rfl, fun _ => rfl, .bool true, post_true l _, fun _ => ⟨List.Pairwise.nil, fun _ hm => (nomatch hm)⟩⟩, h2, h3, h4⟩

/-! ### rules over ANY heap (no ledger) from facts about the written part K: the library's own take a ledger (News) for what they write -/
section
variable {prog : Program} {w : World} {A : Around} {E : Value → Shared → Prop} {s : Shared} {K : Frag}

/-- a def of the module, or a method (qual 'C.m'), entered: the frame is the next address; cells behind it -/
theorem call_fn {R : Result → Shared → Prop} {name qual : Str} {params : Arguments} {body : List Stmt} {scope : Scope} {dV kV doc pm cdv ct oc : Value} {an od : Option Addr} {osl : Array (Option Value)} {f : Addr} {args : Args} {binds : List (Str × Value)}
    (X : K.In s.heap) (hlim : s.heap.NoLimit) (ho : K.lookup f = some ⟨oc, od, .func (fnOf name qual params body scope dV kV doc pm an cdv ct), osl⟩) (hcd : codeIn K cdv qual = true) (hroom : A.depth < recursionLimit)
    (hbind : BindsTo s (fnOf name qual params body scope dV kV doc pm an cdv ct) args binds)
    (hkind : (binds.all fun y => scope.names.lookup y.1 == some .local || scope.names.lookup y.1 == some .cell) = true)
    (h : ∀ s₁, InCallC s s.heap.objs.size (bindL (envOfC qual scope s.heap.objs.size f cdv).kindOf binds fun _ => none) (cellsFrom (s.heap.objs.size + 1) scope.names [])
        (bindC (envOfC qual scope s.heap.objs.size f cdv).kindOf binds fun _ => none) s₁ →
      wpAny (model prog w) (A.deeper (envOfC qual scope s.heap.objs.size f cdv)) (execs body (envOfC qual scope s.heap.objs.size f cdv))
        (fun fl s' => R (.ok (.ret (match fl with | .ret v => v | _ => .none))) s')
        (fun e s' => wpAny (model prog w) (A.deeper (envOfC qual scope s.heap.objs.size f cdv)) (leaving (envOfC qual scope s.heap.objs.size f cdv) e) (fun _ s'' => R (.error e) s'') (fun e' s'' => R (.error e') s'') s') s₁)
    (hco : scope.isCoroutine = false) (hgen : scope.isGenerator = false) (hk : scope.kind = .function) : codeAny (model prog w) A (.call (.ref f) args) R s := by
  refine codeAny_call_function hroom (X _ _ ho) rfl hco hgen rfl (codeRec_of X hcd) (hbind _ _ _ _ ?_)
  refine wpAny_newFunctionEnv_cells hk (kindsX hkind _) fun env he s₁ x => ?_
  subst he
  exact ⟨hlim.keeps x.toInCall.keep, codeAny_func (h s₁ x)⟩

/-- C(..): dict at size, instance at size + 1, then __init__ -/
theorem make_obj {R : Result → Shared → Prop} {C fI : Addr} {rest : List Value} {kw : List (Str × Value)}
    (X : K.In s.heap) (hm : makesIn K C = true) (hi : findIn K (.ref C) "__init__" = some (some (.ref fI))) (hf : isFn K (.ref fI) = true)
    (h : codeAny (model prog w) (A.under (.builtin "type.__call__" ⟨.ref C :: rest, kw⟩)) (.call (.ref fI) ⟨.ref (s.heap.objs.size + 1) :: rest, kw⟩) (InitBack (s.heap.objs.size + 1) R)
      { s with heap := (s.heap.push emptyDict).push (instObj C s.heap.objs.size) }) : codeAny (model prog w) A (.call (.ref C) ⟨rest, kw⟩) R s := by
  obtain ⟨hh, g, d, t, os⟩ := s
  exact make_core (makes_of X hm) (looks_findIn X hi) (fun self => bind_fn X self (beq_iff_eq.mp hf)) (.inl rfl) h

/-- x.name where the instance's dict holds the name and the class does not -/
theorem get_field {x C : Addr} {ox : Obj} {es : List DictEntry} {n : Nat} {name : Str} {expr : Bool} {v : Value} {Q : Value → Shared → Prop}
    (X : K.In s.heap) (I : PySem.W.InstAt s.heap x ox C (some (dictOf es n))) (hg : plainGet K C name = true) (hh : hasDictIn K C = true) (ha : findIn K (.ref C) name = some none)
    (hl : getL name es = some (some v)) (hv : handedIn v = true) (h : Q v { s with toks := s.toks + 1 }) : wpAny (model prog w) A (getAttr (.ref x) name expr) Q E s :=
  get_value X I (plainGet_of hg).1 (findObj_own hh ha rfl hl) hv h

/-- x.m(..): the method found in the class -/
theorem get_method {x C f : Addr} {ox : Obj} {es : List DictEntry} {n : Nat} {name : Str} {pl : Sem Bool} {Q : Value × List Value → Shared → Prop}
    (X : K.In s.heap) (I : PySem.W.InstAt s.heap x ox C (some (dictOf es n))) (hg : plainGet K C name = true) (hf : findIn K (.ref C) name = some (some (.ref f))) (ht : isFn K (.ref f) = true)
    (hl : getL name es = some none) (h : Q (.ref f, [.ref x]) s) : wpAny (model prog w) A (getMethod (.ref x) name pl) Q E s :=
  method_fn X I (plainGet_of hg).1 (plainGet_of hg).2 hf (beq_iff_eq.mp ht) (by show (lookIn name (dictOf es n)).map _ = _; rw [lookIn_dict, hl]; rfl) h

/-! the whole heap as the ledger: makes every rule that writes through a ledger a rule over any heap -/
def noObjs (h : Heap) : Heap := { h with objs := #[] }
theorem noObjs_get (h : Heap) (b : Addr) : (noObjs h).get? b = none := by
  cases e : (noObjs h).get? b with
  | none => rfl
  | some o => exact absurd (Heap.lt_size e) (Nat.not_lt_zero _)
def ledger (h : Heap) (L d : Addr) : List (Addr × Obj) := (List.range h.objs.size).filterMap fun a => if a = L ∨ a = d then none else (h.get? a).map fun o => (a, o)
theorem mem_ledger {h : Heap} {L d a : Addr} {o : Obj} : (a, o) ∈ ledger h L d ↔ a ≠ L ∧ a ≠ d ∧ h.get? a = some o := by
  unfold ledger
  rw [List.mem_filterMap]
  constructor
  · rintro ⟨b, _, e⟩
    split at e
    · cases e
    · rename_i hb
      obtain ⟨o', ho, e'⟩ := Option.map_eq_some_iff.mp e
      cases e'
      exact ⟨fun q => hb (.inl q), fun q => hb (.inr q), ho⟩
  · rintro ⟨n1, n2, ho⟩
    refine ⟨a, List.mem_range.mpr (Heap.lt_size ho), ?_⟩
    rw [if_neg (show ¬ (a = L ∨ a = d) from fun q => q.elim n1 n2), ho] <;> rfl
theorem news_ledger {h : Heap} {L d : Addr} {od : Obj} (hne : d ≠ L) (ho : h.get? d = some od) : News (noObjs h) L h ([] ++ (d, od) :: ledger h L d) := by
  rintro ⟨a, o⟩ hp
  rcases List.mem_cons.mp hp with e | hp
  · cases e
    exact ⟨ho, hne, noObjs_get _ _⟩
  · obtain ⟨n1, n2, e⟩ := mem_ledger.mp hp
    exact ⟨e, n1, noObjs_get _ _⟩
theorem fr_all {h : Heap} {L : Addr} {m : Str → Option Value} (n : h.Ns L m) : Fr (noObjs h) L h m :=
  ⟨n, fun b o e => (by rw [noObjs_get] at e; cases e), Nat.zero_le _⟩
/-- Upd of the head entry (for append_K, setItem_K ..) -/
theorem upd_ledger {h : Heap} {L d : Addr} {o o' : Obj} : Upd d o o' ((d, o) :: ledger h L d) ((d, o') :: ledger h L d) :=
  .head fun ⟨_, _⟩ hp => (mem_ledger.mp hp).2.1

/-- x.name = v over any heap: L is any namespace of the heap (the frame's, say): its map stays, its object is not told; all else but the dict stays -/
theorem set_field {x C dx L : Addr} {ox : Obj} {m : Str → Option Value} {es es' : List DictEntry} {n n' : Nat} {name : Str} {v : Value} {Q : Unit → Shared → Prop}
    (X : K.In s.heap) (I : PySem.W.InstAt s.heap x ox C (some (dictOf es n))) (hd : ox.dict = some dx) (hL : s.heap.Ns L m) (hne : dx ≠ L)
    (hs : findIn K (.ref C) "__setattr__" = some (some (.builtin "object.__setattr__"))) (hp : plainOver K C = true) (ht : takerIn K C name = some none) (hh : hasDictIn K C = true) (hl : (getL name es).isSome = true)
    (e : (putL name (PyData.keyHash w.params name) (.str name (s.toks + 1)) v es, putN name es n) = (es', n')) (hz : es'.length ≤ 1000)
    (h : ∀ h' : Heap, h'.Ns L m → h'.get? dx = some (dictOf es' n') → (∀ b o, b ≠ dx → b ≠ L → s.heap.get? b = some o → h'.get? b = some o) → Q () { s with heap := h', toks := s.toks + 2 }) :
    wpAny (model prog w) A (setAttr (.ref x) name v) Q E s := by
  obtain ⟨e1, e2⟩ := Prod.mk.inj e
  have hdx : s.heap.get? dx = some (dictOf es n) := by
    have := I.dict
    rw [hd] at this
    exact this
  refine set_plain X I hs (osa_dict (s := { s with toks := s.toks + 1 }) (h₀ := noObjs s.heap) (L := L) (m := m) (od := dictOf es n) (od' := dictOf es' n') (es := es') (n := n') (pre := []) (post := ledger s.heap L dx)
    (fr_all hL) (news_ledger hne hdx) X I hd hp ht hh hl (fun _ q => nomatch q) (fun ⟨_, _⟩ q => (mem_ledger.mp q).2.1) (by rw [putName_dict, e1, e2]) rfl hz fun h' F' N' => ?_)
  exact h h' F'.ns (N'.get (List.Mem.head _)) fun b o n1 n2 ho => N'.get (List.Mem.tail _ (mem_ledger.mpr ⟨n2, n1, ho⟩))
end
end Att

namespace L2
open PySem PySem.Spec PyProof.Rows

theorem vals_ints : ∀ {vs : List Value} {ns : List Int}, IntsAre vs ns → Vals (ns.map V.int) vs
  | _, _, .nil => .nil
  | _, _, .cons n t h => .cons ⟨t, rfl⟩ (vals_ints h)

/-- nothing is tracked but the script, known to the object (or it is an object of the module) -/
def Only (H : Hp) : Prop := ∀ b, H b = none ∨ ∃ o xs, H b = some (.frz o (.lst xs))

/-- THE HEAD: the law's promise, at the heap behind the top. F, the promise of the law's def, may use that base is part of the heap (so K.In base, base.Ns mainGlobals mg stand in Mod) -/
theorem law_call {P : Program} {w : World} {K : PySem.W.Frag} {mg mb : Str → Option Value} {CX : CXT} {k : Nat} {fa a : Addr} {fd : FuncData} {x : Str} {sp : Sp} {s₁ : Shared} {vs : List Value} {ns : List Int}
    (KX : K.In s₁.heap) (hns : s₁.heap.Ns mainGlobals mg) (hb : s₁.heap.Ns builtinsNs mb) (hbb : ∀ x : Str, x ≠ "__name__" → mb x = bootBuiltins x) (hlim : s₁.heap.NoLimit) (hg : s₁.gens = #[])
    (ha : s₁.heap.get? a = some { cls := .type "list", data := .seq vs.toArray }) (hi : IntsAre vs ns) (hl : ns.length ≤ sizeLine) (hr : Room k callerA)
    (F : ∀ base : Heap, K.In base → base.Ns mainGlobals mg → FnOk P w K mg base CX k fa fd [x] sp) (hbind : ∀ (s : Shared) (u : Value), BindsTo s fd ⟨[u], []⟩ [(x, u)])
    (hsp : ∀ H : Hp, Only H → SqL K H a (ns.map V.int) → sp [.ref a] H (fun v _ => v = .bl true) fun _ _ _ => False)
    (hCX : ∀ H e s', CX [] H s₁ (fun _ _ _ => False) e s' → False) :
    codeAny (model P w) callerA (.call (.ref fa) ⟨[.ref a], []⟩) (fun r s' => r = .ok (.ret (.bool true)) ∧ OldK s₁.heap s'.heap ∧ s'.os = s₁.os ∧ AllBare s'.gens) s₁ := by
  have rv := vals_ints hi
  have lenV := hi.length
  -- from an abstract heap in which nothing but the script may be tracked
  have core : ∀ H : Hp, Only H → SqL K H a (ns.map V.int) → HOk P w H s₁.heap → (∀ b, H b ≠ none → b = a) → (H a ≠ none → K.lookup a = none) →
      codeAny (model P w) callerA (.call (.ref fa) ⟨[.ref a], []⟩) (fun r s' => r = .ok (.ret (.bool true)) ∧ OldK s₁.heap s'.heap ∧ s'.os = s₁.os ∧ AllBare s'.gens) s₁ := by
    intro H hO hS hok hA hK
    have base_of : ∀ {b : Addr} {o : Obj}, s₁.heap.get? b = some o → H b = none → (hidT s₁.heap H).get? b = some o := fun e n => hidT_get e n
    have noA : ∀ {b : Addr} {o : Obj} {es : Array DictEntry} {ep : Nat}, s₁.heap.get? b = some o → o.data = .dict es ep → H b = none := fun {b o es ep} e d => by
      cases q : H b with
      | none => rfl
      | some u =>
        have e' : b = a := hA b (by rw [q]; simp)
        subst e'
        rw [ha] at e; cases e
        have d' : Data.seq vs.toArray _ = Data.dict es ep := d
        cases d'
    have nsK : ∀ {b : Addr} {m : Str → Option Value}, s₁.heap.Ns b m → (hidT s₁.heap H).Ns b m := fun {b m} ⟨o, es, ep, e, d, r⟩ => ⟨o, es, ep, base_of e (noA e d), d, r⟩
    have hKb : K.In (hidT s₁.heap H) := fun b o e => base_of (KX b o e) (by
      cases q : H b with
      | none => rfl
      | some u =>
        have e' : b = a := hA b (by rw [q]; simp)
        subst e'
        rw [hK (by rw [q]; simp)] at e; cases e)
    have hM : Mod K mg (hidT s₁.heap H) := ⟨hKb, nsK hns, ⟨mb, nsK hb, hbb⟩, let ⟨mc, h1, h2⟩ := hlim; ⟨mc, nsK h1, h2⟩⟩
    have e0 : Env0 P w K mg (hidT s₁.heap H) callerA [] s₁ H := ⟨rfl, hM, fun b o e => of_hidT e, Nat.le_of_eq (hidT_size _ _), trivial, fun b hb => absurd (show b ∈ ([] : List Addr) from hb) (by simp), hok, .of_eq hg⟩
    refine codeAny_mono ((F _ hKb (nsK hns)).run callerA [] s₁ H ⟨[.ref a], []⟩ [.ref a] [.ref a] _ _ hr e0 (hbind s₁ (.ref a)) (.cons rfl .nil) (hsp H hO hS)) fun r s' h => ?_
    cases r with
    | error e => exact (hCX H e s' h).elim
    | ok fl =>
      cases fl with
      | next => exact False.elim h
      | brk => exact False.elim h
      | cont => exact False.elim h
      | ret u =>
        obtain ⟨v, H', os, bare, un, hok', r', q⟩ := h
        have q' : v = .bl true := q
        subst q'
        obtain rfl : u = Value.bool true := r'
        refine ⟨rfl, OldK.of_keep fun b o e => ?_, os, bare⟩
        cases q : H b with
        | none => exact un.keep b o e q (by intro z; exact absurd (show b ∈ ([] : List Addr) from z) (by simp)) (by simp)
        | some u =>
          rcases hO b with z | ⟨ob, xs, z⟩
          · rw [q] at z; cases z
          · have z2 := un.frzs b ob _ z
            obtain ⟨e1, _⟩ := hok b _ z
            obtain ⟨e2, _⟩ := hok' b _ z2
            rw [e] at e1; cases e1
            exact e2
  cases hk : K.lookup a with
  | some o =>
    -- the script is one of the module's own objects
    have e := KX a o hk
    rw [ha] at e
    cases e
    refine core (fun _ => none) (fun _ => .inl rfl) (.inr ⟨_, vs.toArray, _, hk, rfl, rfl, rfl, by rw [List.size_toArray, lenV]; exact hl, by simpa using rv⟩) (fun b u z => by have z' : (none : Option HO) = some u := z; cases z') (fun b z => absurd rfl z) fun z => absurd rfl z
  | none =>
    refine core (fun b => if b = a then some (.frz { cls := .type "list", data := .seq vs.toArray } (.lst (ns.map V.int))) else none) (fun b => ?_) (.inl (.inr ⟨{ cls := .type "list", data := .seq vs.toArray }, if_pos rfl⟩)) (fun b u z => ?_) (fun b z => ?_) fun _ => hk
    · by_cases hb : b = a
      · exact .inr ⟨_, _, if_pos hb⟩
      · exact .inl (if_neg hb)
    · by_cases hb : b = a
      · have z' := (if_pos hb).symm.trans z
        cases z'
        subst hb
        exact ⟨ha, by rw [List.length_map]; exact hl, vs, _, rv, ha⟩
      · have z' := (if_neg hb).symm.trans z
        cases z'
    · by_cases hb : b = a
      · exact hb
      · exact absurd (if_neg hb) z
end L2

namespace L2
open PySem PySem.Spec PyProof.Rows

abbrev KOf {K : PySem.W.Frag} {h : Heap} (_ : K.In h) : PySem.W.Frag := K

/-- the goal that k_head leaves (case hc), from the law's promise. F gives the function object fd (K's own) once, then the promise over every base -/
theorem walk_of {l : PySem.W.OpenLaw} {n k : Nat} {q : Program} {loose : List Str} {XP : (Str → Option Value) → Heap → Prop} {YP : World → Heap → Prop} {d : DefRec} {K : Params → PySem.W.Frag} {CX : World → CXT} {sp : World → Sp} {x : Str}
    (hn : l.most = some n) (hn2 : n ≤ sizeLine) (hdf : d.params.defaults = []) (hr : Room k callerA)
    (hY : ∀ (w : World) (h : Heap), YP w h → (K w.params).In h)
    (F : ∀ (w : World) (mg : Str → Option Value) (fa : Addr) (h : Heap), (K w.params).In h → h.Ns mainGlobals mg → mg d.name = some (.ref fa) →
      ∃ fd : FuncData, (∀ (s : Shared) (u : Value), BindsTo s fd ⟨[u], []⟩ [(x, u)]) ∧
        ∀ base : Heap, (K w.params).In base → base.Ns mainGlobals mg → FnOk l.prog w (K w.params) mg base (CX w) k fa fd [x] (sp w))
    (hsp : ∀ (w : World) (H : Hp) (a : Addr) (ns : List Int), ns.length ≤ n → Only H → SqL (K w.params) H a (ns.map V.int) → sp w [.ref a] H (fun v _ => v = .bl true) fun _ _ _ => False)
    (hCX : ∀ (w : World) (H : Hp) (s : Shared) (e : Value) (s' : Shared), CX w [] H s (fun _ _ _ => False) e s' → False) :
    PySem.W.WalkO q loose XP YP l.row.toRowW d [] (fun f vs => PySem.call f vs) := by
  refine Att.attach_call hn hdf fun w s₀ s₁ mg mb fa o pm cd doc a vs ns G Y ho hd hcd hmg hobj hints hlen hg => ?_
  have KX := hY w _ Y
  obtain ⟨fd, hb, hF⟩ := F w mg fa _ KX G.T.g hmg
  exact law_call KX G.T.g G.T.b G.T.builtins G.T.nolimit hg hobj hints (Nat.le_trans hlen hn2) hr hF hb (fun H hO hS => hsp w H a ns hlen hO hS) fun H e s' => hCX w H s₁ e s'
/-- the same where the promise hangs on the written part alone: (sp := My.sp_law), no hole under a binder -/
theorem walk_ofK {l : PySem.W.OpenLaw} {n k : Nat} {q : Program} {loose : List Str} {XP : (Str → Option Value) → Heap → Prop} {YP : World → Heap → Prop} {d : DefRec} {K : Params → PySem.W.Frag} {CX : CXT} {sp : PySem.W.Frag → Sp} {x : Str}
    (hn : l.most = some n) (hn2 : n ≤ sizeLine) (hdf : d.params.defaults = []) (hr : Room k callerA)
    (hY : ∀ (w : World) (h : Heap), YP w h → (K w.params).In h)
    (F : ∀ (w : World) (mg : Str → Option Value) (fa : Addr) (h : Heap), (K w.params).In h → h.Ns mainGlobals mg → mg d.name = some (.ref fa) →
      ∃ fd : FuncData, (∀ (s : Shared) (u : Value), BindsTo s fd ⟨[u], []⟩ [(x, u)]) ∧
        ∀ base : Heap, (K w.params).In base → base.Ns mainGlobals mg → FnOk l.prog w (K w.params) mg base CX k fa fd [x] (sp (K w.params)))
    (hsp : ∀ (K : PySem.W.Frag) (H : Hp) (a : Addr) (ns : List Int), ns.length ≤ n → Only H → SqL K H a (ns.map V.int) → sp K [.ref a] H (fun v _ => v = .bl true) fun _ _ _ => False)
    (hCX : ∀ (H : Hp) (s : Shared) (e : Value) (s' : Shared), CX [] H s (fun _ _ _ => False) e s' → False) :
    PySem.W.WalkO q loose XP YP l.row.toRowW d [] (fun f vs => PySem.call f vs) :=
  walk_of (K := K) (CX := fun _ => CX) (sp := fun w => sp (K w.params)) hn hn2 hdf hr hY F (fun w H a ns h1 h2 h3 => hsp (K w.params) H a ns h1 h2 h3) fun _ H s e s' => hCX H s e s'
end L2

/- THE LAST THEOREM (shape; LID, My.* are yours):
   My.Adr: a structure of the addresses that your layer names (classes, functions); My.Txt K t: a structure (Prop) of the equations over K;
   My.txt_mk : {K} {implicit addresses ..} (e1 : nsIn K mainGlobals "law" = some (some (.ref f))) (e2 : K.lookup f = some ⟨oc, od, .func (fnOf "law" "law" params body scope dV kV doc pm an cdv ct), sl⟩) (e3 : codeIn K cdv "law" = true) .. : ∃ t, My.Txt K t

set_option maxRecDepth 100000 in
set_option maxHeartbeats 0 in
theorem PySem.Challenge.cw_LID_holds : PySem.Challenge.rw_LID.Holds := by
  w_on; o_law; k_head; (case hw => w_witness2)
  k_fill
  refine L2.walk_of (l := PySem.Challenge.rw_LID) (n := 63) (k := 40) (x := "script") (CX := fun w => ..) (sp := fun _ => My.sp_law) rfl (by decide) rfl ⟨rfl, by decide, by decide⟩ (fun w h Y => PySem.W.kIn_of Y) ?F ?S ?C
  case F =>
    intro w mg fa h KX G hmg
    have T : ∃ t, My.Txt (L2.KOf KX) t := by
      dsimp only [L2.KOf]                          -- K must stand as «<heap const> w.params» for k_is
      refine' My.txt_mk ?e1 ?e2 ?e3 ..
      (case e1 => PySem.W.k_is)                    -- in the order: a name -> its address -> its object -> its parts
      (case e2 => PySem.W.k_is)
      ..
    obtain ⟨t, T⟩ := T
    have e0 := hmg.symm.trans (PySem.W.mg_of KX G T.law)
    cases e0                                       -- fa is the law's own address
    exact ⟨_, fun s u => .of_eq rfl, fun base kb nb => My.law_fn T kb nb⟩     -- if «.of_eq rfl» comes too early: refine' ⟨_, ?b, fun base kb nb => My.law_fn T kb nb⟩; exact fun s u => .of_eq rfl
  case S => exact fun w H a ns hl hO hS => ..
  case C => exact ..
(the tactic k_is has no namespace: write k_is) -/

/-! SHORT WORDS over the layer: a def of the text, its body, what a loop and a test want. -/
namespace L2
open PySem PySem.Spec PyProof.Rows

/-! ### the text by places -/
/-- the j-th statement of a class's body -/
def inClass (s : Stmt) (j : Nat) : Stmt := match s with
  | .ClassDef _ _ _ body _ _ _ _ _ _ _ => body.getD j (.Pass ⟨0, 0, 0, 0⟩)
  | _ => .Pass ⟨0, 0, 0, 0⟩
def defArgs (s : Stmt) : Arguments := match s with
  | .FunctionDef _ a _ _ _ _ _ _ _ _ => a
  | _ => { posonlyargs := [], args := [], vararg := none, kwonlyargs := [], kw_defaults := [], kwarg := none, defaults := [] }
def defBody (s : Stmt) : List Stmt := match s with
  | .FunctionDef _ _ b _ _ _ _ _ _ _ => b
  | _ => []
def defScope (s : Stmt) : Scope := match s with
  | .FunctionDef _ _ _ _ _ _ sc _ _ _ => sc
  | _ => { kind := .function, names := [], isGenerator := false, isCoroutine := false }

/-! ### no exception leaves a def -/
abbrev CX0 : CXT := fun _ _ _ _ _ _ => False
abbrev E0 : XK := fun _ _ _ => False
theorem pass0 {X : Cx} : Passes CX0 X E0 := fun _ _ _ _ _ _ _ h => h.elim

/-! ### a def (or method) of the text as it stands behind the top -/
structure Fun (K : PySem.W.Frag) (x qual : Str) (st : Stmt) (f : Addr) (fd : FuncData) : Prop where
  ex : ∃ (oc : Value) (od : Option Addr) (kV doc pm : Value) (an : Option Addr) (cdv ct : Value) (osl : Array (Option Value)),
    fd = PySem.W.fnOf x qual (defArgs st) (defBody st) (defScope st) .none kV doc pm an cdv ct ∧ K.lookup f = some ⟨oc, od, .func fd, osl⟩ ∧ PySem.W.codeIn K cdv qual = true
  kp : PySem.W.keepIn K (.ref f) = true
section
variable {P : Program} {w : World} {K : PySem.W.Frag} {mg : Str → Option Value} {base : Heap}
/-- THE RULE for a def: its body as a term of rules, and the reading of that term -/
theorem Fun.ok {x qual : Str} {st : Stmt} {f : Addr} {fd : FuncData} {N ps : List Str} {k : Nat} {sp : Sp} (F : Fun K x qual st f fd) (S : FnScope N ps (defScope st)) (len : ∀ vs H Q E, sp vs H Q E → vs.length = ps.length)
    (hbody : ∀ (cdv : Value) (A : Around) (outer : List Env) (s : Shared) (H : Hp) (vs : List V) (Q : VK) (E : XK), Room k (A.deeper (envOfC qual (defScope st) s.heap.objs.size f cdv)) → sp vs H Q E →
      ∃ t, PSs (cxOf CX0 P w K mg base N qual (defScope st) f cdv A outer s H E).nox (defBody st) t ∧ t { nx := fun _ H' => Q .non H', rt := Q } (start N vs) H) : FnOk P w K mg base CX0 (k + 1) f fd ps sp := by
  obtain ⟨oc, od, kV, doc, pm, an, cdv, ct, osl, rfl, lk, hcd⟩ := F.ex
  refine fn_of lk hcd S len fun A outer s H vs Q E hr hsp => ?_
  obtain ⟨t, h, q⟩ := hbody cdv A outer s H vs Q E hr hsp
  exact ⟨t, h.nox, q⟩
/-- how its arguments bind (no defaults): h is «fun _ _ _ _ _ _ us hl => match us, hl with | [_, _], _ => rfl», one _ a parameter -/
theorem Fun.binds {x qual : Str} {st : Stmt} {f : Addr} {fd : FuncData} {ps : List Str} (F : Fun K x qual st f fd)
    (h : ∀ (kV doc pm : Value) (an : Option Addr) (cdv ct : Value) (us : List Value), us.length = ps.length → bindArgs (PySem.W.fnOf x qual (defArgs st) (defBody st) (defScope st) .none kV doc pm an cdv ct) ⟨us, []⟩ = pure (ps.zip us)) : Binds K fd ps [] := by
  obtain ⟨oc, od, kV, doc, pm, an, cdv, ct, osl, rfl, lk, hcd⟩ := F.ex
  exact .all (h kV doc pm an cdv ct)
theorem fun_mk {x qual : Str} {st : Stmt} {f : Addr} {oc : Value} {od an : Option Addr} {osl : Array (Option Value)} {kV doc pm cdv ct : Value} (l : K.lookup f = some ⟨oc, od, .func (PySem.W.fnOf x qual (defArgs st) (defBody st) (defScope st) .none kV doc pm an cdv ct), osl⟩)
    (c : PySem.W.codeIn K cdv qual = true) (k : PySem.W.keepIn K (.ref f) = true) : Fun K x qual st f (PySem.W.fnOf x qual (defArgs st) (defBody st) (defScope st) .none kV doc pm an cdv ct) := ⟨⟨oc, od, kV, doc, pm, an, cdv, ct, osl, rfl, l, c⟩, k⟩
end
theorem hu_of {A : Around} {k : Nat} (hr : Room k A) : A.units + 1 < cLine := Nat.lt_of_le_of_lt (Nat.add_le_add_left (by decide : 1 ≤ 64) _) hr.units
theorem small1000 {n : Nat} (h : n ≤ 1000) : n < sizeLine := Nat.lt_of_le_of_lt h (by decide)

/-! ### expressions in short: the name that stands in the i-th slot -/
section
variable {X : Cx}
theorem pv (i : Nat) {x : Str} {pos : Pos} (hN : X.N[i]? = some x := by rfl) (hv : Vis X.env.scope x := by first | exact Or.inl rfl | exact Or.inr (Or.inl rfl) | exact Or.inr (Or.inr rfl)) (hd : (x == ("__debug__" : Str)) = false := by decide)
    (hcd : (x == ("__classdict__" : Str)) = false := by decide) : PE X (.Name x pos) (tVar i) := pe_var hN hv hd hcd
end

/-! ### tests -/
theorem iteF {A B : Prop} (h : B) : if false = true then A else B := by
  rw [if_neg Bool.false_ne_true]
  exact h
theorem iteT {A B : Prop} (h : A) : if true = true then A else B := by
  rw [if_pos rfl]
  exact h
theorem ite2 {c A B : Prop} [Decidable c] (h1 : c → A) (h2 : ¬ c → B) : if c then A else B := by
  by_cases h : c
  · rw [if_pos h]
    exact h1 h
  · rw [if_neg h]
    exact h2 h
theorem iteNS {c A B : Prop} [Decidable c] (hc : c) (h : B) : if (!decide c) = true then A else B := by
  rw [decide_eq_true hc]
  exact iteF h

/-! ### heaps -/
/-- all that was tracked is as it was -/
def Same (H H' : Hp) : Prop := ∀ b o, H b = some o → H' b = some o
theorem Same.refl (H : Hp) : Same H H := fun _ _ h => h
theorem Same.trans {H H1 H2 : Hp} (a : Same H H1) (b : Same H1 H2) : Same H H2 := fun c o h => b c o (a c o h)
theorem Same.free {H H' : Hp} (e : Same H H') {l : Addr} (h : H' l = Option.none) : H l = Option.none := by
  cases q : H l with
  | none => rfl
  | some o =>
    rw [e l o q] at h
    cases h
theorem Same.seq {K : PySem.W.Frag} {H H' : Hp} {a : Addr} {xs : List V} (e : Same H H') (h : SqL K H a xs) : SqL K H' a xs := by
  rcases h with (h | ⟨o, h⟩) | h
  · exact .inl (.inl (e _ _ h))
  · exact .inl (.inr ⟨o, e _ _ h⟩)
  · exact .inr h

end L2


namespace L2
open PySem PySem.Spec PyProof.Rows

/-! ### lists of pairs as tables -/
section
variable {κ : Type} [DecidableEq κ]
def valV (kvs : List (κ × V)) (k : κ) : Option V := (kvs.find? fun kv => decide (kv.1 = k)).map (·.2)
/-- in its place, or at the end -/
def putK (kvs : List (κ × V)) (k : κ) (v : V) : List (κ × V) :=
  if (kvs.any fun kv => decide (kv.1 = k)) = true then kvs.map (fun kv => if kv.1 = k then (kv.1, v) else kv) else kvs ++ [(k, v)]
def dropK (kvs : List (κ × V)) (k : κ) : List (κ × V) := kvs.filter fun kv => decide (kv.1 ≠ k)

theorem valV_nil {k : κ} : valV ([] : List (κ × V)) k = none := rfl
theorem valV_pos {p : κ × V} {r : List (κ × V)} {k : κ} (e : p.1 = k) : valV (p :: r) k = some p.2 := by simp [valV, List.find?_cons, e]
theorem valV_neg {p : κ × V} {r : List (κ × V)} {k : κ} (e : ¬ p.1 = k) : valV (p :: r) k = valV r k := by simp [valV, List.find?_cons, e]
theorem valV_any (k : κ) : ∀ kvs : List (κ × V), (kvs.any fun kv => decide (kv.1 = k)) = (valV kvs k).isSome
  | [] => rfl
  | p :: r => by
    rw [List.any_cons]
    by_cases e : p.1 = k
    · simp only [valV_pos e, decide_eq_true e, Bool.true_or, Option.isSome_some]
    · rw [valV_neg e, decide_eq_false e, Bool.false_or]; exact valV_any k r
theorem valV_map (k j : κ) (y : V) : ∀ kvs : List (κ × V), valV (kvs.map fun kv => if kv.1 = k then (kv.1, y) else kv) j = (valV kvs j).map fun x => if j = k then y else x
  | [] => rfl
  | p :: r => by
    have ih := valV_map k j y r
    rw [List.map_cons]
    by_cases h : p.1 = k
    · rw [if_pos h]
      by_cases e : p.1 = j
      · rw [valV_pos (p := (p.1, y)) e, valV_pos e, Option.map_some, if_pos (e.symm.trans h)]
      · rw [valV_neg (p := (p.1, y)) e, valV_neg e, ih]
    · rw [if_neg h]
      by_cases e : p.1 = j
      · rw [valV_pos (p := p) e, valV_pos e, Option.map_some, if_neg (fun z => h (e.trans z))]
      · rw [valV_neg (p := p) e, valV_neg e, ih]
theorem valV_snoc (k j : κ) (y : V) : ∀ kvs : List (κ × V), valV kvs k = none → valV (kvs ++ [(k, y)]) j = if j = k then some y else valV kvs j
  | [], _ => by
    by_cases e : k = j
    · rw [if_pos e.symm]; exact valV_pos (p := (k, y)) e
    · rw [if_neg (fun z => e z.symm)]; exact valV_neg (p := (k, y)) e
  | p :: r, hn => by
    rw [List.cons_append]
    have hk : ¬ p.1 = k := fun z => by rw [valV_pos z] at hn; cases hn
    rw [valV_neg hk] at hn
    have ih := valV_snoc k j y r hn
    by_cases e : p.1 = j
    · rw [valV_pos e, valV_pos e, if_neg (fun z => hk (e.trans z))]
    · rw [valV_neg e, valV_neg e, ih]
theorem valV_put (kvs : List (κ × V)) (k j : κ) (y : V) : valV (putK kvs k y) j = if j = k then some y else valV kvs j := by
  unfold putK
  by_cases a : (kvs.any fun kv => decide (kv.1 = k)) = true
  · rw [if_pos a, valV_map]
    rw [valV_any] at a
    by_cases e : j = k
    · obtain ⟨x, hx⟩ := Option.isSome_iff_exists.mp a
      rw [if_pos e, e, hx, Option.map_some, if_pos rfl]
    · rw [if_neg e]
      cases valV kvs j with
      | none => rfl
      | some x => rw [Option.map_some, if_neg e]
  · rw [if_neg a]
    refine valV_snoc k j y kvs ?_
    rw [valV_any] at a
    cases q : valV kvs k with
    | none => rfl
    | some x => rw [q] at a; exact (a rfl).elim
theorem length_putK (kvs : List (κ × V)) (k : κ) (v : V) : (putK kvs k v).length ≤ kvs.length + 1 := by
  unfold putK
  split
  · rw [List.length_map]; omega
  · rw [List.length_append, List.length_cons, List.length_nil]; omega
theorem putK_new {kvs : List (κ × V)} {k : κ} (v : V) (h : valV kvs k = none) : putK kvs k v = kvs ++ [(k, v)] := by
  unfold putK
  rw [valV_any, h]
  exact if_neg (by decide)

theorem RelO.isSome_eq {o : Option V} {u : Option Value} (r : RelO o u) : o.isSome = u.isSome := by
  cases o with
  | none => cases u with
    | none => rfl
    | some _ => exact (show False from r).elim
  | some _ => cases u with
    | none => exact (show False from r).elim
    | some _ => rfl
theorem RelO.getD {o : Option V} {u : Option Value} {d : V} {d' : Value} (r : RelO o u) (rd : RelV d d') : RelV (o.getD d) (u.getD d') := by
  cases o with
  | none => cases u with
    | none => exact rd
    | some _ => exact (show False from r).elim
  | some _ => cases u with
    | none => exact (show False from r).elim
    | some _ => exact r

/-- raw tables of the same keys -/
theorem KV.val {kvs : List (κ × V)} {vs : List (κ × Value)} (r : KV kvs vs) (k : κ) : RelO (valV kvs k) (valueAt vs k) := by
  unfold KV at r
  induction r with
  | nil => exact True.intro
  | @cons p q ps qs h t ih =>
    obtain ⟨h1, h2⟩ := h
    by_cases e : p.1 = k
    · have e' : q.1 = k := h1.symm.trans e
      have b : valueAt (q :: qs) k = some q.2 := by simp [valueAt, List.find?_cons, e']
      rw [valV_pos e, b]; exact h2
    · have e' : ¬ q.1 = k := fun z => e (h1.trans z)
      have b : valueAt (q :: qs) k = valueAt qs k := by simp [valueAt, List.find?_cons, e']
      rw [valV_neg e, b]; exact ih
theorem KV.any {kvs : List (κ × V)} {vs : List (κ × Value)} (r : KV kvs vs) (k : κ) : (kvs.any fun kv => decide (kv.1 = k)) = vs.any fun kv => decide (kv.1 = k) := by
  unfold KV at r
  induction r with
  | nil => rfl
  | cons h t ih => rw [List.any_cons, List.any_cons, ih, h.1]
theorem KV.repl {kvs : List (κ × V)} {vs : List (κ × Value)} (r : KV kvs vs) (k : κ) {y : V} {u : Value} (ry : RelV y u) :
    KV (kvs.map fun kv => if kv.1 = k then (kv.1, y) else kv) (vs.map fun kv => if kv.1 = k then (kv.1, u) else kv) := by
  unfold KV at r ⊢
  induction r with
  | nil => exact .nil
  | @cons p q ps qs h t ih =>
    rw [List.map_cons, List.map_cons]
    refine .cons ?_ ih
    obtain ⟨h1, h2⟩ := h
    by_cases e : p.1 = k
    · rw [if_pos e, if_pos (h1.symm.trans e)]; exact ⟨h1, ry⟩
    · rw [if_neg e, if_neg (fun z => e (h1.trans z))]; exact ⟨h1, h2⟩
theorem KV.put {kvs : List (κ × V)} {vs : List (κ × Value)} (r : KV kvs vs) (k : κ) {y : V} {u : Value} (ry : RelV y u) : KV (putK kvs k y) (stored vs k u) := by
  unfold putK stored
  rw [r.any k]
  by_cases e : (vs.any fun kv => decide (kv.1 = k)) = true
  · rw [if_pos e, if_pos e]; exact r.repl k ry
  · rw [if_neg e, if_neg e]; exact Paired.snoc r ⟨rfl, ry⟩
theorem KV.drop {kvs : List (κ × V)} {vs : List (κ × Value)} (r : KV kvs vs) (k : κ) : KV (dropK kvs k) (without vs k) := by
  unfold KV at r ⊢
  unfold dropK without
  induction r with
  | nil => exact .nil
  | @cons p q ps qs h t ih =>
    obtain ⟨h1, h2⟩ := h
    rw [List.filter_cons, List.filter_cons]
    by_cases e : p.1 = k
    · have a : ¬ decide (p.1 ≠ k) = true := by simp [e]
      have b : ¬ decide (q.1 ≠ k) = true := by simp [h1.symm.trans e]
      rw [if_neg a, if_neg b]; exact ih
    · have e' : ¬ q.1 = k := fun z => e (h1.trans z)
      have a : decide (p.1 ≠ k) = true := by simp [e]
      have b : decide (q.1 ≠ k) = true := by simp [e']
      rw [if_pos a, if_pos b]; exact .cons ⟨h1, h2⟩ ih
theorem KV.keys {kvs : List (κ × V)} {vs : List (κ × Value)} (r : KV kvs vs) : kvs.map (·.1) = vs.map (·.1) := by
  unfold KV at r
  induction r with
  | nil => rfl
  | cons h t ih => rw [List.map_cons, List.map_cons, ih, h.1]
theorem KV.length {kvs : List (κ × V)} {vs : List (κ × Value)} (r : KV kvs vs) : kvs.length = vs.length := Paired.length r
theorem dropK_le (kvs : List (κ × V)) (k : κ) : (dropK kvs k).length ≤ kvs.length := List.length_filter_le _ _
end


/-! ### a tracked dict, its keys ints and texts or tuples of these -/
theorem kV_is {P : Program} {w : World} {k : Key} {u : Value} (r : RelV (kV k) u) : (mixKind P w).is k u = true := by
  cases k with
  | inl i => obtain ⟨t, e⟩ := (show ∃ t, u = Value.int i t from r); subst e; exact mixKind_int P w i t
  | inr x => obtain ⟨t, e⟩ := (show ∃ t, u = Value.str x t from r); subst e; exact mixKind_str P w x t
theorem kV_inj {a b : Key} (e : kV a = kV b) : a = b := by
  cases a with
  | inl i => cases b with
    | inl j => have e' : V.int i = V.int j := e; injection e' with e'; rw [e']
    | inr y => exact nomatch (show V.int i = V.str y from e)
  | inr x => cases b with
    | inl j => exact nomatch (show V.str x = V.int j from e)
    | inr y => have e' : V.str x = V.str y := e; injection e' with e'; rw [e']
theorem kVs_inj : ∀ {a b : List Key}, a.map kV = b.map kV → a = b
  | [], [], _ => rfl
  | [], _ :: _, e => by simp at e
  | _ :: _, [], e => by simp at e
  | x :: xs, y :: ys, e => by
    rw [List.map_cons, List.map_cons] at e
    injection e with e1 e2
    rw [kV_inj e1, kVs_inj e2]
theorem items_are {P : Program} {w : World} : ∀ {ks : List Key} {us : List Value}, Vals (ks.map kV) us → ItemsAre (mixKind P w) ks us
  | [], _, r => by rw [List.map_nil] at r; cases r; exact .nil
  | k :: ks, _, r => by
    rw [List.map_cons] at r
    cases r with
    | cons h t => exact .cons (kV_is h) (items_are t)

/-- raw entries of a dict with tuple keys -/
abbrev KT (H : Hp) : List (List Key × V) → List (List Key × Addr × Value) → Prop := Paired fun p q => p.1 = q.1 ∧ H q.2.1 = some (.tup (p.1.map kV)) ∧ RelV p.2 q.2.2
theorem KT.val {H : Hp} {kvs : List (List Key × V)} {xs : List (List Key × Addr × Value)} (r : KT H kvs xs) (k : List Key) : RelO (valV kvs k) ((atKey xs k).map (·.2)) := by
  induction r with
  | nil => exact True.intro
  | @cons p q ps qs h t ih =>
    obtain ⟨h1, _, h2⟩ := h
    by_cases e : p.1 = k
    · have e' : q.1 = k := h1.symm.trans e
      have b : atKey (q :: qs) k = some q.2 := by simp [atKey, List.find?_cons, e']
      rw [valV_pos e, b]; exact h2
    · have e' : ¬ q.1 = k := fun z => e (h1.trans z)
      have b : atKey (q :: qs) k = atKey qs k := by simp [atKey, List.find?_cons, e']
      rw [valV_neg e, b]; exact ih
theorem KT.repl {H : Hp} {kvs : List (List Key × V)} {xs : List (List Key × Addr × Value)} (r : KT H kvs xs) (k : List Key) {y : V} {u : Value} (ry : RelV y u) :
    KT H (kvs.map fun kv => if kv.1 = k then (kv.1, y) else kv) (xs.map (putAt k u)) := by
  induction r with
  | nil => exact .nil
  | @cons p q ps qs h t ih =>
    rw [List.map_cons, List.map_cons]
    refine .cons ?_ ih
    obtain ⟨h1, h2, h3⟩ := h
    unfold putAt
    by_cases e : p.1 = k
    · rw [if_pos e, if_pos (h1.symm.trans e)]; exact ⟨h1, h2, ry⟩
    · rw [if_neg e, if_neg (fun z => e (h1.trans z))]; exact ⟨h1, h2, h3⟩
theorem KT.put {H : Hp} {kvs : List (List Key × V)} {xs : List (List Key × Addr × Value)} (r : KT H kvs xs) (k : List Key) {b : Addr} {y : V} {u : Value} (hb : H b = some (.tup (k.map kV))) (ry : RelV y u) :
    KT H (putK kvs k y) (storedH xs k b u) := by
  have e : (kvs.any fun kv => decide (kv.1 = k)) = (atKey xs k).isSome := by
    rw [valV_any, (r.val k).isSome_eq, Option.isSome_map]
  unfold putK storedH
  rw [e]
  by_cases q : (atKey xs k).isSome = true
  · rw [if_pos q, if_pos q]; exact r.repl k ry
  · rw [if_neg q, if_neg q]; exact Paired.snoc r ⟨rfl, hb, ry⟩
theorem KT.keeps {H H' : Hp} {kvs : List (List Key × V)} {xs : List (List Key × Addr × Value)} (r : KT H kvs xs) (ht : ∀ b ys, H b = some (.tup ys) → H' b = some (.tup ys)) : KT H' kvs xs :=
  Paired.mapP r fun _ _ z => ⟨z.1, ht _ _ z.2.1, z.2.2⟩

section
variable {P : Program} {w : World} {H : Hp} {h : Heap} {a : Addr}
theorem rd_of {u : HO} (ok : HOk P w H h) (e : Rd H a u) : ObjOk P w H h a u := e.ok ok
theorem dk_rd {kvs : List (Key × V)} (ok : HOk P w H h) (e : Rd H a (.dK kvs)) : kvs.length ≤ sizeLine ∧ (a == sysModules) = false ∧ ∃ vs, KV kvs vs ∧ h.DictOf (mixKind P w) a vs :=
  show ObjOk P w H h a (.dK kvs) from rd_of ok e
theorem dk_of {kvs : List (Key × V)} (ok : HOk P w H h) (e : H a = some (.dK kvs)) : kvs.length ≤ sizeLine ∧ (a == sysModules) = false ∧ ∃ vs, KV kvs vs ∧ h.DictOf (mixKind P w) a vs := dk_rd ok (.inl e)
/-- a tracked tuple of ints and texts is a key -/
theorem key_of {ks : List Key} (ok : HOk P w H h) (e : H a = some (.tup (ks.map kV))) : (tupleKind (mixKind P w)).is h ks a := by
  obtain ⟨_, its, r, o, h1, h2, n, h3⟩ := (show ObjOk P w H h a (.tup (ks.map kV)) from ok a _ e)
  exact ⟨o, its.toArray, n, h1, h2, h3, by simpa using items_are r⟩
theorem dt_rd {kvs : List (List Key × V)} (ok : HOk P w H h) (e : Rd H a (.dT kvs)) : kvs.length ≤ sizeLine ∧ (a == sysModules) = false ∧
    ∃ xs, KT H kvs xs ∧ h.DictOfH (tupleKind (mixKind P w)) a xs := by
  obtain ⟨z, y, xs, r, o, es, ep, h1, h2, h3, h4, h5⟩ := (show ObjOk P w H h a (.dT kvs) from rd_of ok e)
  refine ⟨z, y, xs, r, o, es, ep, h1, h2, h3, h4, fun x hx => ?_, h5⟩
  have all : ∀ {l : List (List Key × V)} {m : List (List Key × Addr × Value)}, KT H l m → ∀ x ∈ m, (tupleKind (mixKind P w)).is h x.1 x.2.1 := by
    intro l m q
    induction q with
    | nil => intro x hx; exact nomatch hx
    | @cons p q ps qs hq t ih =>
      intro x hx
      rcases List.mem_cons.mp hx with e | hx
      · subst e
        exact key_of ok (by rw [← hq.1]; exact hq.2.1)
      · exact ih x hx
  exact all r x hx
theorem dt_of {kvs : List (List Key × V)} (ok : HOk P w H h) (e : H a = some (.dT kvs)) : kvs.length ≤ sizeLine ∧ (a == sysModules) = false ∧
    ∃ xs, KT H kvs xs ∧ h.DictOfH (tupleKind (mixKind P w)) a xs := dt_rd ok (.inl e)
end

/-- what the dict at a holds at the key y -/
def DGet (H : Hp) (a : Addr) (y : V) (r : Option V) : Prop :=
  (∃ kvs k, Rd H a (.dK kvs) ∧ y = kV k ∧ r = valV kvs k) ∨ ∃ kvs k b, Rd H a (.dT kvs) ∧ y = .ref b ∧ H b = some (.tup (k.map kV)) ∧ r = valV kvs k
/-- the heap behind a[y] = v -/
def DPut (H : Hp) (a : Addr) (y v : V) (H' : Hp) : Prop :=
  (∃ kvs k, H a = some (.dK kvs) ∧ y = kV k ∧ kvs.length < sizeLine ∧ H' = upd H a (.dK (putK kvs k v))) ∨
  ∃ kvs k b, H a = some (.dT kvs) ∧ y = .ref b ∧ H b = some (.tup (k.map kV)) ∧ kvs.length < sizeLine ∧ H' = upd H a (.dT (putK kvs k v))
theorem DGet.k {H : Hp} {a : Addr} {kvs : List (Key × V)} {k : Key} (e : H a = some (.dK kvs)) : DGet H a (kV k) (valV kvs k) := .inl ⟨kvs, k, .inl e, rfl, rfl⟩
theorem DGet.t {H : Hp} {a b : Addr} {kvs : List (List Key × V)} {k : List Key} (e : H a = some (.dT kvs)) (eb : H b = some (.tup (k.map kV))) : DGet H a (.ref b) (valV kvs k) := .inr ⟨kvs, k, b, .inl e, rfl, eb, rfl⟩
theorem DPut.k {H : Hp} {a : Addr} {kvs : List (Key × V)} {k : Key} {v : V} (e : H a = some (.dK kvs)) (hl : kvs.length < sizeLine) : DPut H a (kV k) v (upd H a (.dK (putK kvs k v))) := .inl ⟨kvs, k, e, rfl, hl, rfl⟩
theorem DPut.t {H : Hp} {a b : Addr} {kvs : List (List Key × V)} {k : List Key} {v : V} (e : H a = some (.dT kvs)) (eb : H b = some (.tup (k.map kV))) (hl : kvs.length < sizeLine) :
    DPut H a (.ref b) v (upd H a (.dT (putK kvs k v))) := .inr ⟨kvs, k, b, e, rfl, eb, hl, rfl⟩


section
variable {X : Cx} {pins : List (Addr × Obj)} {σ : St} {H : Hp} {s : Shared} {a : Addr} {y v : V} {u r : Value} {o : Option V} {A : Around} {E : Value → Shared → Prop}

theorem Inv.big (I : Inv X pins σ H s) : sysModules < s.heap.objs.size := by
  have h : mainGlobals < s.heap.objs.size := (I.mod.glob.keeps I.bk).lt
  exact Nat.lt_trans (by decide) h

/-- d[y], there -/
theorem d_getItem {Q : Value → Shared → Prop} (hu : A.units + 1 < cLine) (I : Inv X pins σ H s) (g : DGet H a y (some v)) (ry : RelV y u) (h : ∀ w' s', Inv X pins σ H s' → RelV v w' → Q w' s') :
    wpAny (model X.prog X.w) A (getItem (.ref a) u) Q E s := by
  rcases g with ⟨kvs, k, e, ey, l⟩ | ⟨kvs, k, b, e, ey, eb, l⟩
  · subst ey
    obtain ⟨z, hd, vs, rel, dd⟩ := dk_rd I.hok e
    obtain ⟨w', hw, rw'⟩ := RelO.some_of (v := v) (o := valueAt vs k) (by rw [l]; exact rel.val k)
    exact wpAny_getItem_of (kV_is ry) dd.mapOf hw (h w' _ (I.tok _) rw')
  · subst ey
    cases (show u = Value.ref b from ry)
    obtain ⟨z, hd, xs, rel, dd⟩ := dt_rd I.hok e
    obtain ⟨w', hw, rw'⟩ := RelO.some_of (v := v) (o := (atKey xs k).map (·.2)) (by rw [l]; exact rel.val k)
    obtain ⟨p, hp, hp2⟩ := Option.map_eq_some_iff.mp hw
    refine wpAny_getItem_heap (tupleKind_room_in1 hu) (key_of I.hok eb) dd hp ?_
    rw [hp2]
    exact h w' _ (I.tok _) rw'
/-- y in d -/
theorem d_in {Q : Value → Shared → Prop} (hu : A.units + 1 < cLine) (I : Inv X pins σ H s) (g : DGet H a y o) (ry : RelV y u) (h : ∀ s', Inv X pins σ H s' → Q (.bool o.isSome) s') :
    wpAny (model X.prog X.w) A (compareOp .In u (.ref a)) Q E s := by
  rcases g with ⟨kvs, k, e, ey, l⟩ | ⟨kvs, k, b, e, ey, eb, l⟩
  · subst ey
    obtain ⟨z, hd, vs, rel, dd⟩ := dk_rd I.hok e
    refine wpAny_in_of (kV_is ry) hd dd.mapOf ?_
    rw [← (rel.val k).isSome_eq, ← l]
    exact h _ (I.tok _)
  · subst ey
    cases (show u = Value.ref b from ry)
    obtain ⟨z, hd, xs, rel, dd⟩ := dt_rd I.hok e
    refine wpAny_in_heap (tupleKind_room_in1 hu) (key_of I.hok eb) hd dd ?_
    have q := (rel.val k).isSome_eq
    rw [Option.isSome_map] at q
    rw [← q, ← l]
    exact h _ (I.tok _)
theorem d_notIn {Q : Value → Shared → Prop} (hu : A.units + 1 < cLine) (I : Inv X pins σ H s) (g : DGet H a y o) (ry : RelV y u) (h : ∀ s', Inv X pins σ H s' → Q (.bool (!o.isSome)) s') :
    wpAny (model X.prog X.w) A (compareOp .NotIn u (.ref a)) Q E s := by
  rcases g with ⟨kvs, k, e, ey, l⟩ | ⟨kvs, k, b, e, ey, eb, l⟩
  · subst ey
    obtain ⟨z, hd, vs, rel, dd⟩ := dk_rd I.hok e
    refine wpAny_notIn_of (kV_is ry) hd dd.mapOf ?_
    rw [← (rel.val k).isSome_eq, ← l]
    exact h _ (I.tok _)
  · subst ey
    cases (show u = Value.ref b from ry)
    obtain ⟨z, hd, xs, rel, dd⟩ := dt_rd I.hok e
    refine wpAny_notIn_heap (tupleKind_room_in1 hu) (key_of I.hok eb) hd dd ?_
    have q := (rel.val k).isSome_eq
    rw [Option.isSome_map] at q
    rw [← q, ← l]
    exact h _ (I.tok _)
/-- a dict's object is replaced -/
theorem d_write {h' : Heap} {t' : Nat} {ob : HO} (I : Inv X pins σ H s) (mu : Mut (H a)) (hs : Heap.SameBut a s.heap h') (he : ∃ q, h'.get? a = some q) (new : ObjOk X.prog X.w (upd H a ob) h' a ob) :
    Inv X pins σ (upd H a ob) { s with heap := h', toks := t' } :=
  I.write (x := a) (e := a) mu (.inl rfl) (fun b q hb z => (hs.2 b hb).trans z) he new
theorem dk_new {P : Program} {w : World} {H' : Hp} {h' : Heap} {kvs : List (Key × V)} {vs : List (Key × Value)} (z : kvs.length ≤ sizeLine) (hd : (a == sysModules) = false) (rel : KV kvs vs) (dd : h'.DictOf (mixKind P w) a vs) :
    ObjOk P w H' h' a (.dK kvs) := ⟨z, hd, vs, rel, dd⟩
/-- d[y] = v -/
theorem d_setItem {H' : Hp} {Q : Unit → Shared → Prop} (hu : A.units + 1 < cLine) (I : Inv X pins σ H s) (g : DPut H a y v H') (ry : RelV y u) (rv : RelV v r) (h : ∀ s', Inv X pins σ H' s' → Q () s') :
    wpAny (model X.prog X.w) A (setItem (.ref a) u r) Q E s := by
  rcases g with ⟨kvs, k, e, ey, l, eH⟩ | ⟨kvs, k, b, e, ey, eb, l, eH⟩
  · subst ey eH
    obtain ⟨z, hd, vs, rel, dd⟩ := dk_of I.hok e
    have hz : vs.length ≤ sizeLine := by rw [← rel.length]; exact z
    have hl : (putK kvs k v).length ≤ sizeLine := by have := length_putK kvs k v; omega
    refine wpAny_setItem_pairs (hsz := hz) (kV_is ry) dd fun h' dd' hs => h _ ?_
    have he : ∃ q, h'.get? a = some q := let ⟨q, _, _, hq, _⟩ := dd'; ⟨q, hq⟩
    exact d_write I (by rw [e]; exact True.intro) hs he (dk_new hl hd (rel.put k rv) dd')
  · subst ey eH
    cases (show u = Value.ref b from ry)
    obtain ⟨z, hd, xs, rel, dd⟩ := dt_of I.hok e
    have hz : xs.length ≤ sizeLine := by rw [← Paired.length rel]; exact z
    have hl : (putK kvs k v).length ≤ sizeLine := by have := length_putK kvs k v; omega
    refine wpAny_setItem_heap (hsz := hz) (tupleKind_room_in1 hu) (key_of I.hok eb) dd fun h' dd' hs => h _ ?_
    obtain ⟨q, es, ep, hq, h2, h3, h4, _, h5⟩ := dd'
    refine d_write I (by rw [e]; exact True.intro) hs ⟨q, hq⟩ ⟨hl, hd, _, (rel.put k eb rv).keeps fun c ys ec => ?_, q, es, ep, hq, h2, h3, h4, h5⟩
    rw [upd_ne (ne_of ec e (fun z => nomatch z))]
    exact ec
end

section
variable {X : Cx} {pins : List (Addr × Obj)} {σ : St} {H : Hp} {s : Shared} {a : Addr} {kvs : List (Key × V)} {k : Key} {u : Value} {A : Around} {E : Value → Shared → Prop}
/-- del d[k] -/
theorem d_delItem {Q : Unit → Shared → Prop} (I : Inv X pins σ H s) (e : H a = some (.dK kvs)) (ry : RelV (kV k) u) (l : (valV kvs k).isSome = true) (h : ∀ s', Inv X pins σ (upd H a (.dK (dropK kvs k))) s' → Q () s') :
    wpAny (model X.prog X.w) A (delItem (.ref a) u) Q E s := by
  obtain ⟨z, hd, vs, rel, dd⟩ := dk_of I.hok e
  refine wpAny_delItem_slot dd.typeIs (by decide) PySem.F.slot_dict_delitem
    (call_meetsIn PySem.F.slot_dict_delitem dd.typeIs PySem.F.entry_dict_delitem (PySem.F.args_dict_delitem_2 _ _) (meets_dict_delitem_pairs (mixKind X.prog X.w) a (kV_is ry)) ⟨vs, dd, by rw [← rel.length]; exact z, by rw [← (rel.val k).isSome_eq]; exact l, fun h' dd' hs => h _ ?_⟩)
  have he : ∃ q, h'.get? a = some q := let ⟨q, _, _, hq, _⟩ := dd'; ⟨q, hq⟩
  exact d_write I (by rw [e]; exact True.intro) hs he (dk_new (Nat.le_trans (dropK_le kvs k) z) hd (rel.drop k) dd')
/-- d.pop(k[, x]), there -/
theorem d_pop {v : V} {more : List Value} {Q : Value → Shared → Prop} (I : Inv X pins σ H s) (e : H a = some (.dK kvs)) (ry : RelV (kV k) u) (l : valV kvs k = some v) (hm : more = [] ∨ ∃ x, more = [x])
    (h : ∀ w' s', Inv X pins σ (upd H a (.dK (dropK kvs k))) s' → RelV v w' → Q w' s') : wpAny (model X.prog X.w) A (call (.builtin "dict.pop") (.ref a :: u :: more)) Q E s := by
  obtain ⟨z, hd, vs, rel, dd⟩ := dk_of I.hok e
  obtain ⟨w', hw, rw'⟩ := RelO.some_of (v := v) (o := valueAt vs k) (by rw [← l]; exact rel.val k)
  have hp : (keyPart u).isSome = true := by
    cases k with
    | inl i => obtain ⟨t, q⟩ := (show ∃ t, u = Value.int i t from ry); subst q; rfl
    | inr x => obtain ⟨t, q⟩ := (show ∃ t, u = Value.str x t from ry); subst q; rfl
  have ha : argsOk "dict.pop" ⟨.ref a :: u :: more, []⟩ := by
    rcases hm with q | ⟨x, q⟩
    · subst q; exact PySem.F.args_dict_pop_2 _ _
    · subst q; exact PySem.F.args_dict_pop_3 _ _ _
  refine call_meetsIn PySem.F.slot_dict_pop dd.typeIs PySem.F.entry_dict_pop ha (meets_dict_pop_there (mixKind X.prog X.w) a (kV_is ry) more hm hp)
    ⟨vs, w', dd, by rw [← rel.length]; exact z, hw, fun h' dd' hs => h w' _ ?_ rw'⟩
  have he : ∃ q, h'.get? a = some q := let ⟨q, _, _, hq, _⟩ := dd'; ⟨q, hq⟩
  exact d_write I (by rw [e]; exact True.intro) hs he (dk_new (Nat.le_trans (dropK_le kvs k) z) hd (rel.drop k) dd')
/-- d.pop(k, x), not there -/
theorem d_popD {r : Value} {Q : Value → Shared → Prop} (I : Inv X pins σ H s) (e : H a = some (.dK kvs)) (ry : RelV (kV k) u) (l : valV kvs k = none) (h : ∀ s', Inv X pins σ H s' → Q r s') :
    wpAny (model X.prog X.w) A (call (.builtin "dict.pop") [.ref a, u, r]) Q E s := by
  obtain ⟨z, hd, vs, rel, dd⟩ := dk_of I.hok e
  have hn : valueAt vs k = none := RelO.none_of (by rw [← l]; exact rel.val k)
  have hp : (keyPart u).isSome = true := by
    cases k with
    | inl i => obtain ⟨t, q⟩ := (show ∃ t, u = Value.int i t from ry); subst q; rfl
    | inr x => obtain ⟨t, q⟩ := (show ∃ t, u = Value.str x t from ry); subst q; rfl
  exact call_meetsIn PySem.F.slot_dict_pop dd.typeIs PySem.F.entry_dict_pop (PySem.F.args_dict_pop_3 _ _ _) (meets_dict_pop_default (mixKind X.prog X.w) a (kV_is ry) hd hp r) ⟨vs, dd, hn, h _ (I.tok _)⟩
/-- d.clear() -/
theorem d_clear {Q : Value → Shared → Prop} (I : Inv X pins σ H s) (e : H a = some (.dK kvs)) (h : ∀ s', Inv X pins σ (upd H a (.dK [])) s' → Q .none s') : wpAny (model X.prog X.w) A (call (.builtin "dict.clear") [.ref a]) Q E s := by
  obtain ⟨z, hd, vs, rel, dd⟩ := dk_of I.hok e
  refine call_meetsIn PySem.F.slot_dict_clear dd.typeIs PySem.F.entry_dict_clear (PySem.F.args_dict_clear_1 _) (meets_dict_clear (mixKind X.prog X.w) a) ⟨vs, dd, by rw [← rel.length]; exact z, fun h' dd' hs => h _ ?_⟩
  have he : ∃ q, h'.get? a = some q := let ⟨q, _, _, hq, _⟩ := dd'; ⟨q, hq⟩
  exact d_write (t' := s.toks) I (by rw [e]; exact True.intro) hs he (dk_new (Nat.zero_le _) hd .nil dd')
/-- len(d) -/
theorem d_len {Q : Value → Shared → Prop} (I : Inv X pins σ H s) (e : Rd H a (.dK kvs)) (h : ∀ t s', Inv X pins σ H s' → Q (.int kvs.length t) s') : wpAny (model X.prog X.w) A (call (.builtin "len") [.ref a]) Q E s := by
  obtain ⟨z, hd, vs, rel, dd⟩ := dk_rd I.hok e
  refine call_len_dict hd dd (by rw [← rel.length]; rw [sizeLine_eq] at z; omega) ?_
  rw [← rel.length]
  exact h _ _ (I.tok _)
/-- if d -/
theorem d_truth {Q : Bool → Shared → Prop} (I : Inv X pins σ H s) (e : Rd H a (.dK kvs)) (h : ∀ s', Inv X pins σ H s' → Q (!kvs.isEmpty) s') : wpAny (model X.prog X.w) A (truthy (.ref a)) Q E s := by
  obtain ⟨z, hd, vs, rel, dd⟩ := dk_rd I.hok e
  refine wpAny_truthy_dict hd dd (by rw [← rel.length]; rw [sizeLine_eq] at z; omega) ?_
  have q : kvs.isEmpty = vs.isEmpty := by cases rel <;> rfl
  rw [← q]
  exact h _ (I.tok _)
end


/-! ### readings and rules -/
/-- the element of a subscription, not a slice -/
def NoSl (i : Expr) : Prop := ∀ ov iv, subscripted i false ov iv = operate [ov, iv] (getItem ov iv)
theorem subD_of {prog : Program} {w : World} {A : Around} {E : Value → Shared → Prop} {s : Shared} {env : Env} {value slice : Expr} {pos : Pos} {T id : String} {Q : Value → Shared → Prop}
    (hl : typeLookup (.type T) "__getitem__" = pure (some (.builtin id))) (hs : NoSl slice)
    (h : wpAny (model prog w) A (eval value env) (fun o s₁ => wpAny (model prog w) A (eval slice env) (fun i s₂ => s₂.TypeIs o T ∧ wpAny (model prog w) A (getItem o i) Q E s₂) E s₁) E s) :
    wpAny (model prog w) A (eval (.Subscript value slice pos) env) Q E s := by
  refine Subscript_ (wpAny_mono h (fun o s₁ h₁ => wpAny_mono h₁ (fun i s₂ h₂ => ?_) fun _ _ x => x) fun _ _ x => x)
  obtain ⟨hT, h₂⟩ := h₂
  unfold subscriptTail
  refine wpAny_bind ?_
  rw [getitemInPython_of_ne hT.not_modules]
  refine wpAny_bind (wpAny_specialOf hT hl ?_)
  have fin : wpAny (model prog w) A (subscripted slice false o i) (fun r s₃ => wpAny (model prog w) A (letTemporaryGo value o r >>= fun _ => pure r) Q E s₃) E s₂ := by
    rw [hs o i]
    exact wpAny_operating (wpAny_mono h₂ (fun r s₃ h₃ => wpAny_bind (wpAny_letTemporaryGo (wpAny_pure h₃))) fun _ _ x => x)
  first
    | exact wpAny_pure (wpAny_bind fin)
    | exact wpAny_bind (wpAny_pure (wpAny_bind fin))
    | exact wpAny_bind fin

theorem dict_typeIs {X : Cx} {pins : List (Addr × Obj)} {σ : St} {H : Hp} {s : Shared} {a : Addr} {y : V} {o : Option V} (I : Inv X pins σ H s) (g : DGet H a y o) : s.TypeIs (.ref a) "dict" := by
  rcases g with ⟨kvs, k, e, _, _⟩ | ⟨kvs, k, b, e, _, _, _⟩
  · obtain ⟨_, _, vs, _, dd⟩ := dk_rd I.hok e
    exact dd.typeIs
  · obtain ⟨_, _, xs, _, dd⟩ := dt_rd I.hok e
    exact dd.typeIs
theorem dict_noDict {X : Cx} {pins : List (Addr × Obj)} {σ : St} {H : Hp} {s : Shared} {a : Addr} {y : V} {o : Option V} (I : Inv X pins σ H s) (g : DGet H a y o) :
    ∀ b, Value.ref a = .ref b → ∃ ob, s.heap.get? b = some ob ∧ ob.dict = none := fun b q => by
  cases q
  rcases g with ⟨kvs, k, e, _, _⟩ | ⟨kvs, k, b, e, _, _, _⟩
  · obtain ⟨_, _, vs, _, ob, _, _, h1, h2, _⟩ := dk_rd I.hok e
    exact ⟨ob, h1, h2.2.1⟩
  · obtain ⟨_, _, xs, _, ob, _, _, h1, h2, _⟩ := dt_rd I.hok e
    exact ⟨ob, h1, h2.2.1⟩

/-- d[y] -/
def tDGet (td ty : TE) : TE := fun σ H Q => td σ H fun x H1 => ty σ H1 fun y H2 => ∃ a v, x = .ref a ∧ DGet H2 a y (some v) ∧ Q v H2
/-- y in d, y not in d -/
def tDIn (ty td : TE) : TE := fun σ H Q => ty σ H fun y H1 => td σ H1 fun x H2 => ∃ a o, x = .ref a ∧ DGet H2 a y o ∧ Q (.bl o.isSome) H2
def tDNotIn (ty td : TE) : TE := fun σ H Q => ty σ H fun y H1 => td σ H1 fun x H2 => ∃ a o, x = .ref a ∧ DGet H2 a y o ∧ Q (.bl (!o.isSome)) H2
/-- d[y] = v -/
def sDPut (td ty tv : TE) : TS := fun D σ H => tv σ H fun v H1 => td σ H1 fun x H2 => ty σ H2 fun y H3 => ∃ a H4, x = .ref a ∧ DPut H3 a y v H4 ∧ D.nx σ H4
/-- d[y] op= v -/
def sDAug (td ty tv : TE) (rd : V → V → Hp → VK → Prop) : TS := fun D σ H => td σ H fun x H1 => ty σ H1 fun y H2 => ∃ a v, x = .ref a ∧ DGet H2 a y (some v) ∧
  tv σ H2 fun y2 H3 => rd v y2 H3 fun z H4 => ∃ H5, DPut H4 a y z H5 ∧ D.nx σ H5
/-- del d[y] -/
def sDDel (td ty : TE) : TS := fun D σ H => td σ H fun x H1 => ty σ H1 fun y H2 => ∃ a kvs k, x = .ref a ∧ H2 a = some (.dK kvs) ∧ y = kV k ∧ (valV kvs k).isSome = true ∧ D.nx σ (upd H2 a (.dK (dropK kvs k)))

section
variable {X : Cx} {o i e value : Expr} {pos pos' tpos : Pos} {td ty tv : TE}
theorem pe_dget (hu : X.A.units + 1 < cLine) (ho : PE X o td) (hi : PE X i ty) (hs : NoSl i) : PE X (.Subscript o i pos) (tDGet td ty) := by
  intro pins s σ H Q I h
  refine subD_of PySem.F.slot_dict_getitem.lookup hs (thn (ho pins s σ H _ I h) fun u s1 ⟨x, H1, I1, rx, q1⟩ => thn (hi pins s1 σ H1 _ I1 q1) fun iv s2 ⟨y, H2, I2, ry, a, v, ex, g, q2⟩ => ?_)
  subst ex
  obtain rfl : u = Value.ref a := rx
  exact ⟨dict_typeIs I2 g, d_getItem hu I2 g ry fun w' s3 I3 rw' => ⟨v, H2, I3, rw', q2⟩⟩
theorem pc_din (hu : X.A.units + 1 < cLine) (hi : PE X i ty) (ho : PE X o td) : PC X .In i o (tDIn ty td) := by
  intro pins s σ H Q I h
  refine thn (hi pins s σ H _ I h) fun iv s1 ⟨y, H1, I1, ry, q1⟩ => thn (ho pins s1 σ H1 _ I1 q1) fun u s2 ⟨x, H2, I2, rx, a, ov, ex, g, q2⟩ => ?_
  subst ex
  obtain rfl : u = Value.ref a := rx
  exact d_in hu I2 g ry fun s3 I3 => ⟨.bl ov.isSome, H2, I3, rfl, q2⟩
theorem pc_dnotin (hu : X.A.units + 1 < cLine) (hi : PE X i ty) (ho : PE X o td) : PC X .NotIn i o (tDNotIn ty td) := by
  intro pins s σ H Q I h
  refine thn (hi pins s σ H _ I h) fun iv s1 ⟨y, H1, I1, ry, q1⟩ => thn (ho pins s1 σ H1 _ I1 q1) fun u s2 ⟨x, H2, I2, rx, a, ov, ex, g, q2⟩ => ?_
  subst ex
  obtain rfl : u = Value.ref a := rx
  exact d_notIn hu I2 g ry fun s3 I3 => ⟨.bl (!ov.isSome), H2, I3, rfl, q2⟩
theorem ps_dput (hu : X.A.units + 1 < cLine) (ho : PE X o td) (hi : PE X i ty) (hv : PE X value tv) (hs : swapsWith value (some (.Subscript o i pos')) pos.line X.env = pure false) :
    PS X (.Assign [.Subscript o i pos'] value pos) (sDPut td ty tv) := by
  intro pins s σ H D I h
  refine wpAny_Assign_Subscript (thn (hv pins s σ H _ I h) fun r s1 ⟨v, H1, I1, rv, q1⟩ => thn (ho pins s1 σ H1 _ I1 q1) fun u s2 ⟨x, H2, I2, rx, q2⟩ => thn (hi pins s2 σ H2 _ I2 q2) fun iv s3 ⟨y, H3, I3, ry, a, H4, ex, g, q3⟩ => ?_) hs
  subst ex
  obtain rfl : u = Value.ref a := rx
  exact d_setItem hu I3 g ry rv fun s4 I4 => ⟨σ, H4, I4, q3⟩
theorem ps_daug {op : Operator} {rd : V → V → Hp → VK → Prop} (hu : X.A.units + 1 < cLine) (ho : PE X o td) (hi : PE X i ty) (hv : PE X value tv) (hop : InOp X op rd)
    (ha : ∀ ov iv new, augStore i ov iv new = (do holding [new, ov, iv] (setItem ov iv new); release [new, ov, iv] []; pure .next)) : PS X (.AugAssign (.Subscript o i tpos) op value pos) (sDAug td ty tv rd) := by
  intro pins s σ H D I h
  refine wpAny_AugAssign_SubscriptAny (thn (ho pins s σ H _ I h) fun u s1 ⟨x, H1, I1, rx, q1⟩ => thn (hi pins s1 σ H1 _ I1 q1) fun iv s2 ⟨y, H2, I2, ry, a, v, ex, g, q2⟩ => ?_) ha
  subst ex
  obtain rfl : u = Value.ref a := rx
  refine d_getItem hu I2 g ry fun w' s3 I3 rw' => thn (hv pins s3 σ H2 _ I3 q2) fun w2 s4 ⟨y2, H3, I4, ry2, q3⟩ => thn (hop pins s4 σ H3 v y2 w' w2 _ I4 rw' ry2 q3) fun w3 s5 ⟨z, H4, I5, rz, H5, g5, q4⟩ => ?_
  exact d_setItem hu I5 g5 ry rz fun s6 I6 => ⟨σ, H5, I6, q4⟩
theorem ps_ddel (ho : PE X o td) (hi : PE X i ty) : PS X (.Delete [.Subscript o i tpos] pos) (sDDel td ty) := by
  intro pins s σ H D I h
  refine wpAny_Delete (wpAny_deleteEach_cons (wpAny_delete_Subscript (thn (ho pins s σ H _ I h) fun u s1 ⟨x, H1, I1, rx, q1⟩ => thn (hi pins s1 σ H1 _ I1 q1) fun iv s2 ⟨y, H2, I2, ry, a, kvs, k, ex, e, ey, l, q2⟩ => ?_)))
  subst ex ey
  obtain rfl : u = Value.ref a := rx
  exact d_delItem I2 e ry l fun s3 I3 => wpAny_deleteEach_nil ⟨σ, _, I3, q2⟩
end


/-! ### displays -/
theorem dk_empty {P : Program} {w : World} {H : Hp} (h : Heap) (hb : sysModules < h.objs.size) : ObjOk P w H (h.push { cls := .type "dict", data := .dict #[] }) h.objs.size (.dK []) :=
  ⟨Nat.zero_le _, beq_eq_false_iff_ne.mpr (Ne.symm (Nat.ne_of_lt hb)), [], .nil, Heap.DictOf.new h⟩
theorem dt_empty {P : Program} {w : World} {H : Hp} (h : Heap) (hb : sysModules < h.objs.size) : ObjOk P w H (h.push { cls := .type "dict", data := .dict #[] }) h.objs.size (.dT []) :=
  ⟨Nat.zero_le _, beq_eq_false_iff_ne.mpr (Ne.symm (Nat.ne_of_lt hb)), [], .nil, _, #[], 0, Heap.get?_push_size _ rfl, ⟨rfl, rfl, rfl⟩, rfl, rfl, List.nodup_nil⟩
/-- {}, to be a dict of the kind that is wanted -/
def tDNewK : TE := fun _ H Q => ∀ p, H p = none → Q (.ref p) (upd H p (.dK []))
def tDNewT : TE := fun _ H Q => ∀ p, H p = none → Q (.ref p) (upd H p (.dT []))
section
variable {X : Cx} {pos : Pos}
theorem pe_dnewK : PE X (.Dict [] [] pos) tDNewK := fun pins s σ H Q I h =>
  wpAny_Dict_empty ⟨.ref s.heap.objs.size, _, I.laid (a := s.heap.objs.size) (o := .dK []) (t' := s.toks) (fun _ _ q => Heap.get?_push_of_some _ q) (Nat.le_refl _) (dk_empty s.heap I.big), rfl, h _ (I.hok.fresh (Nat.le_refl _))⟩
theorem pe_dnewT : PE X (.Dict [] [] pos) tDNewT := fun pins s σ H Q I h =>
  wpAny_Dict_empty ⟨.ref s.heap.objs.size, _, I.laid (a := s.heap.objs.size) (o := .dT []) (t' := s.toks) (fun _ _ q => Heap.get?_push_of_some _ q) (Nat.le_refl _) (dt_empty s.heap I.big), rfl, h _ (I.hok.fresh (Nat.le_refl _))⟩
end

/-- the pairs of a display, from the left -/
def tPairs : List (TE × TE) → St → Hp → (List (V × V) → Hp → Prop) → Prop
  | [], _, H, Q => Q [] H
  | (tk, tv) :: r, σ, H, Q => tk σ H fun x H1 => tv σ H1 fun y H2 => tPairs r σ H2 fun ps H3 => Q ((x, y) :: ps) H3
abbrev VV : List (V × V) → List (Value × Value) → Prop := Paired fun p q => RelV p.1 q.1 ∧ RelV p.2 q.2
def PPs (X : Cx) (pos : Pos) (keys : List (Option Expr)) (values : List Expr) (trs : List (TE × TE)) : Prop :=
  ∀ (pins : List (Addr × Obj)) (s : Shared) (σ : St) (H : Hp) (Q : List (V × V) → Hp → Prop), Inv X pins σ H s → tPairs trs σ H Q →
    wpAny (model X.prog X.w) X.A (evalPairs (pairTrees keys values X.env pos)) (fun vs s' => ∃ ps H', Inv X pins σ H' s' ∧ VV ps vs ∧ Q ps H') X.xe s
theorem pps_nil {X : Cx} {pos : Pos} : PPs X pos [] [] [] := fun pins s σ H Q I h => pairTrees_nil_walk ⟨[], H, I, .nil, h⟩
theorem pps_cons {X : Cx} {pos : Pos} {k v : Expr} {ks : List (Option Expr)} {vs : List Expr} {tk tv : TE} {trs : List (TE × TE)} (hk : PE X k tk) (hv : PE X v tv) (hr : PPs X pos ks vs trs) :
    PPs X pos (some k :: ks) (v :: vs) ((tk, tv) :: trs) := fun pins s σ H Q I h =>
  pairTrees_cons_walk (thn (hk pins s σ H _ I h) fun u s1 ⟨x, H1, I1, rx, q1⟩ => thn (hv pins s1 σ H1 _ I1 q1) fun w2 s2 ⟨y, H2, I2, ry, q2⟩ =>
    thn (hr pins s2 σ H2 _ I2 q2) fun ws s3 ⟨ps, H3, I3, rel, q3⟩ => ⟨(x, y) :: ps, H3, I3, .cons ⟨rx, ry⟩ rel, q3⟩)

def mergeK (kvs more : List (Key × V)) : List (Key × V) := more.foldl (fun acc kv => putK acc kv.1 kv.2) kvs
theorem KV.merge : ∀ {more : List (Key × V)} {rs : List (Key × Value)} {kvs : List (Key × V)} {vs : List (Key × Value)}, KV more rs → KV kvs vs → KV (mergeK kvs more) (merged vs rs) := by
  intro more rs kvs vs r
  unfold KV at r
  induction r generalizing kvs vs with
  | nil => intro q; exact q
  | @cons p q ps qs h t ih =>
    intro r0
    have e : KV (putK kvs p.1 p.2) (stored vs q.1 q.2) := by
      have := r0.put p.1 h.2
      rw [← h.1]; exact this
    exact ih e
theorem length_mergeK : ∀ (more kvs : List (Key × V)), (mergeK kvs more).length ≤ kvs.length + more.length
  | [], kvs => by show kvs.length ≤ kvs.length + 0; omega
  | p :: r, kvs => by
    have h1 := length_mergeK r (putK kvs p.1 p.2)
    have h2 := length_putK kvs p.1 p.2
    show (mergeK (putK kvs p.1 p.2) r).length ≤ _
    rw [List.length_cons]; omega
theorem carries_of {P : Program} {w : World} : ∀ {kvs : List (Key × V)} {ws : List (Value × Value)}, VV (kvs.map fun kv => (kV kv.1, kv.2)) ws → ∃ rs, Carries (mixKind P w) ws rs ∧ KV kvs rs
  | [], _, r => by rw [List.map_nil] at r; cases r; exact ⟨[], True.intro, .nil⟩
  | p :: kvs, _, r => by
    rw [List.map_cons] at r
    cases r with
    | @cons a b as bs h t =>
      obtain ⟨rs, c, q⟩ := carries_of (P := P) (w := w) t
      obtain ⟨b1, b2⟩ := b
      exact ⟨(p.1, b2) :: rs, ⟨kV_is h.1, rfl, c⟩, .cons ⟨rfl, h.2⟩ q⟩
/-- {k: v, ..} with keys ints and texts; the new dict stands empty while the pairs are made -/
def tDisp (trs : List (TE × TE)) : TE := fun σ H Q => ∀ p, H p = none → tPairs trs σ (upd H p (.dK [])) fun ps H2 => H2 p = some (.dK []) ∧ ∃ kvs : List (Key × V), ps = kvs.map (fun kv => (kV kv.1, kv.2)) ∧ kvs.length ≤ 15 ∧ Q (.ref p) (upd H2 p (.dK (mergeK [] kvs)))
theorem pe_disp {X : Cx} {pos : Pos} {keys : List (Option Expr)} {values : List Expr} {trs : List (TE × TE)} (h : PPs X pos keys values trs) (hall : keys.all (·.isSome) = true) (hl : keys.length = values.length) (h0 : keys ≠ [])
    (h15 : keys.length ≤ 15) : PE X (.Dict keys values pos) (tDisp trs) := by
  intro pins s σ H Q I q
  have hn := I.hok.fresh (Nat.le_refl s.heap.objs.size)
  have I1 := I.laid (a := s.heap.objs.size) (o := .dK []) (h' := s.heap.push { cls := .type "dict", data := .dict #[] }) (t' := s.toks) (fun _ _ q => Heap.get?_push_of_some _ q) (Nat.le_refl _) (dk_empty s.heap I.big)
  refine wpAny_Dict_walk (knd := mixKind X.prog X.w) hall hl h0 h15 (thn (h pins _ σ _ _ I1 (q _ hn)) fun ws s2 ⟨ps, H2, I2, rel, e, kvs, ep, lk, q2⟩ => ?_)
  subst ep
  obtain ⟨rs, c, rk⟩ := carries_of (P := X.prog) (w := X.w) rel
  obtain ⟨z, hd, vs0, r0, dd⟩ := dk_of I2.hok e
  cases r0
  refine ⟨rs, c, dd, fun h' dd' hs => ⟨.ref s.heap.objs.size, _, ?_, rfl, q2⟩⟩
  have hz : (mergeK [] kvs).length ≤ sizeLine := by
    have h1 := length_mergeK kvs []
    rw [List.length_nil] at h1
    rw [sizeLine_eq]; omega
  have he : ∃ q, h'.get? s.heap.objs.size = some q := let ⟨q, _, _, hq, _⟩ := dd'; ⟨q, hq⟩
  exact d_write I2 (by rw [e]; exact True.intro) hs he (dk_new hz hd (rk.merge .nil) dd')


/-! ### methods -/
/-- a method call o.m(e) of a built-in, with one argument: what must be seen of the text -/
structure M1 (X : Cx) (o : Expr) (m : Str) (apos : Pos) (e : Expr) (cpos : Pos) : Prop where
  base : attributeBase o m X.env (eval o X.env) = eval o X.env
  few : ((backTo cpos (starEach [e] X.env)).all (fun x => !x.1) && (backToKw cpos (keywordEach [] X.env)).all (fun x => x.1.isSome)
    && decide (([e] : List Expr).length + ([] : List Keyword).length + (if ([] : List Keyword).isEmpty then 0 else 1) < 30)) = true
  line : (apos.endLine == cpos.line) = true
  trees : backTo cpos (starEach [e] X.env) = [(false, eval e X.env)]
structure M2 (X : Cx) (o : Expr) (m : Str) (apos : Pos) (e f : Expr) (cpos : Pos) : Prop where
  base : attributeBase o m X.env (eval o X.env) = eval o X.env
  few : ((backTo cpos (starEach [e, f] X.env)).all (fun x => !x.1) && (backToKw cpos (keywordEach [] X.env)).all (fun x => x.1.isSome)
    && decide (([e, f] : List Expr).length + ([] : List Keyword).length + (if ([] : List Keyword).isEmpty then 0 else 1) < 30)) = true
  line : (apos.endLine == cpos.line) = true
  trees : backTo cpos (starEach [e, f] X.env) = [(false, eval e X.env), (false, eval f X.env)]

/-- a is a dict, whatever its keys -/
def IsD (H : Hp) (a : Addr) : Prop := (∃ kvs, Rd H a (.dK kvs)) ∨ ∃ kvs, Rd H a (.dT kvs)
theorem isD_at {X : Cx} {pins : List (Addr × Obj)} {σ : St} {H : Hp} {s : Shared} {a : Addr} (I : Inv X pins σ H s) (d : IsD H a) :
    s.TypeIs (.ref a) "dict" ∧ (∀ b, Value.ref a = .ref b → ∃ ob, s.heap.get? b = some ob ∧ ob.dict = none) ∧ (a == sysModules) = false := by
  rcases d with ⟨kvs, e⟩ | ⟨kvs, e⟩
  · obtain ⟨_, hd, vs, _, dd⟩ := dk_rd I.hok e
    refine ⟨dd.typeIs, fun b q => ?_, hd⟩
    cases q
    obtain ⟨ob, _, _, h1, h2, _⟩ := dd
    exact ⟨ob, h1, h2.2.1⟩
  · obtain ⟨_, hd, xs, _, dd⟩ := dt_rd I.hok e
    refine ⟨dd.typeIs, fun b q => ?_, hd⟩
    cases q
    obtain ⟨ob, _, _, h1, h2, _⟩ := dd
    exact ⟨ob, h1, h2.2.1⟩

section
variable {X : Cx} {pins : List (Addr × Obj)} {σ : St} {H : Hp} {s : Shared} {a : Addr} {y d : V} {u r : Value} {o : Option V} {A : Around} {E : Value → Shared → Prop}
/-- d.get(y) -/
theorem d_get1 {Q : Value → Shared → Prop} (hu : A.units + 1 < cLine) (I : Inv X pins σ H s) (g : DGet H a y o) (ry : RelV y u) (h : ∀ w' s', Inv X pins σ H s' → RelV (o.getD .non) w' → Q w' s') :
    wpAny (model X.prog X.w) A (call (.builtin "dict.get") [.ref a, u]) Q E s := by
  rcases g with ⟨kvs, k, e, ey, l⟩ | ⟨kvs, k, b, e, ey, eb, l⟩
  · subst ey
    obtain ⟨z, hd, vs, rel, dd⟩ := dk_rd I.hok e
    refine call_meetsIn PySem.F.slot_dict_get dd.typeIs PySem.F.entry_dict_get (PySem.F.args_dict_get_2 _ _) (meets_dict_get (mixKind X.prog X.w) a (kV_is ry) hd) ⟨_, dd.mapOf, h _ _ (I.tok _) ?_⟩
    rw [l]
    exact (rel.val k).getD rfl
  · subst ey
    cases (show u = Value.ref b from ry)
    obtain ⟨z, hd, xs, rel, dd⟩ := dt_rd I.hok e
    refine call_meetsIn PySem.F.slot_dict_get dd.typeIs PySem.F.entry_dict_get (PySem.F.args_dict_get_2 _ _) (meetsH_dict_get (tupleKind (mixKind X.prog X.w)) a b hd) ⟨tupleKind_room_in1 hu, k, xs, key_of I.hok eb, dd, h _ _ (I.tok _) ?_⟩
    rw [l]
    exact (rel.val k).getD rfl
/-- d.get(y, x) -/
theorem d_get2 {Q : Value → Shared → Prop} (hu : A.units + 1 < cLine) (I : Inv X pins σ H s) (g : DGet H a y o) (ry : RelV y u) (rd : RelV d r) (h : ∀ w' s', Inv X pins σ H s' → RelV (o.getD d) w' → Q w' s') :
    wpAny (model X.prog X.w) A (call (.builtin "dict.get") [.ref a, u, r]) Q E s := by
  rcases g with ⟨kvs, k, e, ey, l⟩ | ⟨kvs, k, b, e, ey, eb, l⟩
  · subst ey
    obtain ⟨z, hd, vs, rel, dd⟩ := dk_rd I.hok e
    refine call_meetsIn PySem.F.slot_dict_get dd.typeIs PySem.F.entry_dict_get (PySem.F.args_dict_get_3 _ _ _) (meets_dict_get_default (mixKind X.prog X.w) a (kV_is ry) hd r) ⟨_, dd.mapOf, h _ _ (I.tok _) ?_⟩
    rw [l]
    exact (rel.val k).getD rd
  · subst ey
    cases (show u = Value.ref b from ry)
    obtain ⟨z, hd, xs, rel, dd⟩ := dt_rd I.hok e
    refine call_meetsIn PySem.F.slot_dict_get dd.typeIs PySem.F.entry_dict_get (PySem.F.args_dict_get_3 _ _ _) (meetsH_dict_get_default (tupleKind (mixKind X.prog X.w)) a b hd r) ⟨tupleKind_room_in1 hu, k, xs, key_of I.hok eb, dd, h _ _ (I.tok _) ?_⟩
    rw [l]
    exact (rel.val k).getD rd
end

def tDGet1 (td ty : TE) : TE := fun σ H Q => td σ H fun x H1 => ∃ a, x = .ref a ∧ IsD H1 a ∧ ty σ H1 fun y H2 => ∃ o, DGet H2 a y o ∧ Q (o.getD .non) H2
def tDGet2 (td ty tx : TE) : TE := fun σ H Q => td σ H fun x H1 => ∃ a, x = .ref a ∧ IsD H1 a ∧ ty σ H1 fun y H2 => tx σ H2 fun z H3 => ∃ o, DGet H3 a y o ∧ Q (o.getD z) H3
/-- d.pop(k): there; d.pop(k, x): there or not -/
def tDPop1 (td ty : TE) : TE := fun σ H Q => td σ H fun x H1 => ∃ a, x = .ref a ∧ IsD H1 a ∧ ty σ H1 fun y H2 => ∃ kvs k v, H2 a = some (.dK kvs) ∧ y = kV k ∧ valV kvs k = some v ∧ Q v (upd H2 a (.dK (dropK kvs k)))
def tDPop2 (td ty tx : TE) : TE := fun σ H Q => td σ H fun x H1 => ∃ a, x = .ref a ∧ IsD H1 a ∧ ty σ H1 fun y H2 => tx σ H2 fun z H3 => ∃ kvs k, H3 a = some (.dK kvs) ∧ y = kV k ∧
  (∀ v, valV kvs k = some v → Q v (upd H3 a (.dK (dropK kvs k)))) ∧ (valV kvs k = none → Q z H3)
section
variable {X : Cx} {o e f : Expr} {apos cpos : Pos} {td ty tx : TE}
theorem pe_dget1 (hu : X.A.units + 1 < cLine) (ho : PE X o td) (he : PE X e ty) (m : M1 X o "get" apos e cpos) : PE X (.Call (.Attribute o "get" apos) [e] [] cpos) (tDGet1 td ty) := by
  intro pins s σ H Q I h
  refine wpAny_Call_method m.base m.few m.line PySem.F.plainAttrs_dict PySem.F.slot_dict_get PySem.F.type_dict_get (thn (ho pins s σ H _ I h) fun u s1 ⟨x, H1, I1, rx, a, ex, d, q1⟩ => ?_)
  subst ex
  obtain rfl : u = Value.ref a := rx
  obtain ⟨t1, t2, _⟩ := isD_at I1 d
  refine ⟨t1, t2, ?_⟩
  rw [m.trees]
  refine Calls.callWith_builtin rfl (Calls.evalArgs_plain (Calls.spliced_cons (thn (he pins s1 σ H1 _ I1 q1) fun iv s2 ⟨y, H2, I2, ry, ov, g, q2⟩ => Calls.spliced_nil ?_)))
  exact d_get1 hu I2 g ry fun w' s3 I3 rw' => ⟨_, H2, I3, rw', q2⟩
theorem pe_dget2 (hu : X.A.units + 1 < cLine) (ho : PE X o td) (he : PE X e ty) (hf : PE X f tx) (m : M2 X o "get" apos e f cpos) : PE X (.Call (.Attribute o "get" apos) [e, f] [] cpos) (tDGet2 td ty tx) := by
  intro pins s σ H Q I h
  refine wpAny_Call_method m.base m.few m.line PySem.F.plainAttrs_dict PySem.F.slot_dict_get PySem.F.type_dict_get (thn (ho pins s σ H _ I h) fun u s1 ⟨x, H1, I1, rx, a, ex, d, q1⟩ => ?_)
  subst ex
  obtain rfl : u = Value.ref a := rx
  obtain ⟨t1, t2, _⟩ := isD_at I1 d
  refine ⟨t1, t2, ?_⟩
  rw [m.trees]
  refine Calls.callWith_builtin rfl (Calls.evalArgs_plain (Calls.spliced_cons (thn (he pins s1 σ H1 _ I1 q1) fun iv s2 ⟨y, H2, I2, ry, q2⟩ =>
    Calls.spliced_cons (thn (hf pins s2 σ H2 _ I2 q2) fun fv s3 ⟨z, H3, I3, rz, ov, g, q3⟩ => Calls.spliced_nil ?_))))
  exact d_get2 hu I3 g ry rz fun w' s4 I4 rw' => ⟨_, H3, I4, rw', q3⟩
theorem pe_dpop1 (ho : PE X o td) (he : PE X e ty) (m : M1 X o "pop" apos e cpos) : PE X (.Call (.Attribute o "pop" apos) [e] [] cpos) (tDPop1 td ty) := by
  intro pins s σ H Q I h
  refine wpAny_Call_method m.base m.few m.line PySem.F.plainAttrs_dict PySem.F.slot_dict_pop PySem.F.type_dict_pop (thn (ho pins s σ H _ I h) fun u s1 ⟨x, H1, I1, rx, a, ex, d, q1⟩ => ?_)
  subst ex
  obtain rfl : u = Value.ref a := rx
  obtain ⟨t1, t2, _⟩ := isD_at I1 d
  refine ⟨t1, t2, ?_⟩
  rw [m.trees]
  refine Calls.callWith_builtin rfl (Calls.evalArgs_plain (Calls.spliced_cons (thn (he pins s1 σ H1 _ I1 q1) fun iv s2 ⟨y, H2, I2, ry, kvs, k, v, ea, ey, l, q2⟩ => Calls.spliced_nil ?_)))
  subst ey
  exact d_pop I2 ea ry l (.inl rfl) fun w' s3 I3 rw' => ⟨v, _, I3, rw', q2⟩
theorem pe_dpop2 (ho : PE X o td) (he : PE X e ty) (hf : PE X f tx) (m : M2 X o "pop" apos e f cpos) : PE X (.Call (.Attribute o "pop" apos) [e, f] [] cpos) (tDPop2 td ty tx) := by
  intro pins s σ H Q I h
  refine wpAny_Call_method m.base m.few m.line PySem.F.plainAttrs_dict PySem.F.slot_dict_pop PySem.F.type_dict_pop (thn (ho pins s σ H _ I h) fun u s1 ⟨x, H1, I1, rx, a, ex, d, q1⟩ => ?_)
  subst ex
  obtain rfl : u = Value.ref a := rx
  obtain ⟨t1, t2, _⟩ := isD_at I1 d
  refine ⟨t1, t2, ?_⟩
  rw [m.trees]
  refine Calls.callWith_builtin rfl (Calls.evalArgs_plain (Calls.spliced_cons (thn (he pins s1 σ H1 _ I1 q1) fun iv s2 ⟨y, H2, I2, ry, q2⟩ =>
    Calls.spliced_cons (thn (hf pins s2 σ H2 _ I2 q2) fun fv s3 ⟨z, H3, I3, rz, kvs, k, ea, ey, q3, q4⟩ => Calls.spliced_nil ?_))))
  subst ey
  cases l : valV kvs k with
  | some v => exact d_pop I3 ea ry l (.inr ⟨fv, rfl⟩) fun w' s4 I4 rw' => ⟨v, _, I4, rw', q3 v l⟩
  | none => exact d_popD I3 ea ry l fun s4 I4 => ⟨z, H3, I4, rz, q4 l⟩
end

/-! ### dict(d): a copy -/
section
variable {X : Cx} {pins : List (Addr × Obj)} {σ : St} {H : Hp} {s : Shared} {a : Addr} {kvs : List (Key × V)} {A : Around} {E : Value → Shared → Prop}
theorem d_copyOf {Q : Value → Shared → Prop} (I : Inv X pins σ H s) (e : Rd H a (.dK kvs)) (h : ∀ p s', H p = none → Inv X pins σ (upd H p (.dK kvs)) s' → Q (.ref p) s') : wpAny (model X.prog X.w) A (call (.type "dict") [.ref a]) Q E s := by
  obtain ⟨z, hd, vs, rel, dd⟩ := dk_rd I.hok e
  refine kt_call_dict hd dd (by rw [← rel.length]; exact z) fun h' dd' hs => ?_
  refine h _ _ (I.hok.fresh (Nat.le_refl _)) (I.laid (a := s.heap.objs.size) (o := .dK kvs) (t' := s.toks) (fun b q hq => ?_) (Nat.le_refl _) (dk_new z (beq_eq_false_iff_ne.mpr (Ne.symm (Nat.ne_of_lt I.big))) rel dd'))
  exact (hs.2 b (Nat.ne_of_lt (Heap.lt_size hq))).trans (Heap.get?_push_of_some _ hq)
end


section
variable {X : Cx} {pins : List (Addr × Obj)} {σ : St} {H : Hp} {s : Shared} {a : Addr} {y : V} {u : Value} {A : Around} {E : Value → Shared → Prop}
/-- d[y], not there: a KeyError -/
theorem d_missing {Q : Value → Shared → Prop} (hu : A.units + 1 < cLine) (hh : A.handled = none) (I : Inv X pins σ H s) (g : DGet H a y none) (ry : RelV y u)
    (h : ∀ h' e t', Heap.NewExc s.heap h' e "KeyError" → E (.ref e) { s with heap := h', toks := t' }) : wpAny (model X.prog X.w) A (getItem (.ref a) u) Q E s := by
  rcases g with ⟨kvs, k, e, ey, l⟩ | ⟨kvs, k, b, e, ey, eb, l⟩
  · subst ey
    obtain ⟨z, hd, vs, rel, dd⟩ := dk_rd I.hok e
    have hn : valueAt vs k = none := RelO.none_of (by rw [l]; exact rel.val k)
    exact wpAny_getItem_missing_of (kV_is ry) hd hh dd.mapOf hn fun h' ex ne => h h' ex _ ne
  · subst ey
    cases (show u = Value.ref b from ry)
    obtain ⟨z, hd, xs, rel, dd⟩ := dt_rd I.hok e
    have hn : (atKey xs k).map (·.2) = none := RelO.none_of (by rw [l]; exact rel.val k)
    exact wpAny_getItem_missing_heap (tupleKind_room_in1 hu) (key_of I.hok eb) hd hh dd (Option.map_eq_none_iff.mp hn) fun h' ex ne => h h' ex _ ne
end
end L2

namespace L2
open PySem PySem.Spec PyProof.Rows
section
variable {X : Cx}
/-- len of a dict -/
theorem call_lenD : CallR X (.builtin "len") (fun xs H Q => ∃ a kvs, xs = [V.ref a] ∧ H a = some (.dK kvs) ∧ Q (.int kvs.length) H) := by
  intro pins s σ H xs us Q I r h
  obtain ⟨a, kvs, rfl, ha, q⟩ := h
  obtain ⟨u, rfl, ru⟩ := vals1 r
  cases ru
  exact d_len I (.inl ha) fun t s' I' => ⟨.int kvs.length, H, I', ⟨t, rfl⟩, q⟩
end
/-! ### a dict's pairs: keys that differ -/
section
variable {κ : Type} [DecidableEq κ]
theorem valV_not {kvs : List (κ × V)} {k : κ} (h : valV kvs k = none) : ¬ k ∈ kvs.map (·.1) := by
  intro m
  obtain ⟨p, hp, e⟩ := List.mem_map.mp m
  have q : (kvs.any fun kv => decide (kv.1 = k)) = true := List.any_eq_true.mpr ⟨p, hp, decide_eq_true e⟩
  rw [valV_any, h] at q
  exact absurd q (by simp)
theorem valV_in {kvs : List (κ × V)} {k : κ} {v : V} (h : valV kvs k = some v) : k ∈ kvs.map (·.1) := by
  have q : (kvs.any fun kv => decide (kv.1 = k)) = true := by
    rw [valV_any, h]
    all_goals rfl
  obtain ⟨p, hp, e⟩ := List.any_eq_true.mp q
  exact List.mem_map.mpr ⟨p, hp, of_decide_eq_true e⟩
theorem nd_snoc : ∀ {l : List κ} {k : κ}, l.Nodup → ¬ k ∈ l → (l ++ [k]).Nodup
  | [], k, _, _ => by simp
  | a :: r, k, h, hk => by
    obtain ⟨h1, h2⟩ := List.nodup_cons.mp h
    show (a :: (r ++ [k])).Nodup
    refine List.nodup_cons.mpr ⟨fun m => ?_, nd_snoc h2 fun m => hk (List.mem_cons.mpr (Or.inr m))⟩
    rcases List.mem_append.mp m with q | q
    · exact h1 q
    · exact hk (List.mem_cons.mpr (Or.inl (List.mem_singleton.mp q).symm))
theorem nd_putK {kvs : List (κ × V)} {k : κ} (v : V) (hn : (kvs.map (·.1)).Nodup) (h : valV kvs k = none) : ((putK kvs k v).map (·.1)).Nodup := by
  rw [putK_new v h, List.map_append]
  exact nd_snoc hn (valV_not h)
theorem dropK_pos {p : κ × V} {r : List (κ × V)} {k : κ} (e : p.1 = k) : dropK (p :: r) k = dropK r k := by
  unfold dropK
  rw [List.filter_cons, if_neg (by simp [e])]
theorem dropK_neg {p : κ × V} {r : List (κ × V)} {k : κ} (e : ¬ p.1 = k) : dropK (p :: r) k = p :: dropK r k := by
  unfold dropK
  rw [List.filter_cons, if_pos (by simp [e])]
theorem dropK_no : ∀ {kvs : List (κ × V)} {k : κ}, ¬ k ∈ kvs.map (·.1) → dropK kvs k = kvs
  | [], _, _ => rfl
  | p :: r, k, h => by
    have h' : ¬ k ∈ r.map (·.1) := fun m => by
      obtain ⟨q, hq, e⟩ := List.mem_map.mp m
      exact h (List.mem_map.mpr ⟨q, List.mem_cons.mpr (Or.inr hq), e⟩)
    rw [dropK_neg fun e => h (List.mem_map.mpr ⟨p, List.mem_cons.mpr (Or.inl rfl), e⟩), dropK_no h']
theorem dropK_mem {kvs : List (κ × V)} {k : κ} {p : κ × V} (h : p ∈ dropK kvs k) : p ∈ kvs := (List.mem_filter.mp h).1
theorem nd_dropK : ∀ {kvs : List (κ × V)} {k : κ}, (kvs.map (·.1)).Nodup → ((dropK kvs k).map (·.1)).Nodup
  | [], _, _ => List.nodup_nil
  | p :: r, k, h => by
    have h : (p.1 :: r.map (·.1)).Nodup := h
    obtain ⟨h1, h2⟩ := List.nodup_cons.mp h
    by_cases e : p.1 = k
    · rw [dropK_pos e]
      exact nd_dropK h2
    · rw [dropK_neg e]
      show (p.1 :: (dropK r k).map (·.1)).Nodup
      refine List.nodup_cons.mpr ⟨fun m => h1 ?_, nd_dropK h2⟩
      obtain ⟨q, hq, eq⟩ := List.mem_map.mp m
      exact List.mem_map.mpr ⟨q, dropK_mem hq, eq⟩
theorem dropK_len : ∀ {kvs : List (κ × V)} {k : κ}, (kvs.map (·.1)).Nodup → k ∈ kvs.map (·.1) → (dropK kvs k).length + 1 = kvs.length
  | [], _, _, m => by simp at m
  | p :: r, k, h, m => by
    have h : (p.1 :: r.map (·.1)).Nodup := h
    have m : k = p.1 ∨ k ∈ r.map (·.1) := List.mem_cons.mp m
    obtain ⟨h1, h2⟩ := List.nodup_cons.mp h
    by_cases e : p.1 = k
    · subst e
      rw [dropK_pos rfl, dropK_no h1]
      all_goals rfl
    · have m' : k ∈ r.map (·.1) := m.resolve_left fun z => e z.symm
      have q := dropK_len h2 m'
      rw [dropK_neg e, List.length_cons, List.length_cons]
      omega
end
end L2
set_option Elab.async false
set_option linter.all false
set_option maxRecDepth 100000
set_option maxHeartbeats 4000000
/-! EXCEPTIONS of own classes over the hand layer: raised, passed on by a def, caught by a try. -/
namespace L2
open PySem PySem.Spec PyProof.Rows

/-- a tracked thing has an object -/
theorem ObjOk.has {P : Program} {w : World} {H : Hp} {h : Heap} {a : Addr} {o : HO} (x : ObjOk P w H h a o) : ∃ ob, h.get? a = some ob := by
  cases o with
  | lst xs => obtain ⟨_, _, _, _, e⟩ := x; exact ⟨_, e⟩
  | tup xs => obtain ⟨_, _, _, ob, e, _⟩ := x; exact ⟨_, e⟩
  | dK kvs => obtain ⟨_, _, _, _, o, _, _, e, _⟩ := x; exact ⟨_, e⟩
  | dT kvs => obtain ⟨_, _, _, _, o, _, _, e, _⟩ := x; exact ⟨_, e⟩
  | set S n => obtain ⟨o, _, _, _, e, _⟩ := x; exact ⟨_, e⟩
  | ins C dx fs => obtain ⟨_, _, _, e, _⟩ := x; exact ⟨_, e⟩
  | own y => exact x
  | xd fs => obtain ⟨_, ⟨_, _, _, e, _⟩, _⟩ := x; exact ⟨_, e⟩
  | rng lo hi => obtain ⟨_, _, _, e⟩ := x; exact ⟨_, e⟩
  | frz ob u => obtain ⟨e, _⟩ := x; exact ⟨_, e⟩
  | tbl ps => exact ⟨_, (show h.get? a = some _ from x)⟩
  | met f y => exact ⟨_, (show h.get? a = some _ from x)⟩
  | ext φ => obtain ⟨_, e, _⟩ := x; exact e
theorem HOk.has {P : Program} {w : World} {H : Hp} {h : Heap} (x : HOk P w H h) {b : Addr} (n : H b ≠ none) : ∃ ob, h.get? b = some ob := by
  cases z : H b with
  | none => exact absurd z n
  | some u => exact (x b u z).has

/-- a flight, with what is asked of the flying thing -/
def FlD (B : Heap) (l : List Env) (e : Addr) (cls fl : Value) (h : Heap) : Prop :=
  B.StaysIn h ∧ B.get? e = none ∧ h.FunFrames B l ∧ ∃ oe vs T oT ts, h.get? e = some oe ∧ oe.cls = cls ∧ oe.dict = none ∧ oe.data = .fields vs ∧ vs[1]? = some (.ref T) ∧ B.get? T = none ∧ T ≠ e ∧ h.get? T = some oT ∧ oT.data = .fields ts ∧ ts[3]? = some fl
theorem dict_mapF (o : Obj) (f : Array Value → Array Value) : (o.mapFields f).dict = o.dict := by
  obtain ⟨c, d, dt, sl⟩ := o
  cases dt <;> rfl
section
variable {M : Model} {A : Around} {E : Value → Shared → Prop} {s : Shared} {B : Heap} {env : Env} {outer l : List Env} {L e : Addr} {cls fl : Value} {Q : Unit → Shared → Prop}
/-- the new entry of the trace -/
theorem fl_entry {oe : Obj} {vs : Array Value} {head : Value} {nx : Bool} (hfr : A.frames = some (env :: outer)) (hl : s.heap.FunFrames B (env :: outer)) (hf : env.frame = some L) (he : s.heap.get? e = some oe) (hB : B.StaysIn s.heap) (hn : B.get? e = none)
    (hd : oe.data = .fields vs) (hz : 1 < vs.size) (hdc : oe.dict = none) (k : ∀ h', FlD B (env :: outer) e oe.cls (rawInt L) h' → s.heap.UpToSlots h' → Q () { s with heap := h' }) :
    wpAny M A (do let a ← frameOf env; let pl ← entryPlaceOf L nx; let b ← EntryCells.newEntry head a .none (rawInt L) .none pl; setField (.ref e) 1 b) Q E s := by
  have ef : e ∉ (env :: outer).filterMap (·.frame) := fun hm => by
    obtain ⟨_, o, ho, q⟩ := hl.mem hm
    rw [he] at ho
    cases ho
    exact q vs hd
  refine wpAny_bind (wpAny_frameOf_fun hfr hl hf fun h1 g1 => wpAny_bind (wpAny_entryPlaceOf fun pl hpl => ?_))
  unfold EntryCells.newEntry newFields
  refine wpAny_bind (wpAny_newObj_type ?_ (hpl.sizeOk5 _ _ _ _ _))
  have e1 : h1.get? e = some oe := (g1.2.1 e ef).trans he
  have b1 : B.StaysIn h1 := fun b o z => (g1.2.1 b fun hm => by rw [(hl.mem hm).1] at z; cases z).trans (hB b o z)
  have ne : h1.objs.size ≠ e := Nat.ne_of_gt (Heap.lt_size e1)
  generalize hob : ({ cls := .type "traceback", dict := none, data := .fields ([head, .ref L, .none, rawInt L, .none] ++ (if pl.isEmpty then List.replicate 6 Value.none else pl)).toArray } : Obj) = ob
  have e2 : (h1.push ob).get? e = some oe := Heap.get?_push_of_some _ e1
  have t2 : (h1.push ob).get? h1.objs.size = some ob := Heap.get?_push_size h1 (by rw [← hob]; rfl)
  refine wpAny_setField e2 hd hz (k _ ?_ ?_)
  · have d3 := Obj.data_mapFields hd (·.setIfInBounds 1 (Value.ref h1.objs.size))
    have keep : ∀ b o, b ≠ e → h1.get? b = some o → ((h1.push ob).update e (Obj.mapFields (·.setIfInBounds 1 (Value.ref h1.objs.size)))).get? b = some o := fun b o q z => by
      rw [Heap.get?_update_other _ _ (Ne.symm q)]
      exact Heap.get?_push_of_some _ z
    refine ⟨fun b o z => keep b o (fun q => by rw [q, hn] at z; cases z) (b1 b o z), hn, hl.of_keeps fun b o z q => ?_, _, _, h1.objs.size, ob, _, Heap.get?_update_self _ e2 (Obj.isFreed_of_fields d3), Obj.cls_mapFields _ _, (dict_mapF _ _).trans hdc, d3, by simp [hz], b1.fresh, ne, ?_, by rw [← hob], ?_⟩
    · obtain ⟨sl, w⟩ := g1.2.2 b o z
      exact ⟨_, keep b _ (fun y => by rw [y, he] at z; cases z; exact q vs hd) w, rfl⟩
    · rw [Heap.get?_update_other _ _ (Ne.symm ne)]
      exact t2
    · first | (simp; done) | (rcases hpl with rfl | ⟨_, _, _, _, _, _, _, rfl⟩ <;> simp)
  · intro b o z q
    obtain ⟨sl, w⟩ := g1.2.2 b o z
    refine ⟨sl, ?_⟩
    rw [Heap.get?_update_other _ _ (fun y => by rw [← y, he] at z; cases z; exact q vs hd)]
    exact Heap.get?_push_of_some _ w
/-- the trace is not where anything else lies -/
theorem fl_notT {T : Addr} {oT : Obj} {ts : Array Value} {h : Heap} (hT : h.get? T = some oT) (hdT : oT.data = .fields ts) {b : Addr} {o : Obj} (hb : h.get? b = some o) (q : ∀ vs, o.data ≠ .fields vs) : b ≠ T := fun y => by
  rw [y, hT] at hb
  cases hb
  exact q ts hdT
theorem fl_note (hfr : A.frames = some (env :: outer)) (hf : env.frame = some L) (x : FlD B (env :: outer) e cls .none s.heap) (k : ∀ h', FlD B (env :: outer) e cls (rawInt L) h' → s.heap.UpToSlots h' → Q () { s with heap := h' }) :
    wpAny M A (noteFrame (.ref e) env) Q E s := by
  obtain ⟨hB, hn, hl, oe, vs, T, oT, ts, he, rfl, hdc, hd, h1, nT, Te, hT, dT, h3⟩ := x
  unfold noteFrame
  simp only [hf]
  refine wpAny_bind (wpAny_field he hd h1 ?_)
  rw [if_pos (show (Value.ref T != Value.none) = true from by simp)]
  refine wpAny_bind (wpAny_field hT dT h3 ?_)
  rw [if_neg (show ¬ ((Value.none == rawInt L) = true) from by simp [rawInt])]
  refine wpAny_bind (wpAny_setField hT dT (Array.getElem?_eq_some_iff.mp h3).1 ?_)
  have ot : ∀ b, b ≠ T → (s.heap.update T (Obj.mapFields (·.setIfInBounds 3 Value.none))).get? b = s.heap.get? b := fun b hb => Heap.get?_update_other _ _ (Ne.symm hb)
  refine fl_entry (s := { s with heap := s.heap.update T (Obj.mapFields (·.setIfInBounds 3 Value.none)) }) hfr (hl.of_keeps fun b o z q => ⟨o, (ot b (fl_notT hT dT z q)).trans z, rfl⟩) hf ((ot e (Ne.symm Te)).trans he)
    (fun b o z => (ot b fun y => by rw [y, nT] at z; cases z).trans (hB b o z)) hn hd (Array.getElem?_eq_some_iff.mp h1).1 hdc fun h' y1 y2 => k h' y1 fun b o z q => y2 b o ((ot b (fl_notT hT dT z q)).trans z) q
theorem fl_lands (x : FlD B l e cls fl s.heap) (k : ∀ h', FlD B l e cls .none h' → s.heap.UpToSlots h' → Q () { s with heap := h' }) : wpAny M A (setFlight (.ref e) none) Q E s := by
  obtain ⟨hB, hn, hl, oe, vs, T, oT, ts, he, hc, hdc, hd, h1, nT, Te, hT, dT, h3⟩ := x
  have z3 : 3 < ts.size := (Array.getElem?_eq_some_iff.mp h3).1
  have ot : ∀ b, b ≠ T → (s.heap.update T (Obj.mapFields (·.setIfInBounds 3 ((none : Option Addr).elim Value.none fun f => rawInt f)))).get? b = s.heap.get? b := fun b hb => Heap.get?_update_other _ _ (Ne.symm hb)
  unfold setFlight
  refine wpAny_bind (wpAny_field he hd h1 ?_)
  rw [if_pos (show (Value.ref T != Value.none) = true from by simp)]
  refine wpAny_setField hT dT z3 (k _ ⟨fun b o z => (ot b fun y => by rw [y, nT] at z; cases z).trans (hB b o z), hn, hl.of_keeps fun b o z q => ⟨o, (ot b (fl_notT hT dT z q)).trans z, rfl⟩, oe, vs, T, _, _, (ot e (Ne.symm Te)).trans he, hc, hdc, hd, h1, nT, Te, Heap.get?_update_self _ hT (Obj.isFreed_of_fields (Obj.data_mapFields dT _)), Obj.data_mapFields dT _, by simp [z3]⟩
    fun b o z q => ⟨o.slots, (ot b (fl_notT hT dT z q)).trans z⟩)
theorem FlD.tail (x : FlD B (env :: outer) e cls fl s.heap) : FlD B outer e cls fl s.heap := by
  obtain ⟨a, b, ⟨_, _, c⟩, d⟩ := x
  exact ⟨a, b, c, d⟩
theorem FlD.there {h : Heap} (x : FlD B l e cls fl h) : ∃ ob, h.get? e = some ob ∧ ob.cls = cls := by
  obtain ⟨_, _, _, oe, _, _, _, _, he, hc, _⟩ := x
  exact ⟨oe, he, hc⟩
theorem fl_leaves (hfr : A.frames = some (env :: outer)) (hf : env.frame = some L) (x : FlD B (env :: outer) e cls .none s.heap) (k : ∀ h', FlD B outer e cls .none h' → s.heap.UpToSlots h' → Q () { s with heap := h' }) : wpAny M A (leaving env (.ref e)) Q E s := by
  unfold leaving
  refine wpAny_bind (fl_note hfr hf x fun h1 x1 u1 => fl_lands (s := { s with heap := h1 }) x1 fun h2 x2 u2 => k h2 (FlD.tail (s := { s with heap := h2 }) x2) (u1.trans u2))
theorem fl_made {h : Heap} {args : List Value} (hfr : A.frames = some (env :: outer)) (hf : env.frame = some L) (hB : B.StaysIn h) (hl : h.FunFrames B (env :: outer)) (x : Heap.MadeExcOf h s.heap e cls args)
    (k : ∀ h', FlD B outer e cls .none h' → s.heap.UpToSlots h' → Q () { s with heap := h' }) : wpAny M A (leaving env (.ref e)) Q E s := by
  obtain ⟨t, he, htn, ht⟩ := x.there
  have en : B.get? e = none := by
    cases q : B.get? e with
    | none => rfl
    | some o => have z := hB e o q; rw [x.new] at z; cases z
  unfold leaving noteFrame
  simp only [hf]
  refine wpAny_bind (wpAny_bind (wpAny_field (x := Value.none) he rfl rfl ?_))
  rw [if_neg (show ¬ ((Value.none != Value.none) = true) by decide)]
  exact fl_entry hfr (hl.of_keeps fun b o z _ => ⟨o, x.keeps b o z, rfl⟩) hf he (fun b o z => x.keeps b o (hB b o z)) en rfl (show 1 < 6 by decide) rfl fun h1 x1 u1 => fl_lands (s := { s with heap := h1 }) x1 fun h2 x2 u2 => k h2 (FlD.tail (s := { s with heap := h2 }) x2) (u1.trans u2)
end
/-- the exception at ea, of the own class at C, flies; what stands in B is not touched by it -/
def Fly (B : Heap) (stk : List Env) (ea C : Addr) (h : Heap) : Prop := FlD B stk ea (.ref C) .none h
/-- how such an exception lies behind a call -/
def CXo (P : Program) (w : World) : CXT := fun outer H s E e s' =>
  ∃ (ea C : Addr) (H' : Hp) (B : Heap), e = .ref ea ∧ E (.ref C) none H' ∧ s'.os = s.os ∧ AllBare s'.gens ∧ Un (frs outer) [] H H' s.heap s'.heap ∧ HOk P w H' s'.heap ∧ Fly B outer ea C s'.heap ∧
    ∀ b o, (H' b ≠ none ∨ ∃ o', s.heap.get? b = some o') → b ∉ frs outer → s'.heap.get? b = some o → B.get? b = some o

theorem Un.left {fs stk : List Addr} {H₀ H : Hp} {h₀ h h' B : Heap} (u : Un fs [] H₀ H h₀ h) (hB : B.StaysIn h') (cov : ∀ b o, (H b ≠ none ∨ ∃ o', h₀.get? b = some o') → b ∉ stk → h.get? b = some o → B.get? b = some o)
    (hst : ∀ b o, h₀.get? b = some o → b ∈ stk → b ∈ fs) (sl : ∀ b ∈ fs, ∀ o, h.get? b = some o → ∃ sl, h'.get? b = some { o with slots := sl }) : Un fs [] H₀ H h₀ h' where
  keep := fun b o e n hb hx => hB b o (cov b o (.inr ⟨o, e⟩) (fun z => hb (hst b o e z)) (u.keep b o e n hb hx))
  slot := fun b o e n hb hx => by
    obtain ⟨s1, e1⟩ := u.slot b o e n hb hx
    obtain ⟨s2, e2⟩ := sl b hb _ e1
    exact ⟨s2, e2⟩
  free := u.free
  there := fun b o e hx => by
    obtain ⟨o', e'⟩ := u.there b o e hx
    by_cases hb : b ∈ stk
    · obtain ⟨s2, e2⟩ := sl b (hst b o e hb) _ e'
      exact ⟨_, e2⟩
    · exact ⟨o', hB b o' (cov b o' (.inr ⟨o, e⟩) hb e')⟩
  tups := u.tups
  frzs := u.frzs
  tbls := u.tbls
theorem HOk.left {P : Program} {w : World} {H : Hp} {h h' B : Heap} (ok : HOk P w H h) (hB : B.StaysIn h') (cov : ∀ b o, H b ≠ none → h.get? b = some o → B.get? b = some o) : HOk P w H h' := fun a o e =>
  (ok a o e).stay (fun b u hb q => hB b u (cov b u (by
    rcases hb with z | z
    · rw [z, e]; simp
    · rw [z]; simp) q)) (fun _ q => q) (fun _ _ q => q)

section
variable {X : Cx} {pins : List (Addr × Obj)} {σ : St} {H : Hp} {s : Shared} {E E' : XK}
theorem Inv.oldfs (I : Inv X pins σ H s) : ∀ b o, X.s₀.heap.get? b = some o → b ∈ frs X.stack → b ∈ X.fs := fun b o e hb => by
  rcases List.mem_cons.mp (I.stkSub b hb) with z | z
  · exact absurd (Nat.lt_of_lt_of_le (Heap.lt_size e) I.ok.above) (by rw [z]; exact Nat.lt_irrefl _)
  · exact z
theorem Inv.ntr (I : Inv X pins σ H s) : ∀ b, H b ≠ none → b ∉ frs X.stack := fun b hn z => hn (I.stkFree b z)
theorem Inv.slotsOf (I : Inv X pins σ H s) {h' : Heap} (sm : s.heap.UpToSlots h') : ∀ b ∈ X.fs, ∀ o, s.heap.get? b = some o → ∃ sl, h'.get? b = some { o with slots := sl } := fun b hb o e => by
  obtain ⟨_, o', ho', hd⟩ := I.funs.mem hb
  rw [e] at ho'
  cases ho'
  exact sm b o e hd

/-- a def's body from which exceptions leave by the wish E -/
structure BodyX (X : Cx) (E : XK) : Prop where
  stk : X.stack = X.env :: X.outer
  fr : X.env.frame = some X.env.locals
  ex : X.ex = []
  xe : X.xe = fun e s' => wpAny (model X.prog X.w) X.A (leaving X.env e) (fun _ s'' => CXo X.prog X.w X.outer X.H₀ X.s₀ E e s'') (fun e' s'' => CXo X.prog X.w X.outer X.H₀ X.s₀ E e' s'') s'
theorem body_cx {P : Program} {w : World} {K : PySem.W.Frag} {mg : Str → Option Value} {base : Heap} {N : List Str} {qual : Str} {scope : Scope} {f : Addr} {cd : Value} {A : Around} {outer : List Env} :
    BodyX (cxOf (CXo P w) P w K mg base N qual scope f cd A outer s H E) E := ⟨rfl, rfl, rfl, rfl⟩

theorem BodyX.raises (hb : BodyX X E) (I : Inv X pins σ H s) {h' : Heap} {e C : Addr} {vs : List Value} (hx : Heap.MadeExcOf s.heap h' e (.ref C) vs) (q : E (.ref C) none H) : X.xe (.ref e) { s with heap := h' } := by
  rw [hb.xe]
  have hfr : X.A.frames = some (X.env :: X.outer) := by rw [I.ok.frames, hb.stk]
  have hin : ∀ env ∈ X.stack, ∀ a, env.frame = some a → a ∈ frs X.stack := fun env he a ha => List.mem_filterMap.mpr ⟨env, he, ha⟩
  have fl : s.heap.FunFrames (PySem.W.hideAll s.heap (frs X.stack)) (X.env :: X.outer) := by
    have z := PySem.W.funFrames_hide I.stack hin
    rw [hb.stk] at z ⊢
    exact z
  have ub : Un X.fs [] X.H₀ H X.s₀.heap s.heap := by
    have z := I.base
    rw [hb.ex] at z
    exact z
  have keepB : ∀ b o, b ∉ frs X.stack → s.heap.get? b = some o → (PySem.W.hideAll s.heap (frs X.stack)).get? b = some o := fun b o n e => PySem.W.hideAll_get _ e n
  refine fl_made (B := PySem.W.hideAll s.heap (frs X.stack)) (h := s.heap) hfr hb.fr (fun b o z => PySem.W.of_hideAll _ z) fl hx fun h'' x1 x4 => ?_
  have sm : s.heap.UpToSlots h'' := (Heap.UpToSlots.of_keeps hx.keeps).trans x4
  refine ⟨e, C, H, _, rfl, q, I.os, I.bare, ub.left (stk := frs X.stack) x1.1 (fun b o _ n e => keepB b o n e) I.oldfs (I.slotsOf sm), I.hok.left x1.1 (fun b o n e => keepB b o (I.ntr b n) e), x1, ?_⟩
  intro b o c n e1
  have nb : b ∉ frs X.stack := by
    rcases c with c | ⟨o', c⟩
    · exact I.ntr b c
    · exact fun z => n (I.oldfs b o' c z)
  obtain ⟨o1, e2⟩ : ∃ o1, s.heap.get? b = some o1 := by
    rcases c with c | ⟨o', c⟩
    · exact I.hok.has c
    · exact ub.there b o' c (by simp)
  have e3 : h''.get? b = some o1 := x1.1 b o1 (keepB b o1 nb e2)
  have e4 : h''.get? b = some o := e1
  rw [e3] at e4
  cases e4
  exact keepB b _ nb e2

theorem BodyX.passes (hb : BodyX X E) (hE : ∀ c d H, E' c d H → E c d H) : Passes (CXo X.prog X.w) X E' := fun pins σ H s e s' I h => by
  obtain ⟨ea, C, H', B, rfl, q, os, bare, un, hok, fl, cov⟩ := h
  have J : Inv X pins σ H' s' := I.call' (ch := []) os un hok bare (fun b z => absurd z (by simp))
  rw [hb.xe]
  have hfr : X.A.frames = some (X.env :: X.outer) := by rw [I.ok.frames, hb.stk]
  have ub : Un X.fs [] X.H₀ H' X.s₀.heap s'.heap := by
    have z := J.base
    rw [hb.ex] at z
    exact z
  have ui : Un X.fs [] X.H₀ H X.s₀.heap s.heap := by
    have z := I.base
    rw [hb.ex] at z
    exact z
  have cov1 : ∀ b o, (H' b ≠ none ∨ ∃ o', X.s₀.heap.get? b = some o') → b ∉ frs X.stack → s'.heap.get? b = some o → B.get? b = some o := fun b o c n e =>
    cov b o (c.imp_right fun ⟨o', z⟩ => ui.there b o' z (by simp)) n e
  have fl' : FlD B (X.env :: X.outer) ea (.ref C) .none s'.heap := by
    rw [← hb.stk]
    exact fl
  refine fl_leaves hfr hb.fr fl' fun h'' x1 x2 => ?_
  refine ⟨ea, C, H', B, rfl, hE _ _ _ q, J.os, J.bare, ub.left (stk := frs X.stack) x1.1 cov1 J.oldfs (J.slotsOf x2), J.hok.left x1.1 (fun b o n e => cov1 b o (.inl n) (J.ntr b n) e), x1, ?_⟩
  intro b o c n e1
  have nb : b ∉ frs X.stack := by
    rcases c with c | ⟨o', c⟩
    · exact J.ntr b c
    · exact fun z => n (J.oldfs b o' c z)
  obtain ⟨o1, e2⟩ : ∃ o1, s'.heap.get? b = some o1 := by
    rcases c with c | ⟨o', c⟩
    · exact J.hok.has c
    · exact ub.there b o' c (by simp)
  have e3 : h''.get? b = some o1 := x1.1 b o1 (cov1 b o1 c nb e2)
  have e4 : h''.get? b = some o := e1
  rw [e3] at e4
  cases e4
  exact cov1 b _ c nb e2
end

/-! ### raise C(..) -/
section
variable {X : Cx} {E : XK} {x : Str} {C : Addr} {np cpos pos : Pos} {e₀ : Expr} {rest : List Expr} {ta : TA} {K : PySem.W.Frag} {h : Heap}
theorem exc_obj {bmB : List Value} {newId : String} (X : K.In h) (q : PySem.W.excIn K C bmB newId = true) :
    ∃ bm N nm q bs hdct sn sub ab col dd k0 k1 k2 k3 k5 mN, h.get? C = some (excClassObj nm q C N bs bm hdct sn sub ab col dd k0 k1 k2 k3 k5 newId) ∧ h.Ns N mN ∧ mN "__init__" = none ∧ OwnTail h bmB bm := by
  unfold PySem.W.excIn at q
  split at q
  · rename_i dd cd sl ho
    split at q
    · rename_i C' bm k0 k1 k2 k3 n k5 hm hs
      simp only [Bool.and_eq_true, beq_iff_eq, Bool.not_eq_true'] at q
      obtain ⟨⟨⟨⟨⟨rfl, rfl⟩, hdel⟩, ht⟩, hok⟩, hni⟩ := q
      obtain ⟨nm, bs, mro, ns, qn, hd, sn, sub, ab, col, del⟩ := cd
      dsimp only at hm hdel hok hni
      subst hm hdel
      have e : sl = #[k0, k1, k2, k3, some (.builtin n), k5] := by
        obtain ⟨l⟩ := sl
        have hs' : l = [k0, k1, k2, k3, some (.builtin n), k5] := hs
        rw [hs']
      subst e
      exact ⟨bm, ns, nm, qn, bs, hd, sn, sub, ab, col, dd, k0, k1, k2, k3, k5, _, X _ _ ho, .of_isNs (PySem.W.isNs_of_in X hok), PySem.W.nsMap_none_of_in X hok hni, PySem.W.tail_of_in X ht⟩
    · cases q
  · cases q
def vErr : List Value := [.type "ValueError", .type "Exception", .type "BaseException", .type "object"]
def tRaise (C : Addr) (E : XK) (ta : TA) : TS := fun _ σ H => ta σ H fun vs H1 => vs.length ≤ sizeLine ∧ E (.ref C) none H1
theorem ps_raise (hb : BodyX X E) (hc : X.calm = true) (hg : Gl X x) (hm : X.mg x = some (.ref C)) (hx : PySem.W.excIn X.K C vErr "ValueError.__new__" = true) (ha : PA X (e₀ :: rest) ta)
    (hd : (x == ("__debug__" : Str)) = false := by decide) (he : starEach (e₀ :: rest) X.env = (false, eval e₀ X.env) :: starEach rest X.env := by rfl) (hpl : (backTo cpos (starEach rest X.env)).any (·.1) = false := by rfl) :
    PS X (.Raise (some (.Call (.Name x np) (e₀ :: rest) [] cpos)) none pos) (tRaise C E ta) := by
  intro pins s σ H D I h
  obtain ⟨bm, N, nm, q, bs, hdct, sn, sub, ab, col, dd, k0, k1, k2, k3, k5, mN, hC, hN, hni, T⟩ := exc_obj I.ok.mod.kin hx
  have base : vErr.contains (.type "BaseException") = true := F.excBase_ValueError.hasBase
  refine wpAny_Raise_call_subT (C := C) (nm := nm) (q := q) (N := N) (bs := bs) (bm := bm) (hdct := hdct) (sn := sn) (sub := sub) (ab := ab) (col := col) (dd := dd) (k0 := k0) (k1 := k1) (k2 := k2) (k3 := k3) (k5 := k5)
    F.excBase_ValueError (mN := mN) (T.hasType base) (I.ok.hd hc) (by rw [he]; show (false || (backTo cpos (starEach rest X.env)).any (·.1)) = false; rw [hpl]; rfl) hni (ld_glob I hg hm ⟨rfl, ?_⟩ hd)
  have h1 := ha cpos pins s σ H _ I h
  rw [he] at h1 ⊢
  refine Calls.evalArgs_plain (wpAny_mono h1 (fun us s2 z => ?_) fun _ _ y => y)
  obtain ⟨vs, H1, I1, r, hl, q1⟩ := z
  exact ⟨rfl, by rw [← r.length]; exact hl, I1.bk _ _ hC, hN.keeps I1.bk, T.keeps I1.bk, fun h' e hm => hb.raises I1 hm q1⟩
end

/-! ### try .. except -/
section
variable {X : Cx} {pins : List (Addr × Obj)} {σ : St} {H : Hp} {s : Shared} {T : Addr → St → Hp → Prop}
/-- what a flight must leave alone -/
def Tcov (X : Cx) (pins : List (Addr × Obj)) (H : Hp) (B h : Heap) : Prop :=
  ∀ b o, (H b ≠ none ∨ (b ∉ X.ex ∧ ∃ o', X.s₀.heap.get? b = some o') ∨ ∃ p ∈ X.pn ++ pins, p.1 = b) → b ∉ frs X.stack → h.get? b = some o → B.get? b = some o
def tryW (X : Cx) (pins : List (Addr × Obj)) (T : Addr → St → Hp → Prop) : Value → Shared → Prop := fun e s' =>
  ∃ ea C B σ H, e = .ref ea ∧ Inv X pins σ H s' ∧ Fly B X.stack ea C s'.heap ∧ Tcov X pins H B s'.heap ∧ T C σ H
/-- the context of a try's body -/
abbrev Cx.tr (X : Cx) (pins : List (Addr × Obj)) (T : Addr → St → Hp → Prop) : Cx := { X with xe := tryW X pins T, pn := X.pn ++ pins }
theorem Inv.tr (I : Inv X pins σ H s) (T : Addr → St → Hp → Prop) : Inv (X.tr pins T) [] σ H s :=
  ⟨⟨I.ok.mod, I.ok.kind, I.ok.glob, I.ok.blt, I.ok.above, I.ok.inj, I.ok.has, I.ok.cab, I.ok.hd, I.ok.frames, I.ok.stk, I.ok.exf, I.ok.bs, I.ok.bsz, I.ok.noex, I.ok.exfs, I.ok.funs, I.ok.frf⟩, I.os, I.bare, I.base, I.loc, I.cell, I.free, I.freeC,
    fun p hp => I.pin p (by simpa using hp), I.hok, I.len⟩
theorem Inv.untr {pins' : List (Addr × Obj)} (I : Inv (X.tr pins T) pins' σ H s) : Inv X pins σ H s :=
  ⟨⟨I.ok.mod, I.ok.kind, I.ok.glob, I.ok.blt, I.ok.above, I.ok.inj, I.ok.has, I.ok.cab, I.ok.hd, I.ok.frames, I.ok.stk, I.ok.exf, I.ok.bs, I.ok.bsz, I.ok.noex, I.ok.exfs, I.ok.funs, I.ok.frf⟩, I.os, I.bare, I.base, I.loc, I.cell, I.free, I.freeC,
    fun p hp => I.pin p (List.mem_append_left _ hp), I.hok, I.len⟩
theorem cell_sl {h h' : Heap} {c : Addr} {v : Option Value} (x : h.IsCell c v) (sm : h.UpToSlots h') : h'.IsCell c v := by
  obtain ⟨o, ho, hd⟩ := x
  obtain ⟨sl, e⟩ := sm c o ho (fun vs q => by rw [hd] at q; cases q)
  exact ⟨_, e, hd⟩
/-- behind the flight -/
theorem Inv.landed {B h' : Heap} (I : Inv X pins σ H s) (hB : B.StaysIn h') (cov : Tcov X pins H B s.heap) (sm : s.heap.UpToSlots h') : Inv X pins σ H { s with heap := h' } := by
  refine ⟨I.ok, I.os, I.bare, ⟨fun b o e n hb hx => ?_, fun b o e n hb hx => ?_, I.base.free, fun b o e hx => ?_, I.base.tups, I.base.frzs, I.base.tbls⟩, ?_, fun x c e => ?_, I.free, I.freeC, fun p hp => ?_, I.hok.left hB (fun b o n e => cov b o (.inl n) (I.ntr b n) e), I.len⟩
  · exact hB b o (cov b o (.inr (.inl ⟨hx, o, e⟩)) (fun z => hb (I.oldfs b o e z)) (I.base.keep b o e n hb hx))
  · obtain ⟨s1, e1⟩ := I.base.slot b o e n hb hx
    obtain ⟨s2, e2⟩ := I.slotsOf sm b hb _ e1
    exact ⟨s2, e2⟩
  · obtain ⟨o', e'⟩ := I.base.there b o e hx
    by_cases hb : b ∈ frs X.stack
    · obtain ⟨s2, e2⟩ := I.slotsOf sm b (I.oldfs b o e hb) _ e'
      exact ⟨_, e2⟩
    · exact ⟨o', hB b o' (cov b o' (.inr (.inl ⟨hx, o, e⟩)) hb e')⟩
  · obtain ⟨m, hn, hl⟩ := I.loc
    refine ⟨m, sm.ns hn, fun i x v e1 e2 e3 => ?_⟩
    obtain ⟨u, r, l⟩ := hl i x v e1 e2 e3
    refine ⟨u, r, ?_⟩
    rcases l with l | ⟨k, c, e, l⟩
    · exact .inl l
    · exact .inr ⟨k, c, e, cell_sl l sm⟩
  · obtain ⟨v, q⟩ := I.cell x c e
    exact ⟨v, cell_sl q sm⟩
  · obtain ⟨e, n, l, f, d⟩ := I.pin p hp
    exact ⟨hB _ _ (cov p.1 p.2 (.inr (.inr ⟨p, hp, rfl⟩)) (fun z => (List.mem_cons.mp (I.stkSub _ z)).elim l f) e), n, l, f, d⟩
theorem Tcov.land {B h' : Heap} (I : Inv X pins σ H s) (hB : B.StaysIn h') (cov : Tcov X pins H B s.heap) : Tcov X pins H B h' := fun b o c n e => by
  obtain ⟨o1, e1⟩ : ∃ o1, s.heap.get? b = some o1 := by
    rcases c with c | ⟨hx, o', c⟩ | ⟨p, hp, rfl⟩
    · exact I.hok.has c
    · exact I.base.there b o' c hx
    · exact ⟨_, (I.pin p hp).1⟩
  have e2 := hB b o1 (cov b o1 c n e1)
  rw [e] at e2
  cases e2
  exact cov b _ c n e1

/-- within an except suite: nothing may be raised -/
abbrev Cx.hdl (X : Cx) (ea : Addr) : Cx := { X with A := X.A.mark (some (.ref ea)), calm := false, xe := fun _ _ => False }
theorem Inv.hdl (I : Inv X pins σ H s) (ea : Addr) : Inv (X.hdl ea) pins σ H s :=
  ⟨⟨I.ok.mod, I.ok.kind, I.ok.glob, I.ok.blt, I.ok.above, I.ok.inj, I.ok.has, I.ok.cab, fun z => Bool.noConfusion z, I.ok.frames, I.ok.stk, I.ok.exf, I.ok.bs, I.ok.bsz, I.ok.noex, I.ok.exfs, I.ok.funs, I.ok.frf⟩, I.os, I.bare, I.base, I.loc, I.cell, I.free, I.freeC,
    I.pin, I.hok, I.len⟩
theorem Inv.unhdl {ea : Addr} (ok : X.Ok) (I : Inv (X.hdl ea) pins σ H s) : Inv X pins σ H s := ⟨ok, I.os, I.bare, I.base, I.loc, I.cell, I.free, I.freeC, I.pin, I.hok, I.len⟩
theorem SP.unhdl {ea : Addr} {D : Ends} {f : Flow} {s' : Shared} (ok : X.Ok) (h : SP (X.hdl ea) pins D f s') : SP X pins D f s' := by
  cases f with
  | next => obtain ⟨σ', H', I, q⟩ := h; exact ⟨σ', H', I.unhdl ok, q⟩
  | brk => obtain ⟨σ', H', I, q⟩ := h; exact ⟨σ', H', I.unhdl ok, q⟩
  | cont => obtain ⟨σ', H', I, q⟩ := h; exact ⟨σ', H', I.unhdl ok, q⟩
  | ret u => obtain ⟨v, σ', H', I, r, q⟩ := h; exact ⟨v, σ', H', I.unhdl ok, r, q⟩

/-- the handlers, by the exception's class -/
abbrev TH := Addr → TS
def PHs (X : Cx) (hs : List ExceptHandler) (th : TH) : Prop :=
  ∀ (pins : List (Addr × Obj)) (s : Shared) (σ : St) (H : Hp) (D : Ends) (ea C : Addr) (B : Heap), Inv X pins σ H s → Fly B X.stack ea C s.heap → Tcov X pins H B s.heap → th C D σ H →
    wpAny (model X.prog X.w) X.A (handleBy (.ref ea) X.env hs) (SP X pins D) X.xe s
def thNil : TH := fun _ _ _ _ => False
theorem phs_nil : PHs X [] thNil := fun _ _ _ _ _ _ _ _ _ _ _ h => h.elim
def thCons (K : PySem.W.Frag) (Ci : Addr) (t : TS) (th : TH) : TH := fun C D σ H =>
  (PySem.W.exmOne K (.ref C) (.ref Ci) = some true ∧ t D σ H) ∨ (PySem.W.exmOne K (.ref C) (.ref Ci) = some false ∧ th C D σ H)
theorem phs_cons {x : Str} {Ci : Addr} {np pos : Pos} {b₀ : Stmt} {suite : List Stmt} {rest : List ExceptHandler} {t : TS} {th : TH} (hg : Gl X x) (hm : X.mg x = some (.ref Ci)) (hsu : ∀ ea, PSs (X.hdl ea) (b₀ :: suite) t) (hr : PHs X rest th)
    (hd : (x == ("__debug__" : Str)) = false := by decide) : PHs X (.ExceptHandler (some (.Name x np)) none (b₀ :: suite) pos :: rest) (thCons X.K Ci t th) := by
  intro pins s σ H D ea C B I fl cov h
  refine wpAny_handleBy_cons (codeAny_handlers_test ?_) (by intro q; cases q)
  refine ld_glob (X := X.hdl ea) (I.hdl ea) hg hm ?_ hd
  obtain ⟨ob, hob, hc⟩ := fl.there
  have LT : PySem.W.Looks (model X.prog X.w) s.heap (typeOf (.ref ea)) (.ref C) := by
    rw [← hc]
    exact (PySem.W.Looks.ld hob).andThen .now
  rcases h with ⟨hx, q⟩ | ⟨hx, q⟩
  · refine (PySem.W.exm_one I.kIn LT hx).here ?_
    refine codeAny_handlers_suite (fl_lands fl fun h6 fl6 sm6 => ?_)
    have I6 := I.landed fl6.1 cov sm6
    exact wpAny_mono (hsu ea pins _ σ H D (I6.hdl ea) q) (fun f s2 z => SP.unhdl I.ok z) (fun _ _ z => False.elim z)
  · refine (PySem.W.exm_one I.kIn LT hx).here ?_
    exact hr pins s σ H D ea C B I fl cov q

def tTry (T : Addr → St → Hp → Prop) (tb : TS) (th : TH) : TS := fun D σ H => tb D σ H ∧ ∀ C σ' H', σ'.length = σ.length → T C σ' H' → th C D σ' H'
theorem ps_try {body : List Stmt} {h₀ : ExceptHandler} {hs : List ExceptHandler} {pos : Pos} {tb : TS} {th : TH} (T : Addr → St → Hp → Prop) (hb : ∀ pins, PSs (X.tr pins T) body tb) (hh : PHs X (h₀ :: hs) th)
    (hst : X.stack = X.env :: X.outer := by rfl) (hfr : X.env.frame = some X.env.locals := by rfl) : PS X (.Try body (h₀ :: hs) [] [] pos) (tTry T tb th) := by
  intro pins s σ H D I h
  obtain ⟨h1, h2⟩ := h
  refine wpAny_Try_except (wpAny_mono (hb pins [] s σ H D (I.tr T) h1) (fun f s1 q => ?_) (fun e s1 q => ?_))
  · cases f with
    | next => obtain ⟨σ', H', J, q⟩ := q; exact wpAny_execs_nil ⟨σ', H', J.untr, q⟩
    | ret v => obtain ⟨v, σ', H', J, r, q⟩ := q; exact ⟨v, σ', H', J.untr, r, q⟩
    | brk => obtain ⟨σ', H', J, q⟩ := q; exact ⟨σ', H', J.untr, q⟩
    | cont => obtain ⟨σ', H', J, q⟩ := q; exact ⟨σ', H', J.untr, q⟩
  · obtain ⟨ea, C, B, σ', H', rfl, J, fl, cov, t⟩ := q
    have fl1 : FlD B (X.env :: X.outer) ea (.ref C) .none s1.heap := by
      rw [← hst]
      exact fl
    refine fl_note (by rw [J.ok.frames, hst]) hfr fl1 fun h4 x4 s4 => ?_
    refine fl_lands x4 fun h5 fl5 s5 => ?_
    have J5 := J.landed fl5.1 cov (s4.trans s5)
    rw [← hst] at fl5
    exact hh pins _ σ' H' D ea C B J5 fl5 (Tcov.land J fl5.1 cov) (h2 C σ' H' (by rw [J.len, I.len]) t)

/-- a call whose exceptions the wish E takes, which may speak of the frame's values -/
def PassesS (CX : CXT) (X : Cx) (E : St → XK) : Prop := ∀ (pins : List (Addr × Obj)) (σ : St) (H : Hp) (s : Shared) (e : Value) (s' : Shared), Inv X pins σ H s → CX X.stack H s (E σ) e s' → X.xe e s'
def tryE (T : Addr → St → Hp → Prop) : St → XK := fun σ c _ H => ∃ C, c = .ref C ∧ T C σ H
theorem try_passes : PassesS (CXo X.prog X.w) (X.tr pins T) (tryE T) := fun pins' σ H s e s' I h => by
  obtain ⟨ea, C, H', B, rfl, ⟨C', hC, q⟩, os, bare, un, hok, fl, cov⟩ := h
  cases hC
  have J : Inv (X.tr pins T) pins' σ H' s' := I.call' (ch := []) os un hok bare (fun b z => absurd z (by simp))
  refine ⟨ea, C, B, σ, H', rfl, J.untr, fl, fun b o c n e => cov b o ?_ n e, q⟩
  rcases c with c | ⟨c1, o', c2⟩ | ⟨p, hp, rfl⟩
  · exact .inl c
  · exact .inr (I.base.there b o' c2 c1)
  · exact .inr ⟨_, (I.pin p (List.mem_append_left _ hp)).1⟩
def tCallS (sp : Sp) (E : St → XK) (t : TA) : TE := fun σ H Q => t σ H fun vs H1 => sp vs H1 Q (E σ)
variable {CX : CXT} {k : Nat} {f : Addr} {fd : FuncData} {ps : List Str} {sp : Sp} {E : St → XK} {x : Str} {p pos : Pos} {e : Expr} {es : List Expr} {t : TA}
theorem pe_callS (F : FnOk X.prog X.w X.K X.mg X.base CX k f fd ps sp) (hr : Room k X.A) (hg : Gl X x) (hm : X.mg x = some (.ref f)) (hk : PySem.W.keepIn X.K (.ref f) = true) (hb : Binds X.K fd ps []) (hx : PassesS CX X E) (ha : PA X (e :: es) t)
    (hdb : (x == ("__debug__" : Str)) = false := by decide) (he : starEach (e :: es) X.env = (false, eval e X.env) :: starEach es X.env := by rfl) (hpl : (backTo pos (starEach es X.env)).any (·.1) = false := by rfl) :
    PE X (.Call (.Name x p) (e :: es) [] pos) (tCallS sp E t) := by
  intro pins s σ H Q I h
  refine wpAny_Call_Name_kw (ld_glob I hg hm ?_ hdb)
  refine PySem.W.callWith_K (h₀ := X.base) I.ok.mod.kin hk (thn (ha pos pins s σ H _ I h) fun us s1 z => ?_) he hpl
  obtain ⟨vs, H1, I1, r, q⟩ := z
  refine ⟨I1.kIn, ?_⟩
  have hl : (us ++ []).length = ps.length := by
    rw [List.append_nil, ← r.length]
    exact F.len _ _ _ _ q
  have hb1 := hb s1 us I1.kIn hl
  rw [List.append_nil] at hb1
  refine wpAny_call (codeAny_mono (F.run X.A X.stack s1 H1 ⟨us, []⟩ us vs Q (E σ) hr I1.env0 hb1 r q) fun r s' hq => ?_)
  cases r with
  | error e => exact hx pins σ H1 s1 e s' I1 hq
  | ok fl =>
    cases fl with
    | ret u => exact I1.after hq
    | next => exact False.elim hq
    | brk => exact False.elim hq
    | cont => exact False.elim hq
end
/-- the rule for a def from which own exceptions may leave -/
theorem Fun.okX {P : Program} {w : World} {K : PySem.W.Frag} {mg : Str → Option Value} {base : Heap} {x qual : Str} {st : Stmt} {f : Addr} {fd : FuncData} {N ps : List Str} {k : Nat} {sp : Sp} (F : Fun K x qual st f fd) (S : FnScope N ps (defScope st)) (len : ∀ vs H Q E, sp vs H Q E → vs.length = ps.length)
    (hbody : ∀ (cdv : Value) (A : Around) (outer : List Env) (s : Shared) (H : Hp) (vs : List V) (Q : VK) (E : XK), Room k (A.deeper (envOfC qual (defScope st) s.heap.objs.size f cdv)) → sp vs H Q E →
      ∃ t, PSs (cxOf (CXo P w) P w K mg base N qual (defScope st) f cdv A outer s H E) (defBody st) t ∧ t { nx := fun _ H' => Q .non H', rt := Q } (start N vs) H) : FnOk P w K mg base (CXo P w) (k + 1) f fd ps sp := by
  obtain ⟨oc, od, kV, doc, pm, an, cdv, ct, osl, rfl, lk, hcd⟩ := F.ex
  exact fn_of lk hcd S len fun A outer s H vs Q E hr hsp => hbody cdv A outer s H vs Q E hr hsp
end L2
set_option Elab.async false
set_option linter.all false
set_option maxRecDepth 100000
set_option maxHeartbeats 4000000
/-! LIST COMPREHENSIONS over the hand layer: one clause, its tests, an element that may call. -/
namespace L2
open PySem PySem.Spec PyProof.Rows

/-- the turns of a comprehension, the step ahead of the store kept -/
theorem compLoop_any {prog : Program} {w : World} {A : Around} {R : Result → Shared → Prop} {s : Shared} {elt target iter : Expr} {ifs : List Expr} {scope : Scope} {pos : Pos} {it acc : Value} {env : Env} (J : Nat → Shared → Prop)
    (turn : ∀ n s, J n s → wpAny (model prog w) A (pyNext it) (fun r s1 => match r with
      | none => R (.ok .next) s1
      | some v => wpAny (model prog w) A (letOwnedTupleGo target it v) (fun _ s2 => wpAny (model prog w) A (assign target env v) (fun _ s3 =>
          wpAny (model prog w) A (forIn ifs true fun c r => if r = true then do let ok ← isTrue c env (eval c env); pure (ForInStep.yield ok) else pure (ForInStep.yield r)) (fun ok s4 =>
            if ok = true then wpAny (model prog w) A (eval elt env) (fun x s5 => wpAny (model prog w) A (call (.builtin "list.append") [acc, x]) (fun _ s6 => ∃ m, m < n ∧ J m s6) (fun _ _ => False) s5) (fun _ _ => False) s4
            else ∃ m, m < n ∧ J m s4) (fun _ _ => False) s3) (fun _ _ => False) s2) (fun _ _ => False) s1) (fun _ _ => False) s)
    (n : Nat) (h : J n s) : codeAny (model prog w) A (.compLoop (.ListComp elt [⟨target, iter, ifs, 0⟩] scope pos) 0 it acc env) R s := by
  refine codeAny_loop rfl J (fun n s hI => ?_) n h
  show wpAny _ A ((compTurn (.ListComp elt [⟨target, iter, ifs, 0⟩] scope pos) 0 it acc env).onRaise
    (fun x => do noteFrame x env; theTreesLotGoes x)) _ _ s
  refine wpAny_noted ?_
  rw [compTurn_list]
  refine wpAny_bind (wpAny_standAt (wpAny_bind (wpAny_mono (turn n s hI) (fun r s1 h1 => ?_) fun _ _ z => z.elim)))
  cases r with
  | none => exact wpAny_pure h1
  | some v =>
    refine wpAny_bind (wpAny_mono h1 (fun _ s2 h2 => ?_) fun _ _ z => z.elim)
    refine wpAny_bind (wpAny_mono h2 (fun _ s3 h3 => ?_) fun _ _ z => z.elim)
    refine wpAny_bind (wpAny_mono h3 (fun ok s4 h4 => ?_) fun _ _ z => z.elim)
    cases ok with
    | false => exact wpAny_pure ⟨rfl, h4⟩
    | true =>
      refine wpAny_bind (wpAny_bind (wpAny_mono h4 (fun x s5 h5 => ?_) fun _ _ z => z.elim))
      exact wpAny_bind (wpAny_mono h5 (fun _ s6 h6 => wpAny_pure (wpAny_pure ⟨rfl, h6⟩)) fun _ _ z => z.elim)

theorem rl_local {env : Env} : ∀ {names : List (Str × NameKind)} {x : Str},
    (names.map fun (n, k) => if (k == NameKind.free && env.scope.kind == .function && env.kindOf n == some .cell) then (n, NameKind.cell) else (n, k)).lookup x = some .local → names.lookup x = some .local
  | [], _, h => by simp at h
  | (n, k) :: r, x, h => by
    have ih := @rl_local env r x
    rw [List.map_cons] at h
    dsimp only at h
    by_cases hc : (k == NameKind.free && env.scope.kind == .function && env.kindOf n == some .cell) = true
    · rw [if_pos hc] at h
      cases hx : x == n with
      | true => simp [List.lookup_cons, hx] at h
      | false =>
        simp only [List.lookup_cons, hx] at h ⊢
        exact ih h
    · rw [if_neg hc] at h
      cases hx : x == n with
      | true =>
        simp only [List.lookup_cons, hx] at h ⊢
        exact h
      | false =>
        simp only [List.lookup_cons, hx] at h ⊢
        exact ih h
theorem rl_far {env : Env} : ∀ {names : List (Str × NameKind)} {x : Str},
    ((names.map fun (n, k) => if (k == NameKind.free && env.scope.kind == .function && env.kindOf n == some .cell) then (n, NameKind.cell) else (n, k)).lookup x = some .cell ∨
     (names.map fun (n, k) => if (k == NameKind.free && env.scope.kind == .function && env.kindOf n == some .cell) then (n, NameKind.cell) else (n, k)).lookup x = some .free) → names.lookup x = some .cell ∨ names.lookup x = some .free
  | [], _, h => by simp at h
  | (n, k) :: r, x, h => by
    have ih := @rl_far env r x
    rw [List.map_cons] at h
    dsimp only at h
    by_cases hc : (k == NameKind.free && env.scope.kind == .function && env.kindOf n == some .cell) = true
    · rw [if_pos hc] at h
      have hk : k = .free := by
        have z := (Bool.and_eq_true_iff.mp (Bool.and_eq_true_iff.mp hc).1).1
        exact eq_of_beq z
      cases hx : x == n with
      | true =>
        simp only [List.lookup_cons, hx]
        rw [hk]
        exact .inr rfl
      | false =>
        simp only [List.lookup_cons, hx] at h ⊢
        exact ih h
    · rw [if_neg hc] at h
      cases hx : x == n with
      | true =>
        simp only [List.lookup_cons, hx] at h ⊢
        exact h
      | false =>
        simp only [List.lookup_cons, hx] at h ⊢
        exact ih h

/-- the cells that a block takes from around -/
def clOf (env : Env) : List (Str × NameKind) → List (Str × Addr) → List (Str × Addr)
  | [], cs => cs
  | (n, k) :: r, cs => clOf env r (if k = .free then (match env.cells.lookup n with | some c => (n, c) :: cs | none => cs) else cs)
theorem clOf_for {env : Env} : ∀ (names : List (Str × NameKind)) (cs : List (Str × Addr)), (∀ y ∈ names, y.2 = .free → ∃ c, env.cells.lookup y.1 = some c) →
    (forIn names cs fun x r => (do
      if (x.2 == NameKind.free) = true then do
        let c ← cellOf env x.1
        pure (ForInStep.yield ((x.1, c) :: r))
      else pure (ForInStep.yield r) : Sem (ForInStep (List (Str × Addr))))) = (pure (clOf env names cs) : Sem (List (Str × Addr)))
  | [], cs, _ => rfl
  | (n, k) :: r, cs, h => by
    have ih := fun cs' => clOf_for r cs' (fun y hy => h y (List.mem_cons_of_mem _ hy))
    rw [List.forIn_cons]
    by_cases hk : k = .free
    · subst hk
      obtain ⟨c, hc⟩ := h _ List.mem_cons_self rfl
      have e1 : cellOf env n = pure c := by
        unfold cellOf
        rw [show env.cells.lookup n = some c from hc]
      have e2 : clOf env ((n, .free) :: r) cs = clOf env r ((n, c) :: cs) := by
        show clOf env r (if NameKind.free = .free then (match env.cells.lookup n with | some c => (n, c) :: cs | none => cs) else cs) = _
        rw [if_pos rfl, show env.cells.lookup n = some c from hc]
      rw [e2, ← ih]
      simp [e1]
    · have e2 : clOf env ((n, k) :: r) cs = clOf env r cs := by
        show clOf env r (if k = .free then _ else cs) = _
        rw [if_neg hk]
      rw [e2, ← ih]
      have e3 : (k == NameKind.free) = false := by
        cases k <;> first | rfl | exact absurd rfl hk
      simp [e3]
theorem clOf_sub {env : Env} : ∀ {names : List (Str × NameKind)} {cs : List (Str × Addr)} {n : Str} {c : Addr}, (∀ n c, cs.lookup n = some c → env.cells.lookup n = some c) → (clOf env names cs).lookup n = some c → env.cells.lookup n = some c
  | [], _, _, _, h, e => h _ _ e
  | (m, k) :: r, cs, n, c, h, e => by
    refine clOf_sub (names := r) (fun n' c' e' => ?_) e
    by_cases hk : k = .free
    · rw [if_pos hk] at e'
      cases hm : env.cells.lookup m with
      | none =>
        rw [hm] at e'
        exact h _ _ e'
      | some d =>
        rw [hm] at e'
        dsimp only at e'
        rw [List.lookup_cons] at e'
        split at e'
        · rename_i z
          rw [eq_of_beq z, hm]
          exact e'
        · exact h _ _ e'
    · rw [if_neg hk] at e'
      exact h _ _ e'
theorem clOf_more {env : Env} : ∀ (names : List (Str × NameKind)) (cs : List (Str × Addr)) (n : Str), (∃ c, cs.lookup n = some c) → ∃ c, (clOf env names cs).lookup n = some c
  | [], _, _, h => h
  | (m, k) :: r, cs, n, h => by
    refine clOf_more r _ n ?_
    by_cases hk : k = .free
    · rw [if_pos hk]
      cases hm : env.cells.lookup m with
      | none => exact h
      | some d =>
        dsimp only
        rw [List.lookup_cons]
        split
        · exact ⟨_, rfl⟩
        · exact h
    · rw [if_neg hk]
      exact h
theorem clOf_has {env : Env} : ∀ {names : List (Str × NameKind)} {cs : List (Str × Addr)} {n : Str}, (n, NameKind.free) ∈ names → (∃ c, env.cells.lookup n = some c) → ∃ c, (clOf env names cs).lookup n = some c
  | [], _, _, h, _ => by cases h
  | (m, k) :: r, cs, n, h, hc => by
    rcases List.mem_cons.mp h with e | e
    · obtain ⟨e1, e2⟩ := Prod.mk.inj e
      subst e1 e2
      obtain ⟨c, hc⟩ := hc
      refine clOf_more r _ n ⟨c, ?_⟩
      rw [if_pos rfl, hc]
      dsimp only
      rw [List.lookup_cons, beq_self_eq_true]
    · exact clOf_has (names := r) e hc
/-- what must be seen of a comprehension's block: its own names, those that it takes from the def around it, and which of the names around are seen within (NN: a name that the block hides stands there under another one) -/
structure CompOk (X : Cx) (scope : Scope) (NN : List Str) : Prop where
  nocell : ∀ y ∈ scope.names, y.2 ≠ .cell
  kind : scope.kind = .function
  names : ∀ y ∈ scope.names, y.2 = .local → scope.names.lookup y.1 = some .local
  far : ∀ y ∈ scope.names, y.2 = .free → X.env.kindOf y.1 = some .cell ∨ X.env.kindOf y.1 = some .free
  len : NN.length = X.N.length
  apart : ∀ (i : Nat) (n : Str), NN[i]? = some n → scope.names.lookup n ≠ some .local ∧ (X.N[i]? = some n ∨ scope.names.lookup n = none)
/-- no name is taken from around -/
theorem CompOk.closed {X : Cx} {scope : Scope} (hf : ∀ y ∈ scope.names, y.2 ≠ .free) (hc : ∀ y ∈ scope.names, y.2 ≠ .cell) (hk : scope.kind = .function) (hn : ∀ y ∈ scope.names, y.2 = .local → scope.names.lookup y.1 = some .local)
    (ha : ∀ n ∈ X.N, scope.names.lookup n ≠ some .local) : CompOk X scope X.N where
  nocell := hc
  kind := hk
  names := hn
  far := fun y hy e => absurd e (hf y hy)
  len := rfl
  apart := fun i n e => ⟨ha n (List.mem_of_getElem? e), .inl e⟩
/-- all is read off the two scopes -/
theorem CompOk.open {X : Cx} {scope : Scope} {NN N : List Str} {sc : Scope} (hN : X.N = N) (hsc : X.env.scope = sc) (hc : ∀ y ∈ scope.names, y.2 ≠ .cell) (hk : scope.kind = .function) (hn : ∀ y ∈ scope.names, y.2 = .local → scope.names.lookup y.1 = some .local)
    (hf : ∀ y ∈ scope.names, y.2 = .free → sc.names.lookup y.1 = some .cell) (hl : NN.length = N.length) (ha : ∀ p ∈ NN.zip N, scope.names.lookup p.1 ≠ some .local ∧ (p.2 = p.1 ∨ scope.names.lookup p.1 = none)) : CompOk X scope NN where
  nocell := hc
  kind := hk
  names := hn
  far := fun y hy e => .inl (by have z := hf y hy e; rw [← hsc] at z; exact z)
  len := by rw [hN]; exact hl
  apart := fun i n e => by
    have lt : i < N.length := by rw [← hl]; exact (List.getElem?_eq_some_iff.mp e).1
    have e2 : N[i]? = some N[i] := List.getElem?_eq_getElem lt
    have z := ha (n, N[i]) (List.mem_of_getElem? (i := i) (by rw [List.getElem?_zip_eq_some]; exact ⟨e, e2⟩))
    refine ⟨z.1, ?_⟩
    rcases z.2 with z | z
    · left
      rw [hN, e2]
      exact congrArg some z
    · exact .inr z

/-- the block's context: s₂, H₂ the state when the iterator has come, C its names' dict -/
abbrev cxC (X : Cx) (scope : Scope) (NL : List Str) (fp : List Addr) (s₂ : Shared) (H₂ : Hp) (C : Addr) : Cx :=
  { X with N := NL, s₀ := s₂, H₀ := H₂, env := compEnvC scope (clOf X.env scope.names []) C X.env, outer := X.stack, ex := fp, fn := fun _ => false, pn := [], xe := fun _ _ => False }

/-- the tests of a clause -/
def PTs (X : Cx) (ifs : List Expr) (t : TT) : Prop :=
  ∀ (pins : List (Addr × Obj)) (s : Shared) (σ : St) (H : Hp) (Q : Bool → Hp → Prop), Inv X pins σ H s → t σ H Q →
    wpAny (model X.prog X.w) X.A (forIn ifs true fun c r => if r = true then do let ok ← isTrue c X.env (eval c X.env); pure (ForInStep.yield ok) else pure (ForInStep.yield r)) (TP X pins σ Q) X.xe s
def tAll : TT := fun _ H Q => Q true H
theorem pts_nil {X : Cx} : PTs X [] tAll := fun pins s σ H Q I h => wpAny_tests_nil ⟨H, I, h⟩
theorem pts_one {X : Cx} {c : Expr} {t : TT} (h : PT X c t) : PTs X [c] t := fun pins s σ H Q I q => wpAny_tests_one (h pins s σ H Q I q)

def tComp (n : Nat) (wi : TI) (g : TG) (tc : TT) (te : TE) : TE := fun σ H Q => wi σ H fun J H1 => ∃ W : Nat → Nat → List V → Hp → Prop, (∃ m, W 0 m [] H1) ∧ ∀ i m ys H, W i m ys H → ys.length < sizeLine ∧
  ((J.stop i H ∧ ∀ p, H p = none → Q (.ref p) (upd H p (.lst ys))) ∨
   (J.go i H ∧ ∃ N : List V → Hp → Prop, (∀ ys' H', N ys' H' → ∃ m', m' < m ∧ W (i + 1) m' ys' H') ∧ ∀ x H', J.yld i H x H' → g x (List.replicate n none ++ σ) H' fun σ2 H2 => σ2.drop n = σ ∧ tc σ2 H2 fun b H3 =>
      if b = true then te σ2 H3 fun y H4 => N (ys ++ [y]) H4 else N ys H3))

section
variable {X : Cx}
theorem drop_get {σ σ2 : St} {n : Nat} (h : σ2.drop n = σ) (i : Nat) (v : V) (e : (List.replicate n none ++ σ)[i]? = some (some v)) : σ2[i]? = some (some v) := by
  by_cases hi : i < n
  · rw [List.getElem?_append_left (by simpa using hi), List.getElem?_replicate, if_pos hi] at e
    cases e
  · rw [List.getElem?_append_right (by simpa using hi), List.length_replicate] at e
    rw [← h, List.getElem?_drop] at e
    rw [show n + (i - n) = i by omega] at e
    exact e

theorem comp_gen {elt target iter : Expr} {ifs : List Expr} {scope : Scope} {NN : List Str} {pos pos' : Pos} {wi : TI} {g : TG} {tc : TT} {te : TE} {use : Option (Value → Sem Unit)} {Qv : Value → Shared → Prop} (own : List Str) (ok : CompOk X scope NN) (hc : X.calm = true) (hi : PI X target iter wi)
    (hg : ∀ fp s₂ H₂ C, PG (cxC X scope (own ++ NN) fp s₂ H₂ C) target g) (ht : ∀ fp s₂ H₂ C, PTs (cxC X scope (own ++ NN) fp s₂ H₂ C) ifs tc) (he : ∀ fp s₂ H₂ C, PE (cxC X scope (own ++ NN) fp s₂ H₂ C) elt te)
    (hs : ∀ x, foldedSetIterable iter X.env x = pure x) {pins : List (Addr × Obj)} {s : Shared} {σ : St} {H : Hp} {Q : VK} (I : Inv X pins σ H s) (h : tComp own.length wi g tc te σ H Q)
    (hfin : ∀ (s4 : Shared) (C D : Addr) (H' : Hp) (m : Str → Option Value), s4.heap.Ns C m → Inv X pins σ H' s4 → H' C = none → C ≠ X.env.locals → X.s₀.heap.objs.size ≤ C → (∀ x c, X.env.cells.lookup x = some c → c ≠ C) → (∀ p ∈ X.pn ++ pins, p.1 ≠ C) → Q (.ref D) H' →
      compPost (model X.prog X.w) X.A X.xe use Qv (.ref D) C (.ok .next) s4) :
    wpAny (model X.prog X.w) X.A (comprehension (.ListComp elt [⟨target, iter, ifs, 0⟩] scope pos) scope X.env pos' (newList []) false (eval iter X.env) use) Qv X.xe s := by
  have hfr : ∀ y ∈ scope.names, y.2 = .free → ∃ c, X.env.cells.lookup y.1 = some c := fun y hy e => I.ok.has _ (ok.far y hy e)
  have okclos : closureFor scope X.env = pure (clOf X.env scope.names []) := by
    unfold closureFor
    rw [← clOf_for scope.names [] hfr]
    simp
  have oksub : ∀ n c, (clOf X.env scope.names []).lookup n = some c → X.env.cells.lookup n = some c := fun n c e => clOf_sub (fun n c e => by simp at e) e
  have okfar : ∀ n, (scope.names.lookup n = some .cell ∨ scope.names.lookup n = some .free) → (∃ c, (clOf X.env scope.names []).lookup n = some c) ∧ (X.env.kindOf n = some .cell ∨ X.env.kindOf n = some .free) := fun n e => by
    rcases e with e | e
    · exact absurd rfl (ok.nocell _ (PySem.mem_of_lookup e))
    · have m := PySem.mem_of_lookup e
      exact ⟨clOf_has m (hfr _ m rfl), ok.far _ m rfl⟩
  refine wpAny_comprehension_free (use := use) rfl hs okclos ok.kind ok.names (thn (hi pins s σ H _ I h) fun xv s1 h1 => thn h1 fun itv s2 h2 => ?_)
  obtain ⟨it, fp, tn, J, H2, e, I2, T, st2, f2, W, ⟨m0, w0⟩, turn⟩ := h2
  subst e
  have fpLt : ∀ b ∈ fp, b < s2.heap.objs.size := fun b hb => by
    obtain ⟨o, e, _⟩ := T.obj _ _ st2 b hb
    exact Heap.lt_size e
  refine wpAny_newObj_type (wpAny_newFunctionEnv ok.nocell (by intro y hy; simp at hy) (fun h1 hns hsb => ?_) ok.kind)
  dsimp only at hns hsb ⊢
  generalize hP : s2.heap.push { cls := .type "list", dict := none, data := .seq ([] : List Value).toArray } = P at hns hsb ⊢
  have hC : P.objs.size = s2.heap.objs.size + 1 := by rw [← hP, Heap.size_push]
  have hDC : s2.heap.objs.size ≠ P.objs.size := by rw [hC]; exact Nat.ne_of_lt (Nat.lt_succ_self _)
  have leC : s2.heap.objs.size ≤ P.objs.size := by rw [hC]; exact Nat.le_succ _
  have old : ∀ b o, s2.heap.get? b = some o → h1.get? b = some o := fun b o e =>
    hsb.extBut b o (by rw [hC]; exact Nat.ne_of_lt (Nat.lt_succ_of_lt (Heap.lt_size e))) (Heap.get?_push_of_some _ (hP ▸ Heap.get?_push_of_some _ e))
  have accAt : h1.get? s2.heap.objs.size = some { cls := .type "list", data := .seq ([] : List Value).toArray 0 } := hsb.extBut _ _ hDC (Heap.get?_push_of_some _ (hP ▸ Heap.get?_push_size _ rfl))
  -- the block's context is well made
  have okC : (cxC X scope (own ++ NN) fp s2 H2 P.objs.size).Ok := by
    refine ⟨I.ok.mod, ok.kind, I.ok.glob, I.ok.blt, by show s2.heap.objs.size ≤ P.objs.size; omega, fun y z c a b => I.ok.inj y z c (oksub _ _ a) (oksub _ _ b), fun y hy => (okfar y (rl_far hy)).1, fun y c z _ => Bool.noConfusion z, I.ok.hd, I.ok.frames, .inl rfl,
      fun b hb => ⟨fun z => ?_, fun y c e => (f2 b hb).2.2.2.2.1 y c (oksub _ _ e)⟩, I2.bs, Nat.le_trans I.ok.bsz I2.sz, fun b o e hb => ?_, fun b hb z => ?_, I2.stack, I2.stkFree⟩
    · exact Nat.ne_of_lt (Nat.lt_of_lt_of_le (fpLt b hb) leC) z
    · rcases (f2 b hb).2.2.2.1 with q | q
      · exact I.ok.noex b o e q
      · exact absurd (Nat.lt_of_lt_of_le (Heap.lt_size e) (Nat.le_trans I.ok.bsz q)) (Nat.lt_irrefl _)
    · rcases List.mem_cons.mp (I2.stkSub b z) with q | q
      · exact (f2 b hb).2.1 q
      · exact (f2 b hb).2.2.1 q
  have fpOk : ∀ {H' : Hp} {o : Obj}, (∀ b ∈ fp, H' b = none) → ∀ b ∈ fp, FpOk (cxC X scope (own ++ NN) fp s2 H2 P.objs.size) [(s2.heap.objs.size, o)] H' b := fun {H' o} hn b hb => by
    have lt := fpLt b hb
    refine ⟨hn b hb, fun z => ?_, fun z => okC.exfs b hb z, .inl hb, fun y c e => (okC.exf b hb).2 y c e, fun p hp z => ?_⟩
    · exact Nat.ne_of_lt (Nat.lt_of_lt_of_le lt leC) z
    · have hp' : p = (s2.heap.objs.size, o) := by simpa using hp
      subst hp'
      exact Nat.ne_of_lt lt (Eq.symm z)
  have cellNe : ∀ y c, (clOf X.env scope.names []).lookup y = some c → c < s2.heap.objs.size := fun y c e => by
    obtain ⟨v, q⟩ := I2.cell y c (oksub _ _ e)
    exact q.lt
  have start : Inv (cxC X scope (own ++ NN) fp s2 H2 P.objs.size) [] (List.replicate own.length none ++ σ) H2 { s2 with heap := h1, toks := s2.toks + ([] : List (Str × Value)).length } := by
    refine ⟨okC, rfl, I2.bare, Un.kept old, ⟨_, hns, fun i y v e1 e2 e3 => ?_⟩, fun y c e => ?_, I2.hok.fresh (by show s2.heap.objs.size ≤ P.objs.size; omega), fun y c e => I2.freeC y c (oksub _ _ e), fun p hp => absurd (show p ∈ ([] : List (Addr × Obj)) from by simpa using hp) (by simp), I2.hok.kept old, ?_⟩
    · by_cases hi : i < own.length
      · rw [List.getElem?_append_left (by simpa using hi), List.getElem?_replicate, if_pos hi] at e2
        cases e2
      · have e1n : NN[i - own.length]? = some y := by
          have z : (own ++ NN)[i]? = some y := e1
          rw [List.getElem?_append_right (by omega)] at z
          exact z
        rw [List.getElem?_append_right (by simpa using hi), List.length_replicate] at e2
        obtain ⟨ap1, ap2⟩ := ok.apart _ y e1n
        rcases e3 with e3 | e3
        · exact absurd (rl_local e3) ap1
        · obtain ⟨⟨c, hcl⟩, kc⟩ := okfar y (rl_far e3)
          have e1' : X.N[i - own.length]? = some y := by
            rcases ap2 with z | z
            · exact z
            · rcases rl_far e3 with q | q <;> (rw [z] at q; cases q)
          obtain ⟨m, hn, hl⟩ := I2.loc
          obtain ⟨u, r, l⟩ := hl (i - own.length) y v e1' e2 (.inr kc)
          refine ⟨u, r, .inr ⟨e3, c, hcl, ?_⟩⟩
          rcases l with ⟨l, _⟩ | ⟨_, c', e', q⟩
          · rcases kc with kc | kc <;> (rw [l] at kc; cases kc)
          · rw [oksub _ _ hcl] at e'
            cases e'
            exact q.keeps old
    · obtain ⟨v, q⟩ := I2.cell y c (oksub _ _ e)
      exact ⟨v, q.keeps old⟩
    · show (List.replicate own.length none ++ σ).length = (own ++ NN).length
      rw [List.length_append, List.length_append, List.length_replicate, I2.len, ok.len]
  have nDC : s2.heap.objs.size ≠ P.objs.size := hDC
  have nDf : s2.heap.objs.size ∉ frs X.stack := fun z => by
    rcases List.mem_cons.mp (I2.stkSub _ z) with q | q
    · exact Nat.ne_of_lt I2.lt (Eq.symm q)
    · exact I2.nofs (Nat.le_refl _) q
  have loop : ∀ s₃ : Shared, s₃ = { s2 with heap := h1, toks := s2.toks + ([] : List (Str × Value)).length } →
      codeAny (model X.prog X.w) X.A (.compLoop (.ListComp elt [⟨target, iter, ifs, 0⟩] scope pos) 0 (.ref it) (.ref s2.heap.objs.size) (compEnvC scope (clOf X.env scope.names []) P.objs.size X.env))
        (compPost (model X.prog X.w) X.A X.xe use Qv (.ref s2.heap.objs.size) P.objs.size) s₃ := by
    rintro s₃ rfl
    refine compLoop_any (fun n s' => ∃ (i : Nat) (ys : List V) (H' : Hp) (its : List Value) (k : Nat), Inv (cxC X scope (own ++ NN) fp s2 H2 P.objs.size) [] (List.replicate own.length none ++ σ) H' s' ∧ tn i s'.heap ∧ (∀ b ∈ fp, H' b = none) ∧ H' s2.heap.objs.size = none ∧ Vals ys its ∧
      s'.heap.get? s2.heap.objs.size = some { cls := .type "list", data := .seq its.toArray k } ∧ W i n ys H') ?_ m0
      ⟨0, [], H2, [], 0, start, T.keep _ _ _ st2 (fun b _ o e => old b o e), fun b hb => (f2 b hb).1, I2.hok.fresh (Nat.le_refl _), .nil, accAt, w0⟩
    rintro n s3 ⟨i, ys, H3, its, k, I3, st3, fr3, nD, rv, hD, w3⟩
    have Ip : Inv (cxC X scope (own ++ NN) fp s2 H2 P.objs.size) [(s2.heap.objs.size, { cls := .type "list", data := .seq its.toArray k })] (List.replicate own.length none ++ σ) H3 s3 := I3.pins_of fun p hp => by
      have hp' : p = (s2.heap.objs.size, { cls := .type "list", data := .seq its.toArray k }) := by simpa using hp
      subst hp'
      exact ⟨hD, nD, nDC, nDf, fun v z => by cases z⟩
    obtain ⟨hl, hw⟩ := turn i n ys H3 w3
    rcases hw with ⟨stop, fin⟩ | ⟨go, N, hN, step⟩
    · refine thn (T.done (cxC X scope (own ++ NN) fp s2 H2 P.objs.size) rfl rfl rfl hc i _ s3 _ H3 _ Ip (fpOk fr3) st3 stop) fun r s4 z => ?_
      obtain ⟨hr, I4⟩ := z
      subst hr
      obtain ⟨m, hn, _⟩ := I4.loc
      have hD4 : s4.heap.get? s2.heap.objs.size = some { cls := .type "list", data := .seq its.toArray k } := (I4.pin _ (List.mem_append_right _ List.mem_cons_self)).1
      obtain ⟨h', eh'⟩ : ∃ h', h' = s4.heap := ⟨_, rfl⟩
      have sb' : ∀ b o, b ≠ P.objs.size → s4.heap.get? b = some o → h'.get? b = some o := fun b o hb e => by rw [eh']; exact e
      have oldNe : ∀ b o, s2.heap.get? b = some o → b ≠ P.objs.size ∧ b ≠ s2.heap.objs.size := fun b o e => by
        have lt := Heap.lt_size e
        exact ⟨Nat.ne_of_lt (Nat.lt_of_lt_of_le lt leC), Nat.ne_of_lt lt⟩
      have trNe : ∀ b u, H3 b = some u → b ≠ P.objs.size ∧ b ≠ s2.heap.objs.size := fun b u e => by
        refine ⟨fun z => ?_, fun z => ?_⟩
        · have q : H3 P.objs.size = none := I4.free
          rw [← z, e] at q
          cases q
        · rw [z, nD] at e
          cases e
      have un : Un (frs X.stack) fp H2 (upd H3 s2.heap.objs.size (.lst ys)) s2.heap h' := by
        have B := I4.base
        refine ⟨fun b o e q hb hx => sb' b o (oldNe b o e).1 (B.keep b o e q hb hx), fun b o e q hb hx => ?_, fun b o e q hx => ?_, fun b o e hx => ?_, fun b xs e => ?_, fun b o u e => ?_, fun b ps e => ?_⟩
        · obtain ⟨sl, e1⟩ := B.slot b o e q hb hx
          exact ⟨sl, sb' _ _ (oldNe b o e).1 e1⟩
        · rw [upd_ne (oldNe b o e).2]
          exact B.free b o e q hx
        · obtain ⟨o', e1⟩ := B.there b o e hx
          exact ⟨o', sb' _ _ (oldNe b o e).1 e1⟩
        · have q := B.tups b xs e
          rw [upd_ne (trNe _ _ q).2]
          exact q
        · have q := B.frzs b o u e
          rw [upd_ne (trNe _ _ q).2]
          exact q
        · obtain ⟨more, q⟩ := B.tbls b ps e
          refine ⟨more, ?_⟩
          rw [upd_ne (trNe _ _ q).2]
          exact q
      have hok : HOk X.prog X.w (upd H3 s2.heap.objs.size (.lst ys)) h' := fun b u e => by
        by_cases hb : b = s2.heap.objs.size
        · subst hb
          rw [upd_same] at e
          cases e
          exact ⟨Nat.le_of_lt hl, its, k, rv, sb' _ _ nDC hD4⟩
        · rw [upd_ne hb] at e
          refine (I4.hok b u e).stay (fun c v hc q => sb' c v ?_ q) (fun c q => ?_) fun c xs q => ?_
          · rcases hc with z | z
            · rw [z]
              exact (trNe _ _ e).1
            · exact (trNe _ _ z).1
          · rw [upd_ne (trNe _ _ q).2]
            exact q
          · rw [upd_ne (trNe _ _ q).2]
            exact q
      have J := I2.call' (s' := { s4 with heap := h' }) (ch := fp) I4.os un hok I4.bare fun b hb => ⟨(f2 b hb).2.2.2.1, (f2 b hb).2.1, (f2 b hb).2.2.2.2.1, (f2 b hb).2.2.2.2.2⟩
      subst eh'
      refine hfin s4 P.objs.size s2.heap.objs.size (upd H3 s2.heap.objs.size (.lst ys)) m hn J ?_ ?_ ?_ (fun y c e => ?_) (fun q hq => ?_) (fin _ nD)
      · rw [upd_ne nDC.symm]
        exact I4.free
      · exact Nat.ne_of_gt (Nat.lt_of_lt_of_le I2.lt leC)
      · exact Nat.le_trans I2.sz leC
      · obtain ⟨v, z⟩ := I2.cell y c e
        exact Nat.ne_of_lt (Nat.lt_of_lt_of_le z.lt leC)
      · exact Nat.ne_of_lt (Nat.lt_of_lt_of_le (Heap.lt_size (I2.pin q hq).1) leC)
    · refine thn (T.item (cxC X scope (own ++ NN) fp s2 H2 P.objs.size) rfl rfl rfl hc i _ s3 _ H3 _ Ip (fpOk fr3) st3 go) fun r s4 z => ?_
      obtain ⟨u, hr, h4⟩ := z
      subst hr
      refine thn h4 fun _ s5 z => ?_
      obtain ⟨x, H5, I5, r5, y5, st5, fr5⟩ := z
      have I5' := I5.pinned (fpOk fr5) (T.obj _ _ st5)
      refine thn (hg fp s2 H2 P.objs.size _ s5 _ H5 x u _ I5' r5 (step x H5 y5)) fun _ s6 z => ?_
      obtain ⟨σ6, H6, I6, hσ, q6⟩ := z
      refine thn (ht fp s2 H2 P.objs.size _ s6 σ6 H6 _ I6 q6) fun okb s7 z => ?_
      obtain ⟨H7, I7, q7⟩ := z
      have pinD : ∀ {H8 : Hp} {s8 : Shared}, Inv (cxC X scope (own ++ NN) fp s2 H2 P.objs.size) ([(s2.heap.objs.size, { cls := .type "list", data := .seq its.toArray k })] ++ pinsAt fp s5.heap) σ6 H8 s8 →
          s8.heap.get? s2.heap.objs.size = some { cls := .type "list", data := .seq its.toArray k } ∧ H8 s2.heap.objs.size = none := fun I8 => by
        have z := I8.pin (s2.heap.objs.size, { cls := .type "list", data := .seq its.toArray k }) (List.mem_append_right _ (List.mem_append_left _ List.mem_cons_self))
        exact ⟨z.1, z.2.1⟩
      have pinF : ∀ {H8 : Hp} {s8 : Shared}, Inv (cxC X scope (own ++ NN) fp s2 H2 P.objs.size) ([(s2.heap.objs.size, { cls := .type "list", data := .seq its.toArray k })] ++ pinsAt fp s5.heap) σ6 H8 s8 →
          tn (i + 1) s8.heap ∧ ∀ b ∈ fp, H8 b = none := fun {H8 s8} I8 => by
        refine ⟨T.keep _ _ _ st5 fun b hb o e => (I8.pin (b, o) (List.mem_append_right _ (List.mem_append_right _ (mem_pinsAt hb e)))).1, fun b hb => ?_⟩
        obtain ⟨o, e, _⟩ := T.obj _ _ st5 b hb
        exact (I8.pin (b, o) (List.mem_append_right _ (List.mem_append_right _ (mem_pinsAt hb e)))).2.1
      have len6 : (List.replicate own.length none ++ σ).length = σ6.length := by rw [I6.len, start.len]
      cases okb with
      | false =>
        have q7' : N ys H7 := q7
        obtain ⟨m', lt, w'⟩ := hN _ _ q7'
        obtain ⟨d1, d2⟩ := pinD I7
        obtain ⟨p1, p2⟩ := pinF I7
        have J7 : Inv (cxC X scope (own ++ NN) fp s2 H2 P.objs.size) [] σ6 H7 s7 := I7.pins_of (fun p hp => absurd hp (by simp))
        exact ⟨m', lt, i + 1, ys, H7, its, k, J7.weak len6 (drop_get hσ), p1, p2, d2, rv, d1, w'⟩
      | true =>
        refine thn (he fp s2 H2 P.objs.size _ s7 σ6 H7 _ I7 q7) fun v8 s8 z => ?_
        obtain ⟨y, H8, I8, r8, n8⟩ := z
        obtain ⟨m', lt, w'⟩ := hN _ _ n8
        obtain ⟨d1, d2⟩ := pinD I8
        obtain ⟨p1, p2⟩ := pinF I8
        refine append_at (hsz := by rw [List.size_toArray, ← rv.length]; exact Nat.le_of_lt hl) d1 fun h9 sb hD9 => ?_
        have J8 : Inv (cxC X scope (own ++ NN) fp s2 H2 P.objs.size) [] σ6 H8 s8 := I8.pins_of (fun p hp => absurd hp (by simp))
        have J9 : Inv (cxC X scope (own ++ NN) fp s2 H2 P.objs.size) [] σ6 H8 { s8 with heap := h9 } := J8.turned (t' := s8.toks) (it := s2.heap.objs.size) (fun b o hb e => sb.extBut b o hb e) d2 nDC (.inr (Nat.le_refl _)) (fun y c e => Nat.ne_of_lt (cellNe y c e)) (fun p hp => absurd hp (by simp))
        refine ⟨m', lt, i + 1, ys ++ [y], H8, its ++ [v8], k + 1, J9.weak len6 (drop_get hσ), T.keep _ _ _ p1 (fun b hb o e => sb.extBut b o (Nat.ne_of_lt (fpLt b hb)) e), p2, d2, rv.append (.cons r8 .nil), ?_, w'⟩
        show h9.get? _ = _
        rw [hD9, List.push_toArray]
  exact codeAny_compStart_list (loop _ rfl) (T.self X.A 0 _ _ _ (T.keep _ _ _ st2 (fun b _ o e => old b o e)) (loop _ rfl))
theorem pe_comp {elt target iter : Expr} {ifs : List Expr} {scope : Scope} {NN : List Str} {pos : Pos} {wi : TI} {g : TG} {tc : TT} {te : TE} (own : List Str) (ok : CompOk X scope NN) (hc : X.calm = true) (hi : PI X target iter wi)
    (hg : ∀ fp s₂ H₂ C, PG (cxC X scope (own ++ NN) fp s₂ H₂ C) target g) (ht : ∀ fp s₂ H₂ C, PTs (cxC X scope (own ++ NN) fp s₂ H₂ C) ifs tc) (he : ∀ fp s₂ H₂ C, PE (cxC X scope (own ++ NN) fp s₂ H₂ C) elt te)
    (hs : ∀ x, foldedSetIterable iter X.env x = pure x := by intro _; rfl) : PE X (.ListComp elt [⟨target, iter, ifs, 0⟩] scope pos) (tComp own.length wi g tc te) := by
  intro pins s σ H Q I h
  rw [eval_ListComp]
  refine comp_gen (use := none) own ok hc hi hg ht he hs I h fun s4 C D H' m hn J n1 n2 n3 n4 n5 q => ?_
  exact ⟨m, hn, fun h' sb => ⟨.ref D, H', J.turned (t' := s4.toks) (it := C) (fun b o hb e => sb.extBut b o hb e) n1 n2 (.inr n3) n4 n5, rfl, q⟩⟩
/-- x = [..], x a plain local name: it is stored ahead of the block's end -/
theorem ps_comp {elt target iter : Expr} {ifs : List Expr} {scope : Scope} {NN : List Str} {pos pos' spos : Pos} {wi : TI} {g : TG} {tc : TT} {te : TE} {i : Nat} {x : Str} (own : List Str) (ok : CompOk X scope NN) (hc : X.calm = true) (hN : X.N.Nodup) (hx0 : X.N[i]? = some x) (hx : Loc X.env.scope x) (hi : PI X target iter wi)
    (hg : ∀ fp s₂ H₂ C, PG (cxC X scope (own ++ NN) fp s₂ H₂ C) target g) (ht : ∀ fp s₂ H₂ C, PTs (cxC X scope (own ++ NN) fp s₂ H₂ C) ifs tc) (he : ∀ fp s₂ H₂ C, PE (cxC X scope (own ++ NN) fp s₂ H₂ C) elt te)
    (hs : ∀ x, foldedSetIterable iter X.env x = pure x := by intro _; rfl) (hf : X.fn x = true ∨ X.env.scope.names.lookup x = some .local := by first | exact .inl rfl | exact .inr rfl | assumption)
    (hsw : swapsWith (.ListComp elt [⟨target, iter, ifs, 0⟩] scope pos) (some (.Name x pos')) spos.line X.env = pure true := by rfl) : PS X (.Assign [.Name x pos'] (.ListComp elt [⟨target, iter, ifs, 0⟩] scope pos) spos) (tAsg (tComp own.length wi g tc te) (gName i)) := by
  intro pins s σ H D I h
  rw [exec_Assign_Name_used _ _ _ _ hsw]
  refine wpAny_bind (wpAny_standAt (wpAny_bind ?_))
  show wpAny _ X.A (do let _ ← comprehension (.ListComp elt [⟨target, iter, ifs, 0⟩] scope pos) scope X.env _ (newList []) false (eval iter X.env) (some (assign (.Name x pos') X.env))) _ _ s
  refine wpAny_bind (wpAny_mono (comp_gen (use := some (assign (.Name x pos') X.env)) (Qv := fun _ s' => SP X pins D .next s') own ok hc hi hg ht he hs I h fun s4 C DD H' m hn J n1 n2 n3 n4 n5 q => ?_) (fun _ s' hq => wpAny_pure (wpAny_pure hq)) fun _ _ e => e)
  show wpAny _ X.A (assign (.Name x pos') X.env (.ref DD)) _ _ s4
  refine wpAny_assign_Name (store_ok2 J hN hx0 hx (show RelV (.ref DD) (.ref DD) from rfl) (fun s' J' z => ?_) hf)
  obtain ⟨a, sb, ha⟩ := z
  have na : C ≠ a := by
    rcases ha with ha | ha
    · rw [ha]
      exact n2
    · exact (n4 x a ha).symm
  refine ⟨m, hn.at' fun o e => sb.extBut C o na e, fun h' sb2 => ⟨_, H', J'.turned (t' := s'.toks) (it := C) (fun b o hb e => sb2.extBut b o hb e) n1 n2 (.inr n3) n4 n5, q⟩⟩
end
/-! ### the forms one uses -/
section
variable {K : PySem.W.Frag} {a : Addr} {xs : List V} {n : Nat} {g : TG} {tc : TT} {te : TE} {σ : St} {H : Hp} {Q : VK}
/-- over a list that stays -/
theorem comp_list (Pv : Nat → List V → Hp → Prop) (h0 : Pv 0 [] H) (hl : ∀ i ys H, i ≤ xs.length → Pv i ys H → SqL K H a xs ∧ ys.length < sizeLine)
    (hs : ∀ i x ys H, xs[i]? = some x → Pv i ys H → g x (List.replicate n none ++ σ) H fun σ2 H2 => σ2.drop n = σ ∧ tc σ2 H2 fun b H3 => if b = true then te σ2 H3 fun y H4 => Pv (i + 1) (ys ++ [y]) H4 else Pv (i + 1) ys H3)
    (hd : ∀ ys H, Pv xs.length ys H → ∀ p, H p = none → Q (.ref p) (upd H p (.lst ys))) :
    ∃ W : Nat → Nat → List V → Hp → Prop, (∃ m, W 0 m [] H) ∧ ∀ i m ys H, W i m ys H → ys.length < sizeLine ∧ (((Itl K a).stop i H ∧ ∀ p, H p = none → Q (.ref p) (upd H p (.lst ys))) ∨
      ((Itl K a).go i H ∧ ∃ N : List V → Hp → Prop, (∀ ys' H', N ys' H' → ∃ m', m' < m ∧ W (i + 1) m' ys' H') ∧ ∀ x H', (Itl K a).yld i H x H' → g x (List.replicate n none ++ σ) H' fun σ2 H2 => σ2.drop n = σ ∧ tc σ2 H2 fun b H3 =>
        if b = true then te σ2 H3 fun y H4 => N (ys ++ [y]) H4 else N ys H3)) := by
  refine ⟨fun i m ys H => m = xs.length - i ∧ i ≤ xs.length ∧ Pv i ys H, ⟨xs.length, by simp, Nat.zero_le _, h0⟩, ?_⟩
  rintro i m ys H ⟨rfl, hi, p⟩
  obtain ⟨q, z⟩ := hl i ys H hi p
  refine ⟨z, ?_⟩
  by_cases hlt : i < xs.length
  · refine .inr ⟨⟨xs, xs[i], q, by simp [hlt]⟩, Pv (i + 1), fun ys' H' p' => ⟨xs.length - (i + 1), by omega, rfl, hlt, p'⟩, fun x H' y => ?_⟩
    obtain ⟨e, y⟩ := y
    subst e
    exact hs i x ys _ (y xs q) p
  · have e : i = xs.length := by omega
    subst e
    exact .inl ⟨⟨xs, q, Nat.le_refl _⟩, hd ys H p⟩
/-- over a tuple -/
theorem comp_tup (Pv : Nat → List V → Hp → Prop) (h0 : Pv 0 [] H) (hl : ∀ i ys H, i ≤ xs.length → Pv i ys H → SqT K H a xs ∧ ys.length < sizeLine)
    (hs : ∀ i x ys H, xs[i]? = some x → Pv i ys H → g x (List.replicate n none ++ σ) H fun σ2 H2 => σ2.drop n = σ ∧ tc σ2 H2 fun b H3 => if b = true then te σ2 H3 fun y H4 => Pv (i + 1) (ys ++ [y]) H4 else Pv (i + 1) ys H3)
    (hd : ∀ ys H, Pv xs.length ys H → ∀ p, H p = none → Q (.ref p) (upd H p (.lst ys))) :
    ∃ W : Nat → Nat → List V → Hp → Prop, (∃ m, W 0 m [] H) ∧ ∀ i m ys H, W i m ys H → ys.length < sizeLine ∧ (((Itt K a).stop i H ∧ ∀ p, H p = none → Q (.ref p) (upd H p (.lst ys))) ∨
      ((Itt K a).go i H ∧ ∃ N : List V → Hp → Prop, (∀ ys' H', N ys' H' → ∃ m', m' < m ∧ W (i + 1) m' ys' H') ∧ ∀ x H', (Itt K a).yld i H x H' → g x (List.replicate n none ++ σ) H' fun σ2 H2 => σ2.drop n = σ ∧ tc σ2 H2 fun b H3 =>
        if b = true then te σ2 H3 fun y H4 => N (ys ++ [y]) H4 else N ys H3)) := by
  refine ⟨fun i m ys H => m = xs.length - i ∧ i ≤ xs.length ∧ Pv i ys H, ⟨xs.length, by simp, Nat.zero_le _, h0⟩, ?_⟩
  rintro i m ys H ⟨rfl, hi, p⟩
  obtain ⟨q, z⟩ := hl i ys H hi p
  refine ⟨z, ?_⟩
  by_cases hlt : i < xs.length
  · refine .inr ⟨⟨xs, xs[i], q, by simp [hlt]⟩, Pv (i + 1), fun ys' H' p' => ⟨xs.length - (i + 1), by omega, rfl, hlt, p'⟩, fun x H' y => ?_⟩
    obtain ⟨e, y⟩ := y
    subst e
    exact hs i x ys _ (y xs q) p
  · have e : i = xs.length := by omega
    subst e
    exact .inl ⟨⟨xs, q, Nat.le_refl _⟩, hd ys H p⟩
end
end L2
set_option linter.all false
set_option maxRecDepth 100000
set_option maxHeartbeats 4000000
/-! dict(xs), xs a list of pairs -/
namespace PySem
theorem dl_keys_miss : typeLookup (.type "list") "keys" = pure none := by rw [typeLookup_type, builtinLookup_eq_fast]; kernel_rfl
theorem dl_entry : entryFor table "dict.update.loop" = some Builtin.«dict.update.loop» := entryFor_of_tree (by kernel_rfl)
section
variable {prog : Program} {w : World} {A : Around} {E : Value → Shared → Prop} {s : Shared}
theorem dl_keys {a : Addr} {xs : Array Value} {k : Nat} {sl : Array (Option Value)} {Q : Option Value → Shared → Prop} (hx : s.heap.get? a = some { cls := .type "list", dict := none, data := .seq xs k, slots := sl }) (hA : A.handled = none)
    (h : ∀ h' tk, (∀ b o, s.heap.get? b = some o → h'.get? b = some o) → Q none { s with heap := h', toks := tk }) : wpAny (model prog w) A (getAttr? (.ref a) "keys") Q E s := by
  obtain ⟨hp, g, d, tk, os⟩ := s
  have hT : ∀ tk', (⟨hp, g, d, tk', os⟩ : Shared).TypeIs (.ref a) "list" := fun _ => ⟨_, hx, rfl⟩
  have f1 := sub_AttributeError
  have f3 := F.slot_list_getattribute.lookup
  have f4 := F.slot_list_getattribute.bind (.ref a)
  have f5 := am_list_getattr_none
  unfold getAttr? getAttrBy? getAttrBy
  have go : ∀ (u : Tok) (tk : Nat) (Q : Value → Shared → Prop) (E : Value → Shared → Prop), (∀ h' tk' e, Heap.NewAttrErr hp h' e (.ref a) "keys" → E (.ref e) ⟨h', g, d, tk', os⟩) → wpAny (model prog w) A (call (Value.builtin "list.__getattribute__") [.ref a, .str "keys" u]) Q E ⟨hp, g, d, tk, os⟩ := fun u tk Q E k1 =>
    call_meets F.slot_list_getattribute (hT _) am_entry_list_getattribute (F.args_list_getattribute_2 _ _) (meets_getattribute_miss_list a xs k sl "keys" _ dl_keys_miss (by decide +kernel)) ⟨hx, hA, fun h' tk' e hx' => k1 h' tk' e hx'⟩
  repeat (any_goals (first | assumption | exact hT _ | refine go _ _ _ _ (fun h' tk' e hx' => ?_) | wp_step))
  obtain ⟨t', u', he⟩ := hx'.there
  repeat (any_goals (first | assumption | wp_step))
  exact h _ _ hx'.keeps
/-- the pairs of a list's items -/
def dlPair {prog : Program} {w : World} {K : Type} [DecidableEq K] (knd : KeyKind prog w K) (h : Heap) (p : K × Value) (x : Value) : Prop :=
  ∃ (a : Addr) (kv : Value) (o : Obj) (n : Nat), x = .ref a ∧ h.get? a = some o ∧ o.cls = .type "tuple" ∧ o.data = .seq #[kv, p.2] n ∧ knd.is p.1 kv = true
variable {K : Type} [DecidableEq K] {knd : KeyKind prog w K}
theorem dl_items {a : Addr} {o : Obj} {n : Nat} {k v : Value} {Q : List Value → Shared → Prop} (ho : s.heap.get? a = some o) (hc : o.cls = .type "tuple") (hd : o.data = .seq #[k, v] n) (h : Q [k, v] s) : wpAny (model prog w) A (Builtin.Dict.pairItems (.ref a)) Q E s := by
  unfold Builtin.Dict.pairItems
  have hT : s.TypeIs (.ref a) "tuple" := ⟨o, ho, hc⟩
  refine wpAny_bind (wpAny_typeOf hT ?_)
  rw [if_pos (by decide)]
  refine wpAny_bind (wpAny_seqItems ho hd (wpAny_pure ?_))
  exact h
theorem dl_loop {R : Result → Shared → Prop} {it l d : Addr} {items : Array Value} {result : Value} (hA : A.handled = none) (hl : l ≠ d) (hi : it ≠ d) (hil : it ≠ l) : ∀ (ps : List (K × Value)) (i : Nat) (kvs : List (K × Value)) (s : Shared) (t : Tok) (z : Int),
    s.heap.IsListIter it l i → s.heap.IsList l items → s.heap.DictOf knd d kvs → Paired (fun p x => dlPair knd s.heap p x ∧ x ≠ .ref d ∧ x ≠ .ref it) ps (items.toList.drop i) → kvs.length + ps.length ≤ sizeLine →
    (∀ h' tk, h'.DictOf knd d (ps.foldl (fun m p => stored m p.1 p.2) kvs) → (∀ b o, b ≠ d → b ≠ it → s.heap.get? b = some o → h'.get? b = some o) → R (.ok (.ret result)) { s with heap := h', toks := tk }) →
    codeAny (model prog w) A (.builtin "dict.update.loop" ⟨[.ref d, .ref it, .int z t, result], []⟩) R s
  | [], i, kvs, s, t, z, hit, hls, hd, hp, hz, h => by
    have hnil : items.toList.drop i = [] := by
      have e := hp.length
      exact List.length_eq_zero_iff.mp e.symm
    have hx : items[i]? = none := by
      have e := List.drop_eq_nil_iff.mp hnil
      simp only [Array.length_toList] at e
      exact Array.getElem?_eq_none e
    refine codeAny_builtin dl_entry ?_
    unfold Builtin.«dict.update.loop»
    dsimp only
    refine wpAny_bind (wpAny_pyNext_list_end hA hit hls hx fun h' eb => ?_)
    dsimp only
    refine wpAny_bind ?_
    unfold Builtin.Dict.addKeywords
    refine wpAny_pure ?_
    refine wpAny_pure (h h' _ (hd.extBut eb hi.symm) fun b o _ hb e => eb b o hb e)
  | p :: ps, i, kvs, s, t, z, hit, hls, hd, hp, hz, h => by
    cases e0 : items.toList.drop i with
    | nil =>
      rw [e0] at hp
      cases hp
    | cons x r =>
      rw [e0] at hp
      cases hp with
      | cons h1 h2 =>
        obtain ⟨⟨a, kv, o, n, rfl, ho, hc, hdt, hk⟩, nd, ni⟩ := h1
        have hx : items[i]? = some (.ref a) := by
          have e := congrArg (fun l => l[0]?) e0
          simpa using e
        have hr : items.toList.drop (i + 1) = r := by
          have e := congrArg List.tail e0
          simpa using e
        refine codeAny_builtin dl_entry ?_
        unfold Builtin.«dict.update.loop»
        dsimp only
        refine wpAny_bind (wpAny_pyNext_list_item hit hls hx fun h1' hit' sb => ?_)
        dsimp only
        refine wpAny_bind (wpAny_holding (wpAny_bind (wpAny_tryCatch ?_)))
        have nai : a ≠ it := fun q => ni (by rw [q])
        have nad : a ≠ d := fun q => nd (by rw [q])
        refine dl_items (s := { s with heap := h1' }) ((sb.2 a nai).trans ho) hc hdt ?_
        dsimp only
        refine wpAny_holding (wpAny_dictSet_pairs (s := { s with heap := h1' }) hk (hd.extBut sb.extBut hi.symm) (fun h2' hd2 sb2 => ?_) (by simp only [List.length_cons] at hz; omega))
        refine wpAny_pure ⟨Code.quiet_builtin _ (by decide +kernel), ?_⟩
        have keep : ∀ b ob, b ≠ d → b ≠ it → s.heap.get? b = some ob → h2'.get? b = some ob := fun b ob nb1 nb2 e => sb2.extBut b ob nb1 (sb.extBut b ob nb2 e)
        refine dl_loop (items := items) hA hl hi hil ps (i + 1) (stored kvs p.1 p.2) { s with heap := h2', toks := s.toks + 1 } _ _ ?_ ?_ hd2 ?_ ?_ ?_
        · obtain ⟨oi, ei, ci, di⟩ := hit'
          exact ⟨oi, sb2.extBut it oi hi ei, ci, di⟩
        · obtain ⟨ol, el, cl⟩ := hls
          exact ⟨ol, keep l ol hl hil.symm el, cl⟩
        · rw [hr]
          clear e0 hr h hz hd hit hit' hls
          induction h2 with
          | nil => exact .nil
          | cons q1 q2 ih =>
            refine .cons ?_ ih
            obtain ⟨⟨a', kv', o', n', rfl, ho', hc', hdt', hk'⟩, nd', ni'⟩ := q1
            exact ⟨⟨a', kv', o', n', rfl, keep a' o' (fun q => nd' (by rw [q])) (fun q => ni' (by rw [q])) ho', hc', hdt', hk'⟩, nd', ni'⟩
        · have hs : (stored kvs p.1 p.2).length ≤ kvs.length + 1 := by
            unfold stored
            split
            · rw [List.length_map]
              omega
            · simp
          simp only [List.length_cons] at hz
          omega
        · intro h' tk hd' k'
          exact h h' tk hd' fun b ob nb1 nb2 e => k' b ob nb1 nb2 (keep b ob nb1 nb2 e)
theorem dl_call {l : Addr} {items : Array Value} {k : Nat} {sl : Array (Option Value)} {ps : List (K × Value)} {Q : Value → Shared → Prop} (hA : A.handled = none) (hx : s.heap.get? l = some { cls := .type "list", dict := none, data := .seq items k, slots := sl })
    (hp : Paired (dlPair knd s.heap) ps items.toList) (hz : ps.length ≤ sizeLine)
    (h : ∀ h' tk, h'.DictOf knd s.heap.objs.size (ps.foldl (fun m p => stored m p.1 p.2) []) → (∀ b o, s.heap.get? b = some o → h'.get? b = some o) → Q (.ref s.heap.objs.size) { s with heap := h', toks := tk }) :
    wpAny (model prog w) A (call (.type "dict") [.ref l]) Q E s := by
  refine callType_codes (Q₁ := fun obj s1 => obj = .ref s.heap.objs.size ∧ s1 = { s with heap := s.heap.push { cls := .type "dict", data := .dict #[] } }) F.kt_called_dict (F.kt_typeCall_dict_1 _) F.entry_dict_init (kt_code_dict_new _ ⟨rfl, rfl⟩) ?_
  rintro obj s1 ⟨rfl, rfl⟩
  have hnew : (s.heap.push { cls := .type "dict", data := .dict #[] }).DictOf knd s.heap.objs.size [] := Heap.DictOf.new s.heap
  have up : ∀ b o, s.heap.get? b = some o → (s.heap.push { cls := .type "dict", data := .dict #[] }).get? b = some o := fun b o e => Heap.get?_push_of_some _ e
  have hlt := Heap.lt_size hx
  refine ⟨hnew.typeIs, F.args_dict_init_2 _ _, ?_⟩
  unfold Builtin.«dict.__init__»
  refine wpAny_bind ?_
  unfold Builtin.Dict.selfAndRest
  refine wpAny_bind (wpAny_notOrdered_dict hnew.typeIs ?_)
  show wpAny _ _ (pure (s.heap.objs.size, [Value.ref l])) _ _ _
  refine wpAny_pure ?_
  show wpAny _ _ (Builtin.Dict.updateFrom "dict.__init__" s.heap.objs.size (.ref l) [] .none) _ _ _
  unfold Builtin.Dict.updateFrom
  have hT : ({ s with heap := s.heap.push { cls := .type "dict", data := .dict #[] } } : Shared).TypeIs (.ref l) "list" := ⟨_, up _ _ hx, rfl⟩
  refine wpAny_bind (wpAny_typeOf hT ?_)
  rw [if_pos (by decide)]
  refine wpAny_bind (dl_keys (s := { s with heap := s.heap.push { cls := .type "dict", data := .dict #[] } }) (up _ _ hx) hA fun h1 tk1 k1 => ?_)
  rw [if_pos (by rfl)]
  refine wpAny_bind (wpAny_rule (wpAny_bind ?_))
  have hl1 : h1.IsList l items := ⟨_, k1 _ _ (up _ _ hx), rfl, k, rfl⟩
  refine wpAny_pyIter_list (s := { s with heap := h1, toks := tk1 }) hl1 ?_
  have sz1 : s.heap.objs.size < h1.objs.size := by
    obtain ⟨o, _, _, e, _⟩ := hnew
    exact Heap.lt_size (k1 _ _ e)
  have up2 : ∀ b o, s.heap.get? b = some o → (h1.push { cls := .type "list_iterator", data := .fields #[.ref l, .int 0 0] }).get? b = some o := fun b o e => Heap.get?_push_of_some _ (k1 _ _ (up _ _ e))
  refine wpAny_pure ⟨Code.quiet_builtin _ (by decide +kernel), ?_⟩
  refine dl_loop (A := A.in1) (knd := knd) (items := items) hA (l := l) (Nat.ne_of_lt hlt) (Nat.ne_of_gt sz1) (Nat.ne_of_gt (Nat.lt_trans hlt sz1)) ps 0 [] _ _ _ ?_ ?_ ?_ ?_ ?_ ?_
  · exact ⟨_, Heap.get?_push_size _ rfl, rfl, rfl⟩
  · exact hl1.push _
  · obtain ⟨o, es, ep, e, r⟩ := hnew
    exact ⟨o, es, ep, Heap.get?_push_of_some _ (k1 _ _ e), r⟩
  · rw [List.drop_zero]
    clear h hz
    generalize items.toList = xs at hp
    induction hp with
    | nil => exact .nil
    | cons q1 q2 ih =>
      refine .cons ?_ ih
      obtain ⟨a, kv, o, n, rfl, ho, hc, hd, hk⟩ := q1
      have la := Heap.lt_size ho
      refine ⟨⟨a, kv, o, n, rfl, up2 _ _ ho, hc, hd, hk⟩, fun q => ?_, fun q => ?_⟩
      · injection q with q
        exact Nat.ne_of_lt la q
      · injection q with q
        exact Nat.ne_of_lt (Nat.lt_trans la sz1) q
  · simpa using hz
  · intro h' tk hd k'
    refine ⟨rfl, h h' tk hd fun b o e => k' b o ?_ ?_ (up2 b o e)⟩
    · exact Nat.ne_of_lt (Heap.lt_size e)
    · exact Nat.ne_of_lt (Nat.lt_trans (Heap.lt_size e) sz1)
end
end PySem
set_option Elab.async false
set_option linter.all false
set_option maxRecDepth 100000
set_option maxHeartbeats 4000000
/-! MORE BUILT-INS over the hand layer: // by any number of 64 bits, products of known size, isinstance, dict(pairs); the script's ints are of bounded size. -/
namespace L2
open PySem PySem.Spec PyProof.Rows
section
variable {X : Cx}
theorem log_small {n : Nat} (h : n < 2 ^ 64) : n.log2 < 9000 := by
  by_cases z : n = 0
  · subst z
    decide
  · exact Nat.lt_trans ((Nat.log2_lt z).mpr h) (by decide)
def CDivB (_ j : Int) : Prop := 0 < j ∧ j < 2 ^ 64
theorem op_fdivB : OpR X (binaryOp .FloorDiv) (rI CDivB fun i j => .int (i / j)) := opI fun i j _ _ _ _ _ hc q => by
  have h1 : (0 : Int) < j := hc.1
  have h2 : j < 2 ^ 64 := hc.2
  have h3 : j.natAbs < 2 ^ 64 := by omega
  exact floordiv_int (by omega) (by rw [Int.fdiv_eq_ediv_of_nonneg i (by omega)]; exact q) (.inl (PyProof.noPylong_of_log2 (log_small h3)))
def CDivM (_ j : Int) : Prop := j ≠ 0 ∧ j.natAbs < 2 ^ 64
theorem op_fdivM : OpR X (binaryOp .FloorDiv) (rI CDivM fun i j => .int (i.fdiv j)) := opI fun _ _ _ _ _ _ _ hc q => floordiv_int hc.1 q (.inl (PyProof.noPylong_of_log2 (log_small hc.2)))
theorem op_mulB : OpR X (binaryOp .Mult) (rI IntMulOk fun i j => .int (i * j)) := opI fun _ _ _ _ _ _ _ hc q => mul_int q hc
/-- isinstance(x, T), T a built-in type -/
theorem call_isinst : CallR X (.builtin "isinstance") (fun xs H Q => ∃ x n t b, xs = [x, .ty n] ∧ TyOf X.K H x t ∧ PySem.W.kitOne X.K t (.type n) = some b ∧ Q (.bl b) H) := by
  intro pins s σ H xs us Q I r h
  obtain ⟨x, n, t, b, rfl, ty, e, q⟩ := h
  obtain ⟨u, w', rfl, rx, rt⟩ := vals2 r
  cases (show w' = Value.type n from rt)
  exact isinst_ok I rx ty e fun tk => ⟨.bl b, H, I.tok _, rfl, q⟩
/-- isinstance(x, C), C an own class -/
theorem call_isinstC : CallR X (.builtin "isinstance") (fun xs H Q => ∃ x C t b, xs = [x, .ref C] ∧ TyOf X.K H x t ∧ PySem.W.kitOne X.K t (.ref C) = some b ∧ Q (.bl b) H) := by
  intro pins s σ H xs us Q I r h
  obtain ⟨x, C, t, b, rfl, ty, e, q⟩ := h
  obtain ⟨u, w', rfl, rx, rt⟩ := vals2 r
  cases (show w' = Value.ref C from rt)
  exact isinst_ok I rx ty e fun tk => ⟨.bl b, H, I.tok _, rfl, q⟩
/-- the pairs that stand in a list -/
def PairsIn (H : Hp) : List (Key × V) → List V → Prop := Paired fun (p : Key × V) x => ∃ a, x = V.ref a ∧ H a = some (.tup [kV p.1, p.2])
theorem pairs_of {P : Program} {w : World} {H : Hp} {h : Heap} (ok : HOk P w H h) : ∀ {ps : List (Key × V)} {vs : List V} {us : List Value}, PairsIn H ps vs → Vals vs us → ∃ qs : List (Key × Value), KV ps qs ∧ Paired (dlPair (mixKind P w) h) qs us := by
  intro ps vs us r
  unfold PairsIn at r
  induction r generalizing us with
  | nil =>
    intro v
    cases v
    exact ⟨[], .nil, .nil⟩
  | @cons p x ps vs q1 q2 ih =>
    intro v
    cases v with
    | cons r1 r2 =>
      obtain ⟨a, rfl, ha⟩ := q1
      obtain ⟨qs, k1, k2⟩ := ih r2
      cases r1
      obtain ⟨_, its, rv, o, ho, hc, n, hd⟩ := (show ObjOk P w H h a (.tup [kV p.1, p.2]) from ok a _ ha)
      obtain ⟨ku, vu, rfl, rk, rw'⟩ := vals2 rv
      exact ⟨(p.1, vu) :: qs, .cons ⟨rfl, rw'⟩ k1, .cons ⟨a, ku, o, n, rfl, ho, hc, hd, kV_is rk⟩ k2⟩
theorem kv_fold {ps : List (Key × V)} {qs : List (Key × Value)} (r : KV ps qs) : ∀ {m : List (Key × V)} {n : List (Key × Value)}, KV m n → KV (ps.foldl (fun m p => putK m p.1 p.2) m) (qs.foldl (fun m p => stored m p.1 p.2) n) := by
  unfold KV at r
  induction r with
  | nil =>
    intro m n k
    exact k
  | @cons p q ps qs h t ih =>
    intro m n k
    obtain ⟨h1, h2⟩ := h
    rw [List.foldl_cons, List.foldl_cons, ← h1]
    exact ih (k.put p.1 h2)
theorem fold_len (ps : List (Key × V)) : ∀ m : List (Key × V), (ps.foldl (fun m p => putK m p.1 p.2) m).length ≤ m.length + ps.length := by
  induction ps with
  | nil =>
    intro m
    exact Nat.le_refl _
  | cons p ps ih =>
    intro m
    rw [List.foldl_cons, List.length_cons]
    have h1 := ih (putK m p.1 p.2)
    have h2 := length_putK m p.1 p.2
    omega
theorem call_dictL (hc : X.calm = true) : CallR X (.type "dict") (fun xs H Q => ∃ p vs ps, xs = [V.ref p] ∧ H p = some (.lst vs) ∧ PairsIn H ps vs ∧ ps.length ≤ sizeLine ∧ ∀ d, H d = none → Q (.ref d) (upd H d (.dK (ps.foldl (fun m p => putK m p.1 p.2) [])))) := by
  intro pins s σ H xs us Q I r h
  obtain ⟨p, vs, ps, rfl, hp, pi, hz, q⟩ := h
  obtain ⟨u, rfl, ru⟩ := vals1 r
  cases ru
  obtain ⟨_, its, n, rv, ho⟩ := (show ObjOk X.prog X.w H s.heap p (.lst vs) from I.hok p _ hp)
  obtain ⟨qs, k1, k2⟩ := pairs_of I.hok pi rv
  refine dl_call (knd := mixKind X.prog X.w) (I.ok.hd hc) ho k2 (by rw [← k1.length]; exact hz) fun h' tk hd kk => ?_
  have hf := kv_fold k1 (m := []) (n := []) .nil
  have hl := fold_len ps []
  refine ⟨.ref s.heap.objs.size, _, I.laid (a := s.heap.objs.size) (o := .dK (ps.foldl (fun m p => putK m p.1 p.2) [])) (t' := tk) kk (Nat.le_refl _) ?_, rfl, q _ (I.hok.fresh (Nat.le_refl _))⟩
  exact dk_new (by simp only [List.length_nil] at hl; omega) (beq_eq_false_iff_ne.mpr (Ne.symm (Nat.ne_of_lt I.big))) hf hd
end
end L2
/-! ### the law's head, with the bound of the script's ints -/
namespace Att
open PySem PySem.W PySem.Calls PyProof.Rows
theorem weight_mem : ∀ (xs : List WData) (x : WData), x ∈ xs → WData.weight x ≤ WData.weightAll xs
  | [], _, h => by cases h
  | y :: r, x, h => by
    unfold WData.weightAll
    rcases List.mem_cons.mp h with e | e
    · subst e
      omega
    · have := weight_mem r x e
      omega
theorem bits_of_lay {ns : List Int} (h : WData.layableAll [WData.list (ns.map WData.int)] = true) : ∀ n ∈ ns, Builtin.Int.intBits n ≤ 1048576 := fun n hn => by
  have h1 : (WData.list (ns.map WData.int)).layable = true := (layW_cons h).1
  unfold WData.layable at h1
  have h2 : WData.weight (WData.list (ns.map WData.int)) ≤ 2 ^ 20 := of_decide_eq_true (Bool.and_eq_true_iff.mp h1).2
  have h3 := weight_mem (ns.map WData.int) (WData.int n) (List.mem_map.mpr ⟨n, hn, rfl⟩)
  have h4 : WData.weight (WData.list (ns.map WData.int)) = WData.weightAll (ns.map WData.int) := by
    rw [WData.weight]
  have h5 : WData.weight (WData.int n) = Builtin.Int.intBits n := by
    rw [WData.weight]
    rfl
  have e : (2 : Nat) ^ 20 = 1048576 := by decide
  omega
theorem attach_callB {l : OpenLaw} {n : Nat} {q : Program} {loose : List Str} {XP : (Str → Option Value) → Heap → Prop} {YP : World → Heap → Prop} {d : DefRec}
    (hn : l.most = some n) (hdf : d.params.defaults = [])
    (call : ∀ (w : World) (s₀ s₁ : Shared) (mg mb : Str → Option Value) (fa : Addr) (a : Addr) (vs : List Value) (ns : List Int),
      Ground q loose [] XP w s₀ mg mb s₁.heap → YP w s₁.heap → mg d.name = some (.ref fa) →
      s₁.heap.get? a = some { cls := .type "list", data := .seq vs.toArray } → IntsAre vs ns → ns.length ≤ n → (∀ x ∈ ns, Builtin.Int.intBits x ≤ 1048576) → s₁.gens = #[] →
      codeAny (model l.prog w) callerA (.call (.ref fa) ⟨[.ref a], []⟩) (fun r s' => r = .ok (.ret (.bool true)) ∧ OldK s₁.heap s'.heap ∧ s'.os = s₁.os ∧ AllBare s'.gens) s₁) :
    WalkO q loose XP YP l.row.toRowW d [] (fun f vs => PySem.call f vs) := by
  intro w s₀ s₁ mg mb G Y fa o pm cd doc dV kV ho hd hcd hD hmg hg args vals as hpre hlay hrd hwl hlo
  obtain rfl : dV = .none := Dflts.none hD hdf
  obtain rfl : kV = .none := Dflts.noKw hD
  obtain ⟨a, vs, ns, rfl, rfl, hobj, hints, hlen⟩ := script_of hn hpre hwl
  refine enter_call (codeAny_mono (call w s₀ s₁ mg mb fa a vs ns G Y hmg hobj hints hlen (bits_of_lay hlay) hg) fun r s' hq => ?_)
  obtain ⟨rfl, h2, h3, h4⟩ := hq
  exact ⟨.inl ⟨.bool true, .bool true, [], rfl, fun _ => rfl, .bool true, post_true l _, fun _ => ⟨List.Pairwise.nil, fun _ hm => (nomatch hm)⟩⟩, h2, h3, h4⟩
end Att
namespace L2
open PySem PySem.Spec PyProof.Rows
theorem walk_ofB {l : PySem.W.OpenLaw} {n k : Nat} {q : Program} {loose : List Str} {XP : (Str → Option Value) → Heap → Prop} {YP : World → Heap → Prop} {d : DefRec} {K : Params → PySem.W.Frag} {CX : World → CXT} {sp : World → Sp} {x : Str}
    (hn : l.most = some n) (hn2 : n ≤ sizeLine) (hdf : d.params.defaults = []) (hr : Room k callerA)
    (hY : ∀ (w : World) (h : Heap), YP w h → (K w.params).In h)
    (F : ∀ (w : World) (mg : Str → Option Value) (fa : Addr) (h : Heap), (K w.params).In h → h.Ns mainGlobals mg → mg d.name = some (.ref fa) →
      ∃ fd : FuncData, (∀ (s : Shared) (u : Value), BindsTo s fd ⟨[u], []⟩ [(x, u)]) ∧
        ∀ base : Heap, (K w.params).In base → base.Ns mainGlobals mg → FnOk l.prog w (K w.params) mg base (CX w) k fa fd [x] (sp w))
    (hsp : ∀ (w : World) (H : Hp) (a : Addr) (ns : List Int), ns.length ≤ n → (∀ x ∈ ns, Builtin.Int.intBits x ≤ 1048576) → SqL (K w.params) H a (ns.map V.int) → sp w [.ref a] H (fun v _ => v = .bl true) fun _ _ _ => False)
    (hCX : ∀ (w : World) (H : Hp) (s : Shared) (e : Value) (s' : Shared), CX w [] H s (fun _ _ _ => False) e s' → False) :
    PySem.W.WalkO q loose XP YP l.row.toRowW d [] (fun f vs => PySem.call f vs) := by
  refine Att.attach_callB hn hdf fun w s₀ s₁ mg mb fa a vs ns G Y hmg hobj hints hlen hbits hg => ?_
  have KX := hY w _ Y
  obtain ⟨fd, hb, hF⟩ := F w mg fa _ KX G.T.g hmg
  exact law_call KX G.T.g G.T.b G.T.builtins G.T.nolimit hg hobj hints (Nat.le_trans hlen hn2) hr hF hb (fun H hO hS => hsp w H a ns hlen hbits hS) fun H e s' => hCX w H s₁ e s'
end L2
set_option linter.all false
set_option maxRecDepth 100000
set_option maxHeartbeats 4000000
/-! == of lists, tuples and dicts that are alike, within one model -/
namespace PySem
open SeqAt MeetsSeq MeetsSeq2 MeetsSeq3 SeqRoads2
open AutoSeq1 (wpAny_loadPart')
/-- == answers True, in this one model -/
def EqIn (prog : Program) (w : World) (A : Around) (s : Shared) (y x : Value) : Prop :=
  ∀ (E : Value → Shared → Prop) (Q : Bool → Shared → Prop), Q true s → wpAny (model prog w) A (eqBool y x) Q E s
def RcIn (prog : Program) (w : World) (A : Around) (s : Shared) (y x : Value) : Prop :=
  ∀ (E : Value → Shared → Prop) (Q : Value → Shared → Prop), Q (.bool true) s → wpAny (model prog w) A (richCompare .Eq y x) Q E s
section
variable {prog : Program} {w : World} {A : Around} {s : Shared}
theorem EqIn.of_at {y x : Value} (h : EqAt A s y x true) : EqIn prog w A s y x := fun E Q q => h prog w E Q q
theorem EqIn.self (v : Value) : EqIn prog w A s v v := EqIn.of_at (EqAt.same v)
theorem EqIn.refs {l b : Addr} (h : RcIn prog w A s (.ref l) (.ref b)) : EqIn prog w A s (.ref l) (.ref b) := by
  by_cases e : l = b
  · rw [e]
    exact EqIn.self _
  · intro E Q q
    unfold eqBool
    refine wpAny_holding (wpAny_ite_split (fun z => ?_) (fun _ => ?_))
    · exact absurd (by have z' := eq_of_beq z; injection z') e
    · exact wpAny_bind (h E _ (wpAny_truthy_bool q))
theorem el_loop (l b : Addr) (xs ys : Array Value) (n m : Nat) (dd de : Option Addr) (sl sm : Array (Option Value)) (hsz : xs.size = ys.size) : ∀ k i : Nat, xs.size - i = k →
    MeetsIn prog w (Builtin.«list.__eq__.loop» ⟨[.ref l, .ref b, rawInt i, rawInt 2], []⟩) (fun A R s =>
      s.heap.get? l = some { cls := .type "list", dict := dd, data := .seq xs n, slots := sl } ∧ s.heap.get? b = some { cls := .type "list", dict := de, data := .seq ys m, slots := sm } ∧
      (∀ j (h1 : j < xs.size) (h2 : j < ys.size), EqIn prog w A.in1 s xs[j] ys[j]) ∧ R (.ok (.ret (.bool true))) s) := by
  intro k
  induction k with
  | zero =>
    intro i hk A R s q
    obtain ⟨hp, g, d, tk, os⟩ := s
    obtain ⟨q1, q2, q3, q4⟩ := q
    have a1 : xs[((i : Nat) : Int).toNat]? = none := by simp; omega
    have a2 : ys[((i : Nat) : Int).toNat]? = none := by simp; omega
    wp_walk using wpAny_loadPart' q1, wpAny_loadPart' q2
    rw [a1, a2]
    wp_walk using wpAny_loadPart' q1, wpAny_loadPart' q2
    show R (.ok (.ret (.bool (xs.size == ys.size)))) _
    rw [hsz, beq_self_eq_true]
    exact q4
  | succ k ih =>
    intro i hk A R s q
    obtain ⟨hp, g, d, tk, os⟩ := s
    obtain ⟨q1, q2, q3, q4⟩ := q
    have l1 : i < xs.size := by omega
    have l2 : i < ys.size := by omega
    have a1 : xs[((i : Nat) : Int).toNat]? = some xs[i] := by simp [l1]
    have a2 : ys[((i : Nat) : Int).toNat]? = some ys[i] := by simp [l2]
    have e1 : ((i : Int) + 1) = ((i + 1 : Nat) : Int) := by push_cast; rfl
    wp_walk using wpAny_loadPart' q1, wpAny_loadPart' q2
    rw [a1, a2]
    refine wpAny_bind (q3 i l1 l2 _ _ ?_)
    wp_walk
    rw [e1]
    refine ⟨plainId_quiet plain_eq_loop _, codeAny_builtin entry_eq_loop ?_⟩
    rw [Around.under_plainId plain_eq_loop _]
    exact ih (i + 1) (by omega) A R _ ⟨q1, q2, q3, q4⟩
theorem el_list (l b : Addr) (xs ys : Array Value) (n m : Nat) (dd de : Option Addr) (sl sm : Array (Option Value)) (hsz : xs.size = ys.size) :
    MeetsIn prog w (Builtin.«list.__eq__» ⟨[.ref l, .ref b], []⟩) (fun A R s =>
      s.heap.get? l = some { cls := .type "list", dict := dd, data := .seq xs n, slots := sl } ∧ s.heap.get? b = some { cls := .type "list", dict := de, data := .seq ys m, slots := sm } ∧
      (∀ j (h1 : j < xs.size) (h2 : j < ys.size), EqIn prog w A.in1 s xs[j] ys[j]) ∧ R (.ok (.ret (.bool true))) s) := by
  intro A R s q
  obtain ⟨hp, g, d, tk, os⟩ := s
  obtain ⟨q1, q2, q3, q4⟩ := q
  have f1 := AutoSeq1.sub_list_list
  have f2 : ¬ (xs.size != ys.size) = true := by simp [hsz]
  wp_walk using wpAny_loadPart' q1, wpAny_loadPart' q2
  refine ⟨plainId_quiet plain_eq_loop _, codeAny_builtin entry_eq_loop ?_⟩
  rw [Around.under_plainId plain_eq_loop _]
  exact el_loop l b xs ys n m dd de sl sm hsz _ 0 rfl A R _ ⟨q1, q2, q3, q4⟩
theorem RcIn.lists {l b : Addr} {xs ys : Array Value} (hl : s.heap.IsList l xs) (hb : s.heap.IsList b ys) (hsz : xs.size = ys.size) (hu : A.units < cLine)
    (he : ∀ j (h1 : j < xs.size) (h2 : j < ys.size), EqIn prog w A.in1 s xs[j] ys[j]) : RcIn prog w A s (.ref l) (.ref b) := fun E Q q => by
  obtain ⟨⟨c1, dd, t1, sl⟩, o1, rfl, n, rfl⟩ := id hl
  obtain ⟨⟨c2, de, t2, sm⟩, o2, rfl, m, rfl⟩ := id hb
  refine wpAny_richCompare_same_room (op := .Eq) ⟨_, o1, rfl⟩ ⟨_, o2, rfl⟩ F.slot_list_eq (call_meetsIn F.slot_list_eq ⟨_, o1, rfl⟩ F.entry_list_eq (F.args_list_eq_2 _ _) (el_list l b xs ys n m dd de sl sm hsz) ⟨o1, o2, he, ?_⟩) hu
  exact ⟨fun z => (nomatch z), q⟩
variable {K : Type} [DecidableEq K] {knd : KeyKind prog w K}
theorem pairs_at {es : List DictEntry} {kvs : List (K × Value)} (h : Pairs knd es kvs) : ∀ {i : Nat} {e : DictEntry}, es[i]? = some e → ∃ kv, kvs[i]? = some kv ∧ knd.is kv.1 e.key = true ∧ e.val = kv.2 := by
  induction h with
  | nil =>
    intro i e q
    simp at q
  | cons a b _ ih =>
    intro i e q
    cases i with
    | zero =>
      simp at q
      subst q
      exact ⟨_, rfl, a, b⟩
    | succ i =>
      obtain ⟨kv, z⟩ := ih (i := i) (by simpa using q)
      exact ⟨kv, by simpa using z.1, z.2⟩
/-- two dicts of the same keys, whose values are alike -/
theorem ed_pairs {nm : String} {d b : Addr} {kvs kws : List (K × Value)} {Q : Bool → Shared → Prop} {E : Value → Shared → Prop} (hd : (d == sysModules) = false) (hb : (b == sysModules) = false) (m1 : s.heap.DictOf knd d kvs) (m2 : s.heap.DictOf knd b kws)
    (hl : kvs.length = kws.length) (he : ∀ kv ∈ kvs, ∃ v', valueAt kws kv.1 = some v' ∧ EqIn prog w A s kv.2 v') (q : Q true s) : wpAny (model prog w) A (Builtin.Dict.samePairs nm d b) Q E s := by
  obtain ⟨o1, es, ep, h1, x1, t1, k1, p1, n1⟩ := id m1
  obtain ⟨o2, fs, fp, h2, x2, t2, k2, p2, n2⟩ := id m2
  have z1 : es.size = kvs.length := by rw [← p1.length, Array.length_toList]
  have z2 : fs.size = kws.length := by rw [← p2.length, Array.length_toList]
  unfold Builtin.Dict.samePairs
  unfold Builtin.Dict.showsAll
  rw [if_neg (by rw [hd]; exact Bool.false_ne_true), if_neg (by rw [hb]; exact Bool.false_ne_true)]
  refine wpAny_bind (wpAny_pure (wpAny_bind (wpAny_pure ?_)))
  refine wpAny_bind (wpAny_dictEntries h1 t1 (wpAny_bind (wpAny_dictEntries h2 t2 ?_)))
  rw [if_neg (by rw [z1, z2, hl]; simp)]
  refine wpAny_bind (wpAny_dictEpoch h1 t1 (wpAny_bind ?_))
  rw [Std.Legacy.Range.forIn_eq_forIn_range']
  simp only [Std.Legacy.Range.size, Nat.sub_zero, Nat.add_sub_cancel, Nat.div_one]
  refine wpAny_forIn_list _ (fun rest r s' => s' = s ∧ r.1 = none ∧ ∃ i, rest = List.range' i (es.size - i) ∧ i ≤ es.size) _ ?_ ?_ _ _ ⟨rfl, rfl, 0, by simp, Nat.zero_le _⟩
  · rintro x rest ⟨r1, r2⟩ s' ⟨rfl, e1, i, hr, hi⟩
    have lt : i < es.size := by
      rcases Nat.lt_or_ge i es.size with z | z
      · exact z
      · rw [Nat.sub_eq_zero_of_le z] at hr
        simp at hr
    obtain ⟨rfl, hrest⟩ : x = i ∧ rest = List.range' (i + 1) (es.size - (i + 1)) := by
      rw [show es.size - i = (es.size - (i + 1)) + 1 by omega, List.range'_succ] at hr
      injection hr with a1 a2
      exact ⟨a1, a2⟩
    obtain ⟨kv, y1, y2, y3⟩ := pairs_at p1 (i := x) (e := es[x]) (by simp [lt])
    obtain ⟨kk, y4, y5⟩ := k1 es[x] (Array.getElem_mem lt)
    have y6 : kk = kv.1 := knd.inj _ _ _ y4 y2
    subst y6
    obtain ⟨v', g1, g2⟩ := he kv (List.mem_of_getElem? y1)
    obtain ⟨o3, fs', fp', a1, _, a2, a3, hf⟩ := m2.mapOf
    rw [h2] at a1
    cases a1
    rw [t2] at a2
    cases a2
    rw [← hf kv.1, findBy_of_findIdx?] at g1
    refine wpAny_bind (wpAny_dictEntries h1 t1 ?_)
    rw [Array.getElem?_eq_getElem lt]
    dsimp only
    refine wpAny_bind (wpAny_holding (wpAny_bind ?_))
    rw [y5]
    refine wpAny_dictFind_of y2 h2 t2 k2 ?_
    cases hj : fs.findIdx? fun e => knd.is kv.1 e.key with
    | none =>
      rw [hj] at g1
      cases g1
    | some j =>
      rw [hj] at g1
      dsimp only at g1 ⊢
      refine wpAny_bind (wpAny_dictEntries h2 t2 ?_)
      cases hx : fs[j]? with
      | none =>
        simp [hx] at g1
      | some fe =>
        have g3 : fe.val = v' := by simpa [hx] using g1
        dsimp only
        refine wpAny_holding ?_
        rw [y3, g3]
        refine g2 _ _ ?_
        rw [if_neg (by decide)]
        refine wpAny_bind (wpAny_dictEpoch h1 t1 ?_)
        rw [if_neg (by simp)]
        exact wpAny_pure ⟨rfl, rfl, x + 1, hrest, lt⟩
  · rintro ⟨r1, r2⟩ s' ⟨rfl, e1, _⟩
    have e1 : r1 = none := e1
    subst e1
    exact wpAny_pure q
theorem meets_deq (d b : Addr) (hd : (d == sysModules) = false) (hb : (b == sysModules) = false) :
    MeetsIn prog w (Builtin.«dict.__eq__» ⟨[.ref d, .ref b], []⟩) (fun A R s => ∃ kvs kws, s.heap.DictOf knd d kvs ∧ s.heap.DictOf knd b kws ∧ kvs.length = kws.length ∧
      (∀ kv ∈ kvs, ∃ v', valueAt kws kv.1 = some v' ∧ EqIn prog w A.in1 s kv.2 v') ∧ R (.ok (.ret (.bool true))) s) :=
  .of_wp fun A R s h => by
    obtain ⟨kvs, kws, m1, m2, hl, he, q⟩ := h
    unfold Builtin.«dict.__eq__»
    show wpAny _ _ (Builtin.Dict.dictSlotArgs "__eq__" ⟨[.ref d, .ref b], []⟩ >>= _) _ _ s
    refine wpAny_bind ?_
    unfold Builtin.Dict.dictSlotArgs
    unfold Builtin.Dict.notOrdered
    rw [if_neg (by decide)]
    refine wpAny_bind (wpAny_pure ?_)
    show wpAny _ _ (pure (Value.ref d, Value.ref b)) _ _ s
    refine wpAny_pure ?_
    dsimp only
    refine wpAny_bind (wpAny_isInstance m2.typeIs isSubtype_dict_dict ?_)
    rw [if_neg (by decide)]
    refine wpAny_bind (wpAny_pure (wpAny_bind (wpAny_pure (wpAny_bind (ed_pairs hd hb m1 m2 hl he ?_)))))
    exact wpAny_pure ⟨_, rfl, q⟩
theorem RcIn.dicts {d b : Addr} {kvs kws : List (K × Value)} (hd : (d == sysModules) = false) (hb : (b == sysModules) = false) (m1 : s.heap.DictOf knd d kvs) (m2 : s.heap.DictOf knd b kws) (hl : kvs.length = kws.length) (hu : A.units < cLine)
    (he : ∀ kv ∈ kvs, ∃ v', valueAt kws kv.1 = some v' ∧ EqIn prog w A.in1 s kv.2 v') : RcIn prog w A s (.ref d) (.ref b) := fun E Q q =>
  wpAny_richCompare_same_room (op := .Eq) m1.typeIs m2.typeIs F.slot_dict_eq (call_meetsIn F.slot_dict_eq m1.typeIs F.entry_dict_eq (F.args_dict_eq_2 _ _) (meets_deq (knd := knd) d b hd hb) ⟨kvs, kws, m1, m2, hl, he, ⟨fun z => (nomatch z), q⟩⟩) hu
end
end PySem
set_option Elab.async false
set_option linter.all false
set_option maxRecDepth 100000
set_option maxHeartbeats 4000000
/-! == of things that are alike; dict.copy -/
namespace L2
open PySem PySem.Spec PyProof.Rows PySem.SeqAt
def sc0 : V → Prop
  | .int _ => True
  | .str _ => True
  | .bl _ => True
  | .non => True
  | _ => False
/-- alike, without dicts -/
def TEq (H : Hp) : Nat → V → V → Prop
  | 0, x, y => sc0 x ∧ x = y
  | n + 1, x, y => (sc0 x ∧ x = y) ∨ (∃ p q xs ys, x = .ref p ∧ y = .ref q ∧ H p = some (.lst xs) ∧ H q = some (.lst ys) ∧ Paired (TEq H n) xs ys) ∨
      ∃ p q xs ys, x = .ref p ∧ y = .ref q ∧ H p = some (.tup xs) ∧ H q = some (.tup ys) ∧ Paired (TEq H n) xs ys
/-- alike, with dicts outside -/
def DEq (H : Hp) : Nat → V → V → Prop
  | 0, x, y => ∃ n, n ≤ 20 ∧ TEq H n x y
  | n + 1, x, y => (∃ n, n ≤ 20 ∧ TEq H n x y) ∨ (∃ p q xs ys, x = .ref p ∧ y = .ref q ∧ H p = some (.lst xs) ∧ H q = some (.lst ys) ∧ Paired (DEq H n) xs ys) ∨
      ∃ p q kvs kws, x = .ref p ∧ y = .ref q ∧ H p = some (.dK kvs) ∧ H q = some (.dK kws) ∧ Paired (fun (a b : Key × V) => a.1 = b.1 ∧ DEq H n a.2 b.2) kvs kws
section
variable {P : Program} {w : World} {H : Hp} {s : Shared}
theorem pair_vals {R : V → V → Prop} : ∀ {xs ys : List V} {us vs : List Value}, Paired R xs ys → Vals xs us → Vals ys vs → us.length = vs.length ∧ ∀ j (h1 : j < us.length) (h2 : j < vs.length), ∃ x y, R x y ∧ RelV x us[j] ∧ RelV y vs[j]
  | _, _, _, _, .nil, .nil, .nil => ⟨rfl, fun j h1 => absurd h1 (Nat.not_lt_zero _)⟩
  | _, _, _, _, .cons r rs, .cons a as, .cons b bs => by
    obtain ⟨e, z⟩ := pair_vals rs as bs
    refine ⟨by rw [List.length_cons, List.length_cons, e], fun j h1 h2 => ?_⟩
    cases j with
    | zero => exact ⟨_, _, r, a, b⟩
    | succ j => exact z j (Nat.lt_of_succ_lt_succ h1) (Nat.lt_of_succ_lt_succ h2)
theorem sc_eqAt {A : Around} {x : V} {u v : Value} (h : sc0 x) (ru : RelV x u) (rv : RelV x v) : EqAt A s u v true := by
  cases x with
  | non => cases ru; cases rv; exact EqAt.same _
  | bl b => cases ru; cases rv; exact EqAt.same _
  | int i =>
    obtain ⟨t, rfl⟩ := ru
    obtain ⟨t', rfl⟩ := rv
    have z := EqAt.int_int (A := A) (s := s) i t i t'
    rw [beq_self_eq_true] at z
    exact z
  | str i =>
    obtain ⟨t, rfl⟩ := ru
    obtain ⟨t', rfl⟩ := rv
    have z := EqAt.str_str (A := A) (s := s) i t i t'
    rw [beq_self_eq_true] at z
    exact z
  | byt b => exact h.elim
  | flt b => exact h.elim
  | ref a => exact h.elim
  | ty a => exact h.elim
theorem isList_of (ok : HOk P w H s.heap) {p : Addr} {xs : List V} (h : H p = some (.lst xs)) : ∃ us : List Value, Vals xs us ∧ s.heap.IsList p us.toArray := by
  obtain ⟨_, us, n, r, e⟩ := (show ObjOk P w H s.heap p (.lst xs) from ok p _ h)
  exact ⟨us, r, _, e, rfl, n, rfl⟩
theorem isTup_of (ok : HOk P w H s.heap) {p : Addr} {xs : List V} (h : H p = some (.tup xs)) : ∃ us : List Value, Vals xs us ∧ s.heap.IsTuple p us.toArray := by
  obtain ⟨_, us, r, o, e, c, n, d⟩ := (show ObjOk P w H s.heap p (.tup xs) from ok p _ h)
  exact ⟨us, r, o, e, c, n, d⟩
theorem all_true (n : Nat) : ((List.range n).all fun _ => true) = true := by simp
/-- two lists, their items alike -/
theorem rc_lists (ok : HOk P w H s.heap) {R : V → V → Prop} {A : Around} {p q : Addr} {xs ys : List V} (hu : A.units < cLine) (h1 : H p = some (.lst xs)) (h2 : H q = some (.lst ys)) (r : Paired R xs ys)
    (he : ∀ x y u v, R x y → RelV x u → RelV y v → EqAt A.in1 s u v true) : RcAt A s (.ref p) (.ref q) true := by
  obtain ⟨us, r1, i1⟩ := isList_of ok h1
  obtain ⟨vs, r2, i2⟩ := isList_of ok h2
  obtain ⟨e, z⟩ := pair_vals r r1 r2
  have k := RcAt.lists (e := fun _ => true) i1 i2 (by simpa using e) hu (fun j a b => by
    obtain ⟨x, y, rr, rx, ry⟩ := z j (by simpa using a) (by simpa using b)
    simpa using he _ _ _ _ rr rx ry)
  rw [all_true] at k
  exact k
theorem rc_tups (ok : HOk P w H s.heap) {R : V → V → Prop} {A : Around} {p q : Addr} {xs ys : List V} (hu : A.units < cLine) (h1 : H p = some (.tup xs)) (h2 : H q = some (.tup ys)) (r : Paired R xs ys)
    (he : ∀ x y u v, R x y → RelV x u → RelV y v → EqAt A.in1 s u v true) : RcAt A s (.ref p) (.ref q) true := by
  obtain ⟨us, r1, i1⟩ := isTup_of ok h1
  obtain ⟨vs, r2, i2⟩ := isTup_of ok h2
  obtain ⟨e, z⟩ := pair_vals r r1 r2
  have k := RcAt.tuples (e := fun _ => true) i1 i2 hu (fun j a b => by
    obtain ⟨x, y, rr, rx, ry⟩ := z j (by simpa using a) (by simpa using b)
    simpa using he _ _ _ _ rr rx ry)
  rw [all_true, Bool.true_and, List.size_toArray, List.size_toArray, e, beq_self_eq_true] at k
  exact k
theorem EqAt.of_rc {A : Around} {l b : Addr} (h : RcAt A s (.ref l) (.ref b) true) : EqAt A s (.ref l) (.ref b) true := by
  by_cases e : l = b
  · rw [e]
    exact EqAt.same _
  · exact EqAt.of_refs e h
theorem teq_at (ok : HOk P w H s.heap) : ∀ {n : Nat} {A : Around} {x y : V} {u v : Value}, A.units + n < cLine → TEq H n x y → RelV x u → RelV y v → EqAt A s u v true
  | 0, A, x, y, u, v, hu, h, ru, rv => by
    obtain ⟨h1, rfl⟩ := h
    exact sc_eqAt h1 ru rv
  | n + 1, A, x, y, u, v, hu, h, ru, rv => by
    have hin : A.in1.units + n < cLine := by
      show A.units + 1 + n < cLine
      omega
    rcases h with ⟨h1, rfl⟩ | ⟨p, q, xs, ys, rfl, rfl, h1, h2, r⟩ | ⟨p, q, xs, ys, rfl, rfl, h1, h2, r⟩
    · exact sc_eqAt h1 ru rv
    · cases ru
      cases rv
      exact EqAt.of_rc (rc_lists ok (by omega) h1 h2 r fun _ _ _ _ z a b => teq_at ok hin z a b)
    · cases ru
      cases rv
      exact EqAt.of_rc (rc_tups ok (by omega) h1 h2 r fun _ _ _ _ z a b => teq_at ok hin z a b)
theorem rcIn_lists (ok : HOk P w H s.heap) {R : V → V → Prop} {A : Around} {p q : Addr} {xs ys : List V} (hu : A.units < cLine) (h1 : H p = some (.lst xs)) (h2 : H q = some (.lst ys)) (r : Paired R xs ys)
    (he : ∀ x y u v, R x y → RelV x u → RelV y v → EqIn P w A.in1 s u v) : RcIn P w A s (.ref p) (.ref q) := by
  obtain ⟨us, r1, i1⟩ := isList_of ok h1
  obtain ⟨vs, r2, i2⟩ := isList_of ok h2
  obtain ⟨e, z⟩ := pair_vals r r1 r2
  exact RcIn.lists i1 i2 (by simpa using e) hu (fun j a b => by
    obtain ⟨x, y, rr, rx, ry⟩ := z j (by simpa using a) (by simpa using b)
    simpa using he _ _ _ _ rr rx ry)
theorem pair_kv {κ : Type} {R : κ × V → κ × V → Prop} : ∀ {kvs kws : List (κ × V)} {us vs : List (κ × Value)}, Paired R kvs kws → KV kvs us → KV kws vs → us.length = vs.length ∧ ∀ (i : Nat) (q : κ × Value), us[i]? = some q → ∃ q' a b, vs[i]? = some q' ∧ R a b ∧ a.1 = q.1 ∧ b.1 = q'.1 ∧ RelV a.2 q.2 ∧ RelV b.2 q'.2
  | _, _, _, _, .nil, .nil, .nil => ⟨rfl, fun i q h => by simp at h⟩
  | _, _, _, _, .cons r rs, .cons a as, .cons b bs => by
    obtain ⟨e, z⟩ := pair_kv rs as bs
    refine ⟨by rw [List.length_cons, List.length_cons, e], fun i q h => ?_⟩
    cases i with
    | zero =>
      simp at h
      subst h
      exact ⟨_, _, _, rfl, r, a.1, b.1, a.2, b.2⟩
    | succ i =>
      obtain ⟨q', x, y, h1, h2⟩ := z i q (by simpa using h)
      exact ⟨q', x, y, by simpa using h1, h2⟩
theorem rcIn_dicts (ok : HOk P w H s.heap) {R : V → V → Prop} {A : Around} {p q : Addr} {kvs kws : List (Key × V)} (hu : A.units < cLine) (h1 : H p = some (.dK kvs)) (h2 : H q = some (.dK kws)) (r : Paired (fun (a b : Key × V) => a.1 = b.1 ∧ R a.2 b.2) kvs kws)
    (he : ∀ x y u v, R x y → RelV x u → RelV y v → EqIn P w A.in1 s u v) : RcIn P w A s (.ref p) (.ref q) := by
  obtain ⟨_, n1, us, k1, m1⟩ := (show ObjOk P w H s.heap p (.dK kvs) from ok p _ h1)
  obtain ⟨_, n2, vs, k2, m2⟩ := (show ObjOk P w H s.heap q (.dK kws) from ok q _ h2)
  obtain ⟨e, z⟩ := pair_kv r k1 k2
  refine RcIn.dicts n1 n2 m1 m2 e hu fun kv hkv => ?_
  obtain ⟨i, hi⟩ := List.getElem?_of_mem hkv
  obtain ⟨q', a, b, g1, ⟨g2, g3⟩, g4, g5, g6, g7⟩ := z i kv hi
  obtain ⟨_, _, _, _, _, _, _, _, nd⟩ := id m2
  have g8 : vs[i]? = some (kv.1, q'.2) := by
    rw [g1, ← g4, g2, g5]
  exact ⟨q'.2, valueAt_of_get nd g8, he _ _ _ _ g3 g6 g7⟩
theorem deq_in (ok : HOk P w H s.heap) : ∀ {n : Nat} {A : Around} {x y : V} {u v : Value}, A.units + n + 20 < cLine → DEq H n x y → RelV x u → RelV y v → EqIn P w A s u v
  | 0, A, x, y, u, v, hu, h, ru, rv => by
    obtain ⟨m, h0, h1⟩ := h
    exact EqIn.of_at (teq_at ok (by omega) h1 ru rv)
  | n + 1, A, x, y, u, v, hu, h, ru, rv => by
    have hin : A.in1.units + n + 20 < cLine := by
      show A.units + 1 + n + 20 < cLine
      omega
    rcases h with ⟨m, h0, h1⟩ | ⟨p, q, xs, ys, rfl, rfl, h1, h2, r⟩ | ⟨p, q, kvs, kws, rfl, rfl, h1, h2, r⟩
    · exact EqIn.of_at (teq_at ok (by omega) h1 ru rv)
    · cases ru
      cases rv
      exact EqIn.refs (rcIn_lists ok (by omega) h1 h2 r fun _ _ _ _ z a b => deq_in ok hin z a b)
    · cases ru
      cases rv
      exact EqIn.refs (rcIn_dicts ok (by omega) h1 h2 r fun _ _ _ _ z a b => deq_in ok hin z a b)
end
section
variable {X : Cx}
/-- x == y, of things that are alike -/
theorem op_eqD (hu : X.A.units + 50 < cLine) : OpR X (compareOp .Eq) (fun x y H Q => ∃ n p q, n ≤ 20 ∧ x = .ref p ∧ y = .ref q ∧ DEq H n x y ∧ Q (.bl true) H) := by
  intro pins s σ H x y v u Q I rx ry h
  obtain ⟨n, p, q, hn, rfl, rfl, d, k⟩ := h
  cases rx
  cases ry
  have fin : EP X pins σ Q (.bool true) s := ⟨.bl true, H, I, rfl, k⟩
  have hu1 : X.A.units < cLine := by omega
  have main : RcIn X.prog X.w X.A s (.ref p) (.ref q) := by
    have hin : ∀ m, m ≤ 20 → X.A.in1.units + m < cLine := fun m hm => by
      show X.A.units + 1 + m < cLine
      omega
    have tq : ∀ m, m ≤ 20 → TEq H m (.ref p) (.ref q) → RcIn X.prog X.w X.A s (.ref p) (.ref q) := fun m hm t => by
      cases m with
      | zero => exact t.1.elim
      | succ m =>
        rcases t with ⟨h1, _⟩ | ⟨p', q', xs, ys, e1, e2, h1, h2, r⟩ | ⟨p', q', xs, ys, e1, e2, h1, h2, r⟩
        · exact h1.elim
        · cases e1
          cases e2
          intro E Q' k'
          exact rc_lists I.hok hu1 h1 h2 r (fun _ _ _ _ z a b => teq_at I.hok (hin m (by omega)) z a b) X.prog X.w E Q' k'
        · cases e1
          cases e2
          intro E Q' k'
          exact rc_tups I.hok hu1 h1 h2 r (fun _ _ _ _ z a b => teq_at I.hok (hin m (by omega)) z a b) X.prog X.w E Q' k'
    cases n with
    | zero =>
      obtain ⟨m, hm, t⟩ := d
      exact tq m hm t
    | succ n =>
      have hin2 : X.A.in1.units + n + 20 < cLine := by
        show X.A.units + 1 + n + 20 < cLine
        omega
      rcases d with ⟨m, hm, t⟩ | ⟨p', q', xs, ys, e1, e2, h1, h2, r⟩ | ⟨p', q', kvs, kws, e1, e2, h1, h2, r⟩
      · exact tq m hm t
      · cases e1
        cases e2
        exact rcIn_lists I.hok hu1 h1 h2 r fun _ _ _ _ z a b => deq_in I.hok hin2 z a b
      · cases e1
        cases e2
        exact rcIn_dicts I.hok hu1 h1 h2 r fun _ _ _ _ z a b => deq_in I.hok hin2 z a b
  exact main _ _ fin
/-- x != y, of things that are alike, without dicts -/
theorem op_neT (hu : X.A.units + 50 < cLine) : OpR X (compareOp .NotEq) (fun x y H Q => ∃ n p q, n ≤ 20 ∧ x = .ref p ∧ y = .ref q ∧ TEq H n x y ∧ Q (.bl false) H) := by
  intro pins s σ H x y v u Q I rx ry h
  obtain ⟨n, p, q, hn, rfl, rfl, d, k⟩ := h
  cases rx
  cases ry
  have fin : EP X pins σ Q (.bool false) s := ⟨.bl false, H, I, rfl, k⟩
  have hu1 : X.A.units < cLine := by omega
  cases n with
  | zero => exact d.1.elim
  | succ m =>
    have hin : X.A.in1.units + m < cLine := by
      show X.A.units + 1 + m < cLine
      omega
    rcases d with ⟨h1, _⟩ | ⟨p', q', xs, ys, e1, e2, h1, h2, r⟩ | ⟨p', q', xs, ys, e1, e2, h1, h2, r⟩
    · exact h1.elim
    · cases e1
      cases e2
      obtain ⟨us, r1, i1⟩ := isList_of I.hok h1
      obtain ⟨vs, r2, i2⟩ := isList_of I.hok h2
      obtain ⟨e, z⟩ := pair_vals r r1 r2
      have k := RcNeAt.lists (A := X.A) (e := fun _ => true) i1 i2 (by simpa using e) hu1 (fun j a b => by
        obtain ⟨x, y, rr, rx, ry⟩ := z j (by simpa using a) (by simpa using b)
        simpa using teq_at I.hok hin rr rx ry)
      rw [all_true] at k
      exact k X.prog X.w _ _ fin
    · cases e1
      cases e2
      obtain ⟨us, r1, i1⟩ := isTup_of I.hok h1
      obtain ⟨vs, r2, i2⟩ := isTup_of I.hok h2
      obtain ⟨e, z⟩ := pair_vals r r1 r2
      have k := RcNeAt.tuples (A := X.A) (e := fun _ => true) i1 i2 hu1 (fun j a b => by
        obtain ⟨x, y, rr, rx, ry⟩ := z j (by simpa using a) (by simpa using b)
        simpa using teq_at I.hok hin rr rx ry)
      rw [all_true, Bool.true_and, List.size_toArray, List.size_toArray, e, beq_self_eq_true] at k
      exact k X.prog X.w _ _ fin
/-- d.copy() -/
def rDCopy : V → List V → Hp → VK → Prop := fun x vs H Q => ∃ d kvs, x = .ref d ∧ vs = [] ∧ H d = some (.dK kvs) ∧ ∀ p, H p = none → Q (.ref p) (upd H p (.dK kvs))
theorem mt_dcopy : MtR X "dict.copy" rDCopy := by
  intro pins s σ H x vs v us Q I rx rv h
  obtain ⟨d, kvs, rfl, rfl, hd, q⟩ := h
  cases rx
  cases rv
  obtain ⟨hz, n1, ws, k1, m1⟩ := (show ObjOk X.prog X.w H s.heap d (.dK kvs) from I.hok d _ hd)
  refine call_meetsIn PySem.F.slot_dict_copy m1.typeIs PySem.F.entry_dict_copy (PySem.F.args_dict_copy_1 _) (meets_dict_copy (mixKind X.prog X.w) d n1) ⟨ws, m1, by rw [← k1.length]; exact hz, fun h' hn _ kk => ?_⟩
  exact ⟨.ref s.heap.objs.size, _, I.laid (a := s.heap.objs.size) (o := .dK kvs) (t' := s.toks) kk (Nat.le_refl _) (dk_new hz (beq_eq_false_iff_ne.mpr (Ne.symm (Nat.ne_of_lt I.big))) k1 hn), rfl, q _ (I.hok.fresh (Nat.le_refl _))⟩
theorem hu50 {A : Around} {k : Nat} (hr : Room k A) : A.units + 50 < cLine := by
  have := hr.un
  omega
end
end L2
set_option Elab.async false
set_option linter.all false
set_option maxRecDepth 100000
set_option maxHeartbeats 4000000
/-! dicts by their bare entries: walked by min; a key that is an object, taken out -/
namespace PySem
open Sem (wp)
/-- the bare entries of a dict -/
def BareD (h : Heap) (d : Addr) (es : Array DictEntry) (ep : Nat) : Prop := ∃ o, h.get? d = some o ∧ o.ExactDict ∧ o.data = .dict es ep
theorem BareD.at {h h' : Heap} {d : Addr} {es : Array DictEntry} {ep : Nat} (x : BareD h d es ep) (e : ∀ o, h.get? d = some o → h'.get? d = some o) : BareD h' d es ep := by
  obtain ⟨o, a, b⟩ := x
  exact ⟨o, e o a, b⟩
section
variable {prog : Program} {w : World} {A : Around} {E : Value → Shared → Prop} {s : Shared}
theorem bare_iter {d : Addr} {es : Array DictEntry} {ep : Nat} {Q : Value → Shared → Prop} (hd : (d == sysModules) = false) (hm : BareD s.heap d es ep)
    (q : Q (.ref s.heap.objs.size) { s with heap := s.heap.push { cls := .type "dict_keyiterator", data := .fields #[.ref d, .int 0 0, .int es.size 0, .int ep 0] } }) :
    wpAny (model prog w) A (pyIter (.ref d)) Q E s := by
  obtain ⟨o, ho, hc, hx⟩ := hm
  have ty : s.TypeIs (.ref d) "dict" := ⟨o, ho, hc.1⟩
  refine wpAny_pyIter_slot ty F.slot_dict_iter (wpAny_call_entry F.slot_dict_iter ty F.entry_dict_iter ?_ (F.args_dict_iter_1 _))
  unfold Builtin.«dict.__iter__» Builtin.Dict.dictSlotNone
  refine wpAny_bind (wpAny_bind (wpAny_notOrdered_dict ty ?_))
  refine wpAny_pure (a := Value.ref d) ?_
  show wpAny _ _ (Builtin.Dict.showsAll d >>= _) _ _ s
  unfold Builtin.Dict.showsAll
  rw [if_neg (fun z => by rw [hd] at z; cases z)]
  refine wpAny_bind (wpAny_pure (wpAny_bind (wpAny_dictEntries ho hx (wpAny_bind (wpAny_dictEpoch ho hx ?_)))))
  refine wpAny_bind (wpAny_newObj_type (wpAny_pure ⟨_, rfl, "dict_keyiterator", _, ⟨_, Heap.get?_push_size _ rfl, rfl⟩, F.slot_dict_keyiterator_next.lookup, ?_⟩))
  simpa [rawInt] using q
theorem bare_item {I d : Addr} {i ep : Nat} {es : Array DictEntry} {e : DictEntry} {Q : Option Value → Shared → Prop} (hit : s.heap.IsKeyIter I d i es.size ep) (hm : BareD s.heap d es ep) (he : es[i]? = some e)
    (q : ∀ h', h'.IsKeyIter I d (i + 1) es.size ep → Heap.SameBut I s.heap h' → Q (some e.key) { s with heap := h' }) : wpAny (model prog w) A (pyNext (.ref I)) Q E s := by
  obtain ⟨oi, hoi, hci, hdi⟩ := id hit
  obtain ⟨o, ho, hc, hx⟩ := hm
  have lt : i < es.size := (Array.getElem?_eq_some_iff.mp he).1
  unfold pyNext
  refine wpAny_bind (wpAny_attempt (wpAny_callSpecial?_slot (name := Str.ofString "__next__") hit.typeIs F.slot_dict_keyiterator_next
    (wpAny_call_entry F.slot_dict_keyiterator_next hit.typeIs F.entry_dict_keyiterator_next ?_ (F.args_dict_keyiterator_next_1 _))))
  refine wpAny_bind (wpAny_pure (wpAny_bind (wpAny_bind ?_)))
  first | refine wpAny_bind (wpAny_typeNameOfWhole_keyiter hit.typeIs (wpAny_pure ?_)) | refine wpAny_bind (wpAny_typeNameOf_keyiter hit.typeIs (wpAny_pure ?_))
  refine wpAny_bind (wpAny_fieldsOf hoi hdi ?_)
  have own0 : Builtin.Dict_items.ownsTuple "dict_keyiterator" = false := by decide
  simp only [own0, Bool.false_eq_true, if_false]
  show wpAny _ _ (if (Value.ref d == Value.none) = true then _ else _) _ _ s
  rw [if_neg (show ¬ (Value.ref d == Value.none) = true from Bool.false_ne_true)]
  refine wpAny_bind (wpAny_pure (wpAny_bind (wpAny_dictEntries ho hx ?_)))
  rw [if_neg (by simp)]
  refine wpAny_bind (wpAny_pure (wpAny_bind (wpAny_dictEpoch ho hx ?_)))
  rw [if_neg (by simp)]
  refine wpAny_pure ?_
  simp only [show ¬ ((i : Int) < 0) from by omega, if_false, Int.toNat_natCast, he]
  refine wpAny_bind ?_
  first | refine wpAny_bind (wpAny_typeNameOfWhole_keyiter hit.typeIs (wpAny_pure ?_)) | refine wpAny_bind (wpAny_typeNameOf_keyiter hit.typeIs (wpAny_pure ?_))
  refine wpAny_bind (wpAny_isOneOf_keyiter hit.typeIs ?_)
  show wpAny _ _ (setField (.ref I) 1 (rawInt ((i : Int) + 1)) >>= _) _ _ s
  refine wpAny_bind (wpAny_setField hoi hdi (by simp) ?_)
  have next : (s.heap.update I (Obj.mapFields (·.setIfInBounds 1 (rawInt ((i : Int) + 1))))).IsKeyIter I d (i + 1) es.size ep :=
    ⟨_, Heap.get?_update_self _ hoi (Obj.isFreed_of_fields (Obj.data_mapFields hdi _)), (Obj.cls_mapFields ..).trans hci, by rw [Obj.data_mapFields hdi]; simp [rawInt]⟩
  refine wpAny_bind (wpAny_holding (wpAny_bind (wpAny_isOneOf_keyiter (s := { s with heap := s.heap.update I (Obj.mapFields (·.setIfInBounds 1 (rawInt ((i : Int) + 1)))) }) next.typeIs ?_)))
  refine wpAny_pure (a := e.key) ?_
  exact wpAny_pure ⟨_, rfl, wpAny_pure (q _ next (Heap.SameBut.update ..))⟩
theorem bare_end {I d : Addr} {i ep : Nat} {es : Array DictEntry} {Q : Option Value → Shared → Prop} (hh : A.handled = none) (hit : s.heap.IsKeyIter I d i es.size ep) (hm : BareD s.heap d es ep) (he : es[i]? = none)
    (q : ∀ h', Heap.ExtBut I s.heap h' → Q none { s with heap := h' }) : wpAny (model prog w) A (pyNext (.ref I)) Q E s := by
  obtain ⟨oi, hoi, hci, hdi⟩ := id hit
  obtain ⟨o, ho, hc, hx⟩ := hm
  unfold pyNext
  refine wpAny_bind (wpAny_attempt (wpAny_callSpecial?_slot (name := Str.ofString "__next__") hit.typeIs F.slot_dict_keyiterator_next
    (wpAny_call_entry F.slot_dict_keyiterator_next hit.typeIs F.entry_dict_keyiterator_next ?_ (F.args_dict_keyiterator_next_1 _))))
  refine wpAny_bind (wpAny_pure (wpAny_bind (wpAny_bind ?_)))
  first | refine wpAny_bind (wpAny_typeNameOfWhole_keyiter hit.typeIs (wpAny_pure ?_)) | refine wpAny_bind (wpAny_typeNameOf_keyiter hit.typeIs (wpAny_pure ?_))
  refine wpAny_bind (wpAny_fieldsOf hoi hdi ?_)
  have own0 : Builtin.Dict_items.ownsTuple "dict_keyiterator" = false := by decide
  simp only [own0, Bool.false_eq_true, if_false]
  show wpAny _ _ (if (Value.ref d == Value.none) = true then _ else _) _ _ s
  rw [if_neg (show ¬ (Value.ref d == Value.none) = true from Bool.false_ne_true)]
  refine wpAny_bind (wpAny_pure (wpAny_bind (wpAny_dictEntries ho hx ?_)))
  rw [if_neg (by simp)]
  refine wpAny_bind (wpAny_pure (wpAny_bind (wpAny_dictEpoch ho hx ?_)))
  rw [if_neg (by simp)]
  refine wpAny_pure ?_
  simp only [show ¬ ((i : Int) < 0) from by omega, if_false, Int.toNat_natCast, he]
  refine wpAny_bind ?_
  first | refine wpAny_bind (wpAny_typeNameOfWhole_keyiter hit.typeIs (wpAny_pure ?_)) | refine wpAny_bind (wpAny_typeNameOf_keyiter hit.typeIs (wpAny_pure ?_))
  show wpAny _ _ (setField (.ref I) 0 .none >>= _) _ _ s
  refine wpAny_bind (wpAny_setField hoi hdi (by simp) ?_)
  show wpAny _ _ (newExc (.type "StopIteration") [] >>= _) _ _ _
  refine wpAny_bind ?_
  simp only [newExc, newTuple]
  refine wpAny_bind (wpAny_newObj_type ?_ (by size_fits))
  refine wpAny_bind (m := firstArgMember _ _) (wpAny_of_eq (a := Value.none) (by first | rfl | (simp only [firstArgMember]; rfl)) ?_)
  refine wpAny_newObj_type ?_ (by size_fits)
  simp only [raiseNew]
  refine wpAny_bind (wpAny_handled ?_)
  rw [show A.in1.handled = none from hh]
  refine wpAny_bind (wpAny_pure (wpAny_throw ?_))
  refine wpAny_bind (wpAny_isInstance (T := "StopIteration") (b := true) ⟨_, Heap.get?_push_size _ rfl, rfl⟩ isSubtype_stop ?_)
  exact wpAny_pure (q _ (((Heap.SameBut.update ..).extBut.push _).push _))
/-- a dict is walked: its keys, in order -/
theorem bare_walks (hh : A.handled = none) (I d : Addr) (hne : d ≠ I) (es : Array DictEntry) (ep : Nat) :
    Walks prog w A I [I, d] [I] es.size (fun i v => ∃ e, es[i]? = some e ∧ v = e.key) (fun i h => h.IsKeyIter I d i es.size ep ∧ BareD h d es ep) where
  sub := fun b hb => by
    rw [List.mem_singleton.mp hb]
    exact List.mem_cons_self
  frame := fun _ _ _ st hk => ⟨st.1.at fun o e => hk I (by simp) o e, st.2.at fun o e => hk d (by simp) o e⟩
  item := fun i s Q E hi st hQ => by
    have he : es[i]? = some es[i] := by simp [hi]
    refine bare_item st.1 st.2 he fun h' it' hs' => ?_
    exact hQ _ h' s.toks ⟨_, he, rfl⟩ ⟨it', st.2.at fun o e => hs'.extBut d o hne e⟩ fun b o hb e => hs'.extBut b o (fun h => hb (by simp [h])) e
  done := fun s Q E st hQ => bare_end hh st.1 st.2 (by simp) fun h' he' => hQ h' s.toks fun b o hb e => he' b o (fun h => hb (by simp [h])) e
  self := fun _ _ _ _ st hQ => wpAny_pyIter_keyiter st.1 hQ
end

/-! min, where the comparison reads the heap -/
/-- comparing two of the walked things, wherever the heap keeps G -/
def CmpIn (prog : Program) (w : World) (A : Around) (op : CmpOp) (P : Nat → Value → Prop) (G : Heap → Prop) (bt : Nat → Nat → Bool) : Prop :=
  ∀ i j vi vj (s : Shared) (Q : Value → Shared → Prop) (E : Value → Shared → Prop), P i vi → P j vj → G s.heap → Q (.bool (bt i j)) s → wpAny (model prog w) A (richCompare op vi vj) Q E s
section
variable {prog : Program} {w : World} {A : Around} {R : Result → Shared → Prop} {I : Addr} {fp wr : List Addr} {n : Nat} {P : Nat → Value → Prop} {St : Nat → Heap → Prop} {G : Heap → Prop}
theorem least_loop (W : Walks prog w A.in1 I fp wr n P St) (bt : Nat → Nat → Bool) (hcmp : CmpIn prog w A.in1 .Lt P G bt) (S : Addr) (hSf : S ∉ fp)
    (hG : ∀ h h' : Heap, G h → (∀ b o, b ∉ wr → b ≠ S → h.get? b = some o → h'.get? b = some o) → G h') :
    ∀ (k j : Nat) (s : Shared) (vb : Value) (c : Nat), n - (j + 1) = k → j + 1 ≤ n → St (j + 1) s.heap → G s.heap → P (argBest bt j) vb →
    s.heap.get? S = some { cls := .type "list", dict := none, data := .seq #[vb, vb] c, slots := #[] } →
    (∀ v h' tk, P (argBest bt (n - 1)) v → (∀ b o, b ∉ wr → b ≠ S → s.heap.get? b = some o → h'.get? b = some o) → R (.ok (.ret v)) { s with heap := h', toks := tk }) →
    codeAny (model prog w) A (.builtin "min.loop" ⟨[.ref I, .none, .ref S], []⟩) R s := by
  have hSw : S ∉ wr := fun h => hSf (W.sub _ h)
  have nm : (toString "min" ++ toString ".loop" : String) = "min.loop" := by decide
  intro k
  induction k with
  | zero =>
    intro j s vb c hk hj hst hg hPb hS hR
    have hin : j + 1 = n := by omega
    refine codeAny_builtin F.entry_min_loop ?_
    rw [Around.under_plainId F.plain_min_loop _]
    show wpAny _ A.in1 (seqItems? (.ref S) >>= _) _ _ s
    refine wpAny_bind (wpAny_seqItems hS rfl ?_)
    show wpAny _ A.in1 (tryCatch (pyNext (.ref I)) _ >>= _) _ _ s
    refine wpAny_bind (wpAny_tryCatch (W.done s _ _ (hin ▸ hst) fun h' tk kp => ?_))
    show wpAny _ A.in1 (updateSeq S (fun _ => #[]) >>= _) _ _ _
    refine wpAny_bind (wpAny_updateSeq (kp S _ hSw hS) rfl (wpAny_bind (wpAny_letGo (wpAny_pure ?_))))
    exact hR vb _ tk (by rw [← hin]; exact hPb) fun b o hbw hbS e => (Heap.get?_update_other _ _ (Ne.symm hbS)).trans (kp b o hbw e)
  | succ k ih =>
    intro j s vb c hk hj hst hg hPb hS hR
    have hlt : j + 1 < n := by omega
    refine codeAny_builtin F.entry_min_loop ?_
    rw [Around.under_plainId F.plain_min_loop _]
    show wpAny _ A.in1 (seqItems? (.ref S) >>= _) _ _ s
    refine wpAny_bind (wpAny_seqItems hS rfl ?_)
    show wpAny _ A.in1 (tryCatch (pyNext (.ref I)) _ >>= _) _ _ s
    refine wpAny_bind (wpAny_tryCatch (W.item (j + 1) s _ _ hlt hst fun v h' tk hP hst' kp => ?_))
    have hS' := kp S _ hSw hS
    have g1 : G h' := hG _ _ hg fun b o hb _ e => kp b o hb e
    show wpAny _ A.in1 (tryCatch (holding [v, v] (richCompare .Lt v vb >>= _)) _ >>= _) _ _ _
    refine wpAny_bind (wpAny_tryCatch (wpAny_holding (wpAny_bind (hcmp (j + 1) (argBest bt j) v vb _ _ _ hP hPb g1 ?_))))
    refine wpAny_bind (wpAny_holding (wpAny_truthy_bool (wpAny_bind (wpAny_letGo (wpAny_pure ?_)))))
    cases hb : bt (j + 1) (argBest bt j) with
    | true =>
      simp only [if_true]
      refine wpAny_bind (wpAny_updateSeq hS' rfl (wpAny_bind (wpAny_letGo ?_)))
      rw [nm]
      refine wpAny_pure ⟨plainId_quiet F.plain_min_loop _, ih (j + 1) _ v _ (by omega) hlt (W.frame _ _ _ hst' fun b hbf o e => ?_) (hG _ _ g1 fun b o _ hbS e => (Heap.get?_update_other _ _ (Ne.symm hbS)).trans e)
        (by simp only [argBest, hb, if_true]; exact hP) (Heap.get?_update_self _ hS' rfl) fun v' h'' tk'' hP' kp' => ?_⟩
      · exact (Heap.get?_update_other _ _ (fun h : S = b => hSf (by rw [h]; exact hbf))).trans e
      · exact hR v' h'' tk'' hP' fun b o hbw hbS e => kp' b o hbw hbS ((Heap.get?_update_other _ _ (Ne.symm hbS)).trans (kp b o hbw e))
    | false =>
      simp only [Bool.false_eq_true, if_false]
      refine wpAny_bind (wpAny_letGo ?_)
      rw [nm]
      refine wpAny_pure ⟨plainId_quiet F.plain_min_loop _, ih (j + 1) _ vb c (by omega) hlt hst' g1 (by simp only [argBest, hb, Bool.false_eq_true, if_false]; exact hPb) hS' fun v' h'' tk'' hP' kp' => ?_⟩
      exact hR v' h'' tk'' hP' fun b o hbw hbS e => kp' b o hbw hbS (kp b o hbw e)
theorem least_first (W : Walks prog w A.in1 I fp wr n P St) (bt : Nat → Nat → Bool) (hcmp : CmpIn prog w A.in1 .Lt P G bt) (S : Addr) (hSf : S ∉ fp)
    (hG : ∀ h h' : Heap, G h → (∀ b o, b ∉ wr → b ≠ S → h.get? b = some o → h'.get? b = some o) → G h') (hn : 0 < n) {s : Shared} {c : Nat} (hst : St 0 s.heap) (hg : G s.heap)
    (hS : s.heap.get? S = some { cls := .type "list", dict := none, data := .seq #[] c, slots := #[] })
    (hR : ∀ v h' tk, P (argBest bt (n - 1)) v → (∀ b o, b ∉ wr → b ≠ S → s.heap.get? b = some o → h'.get? b = some o) → R (.ok (.ret v)) { s with heap := h', toks := tk }) :
    codeAny (model prog w) A (.builtin "min.loop" ⟨[.ref I, .none, .ref S], []⟩) R s := by
  have hSw : S ∉ wr := fun h => hSf (W.sub _ h)
  have nm : (toString "min" ++ toString ".loop" : String) = "min.loop" := by decide
  refine codeAny_builtin F.entry_min_loop ?_
  rw [Around.under_plainId F.plain_min_loop _]
  show wpAny _ A.in1 (seqItems? (.ref S) >>= _) _ _ s
  refine wpAny_bind (wpAny_seqItems hS rfl ?_)
  show wpAny _ A.in1 (tryCatch (pyNext (.ref I)) _ >>= _) _ _ s
  refine wpAny_bind (wpAny_tryCatch (W.item 0 s _ _ hn hst fun v h' tk hP hst' kp => ?_))
  have hS' := kp S _ hSw hS
  have g1 : G h' := hG _ _ hg fun b o hb _ e => kp b o hb e
  show wpAny _ A.in1 (updateSeq S (fun _ => #[v, v]) >>= _) _ _ _
  refine wpAny_bind (wpAny_updateSeq hS' rfl ?_)
  rw [nm]
  refine wpAny_pure ⟨plainId_quiet F.plain_min_loop _, least_loop W bt hcmp S hSf hG _ 0 _ v _ rfl hn (W.frame _ _ _ hst' fun b hbf o e => ?_) (hG _ _ g1 fun b o _ hbS e => (Heap.get?_update_other _ _ (Ne.symm hbS)).trans e) hP (Heap.get?_update_self _ hS' rfl) fun v' h'' tk'' hP' kp' => ?_⟩
  · exact (Heap.get?_update_other _ _ (fun h : S = b => hSf (by rw [h]; exact hbf))).trans e
  · exact hR v' h'' tk'' hP' fun b o hbw hbS e => kp' b o hbw hbS ((Heap.get?_update_other _ _ (Ne.symm hbS)).trans (kp b o hbw e))
end
section
variable {prog : Program} {w : World} {A : Around} {E : Value → Shared → Prop} {s : Shared}
/-- min(x) of one walked thing -/
theorem call_least {x : Value} {Q : Value → Shared → Prop}
    (h : wpAny (model prog w) A.in1 (pyIter x) (fun it s₂ => ∃ I fp wr n P St G bt, it = .ref I ∧ Walks prog w A.in1 I fp wr n P St ∧ St 0 s₂.heap ∧ G s₂.heap ∧ (∀ b ∈ fp, b < s₂.heap.objs.size) ∧ 0 < n ∧ CmpIn prog w A.in1 .Lt P G bt ∧
      (∀ h h' : Heap, G h → (∀ b o, b ∉ wr → b ≠ s₂.heap.objs.size → h.get? b = some o → h'.get? b = some o) → G h') ∧
      ∀ v h' tk, P (argBest bt (n - 1)) v → (∀ b o, b ∉ wr → s₂.heap.get? b = some o → h'.get? b = some o) → Q v { s₂ with heap := h', toks := tk }) E s) :
    wpAny (model prog w) A (call (.builtin "min") [x]) Q E s := by
  have nm : (toString "min" ++ toString ".loop" : String) = "min.loop" := by decide
  refine call_function_tree F.kind_min F.plain_min F.entry_min (F.args_min1 _) ?_
  show wpAny _ A.in1 (Builtin.Builtins.bindParams "min" ["key", "default"] 0 ⟨[], []⟩ >>= _) _ _ s
  refine wpAny_bind (wpAny_of_eq (show Builtin.Builtins.bindParams "min" ["key", "default"] 0 ⟨[], []⟩ = pure [none, none] from rfl) (wpAny_bind (wpAny_pure ?_)))
  refine wpAny_bind (wpAny_mono h (fun it s₂ h₂ => ?_) fun _ _ e => e)
  obtain ⟨I, fp, wr, n, P, St, G, bt, rfl, W, hst, hg, hfp, hn, hcmp, hG, hQ⟩ := h₂
  refine wpAny_bind (wpAny_newObj_type ?_)
  have hSf : s₂.heap.objs.size ∉ fp := fun hm => Nat.lt_irrefl _ (hfp _ hm)
  rw [nm]
  have kp : ∀ b o, s₂.heap.get? b = some o → (s₂.heap.push { cls := .type "list", data := .seq ([] : List Value).toArray }).get? b = some o := fun b o e => Heap.get?_push_of_some _ e
  refine wpAny_pure ⟨plainId_quiet F.plain_min_loop _, least_first W bt hcmp s₂.heap.objs.size hSf hG hn (W.frame _ _ _ hst fun b _ o e => kp b o e) (hG _ _ hg fun b o _ _ e => kp b o e) (Heap.get?_push_size _ rfl) fun v h' tk hP hk => ?_⟩
  exact hQ v h' tk hP fun b o hbw e => hk b o hbw (Nat.ne_of_lt (Heap.lt_size e)) (kp b o e)
end

/-! a key that is an object, taken out -/
section
variable {prog : Program} {w : World} {K : Type} [DecidableEq K] {knd : HeapKind prog w K} {A : Around} {E : Value → Shared → Prop} {s : Shared}
/-- the pairs without the key -/
def lessH (xs : List (K × Addr × Value)) (k : K) : List (K × Addr × Value) := xs.filter fun x => !decide (x.1 = k)
theorem erase_less : ∀ {xs : List (K × Addr × Value)} {j : Nat} {k : K} {p : Addr × Value}, (xs.map (·.1)).Nodup → xs[j]? = some (k, p) → xs.eraseIdx j = lessH xs k
  | [], j, k, p, _, h => by simp at h
  | x :: r, 0, k, p, hn, h => by
    simp only [List.getElem?_cons_zero, Option.some.injEq] at h
    subst h
    obtain ⟨h1, _⟩ := List.nodup_cons.mp (show (k :: r.map (·.1)).Nodup from hn)
    show r = List.filter _ ((k, p) :: r)
    rw [List.filter_cons, if_neg (by simp)]
    symm
    rw [List.filter_eq_self]
    intro a ha
    simp only [Bool.not_eq_eq_eq_not, Bool.not_true, decide_eq_false_iff_not]
    exact fun e => h1 (List.mem_map.mpr ⟨a, ha, e⟩)
  | x :: r, j + 1, k, p, hn, h => by
    simp only [List.getElem?_cons_succ] at h
    obtain ⟨h1, h2⟩ := List.nodup_cons.mp (show (x.1 :: r.map (·.1)).Nodup from hn)
    have ne : ¬ x.1 = k := fun e => h1 (List.mem_map.mpr ⟨(k, p), List.mem_of_getElem? h, e.symm⟩)
    show x :: r.eraseIdx j = List.filter _ (x :: r)
    rw [List.filter_cons, if_pos (by simp [ne]), erase_less h2 h]
    rfl
theorem erase_map {α β : Type} (f : α → β) : ∀ (l : List α) (j : Nat), (l.map f).eraseIdx j = (l.eraseIdx j).map f
  | [], _ => rfl
  | _ :: _, 0 => rfl
  | x :: r, j + 1 => by
    show f x :: (r.map f).eraseIdx j = f x :: (r.eraseIdx j).map f
    rw [erase_map f r j]
theorem pop_heap {d a : Addr} {xs : List (K × Addr × Value)} {k : K} {p : Addr × Value} {Q : Value → Shared → Prop} (hu : knd.room A.in1) (hkey : knd.is s.heap k a) (hm : s.heap.DictOfH knd d xs) (hz : xs.length ≤ sizeLine)
    (hp : atKey xs k = some p) (hQ : ∀ h', h'.DictOfH knd d (lessH xs k) → Heap.SameBut d s.heap h' → Q p.2 { s with heap := h', toks := s.toks + knd.draws k }) :
    wpAny (model prog w) A (call (.builtin "dict.pop") [.ref d, .ref a]) Q E s := by
  refine wpAny_call_entry F.slot_dict_pop hm.typeIs F.entry_dict_pop ?_ (F.args_dict_pop_2 _ _)
  have ty := hm.typeIs
  obtain ⟨o, es, ep, ho, hc, hd, he, his, hn⟩ := id hm
  have ne : ¬ es.isEmpty = true := fun z => by
    have z2 : es.size = 0 := by simpa using z
    rw [size_of_entries he] at z2
    rw [List.length_eq_zero_iff.mp z2] at hp
    cases hp
  unfold Builtin.«dict.pop» Builtin.Dict.keyAndDefault
  refine wpAny_bind (wpAny_bind (wpAny_notOrdered_dict ty ?_))
  refine wpAny_pure (a := (d, Value.ref a, none)) ?_
  show wpAny _ _ (if (keyPart (.ref a)).isSome = true then _ else _) _ _ s
  rw [if_neg (show ¬ (keyPart (.ref a)).isSome = true from fun z => nomatch z)]
  refine wpAny_bind (wpAny_dictEntries ho hd (wpAny_bind (wpAny_pure ?_)))
  show wpAny _ _ (if es.isEmpty = true then _ else _) _ _ s
  rw [if_neg ne]
  refine wpAny_bind ?_
  unfold Builtin.Dict.takeOut
  try with_reducible refine wpAny_holding ?_
  refine wpAny_bind (knd.pyHash hu hkey (wpAny_bind (wpAny_dictFind_heap (s := { s with toks := s.toks + knd.draws k }) hu hkey ho hd he his hn ?_ ?_)))
  · intro hno
    rw [atKey_none_of_get hno] at hp
    cases hp
  · intro j q hj
    rw [atKey_of_get hn hj] at hp
    cases hp
    refine wpAny_bind (wpAny_dictEntries (s := { s with toks := s.toks + knd.draws k }) ho hd ?_)
    rw [entry_at he j, hj]
    refine wpAny_bind (wpAny_updateDictKeys (hz := by rw [size_of_entries he]; exact hz) (s := { s with toks := s.toks + knd.draws k }) ho hd (wpAny_pure ?_))
    simp only [Option.isNone_some, Bool.false_eq_true, if_false]
    refine wpAny_bind (wpAny_letGo (wpAny_pure ⟨_, rfl, ?_⟩))
    refine hQ _ ⟨_, _, ep + 1, Heap.get?_update_self _ ho (Obj.isFreed_of_dict (Obj.data_mapDictKeys hd _)), hc.mapDictKeys _, Obj.data_mapDictKeys hd _, ?_, fun x hx => ?_, ?_⟩ (Heap.SameBut.update ..)
    · rw [← erase_less hn hj, ← erase_map, ← he]
      obtain ⟨l⟩ := es
      simp
    · exact knd.keeps (his x (List.mem_filter.mp hx).1) ho hd (Heap.SameBut.update ..)
    · exact List.Sublist.nodup (List.Sublist.map _ List.filter_sublist) hn
end
/-! len and truth by the bare entries -/
section
variable {prog : Program} {w : World} {A : Around} {E : Value → Shared → Prop} {s : Shared}
theorem bare_lenM (d : Addr) (hd : (d == sysModules) = false) : MeetsIn prog w (Builtin.«dict.__len__» ⟨[.ref d], []⟩) (fun _ R s => ∃ es ep, BareD s.heap d es ep ∧ R (.ok (.ret (.int es.size s.toks))) { s with toks := s.toks + 1 }) :=
  .of_wp fun A R s ⟨es, ep, ⟨o, ho, hc, hx⟩, h⟩ => by
    show wpAny _ _ (dictSize d >>= _) _ _ s
    unfold dictSize
    refine wpAny_bind (wpAny_bind (wpAny_dictEntries ho hx (wpAny_pure ?_)))
    show wpAny _ _ (Builtin.Dict.pendingCount d >>= _) _ _ s
    exact wpAny_bind (wpAny_pendingCount_other hd (wpAny_ret_mkInt h))
theorem bare_lenB {d : Addr} {es : Array DictEntry} {ep : Nat} {Q : Value → Shared → Prop} (hd : (d == sysModules) = false) (hm : BareD s.heap d es ep) (hf : (es.size : Int) < 2 ^ 63)
    (h : Q (.int es.size (s.toks + 1)) { s with toks := s.toks + 1 + 1 }) : wpAny (model prog w) A (Builtin.«len» ⟨[.ref d], []⟩) (fun fin s' => ∃ r, fin = .done (.ret r) ∧ Q r s') E s := by
  have ty : s.TypeIs (.ref d) "dict" := let ⟨o, ho, hc, _⟩ := hm; ⟨o, ho, hc.1⟩
  unfold Builtin.«len»
  refine wpAny_bind (m := oneArg "len" _) (wpAny_pure (wpAny_bind (m := callSpecial? (.ref d) (Str.ofString "__len__")) (wpAny_callSpecial?_slot (name := Str.ofString "__len__") ty F.slot_dict_len
    (call_meetsIn F.slot_dict_len ty F.entry_dict_len (F.args_dict_len_1 _) (bare_lenM d hd) ⟨es, ep, hm, ?_⟩))))
  show wpAny _ _ _ _ _ { s with toks := s.toks + 1 }
  refine wpAny_bind (wpAny_holding (wpAny_pure (wpAny_bind (wpAny_letGo ?_))))
  show wpAny _ _ (if ((es.size : Nat) : Int) < 0 then _ else _) _ _ _
  rw [if_neg (by omega)]
  show wpAny _ _ (if ((es.size : Nat) : Int) ≥ 2 ^ 63 then _ else _) _ _ _
  rw [if_neg (by omega)]
  exact wpAny_bind (wpAny_mkInt (wpAny_pure ⟨_, rfl, h⟩))
theorem bare_len {d : Addr} {es : Array DictEntry} {ep : Nat} {Q : Value → Shared → Prop} (hd : (d == sysModules) = false) (hm : BareD s.heap d es ep) (hf : (es.size : Int) < 2 ^ 63)
    (h : Q (.int es.size (s.toks + 1)) { s with toks := s.toks + 1 + 1 }) : wpAny (model prog w) A (call (.builtin "len") [.ref d]) Q E s :=
  Calls.call_function_entry kind_len plain_len entry_len (args_len1 _) (bare_lenB hd hm hf h)
theorem bare_truth {d : Addr} {es : Array DictEntry} {ep : Nat} {Q : Bool → Shared → Prop} (hd : (d == sysModules) = false) (hm : BareD s.heap d es ep) (hf : (es.size : Int) < 2 ^ 63)
    (h : Q ((es.size : Int) != 0) { s with toks := s.toks + 1 + 1 }) : wpAny (model prog w) A (truthy (.ref d)) Q E s := by
  have ty : s.TypeIs (.ref d) "dict" := let ⟨o, ho, hc, _⟩ := hm; ⟨o, ho, hc.1⟩
  have key : wpAny (model prog w) A (runValue (.builtin "len" ⟨[.ref d], []⟩)) (fun r s' => r = .int es.size (s.toks + 1) ∧ Q ((es.size : Int) != 0) s') E s := by
    refine wpAny_runValue (codeAny_builtin entry_len ?_)
    rw [Around.under_plainId plain_len _]
    exact wpAny_mono (bare_lenB (Q := fun r s' => r = .int es.size (s.toks + 1) ∧ Q ((es.size : Int) != 0) s') hd hm hf ⟨rfl, h⟩)
      (fun fin s' h' => by obtain ⟨r, rfl, hq⟩ := h'; exact hq) fun _ _ e => e
  unfold truthy
  first
    | refine wpAny_bind (wpAny_callSpecial?_none (name := Str.ofString "__bool__") ty noBool_dict ?_)
    | refine wpAny_bind (wpAny_pure (wpAny_bind (wpAny_callSpecial?_none (name := Str.ofString "__bool__") ty noBool_dict ?_)))
  first
    | refine wpAny_bind (wpAny_specialOf (name := Str.ofString "__len__") ty F.slot_dict_len.lookup ?_)
    | refine wpAny_bind (wpAny_pure (wpAny_bind (wpAny_specialOf (name := Str.ofString "__len__") ty F.slot_dict_len.lookup ?_)))
  first
    | exact wpAny_bind (wpAny_mono key (fun r s' h' => by obtain ⟨rfl, hq⟩ := h'; exact wpAny_pure hq) fun _ _ e => e)
    | exact wpAny_bind (wpAny_pure (wpAny_bind (wpAny_mono key (fun r s' h' => by obtain ⟨rfl, hq⟩ := h'; exact wpAny_pure hq) fun _ _ e => e)))
end
end PySem
set_option Elab.async false
set_option linter.all false
set_option maxRecDepth 100000
set_option maxHeartbeats 4000000
/-! tuples of ints: their order, == and >, in a list of them; dicts by them: min, len, pop; list.insert; xs[::-1] -/
namespace HT
theorem lx_irr : ∀ a : List Int, lexLt a a = false
  | [] => rfl
  | x :: r => by rw [lexLt_cons, if_pos rfl]; exact lx_irr r
theorem lx_trans : ∀ {a b c : List Int}, lexLt a b = true → lexLt b c = true → lexLt a c = true
  | [], [], _, h, _ => by cases h
  | [], _ :: _, [], _, h => by cases h
  | [], _ :: _, _ :: _, _, _ => rfl
  | _ :: _, [], _, h, _ => by cases h
  | _ :: _, _ :: _, [], _, h => by cases h
  | x :: a, y :: b, z :: c, h, k => by
    rw [lexLt_cons] at h k ⊢
    by_cases e : x = y
    · subst e
      rw [if_pos rfl] at h
      by_cases f : x = z
      · subst f
        rw [if_pos rfl] at k ⊢
        exact lx_trans h k
      · rw [if_neg f] at k ⊢
        exact k
    · rw [if_neg e] at h
      have h := of_decide_eq_true h
      by_cases f : y = z
      · subst f
        rw [if_neg e]
        exact decide_eq_true h
      · rw [if_neg f] at k
        have k := of_decide_eq_true k
        rw [if_neg (by omega)]
        exact decide_eq_true (by omega)
theorem lx_anti : ∀ {a b : List Int}, lexLt a b = false → lexLt b a = false → a = b
  | [], [], _, _ => rfl
  | [], _ :: _, h, _ => by cases h
  | _ :: _, [], _, h => by cases h
  | x :: a, y :: b, h, k => by
    rw [lexLt_cons] at h k
    by_cases e : x = y
    · subst e
      rw [if_pos rfl] at h k
      rw [lx_anti h k]
    · rw [if_neg e] at h
      rw [if_neg (fun z => e z.symm)] at k
      have h := of_decide_eq_false h
      have k := of_decide_eq_false k
      exact absurd (by omega) e
theorem lx_asym {a b : List Int} (h : lexLt a b = true) : lexLt b a = false := by
  cases e : lexLt b a with
  | false => rfl
  | true =>
    have z := lx_trans h e
    rw [lx_irr] at z
    cases z
/-- not below, and not the same: above -/
theorem lx_of_not {a b : List Int} (h : lexLt a b = false) (n : a ≠ b) : lexLt b a = true := by
  cases e : lexLt b a with
  | true => rfl
  | false => exact absurd (lx_anti h e) n
/-- min's choice -/
theorem best_le (f : Nat → List Int) : ∀ k, PySem.argBest (fun i j => lexLt (f i) (f j)) k ≤ k ∧ ∀ j, j ≤ k → lexLt (f j) (f (PySem.argBest (fun i j => lexLt (f i) (f j)) k)) = false
  | 0 => ⟨Nat.le_refl _, fun j hj => by
    have e : j = 0 := by omega
    rw [e]
    exact lx_irr _⟩
  | k + 1 => by
    obtain ⟨h1, h2⟩ := best_le f k
    simp only [PySem.argBest]
    by_cases e : lexLt (f (k + 1)) (f (PySem.argBest (fun i j => lexLt (f i) (f j)) k)) = true
    · rw [if_pos e]
      refine ⟨Nat.le_refl _, fun j hj => ?_⟩
      by_cases ej : j = k + 1
      · rw [ej]
        exact lx_irr _
      · cases z : lexLt (f j) (f (k + 1)) with
        | false => rfl
        | true =>
          have y := lx_trans z e
          rw [h2 j (by omega)] at y
          cases y
    · rw [if_neg e]
      refine ⟨by omega, fun j hj => ?_⟩
      by_cases ej : j = k + 1
      · rw [ej]
        exact Bool.eq_false_iff.mpr e
      · exact h2 j (by omega)
open PySem PyProof.Rows
open PySem.SeqAt
open PySem.AutoSeq1 (wpAny_loadPart')
open PySem.MeetsSeq PySem.MeetsSeq2 PySem.MeetsSeq3
theorem tup_gtM (l b : Addr) (xs ys : Array Value) (n m : Nat) (dd de : Option Addr) (sl sm : Array (Option Value)) (ns ms : List Int) (hi : IntsAre xs.toList ns) (hj : IntsAre ys.toList ms) :
    Meets (Builtin.«tuple.__gt__» ⟨[.ref l, .ref b], []⟩)
      (fun _ R s => s.heap.get? l = some { cls := .type "tuple", dict := dd, data := .seq xs n, slots := sl } ∧ s.heap.get? b = some { cls := .type "tuple", dict := de, data := .seq ys m, slots := sm } ∧ R (.ok (.ret (.bool (lexLt ms ns)))) s) :=
  .of_wp fun prog w A R s h => by
    obtain ⟨hp, g, d, tk, os⟩ := s
    obtain ⟨hl, hb, h⟩ := h
    have f2 := AutoSeq1.sub_tuple_tuple
    have z1 : xs.size = ns.length := by rw [← hi.length]; simp
    have z2 : ys.size = ms.length := by rw [← hj.length]; simp
    wp_walk using wpAny_loadPart' hl, wpAny_loadPart' hb, wpAny_forIn_list _ (fun rest b s' => b.1 = none ∧ s' = ⟨hp, g, d, tk, os⟩ ∧ ∃ (vs ws : List Value) (ns' ms' : List Int), rest = vs.zip ws ∧
      IntsAre vs ns' ∧ IntsAre ws ms' ∧ ns'.length + ys.size = ms'.length + xs.size ∧ R (.ok (.ret (.bool (lexLt ms' ns')))) ⟨hp, g, d, tk, os⟩) _
    case turn =>
      rintro ⟨y, x⟩ rest b s' ⟨hb', rfl, vs, ws, ns', ms', hz, hv, hw, hlen, hR⟩
      cases hv with
      | nil => rw [List.zip_nil_left] at hz; cases hz
      | cons a t hv =>
        cases hw with
        | nil => rw [List.zip_nil_right] at hz; cases hz
        | cons c u hw =>
          rw [List.zip_cons_cons] at hz
          injection hz with hyx hrest
          injection hyx with hy hx
          subst hy hx
          rw [lexLt_cons] at hR
          simp only [List.length_cons] at hlen
          obtain ⟨e, he, hiff⟩ := eqAt_int A.in1 ⟨hp, g, d, tk, os⟩ a t c u
          refine wpAny_bind (he prog w _ _ ?_)
          cases e with
          | true =>
            rw [if_pos (hiff.mp rfl).symm] at hR
            wp_walk
            exact ⟨rfl, rfl, _, _, _, _, hrest, hv, hw, by omega, hR⟩
          | false =>
            rw [if_neg (fun q => absurd (hiff.mpr q.symm) Bool.false_ne_true)] at hR
            have hri : ∀ (E : Value → Shared → Prop) (Q : Value → Shared → Prop), Q (.bool (decide (a > c))) ⟨hp, g, d, tk, os⟩ → wpAny (model prog w) A.in1 (richCompare .Gt (.int a t) (.int c u)) Q E ⟨hp, g, d, tk, os⟩ := fun E Q q =>
              (PyProof.Rows.gt_int q : wpAny (model prog w) A.in1 (compareOp .Gt (.int a t) (.int c u)) Q E _)
            wp_walk using hri
            exact ⟨_, rfl, by simpa using hR⟩
    case fin =>
      rintro ⟨b1, b2⟩ s' ⟨hb', rfl, vs, ws, ns', ms', hz, hvi, hwi, hlen, hR⟩
      simp only at hb'
      subst hb'
      have hv : lexLt ms' ns' = decide (ys.size < xs.size) := by
        cases hvi with
        | nil =>
          cases hwi with
          | nil =>
            simp only [List.length_nil] at hlen
            rw [lexLt_nil_nil]
            exact (decide_eq_false (by omega)).symm
          | cons c u hw =>
            simp only [List.length_nil, List.length_cons] at hlen
            rw [lexLt_cons_nil]
            exact (decide_eq_false (by omega)).symm
        | cons a t hv =>
          cases hwi with
          | nil =>
            simp only [List.length_nil, List.length_cons] at hlen
            rw [lexLt_nil_cons]
            exact (decide_eq_true (by omega)).symm
          | cons c u hw =>
            rw [List.zip_cons_cons] at hz
            cases hz
      rw [hv] at hR
      wp_walk
      exact ⟨_, rfl, by simpa [Builtin.Tuple.tupleCompareSizes] using hR⟩
    case h =>
      exact ⟨rfl, rfl, xs.toList, ys.toList, ns, ms, rfl, hi, hj, by omega, h⟩
theorem gt_tup {prog : Program} {w : World} {A : Around} {E : Value → Shared → Prop} {s : Shared} {l b : Addr} {xs ys : Array Value} {ns ms : List Int} {Q : Value → Shared → Prop} (hl : IsTup s.heap l xs) (hb : IsTup s.heap b ys) (hi : IntsAre xs.toList ns) (hj : IntsAre ys.toList ms)
    (hu : A.units < cLine) (h : Q (.bool (lexLt ms ns)) s) : wpAny (model prog w) A (compareOp .Gt (.ref l) (.ref b)) Q E s := by
  obtain ⟨⟨c1, dd, t1, sl⟩, o1, rfl, n, rfl⟩ := id hl
  obtain ⟨⟨c2, de, t2, sm⟩, o2, rfl, m, rfl⟩ := id hb
  exact richCompare_meets_room (op := .Gt) ⟨_, o1, rfl⟩ ⟨_, o2, rfl⟩ PySem.F.slot_tuple_gt PySem.F.entry_tuple_gt (PySem.F.args_tuple_gt_2 _ _) (tup_gtM l b xs ys n m dd de sl sm ns ms hi hj)
    ⟨o1, o2, show Value.bool (lexLt ms ns) ≠ Value.notImplemented ∧ Q (.bool (lexLt ms ns)) s from ⟨(fun x => nomatch x), h⟩⟩ hu
end HT

namespace L2
open PySem PySem.Spec PyProof.Rows
theorem map_int_inj : ∀ {ns ms : List Int}, ns.map V.int = ms.map V.int → ns = ms
  | [], [], _ => rfl
  | [], _ :: _, h => by cases h
  | _ :: _, [], h => by cases h
  | x :: a, y :: b, h => by
    injection h with h1 h2
    injection h1 with h1
    rw [h1, map_int_inj h2]
theorem map_inl_inj : ∀ {ns ms : List Int}, ns.map (Sum.inl : Int → Key) = ms.map Sum.inl → ns = ms
  | [], [], _ => rfl
  | [], _ :: _, h => by cases h
  | _ :: _, [], h => by cases h
  | x :: a, y :: b, h => by
    injection h with h1 h2
    injection h1 with h1
    rw [h1, map_inl_inj h2]
theorem map_kV (ns : List Int) : (ns.map (Sum.inl : Int → Key)).map kV = ns.map V.int := by
  rw [List.map_map]
  rfl
section
variable {X : Cx}
/-- t > u of tuples of ints -/
theorem op_gtT (hu : X.A.units < cLine) : OpR X (compareOp .Gt) (fun x y H Q => ∃ a b ns ms, x = .ref a ∧ y = .ref b ∧ H a = some (.tup (ns.map V.int)) ∧ H b = some (.tup (ms.map V.int)) ∧ Q (.bl (HT.lexLt ms ns)) H) := by
  intro pins s σ H x y v u Q I rx ry h
  obtain ⟨a, b, ns, ms, rfl, rfl, ha, hb, q⟩ := h
  cases rx
  cases ry
  obtain ⟨its, r1, p1, _⟩ := I.tuple (SqT.of ha)
  obtain ⟨its2, r2, p2, _⟩ := I.tuple (SqT.of hb)
  have i1 : IntsAre its.toArray.toList ns := intsAre_of r1
  have i2 : IntsAre its2.toArray.toList ms := intsAre_of r2
  exact HT.gt_tup p1 p2 i1 i2 hu ⟨.bl (HT.lexLt ms ns), H, I, rfl, q⟩
theorem eqAt_tups {P : Program} {w : World} {H : Hp} {s : Shared} (ok : HOk P w H s.heap) {A : Around} {a b : Addr} {ns ms : List Int} (hu : A.units < cLine) (ha : H a = some (.tup (ns.map V.int))) (hb : H b = some (.tup (ms.map V.int))) :
    SeqAt.EqAt A s (.ref a) (.ref b) (decide (ns = ms)) := by
  by_cases e : a = b
  · subst e
    rw [ha] at hb
    injection hb with hb
    injection hb with hb
    rw [map_int_inj hb, decide_eq_true rfl]
    exact SeqAt.EqAt.same _
  · obtain ⟨us, r1, i1⟩ := isTup_of ok ha
    obtain ⟨vs, r2, i2⟩ := isTup_of ok hb
    have k1 : IntsAre us ns := intsAre_of r1
    have k2 : IntsAre vs ms := intsAre_of r2
    have at_ : ∀ {us : List Value} {ns : List Int}, IntsAre us ns → ∀ (j : Nat) (h : j < us.length), ∃ (z : Int) (t : Tok), us[j] = .int z t ∧ ns[j]? = some z := by
      intro us ns k
      induction k with
      | nil => intro j h; exact absurd h (Nat.not_lt_zero _)
      | cons z t _ ih =>
        intro j h
        cases j with
        | zero => exact ⟨z, t, rfl, rfl⟩
        | succ j => exact ih j (Nat.lt_of_succ_lt_succ h)
    have rc := SeqAt.RcAt.tuples (A := A) (e := fun j => decide (ns[j]? = ms[j]?)) i1 i2 hu fun j h1 h2 => by
      obtain ⟨x, t, e1, e2⟩ := at_ k1 j (by simpa using h1)
      obtain ⟨y, t', e3, e4⟩ := at_ k2 j (by simpa using h2)
      rw [e2, e4]
      have z := SeqAt.EqAt.int_int (A := A.in1) (s := s) x t y t'
      have q : (x == y) = decide (some x = some y) := by
        by_cases e : x = y
        · subst e; simp
        · have e' : ¬ some x = some y := fun q => e (Option.some.inj q)
          rw [decide_eq_false e', beq_eq_false_iff_ne.mpr e]
      rw [q] at z
      simpa [e1, e3] using z
    have fin : ((List.range (min us.toArray.size vs.toArray.size)).all (fun j => decide (ns[j]? = ms[j]?)) && us.toArray.size == vs.toArray.size) = decide (ns = ms) := by
      have l1 : us.toArray.size = ns.length := by rw [List.size_toArray]; exact k1.length
      have l2 : vs.toArray.size = ms.length := by rw [List.size_toArray]; exact k2.length
      rw [l1, l2]
      by_cases c : ns = ms
      · subst c
        simp
      · rw [decide_eq_false c, Bool.and_eq_false_iff]
        by_cases l : ns.length = ms.length
        · left
          rw [List.all_eq_false]
          refine Classical.byContradiction fun no => c (List.ext_getElem? fun j => ?_)
          by_cases hj : j < ns.length
          · refine Classical.byContradiction fun ne => no ⟨j, List.mem_range.mpr (by omega), ?_⟩
            rw [decide_eq_false ne]
            simp
          · rw [List.getElem?_eq_none (by omega), List.getElem?_eq_none (by omega)]
        · right
          exact beq_eq_false_iff_ne.mpr l
    rw [fin] at rc
    exact SeqAt.EqAt.of_refs e rc
/-- the addresses hold tuples of these ints -/
def Tups (H : Hp) : List Addr → List (List Int) → Prop := Paired fun a n => H a = some (.tup (n.map V.int))
theorem Tups.length {H : Hp} {as : List Addr} {ns : List (List Int)} (t : Tups H as ns) : as.length = ns.length := Paired.length t
theorem Tups.get {H : Hp} : ∀ {as : List Addr} {ns : List (List Int)} {i : Nat} {a : Addr}, Tups H as ns → as[i]? = some a → ∃ n, ns[i]? = some n ∧ H a = some (.tup (n.map V.int))
  | _, _, _, _, .nil, e => by simp at e
  | _, _, 0, _, .cons r _, e => by simp at e; subst e; exact ⟨_, rfl, r⟩
  | _, _, i + 1, a, .cons _ t, e => by
    obtain ⟨n, h1, h2⟩ := Tups.get (i := i) (a := a) t (by simpa using e)
    exact ⟨n, by simpa using h1, h2⟩
theorem Tups.keep {H H' : Hp} (k : ∀ b xs, H b = some (.tup xs) → H' b = some (.tup xs)) {as : List Addr} {ns : List (List Int)} (t : Tups H as ns) : Tups H' as ns := Paired.mapP t fun _ _ z => k _ _ z
theorem Tups.append {H : Hp} : ∀ {as bs : List Addr} {ns ms : List (List Int)}, Tups H as ns → Tups H bs ms → Tups H (as ++ bs) (ns ++ ms)
  | _, _, _, _, .nil, s => s
  | _, _, _, _, .cons r t, s => .cons r (Tups.append t s)
theorem Tups.take {H : Hp} : ∀ {as : List Addr} {ns : List (List Int)} (n : Nat), Tups H as ns → Tups H (as.take n) (ns.take n)
  | _, _, 0, _ => .nil
  | _, _, _ + 1, .nil => .nil
  | _, _, n + 1, .cons r t => .cons r (Tups.take n t)
theorem Tups.drop {H : Hp} : ∀ {as : List Addr} {ns : List (List Int)} (n : Nat), Tups H as ns → Tups H (as.drop n) (ns.drop n)
  | _, _, 0, r => r
  | _, _, _ + 1, .nil => .nil
  | _, _, n + 1, .cons _ t => Tups.drop n t
theorem Tups.erase {H : Hp} : ∀ {as : List Addr} {ns : List (List Int)} (n : Nat), Tups H as ns → Tups H (as.eraseIdx n) (ns.eraseIdx n)
  | _, _, _, .nil => .nil
  | _, _, 0, .cons _ t => t
  | _, _, n + 1, .cons r t => .cons r (Tups.erase n t)
theorem Tups.reverse {H : Hp} : ∀ {as : List Addr} {ns : List (List Int)}, Tups H as ns → Tups H as.reverse ns.reverse
  | _, _, .nil => .nil
  | _, _, .cons r t => by
    rw [List.reverse_cons, List.reverse_cons]
    exact Tups.append (Tups.reverse t) (.cons r .nil)
open Classical in
/-- t in a list of tuples, all of ints -/
theorem op_inT (hu : X.A.units + 1 < cLine) : OpR X (compareOp .In) (fun x y H Q => ∃ p b as ns n, x = .ref b ∧ y = .ref p ∧ H p = some (.lst (as.map V.ref)) ∧ Tups H as ns ∧ H b = some (.tup (n.map V.int)) ∧ Q (.bl (decide (n ∈ ns))) H) := by
  intro pins s σ H x y v u Q I rx ry h
  obtain ⟨p, b, as, ns, n, rfl, rfl, hp, ht, hb, q⟩ := h
  cases rx
  cases ry
  obtain ⟨its, r, pl, hz⟩ := I.list (SqL.of hp)
  have hu1 : X.A.in1.units < cLine := hu
  have vals : ∀ {as : List Addr} {its : List Value}, Vals (as.map V.ref) its → its = as.map Value.ref := by
    intro as
    induction as with
    | nil => intro its r; cases r; rfl
    | cons a as ih =>
      intro its r
      cases r with
      | cons r1 r2 =>
        cases r1
        rw [ih r2]
        rfl
  have ei := vals r
  refine SeqAt.in_listAt (fun w => decide (∃ a, w = .ref a ∧ H a = some (.tup (n.map V.int)))) pl.isList (fun w hw => ?_) ⟨.bl _, H, I, rfl, ?_⟩
  · rw [ei] at hw
    obtain ⟨a, ha, rfl⟩ := List.mem_map.mp (by simpa using hw)
    obtain ⟨j, hj⟩ := List.getElem?_of_mem ha
    obtain ⟨m, _, hm⟩ := ht.get hj
    have z := eqAt_tups I.hok hu1 hm hb
    have e : decide (m = n) = decide (∃ a', Value.ref a = .ref a' ∧ H a' = some (.tup (n.map V.int))) := by
      by_cases c : m = n
      · subst c
        rw [decide_eq_true rfl, decide_eq_true ⟨a, rfl, hm⟩]
      · rw [decide_eq_false c, decide_eq_false]
        rintro ⟨a', q1, q2⟩
        cases q1
        rw [hm] at q2
        injection q2 with q2
        injection q2 with q2
        exact c (map_int_inj q2)
    rw [← e]
    exact z
  · have e : its.toArray.any (fun w => decide (∃ a, w = .ref a ∧ H a = some (.tup (n.map V.int)))) = decide (n ∈ ns) := by
      rw [Bool.eq_iff_iff, List.any_toArray, List.any_eq_true, decide_eq_true_iff]
      constructor
      · rintro ⟨w, hw, e⟩
        obtain ⟨a, rfl, ha⟩ := of_decide_eq_true e
        rw [ei] at hw
        obtain ⟨a', ha', e'⟩ := List.mem_map.mp hw
        cases e'
        obtain ⟨j, hj⟩ := List.getElem?_of_mem ha'
        obtain ⟨m, hm1, hm⟩ := ht.get hj
        rw [ha] at hm
        injection hm with hm
        injection hm with hm
        rw [map_int_inj hm]
        exact List.mem_of_getElem? hm1
      · intro hn
        obtain ⟨j, hj⟩ := List.getElem?_of_mem hn
        have hl : j < as.length := by
          have := ht.length
          have := (List.getElem?_eq_some_iff.mp hj).1
          omega
        obtain ⟨m, hm1, hm⟩ := ht.get (List.getElem?_eq_getElem hl)
        rw [hj] at hm1
        cases hm1
        refine ⟨.ref as[j], ?_, decide_eq_true ⟨_, rfl, hm⟩⟩
        rw [ei]
        exact List.mem_map.mpr ⟨_, List.getElem_mem hl, rfl⟩
    rw [e]
    exact q
/-! ### list.insert, xs[::-1] -/
def rInsert : V → List V → Hp → VK → Prop := fun x vs H Q => ∃ l xs i y, x = .ref l ∧ vs = [.int (i : Nat), y] ∧ H l = some (.lst xs) ∧ i ≤ xs.length ∧ xs.length < sizeLine ∧ Q .non (upd H l (.lst (xs.take i ++ y :: xs.drop i)))
theorem mt_insert : MtM X "list.insert" rInsert := by
  intro pins s σ H x vs v us Q I rx rv h
  obtain ⟨l, xs, i, y, rfl, rfl, hH, hi, hz, q⟩ := h
  cases rx
  obtain ⟨u, w', rfl, ru, rw'⟩ := rv.two
  obtain ⟨t, rfl⟩ := ru
  obtain ⟨z, its, n, r, hl, e⟩ := I.lstM hH
  have hz1 : its.toArray.size ≤ sizeLine := by rw [List.size_toArray]; omega
  generalize hx : ((i : Nat) : Int) = x
  have fit : Builtin.List.listFitsIndex x = true := by
    have s63 : sizeLine = 16777216 := sizeLine_eq
    exact fitsIndex_both (by omega) (by omega)
  have nfit : ¬ (!Builtin.List.listFitsIndex x) = true := by rw [fit]; exact Bool.false_ne_true
  refine call_meets F.slot_list_insert ⟨_, e, rfl⟩ F.entry_list_insert (F.args_list_insert_3 _ _ _) (PySem.AutoSeq1.list_insert_list_int_val_1 l its.toArray n x t w' nfit hz1) ⟨e, ?_⟩
  refine ⟨.non, _, I.lset (its' := its.take i ++ w' :: its.drop i) hH e ?_ ((r.take i).append (.cons rw' (r.drop i))) ?_, rfl, q⟩
  · have k : (if x < 0 then (x + (its.toArray.size : Int)).toNat else min x.toNat its.toArray.size) = i := by
      rw [if_neg (by omega), List.size_toArray]
      omega
    show (its.toArray.extract 0 (if x < 0 then (x + (its.toArray.size : Int)).toNat else min x.toNat its.toArray.size)).push w' ++ its.toArray.extract (if x < 0 then (x + (its.toArray.size : Int)).toNat else min x.toNat its.toArray.size) = _
    rw [k]
    apply Array.toList_inj.mp
    simp [List.extract_eq_take_drop]
    exact List.take_of_length_le (by rw [List.length_drop]; exact Nat.le_refl _)
  · rw [List.length_append, List.length_cons, List.length_take, List.length_drop]
    omega
def tRev (K : PySem.W.Frag) (te : TE) (ts : TO) : TE := fun σ H Q => te σ H fun x H1 => ts σ H1 fun st H2 => st = some (-1) ∧ ∃ a xs, x = .ref a ∧ SqL K H2 a xs ∧ ∀ p, H2 p = none → Q (.ref p) (upd H2 p (.lst xs.reverse))
theorem pe_rev {e st : Expr} {te : TE} {ts : TO} {p2 pos : Pos} (he : PE X e te) (hs : PO X (some st) ts) : PE X (.Subscript e (.Slice none none (some st) p2) pos) (tRev X.K te ts) := by
  intro pins s σ H Q I h
  refine Subscript_ (thn (he pins s σ H _ I h) fun v s1 ⟨x, H1, I1, r1, q1⟩ => ?_)
  refine wpAny_Slice ?_
  rw [evalPart_none]
  refine wpAny_pure (wpAny_pure ?_)
  refine thn (hs pins s1 σ H1 _ I1 q1) fun vs s3 ⟨o, H3, I3, ps, q3⟩ => ?_
  obtain ⟨rfl, a, xs, rfl, hx, q⟩ := q3
  cases r1
  have I4 : Inv X pins σ H3 { s3 with heap := s3.heap.push { cls := .type "slice", data := .fields #[.none, .none, vs] } } := I3.kept (t' := s3.toks) fun b ob q => Heap.get?_push_of_some _ q
  obtain ⟨its, r, ht, hz⟩ := I4.list hx
  show wpAny (model X.prog X.w) X.A (subscriptTail e (.Slice none none (some st) p2) (.ref a) (.ref s3.heap.objs.size)) (EP X pins σ Q) X.xe { s3 with heap := s3.heap.push { cls := .type "slice", data := .fields #[.none, .none, vs] } }
  refine tail_any (ops := [.ref a, .ref s3.heap.objs.size]) ht.isList.typeIs slot_list_getitem.lookup ?_ (by with_unfolding_all rfl)
  refine wpAny_getItem_list_slice ht.isList (Heap.IsSliceOf.new ..) .none .none ps (by simp) ?_ (by rw [List.size_toArray, ← r.length]; exact hz)
  rw [PySem.W.krv_pick]
  refine ⟨.ref _, _, I4.laid (t' := s3.toks) (o := .lst xs.reverse) (fun b ob q => Heap.get?_push_of_some _ q) (Nat.le_refl _) ?_, rfl, q _ (I4.hok.fresh (Nat.le_refl _))⟩
  refine ⟨by rw [List.length_reverse]; exact hz, its.reverse, 0, r.reverse, ?_⟩
  rw [Heap.get?_push_size _ rfl]
/-! ### == and != of what is alike, numbers and texts too -/
theorem sc_scal {z : V} (h : sc0 z) : scal z z = true := by
  cases z with
  | non => rfl
  | bl b => rfl
  | int i => rfl
  | str x => rfl
  | byt b => exact False.elim h
  | flt b => exact False.elim h
  | ref a => exact False.elim h
  | ty a => exact False.elim h
theorem op_eqV (hu : X.A.units + 50 < cLine) : OpR X (compareOp .Eq) (fun x y H Q => ∃ n, n ≤ 20 ∧ TEq H n x y ∧ Q (.bl true) H) := by
  intro pins s σ H x y v u Q I rx ry h
  obtain ⟨n, hn, d, q⟩ := h
  have sc : ∀ z, sc0 z → x = z → y = z → wpAny (model X.prog X.w) X.A (compareOp .Eq v u) (EP X pins σ Q) X.xe s := by
    rintro z hz rfl rfl
    refine op_eq pins s σ H _ _ v u Q I rx ry ⟨sc_scal hz, ?_⟩
    rw [decide_eq_true rfl]
    exact q
  have rf : ∀ p q', x = .ref p → y = .ref q' → wpAny (model X.prog X.w) X.A (compareOp .Eq v u) (EP X pins σ Q) X.xe s := fun p q' e1 e2 =>
    op_eqD hu pins s σ H x y v u Q I rx ry ⟨0, p, q', by omega, e1, e2, ⟨n, hn, d⟩, q⟩
  cases n with
  | zero => exact sc x d.1 rfl d.2.symm
  | succ n =>
    rcases d with ⟨h1, h2⟩ | ⟨p, q', _, _, e1, e2, _⟩ | ⟨p, q', _, _, e1, e2, _⟩
    · exact sc x h1 rfl h2.symm
    · exact rf p q' e1 e2
    · exact rf p q' e1 e2
theorem op_neV (hu : X.A.units + 50 < cLine) : OpR X (compareOp .NotEq) (fun x y H Q => ∃ n, n ≤ 20 ∧ TEq H n x y ∧ Q (.bl false) H) := by
  intro pins s σ H x y v u Q I rx ry h
  obtain ⟨n, hn, d, q⟩ := h
  have sc : ∀ z, sc0 z → x = z → y = z → wpAny (model X.prog X.w) X.A (compareOp .NotEq v u) (EP X pins σ Q) X.xe s := by
    rintro z hz rfl rfl
    refine op_ne pins s σ H _ _ v u Q I rx ry ⟨sc_scal hz, ?_⟩
    rw [decide_eq_true rfl]
    exact q
  have rf : ∀ p q', x = .ref p → y = .ref q' → wpAny (model X.prog X.w) X.A (compareOp .NotEq v u) (EP X pins σ Q) X.xe s := fun p q' e1 e2 =>
    op_neT hu pins s σ H x y v u Q I rx ry ⟨n, p, q', hn, e1, e2, d, q⟩
  cases n with
  | zero => exact sc x d.1 rfl d.2.symm
  | succ n =>
    rcases d with ⟨h1, h2⟩ | ⟨p, q', _, _, e1, e2, _⟩ | ⟨p, q', _, _, e1, e2, _⟩
    · exact sc x h1 rfl h2.symm
    · exact rf p q' e1 e2
    · exact rf p q' e1 e2
/-! ### dicts by tuples -/
/-- all keys are tuples of ints -/
def IntKeys (kvs : List (List Key × V)) : Prop := ∀ k ∈ kvs.map (·.1), ∃ n : List Int, k = n.map Sum.inl
theorem dt_bare {P : Program} {w : World} {H : Hp} {h : Heap} {d : Addr} {kvs : List (List Key × V)} (ok : HOk P w H h) (e : H d = some (.dT kvs)) : kvs.length ≤ sizeLine ∧ (d == sysModules) = false ∧ ∃ xs es ep, KT H kvs xs ∧ BareD h d es ep ∧ es.size = kvs.length ∧
    ∀ (i : Nat) (en : DictEntry), es[i]? = some en → ∃ x, xs[i]? = some x ∧ en.key = .ref x.2.1 := by
  obtain ⟨z, y, xs, r, o, es, ep, h1, h2, h3, h4, h5⟩ := (show ObjOk P w H h d (.dT kvs) from ok d _ e)
  refine ⟨z, y, xs, es, ep, r, ⟨o, h1, h2, h3⟩, by rw [size_of_entries h4, ← Paired.length r], fun i en he => ?_⟩
  rw [entry_at h4 i] at he
  cases q : xs[i]? with
  | none => rw [q] at he; cases he
  | some x =>
    rw [q] at he
    cases he
    exact ⟨x, rfl, rfl⟩
theorem call_lenT : CallR X (.builtin "len") (fun xs H Q => ∃ d kvs, xs = [V.ref d] ∧ H d = some (.dT kvs) ∧ Q (.int kvs.length) H) := by
  intro pins s σ H xs us Q I r h
  obtain ⟨d, kvs, rfl, hd, q⟩ := h
  obtain ⟨u, rfl, ru⟩ := vals1 r
  cases ru
  have s63 : sizeLine = 16777216 := sizeLine_eq
  obtain ⟨z, n1, xs, es, ep, _, hb, hs, _⟩ := dt_bare I.hok hd
  refine bare_len n1 hb (by omega) ?_
  rw [hs]
  exact ⟨.int kvs.length, H, I.tok _, ⟨_, rfl⟩, q⟩
/-- if d, d by tuples -/
theorem pt_dT {e : Expr} {te : TE} (he : PE X e te) (hi : ∀ whole, isTrue e X.env whole = (do let v ← whole; standAt e.pos; holding [v] (truthy v))) :
    PT X e (fun σ H Q => te σ H fun x H' => ∃ d kvs, x = .ref d ∧ H' d = some (.dT kvs) ∧ Q (!kvs.isEmpty) H') := by
  intro pins s σ H Q I h
  refine isTrue_plain (thn (he pins s σ H _ I h) fun v s1 ⟨x, H1, I1, r1, d, kvs, ex, hd, q1⟩ => ?_) (hi _)
  subst ex
  cases r1
  have s63 : sizeLine = 16777216 := sizeLine_eq
  obtain ⟨z, n1, xs, es, ep, _, hb, hs, _⟩ := dt_bare I1.hok hd
  refine bare_truth n1 hb (by omega) ?_
  have e : ((es.size : Int) != 0) = !kvs.isEmpty := by
    rw [hs]
    cases kvs with
    | nil => rfl
    | cons a b =>
      rw [List.length_cons]
      show (((b.length + 1 : Nat) : Int) != 0) = true
      rw [bne_iff_ne]
      omega
  rw [e]
  exact ⟨H1, I1.tok _, q1⟩
theorem KT.get {H : Hp} : ∀ {kvs : List (List Key × V)} {xs : List (List Key × Addr × Value)} {i : Nat} {x : List Key × Addr × Value}, KT H kvs xs → xs[i]? = some x → ∃ kv, kvs[i]? = some kv ∧ kv.1 = x.1 ∧ H x.2.1 = some (.tup (kv.1.map kV))
  | _, _, _, _, .nil, e => by simp at e
  | _, _, 0, _, .cons r _, e => by simp at e; subst e; exact ⟨_, rfl, r.1, r.2.1⟩
  | _, _, i + 1, x, .cons _ t, e => by
    obtain ⟨kv, h1, h2⟩ := KT.get (i := i) (x := x) t (by simpa using e)
    exact ⟨kv, by simpa using h1, h2⟩
/-- the least of some tuples of ints -/
def Least (ks : List (List Key)) (n : List Int) : Prop := n.map Sum.inl ∈ ks ∧ ∀ m : List Int, m.map Sum.inl ∈ ks → HT.lexLt m n = false
/-- min(d), d by tuples of ints -/
theorem call_minT (hu : X.A.units + 2 < cLine) (hc : X.calm = true) : CallR X (.builtin "min") (fun xs H Q => ∃ d kvs, xs = [V.ref d] ∧ H d = some (.dT kvs) ∧ IntKeys kvs ∧ kvs ≠ [] ∧ ∀ b n, H b = some (.tup (n.map V.int)) → Least (kvs.map (·.1)) n → Q (.ref b) H) := by
  intro pins s σ H xs us Q I r h
  obtain ⟨d, kvs, rfl, hd, ik, ne, q⟩ := h
  obtain ⟨u, rfl, ru⟩ := vals1 r
  cases ru
  obtain ⟨z, n1, xs, es, ep, rel, hb, hs, hk⟩ := dt_bare I.hok hd
  have ltd : d < s.heap.objs.size := let ⟨_, ho, _⟩ := hb; Heap.lt_size ho
  have hpos : 0 < es.size := by
    rw [hs]
    exact List.length_pos_iff.mpr ne
  -- the ints of the key at a place
  have key : ∀ (i : Nat) (en : DictEntry), es[i]? = some en → ∃ (b : Addr) (n : List Int) (kv : List Key × V), en.key = Value.ref b ∧ kvs[i]? = some kv ∧ kv.1 = n.map Sum.inl ∧ H b = some (.tup (n.map V.int)) := by
    intro i en he
    obtain ⟨x, hx, e1⟩ := hk i en he
    obtain ⟨kv, h1, h2, h3⟩ := KT.get rel hx
    obtain ⟨n, hn⟩ := ik kv.1 (List.mem_map.mpr ⟨kv, List.mem_of_getElem? h1, rfl⟩)
    rw [hn, map_kV] at h3
    exact ⟨_, n, kv, e1, h1, hn, h3⟩
  let f : Nat → List Int := fun i => (kvs[i]?.map fun kv => kv.1.map fun k => match k with | .inl z => z | .inr _ => 0).getD []
  have f_at : ∀ i kv n, kvs[i]? = some kv → kv.1 = n.map Sum.inl → f i = n := by
    intro i kv n h1 h2
    show (kvs[i]?.map _).getD [] = n
    rw [h1]
    show kv.1.map _ = n
    rw [h2, List.map_map]
    exact List.map_id n
  refine call_least (bare_iter n1 hb ?_)
  refine ⟨s.heap.objs.size, [s.heap.objs.size, d], [s.heap.objs.size], es.size, _, _, fun h => ∀ b o ys, H b = some (.tup ys) → s.heap.get? b = some o → h.get? b = some o, fun i j => HT.lexLt (f i) (f j), rfl,
    bare_walks (A := X.A.in1) (I.ok.hd hc) s.heap.objs.size d (Nat.ne_of_lt ltd) es ep, ⟨⟨_, Heap.get?_push_size _ rfl, rfl, rfl⟩, hb.at fun o e => Heap.get?_push_of_some _ e⟩, fun b o ys _ e => Heap.get?_push_of_some _ e, ?_, hpos, ?_, ?_, ?_⟩
  · intro b hb'
    rw [Heap.size_push]
    rcases List.mem_cons.mp hb' with e | e
    · rw [e]; exact Nat.lt_succ_self _
    · rw [List.mem_singleton.mp e]; exact Nat.lt_succ_of_lt ltd
  · rintro i j vi vj s' Q' E' ⟨e1, a1, rfl⟩ ⟨e2, a2, rfl⟩ g q'
    obtain ⟨b1, n, kv1, c1, c2, c3, c4⟩ := key i e1 a1
    obtain ⟨b2, m, kv2, d1, d2, d3, d4⟩ := key j e2 a2
    rw [c1, d1]
    have q' : Q' (.bool (HT.lexLt (f i) (f j))) s' := q'
    rw [f_at i kv1 n c2 c3, f_at j kv2 m d2 d3] at q'
    obtain ⟨its, r1, p1, _⟩ := I.tuple (SqT.of c4)
    obtain ⟨its2, r2, p2, _⟩ := I.tuple (SqT.of d4)
    have i1 : IntsAre its.toArray.toList n := intsAre_of r1
    have i2 : IntsAre its2.toArray.toList m := intsAre_of r2
    have t1 : IsTup s'.heap b1 its.toArray := let ⟨o, ho, rest⟩ := p1; ⟨o, g _ _ _ c4 ho, rest⟩
    have t2 : IsTup s'.heap b2 its2.toArray := let ⟨o, ho, rest⟩ := p2; ⟨o, g _ _ _ d4 ho, rest⟩
    exact HT.lt_tupInts (A := X.A.in1) t1 t2 i1 i2 (by show X.A.units + 1 < cLine; omega) q'
  · intro h1 h2 g kp b o ys hy ho
    have lt := Heap.lt_size ho
    refine kp b o (fun e => Nat.ne_of_lt lt (List.mem_singleton.mp e)) (fun e => ?_) (g b o ys hy ho)
    rw [Heap.size_push] at e
    exact Nat.ne_of_lt (Nat.lt_succ_of_lt lt) e
  · rintro v h' tk ⟨en, he, rfl⟩ kp
    obtain ⟨b, n, kv, c1, c2, c3, c4⟩ := key _ en he
    obtain ⟨_, best⟩ := HT.best_le f (es.size - 1)
    rw [f_at _ kv n c2 c3] at best
    rw [c1]
    refine ⟨.ref b, H, I.kept (t' := tk) fun a o ho => kp a o (fun e => Nat.ne_of_lt (Heap.lt_size ho) (List.mem_singleton.mp e)) (Heap.get?_push_of_some _ ho), rfl, q b n c4 ⟨?_, fun m hm => ?_⟩⟩
    · rw [← c3]
      exact List.mem_map.mpr ⟨kv, List.mem_of_getElem? c2, rfl⟩
    · obtain ⟨kw, hw, e⟩ := List.mem_map.mp hm
      obtain ⟨j, hj⟩ := List.getElem?_of_mem hw
      have lj := (List.getElem?_eq_some_iff.mp hj).1
      have z := best j (by omega)
      rw [f_at j kw m hj e] at z
      exact z
theorem KT.less {H : Hp} : ∀ {kvs : List (List Key × V)} {xs : List (List Key × Addr × Value)} (k : List Key), KT H kvs xs → KT H (dropK kvs k) (lessH xs k)
  | _, _, _, .nil => .nil
  | _, _, k, .cons (a := p) (b := q) r t => by
    have ih := KT.less k t
    unfold dropK lessH at ih ⊢
    rw [List.filter_cons, List.filter_cons]
    by_cases e : p.1 = k
    · have e' : q.1 = k := r.1 ▸ e
      rw [if_neg (by simp [e]), if_neg (by simp [e'])]
      exact ih
    · have e' : ¬ q.1 = k := fun z => e (r.1.trans z)
      rw [if_pos (by simp [e]), if_pos (by simp [e'])]
      exact .cons r ih
/-- d.pop(t), there -/
def tDPopT (td ty : TE) : TE := fun σ H Q => td σ H fun x H1 => ∃ a, x = .ref a ∧ IsD H1 a ∧ ty σ H1 fun y H2 => ∃ kvs k b v, H2 a = some (.dT kvs) ∧ y = .ref b ∧ H2 b = some (.tup (k.map kV)) ∧ valV kvs k = some v ∧ Q v (upd H2 a (.dT (dropK kvs k)))
theorem pe_dpopT {o e : Expr} {apos cpos : Pos} {td ty : TE} (hu : X.A.units + 1 < cLine) (ho : PE X o td) (he : PE X e ty) (m : M1 X o "pop" apos e cpos) : PE X (.Call (.Attribute o "pop" apos) [e] [] cpos) (tDPopT td ty) := by
  intro pins s σ H Q I h
  refine wpAny_Call_method m.base m.few m.line PySem.F.plainAttrs_dict PySem.F.slot_dict_pop PySem.F.type_dict_pop (thn (ho pins s σ H _ I h) fun u s1 ⟨x, H1, I1, rx, a, ex, d, q1⟩ => ?_)
  subst ex
  obtain rfl : u = Value.ref a := rx
  obtain ⟨t1, t2, _⟩ := isD_at I1 d
  refine ⟨t1, t2, ?_⟩
  rw [m.trees]
  refine Calls.callWith_builtin rfl (Calls.evalArgs_plain (Calls.spliced_cons (thn (he pins s1 σ H1 _ I1 q1) fun iv s2 ⟨y, H2, I2, ry, kvs, k, b, v, ea, ey, eb, l, q2⟩ => Calls.spliced_nil ?_)))
  subst ey
  cases ry
  obtain ⟨z, n1, xs, rel, dd⟩ := dt_of I2.hok ea
  obtain ⟨w', hw, rw'⟩ := RelO.some_of (v := v) (o := (atKey xs k).map (·.2)) (by rw [← l]; exact rel.val k)
  obtain ⟨p, hp, hp2⟩ := Option.map_eq_some_iff.mp hw
  refine pop_heap (tupleKind_room_in1 hu) (key_of I2.hok eb) dd (by rw [← Paired.length rel]; exact z) hp fun h' dd' hs => ?_
  rw [hp2]
  obtain ⟨o', es, ep, hq, h2, h3, h4, _, h5⟩ := dd'
  refine ⟨v, _, d_write (ob := .dT (dropK kvs k)) I2 (by rw [ea]; exact True.intro) hs ⟨o', hq⟩ ⟨Nat.le_trans (dropK_le kvs k) z, n1, _, (rel.less k).keeps fun c ys ec => ?_, o', es, ep, hq, h2, h3, h4, h5⟩, rw', q2⟩
  rw [upd_ne (ne_of ec ea (fun z => nomatch z))]
  exact ec
end
end L2
set_option Elab.async false
set_option linter.all false
set_option maxRecDepth 100000
set_option maxHeartbeats 4000000
/-! C.m(..) of a class of one's own; min of a list of tuples; a comprehension over a range -/
namespace L2
open PySem PySem.Spec PyProof.Rows
/-- a def of a class, asked of the class itself -/
structure CMeth (K : PySem.W.Frag) (C : Addr) (m : Str) (f : Addr) : Prop where
  spec : PySem.W.specialIn K (.ref C) "__getattribute__" = some (some (.builtin "type.__getattribute__"))
  reads : PySem.W.readsIn K C (.type "type") = true
  found : PySem.W.findCls K (.ref C) (.type "type") m = some (.val (.ref f))
  kp : PySem.W.keepIn K (.ref f) = true
section
variable {X : Cx}
theorem pe_cmeth {CX : CXT} {k : Nat} {f C : Addr} {fd : FuncData} {ps : List Str} {ds : List Value} {dvs : List V} {sp : Sp} {E : XK} {x m : Str} {e : Expr} {es : List Expr} {t : TA} {p apos pos : Pos} {pl : Sem Bool}
    (hc : CMeth X.K C m f) (F : FnOk X.prog X.w X.K X.mg X.base CX k f fd ps sp) (hr : Room k X.A) (hg : Gl X x) (hm : X.mg x = some (.ref C)) (hb : Binds X.K fd ps ds) (hd : Vals dvs ds) (hx : Passes CX X E) (ha : PA X (e :: es) t)
    (hdb : (x == ("__debug__" : Str)) = false := by decide)
    (hst : starEach (e :: es) X.env = (false, eval e X.env) :: starEach es X.env := by rfl) (hpl : (backTo pos (starEach es X.env)).any (·.1) = false := by rfl)
    (ht : eval (.Call (.Attribute (.Name x p) m apos) (e :: es) [] pos) X.env = (do
      let ov ← eval (.Name x p) X.env
      standAt apos.atName
      let (f, first) ← holding [ov] (getMethod ov m pl)
      callWith pos f first (backTo pos (starEach (e :: es) X.env)) (backToKw pos (keywordEach [] X.env))) := by rfl) :
    PE X (.Call (.Attribute (.Name x p) m apos) (e :: es) [] pos) (tCall sp dvs E t) := by
  intro pins s σ H Q I h
  refine PySem.W.methodCall_KW (pl := pl) (thn (pe_glob (v := .ref C) (pos := p) hg hm rfl hdb pins s σ H (fun v H1 => v = .ref C ∧ H1 = H) I ⟨rfl, rfl⟩) fun u s1 ⟨v, H1, I1, rv, ev, eH⟩ => ?_) ht
  subst ev
  subst eH
  cases rv
  refine PySem.W.method_cls I1.kIn hc.spec (PySem.W.cls_value I1.kIn hc.reads hc.found rfl ?_)
  have I2 := I1.tok (s1.toks + 1)
  refine PySem.W.callWith_K (first := []) (h₀ := X.base) I.ok.mod.kin hc.kp (thn (ha pos pins _ σ H1 _ I2 h) fun us s3 ⟨vs, H3, I3, r, q3⟩ => ⟨I3.kIn, ?_⟩) hst hpl
  exact run_fn (us := us) (vs := vs) F hr hb hd hx I3 r q3
/-- min(xs), a list of tuples of ints -/
theorem call_minL (hu : X.A.units + 2 < cLine) (hc : X.calm = true) : CallR X (.builtin "min") (fun xs H Q => ∃ l as ns, xs = [V.ref l] ∧ H l = some (.lst (as.map V.ref)) ∧ Tups H as ns ∧ ns ≠ [] ∧ ∀ (a : Addr) (n : List Int), a ∈ as → n ∈ ns → H a = some (.tup (n.map V.int)) → (∀ m ∈ ns, HT.lexLt m n = false) → Q (.ref a) H) := by
  intro pins s σ H xs us Q I r h
  obtain ⟨l, as, ns, rfl, hl, ht, ne, q⟩ := h
  obtain ⟨u, rfl, ru⟩ := vals1 r
  cases ru
  obtain ⟨its, rv, pl, hz⟩ := I.list (SqL.of hl)
  have ltl : l < s.heap.objs.size := let ⟨_, ho, _⟩ := pl.isList; Heap.lt_size ho
  have hlen : its.toArray.size = ns.length := by
    rw [List.size_toArray, ← rv.length, List.length_map]
    exact ht.length
  have hpos : 0 < its.toArray.size := by
    rw [hlen]
    exact List.length_pos_iff.mpr ne
  have key : ∀ (i : Nat) (v : Value), its.toArray[i]? = some v → ∃ (a : Addr) (n : List Int), v = Value.ref a ∧ as[i]? = some a ∧ ns[i]? = some n ∧ H a = some (.tup (n.map V.int)) := by
    intro i v hv
    have hv' : its[i]? = some v := by simpa using hv
    have li : i < as.length := by
      have := (List.getElem?_eq_some_iff.mp hv').1
      have := rv.length
      rw [List.length_map] at this
      omega
    have ea : (as.map V.ref)[i]? = some (.ref as[i]) := by rw [List.getElem?_map, List.getElem?_eq_getElem li]; rfl
    obtain ⟨w', hw, rw'⟩ := rv.get ea
    rw [hv'] at hw
    cases hw
    cases rw'
    obtain ⟨n, hn, hnt⟩ := ht.get (List.getElem?_eq_getElem li)
    exact ⟨_, n, rfl, List.getElem?_eq_getElem li, hn, hnt⟩
  refine call_least (wpAny_pyIter_list pl.isList ?_)
  refine ⟨s.heap.objs.size, [s.heap.objs.size, l], [s.heap.objs.size], its.toArray.size, _, _, fun h => ∀ b o ys, H b = some (.tup ys) → s.heap.get? b = some o → h.get? b = some o, fun i j => HT.lexLt ((ns[i]?).getD []) ((ns[j]?).getD []), rfl,
    Walks.list (A := X.A.in1) (I.ok.hd hc) s.heap.objs.size l (Nat.ne_of_lt ltl) its.toArray, ⟨⟨_, Heap.get?_push_size _ rfl, rfl, rfl⟩, pl.isList.at fun o e => Heap.get?_push_of_some _ e⟩, fun b o ys _ e => Heap.get?_push_of_some _ e, ?_, hpos, ?_, ?_, ?_⟩
  · intro b hb'
    rw [Heap.size_push]
    rcases List.mem_cons.mp hb' with e | e
    · rw [e]; exact Nat.lt_succ_self _
    · rw [List.mem_singleton.mp e]; exact Nat.lt_succ_of_lt ltl
  · rintro i j vi vj s' Q' E' hi hj g q'
    obtain ⟨b1, n, rfl, _, c3, c4⟩ := key i vi hi
    obtain ⟨b2, m, rfl, _, d3, d4⟩ := key j vj hj
    have q' : Q' (.bool (HT.lexLt ((ns[i]?).getD []) ((ns[j]?).getD []))) s' := q'
    rw [c3, d3] at q'
    obtain ⟨its1, r1, p1, _⟩ := I.tuple (SqT.of c4)
    obtain ⟨its2, r2, p2, _⟩ := I.tuple (SqT.of d4)
    have i1 : IntsAre its1.toArray.toList n := intsAre_of r1
    have i2 : IntsAre its2.toArray.toList m := intsAre_of r2
    have t1 : IsTup s'.heap b1 its1.toArray := let ⟨o, ho, rest⟩ := p1; ⟨o, g _ _ _ c4 ho, rest⟩
    have t2 : IsTup s'.heap b2 its2.toArray := let ⟨o, ho, rest⟩ := p2; ⟨o, g _ _ _ d4 ho, rest⟩
    exact HT.lt_tupInts (A := X.A.in1) t1 t2 i1 i2 (by show X.A.units + 1 < cLine; omega) q'
  · intro h1 h2 g kp b o ys hy ho
    have lt := Heap.lt_size ho
    refine kp b o (fun e => Nat.ne_of_lt lt (List.mem_singleton.mp e)) (fun e => ?_) (g b o ys hy ho)
    rw [Heap.size_push] at e
    exact Nat.ne_of_lt (Nat.lt_succ_of_lt lt) e
  · rintro v h' tk hv kp
    obtain ⟨a, n, rfl, c2, c3, c4⟩ := key _ v hv
    obtain ⟨_, best⟩ := HT.best_le (fun i => (ns[i]?).getD []) (its.toArray.size - 1)
    rw [c3] at best
    refine ⟨.ref a, H, I.kept (t' := tk) fun b o ho => kp b o (fun e => Nat.ne_of_lt (Heap.lt_size ho) (List.mem_singleton.mp e)) (Heap.get?_push_of_some _ ho), rfl, q a n (List.mem_of_getElem? c2) (List.mem_of_getElem? c3) c4 fun m hm => ?_⟩
    obtain ⟨j, hj⟩ := List.getElem?_of_mem hm
    have lj := (List.getElem?_eq_some_iff.mp hj).1
    have z := best j (by omega)
    rw [hj] at z
    exact z
end
/-- a comprehension over range(m) -/
theorem comp_rng {n m : Nat} {g : TG} {tc : TT} {te : TE} {σ : St} {H : Hp} {Q : VK} (Pv : Nat → List V → Hp → Prop) (h0 : Pv 0 [] H) (hl : ∀ i ys H, i ≤ m → Pv i ys H → ys.length < sizeLine)
    (hs : ∀ i ys H, i < m → Pv i ys H → g (.int (0 + i)) (List.replicate n none ++ σ) H fun σ2 H2 => σ2.drop n = σ ∧ tc σ2 H2 fun b H3 => if b = true then te σ2 H3 fun y H4 => Pv (i + 1) (ys ++ [y]) H4 else Pv (i + 1) ys H3)
    (hd : ∀ ys H, Pv m ys H → ∀ p, H p = none → Q (.ref p) (upd H p (.lst ys))) :
    ∃ W : Nat → Nat → List V → Hp → Prop, (∃ k, W 0 k [] H) ∧ ∀ i k ys H, W i k ys H → ys.length < sizeLine ∧ (((Itr 0 m).stop i H ∧ ∀ p, H p = none → Q (.ref p) (upd H p (.lst ys))) ∨
      ((Itr 0 m).go i H ∧ ∃ N : List V → Hp → Prop, (∀ ys' H', N ys' H' → ∃ k', k' < k ∧ W (i + 1) k' ys' H') ∧ ∀ x H', (Itr 0 m).yld i H x H' → g x (List.replicate n none ++ σ) H' fun σ2 H2 => σ2.drop n = σ ∧ tc σ2 H2 fun b H3 =>
        if b = true then te σ2 H3 fun y H4 => N (ys ++ [y]) H4 else N ys H3)) := by
  refine ⟨fun i k ys H => k = m - i ∧ i ≤ m ∧ Pv i ys H, ⟨m, by simp, Nat.zero_le _, h0⟩, ?_⟩
  rintro i k ys H ⟨rfl, hi, pv'⟩
  refine ⟨hl i ys H hi pv', ?_⟩
  by_cases lt : i < m
  · refine .inr ⟨lt, Pv (i + 1), fun ys' H' p' => ⟨m - (i + 1), by omega, rfl, lt, p'⟩, fun x H' y => ?_⟩
    obtain ⟨e, y⟩ := y
    subst e y
    exact hs i ys _ lt pv'
  · have e : i = m := by omega
    subst e
    exact .inl ⟨Nat.le_refl _, hd ys H pv'⟩
end L2
set_option Elab.async false
set_option linter.all false
set_option maxRecDepth 100000
set_option maxHeartbeats 4000000
namespace My
open PySem L2
def top (i : Nat) : Stmt := PySem.Challenge.pw_momentloom_k24_wheels_used.main.body.getD i (.Pass ⟨0, 0, 0, 0⟩)
abbrev s_place_in : Stmt := top 1
abbrev s_put_in : Stmt := top 2
abbrev s_last_of : Stmt := top 3
abbrev s_Calendar_init : Stmt := inClass (top 5) 0
abbrev s_Calendar_put : Stmt := inClass (top 5) 1
abbrev s_Calendar_size : Stmt := inClass (top 5) 2
abbrev s_Calendar_least : Stmt := inClass (top 5) 3
abbrev s_Calendar_leave : Stmt := inClass (top 5) 4
abbrev s_Calendar_take_out : Stmt := inClass (top 5) 5
abbrev s_Calendar_row_for : Stmt := inClass (top 5) 6
abbrev s_Wheel_init : Stmt := inClass (top 8) 0
abbrev s_Wheel_put : Stmt := inClass (top 8) 1
abbrev s_Wheel_least : Stmt := inClass (top 8) 2
abbrev s_Wheel_least_in_one_turn : Stmt := inClass (top 8) 3
abbrev s_Wheel_row_for : Stmt := inClass (top 8) 4
abbrev s_Wheel_stretch_of : Stmt := inClass (top 8) 5
abbrev s_law_whole : Stmt := top 10
abbrev s_law_mixed : Stmt := top 11
abbrev s_law_purse : Stmt := top 12
abbrev s_law_draw : Stmt := top 13
abbrev s_law_key : Stmt := top 14
abbrev s_law_thing : Stmt := top 15
abbrev s_law_keys : Stmt := top 16
abbrev s_law_look : Stmt := top 17
abbrev s_law_left : Stmt := top 18
abbrev s_law_taken : Stmt := top 19
abbrev s_law_step : Stmt := top 20
abbrev s_law : Stmt := top 21
end My
namespace My
open PySem L2
/-- a def of the text, as it stands behind the top -/
structure Df (K : PySem.W.Frag) (mg : Str → Option Value) (x : Str) (st : Stmt) (ps : List Str) (f : Addr) (fd : FuncData) : Prop where
  F : Fun K x x st f fd
  b : Binds K fd ps []
  m : mg x = some (.ref f)
/-- the built-in names are as they were -/
structure Bl (mg : Str → Option Value) : Prop where
  len : mg "len" = none
  abs : mg "abs" = none
  isi : mg "isinstance" = none
  list : mg "list" = none
  tuple : mg "tuple" = none
  str : mg "str" = none
  int : mg "int" = none
  bool : mg "bool" = none
  range : mg "range" = none
  max : mg "max" = none
  dict : mg "dict" = none
theorem boot_abs : bootBuiltins "abs" = some (.builtin "abs") := by decide +kernel
theorem boot_isi : bootBuiltins "isinstance" = some (.builtin "isinstance") := by decide +kernel
theorem boot_list : bootBuiltins "list" = some (.type "list") := by decide +kernel
theorem boot_tuple : bootBuiltins "tuple" = some (.type "tuple") := by decide +kernel
theorem boot_str : bootBuiltins "str" = some (.type "str") := by decide +kernel
theorem boot_int : bootBuiltins "int" = some (.type "int") := by decide +kernel
theorem boot_bool : bootBuiltins "bool" = some (.type "bool") := by decide +kernel
theorem boot_max : bootBuiltins "max" = some (.builtin "max") := by decide +kernel
theorem boot_dict : bootBuiltins "dict" = some (.type "dict") := by decide +kernel
/-- what stood elsewhere stands -/
def But (p : Addr) (H H' : Hp) : Prop := ∀ b o, H b = some o → b ≠ p → H' b = some o
theorem But.refl (p : Addr) (H : Hp) : But p H H := fun _ _ e _ => e
theorem But.trans {p : Addr} {H H1 H2 : Hp} (a : But p H H1) (b : But p H1 H2) : But p H H2 := fun c o e n => b c o (a c o e n) n
theorem But.upd (p : Addr) (H : Hp) (o : HO) : But p H (upd H p o) := fun b u e n => by rw [upd_ne n]; exact e
theorem But.same {p : Addr} {H H1 H2 : Hp} (a : But p H H1) (b : Same H1 H2) : But p H H2 := fun c o e n => b c o (a c o e n)
theorem same_new {H : Hp} {p : Addr} (h : H p = none) (o : HO) : Same H (upd H p o) := fun b u q => by rw [upd_ne (ne_of_none q h)]; exact q
theorem dec_t {c : Prop} [Decidable c] (h : decide c = true) : c := of_decide_eq_true h
theorem dec_f {c : Prop} [Decidable c] (h : ¬ decide c = true) : ¬ c := fun z => h (decide_eq_true z)
theorem lt2 : 2 ≤ sizeLine := by decide
theorem lt5 : 5 ≤ sizeLine := by decide
theorem lt7 : 7 ≤ sizeLine := by decide
end My
namespace My
open PySem L2
section
variable {P : Program} {w : World} {K : PySem.W.Frag} {mg : Str → Option Value} {base : Heap} {f fM fD : Addr} {fd fdM fdD : FuncData}
/-! ### _law_mixed -/
def spMixed : Sp := fun vs H Q _ => ∃ c k : Int, vs = [.int c, .int k] ∧ Builtin.Int.intBits c ≤ 1048576 ∧ ∀ r : Int, Q (.int r) H
theorem small_mod (x : Int) : -(2 ^ 64) < x % 2147483629 ∧ x % 2147483629 < 2 ^ 64 := by
  have h1 := Int.emod_nonneg x (show (2147483629 : Int) ≠ 0 by decide)
  have h2 := Int.emod_lt_of_pos x (show (0 : Int) < 2147483629 by decide)
  omega
theorem scM : FnScope ["_law_cell", "_law_k", "_law_number"] ["_law_cell", "_law_k"] (defScope s_law_mixed) := ⟨rfl, rfl, rfl, by decide +kernel, rfl, by decide +kernel, by decide +kernel⟩
theorem ok_mixed (D : Df K mg "_law_mixed" s_law_mixed ["_law_cell", "_law_k"] f fd) : FnOk P w K mg base CX0 1 f fd ["_law_cell", "_law_k"] spMixed := by
  refine D.F.ok scM (fun vs H Q E h => ?_) (fun cdv A outer s H vs Q E hr h => ?_)
  · obtain ⟨c, k, rfl, _⟩ := h
    rfl
  obtain ⟨c, k, rfl, hc, q⟩ := h
  refine ⟨_, pss_cons (ps_set (i := 2) scM.nd rfl (Or.inl rfl) (pe_op op_mod (pe_op op_mul (pe_op op_add (pe_op op_add (pe_op op_add (pe_op op_mulB (pv 0) (pv 0)) (pe_op op_mul pe_int (pv 0))) (pe_op op_mul pe_int (pv 1))) pe_int) pe_int) pe_int))
    (pss_one (ps_ret (pe_op op_mod (pe_op op_add (pe_op op_mul (pv 2) (pv 2)) pe_int) pe_int))), ?_⟩
  refine ⟨_, rfl, _, rfl, _, _, rfl, rfl, .of_bits hc hc, _, rfl, _, _, rfl, rfl, .inl ⟨by decide, by decide⟩, _, _, rfl, rfl, _, rfl, _, _, rfl, rfl, .inl ⟨by decide, by decide⟩, _, _, rfl, rfl, _, _, rfl, rfl, _, _, rfl, rfl, .inr ⟨by decide, by decide⟩, _, _, rfl, rfl, (by show (0 : Int) < 2147483629; decide), ?_⟩
  refine ⟨_, rfl, _, rfl, _, _, rfl, rfl, .inl (small_mod _), _, _, rfl, rfl, _, _, rfl, rfl, (by show (0 : Int) < 2147483587; decide), ?_⟩
  exact q _
/-! ### _law_draw -/
/-- a purse: a list of two ints -/
def Purse (H : Hp) (p : Addr) : Prop := ∃ x y : Int, H p = some (.lst [.int x, .int y])
theorem Purse.same {H H' : Hp} {p : Addr} (a : Purse H p) (b : Same H H') : Purse H' p := by
  obtain ⟨x, y, e⟩ := a
  exact ⟨x, y, b _ _ e⟩
theorem Purse.upd {H : Hp} {p b : Addr} {o : HO} (a : Purse H p) (h : H b = none) : Purse (upd H b o) p := a.same (same_new h o)
def spDraw : Sp := fun vs H Q _ => ∃ (p : Addr) (n : Int), vs = [.ref p, .int n] ∧ Purse H p ∧ 0 < n ∧ n < 2 ^ 64 ∧ ∀ (r : Int) (H' : Hp), 0 ≤ r → r < n → Purse H' p → But p H H' → Q (.int r) H'
theorem scD : FnScope ["_law_purse_here", "_law_out_of", "_law_drawn"] ["_law_purse_here", "_law_out_of"] (defScope s_law_draw) := ⟨rfl, rfl, rfl, by decide +kernel, rfl, by decide +kernel, by decide +kernel⟩
theorem ok_draw (D : Df K mg "_law_draw" s_law_draw ["_law_purse_here", "_law_out_of"] f fd) : FnOk P w K mg base CX0 1 f fd ["_law_purse_here", "_law_out_of"] spDraw := by
  refine D.F.ok scD (fun vs H Q E h => ?_) (fun cdv A outer s H vs Q E hr h => ?_)
  · obtain ⟨p, n, rfl, _⟩ := h
    rfl
  obtain ⟨p, n, rfl, ⟨x, y, hp⟩, hn, hn2, q⟩ := h
  refine ⟨_, pss_cons (ps_if (pt_cmpR op_eq (pe_ix ix_list (pv 0) pe_int (fun _ _ => rfl)) pe_int (nomark _)) (pss_one (ps_asg (pe_ix ix_list (pv 0) pe_int (fun _ _ => rfl)) (pg_sub (pv 0) pe_int set_list))) pss_nil)
    (pss_cons (ps_set (i := 2) scD.nd rfl (Or.inl rfl) (pe_op op_mod (pe_ix ix_list (pv 0) pe_int (fun _ _ => rfl)) (pv 1)))
    (pss_cons (ps_asg (pe_op op_fdivB (pe_ix ix_list (pv 0) pe_int (fun _ _ => rfl)) (pv 1)) (pg_sub (pv 0) pe_int set_list))
    (pss_one (ps_ret (pv 2))))), ?_⟩
  refine ⟨_, rfl, p, _, _, _, rfl, rfl, SqL.of hp, rfl, rfl, _, rfl, ?_⟩
  refine ite2 (fun c => ?_) (fun c => ?_)
  · refine ⟨_, rfl, p, _, _, _, rfl, rfl, SqL.of hp, rfl, _, rfl, p, _, _, _, rfl, rfl, hp, rfl, ?_⟩
    have hp1 : upd H p (.lst [.int y, .int y]) p = some (.lst [.int y, .int y]) := upd_same
    refine ⟨_, rfl, p, _, _, _, rfl, rfl, SqL.of hp1, rfl, _, rfl, _, _, rfl, rfl, hn, ?_⟩
    refine ⟨_, rfl, p, _, _, _, rfl, rfl, SqL.of hp1, rfl, _, rfl, _, _, rfl, rfl, ⟨hn, hn2⟩, _, rfl, p, _, _, _, rfl, rfl, hp1, rfl, ?_⟩
    refine ⟨_, rfl, ?_⟩
    exact q _ _ (Int.emod_nonneg _ (by omega)) (Int.emod_lt_of_pos _ hn) ⟨_, _, upd_same⟩ ((But.upd p H _).trans (But.upd p _ _))
  · refine ⟨_, rfl, p, _, _, _, rfl, rfl, SqL.of hp, rfl, _, rfl, _, _, rfl, rfl, hn, ?_⟩
    refine ⟨_, rfl, p, _, _, _, rfl, rfl, SqL.of hp, rfl, _, rfl, _, _, rfl, rfl, ⟨hn, hn2⟩, _, rfl, p, _, _, _, rfl, rfl, hp, rfl, ?_⟩
    refine ⟨_, rfl, ?_⟩
    exact q _ _ (Int.emod_nonneg _ (by omega)) (Int.emod_lt_of_pos _ hn) ⟨_, _, upd_same⟩ (But.upd p H _)
/-! ### _law_purse -/
def spPurse (K : PySem.W.Frag) : Sp := fun vs H Q _ => ∃ (a : Addr) (ns : List Int), vs = [.ref a] ∧ SqL K H a (ns.map V.int) ∧ ns.length ≤ 63 ∧ (∀ x ∈ ns, Builtin.Int.intBits x ≤ 1048576) ∧ ∀ (p : Addr) (H' : Hp), H p = none → Purse H' p → Same H H' → Q (.ref p) H'
theorem scP : FnScope ["_law_script", "_law_cells", "_law_number", "_law_k"] ["_law_script"] (defScope s_law_purse) := ⟨rfl, rfl, rfl, by decide +kernel, rfl, by decide +kernel, by decide +kernel⟩
theorem cut_mem {xs : List V} {lo hi : Option Int} {v : V} (h : v ∈ cutV xs lo hi) : v ∈ xs := by
  unfold cutV at h
  exact List.mem_of_mem_drop (List.mem_of_mem_take h)
theorem at_mod {xs : List V} (h : xs ≠ []) (z : Int) : ∃ v, atI xs (z % (xs.length : Int)) = some v ∧ v ∈ xs := by
  have hl : 0 < xs.length := List.length_pos_iff.mpr h
  have h0 := Int.emod_nonneg z (show (xs.length : Int) ≠ 0 by omega)
  have h1 := Int.emod_lt_of_pos z (show (0 : Int) < (xs.length : Int) by omega)
  obtain ⟨j, hj⟩ : ∃ j : Nat, z % (xs.length : Int) = (j : Int) := ⟨(z % (xs.length : Int)).toNat, by omega⟩
  rw [hj] at h1 ⊢
  have hj2 : j < xs.length := by omega
  exact ⟨xs[j], atI_nat (List.getElem?_eq_getElem hj2), List.getElem_mem hj2⟩
theorem ok_purse (D : Df K mg "_law_purse" s_law_purse ["_law_script"] f fd) (DM : Df K mg "_law_mixed" s_law_mixed ["_law_cell", "_law_k"] fM fdM) (B : Bl mg) : FnOk P w K mg base CX0 2 f fd ["_law_script"] (spPurse K) := by
  have GM : FnOk P w K mg base CX0 1 fM fdM ["_law_cell", "_law_k"] spMixed := ok_mixed DM
  refine D.F.ok scP (fun vs H Q E h => ?_) (fun cdv A outer s H vs Q E hr h => ?_)
  · obtain ⟨a, ns, rfl, _⟩ := h
    rfl
  obtain ⟨a, ns, rfl, hS, hlen, hbits, q⟩ := h
  refine ⟨_, pss_cons (ps_set (i := 1) scP.nd rfl (Or.inl rfl) (pe_op op_cat (pe_slice sl_list (pv 0) po_none (po_some pe_int)) (pe_lst (pa_cons pe_int pa_nil))))
    (pss_cons (ps_set (i := 2) scP.nd rfl (Or.inl rfl) pe_int)
    (pss_cons (ps_for PassesOwn.never rfl (pi_range1 rfl B.range (pa_cons pe_int pa_nil)) (pg_name (i := 3) scP.nd rfl (Or.inl rfl))
      (pss_one (ps_set (i := 2) scP.nd rfl (Or.inl rfl) (pe_op op_add (pe_op op_mul (pv 2) pe_int) (pe_call GM hr rfl DM.m DM.F.kp DM.b .nil pass0 (pa_cons (pe_ix ix_list (pv 1) (pe_op op_mod (pv 3) (pe_callB call_len_seq (by rfl) B.len PySem.boot_len (pa_cons (pv 1) pa_nil))) (fun _ _ => rfl)) (pa_cons (pv 3) pa_nil)))))))
    (pss_cons (ps_if (pt_cmpR op_eq (pe_op op_mod (pe_ix ix_list (pv 1) pe_int (fun _ _ => rfl)) pe_int) pe_int (nomark _))
      (pss_one (ps_ret (pe_lst (pa_cons (pe_callB (call_max2 rfl) (by rfl) B.max boot_max (pa_cons (pe_op op_fdivB (pe_ix ix_list (pv 1) pe_int (fun _ _ => rfl)) pe_int) (pa_cons (pe_op op_sub (pe_un un_neg pe_int) (pe_op op_fdivB (pe_ix ix_list (pv 1) pe_int (fun _ _ => rfl)) pe_int)) pa_nil))) (pa_cons (pv 2) pa_nil))))) pss_nil)
    (pss_one (ps_ret (pe_lst (pa_cons (pv 2) (pa_cons (pv 2) pa_nil)))))))), ?_⟩
  -- cells = script[:63] + [0]
  refine ⟨_, rfl, _, rfl, a, _, rfl, hS, fun l hl => ⟨(by show 1 ≤ sizeLine; decide), fun m hm => ?_⟩⟩
  have hlm : l ≠ m := ne_of_none (upd_same : upd H l (.lst (cutV (ns.map V.int) none (some 63))) l = _) hm
  have cl : (cutV (ns.map V.int) none (some 63)).length ≤ 63 := Nat.le_trans (cutV_length _ _ _) (by rw [List.length_map]; exact hlen)
  have l64 : (cutV (ns.map V.int) none (some 63)).length + [V.int 0].length ≤ sizeLine := by
    have z : 64 ≤ sizeLine := by decide
    rw [List.length_singleton]
    omega
  refine ⟨l, m, _, _, rfl, rfl, (by rw [upd_ne hlm]; exact upd_same), upd_same, l64, fun c hc => ?_⟩
  generalize hcs : cutV (ns.map V.int) none (some 63) ++ [V.int 0] = cs at hc ⊢
  have sc : Same H (upd (upd (upd H l (.lst (cutV (ns.map V.int) none (some 63)))) m (.lst [.int 0])) c (.lst cs)) := (same_new hl _).trans ((same_new hm _).trans (same_new hc _))
  generalize hH : upd (upd (upd H l (.lst (cutV (ns.map V.int) none (some 63)))) m (.lst [.int 0])) c (.lst cs) = H1 at sc ⊢
  have hc1 : H1 c = some (.lst cs) := by rw [← hH]; exact upd_same
  have nonil : cs ≠ [] := by rw [← hcs]; simp
  have cells : ∀ v ∈ cs, ∃ z : Int, v = .int z ∧ Builtin.Int.intBits z ≤ 1048576 := fun v hv => by
    rw [← hcs] at hv
    rcases List.mem_append.mp hv with z | z
    · obtain ⟨n, hn, rfl⟩ := List.mem_map.mp (cut_mem z)
      exact ⟨n, rfl, hbits n hn⟩
    · rw [List.mem_singleton.mp z]
      exact ⟨0, rfl, by decide⟩
  -- number = 1; for k in range(150)
  refine ⟨150, rfl, by decide, by decide, for_range (n := 150) (fun i σ H2 => ∃ (z : Int) (v : Option V), σ = [some (.ref a), some (.ref c), some (.int z), v] ∧ H2 = H1) ⟨1, none, rfl, rfl⟩ ?_ ?_⟩
  · rintro i σ H2 hi ⟨z, v, rfl, rfl⟩
    obtain ⟨u, hu, hm2⟩ := at_mod nonil (0 + (i : Int))
    obtain ⟨y, rfl, hy⟩ := cells u hm2
    have lpos : (0 : Int) < (cs.length : Int) := by
      have := List.length_pos_iff.mpr nonil
      omega
    refine ⟨_, rfl, _, _, rfl, rfl, .inr ⟨by decide, by decide⟩, _, rfl, _, rfl, _, rfl, c, _, rfl, .inl (SqL.of hc1), _, _, rfl, rfl, lpos, c, _, _, _, rfl, rfl, SqL.of hc1, hu, _, rfl, y, _, rfl, hy, fun r => ?_⟩
    exact ⟨_, _, rfl, rfl, _, _, rfl, rfl⟩
  · rintro σ H2 ⟨z, v, rfl, rfl⟩
    obtain ⟨x0, hx0⟩ : ∃ x0, cs[0]? = some x0 := by
      cases cs with
      | nil => exact absurd rfl nonil
      | cons x0 r => exact ⟨x0, rfl⟩
    obtain ⟨y, rfl, hy⟩ := cells x0 (List.mem_of_getElem? hx0)
    have a0 : atI cs 0 = some (.int y) := atI_nat (j := 0) hx0
    refine ⟨_, rfl, c, _, _, _, rfl, rfl, SqL.of hc1, a0, _, _, rfl, rfl, (by show (0 : Int) < 2; decide), rfl, _, rfl, ?_⟩
    have two : CDivB y 2 := ⟨by decide, by decide⟩
    refine ite2 (fun _ => ?_) (fun _ => ?_)
    · refine ⟨_, rfl, c, _, _, _, rfl, rfl, SqL.of hc1, a0, _, _, rfl, rfl, two, _, rfl, _, rfl, c, _, _, _, rfl, rfl, SqL.of hc1, a0, _, _, rfl, rfl, two, _, _, rfl, rfl, _, _, rfl, _, rfl, lt2, fun p hp => ?_⟩
      exact q p _ (sc.free hp) ⟨_, _, upd_same⟩ (sc.trans (same_new hp _))
    · refine ⟨_, rfl, _, rfl, lt2, fun p hp => ?_⟩
      exact q p _ (sc.free hp) ⟨_, _, upd_same⟩ (sc.trans (same_new hp _))
end
end My
namespace My
open PySem L2
theorem kit_ii {K : PySem.W.Frag} : PySem.W.kitOne K (.type "int") (.type "int") = some true := by rfl
theorem kit_ib {K : PySem.W.Frag} : PySem.W.kitOne K (.type "int") (.type "bool") = some false := by kernel_rfl
theorem kit_is {K : PySem.W.Frag} : PySem.W.kitOne K (.type "int") (.type "str") = some false := by kernel_rfl
theorem kit_ss {K : PySem.W.Frag} : PySem.W.kitOne K (.type "str") (.type "str") = some true := by rfl
theorem kit_il {K : PySem.W.Frag} : PySem.W.kitOne K (.type "int") (.type "list") = some false := by kernel_rfl
theorem kit_sl {K : PySem.W.Frag} : PySem.W.kitOne K (.type "str") (.type "list") = some false := by kernel_rfl
theorem kit_it {K : PySem.W.Frag} : PySem.W.kitOne K (.type "int") (.type "tuple") = some false := by kernel_rfl
theorem kit_st {K : PySem.W.Frag} : PySem.W.kitOne K (.type "str") (.type "tuple") = some false := by kernel_rfl
theorem kit_ll {K : PySem.W.Frag} : PySem.W.kitOne K (.type "list") (.type "list") = some true := by rfl
theorem kit_tl {K : PySem.W.Frag} : PySem.W.kitOne K (.type "tuple") (.type "list") = some false := by kernel_rfl
theorem kit_tt {K : PySem.W.Frag} : PySem.W.kitOne K (.type "tuple") (.type "tuple") = some true := by rfl
end My
namespace My
open PySem L2
section
variable {P : Program} {w : World} {K : PySem.W.Frag} {mg : Str → Option Value} {base : Heap} {f : Addr} {fd : FuncData}
/-! ### _law_whole -/
def spWhole : Sp := fun vs H Q _ => ∃ n : Int, vs = [.int n] ∧ Q (.bl true) H
theorem scWh : FnScope ["_law_found"] ["_law_found"] (defScope s_law_whole) := ⟨rfl, rfl, rfl, by decide +kernel, rfl, by decide +kernel, by decide +kernel⟩
theorem ok_whole (D : Df K mg "_law_whole" s_law_whole ["_law_found"] f fd) (B : Bl mg) : FnOk P w K mg base CX0 1 f fd ["_law_found"] spWhole := by
  refine D.F.ok scWh (fun vs H Q E h => ?_) (fun cdv A outer s H vs Q E hr h => ?_)
  · obtain ⟨n, rfl, _⟩ := h
    rfl
  obtain ⟨n, rfl, q⟩ := h
  refine ⟨_, pss_one (ps_ret (pe_and (pe_callB call_isinst (by rfl) B.isi boot_isi (pa_cons (pv 0) (pa_cons (pe_bltn (v := .ty "int") (by rfl) B.int boot_int rfl) pa_nil))) (pe_one (pe_not (pe_callB call_isinst (by rfl) B.isi boot_isi (pa_cons (pv 0) (pa_cons (pe_bltn (v := .ty "bool") (by rfl) B.bool boot_bool rfl) pa_nil))))))), ?_⟩
  refine ⟨_, rfl, _, "int", _, true, rfl, .int n, kit_ii, _, rfl, iteT ?_⟩
  exact ⟨_, rfl, _, "bool", _, false, rfl, .int n, kit_ib, _, rfl, q⟩
end
end My
namespace My
open PySem L2
theorem iteE {c : Bool} {b : Bool} {p q : Prop} (h : c = b) (t : if b = true then p else q) : if c = true then p else q := by
  rw [h]
  exact t
/-! ### falling lists of tuples -/
def Fall (ns : List (List Int)) : Prop := ns.Pairwise fun x y => HT.lexLt y x = true
/-- the place of n -/
structure Place (n : List Int) (ns : List (List Int)) (i : Nat) : Prop where
  le : i ≤ ns.length
  up : ∀ (j : Nat) (m : List Int), j < i → ns[j]? = some m → HT.lexLt n m = true
  dn : ∀ (j : Nat) (m : List Int), i ≤ j → ns[j]? = some m → HT.lexLt n m = false
theorem Fall.at_ {ns : List (List Int)} (h : Fall ns) {i j : Nat} {a b : List Int} (hij : i < j) (hi : ns[i]? = some a) (hj : ns[j]? = some b) : HT.lexLt b a = true := by
  obtain ⟨l1, e1⟩ := List.getElem?_eq_some_iff.mp hi
  obtain ⟨l2, e2⟩ := List.getElem?_eq_some_iff.mp hj
  subst e1 e2
  exact List.pairwise_iff_getElem.mp h i j l1 l2 hij
theorem Fall.put {ns : List (List Int)} {n : List Int} {i : Nat} (h : Fall ns) (p : Place n ns i) (hn : ¬ n ∈ ns) : Fall (ns.take i ++ n :: ns.drop i) := by
  have h' : Fall (ns.take i ++ ns.drop i) := by rw [List.take_append_drop]; exact h
  obtain ⟨h1, h2, h3⟩ := List.pairwise_append.mp h'
  refine List.pairwise_append.mpr ⟨h1, List.pairwise_cons.mpr ⟨fun m hm => ?_, h2⟩, fun a ha b hb => ?_⟩
  · obtain ⟨j, hj⟩ := List.getElem?_of_mem hm
    rw [List.getElem?_drop] at hj
    exact HT.lx_of_not (p.dn _ m (by omega) hj) fun e => hn (e ▸ List.mem_of_getElem? hj)
  · rcases List.mem_cons.mp hb with e | hb
    · subst e
      obtain ⟨j, hj⟩ := List.getElem?_of_mem ha
      have lj := (List.getElem?_eq_some_iff.mp hj).1
      rw [List.length_take] at lj
      rw [List.getElem?_take, if_pos (by omega)] at hj
      exact p.up j a (by omega) hj
    · exact h3 a ha b hb
theorem mem_put {ns : List (List Int)} {n m : List Int} {i : Nat} : m ∈ ns.take i ++ n :: ns.drop i ↔ m = n ∨ m ∈ ns := by
  constructor
  · intro h
    rcases List.mem_append.mp h with h | h
    · exact .inr (List.mem_of_mem_take h)
    · rcases List.mem_cons.mp h with h | h
      · exact .inl h
      · exact .inr (List.mem_of_mem_drop h)
  · rintro (h | h)
    · exact List.mem_append.mpr (.inr (List.mem_cons.mpr (.inl h)))
    · rw [← List.take_append_drop i ns] at h
      rcases List.mem_append.mp h with h | h
      · exact List.mem_append.mpr (.inl h)
      · exact List.mem_append.mpr (.inr (List.mem_cons.mpr (.inr h)))
theorem Fall.found {ns : List (List Int)} {n : List Int} {i : Nat} (h : Fall ns) (p : Place n ns i) (hn : n ∈ ns) : ns[i]? = some n := by
  obtain ⟨j, hj⟩ := List.getElem?_of_mem hn
  rcases Nat.lt_trichotomy j i with l | l | l
  · have z := p.up j n l hj
    rw [HT.lx_irr] at z
    cases z
  · rw [← l]
    exact hj
  · have lj := (List.getElem?_eq_some_iff.mp hj).1
    have hi : ns[i]? = some (ns[i]'(by omega)) := List.getElem?_eq_getElem _
    have z1 := h.at_ l hi hj
    rw [p.dn i _ (Nat.le_refl _) hi] at z1
    cases z1
theorem Fall.erase {ns : List (List Int)} (h : Fall ns) (i : Nat) : Fall (ns.eraseIdx i) := List.Pairwise.sublist (List.eraseIdx_sublist _ _) h
theorem Fall.mem_erase {ns : List (List Int)} {n m : List Int} {i : Nat} (h : Fall ns) (e : ns[i]? = some n) : m ∈ ns.eraseIdx i ↔ m ∈ ns ∧ m ≠ n := by
  rw [List.mem_eraseIdx_iff_getElem?]
  constructor
  · rintro ⟨j, hj, e'⟩
    refine ⟨List.mem_of_getElem? e', fun q => ?_⟩
    subst q
    rcases Nat.lt_or_gt_of_ne hj with l | l
    · have z := h.at_ l e' e
      rw [HT.lx_irr] at z
      cases z
    · have z := h.at_ l e e'
      rw [HT.lx_irr] at z
      cases z
  · rintro ⟨hm, ne⟩
    obtain ⟨j, hj⟩ := List.getElem?_of_mem hm
    refine ⟨j, fun q => ne ?_, hj⟩
    subst q
    rw [e] at hj
    exact (Option.some.inj hj).symm
theorem Fall.last {ns : List (List Int)} {z : List Int} (h : Fall ns) (e : ns[ns.length - 1]? = some z) : ∀ m ∈ ns, HT.lexLt m z = false := by
  intro m hm
  obtain ⟨j, hj⟩ := List.getElem?_of_mem hm
  have lj := (List.getElem?_eq_some_iff.mp hj).1
  by_cases q : j = ns.length - 1
  · rw [q, e] at hj
    rw [Option.some.inj hj]
    exact HT.lx_irr _
  · exact HT.lx_asym (h.at_ (by omega) hj e)
/-! ### a dict by tuples of ints, and their falling list -/
abbrev kI (n : List Int) : List Key := n.map Sum.inl
structure Keyed (kvs : List (List Key × V)) (ns : List (List Int)) : Prop where
  iff : ∀ k : List Key, k ∈ kvs.map (·.1) ↔ ∃ n ∈ ns, k = kI n
  nd : (kvs.map (·.1)).Nodup
  len : ns.length = kvs.length
theorem Keyed.nil : Keyed [] [] := ⟨fun k => ⟨fun h => (nomatch h), fun ⟨_, h, _⟩ => (nomatch h)⟩, List.nodup_nil, rfl⟩
theorem Keyed.ik {kvs : List (List Key × V)} {ns : List (List Int)} (h : Keyed kvs ns) : IntKeys kvs := fun k hk => by
  obtain ⟨n, _, e⟩ := (h.iff k).mp hk
  exact ⟨n, e⟩
theorem Keyed.mem {kvs : List (List Key × V)} {ns : List (List Int)} (h : Keyed kvs ns) {n : List Int} : kI n ∈ kvs.map (·.1) ↔ n ∈ ns := by
  rw [h.iff]
  constructor
  · rintro ⟨m, hm, e⟩
    rw [map_inl_inj e]
    exact hm
  · intro hn
    exact ⟨n, hn, rfl⟩
theorem Keyed.isSome {kvs : List (List Key × V)} {ns : List (List Int)} (h : Keyed kvs ns) {n : List Int} {v : V} (e : valV kvs (kI n) = some v) : n ∈ ns := h.mem.mp (valV_in e)
theorem Keyed.isNone {kvs : List (List Key × V)} {ns : List (List Int)} (h : Keyed kvs ns) {n : List Int} (e : valV kvs (kI n) = none) : ¬ n ∈ ns := fun z => valV_not e (h.mem.mpr z)
theorem Keyed.there {kvs : List (List Key × V)} {ns : List (List Int)} (h : Keyed kvs ns) {n : List Int} (hn : n ∈ ns) : ∃ v, valV kvs (kI n) = some v := by
  cases e : valV kvs (kI n) with
  | some v => exact ⟨v, rfl⟩
  | none => exact absurd hn (h.isNone e)
theorem Keyed.put {kvs : List (List Key × V)} {ns : List (List Int)} (h : Keyed kvs ns) {n : List Int} {v : V} {i : Nat} (e : valV kvs (kI n) = none) : Keyed (putK kvs (kI n) v) (ns.take i ++ n :: ns.drop i) := by
  refine ⟨fun k => ?_, nd_putK v h.nd e, ?_⟩
  · rw [putK_new v e, List.map_append, List.mem_append, h.iff]
    constructor
    · rintro (⟨m, hm, q⟩ | q)
      · exact ⟨m, mem_put.mpr (.inr hm), q⟩
      · exact ⟨n, mem_put.mpr (.inl rfl), List.mem_singleton.mp q⟩
    · rintro ⟨m, hm, q⟩
      rcases mem_put.mp hm with r | r
      · subst r
        exact .inr (List.mem_singleton.mpr q)
      · exact .inl ⟨m, r, q⟩
  · rw [putK_new v e, List.length_append, List.length_append, List.length_cons, List.length_take, List.length_drop, ← h.len]
    show _ = ns.length + 1
    omega
theorem drop_keys {kvs : List (List Key × V)} {k j : List Key} : j ∈ (dropK kvs k).map (·.1) ↔ j ∈ kvs.map (·.1) ∧ j ≠ k := by
  unfold dropK
  constructor
  · intro h
    obtain ⟨p, hp, e⟩ := List.mem_map.mp h
    obtain ⟨h1, h2⟩ := List.mem_filter.mp hp
    subst e
    exact ⟨List.mem_map.mpr ⟨p, h1, rfl⟩, by simpa using h2⟩
  · rintro ⟨h, ne⟩
    obtain ⟨p, hp, e⟩ := List.mem_map.mp h
    subst e
    exact List.mem_map.mpr ⟨p, List.mem_filter.mpr ⟨hp, by simpa using ne⟩, rfl⟩
theorem Keyed.drop {kvs : List (List Key × V)} {ns : List (List Int)} (h : Keyed kvs ns) (hf : Fall ns) {n : List Int} {i : Nat} (e : ns[i]? = some n) : Keyed (dropK kvs (kI n)) (ns.eraseIdx i) := by
  refine ⟨fun k => ?_, nd_dropK h.nd, ?_⟩
  · rw [drop_keys, h.iff]
    constructor
    · rintro ⟨⟨m, hm, rfl⟩, ne⟩
      exact ⟨m, (hf.mem_erase e).mpr ⟨hm, fun q => ne (by rw [q])⟩, rfl⟩
    · rintro ⟨m, hm, rfl⟩
      obtain ⟨h1, h2⟩ := (hf.mem_erase e).mp hm
      exact ⟨⟨m, h1, rfl⟩, fun q => h2 (map_inl_inj q)⟩
  · have l1 := dropK_len h.nd (h.mem.mpr (List.mem_of_getElem? e))
    have l2 := (List.getElem?_eq_some_iff.mp e).1
    rw [List.length_eraseIdx, if_pos l2, h.len]
    omega
theorem Keyed.empty {kvs : List (List Key × V)} {ns : List (List Int)} (h : Keyed kvs ns) : ns = [] ↔ kvs = [] := by
  rw [← List.length_eq_zero_iff, ← List.length_eq_zero_iff, h.len]
section
variable {κ : Type} [DecidableEq κ]
theorem mem_putK {m : List (κ × V)} {k : κ} {v : V} {q : κ × V} (h : q ∈ putK m k v) : q ∈ m ∨ q = (k, v) := by
  unfold putK at h
  split at h
  · obtain ⟨p, h1, h2⟩ := List.mem_map.mp h
    split at h2
    · rename_i e
      right
      rw [← h2, e]
    · left
      rw [← h2]
      exact h1
  · rcases List.mem_append.mp h with z | z
    · exact .inl z
    · exact .inr (List.mem_singleton.mp z)
end
/-! ### what stays -/
/-- what stands elsewhere stays, and all tuples -/
structure Stay (ps : List Addr) (H H' : Hp) : Prop where
  keep : ∀ b o, H b = some o → ¬ b ∈ ps → H' b = some o
  tup : ∀ b xs, H b = some (.tup xs) → H' b = some (.tup xs)
theorem Stay.refl (ps : List Addr) (H : Hp) : Stay ps H H := ⟨fun _ _ e _ => e, fun _ _ e => e⟩
theorem Stay.trans {ps : List Addr} {H H1 H2 : Hp} (a : Stay ps H H1) (b : Stay ps H1 H2) : Stay ps H H2 := ⟨fun c o e n => b.keep c o (a.keep c o e n) n, fun c xs e => b.tup c xs (a.tup c xs e)⟩
theorem Stay.mono {ps qs : List Addr} {H H' : Hp} (a : Stay ps H H') (s : ∀ b ∈ ps, b ∈ qs) : Stay qs H H' := ⟨fun c o e n => a.keep c o e fun z => n (s c z), a.tup⟩
theorem Stay.same {ps : List Addr} {H H' : Hp} (a : Same H H') : Stay ps H H' := ⟨fun c o e _ => a c o e, fun c xs e => a c _ e⟩
theorem Stay.upd {ps : List Addr} {H : Hp} {p : Addr} {o u : HO} (h : p ∈ ps) (e : H p = some u) (nt : ∀ xs, u ≠ .tup xs) : Stay ps H (L2.upd H p o) :=
  ⟨fun c v ec n => by rw [upd_ne (fun z => n (by rw [z]; exact h))]; exact ec, fun c xs ec => by rw [upd_ne (fun z => nt xs (by rw [z, e] at ec; exact Option.some.inj ec))]; exact ec⟩
theorem Stay.but {p : Addr} {H H' : Hp} {u : HO} (a : But p H H') (e : H p = some u) (nt : ∀ xs, u ≠ .tup xs) : Stay [p] H H' :=
  ⟨fun c o ec n => a c o ec fun z => n (List.mem_singleton.mpr z), fun c xs ec => a c _ ec fun z => nt xs (by rw [z, e] at ec; exact Option.some.inj ec)⟩
/-- a thing of numbers, texts and tuples -/
def TT (H : Hp) : Nat → V → Prop
  | 0, v => sc0 v
  | n + 1, v => sc0 v ∨ ∃ p xs, v = .ref p ∧ H p = some (.tup xs) ∧ ∀ x ∈ xs, TT H n x
theorem TT.eq {H : Hp} : ∀ {n : Nat} {v : V}, TT H n v → TEq H n v v
  | 0, v, h => ⟨h, rfl⟩
  | n + 1, v, h => by
    rcases h with h | ⟨p, xs, rfl, hp, hx⟩
    · exact .inl ⟨h, rfl⟩
    · refine .inr (.inr ⟨p, p, xs, xs, rfl, rfl, hp, hp, ?_⟩)
      have all : ∀ ys : List V, (∀ x ∈ ys, TT H n x) → Paired (TEq H n) ys ys := by
        intro ys
        induction ys with
        | nil => intro _; exact .nil
        | cons y r ih => intro h; exact .cons (TT.eq (h y List.mem_cons_self)) (ih fun x hx => h x (List.mem_cons_of_mem _ hx))
      exact all xs hx
theorem TT.keep {H H' : Hp} (k : ∀ b xs, H b = some (.tup xs) → H' b = some (.tup xs)) : ∀ {n : Nat} {v : V}, TT H n v → TT H' n v
  | 0, _, h => h
  | n + 1, v, h => by
    rcases h with h | ⟨p, xs, rfl, hp, hx⟩
    · exact .inl h
    · exact .inr ⟨p, xs, rfl, k _ _ hp, fun x m => TT.keep k (hx x m)⟩
theorem TT.ints {H : Hp} {n : Nat} {a : Addr} {ks : List Int} (h : H a = some (.tup (ks.map V.int))) : TT H (n + 1) (.ref a) :=
  .inr ⟨a, _, rfl, h, fun x hx => by
    obtain ⟨z, _, rfl⟩ := List.mem_map.mp hx
    cases n with
    | zero => exact True.intro
    | succ n => exact .inl True.intro⟩
end My
namespace My
open PySem L2
/-! ### the law's keys and things -/
def KeyOk (m : Int) (n : List Int) : Prop := ∃ a b c e : Int, n = [a, b, c, e] ∧ -1500 ≤ a ∧ a ≤ 1000000000000 ∧ 0 ≤ e ∧ e ≤ m
theorem KeyOk.mono {m m' : Int} {n : List Int} (h : KeyOk m n) (l : m ≤ m') : KeyOk m' n := by
  obtain ⟨a, b, c, e, h1, h2, h3, h4, h5⟩ := h
  exact ⟨a, b, c, e, h1, h2, h3, h4, by omega⟩
theorem Purse.stay {H H' : Hp} {p : Addr} (h : Purse H p) (b : But p H H') : Stay [p] H H' := by
  obtain ⟨x, y, e⟩ := h
  exact Stay.but b e (fun xs z => by cases z)
theorem stay_free {ps : List Addr} {H H' : Hp} {l : Addr} (s : Stay ps H H') (h : H' l = none) (n : ¬ l ∈ ps) : H l = none := by
  cases e : H l with
  | none => rfl
  | some o =>
    rw [s.keep l o e n] at h
    cases h
section
variable {P : Program} {w : World} {K : PySem.W.Frag} {mg : Str → Option Value} {base : Heap} {f fD fK : Addr} {fd fdD fdK : FuncData}
def spKey : Sp := fun vs H Q _ => ∃ p : Addr, vs = [.ref p] ∧ Purse H p ∧ ∀ (t : Addr) (n : List Int) (H' : Hp), KeyOk 4 n → H' t = some (.tup (n.map V.int)) → H t = none → Purse H' p → Stay [p] H H' → Q (.ref t) H'
theorem scKe : FnScope ["_law_purse_here", "_law_time", "_law_rank"] ["_law_purse_here"] (defScope s_law_key) := ⟨rfl, rfl, rfl, by decide +kernel, rfl, by decide +kernel, by decide +kernel⟩
theorem ok_key (D : Df K mg "_law_key" s_law_key ["_law_purse_here"] f fd) (DD : Df K mg "_law_draw" s_law_draw ["_law_purse_here", "_law_out_of"] fD fdD) : FnOk P w K mg base CX0 2 f fd ["_law_purse_here"] spKey := by
  have GD : FnOk P w K mg base CX0 1 fD fdD ["_law_purse_here", "_law_out_of"] spDraw := ok_draw DD
  refine D.F.ok scKe (fun vs H Q E h => ?_) (fun cdv A outer s H vs Q E hr h => ?_)
  · obtain ⟨p, rfl, _⟩ := h
    rfl
  obtain ⟨p, rfl, hp, k⟩ := h
  refine ⟨_, pss_cons (ps_set (i := 1) scKe.nd rfl (Or.inl rfl) (pe_ix ix_list (pe_lst (pa_cons (pe_call GD hr rfl DD.m DD.F.kp DD.b .nil pass0 (pa_cons (pv 0) (pa_cons pe_int pa_nil)))
      (pa_cons (pe_call GD hr rfl DD.m DD.F.kp DD.b .nil pass0 (pa_cons (pv 0) (pa_cons (pe_op op_add (pe_op op_pow pe_int pe_int) pe_int) pa_nil)))
      (pa_cons (pe_op op_sub (pe_call GD hr rfl DD.m DD.F.kp DD.b .nil pass0 (pa_cons (pv 0) (pa_cons pe_int pa_nil))) pe_int) pa_nil))))
      (pe_call GD hr rfl DD.m DD.F.kp DD.b .nil pass0 (pa_cons (pv 0) (pa_cons pe_int pa_nil))) (fun _ _ => rfl)))
    (pss_cons (ps_set (i := 2) scKe.nd rfl (Or.inl rfl) (pe_call GD hr rfl DD.m DD.F.kp DD.b .nil pass0 (pa_cons (pv 0) (pa_cons pe_int pa_nil))))
    (pss_one (ps_ret (pe_tup (pa_cons (pv 1) (pa_cons (pv 2) (pa_cons (pe_op op_sub (pe_call GD hr rfl DD.m DD.F.kp DD.b .nil pass0 (pa_cons (pv 0) (pa_cons pe_int pa_nil))) pe_int)
      (pa_cons (pe_call GD hr rfl DD.m DD.F.kp DD.b .nil pass0 (pa_cons (pv 0) (pa_cons pe_int pa_nil))) pa_nil)))))))), ?_⟩
  have c12 : CPow 10 12 := ⟨by decide, by decide, by decide⟩
  have e12 : (10 : Int) ^ (12 : Int).toNat = 1000000000000 := by decide
  refine ⟨_, rfl, p, 12, rfl, hp, by decide, by decide, fun t1 H1 a1 a2 hp1 b1 => ?_⟩
  refine ⟨_, rfl, _, _, rfl, rfl, c12, _, _, rfl, rfl, p, _, rfl, hp1, (by rw [e12]; decide), (by rw [e12]; decide), fun t2 H2 a3 a4 hp2 b2 => ?_⟩
  rw [e12] at a4
  refine ⟨_, rfl, p, 3000, rfl, hp2, by decide, by decide, fun t3 H3 a5 a6 hp3 b3 => ⟨_, _, rfl, rfl, (by show 3 ≤ sizeLine; decide), fun l hl => ?_⟩⟩
  have hp4 := hp3.upd (o := .lst [.int t1, .int t2, .int (t3 - 1500)]) hl
  refine ⟨_, rfl, p, 3, rfl, hp4, by decide, by decide, fun j H5 a7 a8 hp5 b5 => ?_⟩
  have nlp : l ≠ p := by
    obtain ⟨x, y, e⟩ := hp3
    exact (ne_of_none e hl).symm
  have hl5 : H5 l = some (.lst [.int t1, .int t2, .int (t3 - 1500)]) := b5 l _ upd_same nlp
  obtain ⟨v, hv, hv1, hv2⟩ : ∃ v : Int, atI [V.int t1, V.int t2, V.int (t3 - 1500)] j = some (V.int v) ∧ -1500 ≤ v ∧ v ≤ 1000000000000 := by
    have cs : j = 0 ∨ j = 1 ∨ j = 2 := by omega
    rcases cs with rfl | rfl | rfl
    · exact ⟨t1, rfl, by omega, by omega⟩
    · exact ⟨t2, rfl, by omega, by omega⟩
    · exact ⟨t3 - 1500, rfl, by omega, by omega⟩
  refine ⟨l, _, _, _, rfl, rfl, SqL.of hl5, hv, ?_⟩
  refine ⟨_, rfl, p, 3, rfl, hp5, by decide, by decide, fun rk H6 a9 a10 hp6 b6 => ?_⟩
  refine ⟨_, rfl, _, rfl, _, rfl, p, 4, rfl, hp6, by decide, by decide, fun x7 H7 a11 a12 hp7 b7 => ⟨_, _, rfl, rfl, ?_⟩⟩
  refine ⟨_, rfl, p, 5, rfl, hp7, by decide, by decide, fun x8 H8 a13 a14 hp8 b8 => ⟨(by show 4 ≤ sizeLine; decide), fun t ht => ?_⟩⟩
  have st : Stay [p] H (upd H8 t (.tup [.int v, .int rk, .int (x7 - 1), .int x8])) :=
    (hp.stay b1).trans ((hp1.stay b2).trans ((hp2.stay b3).trans ((Stay.same (same_new hl _)).trans ((hp4.stay b5).trans ((hp5.stay b6).trans ((hp6.stay b7).trans ((hp7.stay b8).trans (Stay.same (same_new ht _)))))))))
  have nt : ¬ t ∈ [p] := fun z => by
    obtain ⟨x, y, e⟩ := hp8
    rw [List.mem_singleton.mp z, e] at ht
    cases ht
  have st8 : Stay [p] H H8 := (hp.stay b1).trans ((hp1.stay b2).trans ((hp2.stay b3).trans ((Stay.same (same_new hl _)).trans ((hp4.stay b5).trans ((hp5.stay b6).trans ((hp6.stay b7).trans (hp7.stay b8)))))))
  exact k t [v, rk, x7 - 1, x8] _ ⟨v, rk, x7 - 1, x8, rfl, hv1, hv2, a13, by omega⟩ upd_same (stay_free st8 ht nt) (hp8.upd ht) st
/-! _law_thing -/
def spThing : Sp := fun vs H Q _ => ∃ (p k : Addr) (n : List Int), vs = [.ref p, .ref k] ∧ Purse H p ∧ H k = some (.tup (n.map V.int)) ∧ KeyOk 200 n ∧ ∀ (v : V) (H' : Hp), TT H' 2 v → Purse H' p → Stay [p] H H' → Q v H'
theorem scTh : FnScope ["_law_purse_here", "_law_key_here"] ["_law_purse_here", "_law_key_here"] (defScope s_law_thing) := ⟨rfl, rfl, rfl, by decide +kernel, rfl, by decide +kernel, by decide +kernel⟩
theorem ok_thing (D : Df K mg "_law_thing" s_law_thing ["_law_purse_here", "_law_key_here"] f fd) (DD : Df K mg "_law_draw" s_law_draw ["_law_purse_here", "_law_out_of"] fD fdD) (B : Bl mg) : FnOk P w K mg base CX0 2 f fd ["_law_purse_here", "_law_key_here"] spThing := by
  have GD : FnOk P w K mg base CX0 1 fD fdD ["_law_purse_here", "_law_out_of"] spDraw := ok_draw DD
  refine D.F.ok scTh (fun vs H Q E h => ?_) (fun cdv A outer s H vs Q E hr h => ?_)
  · obtain ⟨p, k, n, rfl, _⟩ := h
    rfl
  obtain ⟨p, k, n, rfl, hp, hk, ⟨a, b, c, e, rfl, ha, ha2, he, he2⟩, q⟩ := h
  refine ⟨_, pss_one (ps_ret (pe_ix ix_list (pe_lst (pa_cons (pe_tup (pa_cons pe_str (pa_cons (pv 1) pa_nil)))
    (pa_cons (pe_tup (pa_cons (pe_ix ix_tup (pv 1) pe_int (fun _ _ => rfl)) pa_nil))
    (pa_cons (pe_callTy call_str_int (by rfl) B.str boot_str (pa_cons (pe_ix ix_tup (pv 1) pe_int (fun _ _ => rfl)) pa_nil))
    (pa_cons (pe_ix ix_tup (pv 1) pe_int (fun _ _ => rfl))
    (pa_cons pe_str
    (pa_cons pe_int
    (pa_cons (pe_tup pa_nil) pa_nil))))))))
    (pe_call GD hr rfl DD.m DD.F.kp DD.b .nil pass0 (pa_cons (pv 0) (pa_cons pe_int pa_nil))) (fun _ _ => rfl))), ?_⟩
  refine ⟨_, rfl, lt2, fun t1 n1 => ?_⟩
  have s1 := same_new n1 (.tup [.str "thing", .ref k])
  have k1 := s1 k _ hk
  refine ⟨_, rfl, k, _, _, _, rfl, rfl, SqT.of k1, rfl, (by show 1 ≤ sizeLine; decide), fun t2 n2 => ?_⟩
  have s2 := same_new n2 (.tup [.int a])
  have k2 := s2 k _ k1
  refine ⟨_, rfl, k, _, _, _, rfl, rfl, SqT.of k2, rfl, e, rfl, ?_, _, rfl, k, _, _, _, rfl, rfl, SqT.of k2, rfl, Nat.zero_le _, fun t3 n3 => ⟨(by show 7 ≤ sizeLine; decide), fun l nl => ?_⟩⟩
  · have z := Nat.log2_le_self e.natAbs
    omega
  have s3 := same_new n3 (.tup [])
  have s4 := same_new nl (.lst [.ref t1, .ref t2, .str (toString e), .int a, .str "", .int 0, .ref t3])
  have sa := s1.trans (s2.trans (s3.trans s4))
  refine ⟨_, rfl, p, 7, rfl, hp.same sa, by decide, by decide, fun j H5 j0 j1 hp5 b5 => ?_⟩
  have nlp : l ≠ p := by
    obtain ⟨x, y, e⟩ := hp.same (s1.trans (s2.trans s3))
    exact (ne_of_none e nl).symm
  have st5 := (hp.same sa).stay b5
  have hl5 := b5 l _ upd_same nlp
  have g1 : H5 t1 = some (.tup [.str "thing", .ref k]) := st5.tup _ _ (s4 _ _ (s3 _ _ (s2 _ _ upd_same)))
  have g2 : H5 t2 = some (.tup [.int a]) := st5.tup _ _ (s4 _ _ (s3 _ _ upd_same))
  have g3 : H5 t3 = some (.tup []) := st5.tup _ _ (s4 _ _ upd_same)
  have gk : H5 k = some (.tup ([a, b, c, e].map V.int)) := st5.tup _ _ (sa _ _ hk)
  obtain ⟨v, hv, tv⟩ : ∃ v : V, atI [V.ref t1, .ref t2, .str (toString e), .int a, .str "", .int 0, .ref t3] j = some v ∧ TT H5 2 v := by
    have cs : j = 0 ∨ j = 1 ∨ j = 2 ∨ j = 3 ∨ j = 4 ∨ j = 5 ∨ j = 6 := by omega
    rcases cs with rfl | rfl | rfl | rfl | rfl | rfl | rfl
    · refine ⟨_, rfl, .inr ⟨t1, _, rfl, g1, fun x hx => ?_⟩⟩
      rcases List.mem_cons.mp hx with rfl | hx
      · exact .inl True.intro
      · rw [List.mem_singleton.mp hx]
        exact TT.ints gk
    · exact ⟨_, rfl, TT.ints (ks := [a]) g2⟩
    · exact ⟨_, rfl, .inl True.intro⟩
    · exact ⟨_, rfl, .inl True.intro⟩
    · exact ⟨_, rfl, .inl True.intro⟩
    · exact ⟨_, rfl, .inl True.intro⟩
    · exact ⟨_, rfl, TT.ints (ks := []) g3⟩
  exact ⟨l, _, _, _, rfl, rfl, SqL.of hl5, hv, q v H5 tv hp5 ((Stay.same sa).trans st5)⟩
/-! _law_keys -/
/-- how many of the keys go on from this one -/
def goOn (ns : List (List Int)) (a b c e : Int) : Nat := (ns.filter fun x => match x with | [x1, x2, x3, x4] => decide (x1 = a ∧ x2 = b ∧ x3 = c ∧ e ≤ x4) | _ => false).length
theorem filter_lt {α : Type} {p q : α → Bool} : ∀ {l : List α}, (∀ x, p x = true → q x = true) → (∃ x ∈ l, q x = true ∧ p x = false) → (l.filter p).length < (l.filter q).length
  | [], _, ⟨x, h, _⟩ => nomatch h
  | y :: r, h, hx => by
    have le : ∀ l : List α, (l.filter p).length ≤ (l.filter q).length := by
      intro l
      induction l with
      | nil => exact Nat.le_refl _
      | cons z t ih =>
        rw [List.filter_cons, List.filter_cons]
        cases e : p z with
        | true =>
          rw [h z e]
          simpa using ih
        | false =>
          cases q z with
          | true => simp; omega
          | false => simpa using ih
    obtain ⟨x, hm, h1, h2⟩ := hx
    rw [List.filter_cons, List.filter_cons]
    rcases List.mem_cons.mp hm with rfl | hm
    · rw [h1, h2]
      have := le r
      simp
      omega
    · have ih := filter_lt (l := r) h ⟨x, hm, h1, h2⟩
      cases e : p y with
      | true =>
        rw [h y e]
        simpa using ih
      | false =>
        cases q y with
        | true => simp; omega
        | false => simpa using ih
theorem goOn_lt {ns : List (List Int)} {a b c e : Int} (h : [a, b, c, e] ∈ ns) : goOn ns a b c (e + 1) < goOn ns a b c e := by
  refine filter_lt (fun x hx => ?_) ⟨[a, b, c, e], h, ?_, ?_⟩
  · match x, hx with
    | [x1, x2, x3, x4], hx =>
      have hx := of_decide_eq_true hx
      exact decide_eq_true ⟨hx.1, hx.2.1, hx.2.2.1, by omega⟩
  · exact decide_eq_true ⟨rfl, rfl, rfl, by omega⟩
  · exact decide_eq_false (fun z => by omega)
theorem goOn_le (ns : List (List Int)) (a b c e : Int) : goOn ns a b c e ≤ ns.length := List.length_filter_le _ _
def spKeys : Sp := fun vs H Q _ => ∃ (p : Addr) (m : Int), vs = [.ref p, .int m] ∧ Purse H p ∧ 0 ≤ m ∧ m ≤ 50 ∧
  ∀ (l : Addr) (as : List Addr) (ns : List (List Int)) (H' : Hp), H l = none → H' l = some (.lst (as.map V.ref)) → Tups H' as ns → ns.Nodup → (∀ n ∈ ns, KeyOk 100 n) → (ns.length : Int) = m → Purse H' p → Stay [p] H H' → Q (.ref l) H'
theorem scKs : FnScope ["_law_purse_here", "_law_many", "_law_found", "_law_k", "_law_key_here"] ["_law_purse_here", "_law_many"] (defScope s_law_keys) := ⟨rfl, rfl, rfl, by decide +kernel, rfl, by decide +kernel, by decide +kernel⟩
theorem ok_keys (D : Df K mg "_law_keys" s_law_keys ["_law_purse_here", "_law_many"] f fd) (DK : Df K mg "_law_key" s_law_key ["_law_purse_here"] fK fdK) (DD : Df K mg "_law_draw" s_law_draw ["_law_purse_here", "_law_out_of"] fD fdD) (B : Bl mg) : FnOk P w K mg base CX0 3 f fd ["_law_purse_here", "_law_many"] spKeys := by
  have GK : FnOk P w K mg base CX0 2 fK fdK ["_law_purse_here"] spKey := ok_key DK DD
  refine D.F.ok scKs (fun vs H Q E h => ?_) (fun cdv A outer s H vs Q E hr h => ?_)
  · obtain ⟨p, m, rfl, _⟩ := h
    rfl
  obtain ⟨p, m, rfl, hp, hm0, hm1, q⟩ := h
  have hu := hu_of hr
  refine ⟨_, pss_cons (ps_set (i := 2) scKs.nd rfl (Or.inl rfl) (pe_lst pa_nil))
    (pss_cons (ps_for PassesOwn.never rfl (pi_range1 rfl B.range (pa_cons (pv 1) pa_nil)) (pg_name (i := 3) scKs.nd rfl (Or.inl rfl))
      (pss_cons (ps_set (i := 4) scKs.nd rfl (Or.inl rfl) (pe_call GK hr rfl DK.m DK.F.kp DK.b .nil pass0 (pa_cons (pv 0) pa_nil)))
      (pss_cons (ps_while PassesOwn.never (pt_cmpR (op_inT hu) (pv 4) (pv 2) (by rfl))
        (pss_one (ps_set (i := 4) scKs.nd rfl (Or.inl rfl) (pe_tup (pa_cons (pe_ix ix_tup (pv 4) pe_int (fun _ _ => rfl)) (pa_cons (pe_ix ix_tup (pv 4) pe_int (fun _ _ => rfl)) (pa_cons (pe_ix ix_tup (pv 4) pe_int (fun _ _ => rfl))
          (pa_cons (pe_op op_add (pe_ix ix_tup (pv 4) pe_int (fun _ _ => rfl)) pe_int) pa_nil))))))))
      (pss_one (ps_expr (pe_bm PySem.F.plainAttrs_list PySem.F.slot_list_append PySem.F.type_list_append mt_append (pv 2) (pa_cons (pv 4) pa_nil)))))))
    (pss_one (ps_ret (pv 2)))), ?_⟩
  refine ⟨Nat.zero_le _, fun l hl => ?_⟩
  have nlp : l ≠ p := by
    obtain ⟨x, y, e⟩ := hp
    exact (ne_of_none e hl).symm
  refine ⟨_, rfl, m, rfl, by omega, by omega, for_range (n := m.toNat) (fun i σ G => ∃ (as : List Addr) (ns : List (List Int)) (v3 v4 : Option V), σ = [some (.ref p), some (.int m), some (.ref l), v3, v4] ∧ G l = some (.lst (as.map V.ref)) ∧ Tups G as ns ∧ ns.Nodup ∧ (∀ n ∈ ns, KeyOk 100 n) ∧ ns.length = i ∧ Purse G p ∧ Stay [p, l] H G)
    ⟨[], [], none, none, rfl, upd_same, .nil, List.nodup_nil, fun _ h => (nomatch h), rfl, hp.upd hl, Stay.same (same_new hl _)⟩ ?_ ?_⟩
  · rintro i σ G hi ⟨as, ns, v3, v4, rfl, hG, ht, nd, ko, hn, pu, st⟩
    refine ⟨_, rfl, p, rfl, pu, fun t n G1 ok ht1 _ pu1 st1 => ?_⟩
    obtain ⟨a, b, c, e, rfl, ha, ha2, he, he2⟩ := ok
    have hG1 : G1 l = some (.lst (as.map V.ref)) := st1.keep l _ hG (by simpa using nlp)
    have st2 : Stay [p, l] H G1 := st.trans (st1.mono (by simp))
    refine while_by (fun σ G2 => ∃ (t : Addr) (e : Int), σ = [some (.ref p), some (.int m), some (.ref l), some (.int (0 + (i : Int))), some (.ref t)] ∧ G2 t = some (.tup [.int a, .int b, .int c, .int e]) ∧ 0 ≤ e ∧ e + goOn ns a b c e ≤ 4 + i ∧ G2 l = some (.lst (as.map V.ref)) ∧ Tups G2 as ns ∧ Purse G2 p ∧ Stay [p, l] H G2)
      (fun σ G2 => match σ with | [_, _, _, _, some (.ref t)] => (match G2 t with | some (.tup [_, _, _, .int e]) => goOn ns a b c e | _ => 0) | _ => 0) ?_ ?_ ?_
    · have le := goOn_le ns a b c e
      exact ⟨t, e, rfl, ht1, he, by omega, hG1, ht.keep st1.tup, pu1, st2⟩
    · rintro σ G2 ⟨t, e, rfl, h1, h2, h3, h4, h5, h6, h7⟩
      refine ⟨_, rfl, _, rfl, l, t, as, ns, [a, b, c, e], rfl, rfl, h4, h5, h1, _, rfl, ?_⟩
      refine ite2 (fun cc => ?_) (fun cc => ?_)
      · have mem : [a, b, c, e] ∈ ns := of_decide_eq_true cc
        have lt := goOn_lt mem
        refine ⟨_, rfl, t, _, _, _, rfl, rfl, SqT.of h1, rfl, _, rfl, t, _, _, _, rfl, rfl, SqT.of h1, rfl, _, rfl, t, _, _, _, rfl, rfl, SqT.of h1, rfl, _, rfl, t, _, _, _, rfl, rfl, SqT.of h1, rfl, _, _, rfl, rfl, (by show 4 ≤ sizeLine; decide), fun u hu2 => ?_⟩
        have sn := same_new hu2 (.tup [.int a, .int b, .int c, .int (e + 1)])
        refine ⟨⟨u, e + 1, rfl, upd_same, by omega, by omega, sn _ _ h4, h5.keep fun b xs z => sn b _ z, h6.upd hu2, h7.trans (Stay.same sn)⟩, ?_⟩
        show (match upd G2 u (.tup [.int a, .int b, .int c, .int (e + 1)]) u with | some (.tup [_, _, _, .int e]) => goOn ns a b c e | _ => 0) < (match G2 t with | some (.tup [_, _, _, .int e]) => goOn ns a b c e | _ => 0)
        rw [upd_same, h1]
        exact lt
      · have nm : ¬ [a, b, c, e] ∈ ns := fun z => cc (decide_eq_true z)
        have la := h5.length
        have z100 : 100 ≤ sizeLine := by decide
        refine ⟨_, rfl, .inl ⟨rfl, _, SqL.of h4⟩, _, rfl, l, _, _, rfl, rfl, h4, (by rw [List.length_map]; omega), ?_⟩
        have sl : Stay [p, l] G2 (upd G2 l (.lst (as.map V.ref ++ [.ref t]))) := Stay.upd (by simp) h4 (fun xs z => by cases z)
        refine ⟨as ++ [t], ns ++ [[a, b, c, e]], _, _, rfl, ?_, (h5.append (.cons h1 .nil)).keep sl.tup, nd_snoc nd nm, fun n hn => ?_, ?_, ?_, h7.trans sl⟩
        · rw [List.map_append]
          exact upd_same
        · rcases List.mem_append.mp hn with z | z
          · exact ko n z
          · rw [List.mem_singleton.mp z]
            exact ⟨a, b, c, e, rfl, ha, ha2, h2, by omega⟩
        · rw [List.length_append, hn]
          rfl
        · obtain ⟨x, y, e⟩ := h6
          exact ⟨x, y, by rw [upd_ne nlp.symm]; exact e⟩
    · rintro σ G2 Q1 Q2 hq2 h
      obtain ⟨x1, e1, x2, e2, y1, y2, y3, y4, y5, e3, e4, e5, e6, e7, b', e8, h⟩ := h
      exact ⟨x1, e1, x2, e2, y1, y2, y3, y4, y5, e3, e4, e5, e6, e7, b', e8, hq2 _ _ h⟩
  · rintro σ G ⟨as, ns, v3, v4, rfl, hG, ht, nd, ko, hn, pu, st⟩
    refine ⟨_, rfl, q l as ns G hl hG ht nd ko (by omega) pu ⟨fun b o e nb => ?_, st.tup⟩⟩
    refine st.keep b o e fun z => ?_
    rcases List.mem_cons.mp z with z | z
    · exact nb (List.mem_singleton.mpr z)
    · rw [List.mem_singleton.mp z, hl] at e
      cases e
end
end My
set_option Elab.async false
set_option linter.all false
set_option maxRecDepth 100000
set_option maxHeartbeats 4000000
namespace My
open PySem L2
/-! ### momentloom.falling, momentloom.calendar -/
structure CalT (K : PySem.W.Frag) (mg : Str → Option Value) (CC : Addr) : Prop where
  cl : Cls K CC
  nT : NoAttr K CC "things"
  nR : NoAttr K CC "rows"
  mgC : mg "Calendar" = some (.ref CC)
def cF (d r : Addr) : List (Str × V) := putF "rows" (.ref r) (putF "things" (.ref d) [])
theorem cF_t (d r : Addr) : (cF d r).lookup ("things" : Str) = some (.ref d) := by
  unfold cF
  rw [lookup_putF, if_neg (by decide +kernel), lookup_putF, if_pos rfl]
theorem cF_r (d r : Addr) : (cF d r).lookup ("rows" : Str) = some (.ref r) := by
  unfold cF
  rw [lookup_putF, if_pos rfl]
theorem cF_no (d r : Addr) {m : Str} (h1 : m ≠ "rows") (h2 : m ≠ "things") : (cF d r).lookup m = none := by
  unfold cF
  rw [lookup_putF, if_neg h1, lookup_putF, if_neg h2]
  rfl
section
variable {P : Program} {w : World} {K : PySem.W.Frag} {mg : Str → Option Value} {base : Heap} {f fP fR : Addr} {fd fdP fdR : FuncData}
/-! place_in -/
def spPlace : Sp := fun vs H Q _ => ∃ (q b : Addr) (as : List Addr) (ns : List (List Int)) (n : List Int), vs = [.ref q, .ref b] ∧ H q = some (.lst (as.map V.ref)) ∧ Tups H as ns ∧ Fall ns ∧ H b = some (.tup (n.map V.int)) ∧ as.length ≤ 100000 ∧
  ∀ i : Nat, Place n ns i → Q (.int i) H
theorem scPl : FnScope ["falling", "thing", "low", "high", "middle"] ["falling", "thing"] (defScope s_place_in) := ⟨rfl, rfl, rfl, by decide +kernel, rfl, by decide +kernel, by decide +kernel⟩
theorem ok_place (D : Df K mg "place_in" s_place_in ["falling", "thing"] f fd) (B : Bl mg) : FnOk P w K mg base CX0 1 f fd ["falling", "thing"] spPlace := by
  refine D.F.ok scPl (fun vs H Q E h => ?_) (fun cdv A outer s H vs Q E hr h => ?_)
  · obtain ⟨q, b, as, ns, n, rfl, _⟩ := h
    rfl
  obtain ⟨q, b, as, ns, n, rfl, hq, ht, hf, hb, hl, k⟩ := h
  have hu := hu_of hr
  refine ⟨_, pss_cons (ps_set (i := 2) scPl.nd rfl (Or.inl rfl) pe_int)
    (pss_cons (ps_set (i := 3) scPl.nd rfl (Or.inl rfl) (pe_callB call_len_seq (by rfl) B.len PySem.boot_len (pa_cons (pv 0) pa_nil)))
    (pss_cons (ps_while PassesOwn.never (pt_cmpR op_lt (pv 2) (pv 3) (nomark _))
      (pss_cons (ps_set (i := 4) scPl.nd rfl (Or.inl rfl) (pe_op op_fdiv (pe_op op_add (pv 2) (pv 3)) pe_int))
      (pss_one (ps_if (pt_cmpR (op_gtT (Nat.lt_of_succ_lt hu)) (pe_ix ix_list (pv 0) (pv 4) (fun _ _ => rfl)) (pv 1) (nomark _))
        (pss_one (ps_set (i := 2) scPl.nd rfl (Or.inl rfl) (pe_op op_add (pv 4) pe_int)))
        (pss_one (ps_set (i := 3) scPl.nd rfl (Or.inl rfl) (pv 4)))))))
    (pss_one (ps_ret (pv 2))))), ?_⟩
  have hlen := ht.length
  refine ⟨_, rfl, q, _, rfl, .inl (SqL.of hq), ?_⟩
  refine while_by (fun σ H2 => ∃ (lo hi : Nat) (m : Option V), σ = [some (.ref q), some (.ref b), some (.int lo), some (.int hi), m] ∧ H2 = H ∧ lo ≤ hi ∧ hi ≤ as.length ∧
      (∀ (j : Nat) (z : List Int), j < lo → ns[j]? = some z → HT.lexLt n z = true) ∧ ∀ (j : Nat) (z : List Int), hi ≤ j → ns[j]? = some z → HT.lexLt n z = false)
    (fun σ _ => match σ with | [_, _, some (.int lo), some (.int hi), _] => (hi - lo).toNat | _ => 0) ?_ ?_ ?_
  · refine ⟨0, as.length, none, ?_, rfl, Nat.zero_le _, Nat.le_refl _, fun j z h => absurd h (Nat.not_lt_zero _), fun j z h e => ?_⟩
    · rw [List.length_map]
      rfl
    · rw [List.getElem?_eq_none (by omega)] at e
      cases e
  · rintro σ H2 ⟨lo, hi, m, rfl, rfl, h1, h2, h3, h4⟩
    refine ⟨_, rfl, _, rfl, _, _, rfl, rfl, _, rfl, ?_⟩
    refine ite2 (fun c => ?_) (fun c => ?_)
    · have c : lo < hi := by
        have z := of_decide_eq_true c
        omega
      refine ⟨_, rfl, _, rfl, _, _, rfl, rfl, _, _, rfl, rfl, ⟨by decide, by decide⟩, ?_⟩
      have em : ((lo : Int) + (hi : Int)) / 2 = (((lo + hi) / 2 : Nat) : Int) := by omega
      have lm : (lo + hi) / 2 < as.length := by omega
      obtain ⟨z, hz, hzt⟩ := ht.get (List.getElem?_eq_getElem lm)
      have ea : (as.map V.ref)[(lo + hi) / 2]? = some (.ref as[(lo + hi) / 2]) := by rw [List.getElem?_map, List.getElem?_eq_getElem lm]; rfl
      refine ⟨_, rfl, _, rfl, q, _, _, _, rfl, rfl, SqL.of hq, (by rw [em]; exact atI_nat ea), _, rfl, _, b, z, n, rfl, rfl, hzt, hb, _, rfl, ?_⟩
      refine ite2 (fun g => ?_) (fun g => ?_)
      · refine ⟨_, rfl, _, _, rfl, rfl, ⟨(lo + hi) / 2 + 1, hi, some (.int (((lo : Int) + (hi : Int)) / 2)), ?_, rfl, by omega, h2, fun j y hj e => ?_, h4⟩, ?_⟩
        · have e2 : (((lo + hi) / 2 + 1 : Nat) : Int) = ((lo : Int) + (hi : Int)) / 2 + 1 := by omega
          rw [e2]
          rfl
        · by_cases ej : j = (lo + hi) / 2
          · rw [ej, hz] at e
            cases e
            exact g
          · have la : j < ns.length := (List.getElem?_eq_some_iff.mp e).1
            exact HT.lx_trans g (hf.at_ (by omega) e hz)
        · show ((hi : Int) - (((lo : Int) + (hi : Int)) / 2 + 1)).toNat < ((hi : Int) - (lo : Int)).toNat
          omega
      · refine ⟨_, rfl, ⟨lo, (lo + hi) / 2, some (.int (((lo : Int) + (hi : Int)) / 2)), ?_, rfl, by omega, by omega, h3, fun j y hj e => ?_⟩, ?_⟩
        · rw [← em]
          rfl
        · have g' : HT.lexLt n z = false := by
            cases e' : HT.lexLt n z with
            | false => rfl
            | true => exact absurd e' g
          by_cases ej : j = (lo + hi) / 2
          · rw [ej, hz] at e
            cases e
            exact g'
          · have z1 := hf.at_ (show (lo + hi) / 2 < j by omega) hz e
            cases e' : HT.lexLt n y with
            | false => rfl
            | true =>
              have z2 := HT.lx_trans e' z1
              rw [g'] at z2
              cases z2
        · show ((((lo : Int) + (hi : Int)) / 2) - (lo : Int)).toNat < ((hi : Int) - (lo : Int)).toNat
          omega
    · have e : lo = hi := by
        have z : ¬ ((lo : Int) < (hi : Int)) := fun z => c (decide_eq_true z)
        omega
      subst e
      exact ⟨_, rfl, k lo ⟨by omega, h3, h4⟩⟩
  · rintro σ H2 Q1 Q2 hq2 h
    obtain ⟨a1, e1, a2, e2, i, j, e3, e4, b', e5, h⟩ := h
    exact ⟨a1, e1, a2, e2, i, j, e3, e4, b', e5, hq2 _ _ h⟩
/-! put_in -/
def spPutIn : Sp := fun vs H Q _ => ∃ (q b : Addr) (as : List Addr) (ns : List (List Int)) (n : List Int), vs = [.ref q, .ref b] ∧ H q = some (.lst (as.map V.ref)) ∧ Tups H as ns ∧ Fall ns ∧ H b = some (.tup (n.map V.int)) ∧ as.length ≤ 100000 ∧
  ∀ i : Nat, Place n ns i → Q .non (upd H q (.lst ((as.take i ++ b :: as.drop i).map V.ref)))
theorem scPi : FnScope ["falling", "thing"] ["falling", "thing"] (defScope s_put_in) := ⟨rfl, rfl, rfl, by decide +kernel, rfl, by decide +kernel, by decide +kernel⟩
theorem ok_putin (D : Df K mg "put_in" s_put_in ["falling", "thing"] f fd) (DP : Df K mg "place_in" s_place_in ["falling", "thing"] fP fdP) (B : Bl mg) : FnOk P w K mg base CX0 2 f fd ["falling", "thing"] spPutIn := by
  have GP : FnOk P w K mg base CX0 1 fP fdP ["falling", "thing"] spPlace := ok_place DP B
  refine D.F.ok scPi (fun vs H Q E h => ?_) (fun cdv A outer s H vs Q E hr h => ?_)
  · obtain ⟨q, b, as, ns, n, rfl, _⟩ := h
    rfl
  obtain ⟨q, b, as, ns, n, rfl, hq, ht, hf, hb, hl, k⟩ := h
  refine ⟨_, pss_one (ps_expr (pe_bm PySem.F.plainAttrs_list PySem.F.slot_list_insert PySem.F.type_list_insert mt_insert (pv 0) (pa_cons (pe_call GP hr rfl DP.m DP.F.kp DP.b .nil pass0 (pa_cons (pv 0) (pa_cons (pv 1) pa_nil))) (pa_cons (pv 1) pa_nil)))), ?_⟩
  refine ⟨_, rfl, .inl ⟨rfl, _, SqL.of hq⟩, _, rfl, _, rfl, q, b, as, ns, n, rfl, hq, ht, hf, hb, hl, fun i p => ⟨_, rfl, q, _, i, _, rfl, rfl, hq, ?_, ?_, ?_⟩⟩
  · rw [List.length_map]
    have := p.le
    have := ht.length
    omega
  · rw [List.length_map]
    exact Nat.lt_of_le_of_lt hl (by decide)
  · have z := k i p
    rw [List.map_append, List.map_cons, List.map_take, List.map_drop] at z
    exact z
/-! last_of -/
def spLast : Sp := fun vs H Q _ => ∃ (q : Addr) (xs : List V), vs = [.ref q] ∧ H q = some (.lst xs) ∧ (xs = [] → Q .non H) ∧ ∀ v, xs[xs.length - 1]? = some v → Q v H
theorem scLo : FnScope ["falling"] ["falling"] (defScope s_last_of) := ⟨rfl, rfl, rfl, by decide +kernel, rfl, by decide +kernel, by decide +kernel⟩
theorem ok_last (D : Df K mg "last_of" s_last_of ["falling"] f fd) : FnOk P w K mg base CX0 1 f fd ["falling"] spLast := by
  refine D.F.ok scLo (fun vs H Q E h => ?_) (fun cdv A outer s H vs Q E hr h => ?_)
  · obtain ⟨q, xs, rfl, _⟩ := h
    rfl
  obtain ⟨q, xs, rfl, hq, k1, k2⟩ := h
  refine ⟨_, pss_one (ps_ret (pe_ifExp (pt_truth (pv 0) (fun _ => rfl)) (pe_ix ix_list (pv 0) (pe_un un_neg pe_int) (fun _ _ => rfl)) pe_non)), ?_⟩
  refine ⟨_, rfl, _, .inl ⟨xs, SqL.of hq, rfl⟩, ?_⟩
  cases xs with
  | nil => exact iteF (k1 rfl)
  | cons x r =>
    refine iteT ?_
    obtain ⟨ys, y, e⟩ : ∃ ys y, x :: r = ys ++ [y] := by
      rcases List.eq_nil_or_concat (x :: r) with z | ⟨ys, y, z⟩
      · cases z
      · exact ⟨ys, y, by simpa using z⟩
    rw [e] at hq k2
    refine ⟨_, rfl, _, rfl, q, _, _, _, rfl, rfl, SqL.of hq, atI_last ys y, k2 y ?_⟩
    rw [List.length_append, List.length_singleton, Nat.add_sub_cancel, List.getElem?_append_right (Nat.le_refl _), Nat.sub_self]
    rfl
end
end My
namespace My
open PySem L2
/-- a calendar: its parts, and the pairs that it holds -/
def Cal (CC : Addr) (H : Hp) (c d r q : Addr) (kvs : List (List Key × V)) : Prop :=
  ∃ (dx : Addr) (as : List Addr) (ns : List (List Int)), H c = some (.ins CC dx (cF d r)) ∧ H d = some (.dT kvs) ∧ H r = some (.lst [.ref q]) ∧ H q = some (.lst (as.map V.ref)) ∧ Tups H as ns ∧ Fall ns ∧ Keyed kvs ns ∧ r ≠ q
theorem Cal.stay {CC c d r q : Addr} {H H' : Hp} {kvs : List (List Key × V)} {ps : List Addr} (h : Cal CC H c d r q kvs) (s : Stay ps H H') (hn : ∀ b ∈ [c, d, r, q], ¬ b ∈ ps) : Cal CC H' c d r q kvs := by
  obtain ⟨dx, as, ns, h1, h2, h3, h4, h5, h6, h7, h8⟩ := h
  refine ⟨dx, as, ns, s.keep _ _ h1 (hn c (by simp)), s.keep _ _ h2 (hn d (by simp)), s.keep _ _ h3 (hn r (by simp)), s.keep _ _ h4 (hn q (by simp)), h5.keep s.tup, h6, h7, h8⟩
section
variable {P : Program} {w : World} {K : PySem.W.Frag} {mg : Str → Option Value} {base : Heap} {f fP fPl fL fR fLe fT CC : Addr} {fd fdP fdPl fdL fdR fdLe fdT : FuncData}
/-! __init__ -/
def spCalI (CC : Addr) : Sp := fun vs H Q _ => ∃ c dx : Addr, vs = [.ref c] ∧ H c = some (.ins CC dx []) ∧ ∀ (d r q : Addr) (H' : Hp), H d = none → H r = none → H q = none → d ≠ r → Cal CC H' c d r q [] → Stay [c] H H' → Q .non H'
theorem scCI : FnScope ["self"] ["self"] (defScope s_Calendar_init) := ⟨rfl, rfl, rfl, by decide +kernel, rfl, by decide +kernel, by decide +kernel⟩
theorem ok_calI0 (F : Fun K "__init__" "Calendar.__init__" s_Calendar_init f fd) (cl : Cls K CC) (nT : NoAttr K CC "things") (nR : NoAttr K CC "rows") : FnOk P w K mg base CX0 1 f fd ["self"] (spCalI CC) := by
  refine F.ok scCI (fun vs H Q E h => ?_) (fun cdv A outer s H vs Q E hr h => ?_)
  · obtain ⟨c, dx, rfl, _⟩ := h
    rfl
  obtain ⟨c, dx, rfl, hc, k⟩ := h
  refine ⟨_, pss_cons (ps_fld (pv 0) pe_dnewT rfl) (pss_one (ps_fld (pv 0) (pe_lst (pa_cons (pe_lst pa_nil) pa_nil)) rfl)), ?_⟩
  intro d hd
  have ncd : c ≠ d := ne_of_none hc hd
  refine ⟨_, rfl, c, CC, dx, _, rfl, (by rw [upd_ne ncd]; exact hc), cl, nT, (by decide), ?_⟩
  refine ⟨Nat.zero_le _, fun q hq => ⟨(by show 1 ≤ sizeLine; decide), fun r hr2 => ?_⟩⟩
  have nq : q ≠ c := fun e => by rw [e, upd_same] at hq; cases hq
  have nqd : q ≠ d := fun e => by rw [e, upd_ne (Ne.symm ncd), upd_same] at hq; cases hq
  have nrq : r ≠ q := fun e => by rw [e, upd_same] at hr2; cases hr2
  have nr : r ≠ c := fun e => by rw [e, upd_ne (Ne.symm nq), upd_same] at hr2; cases hr2
  have nrd : r ≠ d := fun e => by rw [e, upd_ne (Ne.symm nqd), upd_ne (Ne.symm ncd), upd_same] at hr2; cases hr2
  refine ⟨_, rfl, c, CC, dx, _, rfl, (by rw [upd_ne (Ne.symm nr), upd_ne (Ne.symm nq)]; exact upd_same), cl, nR, (Nat.lt_of_le_of_lt (length_putF _ _ _) (by decide)), ?_⟩
  refine k d r q _ hd ?_ ?_ (Ne.symm nrd) ⟨dx, [], [], upd_same, ?_, ?_, ?_, .nil, List.Pairwise.nil, Keyed.nil, nrq⟩ ?_
  · rw [upd_ne nrq, upd_ne nr, upd_ne nrd] at hr2
    exact hr2
  · rw [upd_ne nq, upd_ne nqd] at hq
    exact hq
  · rw [upd_ne (Ne.symm ncd), upd_ne (Ne.symm nrd), upd_ne (Ne.symm nqd), upd_ne (Ne.symm ncd)]
    exact upd_same
  · rw [upd_ne nr]
    exact upd_same
  · rw [upd_ne nq, upd_ne (Ne.symm nrq)]
    exact upd_same
  · have s1 : Same H (upd H d (.dT [])) := same_new hd _
    have s2 : Stay [c] (upd H d (.dT [])) (upd (upd H d (.dT [])) c (.ins CC dx (putF "things" (.ref d) []))) := Stay.upd (by simp) (s1 c _ hc) (fun xs z => by cases z)
    have s3 : Same (upd (upd H d (.dT [])) c (.ins CC dx (putF "things" (.ref d) []))) _ := (same_new hq (.lst [])).trans (same_new hr2 (.lst [.ref q]))
    exact (Stay.same s1).trans (s2.trans ((Stay.same s3).trans (Stay.upd (by simp) (s3 c _ upd_same) (fun xs z => by cases z))))
theorem ok_calI (F : Fun K "__init__" "Calendar.__init__" s_Calendar_init f fd) (T : CalT K mg CC) : FnOk P w K mg base CX0 1 f fd ["self"] (spCalI CC) := ok_calI0 F T.cl T.nT T.nR
/-! row_for, size -/
def spRow (CC : Addr) : Sp := fun vs H Q _ => ∃ (c dx d r q : Addr) (x : V), vs = [.ref c, x] ∧ H c = some (.ins CC dx (cF d r)) ∧ H r = some (.lst [.ref q]) ∧ Q (.ref q) H
theorem scRf : FnScope ["self", "key"] ["self", "key"] (defScope s_Calendar_row_for) := ⟨rfl, rfl, rfl, by decide +kernel, rfl, by decide +kernel, by decide +kernel⟩
theorem ok_row (F : Fun K "row_for" "Calendar.row_for" s_Calendar_row_for f fd) (T : CalT K mg CC) : FnOk P w K mg base CX0 1 f fd ["self", "key"] (spRow CC) := by
  refine F.ok scRf (fun vs H Q E h => ?_) (fun cdv A outer s H vs Q E hr h => ?_)
  · obtain ⟨c, dx, d, r, q, x, rfl, _⟩ := h
    rfl
  obtain ⟨c, dx, d, r, q, x, rfl, h1, h3, k⟩ := h
  refine ⟨_, pss_one (ps_ret (pe_ix ix_list (pe_fld (pv 0) rfl) pe_int (fun _ _ => rfl))), ?_⟩
  exact ⟨_, rfl, c, CC, dx, _, _, rfl, h1, T.cl, T.nR, cF_r d r, r, _, _, _, rfl, rfl, SqL.of h3, rfl, k⟩
def spSize (CC : Addr) : Sp := fun vs H Q _ => ∃ (c d r q : Addr) (kvs : List (List Key × V)), vs = [.ref c] ∧ Cal CC H c d r q kvs ∧ Q (.int kvs.length) H
theorem scSz : FnScope ["self"] ["self"] (defScope s_Calendar_size) := ⟨rfl, rfl, rfl, by decide +kernel, rfl, by decide +kernel, by decide +kernel⟩
theorem ok_size (F : Fun K "size" "Calendar.size" s_Calendar_size f fd) (T : CalT K mg CC) (B : Bl mg) : FnOk P w K mg base CX0 1 f fd ["self"] (spSize CC) := by
  refine F.ok scSz (fun vs H Q E h => ?_) (fun cdv A outer s H vs Q E hr h => ?_)
  · obtain ⟨c, d, r, q, kvs, rfl, _⟩ := h
    rfl
  obtain ⟨c, d, r, q, kvs, rfl, ⟨dx, as, ns, h1, h2, h3, h4, _⟩, k⟩ := h
  refine ⟨_, pss_one (ps_ret (pe_callB call_lenT (by rfl) B.len PySem.boot_len (pa_cons (pe_fld (pv 0) rfl) pa_nil))), ?_⟩
  exact ⟨_, rfl, c, CC, dx, _, _, rfl, h1, T.cl, T.nT, cF_t d r, d, kvs, rfl, h2, k⟩
/-! put -/
def spPut (CC : Addr) : Sp := fun vs H Q _ => ∃ (c d r q b : Addr) (n : List Int) (v : V) (kvs : List (List Key × V)), vs = [.ref c, .ref b, v] ∧ Cal CC H c d r q kvs ∧ H b = some (.tup (n.map V.int)) ∧ valV kvs (kI n) = none ∧ kvs.length ≤ 100000 ∧
  ∀ H' : Hp, Cal CC H' c d r q (putK kvs (kI n) v) → Stay [d, q] H H' → Q .non H'
theorem scPu : FnScope ["self", "key", "thing"] ["self", "key", "thing"] (defScope s_Calendar_put) := ⟨rfl, rfl, rfl, by decide +kernel, rfl, by decide +kernel, by decide +kernel⟩
theorem ok_put (F : Fun K "put" "Calendar.put" s_Calendar_put f fd) (T : CalT K mg CC) (B : Bl mg) (DP : Df K mg "put_in" s_put_in ["falling", "thing"] fP fdP) (DPl : Df K mg "place_in" s_place_in ["falling", "thing"] fPl fdPl)
    (FR : Fun K "row_for" "Calendar.row_for" s_Calendar_row_for fR fdR) (bR : Binds K fdR ["self", "key"] []) (mR : Meth K CC "row_for" fR) : FnOk P w K mg base CX0 3 f fd ["self", "key", "thing"] (spPut CC) := by
  have GP : FnOk P w K mg base CX0 2 fP fdP ["falling", "thing"] spPutIn := ok_putin DP DPl B
  have GR : FnOk P w K mg base CX0 1 fR fdR ["self", "key"] (spRow CC) := ok_row FR T
  refine F.ok scPu (fun vs H Q E h => ?_) (fun cdv A outer s H vs Q E hr h => ?_)
  · obtain ⟨c, d, r, q, b, n, v, kvs, rfl, _⟩ := h
    rfl
  obtain ⟨c, d, r, q, b, n, v, kvs, rfl, hC, hb, hv, hl, k⟩ := h
  obtain ⟨dx, as, ns, h1, h2, h3, h4, h5, h6, h7, h8⟩ := id hC
  have hu := hu_of hr
  have hr1 : Room 1 _ := hr.mono (by decide)
  refine ⟨_, pss_cons (ps_dput hu (pe_fld (pv 0) rfl) (pv 1) (pv 2) rfl)
    (pss_one (ps_expr (pe_call GP hr rfl DP.m DP.F.kp DP.b .nil pass0 (pa_cons (pe_meth (pv 0) T.cl mR GR hr1 bR .nil pass0 (pa_cons (pv 1) pa_nil)) (pa_cons (pv 1) pa_nil))))), ?_⟩
  have eb : H b = some (.tup ((kI n).map kV)) := by rw [map_kV]; exact hb
  refine ⟨_, rfl, _, rfl, c, CC, dx, _, _, rfl, h1, T.cl, T.nT, cF_t d r, _, rfl, d, _, rfl, DPut.t (k := kI n) h2 eb (Nat.lt_of_le_of_lt hl (by decide)), ?_⟩
  have s1 : Stay [d] H (upd H d (.dT (putK kvs (kI n) v))) := Stay.upd (by simp) h2 (fun xs z => by cases z)
  have ncd : c ≠ d := ne_of h1 h2 (by intro z; cases z)
  have nrd : r ≠ d := ne_of h3 h2 (by intro z; cases z)
  have nqd : q ≠ d := ne_of h4 h2 (by intro z; cases z)
  have g1 := s1.keep c _ h1 (by simpa using ncd)
  have g3 := s1.keep r _ h3 (by simpa using nrd)
  have g4 := s1.keep q _ h4 (by simpa using nqd)
  have g5 : Tups (upd H d (.dT (putK kvs (kI n) v))) as ns := h5.keep s1.tup
  have la := h5.length
  have ll := h7.len
  refine ⟨_, rfl, c, dx, _, rfl, g1, cF_no d r (by decide +kernel) (by decide +kernel), _, rfl, c, dx, d, r, q, _, rfl, g1, g3, _, rfl, q, b, as, ns, n, rfl, g4, g5, h6, s1.tup b _ hb, by omega, fun i p => ?_⟩
  have nn : ¬ n ∈ ns := h7.isNone hv
  have ncq : c ≠ q := ne_of h1 h4 (by intro z; cases z)
  have s2 : Stay [d, q] (upd H d (.dT (putK kvs (kI n) v))) (upd (upd H d (.dT (putK kvs (kI n) v))) q (.lst ((as.take i ++ b :: as.drop i).map V.ref))) := Stay.upd (by simp) g4 (fun xs z => by cases z)
  refine k _ ⟨dx, as.take i ++ b :: as.drop i, ns.take i ++ n :: ns.drop i, ?_, ?_, ?_, upd_same, ?_, h6.put p nn, h7.put hv, h8⟩ ((s1.mono (by simp)).trans s2)
  · rw [upd_ne ncq]
    exact g1
  · rw [upd_ne (Ne.symm nqd)]
    exact upd_same
  · rw [upd_ne h8]
    exact g3
  · exact (((h5.take i).append (.cons hb (h5.drop i))).keep s1.tup).keep s2.tup
/-! least -/
def spLeast (CC : Addr) : Sp := fun vs H Q _ => ∃ (c d r q : Addr) (kvs : List (List Key × V)), vs = [.ref c] ∧ Cal CC H c d r q kvs ∧ (kvs = [] → Q .non H) ∧ ∀ (a : Addr) (n : List Int), H a = some (.tup (n.map V.int)) → Least (kvs.map (·.1)) n → Q (.ref a) H
theorem scLe : FnScope ["self"] ["self"] (defScope s_Calendar_least) := ⟨rfl, rfl, rfl, by decide +kernel, rfl, by decide +kernel, by decide +kernel⟩
theorem ok_least (F : Fun K "least" "Calendar.least" s_Calendar_least f fd) (T : CalT K mg CC) (DL : Df K mg "last_of" s_last_of ["falling"] fL fdL) : FnOk P w K mg base CX0 2 f fd ["self"] (spLeast CC) := by
  have GL : FnOk P w K mg base CX0 1 fL fdL ["falling"] spLast := ok_last DL
  refine F.ok scLe (fun vs H Q E h => ?_) (fun cdv A outer s H vs Q E hr h => ?_)
  · obtain ⟨c, d, r, q, kvs, rfl, _⟩ := h
    rfl
  obtain ⟨c, d, r, q, kvs, rfl, ⟨dx, as, ns, h1, h2, h3, h4, h5, h6, h7, h8⟩, k1, k2⟩ := h
  refine ⟨_, pss_one (ps_ret (pe_call GL hr rfl DL.m DL.F.kp DL.b .nil pass0 (pa_cons (pe_ix ix_list (pe_fld (pv 0) rfl) pe_int (fun _ _ => rfl)) pa_nil))), ?_⟩
  refine ⟨_, rfl, c, CC, dx, _, _, rfl, h1, T.cl, T.nR, cF_r d r, r, _, _, _, rfl, rfl, SqL.of h3, rfl, q, _, rfl, h4, fun e => ?_, fun v e => ?_⟩
  · refine k1 (h7.empty.mp ?_)
    have la := h5.length
    rw [List.map_eq_nil_iff] at e
    rw [e] at la
    exact List.length_eq_zero_iff.mp la.symm
  · rw [List.length_map, List.getElem?_map] at e
    obtain ⟨a, ea, rfl⟩ := Option.map_eq_some_iff.mp e
    obtain ⟨n, en, hn⟩ := h5.get ea
    rw [h5.length] at en
    refine k2 a n hn ⟨h7.mem.mpr (List.mem_of_getElem? en), fun m hm => h6.last en m (h7.mem.mp hm)⟩
/-! take_out -/
def spTake (CC : Addr) : Sp := fun vs H Q _ => ∃ (c d r q b : Addr) (n : List Int) (kvs : List (List Key × V)), vs = [.ref c, .ref b] ∧ Cal CC H c d r q kvs ∧ H b = some (.tup (n.map V.int)) ∧ kvs.length ≤ 100000 ∧ (valV kvs (kI n) = none → Q .non H) ∧
  ∀ (v : V) (H' : Hp), valV kvs (kI n) = some v → Cal CC H' c d r q (dropK kvs (kI n)) → Stay [d, q] H H' → Q v H'
theorem scTo : FnScope ["self", "key", "row"] ["self", "key"] (defScope s_Calendar_take_out) := ⟨rfl, rfl, rfl, by decide +kernel, rfl, by decide +kernel, by decide +kernel⟩
theorem ok_take (F : Fun K "take_out" "Calendar.take_out" s_Calendar_take_out f fd) (T : CalT K mg CC) (B : Bl mg) (DPl : Df K mg "place_in" s_place_in ["falling", "thing"] fPl fdPl)
    (FR : Fun K "row_for" "Calendar.row_for" s_Calendar_row_for fR fdR) (bR : Binds K fdR ["self", "key"] []) (mR : Meth K CC "row_for" fR) : FnOk P w K mg base CX0 2 f fd ["self", "key"] (spTake CC) := by
  have GP : FnOk P w K mg base CX0 1 fPl fdPl ["falling", "thing"] spPlace := ok_place DPl B
  have GR : FnOk P w K mg base CX0 1 fR fdR ["self", "key"] (spRow CC) := ok_row FR T
  refine F.ok scTo (fun vs H Q E h => ?_) (fun cdv A outer s H vs Q E hr h => ?_)
  · obtain ⟨c, d, r, q, b, n, kvs, rfl, _⟩ := h
    rfl
  obtain ⟨c, d, r, q, b, n, kvs, rfl, hC, hb, hl, k1, k2⟩ := h
  obtain ⟨dx, as, ns, h1, h2, h3, h4, h5, h6, h7, h8⟩ := id hC
  have hu := hu_of hr
  refine ⟨_, pss_cons (ps_if (pt_cmp (pc_dnotin hu (pv 1) (pe_fld (pv 0) rfl))) (pss_one (ps_ret pe_non)) pss_nil)
    (pss_cons (ps_set (i := 2) scTo.nd rfl (Or.inl rfl) (pe_meth (pv 0) T.cl mR GR hr bR .nil pass0 (pa_cons (pv 1) pa_nil)))
    (pss_cons (ps_expr (pe_bm PySem.F.plainAttrs_list PySem.F.slot_list_pop PySem.F.type_list_pop mt_popAt (pv 2) (pa_cons (pe_call GP hr rfl DPl.m DPl.F.kp DPl.b .nil pass0 (pa_cons (pv 2) (pa_cons (pv 1) pa_nil))) pa_nil)))
    (pss_one (ps_ret (pe_dpopT hu (pe_fld (pv 0) rfl) (pv 1) ⟨rfl, rfl, rfl, rfl⟩))))), ?_⟩
  have eb : H b = some (.tup ((kI n).map kV)) := by rw [map_kV]; exact hb
  refine ⟨_, rfl, _, rfl, c, CC, dx, _, _, rfl, h1, T.cl, T.nT, cF_t d r, d, _, rfl, DGet.t (k := kI n) h2 eb, _, rfl, ?_⟩
  cases e : valV kvs (kI n) with
  | none => exact iteT (k1 e)
  | some v =>
    refine iteF ?_
    refine ⟨_, rfl, c, dx, _, rfl, h1, cF_no d r (by decide +kernel) (by decide +kernel), _, rfl, c, dx, d, r, q, _, rfl, h1, h3, ?_⟩
    have la := h5.length
    have ll := h7.len
    refine ⟨_, rfl, .inl ⟨rfl, _, SqL.of h4⟩, _, rfl, _, rfl, q, b, as, ns, n, rfl, h4, h5, h6, hb, by omega, fun i p => ?_⟩
    have hn : ns[i]? = some n := h6.found p (h7.isSome e)
    have li : i < as.length := by
      have := (List.getElem?_eq_some_iff.mp hn).1
      omega
    have ei : seqIndex? (i : Int) (as.map V.ref).length = some i := by
      rw [List.length_map, seqIndex_of (by omega) (by omega), Int.toNat_natCast]
    have eg : (as.map V.ref)[i]? = some (.ref as[i]) := by rw [List.getElem?_map, List.getElem?_eq_getElem li]; rfl
    refine ⟨q, _, _, i, _, rfl, rfl, h4, by omega, by omega, ei, eg, ?_⟩
    have s1 : Stay [d, q] H (upd H q (.lst ((as.map V.ref).eraseIdx i))) := Stay.upd (by simp) h4 (fun xs z => by cases z)
    have ncq : c ≠ q := ne_of h1 h4 (by intro z; cases z)
    have ndq : d ≠ q := ne_of h2 h4 (by intro z; cases z)
    have ncd : c ≠ d := ne_of h1 h2 (by intro z; cases z)
    have nrd : r ≠ d := ne_of h3 h2 (by intro z; cases z)
    have g1 : upd H q (.lst ((as.map V.ref).eraseIdx i)) c = _ := (upd_ne ncq).trans h1
    have g2 : upd H q (.lst ((as.map V.ref).eraseIdx i)) d = _ := (upd_ne ndq).trans h2
    have g3 : upd H q (.lst ((as.map V.ref).eraseIdx i)) r = _ := (upd_ne h8).trans h3
    refine ⟨_, rfl, c, CC, dx, _, _, rfl, g1, T.cl, T.nT, cF_t d r, d, rfl, .inr ⟨_, .inl g2⟩, _, rfl, kvs, kI n, b, v, g2, rfl, s1.tup b _ eb, e, ?_⟩
    have s2 : Stay [d, q] (upd H q (.lst ((as.map V.ref).eraseIdx i))) (upd (upd H q (.lst ((as.map V.ref).eraseIdx i))) d (.dT (dropK kvs (kI n)))) := Stay.upd (by simp) g2 (fun xs z => by cases z)
    refine k2 v _ e ⟨dx, as.eraseIdx i, ns.eraseIdx i, (upd_ne ncd).trans g1, upd_same, (upd_ne nrd).trans g3, ?_, (((h5.erase i).keep s1.tup).keep s2.tup), h6.erase i, h7.drop h6 hn, h8⟩ (s1.trans s2)
    rw [upd_ne (Ne.symm ndq), upd_same, erase_map]
/-! leave -/
def spLeave (CC : Addr) : Sp := fun vs H Q _ => ∃ (c d r q : Addr) (kvs : List (List Key × V)), vs = [.ref c] ∧ Cal CC H c d r q kvs ∧ kvs.length ≤ 100000 ∧ (kvs = [] → Q .non H) ∧
  ∀ (a t : Addr) (n : List Int) (v : V) (H' : Hp), Least (kvs.map (·.1)) n → valV kvs (kI n) = some v → H' a = some (.tup (n.map V.int)) → H' t = some (.tup [.ref a, v]) → Cal CC H' c d r q (dropK kvs (kI n)) → Stay [d, q] H H' → Q (.ref t) H'
theorem scLv : FnScope ["self", "key"] ["self"] (defScope s_Calendar_leave) := ⟨rfl, rfl, rfl, by decide +kernel, rfl, by decide +kernel, by decide +kernel⟩
theorem ok_leave (F : Fun K "leave" "Calendar.leave" s_Calendar_leave f fd) (T : CalT K mg CC) (B : Bl mg) (DPl : Df K mg "place_in" s_place_in ["falling", "thing"] fPl fdPl) (DL : Df K mg "last_of" s_last_of ["falling"] fL fdL)
    (FR : Fun K "row_for" "Calendar.row_for" s_Calendar_row_for fR fdR) (bR : Binds K fdR ["self", "key"] []) (mR : Meth K CC "row_for" fR)
    (FLe : Fun K "least" "Calendar.least" s_Calendar_least fLe fdLe) (bLe : Binds K fdLe ["self"] []) (mLe : Meth K CC "least" fLe)
    (FT : Fun K "take_out" "Calendar.take_out" s_Calendar_take_out fT fdT) (bT : Binds K fdT ["self", "key"] []) (mT : Meth K CC "take_out" fT) : FnOk P w K mg base CX0 3 f fd ["self"] (spLeave CC) := by
  have GLe : FnOk P w K mg base CX0 2 fLe fdLe ["self"] (spLeast CC) := ok_least FLe T DL
  have GT : FnOk P w K mg base CX0 2 fT fdT ["self", "key"] (spTake CC) := ok_take FT T B DPl FR bR mR
  refine F.ok scLv (fun vs H Q E h => ?_) (fun cdv A outer s H vs Q E hr h => ?_)
  · obtain ⟨c, d, r, q, kvs, rfl, _⟩ := h
    rfl
  obtain ⟨c, d, r, q, kvs, rfl, hC, hl, k1, k2⟩ := h
  obtain ⟨dx, as, ns, h1, h2, h3, h4, h5, h6, h7, h8⟩ := id hC
  refine ⟨_, pss_cons (ps_set (i := 1) scLv.nd rfl (Or.inl rfl) (pe_meth0 (pv 0) T.cl mLe GLe hr bLe .nil pass0))
    (pss_cons (ps_if (pt_cmp (pc_isN (pv 1))) (pss_one (ps_ret pe_non)) pss_nil)
    (pss_one (ps_ret (pe_tup (pa_cons (pv 1) (pa_cons (pe_meth (pv 0) T.cl mT GT hr bT .nil pass0 (pa_cons (pv 1) pa_nil)) pa_nil)))))), ?_⟩
  refine ⟨_, rfl, c, dx, _, rfl, h1, cF_no d r (by decide +kernel) (by decide +kernel), c, d, r, q, kvs, rfl, hC, fun e => ?_, fun a n ha le => ?_⟩
  · refine ⟨_, rfl, _, rfl, ?_⟩
    exact iteE (decide_eq_true rfl) (iteT (k1 e))
  · refine ⟨_, rfl, _, rfl, ?_⟩
    refine iteE (decide_eq_false (fun z => by cases z)) (iteF ?_)
    refine ⟨_, rfl, _, rfl, c, dx, _, rfl, h1, cF_no d r (by decide +kernel) (by decide +kernel), _, rfl, c, d, r, q, a, n, kvs, rfl, hC, ha, hl, fun e => ?_, fun v H1 e hC1 s1 => ?_⟩
    · exact absurd (h7.mem.mp le.1) (h7.isNone e)
    · refine ⟨lt2, fun t ht => ?_⟩
      have s2 : Same H1 (upd H1 t (.tup [.ref a, v])) := same_new ht _
      refine k2 a t n v _ le e (s2 a _ (s1.tup a _ ha)) upd_same (hC1.stay (ps := []) (Stay.same s2) (fun _ _ z => (nomatch z))) (s1.trans (Stay.same s2))
end
end My
namespace My
open PySem L2
/-! ### what is used as a calendar -/
/-- at c stands what holds kvs, by the things at own -/
abbrev CK := Hp → Addr → List Addr → List (List Key × V) → Prop
structure CkOk (CC : Addr) (I : CK) : Prop where
  stay : ∀ {H H' : Hp} {c : Addr} {own ps : List Addr} {kvs : List (List Key × V)}, I H c own kvs → Stay ps H H' → (∀ b ∈ own, ¬ b ∈ ps) → I H' c own kvs
  inst : ∀ {H : Hp} {c : Addr} {own : List Addr} {kvs : List (List Key × V)}, I H c own kvs → ∃ dx fs, H c = some (.ins CC dx fs) ∧ ∀ m ∈ (["put", "size", "least", "leave", "take_out"] : List Str), fs.lookup m = none
  ik : ∀ {H : Hp} {c : Addr} {own : List Addr} {kvs : List (List Key × V)}, I H c own kvs → IntKeys kvs
  nd : ∀ {H : Hp} {c : Addr} {own : List Addr} {kvs : List (List Key × V)}, I H c own kvs → (kvs.map (·.1)).Nodup
  own : ∀ {H : Hp} {c : Addr} {own : List Addr} {kvs : List (List Key × V)}, I H c own kvs → ∀ b ∈ own, ∃ o, H b = some o
def gSize (I : CK) : Sp := fun vs H Q _ => ∃ (c : Addr) (own : List Addr) (kvs : List (List Key × V)), vs = [.ref c] ∧ I H c own kvs ∧ Q (.int kvs.length) H
def gLeast (I : CK) : Sp := fun vs H Q _ => ∃ (c : Addr) (own : List Addr) (kvs : List (List Key × V)), vs = [.ref c] ∧ I H c own kvs ∧ kvs.length ≤ 1000 ∧ (∀ H', kvs = [] → I H' c own kvs → Stay own H H' → Q .non H') ∧
  ∀ (a : Addr) (n : List Int) (H' : Hp), I H' c own kvs → Stay own H H' → H' a = some (.tup (n.map V.int)) → Least (kvs.map (·.1)) n → Q (.ref a) H'
def gPut (I : CK) : Sp := fun vs H Q _ => ∃ (c b : Addr) (own : List Addr) (n : List Int) (v : V) (kvs : List (List Key × V)), vs = [.ref c, .ref b, v] ∧ I H c own kvs ∧ H b = some (.tup (n.map V.int)) ∧ KeyOk 200 n ∧ valV kvs (kI n) = none ∧ kvs.length ≤ 1000 ∧
  ∀ H' : Hp, I H' c own (putK kvs (kI n) v) → Stay own H H' → Q .non H'
def gTake (I : CK) : Sp := fun vs H Q _ => ∃ (c b : Addr) (own : List Addr) (n : List Int) (kvs : List (List Key × V)), vs = [.ref c, .ref b] ∧ I H c own kvs ∧ H b = some (.tup (n.map V.int)) ∧ KeyOk 200 n ∧ kvs.length ≤ 1000 ∧ (valV kvs (kI n) = none → Q .non H) ∧
  ∀ (v : V) (H' : Hp), valV kvs (kI n) = some v → I H' c own (dropK kvs (kI n)) → Stay own H H' → Q v H'
def gLeave (I : CK) : Sp := fun vs H Q _ => ∃ (c : Addr) (own : List Addr) (kvs : List (List Key × V)), vs = [.ref c] ∧ I H c own kvs ∧ kvs.length ≤ 1000 ∧ (∀ H', kvs = [] → I H' c own kvs → Stay own H H' → Q .non H') ∧
  ∀ (a t : Addr) (n : List Int) (v : V) (H' : Hp), Least (kvs.map (·.1)) n → valV kvs (kI n) = some v → H' a = some (.tup (n.map V.int)) → H' t = some (.tup [.ref a, v]) → I H' c own (dropK kvs (kI n)) → Stay own H H' → Q (.ref t) H'
/-- the class: its methods -/
structure CkT (P : Program) (w : World) (K : PySem.W.Frag) (mg : Str → Option Value) (base : Heap) (CC : Addr) (I : CK) (fS fLe fPu fT fLv : Addr) (dS dLe dPu dT dLv : FuncData) : Prop where
  ok : CkOk CC I
  cl : Cls K CC
  GS : FnOk P w K mg base CX0 1 fS dS ["self"] (gSize I)
  bS : Binds K dS ["self"] []
  mS : Meth K CC "size" fS
  GLe : FnOk P w K mg base CX0 4 fLe dLe ["self"] (gLeast I)
  bLe : Binds K dLe ["self"] []
  mLe : Meth K CC "least" fLe
  GPu : FnOk P w K mg base CX0 4 fPu dPu ["self", "key", "thing"] (gPut I)
  bPu : Binds K dPu ["self", "key", "thing"] []
  mPu : Meth K CC "put" fPu
  GT : FnOk P w K mg base CX0 4 fT dT ["self", "key"] (gTake I)
  bT : Binds K dT ["self", "key"] []
  mT : Meth K CC "take_out" fT
  GLv : FnOk P w K mg base CX0 5 fLv dLv ["self"] (gLeave I)
  bLv : Binds K dLv ["self"] []
  mLv : Meth K CC "leave" fLv
theorem mem_dq {c d r q e : Addr} (h : e ∈ [d, q]) : e ∈ [c, d, r, q] := by
  rcases List.mem_cons.mp h with h | h
  · rw [h]
    simp
  · rw [List.mem_singleton.mp h]
    simp
/-- the calendar as such -/
def calK (CC : Addr) : CK := fun H c own kvs => ∃ d r q, own = [c, d, r, q] ∧ Cal CC H c d r q kvs
theorem calK_ok (CC : Addr) : CkOk CC (calK CC) where
  stay := fun ⟨d, r, q, e, h⟩ s hn => ⟨d, r, q, e, h.stay s (by subst e; exact hn)⟩
  inst := fun ⟨d, r, q, e, dx, _, _, h1, _⟩ => ⟨dx, _, h1, fun m hm => by
    simp only [List.mem_cons, List.not_mem_nil, or_false] at hm
    rcases hm with rfl | rfl | rfl | rfl | rfl <;> exact cF_no d r (by decide +kernel) (by decide +kernel)⟩
  ik := fun ⟨d, r, q, e, _, _, ns, _, _, _, _, _, _, h7, _⟩ => h7.ik
  nd := fun ⟨d, r, q, e, _, _, ns, _, _, _, _, _, _, h7, _⟩ => h7.nd
  own := fun ⟨d, r, q, e, dx, as, ns, h1, h2, h3, h4, _⟩ b hb => by
    subst e
    simp only [List.mem_cons, List.not_mem_nil, or_false] at hb
    rcases hb with rfl | rfl | rfl | rfl
    · exact ⟨_, h1⟩
    · exact ⟨_, h2⟩
    · exact ⟨_, h3⟩
    · exact ⟨_, h4⟩
section
variable {P : Program} {w : World} {K : PySem.W.Frag} {mg : Str → Option Value} {base : Heap} {fS fLe fPu fT fLv fP fPl fL fR CC : Addr} {dS dLe dPu dT dLv fdP fdPl fdL dR : FuncData}
theorem cal_ckT (T : CalT K mg CC) (B : Bl mg) (DP : Df K mg "put_in" s_put_in ["falling", "thing"] fP fdP) (DPl : Df K mg "place_in" s_place_in ["falling", "thing"] fPl fdPl) (DL : Df K mg "last_of" s_last_of ["falling"] fL fdL)
    (FR : Fun K "row_for" "Calendar.row_for" s_Calendar_row_for fR dR) (bR : Binds K dR ["self", "key"] []) (mR : Meth K CC "row_for" fR)
    (FS : Fun K "size" "Calendar.size" s_Calendar_size fS dS) (bS : Binds K dS ["self"] []) (mS : Meth K CC "size" fS)
    (FLe : Fun K "least" "Calendar.least" s_Calendar_least fLe dLe) (bLe : Binds K dLe ["self"] []) (mLe : Meth K CC "least" fLe)
    (FPu : Fun K "put" "Calendar.put" s_Calendar_put fPu dPu) (bPu : Binds K dPu ["self", "key", "thing"] []) (mPu : Meth K CC "put" fPu)
    (FT : Fun K "take_out" "Calendar.take_out" s_Calendar_take_out fT dT) (bT : Binds K dT ["self", "key"] []) (mT : Meth K CC "take_out" fT)
    (FLv : Fun K "leave" "Calendar.leave" s_Calendar_leave fLv dLv) (bLv : Binds K dLv ["self"] []) (mLv : Meth K CC "leave" fLv) : CkT P w K mg base CC (calK CC) fS fLe fPu fT fLv dS dLe dPu dT dLv where
  ok := calK_ok CC
  cl := T.cl
  GS := (ok_size FS T B).imp fun vs H Q E ⟨c, own, kvs, e, ⟨d, r, q, _, h⟩, k⟩ => ⟨c, d, r, q, kvs, e, h, k⟩
  bS := bS
  mS := mS
  GLe := ((ok_least FLe T DL).imp fun vs H Q E ⟨c, own, kvs, e, ⟨d, r, q, e2, h⟩, _, k1, k2⟩ => ⟨c, d, r, q, kvs, e, h, fun z => k1 H z ⟨d, r, q, e2, h⟩ (Stay.refl _ _), fun a n ha le => k2 a n H ⟨d, r, q, e2, h⟩ (Stay.refl _ _) ha le⟩).mono (by decide)
  bLe := bLe
  mLe := mLe
  GPu := ((ok_put FPu T B DP DPl FR bR mR).imp fun vs H Q E ⟨c, b, own, n, v, kvs, e, ⟨d, r, q, e2, h⟩, hb, _, hv, hl, k⟩ => ⟨c, d, r, q, b, n, v, kvs, e, h, hb, hv, Nat.le_trans hl (by decide), fun H' h' s' => k H' ⟨d, r, q, e2, h'⟩ (s'.mono fun b hb => by rw [e2]; exact mem_dq hb)⟩).mono (by decide)
  bPu := bPu
  mPu := mPu
  GT := ((ok_take FT T B DPl FR bR mR).imp fun vs H Q E ⟨c, b, own, n, kvs, e, ⟨d, r, q, e2, h⟩, hb, _, hl, k1, k2⟩ => ⟨c, d, r, q, b, n, kvs, e, h, hb, Nat.le_trans hl (by decide), k1, fun v H' ev h' s' => k2 v H' ev ⟨d, r, q, e2, h'⟩ (s'.mono fun b hb => by rw [e2]; exact mem_dq hb)⟩).mono (by decide)
  bT := bT
  mT := mT
  GLv := ((ok_leave FLv T B DPl DL FR bR mR FLe bLe mLe FT bT mT).imp fun vs H Q E ⟨c, own, kvs, e, ⟨d, r, q, e2, h⟩, hl, k1, k2⟩ => ⟨c, d, r, q, kvs, e, h, Nat.le_trans hl (by decide), fun z => k1 H z ⟨d, r, q, e2, h⟩ (Stay.refl _ _),
    fun a t n v H' le ev ha ht h' s' => k2 a t n v H' le ev ha ht ⟨d, r, q, e2, h'⟩ (s'.mono fun b hb => by rw [e2]; exact mem_dq hb)⟩).mono (by decide)
  bLv := bLv
  mLv := mLv
end
end My
namespace My
open PySem L2
theorem boot_min : bootBuiltins "min" = some (.builtin "min") := by decide +kernel
theorem tup_eq {H : Hp} {a b : Addr} {n : List Int} (ha : H a = some (.tup (n.map V.int))) (hb : H b = some (.tup (n.map V.int))) : TEq H 1 (.ref a) (.ref b) := by
  refine .inr (.inr ⟨a, b, _, _, rfl, rfl, ha, hb, ?_⟩)
  have all : ∀ n : List Int, Paired (TEq H 0) (n.map V.int) (n.map V.int) := by
    intro n
    induction n with
    | nil => exact .nil
    | cons x r ih => exact .cons ⟨True.intro, rfl⟩ ih
  exact all n
theorem least_one {ks : List (List Key)} {n m : List Int} (a : L2.Least ks n) (b : L2.Least ks m) : n = m := HT.lx_anti (b.2 n a.1) (a.2 m b.1)
/-- a calendar and a dict that hold the same -/
structure Both (I : CK) (H : Hp) (c e : Addr) (own : List Addr) (kvs : List (List Key × V)) : Prop where
  cal : I H c own kvs
  dict : H e = some (.dT kvs)
  ne : ¬ e ∈ own
  tt : ∀ kv ∈ kvs, TT H 2 kv.2
  len : kvs.length ≤ 1000
theorem Both.stay {I : CK} {CC : Addr} (ok : CkOk CC I) {c e : Addr} {own ps : List Addr} {H H' : Hp} {kvs : List (List Key × V)} (h : Both I H c e own kvs) (s : Stay ps H H') (hn : ∀ b ∈ e :: own, ¬ b ∈ ps) : Both I H' c e own kvs :=
  ⟨ok.stay h.cal s fun b hb => hn b (List.mem_cons_of_mem _ hb), s.keep _ _ h.dict (hn e List.mem_cons_self), h.ne, fun kv hk => (h.tt kv hk).keep s.tup, h.len⟩
/-- the calendar is as it was, by its own things -/
theorem Both.own {I : CK} {c e : Addr} {own : List Addr} {H H' : Hp} {kvs : List (List Key × V)} (h : Both I H c e own kvs) (hc : I H' c own kvs) (s : Stay own H H') : Both I H' c e own kvs :=
  ⟨hc, s.keep _ _ h.dict h.ne, h.ne, fun kv hk => (h.tt kv hk).keep s.tup, h.len⟩
theorem valV_mem {kvs : List (List Key × V)} {k : List Key} {v : V} (h : valV kvs k = some v) : (k, v) ∈ kvs := by
  unfold valV at h
  obtain ⟨p, hp, e⟩ := Option.map_eq_some_iff.mp h
  have h1 := List.mem_of_find?_eq_some hp
  have h2 := List.find?_some hp
  have h3 : p.1 = k := of_decide_eq_true h2
  rw [← h3, ← e]
  exact h1
/-- both lose a key -/
theorem Both.drop {I : CK} {CC : Addr} (ok : CkOk CC I) {c e : Addr} {own : List Addr} {H H1 : Hp} {kvs : List (List Key × V)} {k : List Key} (h : Both I H c e own kvs) (hc : I H1 c own (dropK kvs k)) (s : Stay own H H1) :
    Both I (upd H1 e (.dT (dropK kvs k))) c e own (dropK kvs k) ∧ Stay (e :: own) H (upd H1 e (.dT (dropK kvs k))) := by
  have he : H1 e = some (.dT kvs) := s.keep e _ h.dict h.ne
  have s2 : Stay [e] H1 (upd H1 e (.dT (dropK kvs k))) := Stay.upd (by simp) he (fun xs z => by cases z)
  exact ⟨⟨ok.stay hc s2 fun b hb z => h.ne (by rw [← List.mem_singleton.mp z]; exact hb), upd_same, h.ne, fun kv hk => ((h.tt kv (dropK_mem hk)).keep s.tup).keep s2.tup, Nat.le_trans (dropK_le kvs k) h.len⟩,
    (s.mono fun b hb => List.mem_cons_of_mem _ hb).trans (s2.mono fun b hb => by rw [List.mem_singleton.mp hb]; exact List.mem_cons_self)⟩
section
variable {P : Program} {w : World} {K : PySem.W.Frag} {mg : Str → Option Value} {base : Heap} {f fWh CC fS fLe fPu fT fLv : Addr} {fd fdWh dS dLe dPu dT dLv : FuncData} {I : CK}
/-! _law_look -/
def spLook (I : CK) : Sp := fun vs H Q _ => ∃ (c e : Addr) (own : List Addr) (kvs : List (List Key × V)), vs = [.ref c, .ref e] ∧ Both I H c e own kvs ∧ ∀ H', Both I H' c e own kvs → Stay own H H' → Q (.bl true) H'
theorem scLk : FnScope ["_law_calendar", "_law_there", "_law_due", "_law_many"] ["_law_calendar", "_law_there"] (defScope s_law_look) := ⟨rfl, rfl, rfl, by decide +kernel, rfl, by decide +kernel, by decide +kernel⟩
theorem ok_look (D : Df K mg "_law_look" s_law_look ["_law_calendar", "_law_there"] f fd) (T : CkT P w K mg base CC I fS fLe fPu fT fLv dS dLe dPu dT dLv) (B : Bl mg) (mn : mg "min" = none) (DW : Df K mg "_law_whole" s_law_whole ["_law_found"] fWh fdWh) :
    FnOk P w K mg base CX0 5 f fd ["_law_calendar", "_law_there"] (spLook I) := by
  have GW : FnOk P w K mg base CX0 1 fWh fdWh ["_law_found"] spWhole := ok_whole DW B
  refine D.F.ok scLk (fun vs H Q E h => ?_) (fun cdv A outer s H vs Q E hr h => ?_)
  · obtain ⟨c, e, own, kvs, rfl, _⟩ := h
    rfl
  obtain ⟨c, e, own, kvs, rfl, hB, k⟩ := h
  have hu := hu_of hr
  have h50 := hu50 hr
  have hu2 := Nat.lt_of_le_of_lt (Nat.add_le_add_left (show 2 ≤ 50 by decide) _) h50
  have hr1 : Room 1 _ := hr.mono (by decide)
  obtain ⟨dx, fs, h1, no⟩ := T.ok.inst hB.cal
  refine ⟨_, pss_cons (ps_set (i := 2) scLk.nd rfl (Or.inl rfl) pe_non)
    (pss_cons (ps_if (pt_cmpR op_gt (pe_callB call_lenT (by rfl) B.len PySem.boot_len (pa_cons (pv 1) pa_nil)) pe_int (nomark _)) (pss_one (ps_set (i := 2) scLk.nd rfl (Or.inl rfl) (pe_callB (call_minT hu2 rfl) (by rfl) mn boot_min (pa_cons (pv 1) pa_nil)))) pss_nil)
    (pss_cons (ps_set (i := 3) scLk.nd rfl (Or.inl rfl) (pe_meth0 (pv 0) T.cl T.mS T.GS hr1 T.bS .nil pass0))
    (pss_one (ps_ret (pe_and (pe_call GW hr1 (by rfl) DW.m DW.F.kp DW.b .nil pass0 (pa_cons (pv 3) pa_nil))
      (pe_and (pe_cmpR op_eq (pv 3) (pe_callB call_lenT (by rfl) B.len PySem.boot_len (pa_cons (pv 1) pa_nil)) (nomark _))
      (pe_one (pe_cmpR (op_eqV h50) (pe_meth0 (pv 0) T.cl T.mLe T.GLe hr T.bLe .nil pass0) (pv 2) (nomark _))))))))), ?_⟩
  refine ⟨_, rfl, e, kvs, rfl, hB.dict, _, _, rfl, rfl, _, rfl, ?_⟩
  refine ite2 (fun cc => ?_) (fun cc => ?_)
  · have ne : kvs ≠ [] := fun z => by
      rw [z] at cc
      exact absurd (of_decide_eq_true cc) (by decide)
    refine ⟨_, rfl, e, kvs, rfl, hB.dict, T.ok.ik hB.cal, ne, fun b n hb le => ?_⟩
    refine ⟨_, rfl, c, dx, _, rfl, h1, no "size" (by simp), c, own, kvs, rfl, hB.cal, ?_⟩
    refine ⟨_, rfl, _, rfl, _, rfl, iteT ?_⟩
    refine ⟨_, rfl, _, rfl, e, kvs, rfl, hB.dict, rfl, _, rfl, ?_⟩
    rw [decide_eq_true rfl]
    refine iteT ?_
    refine ⟨_, rfl, c, dx, _, rfl, h1, no "least" (by simp), c, own, kvs, rfl, hB.cal, hB.len, fun H1 z => absurd z ne, fun a m H1 hI s1 ha le2 => ?_⟩
    have em := least_one le le2
    subst em
    exact ⟨_, rfl, 1, by decide, tup_eq ha (s1.tup _ _ hb), k H1 (hB.own hI s1) s1⟩
  · have em : kvs = [] := by
      have z : ¬ ((kvs.length : Int) > 0) := fun z => cc (decide_eq_true z)
      exact List.length_eq_zero_iff.mp (by omega)
    refine ⟨_, rfl, c, dx, _, rfl, h1, no "size" (by simp), c, own, kvs, rfl, hB.cal, ?_⟩
    refine ⟨_, rfl, _, rfl, _, rfl, iteT ?_⟩
    refine ⟨_, rfl, _, rfl, e, kvs, rfl, hB.dict, rfl, _, rfl, ?_⟩
    rw [decide_eq_true rfl]
    refine iteT ?_
    refine ⟨_, rfl, c, dx, _, rfl, h1, no "least" (by simp), c, own, kvs, rfl, hB.cal, hB.len, fun H1 z hI s1 => ?_, fun a m H1 hI s1 ha le2 => ?_⟩
    · exact ⟨_, rfl, 0, by decide, ⟨True.intro, rfl⟩, k H1 (hB.own hI s1) s1⟩
    · have z := le2.1
      rw [em] at z
      exact nomatch z
/-! _law_left -/
def spLeft (I : CK) : Sp := fun vs H Q _ => ∃ (c e : Addr) (own : List Addr) (kvs : List (List Key × V)), vs = [.ref c, .ref e] ∧ Both I H c e own kvs ∧ (∀ H', kvs = [] → Both I H' c e own kvs → Stay (e :: own) H H' → Q (.bl true) H') ∧
  ∀ (n : List Int) (H' : Hp), kI n ∈ kvs.map (·.1) → Both I H' c e own (dropK kvs (kI n)) → Stay (e :: own) H H' → Q (.bl true) H'
theorem scLf : FnScope ["_law_calendar", "_law_there", "_law_found", "_law_key_here"] ["_law_calendar", "_law_there"] (defScope s_law_left) := ⟨rfl, rfl, rfl, by decide +kernel, rfl, by decide +kernel, by decide +kernel⟩
theorem ok_left (D : Df K mg "_law_left" s_law_left ["_law_calendar", "_law_there"] f fd) (T : CkT P w K mg base CC I fS fLe fPu fT fLv dS dLe dPu dT dLv) (B : Bl mg) (mn : mg "min" = none) :
    FnOk P w K mg base CX0 6 f fd ["_law_calendar", "_law_there"] (spLeft I) := by
  refine D.F.ok scLf (fun vs H Q E h => ?_) (fun cdv A outer s H vs Q E hr h => ?_)
  · obtain ⟨c, e, own, kvs, rfl, _⟩ := h
    rfl
  obtain ⟨c, e, own, kvs, rfl, hB, k1, k2⟩ := h
  have hu := hu_of hr
  have h50 := hu50 hr
  have hu2 := Nat.lt_of_le_of_lt (Nat.add_le_add_left (show 2 ≤ 50 by decide) _) h50
  obtain ⟨dx, fs, h1, no⟩ := T.ok.inst hB.cal
  refine ⟨_, pss_cons (ps_set (i := 2) scLf.nd rfl (Or.inl rfl) (pe_meth0 (pv 0) T.cl T.mLv T.GLv hr T.bLv .nil pass0))
    (pss_cons (ps_if (pt_cmpR op_eq (pe_callB call_lenT (by rfl) B.len PySem.boot_len (pa_cons (pv 1) pa_nil)) pe_int (nomark _)) (pss_one (ps_ret (pe_cmp (pc_isN (pv 2))))) pss_nil)
    (pss_cons (ps_set (i := 3) scLf.nd rfl (Or.inl rfl) (pe_callB (call_minT hu2 rfl) (by rfl) mn boot_min (pa_cons (pv 1) pa_nil)))
    (pss_cons (ps_if (pw_or (pt_not (pt_val (pe_callB call_isinst (by rfl) B.isi boot_isi (pa_cons (pv 2) (pa_cons (pe_bltn (v := .ty "tuple") (by rfl) B.tuple boot_tuple rfl) pa_nil)))))
      (pw_or (pt_cmpR op_ne (pe_callB call_len_seq (by rfl) B.len PySem.boot_len (pa_cons (pv 2) pa_nil)) pe_int (nomark _))
      (pw_or (pt_cmpR (op_neV h50) (pe_ix ix_tup (pv 2) pe_int (fun _ _ => rfl)) (pv 3) (nomark _))
      (pw_or1 (pt_cmpR (op_neV h50) (pe_ix ix_tup (pv 2) pe_int (fun _ _ => rfl)) (pe_dget hu (pv 1) (pv 3) (fun _ _ => rfl)) (nomark _)))))).pt (pss_one (ps_ret pe_bl)) pss_nil)
    (pss_cons (ps_expr (pe_dpopT hu (pv 1) (pv 3) ⟨rfl, rfl, rfl, rfl⟩))
    (pss_one (ps_ret pe_bl)))))), ?_⟩
  refine ⟨_, rfl, c, dx, _, rfl, h1, no "leave" (by simp), c, own, kvs, rfl, hB.cal, hB.len, fun H1 em hI s1 => ?_, fun a t n v H1 le ev ha ht hC s1 => ?_⟩
  · have hB1 := hB.own hI s1
    refine ⟨_, rfl, e, kvs, rfl, hB1.dict, rfl, _, rfl, ?_⟩
    have z : decide (V.int (kvs.length : Int) = V.int 0) = true := by rw [em]; rfl
    rw [z]
    refine iteT ?_
    refine ⟨_, rfl, ?_⟩
    show Q (.bl (decide (V.non = V.non))) H1
    rw [show decide (V.non = V.non) = true from decide_eq_true rfl]
    exact k1 H1 em hB1 (s1.mono fun b hb => List.mem_cons_of_mem _ hb)
  · have ne : kvs ≠ [] := fun z => by
      have y := le.1
      rw [z] at y
      exact nomatch y
    have he1 : H1 e = some (.dT kvs) := s1.keep e _ hB.dict hB.ne
    refine ⟨_, rfl, e, kvs, rfl, he1, rfl, _, rfl, ?_⟩
    have nz : decide (V.int (kvs.length : Int) = V.int 0) = false := decide_eq_false fun z => by
      injection z with z
      exact ne (List.length_eq_zero_iff.mp (by omega))
    rw [nz]
    refine iteF ?_
    refine ⟨_, rfl, e, kvs, rfl, he1, T.ok.ik hB.cal, ne, fun b m hb le2 => ?_⟩
    have em := least_one le le2
    subst em
    have tv : TT H1 2 v := (hB.tt _ (valV_mem ev)).keep s1.tup
    refine ⟨_, rfl, _, "tuple", _, true, rfl, .tup ht, kit_tt, _, rfl, iteF ?_⟩
    refine ⟨_, rfl, t, _, rfl, .inr (SqT.of ht), rfl, _, rfl, iteF ?_⟩
    refine ⟨_, rfl, t, _, _, _, rfl, rfl, SqT.of ht, rfl, _, rfl, 1, by decide, tup_eq ha hb, _, rfl, iteF ?_⟩
    have hbk : H1 b = some (.tup ((kI n).map kV)) := by rw [map_kV]; exact hb
    have gt := DGet.t (k := kI n) he1 hbk
    rw [ev] at gt
    refine ⟨_, rfl, t, _, _, _, rfl, rfl, SqT.of ht, rfl, _, rfl, _, rfl, e, v, rfl, gt, 2, by decide, tv.eq, _, rfl, iteF ?_⟩
    refine ⟨_, rfl, e, rfl, .inr ⟨_, .inl he1⟩, _, rfl, kvs, kI n, b, v, he1, rfl, hbk, ev, ?_⟩
    obtain ⟨b1, b2⟩ := hB.drop T.ok hC s1
    exact k2 n _ le.1 b1 b2
end
end My
namespace My
open PySem L2
section
variable {P : Program} {w : World} {K : PySem.W.Frag} {mg : Str → Option Value} {base : Heap} {f CC fS fLe fPu fT fLv : Addr} {fd dS dLe dPu dT dLv : FuncData} {I : CK}
/-! _law_taken -/
def spTaken (I : CK) : Sp := fun vs H Q _ => ∃ (c e b : Addr) (own : List Addr) (n : List Int) (kvs : List (List Key × V)), vs = [.ref c, .ref e, .ref b] ∧ Both I H c e own kvs ∧ H b = some (.tup (n.map V.int)) ∧ KeyOk 200 n ∧ (valV kvs (kI n) = none → Q (.bl true) H) ∧
  ∀ H' : Hp, kI n ∈ kvs.map (·.1) → Both I H' c e own (dropK kvs (kI n)) → Stay (e :: own) H H' → Q (.bl true) H'
theorem scTk : FnScope ["_law_calendar", "_law_there", "_law_key_here", "_law_found"] ["_law_calendar", "_law_there", "_law_key_here"] (defScope s_law_taken) := ⟨rfl, rfl, rfl, by decide +kernel, rfl, by decide +kernel, by decide +kernel⟩
theorem ok_taken (D : Df K mg "_law_taken" s_law_taken ["_law_calendar", "_law_there", "_law_key_here"] f fd) (T : CkT P w K mg base CC I fS fLe fPu fT fLv dS dLe dPu dT dLv) :
    FnOk P w K mg base CX0 5 f fd ["_law_calendar", "_law_there", "_law_key_here"] (spTaken I) := by
  refine D.F.ok scTk (fun vs H Q E h => ?_) (fun cdv A outer s H vs Q E hr h => ?_)
  · obtain ⟨c, e, b, own, n, kvs, rfl, _⟩ := h
    rfl
  obtain ⟨c, e, b, own, n, kvs, rfl, hB, hb, ko, k1, k2⟩ := h
  have hu := hu_of hr
  have h50 := hu50 hr
  have hu2 := Nat.lt_of_le_of_lt (Nat.add_le_add_left (show 2 ≤ 50 by decide) _) h50
  obtain ⟨dx, fs, h1, no⟩ := T.ok.inst hB.cal
  refine ⟨_, pss_cons (ps_set (i := 3) scTk.nd rfl (Or.inl rfl) (pe_meth (pv 0) T.cl T.mT T.GT hr T.bT .nil pass0 (pa_cons (pv 2) pa_nil)))
    (pss_cons (ps_if (pt_cmp (pc_dnotin hu (pv 2) (pv 1))) (pss_one (ps_ret (pe_cmp (pc_isN (pv 3))))) pss_nil)
    (pss_one (ps_ret (pe_cmpR (op_eqV h50) (pv 3) (pe_dpopT hu (pv 1) (pv 2) ⟨rfl, rfl, rfl, rfl⟩) (nomark _))))), ?_⟩
  have hbk : H b = some (.tup ((kI n).map kV)) := by rw [map_kV]; exact hb
  refine ⟨_, rfl, c, dx, _, rfl, h1, no "take_out" (by simp), _, rfl, c, b, own, n, kvs, rfl, hB.cal, hb, ko, hB.len, fun ev => ?_, fun v H1 ev hC s1 => ?_⟩
  · have gt := DGet.t (k := kI n) hB.dict hbk
    rw [ev] at gt
    refine ⟨_, rfl, _, rfl, e, _, rfl, gt, _, rfl, iteT ?_⟩
    refine ⟨_, rfl, ?_⟩
    show Q (.bl (decide (V.non = V.non))) H
    rw [show decide (V.non = V.non) = true from decide_eq_true rfl]
    exact k1 ev
  · have he1 : H1 e = some (.dT kvs) := s1.keep e _ hB.dict hB.ne
    have hb1 := s1.tup b _ hbk
    have gt := DGet.t (k := kI n) he1 hb1
    rw [ev] at gt
    refine ⟨_, rfl, _, rfl, e, _, rfl, gt, _, rfl, iteF ?_⟩
    obtain ⟨b1, b2⟩ := hB.drop T.ok hC s1
    have tv : TT (upd H1 e (.dT (dropK kvs (kI n)))) 2 v := (hB.tt _ (valV_mem ev)).keep b2.tup
    exact ⟨_, rfl, _, rfl, e, rfl, .inr ⟨_, .inl he1⟩, _, rfl, kvs, kI n, b, v, he1, rfl, hb1, ev, 2, by decide, tv.eq, k2 _ (valV_in ev) b1 b2⟩
end
end My
namespace My
open PySem L2
def spLaw (K : PySem.W.Frag) : Sp := fun vs H Q _ => ∃ (a : Addr) (ns : List Int), vs = [.ref a] ∧ SqL K H a (ns.map V.int) ∧ ns.length ≤ 63 ∧ (∀ x ∈ ns, Builtin.Int.intBits x ≤ 1048576) ∧ ∀ H', Q (.bl true) H'
/-- what lives: the purse, the keys, the calendar and the dict -/
structure Live (I : CK) (H : Hp) (p l c e : Addr) (own : List Addr) (as : List Addr) (ns : List (List Int)) (kvs : List (List Key × V)) : Prop where
  pu : Purse H p
  ks : H l = some (.lst (as.map V.ref))
  tu : Tups H as ns
  nd : ns.Nodup
  ko : ∀ n ∈ ns, KeyOk 100 n
  both : Both I H c e own kvs
  pn : ¬ p ∈ l :: e :: own
  ln : ¬ l ∈ e :: own
theorem Live.own {I : CK} {H H' : Hp} {p l c e : Addr} {own as : List Addr} {ns : List (List Int)} {kvs kvs' : List (List Key × V)} (h : Live I H p l c e own as ns kvs) (hB : Both I H' c e own kvs') (s : Stay (e :: own) H H') : Live I H' p l c e own as ns kvs' := by
  obtain ⟨⟨x, y, hp⟩, ks, tu, nd, ko, both, pn, ln⟩ := h
  exact ⟨⟨x, y, s.keep _ _ hp fun z => pn (List.mem_cons_of_mem _ z)⟩, s.keep _ _ ks ln, tu.keep s.tup, nd, ko, hB, pn, ln⟩
theorem Live.purse {I : CK} {CC : Addr} (ok : CkOk CC I) {H H' : Hp} {p l c e : Addr} {own as : List Addr} {ns : List (List Int)} {kvs : List (List Key × V)} (h : Live I H p l c e own as ns kvs) (hp : Purse H' p) (s : Stay [p] H H') : Live I H' p l c e own as ns kvs := by
  obtain ⟨_, ks, tu, nd, ko, both, pn, ln⟩ := h
  refine ⟨hp, s.keep _ _ ks fun z => pn ?_, tu.keep s.tup, nd, ko, both.stay ok s fun b hb z => pn ?_, pn, ln⟩
  · rw [← List.mem_singleton.mp z]
    exact List.mem_cons_self
  · rw [← List.mem_singleton.mp z]
    exact List.mem_cons_of_mem _ hb
theorem Live.same {I : CK} {CC : Addr} (ok : CkOk CC I) {H H' : Hp} {p l c e : Addr} {own as : List Addr} {ns : List (List Int)} {kvs : List (List Key × V)} (h : Live I H p l c e own as ns kvs) (s : Same H H') : Live I H' p l c e own as ns kvs :=
  h.purse ok (h.pu.same s) (Stay.same s)
section
variable {P : Program} {w : World} {K : PySem.W.Frag} {mg : Str → Option Value} {base : Heap} {CC fS fLe fPu fT fLv : Addr} {dS dLe dPu dT dLv : FuncData} {I : CK}
/-- a key is put to both: the dict first -/
theorem Live.put {CC : Addr} (ok : CkOk CC I) {H H1 H2 : Hp} {p l c e : Addr} {own as : List Addr} {ns : List (List Int)} {kvs : List (List Key × V)} {n : List Int} {v : V} (h : Live I H p l c e own as ns kvs) (hl : kvs.length < 1000) (hv : TT H 2 v) (h1 : H1 = upd H e (.dT (putK kvs (kI n) v)))
    (hc : I H2 c own (putK kvs (kI n) v)) (s : Stay own H1 H2) : Live I H2 p l c e own as ns (putK kvs (kI n) v) := by
  have s1 : Stay (e :: own) H H1 := by
    rw [h1]
    exact Stay.upd List.mem_cons_self h.both.dict (fun xs z => by cases z)
  have s2 : Stay (e :: own) H1 H2 := s.mono fun b hb => List.mem_cons_of_mem _ hb
  refine h.own ⟨hc, s.keep _ _ (by rw [h1]; exact upd_same) h.both.ne, h.both.ne, fun kv hk => ?_, ?_⟩ (s1.trans s2)
  · rcases mem_putK hk with z | z
    · exact ((h.both.tt kv z).keep s1.tup).keep s2.tup
    · rw [z]
      exact (hv.keep s1.tup).keep s2.tup
  · have := length_putK kvs (kI n) v
    omega
end
/-- all laid: the calendar is new, and the dict -/
theorem live0 {CC : Addr} {H3 H4 : Hp} {p l c dx d r q e : Addr} {as : List Addr} {ks : List (List Int)} (hp3 : Purse H3 p) (hl : H3 l = some (.lst (as.map V.ref))) (ht : Tups H3 as ks) (nd : ks.Nodup) (ko : ∀ n ∈ ks, KeyOk 100 n) (nc : H3 c = none) (ndx : H3 dx = none)
    (nd4 : (upd (upd H3 dx (.own c)) c (.ins CC dx [])) d = none) (nr4 : (upd (upd H3 dx (.own c)) c (.ins CC dx [])) r = none) (nq4 : (upd (upd H3 dx (.own c)) c (.ins CC dx [])) q = none)
    (hC : Cal CC H4 c d r q []) (s4 : Stay [c] (upd (upd H3 dx (.own c)) c (.ins CC dx [])) H4) (ne : H4 e = none) : Live (calK CC) (upd H4 e (.dT [])) p l c e [c, d, r, q] as ks [] ∧ Stay [c] H3 (upd H4 e (.dT [])) := by
  have sI : Same H3 (upd (upd H3 dx (.own c)) c (.ins CC dx [])) := fun b o e => by
    rw [upd_ne (ne_of_none e nc), upd_ne (ne_of_none e ndx)]
    exact e
  have s5 := same_new ne (.dT [])
  have stay4 : Stay [c] H3 (upd H4 e (.dT [])) := (Stay.same sI).trans (s4.trans (Stay.same s5))
  have nd3 : H3 d = none := sI.free nd4
  have nr3 : H3 r = none := sI.free nr4
  have nq3 : H3 q = none := sI.free nq4
  have old : ∀ b o, H3 b = some o → ¬ b ∈ [c, d, r, q] := fun b o hb z => by
    simp only [List.mem_cons, List.not_mem_nil, or_false] at z
    rcases z with rfl | rfl | rfl | rfl
    · rw [nc] at hb; cases hb
    · rw [nd3] at hb; cases hb
    · rw [nr3] at hb; cases hb
    · rw [nq3] at hb; cases hb
  have oc : ∀ b o, H3 b = some o → b ≠ c := fun b o hb => ne_of_none hb nc
  have en : ¬ e ∈ [c, d, r, q] := fun z => by
    obtain ⟨dx', as', ns', g1, g2, g3, g4, _⟩ := hC
    simp only [List.mem_cons, List.not_mem_nil, or_false] at z
    rcases z with rfl | rfl | rfl | rfl
    · rw [g1] at ne; cases ne
    · rw [g2] at ne; cases ne
    · rw [g3] at ne; cases ne
    · rw [g4] at ne; cases ne
  refine ⟨?_, stay4⟩
  obtain ⟨x, y, ep⟩ := hp3
  have ep4 : H4 p = some (.lst [.int x, .int y]) := (Stay.same sI).trans s4 |>.keep p _ ep (by simpa using oc p _ ep)
  have el4 : H4 l = some (.lst (as.map V.ref)) := (Stay.same sI).trans s4 |>.keep l _ hl (by simpa using oc l _ hl)
  refine ⟨⟨x, y, s5 _ _ ep4⟩, s5 _ _ el4, ht.keep stay4.tup, nd, ko, ⟨⟨d, r, q, rfl, hC.stay (ps := []) (Stay.same s5) (fun _ _ z => (nomatch z))⟩, upd_same, en, fun _ h => (nomatch h), Nat.zero_le _⟩, fun z => ?_, fun z => ?_⟩
  · rcases List.mem_cons.mp z with z | z
    · rw [z] at ep
      rw [ep] at hl
      cases as with
      | nil => simp at hl
      | cons a1 r1 => simp at hl
    · rcases List.mem_cons.mp z with z | z
      · rw [← z, ep4] at ne
        cases ne
      · exact old p _ ep z
  · rcases List.mem_cons.mp z with z | z
    · rw [← z, el4] at ne
      cases ne
    · exact old l _ hl z
end My
namespace My
open PySem L2
section
variable {P : Program} {w : World} {K : PySem.W.Frag} {mg : Str → Option Value} {base : Heap} {f fD fTh fLk fLf fTk fWh CC fS fLe fPu fT fLv : Addr} {fd fdD fdTh fdLk fdLf fdTk fdWh dS dLe dPu dT dLv : FuncData} {I : CK}
/-! _law_step -/
def spStep (I : CK) : Sp := fun vs H Q _ => ∃ (p c e l : Addr) (own as : List Addr) (ns : List (List Int)) (kvs : List (List Key × V)), vs = [.ref p, .ref c, .ref e, .ref l] ∧ Live I H p l c e own as ns kvs ∧ 1 ≤ ns.length ∧ ns.length ≤ 50 ∧ kvs.length < 1000 ∧
  ∀ (kvs' : List (List Key × V)) (H' : Hp), Live I H' p l c e own as ns kvs' → kvs'.length ≤ kvs.length + 1 → Stay (p :: e :: own) H H' → Q (.bl true) H'
theorem scSt : FnScope ["_law_purse_here", "_law_calendar", "_law_there", "_law_keys_here", "_law_way", "_law_key_here", "_law_fine"] ["_law_purse_here", "_law_calendar", "_law_there", "_law_keys_here"] (defScope s_law_step) := ⟨rfl, rfl, rfl, by decide +kernel, rfl, by decide +kernel, by decide +kernel⟩
theorem ok_step (D : Df K mg "_law_step" s_law_step ["_law_purse_here", "_law_calendar", "_law_there", "_law_keys_here"] f fd) (DD : Df K mg "_law_draw" s_law_draw ["_law_purse_here", "_law_out_of"] fD fdD) (DTh : Df K mg "_law_thing" s_law_thing ["_law_purse_here", "_law_key_here"] fTh fdTh)
    (DLk : Df K mg "_law_look" s_law_look ["_law_calendar", "_law_there"] fLk fdLk) (DLf : Df K mg "_law_left" s_law_left ["_law_calendar", "_law_there"] fLf fdLf) (DTk : Df K mg "_law_taken" s_law_taken ["_law_calendar", "_law_there", "_law_key_here"] fTk fdTk) (DWh : Df K mg "_law_whole" s_law_whole ["_law_found"] fWh fdWh)
    (B : Bl mg) (mn : mg "min" = none) (T : CkT P w K mg base CC I fS fLe fPu fT fLv dS dLe dPu dT dLv) : FnOk P w K mg base CX0 7 f fd ["_law_purse_here", "_law_calendar", "_law_there", "_law_keys_here"] (spStep I) := by
  have GD : FnOk P w K mg base CX0 1 fD fdD ["_law_purse_here", "_law_out_of"] spDraw := ok_draw DD
  have GTh : FnOk P w K mg base CX0 2 fTh fdTh ["_law_purse_here", "_law_key_here"] spThing := ok_thing DTh DD B
  have GLk : FnOk P w K mg base CX0 5 fLk fdLk ["_law_calendar", "_law_there"] (spLook I) := ok_look DLk T B mn DWh
  have GLf : FnOk P w K mg base CX0 6 fLf fdLf ["_law_calendar", "_law_there"] (spLeft I) := ok_left DLf T B mn
  have GTk : FnOk P w K mg base CX0 5 fTk fdTk ["_law_calendar", "_law_there", "_law_key_here"] (spTaken I) := ok_taken DTk T
  refine D.F.ok scSt (fun vs H Q E h => ?_) (fun cdv A outer s H vs Q E hr h => ?_)
  · obtain ⟨p, c, e, l, own, as, ns, kvs, rfl, _⟩ := h
    rfl
  obtain ⟨p, c, e, l, own, as, ns, kvs, rfl, L, n1, n50, kl, k⟩ := h
  have hu := hu_of hr
  have r1 : Room 1 _ := hr.mono (by decide)
  have r2 : Room 2 _ := hr.mono (by decide)
  have r4 : Room 4 _ := hr.mono (by decide)
  have r5 : Room 5 _ := hr.mono (by decide)
  refine ⟨_, pss_cons (ps_set (i := 4) scSt.nd rfl (Or.inl rfl) (pe_call GD r1 (by rfl) DD.m DD.F.kp DD.b .nil pass0 (pa_cons (pv 0) (pa_cons pe_int pa_nil))))
    (pss_cons (ps_set (i := 5) scSt.nd rfl (Or.inl rfl) (pe_ix ix_list (pv 3) (pe_call GD r1 (by rfl) DD.m DD.F.kp DD.b .nil pass0 (pa_cons (pv 0) (pa_cons (pe_callB call_len_seq (by rfl) B.len PySem.boot_len (pa_cons (pv 3) pa_nil)) pa_nil))) (fun _ _ => rfl)))
    (pss_cons (ps_if (pw_and (pt_cmpR op_lt (pv 4) pe_int (nomark _)) (pw_and1 (pt_cmp (pc_dnotin hu (pv 5) (pv 2))))).pt
        (pss_cons (ps_dput hu (pv 2) (pv 5) (pe_call GTh r2 (by rfl) DTh.m DTh.F.kp DTh.b .nil pass0 (pa_cons (pv 0) (pa_cons (pv 5) pa_nil))) rfl)
        (pss_cons (ps_expr (pe_meth (pv 1) T.cl T.mPu T.GPu r4 T.bPu .nil pass0 (pa_cons (pv 5) (pa_cons (pe_dget hu (pv 2) (pv 5) (fun _ _ => rfl)) pa_nil))))
        (pss_one (ps_set (i := 6) scSt.nd rfl (Or.inl rfl) pe_bl))))
        (pss_one (ps_if (pt_cmpR op_eq (pv 4) pe_int (nomark _))
          (pss_one (ps_set (i := 6) scSt.nd rfl (Or.inl rfl) (pe_call GLf hr (by rfl) DLf.m DLf.F.kp DLf.b .nil pass0 (pa_cons (pv 1) (pa_cons (pv 2) pa_nil)))))
          (pss_one (ps_set (i := 6) scSt.nd rfl (Or.inl rfl) (pe_call GTk r5 (by rfl) DTk.m DTk.F.kp DTk.b .nil pass0 (pa_cons (pv 1) (pa_cons (pv 2) (pa_cons (pv 5) pa_nil)))))))))
    (pss_one (ps_ret (pe_and (pv 6) (pe_one (pe_call GLk r5 (by rfl) DLk.m DLk.F.kp DLk.b .nil pass0 (pa_cons (pv 1) (pa_cons (pv 2) pa_nil))))))))), ?_⟩
  have up : ∀ {qs : List Addr} {G G' : Hp}, Stay [p] G G' → Stay (p :: qs) G G' := fun s => s.mono fun b hb => by rw [List.mem_singleton.mp hb]; exact List.mem_cons_self
  have ue : ∀ {G G' : Hp}, Stay (e :: own) G G' → Stay (p :: e :: own) G G' := fun s => s.mono fun b hb => List.mem_cons_of_mem _ hb
  have uo : ∀ {G G' : Hp}, Stay own G G' → Stay (e :: own) G G' := fun s => s.mono fun b hb => List.mem_cons_of_mem _ hb
  refine ⟨_, rfl, p, 5, rfl, L.pu, by decide, by decide, fun way H1 w0 w1 pu1 b1 => ?_⟩
  have L1 := L.purse T.ok pu1 (L.pu.stay b1)
  have la := L1.tu.length
  have lpos : (0 : Int) < ((as.map V.ref).length : Int) := by rw [List.length_map]; omega
  refine ⟨_, rfl, _, rfl, _, rfl, l, _, rfl, .inl (SqL.of L1.ks), p, _, rfl, L1.pu, lpos, (by rw [List.length_map]; omega), fun j H2 j0 j1 pu2 b2 => ?_⟩
  have L2 := L1.purse T.ok pu2 (L1.pu.stay b2)
  have st2 : Stay (p :: e :: own) H H2 := (up (L.pu.stay b1)).trans (up (L1.pu.stay b2))
  obtain ⟨jn, rfl⟩ : ∃ jn : Nat, j = (jn : Int) := ⟨j.toNat, by omega⟩
  have ljn : jn < as.length := by
    rw [List.length_map] at j1
    omega
  have ea : (as.map V.ref)[jn]? = some (.ref as[jn]) := by rw [List.getElem?_map, List.getElem?_eq_getElem ljn]; rfl
  obtain ⟨n, hn, hbt⟩ := L2.tu.get (List.getElem?_eq_getElem ljn)
  have kon := (L2.ko n (List.mem_of_getElem? hn)).mono (show (100 : Int) ≤ 200 by decide)
  refine ⟨l, _, _, _, rfl, rfl, SqL.of L2.ks, atI_nat ea, ?_⟩
  have hbk : H2 as[jn] = some (.tup ((kI n).map kV)) := by rw [map_kV]; exact hbt
  refine ⟨_, rfl, _, _, rfl, rfl, _, rfl, ?_⟩
  refine (fun hE => ite2 (fun cc => ?_) (fun _ => hE)) ?_
  · refine ⟨_, rfl, _, rfl, e, _, rfl, DGet.t (k := kI n) L2.both.dict hbk, _, rfl, ?_⟩
    cases hv : valV kvs (kI n) with
    | some v => exact hE
    | none =>
      refine iteT ?_
      refine ⟨_, rfl, _, rfl, p, as[jn], n, rfl, L2.pu, hbt, kon, fun v G3 tv pu3 s3 => ?_⟩
      have L3 := L2.purse T.ok pu3 s3
      have hb3 := s3.tup _ _ hbt
      have hbk3 : G3 as[jn] = some (.tup ((kI n).map kV)) := by rw [map_kV]; exact hb3
      refine ⟨_, rfl, _, rfl, e, _, rfl, DPut.t (k := kI n) L3.both.dict hbk3 (Nat.lt_of_le_of_lt L3.both.len (by decide)), ?_⟩
      have sE : Stay [e] G3 (upd G3 e (.dT (putK kvs (kI n) v))) := Stay.upd (by simp) L3.both.dict (fun xs z => by cases z)
      have hI4 : I (upd G3 e (.dT (putK kvs (kI n) v))) c own kvs := T.ok.stay L3.both.cal sE fun b hb z => L3.both.ne (by rw [← List.mem_singleton.mp z]; exact hb)
      obtain ⟨dx4, fs4, h4, no4⟩ := T.ok.inst hI4
      have gv : valV (putK kvs (kI n) v) (kI n) = some v := by rw [valV_put, if_pos rfl]
      have gt := DGet.t (k := kI n) (upd_same : upd G3 e (.dT (putK kvs (kI n) v)) e = _) (sE.tup _ _ hbk3)
      rw [gv] at gt
      refine ⟨_, rfl, c, dx4, _, rfl, h4, no4 "put" (by simp), _, rfl, _, rfl, _, rfl, e, v, rfl, gt, c, as[jn], _, n, v, kvs, rfl, hI4, sE.tup _ _ hb3, kon, hv, L3.both.len, fun G5 hC5 s5 => ?_⟩
      have L5 := L3.put T.ok (n := n) (v := v) kl tv rfl hC5 s5
      refine ⟨_, rfl, _, rfl, iteT ?_⟩
      refine ⟨_, rfl, _, rfl, c, e, _, _, rfl, L5.both, fun G6 hB6 s6 => ?_⟩
      refine k _ G6 (L5.own hB6 (uo s6)) ?_ (st2.trans ((up s3).trans (ue (((sE.mono fun b hb => by rw [List.mem_singleton.mp hb]; exact List.mem_cons_self).trans (uo s5)).trans (uo s6)))))
      have := length_putK kvs (kI n) v
      omega
  · refine iteF ?_
    refine ⟨_, rfl, rfl, _, rfl, ?_⟩
    refine ite2 (fun cc => ?_) (fun cc => ?_)
    · refine ⟨_, rfl, _, rfl, c, e, _, _, rfl, L2.both, fun G3 em hB3 s3 => ?_, fun n' G3 hn' hB3 s3 => ?_⟩
      · refine ⟨_, rfl, _, rfl, iteT ⟨_, rfl, _, rfl, c, e, _, _, rfl, hB3, fun G6 hB6 s6 => ?_⟩⟩
        exact k _ G6 ((L2.own hB3 s3).own hB6 (uo s6)) (Nat.le_succ _) (st2.trans (ue (s3.trans (uo s6))))
      · refine ⟨_, rfl, _, rfl, iteT ⟨_, rfl, _, rfl, c, e, _, _, rfl, hB3, fun G6 hB6 s6 => ?_⟩⟩
        exact k _ G6 ((L2.own hB3 s3).own hB6 (uo s6)) (Nat.le_succ_of_le (dropK_le _ _)) (st2.trans (ue (s3.trans (uo s6))))
    · refine ⟨_, rfl, _, rfl, _, rfl, c, e, as[jn], _, n, _, rfl, L2.both, hbt, kon, fun hv => ?_, fun G3 hk hB3 s3 => ?_⟩
      · refine ⟨_, rfl, _, rfl, iteT ⟨_, rfl, _, rfl, c, e, _, _, rfl, L2.both, fun G6 hB6 s6 => ?_⟩⟩
        exact k _ G6 (L2.own hB6 (uo s6)) (Nat.le_succ _) (st2.trans (ue (uo s6)))
      · refine ⟨_, rfl, _, rfl, iteT ⟨_, rfl, _, rfl, c, e, _, _, rfl, hB3, fun G6 hB6 s6 => ?_⟩⟩
        exact k _ G6 ((L2.own hB3 s3).own hB6 (uo s6)) (Nat.le_succ_of_le (dropK_le _ _)) (st2.trans (ue (s3.trans (uo s6))))
end
/-! ### two of them -/
abbrev sel {α : Type} (i : Nat) (x y : α) : α := if i = 0 then x else y
structure TwoS (I : CK) (H : Hp) (p l lc lt c1 e1 c2 e2 : Addr) (o1 o2 as : List Addr) (ns : List (List Int)) (m : Nat) : Prop where
  one : ∃ kvs, Live I H p l c1 e1 o1 as ns kvs ∧ kvs.length ≤ m
  two : ∃ kvs, Live I H p l c2 e2 o2 as ns kvs ∧ kvs.length ≤ m
  hlc : H lc = some (.lst [.ref c1, .ref c2])
  hlt : H lt = some (.lst [.ref e1, .ref e2])
  dj : ∀ b ∈ e1 :: o1, ¬ b ∈ e2 :: o2
  nc : ¬ lc ∈ (p :: e1 :: o1) ++ (e2 :: o2)
  nt : ¬ lt ∈ (p :: e1 :: o1) ++ (e2 :: o2)
theorem Live.other {I : CK} {CC : Addr} (ok : CkOk CC I) {H H' : Hp} {p l c e : Addr} {own as ps : List Addr} {ns : List (List Int)} {kvs : List (List Key × V)} (h : Live I H p l c e own as ns kvs) (hp : Purse H' p) (s : Stay ps H H') (hn : ∀ b ∈ l :: e :: own, ¬ b ∈ ps) : Live I H' p l c e own as ns kvs := by
  obtain ⟨_, ks, tu, nd, ko, both, pn, ln⟩ := h
  exact ⟨hp, s.keep _ _ ks (hn l List.mem_cons_self), tu.keep s.tup, nd, ko, both.stay ok s fun b hb => hn b (List.mem_cons_of_mem _ hb), pn, ln⟩
theorem TwoS.pick {I : CK} {CC : Addr} (ok : CkOk CC I) {H : Hp} {p l lc lt c1 e1 c2 e2 : Addr} {o1 o2 as : List Addr} {ns : List (List Int)} {m : Nat} (h : TwoS I H p l lc lt c1 e1 c2 e2 o1 o2 as ns m) (i : Nat) (hi : i < 2) :
    atI [V.ref c1, V.ref c2] (i : Int) = some (.ref (sel i c1 c2)) ∧ atI [V.ref e1, V.ref e2] (i : Int) = some (.ref (sel i e1 e2)) ∧ (∃ kvs, Live I H p l (sel i c1 c2) (sel i e1 e2) (sel i o1 o2) as ns kvs ∧ kvs.length ≤ m) ∧
    ∀ (H' : Hp) (kvs' : List (List Key × V)) (m' : Nat), Live I H' p l (sel i c1 c2) (sel i e1 e2) (sel i o1 o2) as ns kvs' → Stay (p :: (sel i e1 e2) :: (sel i o1 o2)) H H' → kvs'.length ≤ m' → m ≤ m' → TwoS I H' p l lc lt c1 e1 c2 e2 o1 o2 as ns m' := by
  obtain ⟨⟨k1, L1, z1⟩, ⟨k2, L2, z2⟩, hc, ht, dj, nc, nt⟩ := id h
  have cs : i = 0 ∨ i = 1 := by omega
  rcases cs with rfl | rfl
  · refine ⟨rfl, rfl, h.one, fun H' kvs' m' L' s hl hm => ?_⟩
    refine ⟨⟨kvs', L', hl⟩, ⟨k2, L2.other ok L'.pu s fun b hb z => ?_, by omega⟩, s.keep _ _ hc fun z => nc (List.mem_append_left _ z), s.keep _ _ ht fun z => nt (List.mem_append_left _ z), dj, nc, nt⟩
    rcases List.mem_cons.mp z with z | z
    · subst z
      exact L2.pn hb
    · rcases List.mem_cons.mp hb with e | hb
      · subst e
        exact L1.ln z
      · exact dj b z hb
  · refine ⟨rfl, rfl, h.two, fun H' kvs' m' L' s hl hm => ?_⟩
    have sub : ∀ b, b ∈ p :: e2 :: o2 → b ∈ (p :: e1 :: o1) ++ (e2 :: o2) := fun b hb => by
      rcases List.mem_cons.mp hb with e | hb
      · rw [e]
        exact List.mem_append_left _ List.mem_cons_self
      · exact List.mem_append_right _ hb
    refine ⟨⟨k1, L1.other ok L'.pu s fun b hb z => ?_, by omega⟩, ⟨kvs', L', hl⟩, s.keep _ _ hc fun z => nc (sub _ z), s.keep _ _ ht fun z => nt (sub _ z), dj, nc, nt⟩
    rcases List.mem_cons.mp z with z | z
    · subst z
      exact L1.pn hb
    · rcases List.mem_cons.mp hb with e | hb
      · subst e
        exact L2.ln z
      · exact dj b hb z
/-- both are laid, and their dicts -/
theorem two0 {I : CK} {CC : Addr} (ok : CkOk CC I) {H3 H4 H5 : Hp} {p l lc lt c1 e1 c2 e2 : Addr} {o1 o2 as : List Addr} {ks : List (List Int)} (hp : Purse H3 p) (hl : H3 l = some (.lst (as.map V.ref))) (ht : Tups H3 as ks) (nd : ks.Nodup) (ko : ∀ n ∈ ks, KeyOk 100 n)
    (s1 : Stay [p] H3 H4) (i1 : I H4 c1 o1 []) (f1 : ∀ b ∈ o1, H3 b = none) (s2 : Stay [p] H4 H5) (i2 : I H5 c2 o2 []) (f2 : ∀ b ∈ o2, H4 b = none) (hp4 : Purse H4 p) (hp5 : Purse H5 p) (nlc : H5 lc = none)
    (ne1 : upd H5 lc (.lst [.ref c1, .ref c2]) e1 = none) (ne2 : upd (upd H5 lc (.lst [.ref c1, .ref c2])) e1 (.dT []) e2 = none) (nlt : upd (upd (upd H5 lc (.lst [.ref c1, .ref c2])) e1 (.dT [])) e2 (.dT []) lt = none) :
    TwoS I (upd (upd (upd (upd H5 lc (.lst [.ref c1, .ref c2])) e1 (.dT [])) e2 (.dT [])) lt (.lst [.ref e1, .ref e2])) p l lc lt c1 e1 c2 e2 o1 o2 as ks 0 := by
  have t1 := same_new nlc (.lst [.ref c1, .ref c2])
  have t2 := same_new ne1 (.dT [])
  have t3 := same_new ne2 (.dT [])
  have t4 := same_new nlt (.lst [.ref e1, .ref e2])
  have tt : Same H5 _ := t1.trans (t2.trans (t3.trans t4))
  obtain ⟨x5, y5, ep5⟩ := id hp5
  obtain ⟨x4, y4, ep4⟩ := id hp4
  obtain ⟨x3, y3, ep3⟩ := id hp
  have nlp : l ≠ p := fun z => by
    rw [z, ep3] at hl
    cases as with
    | nil => simp at hl
    | cons a1 r1 => simp at hl
  have l4 := s1.keep l _ hl (by simpa using nlp)
  have l5 := s2.keep l _ l4 (by simpa using nlp)
  have p1 : ¬ p ∈ o1 := fun z => by rw [f1 p z] at ep3; cases ep3
  have p2 : ¬ p ∈ o2 := fun z => by rw [f2 p z] at ep4; cases ep4
  have l1 : ¬ l ∈ o1 := fun z => by rw [f1 l z] at hl; cases hl
  have l2 : ¬ l ∈ o2 := fun z => by rw [f2 l z] at l4; cases l4
  have w1 : ∀ b ∈ o1, ∃ o, H4 b = some o := fun b hb => ok.own i1 b hb
  have w15 : ∀ b ∈ o1, ∃ o, H5 b = some o := fun b hb => by
    obtain ⟨o, ho⟩ := w1 b hb
    exact ⟨o, s2.keep b _ ho (fun z => p1 (by rw [← List.mem_singleton.mp z]; exact hb))⟩
  have w2 : ∀ b ∈ o2, ∃ o, H5 b = some o := fun b hb => ok.own i2 b hb
  have frc : ∀ b o, H5 b = some o → b ≠ lc := fun b o hb => ne_of_none hb nlc
  have fr1 : ∀ b o, H5 b = some o → b ≠ e1 := fun b o hb => ne_of_none (t1 b o hb) ne1
  have fr2 : ∀ b o, H5 b = some o → b ≠ e2 := fun b o hb => ne_of_none (t2 b o (t1 b o hb)) ne2
  have frt : ∀ b o, H5 b = some o → b ≠ lt := fun b o hb => ne_of_none (t3 b o (t2 b o (t1 b o hb))) nlt
  have c_1 : lc ≠ e1 := ne_of_none upd_same ne1
  have c_2 : lc ≠ e2 := ne_of_none (t2 _ _ upd_same) ne2
  have c_t : lc ≠ lt := ne_of_none (t3 _ _ (t2 _ _ upd_same)) nlt
  have n12 : e1 ≠ e2 := ne_of_none upd_same ne2
  have n1t : e1 ≠ lt := ne_of_none (t3 _ _ upd_same) nlt
  have n2t : e2 ≠ lt := ne_of_none upd_same nlt
  have e1o1 : ¬ e1 ∈ o1 := fun z => by
    obtain ⟨o, ho⟩ := w15 _ z
    exact fr1 _ _ ho rfl
  have e1o2 : ¬ e1 ∈ o2 := fun z => by
    obtain ⟨o, ho⟩ := w2 _ z
    exact fr1 _ _ ho rfl
  have e2o1 : ¬ e2 ∈ o1 := fun z => by
    obtain ⟨o, ho⟩ := w15 _ z
    exact fr2 _ _ ho rfl
  have e2o2 : ¬ e2 ∈ o2 := fun z => by
    obtain ⟨o, ho⟩ := w2 _ z
    exact fr2 _ _ ho rfl
  have pe : Purse (upd (upd (upd (upd H5 lc (.lst [.ref c1, .ref c2])) e1 (.dT [])) e2 (.dT [])) lt (.lst [.ref e1, .ref e2])) p := hp5.same tt
  refine ⟨⟨[], ⟨pe, tt _ _ l5, ((ht.keep s1.tup).keep s2.tup).keep (fun b xs z => tt b _ z), nd, ko, ⟨?_, t4 _ _ (t3 _ _ upd_same), e1o1, fun _ h => (nomatch h), Nat.zero_le _⟩, ?_, ?_⟩, Nat.le_refl _⟩,
    ⟨[], ⟨pe, tt _ _ l5, ((ht.keep s1.tup).keep s2.tup).keep (fun b xs z => tt b _ z), nd, ko, ⟨?_, t4 _ _ upd_same, e2o2, fun _ h => (nomatch h), Nat.zero_le _⟩, ?_, ?_⟩, Nat.le_refl _⟩, t4 _ _ (t3 _ _ (t2 _ _ upd_same)), upd_same, ?_, ?_, ?_⟩
  · exact ok.stay (ps := [p]) i1 (s2.trans (Stay.same tt)) fun b hb z => p1 (by rw [← List.mem_singleton.mp z]; exact hb)
  · intro z
    rcases List.mem_cons.mp z with z | z
    · exact nlp z.symm
    · rcases List.mem_cons.mp z with z | z
      · exact fr1 _ _ ep5 z
      · exact p1 z
  · intro z
    rcases List.mem_cons.mp z with z | z
    · exact fr1 _ _ l5 z
    · exact l1 z
  · exact ok.stay (ps := []) i2 (Stay.same tt) fun b hb z => (nomatch z)
  · intro z
    rcases List.mem_cons.mp z with z | z
    · exact nlp z.symm
    · rcases List.mem_cons.mp z with z | z
      · exact fr2 _ _ ep5 z
      · exact p2 z
  · intro z
    rcases List.mem_cons.mp z with z | z
    · exact fr2 _ _ l5 z
    · exact l2 z
  · intro b hb z
    rcases List.mem_cons.mp hb with hb | hb
    · subst hb
      rcases List.mem_cons.mp z with z | z
      · exact n12 z
      · exact e1o2 z
    · rcases List.mem_cons.mp z with z | z
      · subst z
        exact e2o1 hb
      · obtain ⟨o, ho⟩ := w1 _ hb
        rw [f2 _ z] at ho
        cases ho
  · intro z
    rcases List.mem_append.mp z with z | z
    · rcases List.mem_cons.mp z with z | z
      · exact frc _ _ ep5 z.symm
      · rcases List.mem_cons.mp z with z | z
        · exact c_1 z
        · obtain ⟨o, ho⟩ := w15 _ z
          exact frc _ _ ho rfl
    · rcases List.mem_cons.mp z with z | z
      · exact c_2 z
      · obtain ⟨o, ho⟩ := w2 _ z
        exact frc _ _ ho rfl
  · intro z
    rcases List.mem_append.mp z with z | z
    · rcases List.mem_cons.mp z with z | z
      · exact frt _ _ ep5 z.symm
      · rcases List.mem_cons.mp z with z | z
        · exact n1t z.symm
        · obtain ⟨o, ho⟩ := w15 _ z
          exact frt _ _ ho rfl
    · rcases List.mem_cons.mp z with z | z
      · exact n2t z.symm
      · obtain ⟨o, ho⟩ := w2 _ z
        exact frt _ _ ho rfl
end My
set_option Elab.async false
set_option linter.all false
set_option maxRecDepth 100000
set_option maxHeartbeats 4000000
namespace My
open PySem L2
/-! ### momentloom.wheel -/
structure WhT (K : PySem.W.Frag) (mg : Str → Option Value) (CW : Addr) : Prop where
  cl : Cls K CW
  nT : NoAttr K CW "things"
  nR : NoAttr K CW "rows"
  nS : NoAttr K CW "span"
  nE : NoAttr K CW "earliest"
  mgW : mg "Wheel" = some (.ref CW)
  rows : ∃ t, mg "ROWS" = some (.int 64 t)
def wF (d r : Addr) (sp e : Int) : List (Str × V) := [("things", .ref d), ("rows", .ref r), ("span", .int sp), ("earliest", .int e)]
theorem s_tr : ("things" : Str) ≠ "rows" := by decide +kernel
theorem s_ts : ("things" : Str) ≠ "span" := by decide +kernel
theorem s_te : ("things" : Str) ≠ "earliest" := by decide +kernel
theorem s_rs : ("rows" : Str) ≠ "span" := by decide +kernel
theorem s_re : ("rows" : Str) ≠ "earliest" := by decide +kernel
theorem s_se : ("span" : Str) ≠ "earliest" := by decide +kernel
theorem wF_eq (d r : Addr) (sp e : Int) : wF d r sp e = putF "earliest" (.int e) (putF "span" (.int sp) (putF "rows" (.ref r) (putF "things" (.ref d) []))) := by
  simp only [wF, putF, if_neg s_tr, if_neg s_ts, if_neg s_te, if_neg s_rs, if_neg s_re, if_neg s_se]
theorem wF_put (d r : Addr) (sp e e' : Int) : putF "earliest" (.int e') (wF d r sp e) = wF d r sp e' := by
  simp only [wF, putF, if_neg s_te, if_neg s_re, if_neg s_se, if_true]
theorem wF_new (d r r0 : Addr) (sp : Int) : putF "earliest" (.int 0) (putF "span" (.int sp) (putF "rows" (.ref r) (cF d r0))) = wF d r sp 0 := by
  simp only [wF, cF, putF, if_neg s_tr, if_neg s_ts, if_neg s_te, if_neg s_rs, if_neg s_re, if_neg s_se, if_true]
theorem wF_t (d r : Addr) (sp e : Int) : (wF d r sp e).lookup ("things" : Str) = some (.ref d) := by
  rw [wF_eq, lookup_putF, if_neg s_te, lookup_putF, if_neg s_ts, lookup_putF, if_neg s_tr, lookup_putF, if_pos rfl]
theorem wF_r (d r : Addr) (sp e : Int) : (wF d r sp e).lookup ("rows" : Str) = some (.ref r) := by
  rw [wF_eq, lookup_putF, if_neg s_re, lookup_putF, if_neg s_rs, lookup_putF, if_pos rfl]
theorem wF_s (d r : Addr) (sp e : Int) : (wF d r sp e).lookup ("span" : Str) = some (.int sp) := by
  rw [wF_eq, lookup_putF, if_neg s_se, lookup_putF, if_pos rfl]
theorem wF_e (d r : Addr) (sp e : Int) : (wF d r sp e).lookup ("earliest" : Str) = some (.int e) := by
  rw [wF_eq, lookup_putF, if_pos rfl]
theorem wF_no (d r : Addr) (sp e : Int) {m : Str} (h1 : m ≠ "things") (h2 : m ≠ "rows") (h3 : m ≠ "span") (h4 : m ≠ "earliest") : (wF d r sp e).lookup m = none := by
  rw [wF_eq, lookup_putF, if_neg h4, lookup_putF, if_neg h3, lookup_putF, if_neg h2, lookup_putF, if_neg h1]
  rfl
theorem wF_few (d r : Addr) (sp e : Int) : (wF d r sp e).length < 1000 := by show 4 < 1000; decide
/-- the stretch of a key, and its row -/
def stretch (sp : Int) (n : List Int) : Int := n.headD 0 / sp
def rowIx (sp : Int) (n : List Int) : Nat := (stretch sp n % 64).toNat
theorem rowIx_lt (sp : Int) (n : List Int) : rowIx sp n < 64 := by
  unfold rowIx
  have := Int.emod_lt_of_pos (stretch sp n) (show (0 : Int) < 64 by decide)
  have := Int.emod_nonneg (stretch sp n) (show (64 : Int) ≠ 0 by decide)
  omega
theorem rowIx_int (sp : Int) (n : List Int) : ((rowIx sp n : Nat) : Int) = stretch sp n % 64 := by
  unfold rowIx
  have := Int.emod_nonneg (stretch sp n) (show (64 : Int) ≠ 0 by decide)
  omega
theorem stretch_lt {sp : Int} {n m : List Int} (h : 1 ≤ sp) (kn : ∃ m, KeyOk m n) (km : ∃ k, KeyOk k m) (l : stretch sp n < stretch sp m) : HT.lexLt n m = true := by
  obtain ⟨_, a, b, c, e, rfl, _⟩ := kn
  obtain ⟨_, a', b', c', e', rfl, _⟩ := km
  have l : a / sp < a' / sp := l
  have z : a < a' := by
    apply Int.lt_of_not_ge
    intro g
    have := Int.ediv_le_ediv (show 0 < sp by omega) g
    omega
  rw [HT.lexLt_cons, if_neg (by omega)]
  exact decide_eq_true z
theorem stretch_le {sp : Int} {n m : List Int} (h : 1 ≤ sp) (kn : ∃ m, KeyOk m n) (km : ∃ k, KeyOk k m) (l : HT.lexLt n m = false) : stretch sp m ≤ stretch sp n := by
  apply Int.le_of_not_gt
  intro g
  rw [stretch_lt h kn km g] at l
  cases l
theorem stretch_bd {sp : Int} {n : List Int} {k : Int} (h : 1 ≤ sp) (kn : KeyOk k n) : -1500 ≤ stretch sp n ∧ stretch sp n ≤ 1000000000000 := by
  obtain ⟨a, b, c, e, rfl, h1, h2, _⟩ := kn
  show -1500 ≤ a / sp ∧ a / sp ≤ 1000000000000
  constructor
  · apply Int.le_ediv_of_mul_le (by omega)
    have : (-1500) * sp ≤ -1500 := by
      have := Int.mul_le_mul_of_nonpos_left (a := (-1500 : Int)) (b := sp) (c := 1) (by decide) (by omega)
      omega
    omega
  · apply Int.ediv_le_of_le_mul (by omega)
    have : (1000000000000 : Int) * 1 ≤ 1000000000000 * sp := Int.mul_le_mul_of_nonneg_left (by omega) (by decide)
    omega
structure WhAt (CW : Addr) (H : Hp) (c dx d r : Addr) (qs : List Addr) (As : Nat → List Addr) (R : Nat → List (List Int)) (sp e : Int) (kvs : List (List Key × V)) : Prop where
  hc : H c = some (.ins CW dx (wF d r sp e))
  hd : H d = some (.dT kvs)
  hr : H r = some (.lst (qs.map V.ref))
  hq : ∀ (i : Nat) (q : Addr), qs[i]? = some q → H q = some (.lst ((As i).map V.ref))
  ht : ∀ i, i < 64 → Tups H (As i) (R i)
  hf : ∀ i, i < 64 → Fall (R i)
  l64 : qs.length = 64
  ndq : qs.Nodup
  rq : ¬ r ∈ qs
  mem : ∀ i, i < 64 → ∀ n ∈ R i, KeyOk 200 n ∧ rowIx sp n = i
  key : ∀ k : List Key, k ∈ kvs.map (·.1) ↔ ∃ i, i < 64 ∧ ∃ n ∈ R i, k = kI n
  nd : (kvs.map (·.1)).Nodup
  early : ∀ i, i < 64 → ∀ n ∈ R i, e ≤ stretch sp n
  sp1 : 1 ≤ sp ∧ sp ≤ 1000
  e0 : -1500 ≤ e ∧ e ≤ 1000000000000
def whK (CW : Addr) : CK := fun H c own kvs => ∃ dx d r qs As R sp e, own = c :: d :: r :: qs ∧ WhAt CW H c dx d r qs As R sp e kvs
section
variable {CW c dx d r : Addr} {H : Hp} {qs : List Addr} {As : Nat → List Addr} {R : Nat → List (List Int)} {sp e : Int} {kvs : List (List Key × V)}
theorem WhAt.memK (h : WhAt CW H c dx d r qs As R sp e kvs) {n : List Int} : kI n ∈ kvs.map (·.1) ↔ n ∈ R (rowIx sp n) := by
  rw [h.key]
  constructor
  · rintro ⟨i, hi, m, hm, z⟩
    have z := map_inl_inj z
    subst z
    rw [(h.mem i hi n hm).2]
    exact hm
  · intro hn
    exact ⟨_, rowIx_lt sp n, n, hn, rfl⟩
theorem WhAt.ik (h : WhAt CW H c dx d r qs As R sp e kvs) : IntKeys kvs := fun k hk => by
  obtain ⟨_, _, n, _, z⟩ := (h.key k).mp hk
  exact ⟨n, z⟩
theorem nodup_le {α : Type} [DecidableEq α] : ∀ {l m : List α}, l.Nodup → (∀ x ∈ l, x ∈ m) → l.length ≤ m.length
  | [], _, _, _ => Nat.zero_le _
  | x :: r, m, nd, h => by
    obtain ⟨h1, h2⟩ := List.nodup_cons.mp nd
    have hx := h x List.mem_cons_self
    have ih := nodup_le (l := r) (m := m.erase x) h2 fun y hy => (List.mem_erase_of_ne (fun (z : y = x) => h1 (by rw [← z]; exact hy))).mpr (h y (List.mem_cons_of_mem _ hy))
    have le := List.length_erase_of_mem hx
    have := List.length_pos_of_mem hx
    rw [List.length_cons]
    omega
theorem Fall.nodup {ns : List (List Int)} (h : Fall ns) : ns.Nodup := List.Pairwise.imp (fun {a b} z e => by rw [e, HT.lx_irr] at z; cases z) h
theorem WhAt.short (h : WhAt CW H c dx d r qs As R sp e kvs) {i : Nat} (hi : i < 64) : (R i).length ≤ kvs.length := by
  have z := nodup_le (l := (R i).map kI) (m := kvs.map (·.1)) ?_ ?_
  · rw [List.length_map, List.length_map] at z
    exact z
  · exact List.pairwise_map.mpr (List.Pairwise.imp (fun z q => z (map_inl_inj q)) (h.hf i hi).nodup)
  · intro k hk
    obtain ⟨n, hn, rfl⟩ := List.mem_map.mp hk
    exact (h.key _).mpr ⟨i, hi, n, hn, rfl⟩
theorem WhAt.ncd (h : WhAt CW H c dx d r qs As R sp e kvs) : c ≠ d := ne_of h.hc h.hd (by intro z; cases z)
theorem WhAt.ncr (h : WhAt CW H c dx d r qs As R sp e kvs) : c ≠ r := ne_of h.hc h.hr (by intro z; cases z)
theorem WhAt.ndr (h : WhAt CW H c dx d r qs As R sp e kvs) : d ≠ r := ne_of h.hd h.hr (by intro z; cases z)
theorem WhAt.ncq (h : WhAt CW H c dx d r qs As R sp e kvs) {i : Nat} {q : Addr} (hq : qs[i]? = some q) : c ≠ q := ne_of h.hc (h.hq i q hq) (by intro z; cases z)
theorem WhAt.ndq' (h : WhAt CW H c dx d r qs As R sp e kvs) {i : Nat} {q : Addr} (hq : qs[i]? = some q) : d ≠ q := ne_of h.hd (h.hq i q hq) (by intro z; cases z)
theorem WhAt.nrq (h : WhAt CW H c dx d r qs As R sp e kvs) {i : Nat} {q : Addr} (hq : qs[i]? = some q) : r ≠ q := fun z => h.rq (z ▸ List.mem_of_getElem? hq)
theorem WhAt.stay {H' : Hp} {ps : List Addr} (h : WhAt CW H c dx d r qs As R sp e kvs) (s : Stay ps H H') (hn : ∀ b ∈ c :: d :: r :: qs, ¬ b ∈ ps) : WhAt CW H' c dx d r qs As R sp e kvs :=
  ⟨s.keep _ _ h.hc (hn c (by simp)), s.keep _ _ h.hd (hn d (by simp)), s.keep _ _ h.hr (hn r (by simp)), fun i q hq => s.keep _ _ (h.hq i q hq) (hn q (by have := List.mem_of_getElem? hq; simp [this])), fun i hi => (h.ht i hi).keep s.tup, h.hf, h.l64, h.ndq, h.rq, h.mem, h.key, h.nd, h.early, h.sp1, h.e0⟩
/-- the earliest stretch is set anew -/
theorem WhAt.set {e' : Int} (h : WhAt CW H c dx d r qs As R sp e kvs) (he : ∀ i, i < 64 → ∀ n ∈ R i, e' ≤ stretch sp n) (e0 : -1500 ≤ e' ∧ e' ≤ 1000000000000) : WhAt CW (upd H c (.ins CW dx (wF d r sp e'))) c dx d r qs As R sp e' kvs := by
  have s : Stay [c] H (upd H c (.ins CW dx (wF d r sp e'))) := Stay.upd (by simp) h.hc (fun xs z => by cases z)
  exact ⟨upd_same, (upd_ne (Ne.symm h.ncd)).trans h.hd, (upd_ne (Ne.symm h.ncr)).trans h.hr, fun i q hq => (upd_ne (Ne.symm (h.ncq hq))).trans (h.hq i q hq), fun i hi => (h.ht i hi).keep s.tup, h.hf, h.l64, h.ndq, h.rq, h.mem, h.key, h.nd, he, h.sp1, e0⟩
end
theorem whK_ok (CW : Addr) : CkOk CW (whK CW) where
  stay := fun ⟨dx, d, r, qs, As, R, sp, e, eo, h⟩ s hn => ⟨dx, d, r, qs, As, R, sp, e, eo, h.stay s (by subst eo; exact hn)⟩
  inst := fun ⟨dx, d, r, qs, As, R, sp, e, eo, h⟩ => ⟨dx, _, h.hc, fun m hm => by
    simp only [List.mem_cons, List.not_mem_nil, or_false] at hm
    rcases hm with rfl | rfl | rfl | rfl | rfl <;> exact wF_no d r sp e (by decide +kernel) (by decide +kernel) (by decide +kernel) (by decide +kernel)⟩
  ik := fun ⟨dx, d, r, qs, As, R, sp, e, eo, h⟩ => h.ik
  nd := fun ⟨dx, d, r, qs, As, R, sp, e, eo, h⟩ => h.nd
  own := fun ⟨dx, d, r, qs, As, R, sp, e, eo, h⟩ b hb => by
    subst eo
    rcases List.mem_cons.mp hb with rfl | hb
    · exact ⟨_, h.hc⟩
    · rcases List.mem_cons.mp hb with rfl | hb
      · exact ⟨_, h.hd⟩
      · rcases List.mem_cons.mp hb with rfl | hb
        · exact ⟨_, h.hr⟩
        · obtain ⟨i, hi⟩ := List.getElem?_of_mem hb
          exact ⟨_, h.hq i b hi⟩
end My
set_option Elab.async false
set_option linter.all false
set_option maxRecDepth 100000
set_option maxHeartbeats 4000000
namespace My
open PySem L2
theorem ix_listK {X : Cx} (K : PySem.W.Frag) (hK : X.K = K) : IxR X (rIxL K) := by
  subst hK
  exact ix_list
def tTru (K : PySem.W.Frag) (ta : TE) : L2.TT := fun σ H Q => ta σ H fun x H' => ∃ k, TruV K x H' k ∧ Q k H'
theorem pt_truthK {X : Cx} {a : Expr} {ta : TE} (K : PySem.W.Frag) (hK : X.K = K) (ha : PE X a ta) (he : ∀ whole, isTrue a X.env whole = (do let v ← whole; standAt a.pos; holding [v] (truthy v))) :
    PT X a (tTru K ta) := by
  subst hK
  exact pt_truth ha he
theorem asg_i {te : TE} {g : TG} {D : Ends} {σ : St} {H : Hp} (h : te σ H fun x H1 => g x σ H1 D.nx) : tAsg te g D σ H := h
theorem cons_i {t : TE} {r : TA} {σ : St} {H : Hp} {Q : List V → Hp → Prop} (h : t σ H fun x H1 => r σ H1 fun xs H2 => Q (x :: xs) H2) : tCons t r σ H Q := h
theorem cb_i {r : List V → Hp → VK → Prop} {t : TA} {σ : St} {H : Hp} {Q : VK} (h : t σ H fun vs H1 => r vs H1 Q) : tCB r t σ H Q := h
theorem fld_i {K : PySem.W.Frag} {ta tv : TE} {f : Str} {D : Ends} {σ : St} {H : Hp} (h : tv σ H fun v H1 => ta σ H1 fun x H2 => ∃ a C dx fs, x = .ref a ∧ H2 a = some (.ins C dx fs) ∧ Cls K C ∧ NoAttr K C f ∧ fs.length < 1000 ∧ D.nx σ (upd H2 a (.ins C dx (putF f v fs)))) : sFld K ta tv f D σ H := h
/-- a comprehension over the list that a field holds -/
theorem comp_fld {K : PySem.W.Frag} {a c C dx : Addr} {fs : List (Str × V)} {f : Str} {xs : List V} {n i : Nat} {g : TG} {tc : L2.TT} {te : TE} {σ : St} {H : Hp} {Q : VK} (hv : σ[i]? = some (some (.ref c))) (hc : H c = some (.ins C dx fs)) (cl : Cls K C) (na : NoAttr K C f) (lk : fs.lookup f = some (.ref a))
    (hx : SqL K H a xs) (Pv : Nat → List V → Hp → Prop) (h0 : Pv 0 [] H) (hl : ∀ i ys H, i ≤ xs.length → Pv i ys H → SqL K H a xs ∧ ys.length < sizeLine)
    (hs : ∀ i x ys H, xs[i]? = some x → Pv i ys H → g x (List.replicate n none ++ σ) H fun σ2 H2 => σ2.drop n = σ ∧ tc σ2 H2 fun b H3 => if b = true then te σ2 H3 fun y H4 => Pv (i + 1) (ys ++ [y]) H4 else Pv (i + 1) ys H3)
    (hd : ∀ ys H, Pv xs.length ys H → ∀ p, H p = none → Q (.ref p) (upd H p (.lst ys))) : tComp n (iList K (tFld K (tVar i) f)) g tc te σ H Q :=
  ⟨.ref c, hv, c, C, dx, fs, .ref a, rfl, hc, cl, na, lk, a, rfl, ⟨xs, hx⟩, comp_list Pv h0 hl hs hd⟩
/-- a comprehension over range(m), m a number that a name of the module holds -/
theorem comp_rngI {n : Nat} {M : Int} (m : Nat) (hm : M.toNat = m) {g : TG} {tc : L2.TT} {te : TE} {σ : St} {H : Hp} {Q : VK} (h1 : -(2 ^ 62) ≤ M) (h2 : M < 2 ^ 62) (Pv : Nat → List V → Hp → Prop) (h0 : Pv 0 [] H) (hl : ∀ i ys H, i ≤ m → Pv i ys H → ys.length < sizeLine)
    (hs : ∀ i ys H, i < m → Pv i ys H → g (.int (0 + i)) (List.replicate n none ++ σ) H fun σ2 H2 => σ2.drop n = σ ∧ tc σ2 H2 fun b H3 => if b = true then te σ2 H3 fun y H4 => Pv (i + 1) (ys ++ [y]) H4 else Pv (i + 1) ys H3)
    (hd : ∀ ys H, Pv m ys H → ∀ p, H p = none → Q (.ref p) (upd H p (.lst ys))) : tComp n (iRng1 (tCons (tC (.int M)) tNil)) g tc te σ H Q := by
  subst hm
  exact ⟨M, rfl, h1, h2, comp_rng Pv h0 hl hs hd⟩
section
variable {P : Program} {w : World} {K : PySem.W.Frag} {mg : Str → Option Value} {base : Heap} {f fP fPl fL fR fSt fO fLe fT CW CC fI : Addr} {fd fdP fdPl fdL fdR fdSt fdO fdLe fdT fdI : FuncData}
/-! stretch_of -/
def spStr (CW : Addr) : Sp := fun vs H Q _ => ∃ (c dx d r b : Addr) (sp e : Int) (n : List Int), vs = [.ref c, .ref b] ∧ H c = some (.ins CW dx (wF d r sp e)) ∧ 1 ≤ sp ∧ sp ≤ 1000 ∧ H b = some (.tup (n.map V.int)) ∧ (∃ m, KeyOk m n) ∧ Q (.int (stretch sp n)) H
theorem scSo : FnScope ["self", "key"] ["self", "key"] (defScope s_Wheel_stretch_of) := ⟨rfl, rfl, rfl, by decide +kernel, rfl, by decide +kernel, by decide +kernel⟩
theorem ok_str (F : Fun K "stretch_of" "Wheel.stretch_of" s_Wheel_stretch_of f fd) (T : WhT K mg CW) : FnOk P w K mg base CX0 1 f fd ["self", "key"] (spStr CW) := by
  refine F.ok scSo (fun vs H Q E h => ?_) (fun cdv A outer s H vs Q E hr h => ?_)
  · obtain ⟨c, dx, d, r, b, sp, e, n, rfl, _⟩ := h
    rfl
  obtain ⟨c, dx, d, r, b, sp, e, n, rfl, hc, s1, s2, hb, ⟨m, a, b', c', e', rfl, _⟩, k⟩ := h
  refine ⟨_, pss_one (ps_ret (pe_op op_fdivB (pe_ix ix_tup (pv 1) pe_int (fun _ _ => rfl)) (pe_fld (pv 0) rfl))), ?_⟩
  exact ⟨_, rfl, b, _, _, _, rfl, rfl, SqT.of hb, rfl, _, rfl, c, CW, dx, _, _, rfl, hc, T.cl, T.nS, wF_s d r sp e, _, _, rfl, rfl, ⟨by omega, by omega⟩, k⟩
/-! row_for -/
def spRowW (CW : Addr) : Sp := fun vs H Q _ => ∃ (c dx d r b q : Addr) (qs : List Addr) (sp e : Int) (n : List Int), vs = [.ref c, .ref b] ∧ H c = some (.ins CW dx (wF d r sp e)) ∧ 1 ≤ sp ∧ sp ≤ 1000 ∧ H b = some (.tup (n.map V.int)) ∧ (∃ m, KeyOk m n) ∧ H r = some (.lst (qs.map V.ref)) ∧ qs[rowIx sp n]? = some q ∧ Q (.ref q) H
theorem scRw : FnScope ["self", "key"] ["self", "key"] (defScope s_Wheel_row_for) := ⟨rfl, rfl, rfl, by decide +kernel, rfl, by decide +kernel, by decide +kernel⟩
theorem ok_rowW (F : Fun K "row_for" "Wheel.row_for" s_Wheel_row_for f fd) (T : WhT K mg CW) (FS : Fun K "stretch_of" "Wheel.stretch_of" s_Wheel_stretch_of fSt fdSt) (bS : Binds K fdSt ["self", "key"] []) (mS : Meth K CW "stretch_of" fSt) : FnOk P w K mg base CX0 2 f fd ["self", "key"] (spRowW CW) := by
  have GS : FnOk P w K mg base CX0 1 fSt fdSt ["self", "key"] (spStr CW) := ok_str FS T
  obtain ⟨tk, hrows⟩ := T.rows
  refine F.ok scRw (fun vs H Q E h => ?_) (fun cdv A outer s H vs Q E hr h => ?_)
  · obtain ⟨c, dx, d, r, b, q, qs, sp, e, n, rfl, _⟩ := h
    rfl
  obtain ⟨c, dx, d, r, b, q, qs, sp, e, n, rfl, hc, s1, s2, hb, ko, hr', hq, k⟩ := h
  refine ⟨_, pss_one (ps_ret (pe_ix ix_list (pe_fld (pv 0) rfl) (pe_op op_mod (pe_meth (pv 0) T.cl mS GS hr bS .nil pass0 (pa_cons (pv 1) pa_nil)) (pe_glob (v := .int 64) (by rfl) hrows ⟨_, rfl⟩)) (fun _ _ => rfl))), ?_⟩
  refine ⟨_, rfl, c, CW, dx, _, _, rfl, hc, T.cl, T.nR, wF_r d r sp e, _, rfl, c, dx, _, rfl, hc, wF_no d r sp e (by decide +kernel) (by decide +kernel) (by decide +kernel) (by decide +kernel), _, rfl, c, dx, d, r, b, sp, e, n, rfl, hc, s1, s2, hb, ko, ?_⟩
  refine ⟨_, _, rfl, rfl, (by show (0 : Int) < 64; decide), r, _, _, _, rfl, rfl, SqL.of hr', ?_, k⟩
  rw [← rowIx_int]
  exact atI_nat (by rw [List.getElem?_map, hq]; rfl)
/-! size -/
theorem ok_sizeW (F : Fun K "size" "Calendar.size" s_Calendar_size f fd) (T : WhT K mg CW) (B : Bl mg) : FnOk P w K mg base CX0 1 f fd ["self"] (gSize (whK CW)) := by
  refine F.ok scSz (fun vs H Q E h => ?_) (fun cdv A outer s H vs Q E hr h => ?_)
  · obtain ⟨c, own, kvs, rfl, _⟩ := h
    rfl
  obtain ⟨c, own, kvs, rfl, ⟨dx, d, r, qs, As, R, sp, e, eo, h⟩, k⟩ := h
  refine ⟨_, pss_one (ps_ret (pe_callB call_lenT (by rfl) B.len PySem.boot_len (pa_cons (pe_fld (pv 0) rfl) pa_nil))), ?_⟩
  exact ⟨_, rfl, c, CW, dx, _, _, rfl, h.hc, T.cl, T.nT, wF_t d r sp e, d, kvs, rfl, h.hd, k⟩
/-- a row is changed -/
abbrev setR {α : Type} (R : Nat → α) (i : Nat) (x : α) : Nat → α := fun j => if j = i then x else R j
theorem setR_at {α : Type} (R : Nat → α) (i : Nat) (x : α) : setR R i x i = x := if_pos rfl
theorem setR_ne {α : Type} (R : Nat → α) {i j : Nat} (x : α) (h : j ≠ i) : setR R i x j = R j := if_neg h
theorem WhAt.row {CW c dx d r q : Addr} {H : Hp} {qs as' : List Addr} {As : Nat → List Addr} {R : Nat → List (List Int)} {sp e : Int} {kvs kvs' : List (List Key × V)} {i : Nat} {ns' : List (List Int)} (h : WhAt CW H c dx d r qs As R sp e kvs) (hi : i < 64) (hq : qs[i]? = some q)
    (ht : Tups H as' ns') (hf : Fall ns') (hm : ∀ n ∈ ns', KeyOk 200 n ∧ rowIx sp n = i) (he : ∀ n ∈ ns', e ≤ stretch sp n) (nd : (kvs'.map (·.1)).Nodup) (hk : ∀ k : List Key, k ∈ kvs'.map (·.1) ↔ ∃ j, j < 64 ∧ ∃ n ∈ setR R i ns' j, k = kI n)
    (H1 H2 : Hp) (e1 : H1 = upd (upd H d (.dT kvs')) q (.lst (as'.map V.ref)) ∨ H1 = upd (upd H q (.lst (as'.map V.ref))) d (.dT kvs')) : WhAt CW H1 c dx d r qs (setR As i as') (setR R i ns') sp e kvs' := by
  have ncq := h.ncq hq
  have ndq := h.ndq' hq
  have nrq := h.nrq hq
  have at_ : ∀ b, b ≠ d → b ≠ q → H1 b = H b := fun b b1 b2 => by
    rcases e1 with e1 | e1 <;> rw [e1]
    · rw [upd_ne b2, upd_ne b1]
    · rw [upd_ne b1, upd_ne b2]
  have ad : H1 d = some (.dT kvs') := by
    rcases e1 with e1 | e1 <;> rw [e1]
    · rw [upd_ne ndq]
      exact upd_same
    · exact upd_same
  have aq : H1 q = some (.lst (as'.map V.ref)) := by
    rcases e1 with e1 | e1 <;> rw [e1]
    · exact upd_same
    · rw [upd_ne (Ne.symm ndq)]
      exact upd_same
  have tp : ∀ b xs, H b = some (.tup xs) → H1 b = some (.tup xs) := fun b xs hb => by
    rw [at_ b (ne_of hb h.hd (by intro z; cases z)) (ne_of hb (h.hq i q hq) (by intro z; cases z))]
    exact hb
  refine ⟨(at_ c h.ncd ncq).trans h.hc, ad, (at_ r (Ne.symm h.ndr) nrq).trans h.hr, fun j q' hq' => ?_, fun j hj => ?_, fun j hj => ?_, h.l64, h.ndq, h.rq, fun j hj n hn => ?_, hk, nd, fun j hj n hn => ?_, h.sp1, h.e0⟩
  · by_cases z : j = i
    · subst z
      rw [hq] at hq'
      cases hq'
      rw [setR_at]
      exact aq
    · rw [setR_ne _ _ z, at_ q' (Ne.symm (h.ndq' hq')) (fun y => z ?_)]
      · exact h.hq j q' hq'
      · subst y
        have lj := (List.getElem?_eq_some_iff.mp hq').1
        exact (List.getElem?_inj lj h.ndq).mp (hq'.trans hq.symm)
  · by_cases z : j = i
    · subst z
      rw [setR_at, setR_at]
      exact ht.keep tp
    · rw [setR_ne _ _ z, setR_ne _ _ z]
      exact (h.ht j hj).keep tp
  · by_cases z : j = i
    · subst z
      rw [setR_at]
      exact hf
    · rw [setR_ne _ _ z]
      exact h.hf j hj
  · by_cases z : j = i
    · subst z
      rw [setR_at] at hn
      exact hm n hn
    · rw [setR_ne _ _ z] at hn
      exact h.mem j hj n hn
  · by_cases z : j = i
    · subst z
      rw [setR_at] at hn
      exact he n hn
    · rw [setR_ne _ _ z] at hn
      exact h.early j hj n hn
/-! put -/
theorem scPw : FnScope ["self", "key", "thing"] ["self", "key", "thing"] (defScope s_Wheel_put) := ⟨rfl, rfl, rfl, by decide +kernel, rfl, by decide +kernel, by decide +kernel⟩
theorem ok_putW (F : Fun K "put" "Wheel.put" s_Wheel_put f fd) (T : WhT K mg CW) (B : Bl mg) (mn : mg "min" = none) (DP : Df K mg "put_in" s_put_in ["falling", "thing"] fP fdP) (DPl : Df K mg "place_in" s_place_in ["falling", "thing"] fPl fdPl)
    (FS : Fun K "stretch_of" "Wheel.stretch_of" s_Wheel_stretch_of fSt fdSt) (bS : Binds K fdSt ["self", "key"] []) (mS : Meth K CW "stretch_of" fSt) (FR : Fun K "row_for" "Wheel.row_for" s_Wheel_row_for fR fdR) (bR : Binds K fdR ["self", "key"] []) (mR : Meth K CW "row_for" fR) :
    FnOk P w K mg base CX0 4 f fd ["self", "key", "thing"] (gPut (whK CW)) := by
  have GP : FnOk P w K mg base CX0 2 fP fdP ["falling", "thing"] spPutIn := ok_putin DP DPl B
  have GR : FnOk P w K mg base CX0 2 fR fdR ["self", "key"] (spRowW CW) := ok_rowW FR T FS bS mS
  have GS : FnOk P w K mg base CX0 1 fSt fdSt ["self", "key"] (spStr CW) := ok_str FS T
  refine F.ok scPw (fun vs H Q E h => ?_) (fun cdv A outer s H vs Q E hr h => ?_)
  · obtain ⟨c, b, own, n, v, kvs, rfl, _⟩ := h
    rfl
  obtain ⟨c, b, own, n, v, kvs, rfl, ⟨dx, d, r, qs, As, R, sp, e, eo, h⟩, hb, ko, hv, hl, k⟩ := h
  have hu := hu_of hr
  have r1 : Room 1 _ := hr.mono (by decide)
  have r2 : Room 2 _ := hr.mono (by decide)
  refine ⟨_, pss_cons (ps_fld (pv 0) (pe_callB (call_min2 rfl) (by rfl) mn boot_min (pa_cons (pe_fld (pv 0) rfl) (pa_cons (pe_meth (pv 0) T.cl mS GS r1 bS .nil pass0 (pa_cons (pv 1) pa_nil)) pa_nil))) rfl)
    (pss_cons (ps_dput hu (pe_fld (pv 0) rfl) (pv 1) (pv 2) rfl)
    (pss_one (ps_expr (pe_call GP r2 (by rfl) DP.m DP.F.kp DP.b .nil pass0 (pa_cons (pe_meth (pv 0) T.cl mR GR r2 bR .nil pass0 (pa_cons (pv 1) pa_nil)) (pa_cons (pv 1) pa_nil)))))), ?_⟩
  have nom : ∀ e', (wF d r sp e').lookup ("stretch_of" : Str) = none := fun e' => wF_no d r sp e' (by decide +kernel) (by decide +kernel) (by decide +kernel) (by decide +kernel)
  have nom2 : ∀ e', (wF d r sp e').lookup ("row_for" : Str) = none := fun e' => wF_no d r sp e' (by decide +kernel) (by decide +kernel) (by decide +kernel) (by decide +kernel)
  refine ⟨_, rfl, c, CW, dx, _, _, rfl, h.hc, T.cl, T.nE, wF_e d r sp e, _, rfl, c, dx, _, rfl, h.hc, nom e, _, rfl, c, dx, d, r, b, sp, e, n, rfl, h.hc, h.sp1.1, h.sp1.2, hb, ⟨_, ko⟩, e, stretch sp n, rfl, ?_⟩
  refine ⟨_, rfl, c, CW, dx, _, rfl, h.hc, T.cl, T.nE, (wF_few d r sp e), ?_⟩
  rw [wF_put]
  obtain ⟨e', he'⟩ : ∃ e', e' = (if stretch sp n < e then stretch sp n else e) := ⟨_, rfl⟩
  rw [← he']
  have bd := stretch_bd h.sp1.1 ko
  have le1 : e' ≤ e ∧ e' ≤ stretch sp n ∧ -1500 ≤ e' ∧ e' ≤ 1000000000000 := by
    have := h.e0
    rw [he']
    split <;> omega
  have h1 := h.set (e' := e') (fun i hi m hm => Int.le_trans le1.1 (h.early i hi m hm)) ⟨le1.2.2.1, le1.2.2.2⟩
  have s1 : Stay [c] H (upd H c (.ins CW dx (wF d r sp e'))) := Stay.upd (by simp) h.hc (fun xs z => by cases z)
  generalize hH1 : upd H c (.ins CW dx (wF d r sp e')) = H1 at h1 s1
  have hb1 := s1.tup _ _ hb
  have eb : H1 b = some (.tup ((kI n).map kV)) := by rw [map_kV]; exact hb1
  refine ⟨_, rfl, _, rfl, c, CW, dx, _, _, rfl, h1.hc, T.cl, T.nT, wF_t d r sp e', _, rfl, d, _, rfl, DPut.t (k := kI n) h1.hd eb (Nat.lt_of_le_of_lt hl (by decide)), ?_⟩
  have hi := rowIx_lt sp n
  obtain ⟨q, hq⟩ : ∃ q, qs[rowIx sp n]? = some q := ⟨_, List.getElem?_eq_getElem (by rw [h.l64]; exact hi)⟩
  have s2 : Stay [d] H1 (upd H1 d (.dT (putK kvs (kI n) v))) := Stay.upd (by simp) h1.hd (fun xs z => by cases z)
  have g1 : upd H1 d (.dT (putK kvs (kI n) v)) c = _ := (upd_ne h1.ncd).trans h1.hc
  have g3 : upd H1 d (.dT (putK kvs (kI n) v)) r = _ := (upd_ne (Ne.symm h1.ndr)).trans h1.hr
  have g4 : upd H1 d (.dT (putK kvs (kI n) v)) q = _ := (upd_ne (Ne.symm (h1.ndq' hq))).trans (h1.hq _ q hq)
  have sh := h.short hi
  have la := (h1.ht _ hi).length
  refine ⟨_, rfl, c, dx, _, rfl, g1, nom2 e', _, rfl, c, dx, d, r, b, q, qs, sp, e', n, rfl, g1, h.sp1.1, h.sp1.2, s2.tup _ _ hb1, ⟨_, ko⟩, g3, hq, _, rfl, q, b, As (rowIx sp n), R (rowIx sp n), n, rfl, g4, (h1.ht _ hi).keep s2.tup, h1.hf _ hi, s2.tup _ _ hb1, by omega, fun i p => ?_⟩
  have nn : ¬ n ∈ R (rowIx sp n) := fun z => valV_not hv (h.memK.mpr z)
  have s3 : Stay [q] (upd H1 d (.dT (putK kvs (kI n) v))) (upd (upd H1 d (.dT (putK kvs (kI n) v))) q (.lst (((As (rowIx sp n)).take i ++ b :: (As (rowIx sp n)).drop i).map V.ref))) := Stay.upd (by simp) g4 (fun xs z => by cases z)
  refine k _ ⟨dx, d, r, qs, _, _, sp, e', eo, h1.row hi hq (ns' := (R (rowIx sp n)).take i ++ n :: (R (rowIx sp n)).drop i) (as' := (As (rowIx sp n)).take i ++ b :: (As (rowIx sp n)).drop i) (((h1.ht _ hi).take i).append (.cons hb1 ((h1.ht _ hi).drop i))) ((h1.hf _ hi).put p nn)
    (fun m hm => ?_) (fun m hm => ?_) (nd_putK v h.nd hv) (fun k => ?_) _ H (.inl rfl)⟩ ?_
  · rcases mem_put.mp hm with z | z
    · subst z
      exact ⟨ko, rfl⟩
    · exact h.mem _ hi m z
  · rcases mem_put.mp hm with z | z
    · subst z
      exact le1.2.1
    · exact h1.early _ hi m z
  · rw [putK_new v hv, List.map_append, List.mem_append, h.key]
    constructor
    · rintro (⟨j, hj, m, hm, z⟩ | z)
      · by_cases ej : j = rowIx sp n
        · subst ej
          exact ⟨_, hi, m, by rw [setR_at]; exact mem_put.mpr (.inr hm), z⟩
        · exact ⟨j, hj, m, by rw [setR_ne _ _ ej]; exact hm, z⟩
      · exact ⟨_, hi, n, by rw [setR_at]; exact mem_put.mpr (.inl rfl), List.mem_singleton.mp z⟩
    · rintro ⟨j, hj, m, hm, z⟩
      by_cases ej : j = rowIx sp n
      · subst ej
        rw [setR_at] at hm
        rcases mem_put.mp hm with y | y
        · subst y
          exact .inr (List.mem_singleton.mpr z)
        · exact .inl ⟨_, hi, m, y, z⟩
      · rw [setR_ne _ _ ej] at hm
        exact .inl ⟨j, hj, m, hm, z⟩
  · subst eo
    refine (s1.mono fun b hb => ?_).trans ((s2.mono fun b hb => ?_).trans (s3.mono fun b hb => ?_))
    · rw [List.mem_singleton.mp hb]; simp
    · rw [List.mem_singleton.mp hb]; simp
    · rw [List.mem_singleton.mp hb]
      have := List.mem_of_getElem? hq
      simp [this]
end
end My
set_option Elab.async false
set_option linter.all false
set_option maxRecDepth 100000
set_option maxHeartbeats 4000000
namespace My
open PySem L2
section
variable {P : Program} {w : World} {K : PySem.W.Frag} {mg : Str → Option Value} {base : Heap} {f fP fPl fL fR fSt fO fLe fT CW CC fI : Addr} {fd fdP fdPl fdL fdR fdSt fdO fdLe fdT fdI : FuncData}
/-! take_out -/
theorem ok_takeW (F : Fun K "take_out" "Calendar.take_out" s_Calendar_take_out f fd) (T : WhT K mg CW) (B : Bl mg) (DPl : Df K mg "place_in" s_place_in ["falling", "thing"] fPl fdPl)
    (FS : Fun K "stretch_of" "Wheel.stretch_of" s_Wheel_stretch_of fSt fdSt) (bS : Binds K fdSt ["self", "key"] []) (mS : Meth K CW "stretch_of" fSt) (FR : Fun K "row_for" "Wheel.row_for" s_Wheel_row_for fR fdR) (bR : Binds K fdR ["self", "key"] []) (mR : Meth K CW "row_for" fR) :
    FnOk P w K mg base CX0 4 f fd ["self", "key"] (gTake (whK CW)) := by
  have GP : FnOk P w K mg base CX0 1 fPl fdPl ["falling", "thing"] spPlace := ok_place DPl B
  have GR : FnOk P w K mg base CX0 2 fR fdR ["self", "key"] (spRowW CW) := ok_rowW FR T FS bS mS
  refine F.ok scTo (fun vs H Q E h => ?_) (fun cdv A outer s H vs Q E hr h => ?_)
  · obtain ⟨c, b, own, n, kvs, rfl, _⟩ := h
    rfl
  obtain ⟨c, b, own, n, kvs, rfl, ⟨dx, d, r, qs, As, R, sp, e, eo, h⟩, hb, ko, hl, k1, k2⟩ := h
  have hu := hu_of hr
  have r1 : Room 1 _ := hr.mono (by decide)
  have r2 : Room 2 _ := hr.mono (by decide)
  refine ⟨_, pss_cons (ps_if (pt_cmp (pc_dnotin hu (pv 1) (pe_fld (pv 0) rfl))) (pss_one (ps_ret pe_non)) pss_nil)
    (pss_cons (ps_set (i := 2) scTo.nd rfl (Or.inl rfl) (pe_meth (pv 0) T.cl mR GR r2 bR .nil pass0 (pa_cons (pv 1) pa_nil)))
    (pss_cons (ps_expr (pe_bm PySem.F.plainAttrs_list PySem.F.slot_list_pop PySem.F.type_list_pop mt_popAt (pv 2) (pa_cons (pe_call GP r1 (by rfl) DPl.m DPl.F.kp DPl.b .nil pass0 (pa_cons (pv 2) (pa_cons (pv 1) pa_nil))) pa_nil)))
    (pss_one (ps_ret (pe_dpopT hu (pe_fld (pv 0) rfl) (pv 1) ⟨rfl, rfl, rfl, rfl⟩))))), ?_⟩
  have eb : H b = some (.tup ((kI n).map kV)) := by rw [map_kV]; exact hb
  refine ⟨_, rfl, _, rfl, c, CW, dx, _, _, rfl, h.hc, T.cl, T.nT, wF_t d r sp e, d, _, rfl, DGet.t (k := kI n) h.hd eb, _, rfl, ?_⟩
  cases ev : valV kvs (kI n) with
  | none => exact iteT (k1 ev)
  | some v =>
    refine iteF ?_
    have hi := rowIx_lt sp n
    obtain ⟨q, hq⟩ : ∃ q, qs[rowIx sp n]? = some q := ⟨_, List.getElem?_eq_getElem (by rw [h.l64]; exact hi)⟩
    have h4 := h.hq _ q hq
    have h5 := h.ht _ hi
    have h6 := h.hf _ hi
    refine ⟨_, rfl, c, dx, _, rfl, h.hc, wF_no d r sp e (by decide +kernel) (by decide +kernel) (by decide +kernel) (by decide +kernel), _, rfl, c, dx, d, r, b, q, qs, sp, e, n, rfl, h.hc, h.sp1.1, h.sp1.2, hb, ⟨_, ko⟩, h.hr, hq, ?_⟩
    have la := h5.length
    have sh := h.short hi
    refine ⟨_, rfl, .inl ⟨rfl, _, SqL.of h4⟩, _, rfl, _, rfl, q, b, As (rowIx sp n), R (rowIx sp n), n, rfl, h4, h5, h6, hb, by omega, fun i p => ?_⟩
    have hn : (R (rowIx sp n))[i]? = some n := h6.found p (h.memK.mp (valV_in ev))
    have li : i < (As (rowIx sp n)).length := by
      have := (List.getElem?_eq_some_iff.mp hn).1
      omega
    have ei : seqIndex? (i : Int) ((As (rowIx sp n)).map V.ref).length = some i := by
      rw [List.length_map, seqIndex_of (by omega) (by omega), Int.toNat_natCast]
    have eg : ((As (rowIx sp n)).map V.ref)[i]? = some (.ref (As (rowIx sp n))[i]) := by rw [List.getElem?_map, List.getElem?_eq_getElem li]; rfl
    refine ⟨q, _, _, i, _, rfl, rfl, h4, by omega, by omega, ei, eg, ?_⟩
    rw [erase_map]
    have s1 : Stay [q] H (upd H q (.lst (((As (rowIx sp n)).eraseIdx i).map V.ref))) := Stay.upd (by simp) h4 (fun xs z => by cases z)
    have g1 : upd H q (.lst (((As (rowIx sp n)).eraseIdx i).map V.ref)) c = _ := (upd_ne (h.ncq hq)).trans h.hc
    have g2 : upd H q (.lst (((As (rowIx sp n)).eraseIdx i).map V.ref)) d = _ := (upd_ne (h.ndq' hq)).trans h.hd
    refine ⟨_, rfl, c, CW, dx, _, _, rfl, g1, T.cl, T.nT, wF_t d r sp e, d, rfl, .inr ⟨_, .inl g2⟩, _, rfl, kvs, kI n, b, v, g2, rfl, s1.tup b _ eb, ev, ?_⟩
    have s2 : Stay [d] (upd H q (.lst (((As (rowIx sp n)).eraseIdx i).map V.ref))) (upd (upd H q (.lst (((As (rowIx sp n)).eraseIdx i).map V.ref))) d (.dT (dropK kvs (kI n)))) := Stay.upd (by simp) g2 (fun xs z => by cases z)
    refine k2 v _ ev ⟨dx, d, r, qs, _, _, sp, e, eo, h.row hi hq (ns' := (R (rowIx sp n)).eraseIdx i) (as' := (As (rowIx sp n)).eraseIdx i) (h5.erase i) (h6.erase i) (fun m hm => h.mem _ hi m ((h6.mem_erase hn).mp hm).1) (fun m hm => h.early _ hi m ((h6.mem_erase hn).mp hm).1) (nd_dropK h.nd) (fun k => ?_) _ H (.inr rfl)⟩ ?_
    · rw [drop_keys, h.key]
      constructor
      · rintro ⟨⟨j, hj, m, hm, rfl⟩, ne⟩
        by_cases ej : j = rowIx sp n
        · subst ej
          exact ⟨_, hi, m, by rw [setR_at]; exact (h6.mem_erase hn).mpr ⟨hm, fun z => ne (by rw [z])⟩, rfl⟩
        · exact ⟨j, hj, m, by rw [setR_ne _ _ ej]; exact hm, rfl⟩
      · rintro ⟨j, hj, m, hm, rfl⟩
        by_cases ej : j = rowIx sp n
        · subst ej
          rw [setR_at] at hm
          obtain ⟨y1, y2⟩ := (h6.mem_erase hn).mp hm
          exact ⟨⟨_, hi, m, y1, rfl⟩, fun z => y2 (map_inl_inj z)⟩
        · rw [setR_ne _ _ ej] at hm
          refine ⟨⟨j, hj, m, hm, rfl⟩, fun z => ej ?_⟩
          have z := map_inl_inj z
          subst z
          exact ((h.mem j hj m hm).2).symm
    · subst eo
      refine (s1.mono fun b hb => ?_).trans (s2.mono fun b hb => ?_)
      · rw [List.mem_singleton.mp hb]
        have := List.mem_of_getElem? hq
        simp [this]
      · rw [List.mem_singleton.mp hb]
        simp
/-! least_in_one_turn -/
def spTurn (CW : Addr) : Sp := fun vs H Q _ => ∃ (c : Addr) (own : List Addr) (kvs : List (List Key × V)), vs = [.ref c] ∧ whK CW H c own kvs ∧ Q .non H ∧ ∀ (a : Addr) (n : List Int), H a = some (.tup (n.map V.int)) → Least (kvs.map (·.1)) n → Q (.ref a) H
theorem scTu : FnScope ["self", "stretch", "key"] ["self"] (defScope s_Wheel_least_in_one_turn) := ⟨rfl, rfl, rfl, by decide +kernel, rfl, by decide +kernel, by decide +kernel⟩
theorem ok_turn (F : Fun K "least_in_one_turn" "Wheel.least_in_one_turn" s_Wheel_least_in_one_turn f fd) (T : WhT K mg CW) (B : Bl mg) (DL : Df K mg "last_of" s_last_of ["falling"] fL fdL)
    (FS : Fun K "stretch_of" "Wheel.stretch_of" s_Wheel_stretch_of fSt fdSt) (bS : Binds K fdSt ["self", "key"] []) (mS : Meth K CW "stretch_of" fSt) : FnOk P w K mg base CX0 2 f fd ["self"] (spTurn CW) := by
  have GL : FnOk P w K mg base CX0 1 fL fdL ["falling"] spLast := ok_last DL
  have GS : FnOk P w K mg base CX0 1 fSt fdSt ["self", "key"] (spStr CW) := ok_str FS T
  obtain ⟨tk, hrows⟩ := T.rows
  refine F.ok scTu (fun vs H Q E h => ?_) (fun cdv A outer s H vs Q E hr h => ?_)
  · obtain ⟨c, own, kvs, rfl, _⟩ := h
    rfl
  obtain ⟨c, own, kvs, rfl, ⟨dx, d, r, qs, As, R, sp, e, eo, h⟩, k1, k2⟩ := h
  refine ⟨_, pss_cons (ps_for PassesOwn.never rfl (pi_range2 rfl B.range (pa_cons (pe_fld (pv 0) rfl) (pa_cons (pe_op op_add (pe_fld (pv 0) rfl) (pe_glob (v := .int 64) (by rfl) hrows ⟨_, rfl⟩)) pa_nil))) (pg_name (i := 1) scTu.nd rfl (Or.inl rfl))
      (pss_cons (ps_set (i := 2) scTu.nd rfl (Or.inl rfl) (pe_call GL hr (by rfl) DL.m DL.F.kp DL.b .nil pass0 (pa_cons (pe_ix ix_list (pe_fld (pv 0) (by rfl)) (pe_op op_mod (pv 1) (pe_glob (v := .int 64) (by rfl) hrows ⟨_, rfl⟩)) (fun _ _ => rfl)) pa_nil)))
      (pss_one (ps_if (pw_and (pt_cmp (pc_notN (pv 2))) (pw_and1 (pt_cmpR op_eq (pe_meth (pv 0) T.cl mS GS hr bS .nil pass0 (pa_cons (pv 2) pa_nil)) (pv 1) (nomark _)))).pt (pss_one (ps_ret (pv 2))) pss_nil))))
    (pss_one (ps_ret pe_non)), ?_⟩
  have e64 : (e + 64 - e).toNat = 64 := by omega
  have eb := h.e0
  refine ⟨_, rfl, c, CW, dx, _, _, rfl, h.hc, T.cl, T.nE, wF_e d r sp e, _, rfl, c, CW, dx, _, _, rfl, h.hc, T.cl, T.nE, wF_e d r sp e, _, _, rfl, rfl, e, e + 64, rfl, ⟨by omega, by omega, by omega, by omega⟩, ?_⟩
  refine for_range (lo := e) (n := (e + 64 - e).toNat) (fun j σ G => ∃ v1 v2 : Option V, σ = [some (.ref c), v1, v2] ∧ G = H ∧ ∀ i, i < 64 → ∀ m ∈ R i, e + (j : Int) ≤ stretch sp m) ⟨none, none, rfl, rfl, fun i hi m hm => by have := h.early i hi m hm; omega⟩ ?_ ?_
  · rintro j σ G hj ⟨v1, v2, rfl, rfl, pass⟩
    -- the row of this stretch
    have m0 := Int.emod_nonneg (e + (j : Int)) (show (64 : Int) ≠ 0 by decide)
    have m1 := Int.emod_lt_of_pos (e + (j : Int)) (show (0 : Int) < 64 by decide)
    obtain ⟨i, ei⟩ : ∃ i : Nat, (e + (j : Int)) % 64 = (i : Int) := ⟨((e + (j : Int)) % 64).toNat, by omega⟩
    have hi : i < 64 := by omega
    obtain ⟨q, hq⟩ : ∃ q, qs[i]? = some q := ⟨_, List.getElem?_eq_getElem (by rw [h.l64]; exact hi)⟩
    have aq : atI (qs.map V.ref) ((e + (j : Int)) % 64) = some (.ref q) := by
      rw [ei]
      exact atI_nat (by rw [List.getElem?_map, hq]; rfl)
    -- those in this stretch lie in this row
    have inrow : ∀ i', i' < 64 → ∀ m ∈ R i', stretch sp m = e + (j : Int) → i' = i := fun i' hi' m hm z => by
      have y := (h.mem i' hi' m hm).2
      have x := rowIx_int sp m
      rw [z, ei] at x
      omega
    refine ⟨_, rfl, c, CW, dx, _, _, rfl, h.hc, T.cl, T.nR, wF_r d r sp e, _, rfl, _, _, rfl, rfl, (by show (0 : Int) < 64; decide), r, _, _, _, rfl, rfl, SqL.of h.hr, aq, q, _, rfl, h.hq i q hq, fun em => ?_, fun v ev => ?_⟩
    · -- an empty row
      refine ⟨_, rfl, _, rfl, iteF (iteF ?_)⟩
      refine ⟨_, _, rfl, rfl, fun i' hi' m hm => ?_⟩
      have := pass i' hi' m hm
      by_cases z : stretch sp m = e + (j : Int)
      · have y := inrow i' hi' m hm z
        subst y
        have la := (h.ht i' hi').length
        rw [List.map_eq_nil_iff.mp em] at la
        have z0 := List.length_eq_zero_iff.mp la.symm
        rw [z0] at hm
        exact nomatch hm
      · omega
    · rw [List.length_map, List.getElem?_map] at ev
      obtain ⟨a, ea, rfl⟩ := Option.map_eq_some_iff.mp ev
      obtain ⟨n, en, hn⟩ := (h.ht i hi).get ea
      rw [(h.ht i hi).length] at en
      have mn := List.mem_of_getElem? en
      obtain ⟨kn, ri⟩ := h.mem i hi n mn
      refine ⟨_, rfl, _, rfl, iteE (by rw [decide_eq_false (fun z => by cases z)]; rfl) (iteT ?_)⟩
      refine ⟨_, rfl, c, dx, _, rfl, h.hc, wF_no d r sp e (by decide +kernel) (by decide +kernel) (by decide +kernel) (by decide +kernel), _, rfl, c, dx, d, r, a, sp, e, n, rfl, h.hc, h.sp1.1, h.sp1.2, hn, ⟨_, kn⟩, _, rfl, rfl, _, rfl, ?_⟩
      refine ite2 (fun cc => ?_) (fun cc => ?_)
      · have es : stretch sp n = e + (j : Int) := by
          have z := of_decide_eq_true cc
          exact V.int.inj z
        refine ⟨_, rfl, k2 a n hn ⟨h.memK.mpr (by rw [ri]; exact mn), fun m hm => ?_⟩⟩
        have hm' := h.memK.mp hm
        have hj' := rowIx_lt sp m
        obtain ⟨km, _⟩ := h.mem _ hj' m hm'
        have pm := pass _ hj' m hm'
        by_cases z : stretch sp m = e + (j : Int)
        · have y := inrow _ hj' m hm' z
          rw [y] at hm'
          exact (h.hf i hi).last en m hm'
        · exact HT.lx_asym (stretch_lt h.sp1.1 ⟨_, kn⟩ ⟨_, km⟩ (by omega))
      · have es : stretch sp n ≠ e + (j : Int) := fun z => cc (decide_eq_true (by rw [z]))
        refine ⟨_, _, rfl, rfl, fun i' hi' m hm => ?_⟩
        have pm := pass i' hi' m hm
        by_cases z : stretch sp m = e + (j : Int)
        · exfalso
          have y := inrow i' hi' m hm z
          subst y
          obtain ⟨km, _⟩ := h.mem i' hi' m hm
          have l1 := stretch_le h.sp1.1 ⟨_, km⟩ ⟨_, kn⟩ ((h.hf i' hi').last en m hm)
          have l2 := pass i' hi' n mn
          omega
        · omega
  · rintro σ G ⟨v1, v2, rfl, rfl, _⟩
    exact k1
/-! least -/
abbrev nLw : List Str := ["self", "key"]
theorem scLw : FnScope nLw ["self"] (defScope s_Wheel_least) := ⟨rfl, rfl, rfl, by decide +kernel, rfl, by decide +kernel, by decide +kernel⟩
theorem nd_row : ((["row"] : List Str) ++ nLw).Nodup := by decide +kernel
theorem ok_leastW (F : Fun K "least" "Wheel.least" s_Wheel_least f fd) (T : WhT K mg CW) (B : Bl mg) (mn : mg "min" = none) (DL : Df K mg "last_of" s_last_of ["falling"] fL fdL)
    (FS : Fun K "stretch_of" "Wheel.stretch_of" s_Wheel_stretch_of fSt fdSt) (bS : Binds K fdSt ["self", "key"] []) (mS : Meth K CW "stretch_of" fSt)
    (FO : Fun K "least_in_one_turn" "Wheel.least_in_one_turn" s_Wheel_least_in_one_turn fO fdO) (bO : Binds K fdO ["self"] []) (mO : Meth K CW "least_in_one_turn" fO) : FnOk P w K mg base CX0 4 f fd ["self"] (gLeast (whK CW)) := by
  have GO : FnOk P w K mg base CX0 2 fO fdO ["self"] (spTurn CW) := ok_turn FO T B DL FS bS mS
  have GS : FnOk P w K mg base CX0 1 fSt fdSt ["self", "key"] (spStr CW) := ok_str FS T
  refine F.ok scLw (fun vs H Q E h => ?_) (fun cdv A outer s H vs Q E hr h => ?_)
  · obtain ⟨c, own, kvs, rfl, _⟩ := h
    rfl
  obtain ⟨c, own, kvs, rfl, hW, hl, k1, k2⟩ := h
  have hu := hu_of hr
  have h50 := hu50 hr
  have hu2 := Nat.lt_of_le_of_lt (Nat.add_le_add_left (show 2 ≤ 50 by decide) _) h50
  have r1 : Room 1 _ := hr.mono (by decide)
  have r2 : Room 2 _ := hr.mono (by decide)
  refine ⟨_, pss_cons (ps_if (pt_not (pt_dT (pe_fld (pv 0) rfl) (fun _ => rfl))) (pss_one (ps_ret pe_non)) pss_nil)
    (pss_cons (ps_set (i := 1) scLw.nd rfl (Or.inl rfl) (pe_meth0 (pv 0) T.cl mO GO r2 bO .nil pass0))
    (pss_cons (ps_if (pt_cmp (pc_isN (pv 1))) (pss_one (ps_set (i := 1) scLw.nd rfl (Or.inl rfl) (pe_callB (call_minL hu2 rfl) (by rfl) mn boot_min (pa_cons (pe_comp ["row"] (CompOk.open (NN := nLw) (N := nLw) (sc := defScope s_Wheel_least) rfl rfl (by decide +kernel) rfl (by decide +kernel) (by decide +kernel) rfl (by decide +kernel)) rfl
      (pi_list (pe_fld (pv 0) (by rfl))) (fun _ _ _ _ => pg_name (i := 0) nd_row rfl (Or.inl rfl)) (fun _ _ _ _ => pts_one (pt_truthK K rfl (pv 0) (fun _ => rfl))) (fun _ _ _ _ => pe_ix (ix_listK K rfl) (pv 0) (pe_un un_neg pe_int) (fun _ _ => rfl))) pa_nil)))) pss_nil)
    (pss_cons (ps_fld (pv 0) (pe_meth (pv 0) T.cl mS GS r1 bS .nil pass0 (pa_cons (pv 1) pa_nil)) rfl)
    (pss_one (ps_ret (pv 1)))))), ?_⟩
  obtain ⟨dx, d, r, qs, As, R, sp, e, eo, h⟩ := id hW
  have nom : ∀ {m : Str}, m ≠ "things" → m ≠ "rows" → m ≠ "span" → m ≠ "earliest" → (wF d r sp e).lookup m = none := fun a b c' d' => wF_no d r sp e a b c' d'
  refine ⟨_, rfl, c, CW, dx, _, _, rfl, h.hc, T.cl, T.nT, wF_t d r sp e, d, kvs, rfl, h.hd, ?_⟩
  cases kvs with
  | nil =>
    refine iteT ?_
    exact k1 H rfl hW (Stay.refl _ _)
  | cons kv kvs =>
    refine iteF ?_
    -- the key is found: earliest is set
    have last : ∀ (G : Hp) (a : Addr) (n : List Int), WhAt CW G c dx d r qs As R sp e (kv :: kvs) → Stay [] H G → G a = some (.tup (n.map V.int)) → Least ((kv :: kvs).map (·.1)) n → (∃ m, KeyOk m n) ∧ Q (.ref a) (upd G c (.ins CW dx (putF "earliest" (.int (stretch sp n)) (wF d r sp e)))) := by
      intro G a n hG sG ha le
      have mn' := hG.memK.mp le.1
      obtain ⟨kn, _⟩ := hG.mem _ (rowIx_lt sp n) n mn'
      refine ⟨⟨_, kn⟩, ?_⟩
      rw [wF_put]
      have s1 : Stay [c] G (upd G c (.ins CW dx (wF d r sp (stretch sp n)))) := Stay.upd (by simp) hG.hc (fun xs z => by cases z)
      refine k2 a n _ ⟨dx, d, r, qs, As, R, sp, stretch sp n, eo, hG.set (fun i hi m hm => ?_) (stretch_bd hG.sp1.1 kn)⟩ ((sG.mono fun b hb => (nomatch hb)).trans (s1.mono fun b hb => ?_)) (s1.tup _ _ ha) le
      · obtain ⟨km, ri⟩ := hG.mem i hi m hm
        exact stretch_le hG.sp1.1 ⟨_, km⟩ ⟨_, kn⟩ (le.2 m (hG.memK.mpr (by rw [ri]; exact hm)))
      · rw [List.mem_singleton.mp hb, eo]
        exact List.mem_cons_self
    refine ⟨_, rfl, c, dx, _, rfl, h.hc, nom (by decide +kernel) (by decide +kernel) (by decide +kernel) (by decide +kernel), c, own, _, rfl, hW, ?_, fun a n ha le => ?_⟩
    · refine ⟨_, rfl, _, rfl, iteE (decide_eq_true rfl) (iteT ?_)⟩
      -- min of the rows' last keys
      refine asg_i (cb_i (cons_i (comp_fld (K := K) (a := r) (xs := qs.map V.ref) rfl h.hc T.cl T.nR (wF_r d r sp e) (SqL.of h.hr) (fun j ys G => G = H ∧ ys.length ≤ j ∧ ∃ (bs : List Addr) (ms : List (List Int)), ys = bs.map V.ref ∧ Tups H bs ms ∧
          (∀ m ∈ ms, ∃ i, i < 64 ∧ (R i)[(R i).length - 1]? = some m) ∧ ∀ i z, i < j → i < 64 → (R i)[(R i).length - 1]? = some z → z ∈ ms) ⟨rfl, Nat.le_refl _, [], [], rfl, .nil, fun _ h => (nomatch h), fun i z hi => absurd hi (Nat.not_lt_zero _)⟩ ?_ ?_ ?_)))
      · rintro j ys G hj ⟨rfl, hy, _⟩
        rw [List.length_map, h.l64] at hj
        exact ⟨SqL.of h.hr, Nat.lt_of_le_of_lt hy (Nat.lt_of_le_of_lt hj (by decide))⟩
      · rintro j x ys G hj ⟨rfl, hy, bs, ms, rfl, tb, m1, m2⟩
        rw [List.getElem?_map] at hj
        obtain ⟨q, hq, rfl⟩ := Option.map_eq_some_iff.mp hj
        have lj : j < 64 := by
          have := (List.getElem?_eq_some_iff.mp hq).1
          rw [h.l64] at this
          exact this
        have hqq := h.hq j q hq
        refine ⟨rfl, _, rfl, _, .inl ⟨_, SqL.of hqq, rfl⟩, ?_⟩
        have la := (h.ht j lj).length
        cases ea : As j with
        | nil =>
          refine iteF ⟨rfl, by omega, bs, ms, rfl, tb, m1, fun i z hi hi64 hz => ?_⟩
          by_cases ej : i = j
          · subst ej
            rw [ea] at la
            have z0 : R i = [] := List.length_eq_zero_iff.mp la.symm
            rw [z0] at hz
            exact nomatch hz
          · exact m2 i z (by omega) hi64 hz
        | cons a0 ar =>
          refine iteT ?_
          obtain ⟨zs, z, ez⟩ : ∃ zs z, As j = zs ++ [z] := by
            rcases List.eq_nil_or_concat (As j) with y | ⟨zs, z, y⟩
            · rw [y] at ea; cases ea
            · exact ⟨zs, z, by simpa using y⟩
          have el : (As j)[(As j).length - 1]? = some z := by
            rw [ez, List.length_append, List.length_singleton, Nat.add_sub_cancel, List.getElem?_append_right (Nat.le_refl _), Nat.sub_self]
            rfl
          obtain ⟨n, en, hn⟩ := (h.ht j lj).get el
          rw [la] at en
          rw [ez, List.map_append] at hqq
          refine ⟨_, rfl, _, rfl, q, _, _, _, rfl, rfl, SqL.of hqq, atI_last _ _, ?_⟩
          refine ⟨rfl, by rw [List.length_append, List.length_singleton]; omega, bs ++ [z], ms ++ [n], by rw [List.map_append]; rfl, tb.append (.cons hn .nil), fun m hm => ?_, fun i z' hi hi64 hz' => ?_⟩
          · rcases List.mem_append.mp hm with y | y
            · exact m1 m y
            · rw [List.mem_singleton.mp y]
              exact ⟨j, lj, en⟩
          · by_cases ej : i = j
            · subst ej
              rw [en] at hz'
              cases hz'
              exact List.mem_append.mpr (.inr List.mem_cons_self)
            · exact List.mem_append.mpr (.inl (m2 i z' (by omega) hi64 hz'))
      · rintro ys G ⟨rfl, _, bs, ms, rfl, tb, m1, m2⟩ p hp
        have s1 := same_new hp (.lst (bs.map V.ref))
        have h1 : WhAt CW (upd G p (.lst (bs.map V.ref))) c dx d r qs As R sp e (kv :: kvs) := h.stay (ps := []) (Stay.same s1) (fun b hb z => (nomatch z))
        rw [List.length_map, h.l64] at m2
        have lastof : ∀ m, kI m ∈ (kv :: kvs).map (·.1) → ∃ z, z ∈ ms ∧ HT.lexLt m z = false := fun m hm => by
          have hm' := h.memK.mp hm
          have hi := rowIx_lt sp m
          have lp := List.length_pos_of_mem hm'
          have ez : (R (rowIx sp m))[(R (rowIx sp m)).length - 1]? = some ((R (rowIx sp m))[(R (rowIx sp m)).length - 1]'(by omega)) := List.getElem?_eq_getElem _
          exact ⟨_, m2 _ _ hi hi ez, (h.hf _ hi).last ez m hm'⟩
        have nem : ms ≠ [] := fun z => by
          obtain ⟨_, _, n0, _, e0⟩ := (h.key kv.1).mp (List.mem_cons_self)
          obtain ⟨z', hz', _⟩ := lastof n0 (by rw [← e0]; exact List.mem_cons_self)
          rw [z] at hz'
          exact nomatch hz'
        refine ⟨p, bs, ms, rfl, upd_same, tb.keep (fun b xs z => s1 b _ z), nem, fun a n _ hn ha best => ?_⟩
        have le : Least ((kv :: kvs).map (·.1)) n := by
          refine ⟨?_, fun m hm => ?_⟩
          · obtain ⟨i, hi, ei⟩ := m1 n hn
            have mi := List.mem_of_getElem? ei
            exact h.memK.mpr (by rw [(h.mem i hi n mi).2]; exact mi)
          · obtain ⟨z, hz, l1⟩ := lastof m hm
            have l2 := best z hz
            cases y : HT.lexLt m n with
            | false => rfl
            | true =>
              by_cases ez : m = z
              · rw [ez, l2] at y
                cases y
              · have l3 := HT.lx_of_not l1 ez
                have l4 := HT.lx_trans l3 y
                rw [l2] at l4
                cases l4
        obtain ⟨kn, fin⟩ := last _ a n h1 (Stay.same s1) ha le
        exact ⟨_, rfl, c, dx, _, rfl, h1.hc, nom (by decide +kernel) (by decide +kernel) (by decide +kernel) (by decide +kernel), _, rfl, c, dx, d, r, a, sp, e, n, rfl, h1.hc, h.sp1.1, h.sp1.2, ha, kn, _, rfl, c, CW, dx, _, rfl, h1.hc, T.cl, T.nE, (wF_few d r sp e), _, rfl, fin⟩
    · refine ⟨_, rfl, _, rfl, iteE (decide_eq_false (fun z => by cases z)) (iteF ?_)⟩
      obtain ⟨kn, fin⟩ := last H a n h (Stay.refl _ _) ha le
      exact ⟨_, rfl, c, dx, _, rfl, h.hc, nom (by decide +kernel) (by decide +kernel) (by decide +kernel) (by decide +kernel), _, rfl, c, dx, d, r, a, sp, e, n, rfl, h.hc, h.sp1.1, h.sp1.2, ha, kn, _, rfl, c, CW, dx, _, rfl, h.hc, T.cl, T.nE, (wF_few d r sp e), _, rfl, fin⟩
end
end My
set_option Elab.async false
set_option linter.all false
set_option maxRecDepth 100000
set_option maxHeartbeats 4000000
namespace My
open PySem L2
section
variable {P : Program} {w : World} {K : PySem.W.Frag} {mg : Str → Option Value} {base : Heap} {f fP fPl fL fR fSt fO fLe fT fS fPu fLv CW CC fI : Addr} {fd fdP fdPl fdL fdR fdSt fdO dLe dT dS dPu dLv fdI : FuncData}
/-! leave -/
theorem ok_leaveW (F : Fun K "leave" "Calendar.leave" s_Calendar_leave f fd) (T : WhT K mg CW) (GLe : FnOk P w K mg base CX0 4 fLe dLe ["self"] (gLeast (whK CW))) (bLe : Binds K dLe ["self"] []) (mLe : Meth K CW "least" fLe)
    (GT : FnOk P w K mg base CX0 4 fT dT ["self", "key"] (gTake (whK CW))) (bT : Binds K dT ["self", "key"] []) (mT : Meth K CW "take_out" fT) : FnOk P w K mg base CX0 5 f fd ["self"] (gLeave (whK CW)) := by
  refine F.ok scLv (fun vs H Q E h => ?_) (fun cdv A outer s H vs Q E hr h => ?_)
  · obtain ⟨c, own, kvs, rfl, _⟩ := h
    rfl
  obtain ⟨c, own, kvs, rfl, hW, hl, k1, k2⟩ := h
  refine ⟨_, pss_cons (ps_set (i := 1) scLv.nd rfl (Or.inl rfl) (pe_meth0 (pv 0) T.cl mLe GLe hr bLe .nil pass0))
    (pss_cons (ps_if (pt_cmp (pc_isN (pv 1))) (pss_one (ps_ret pe_non)) pss_nil)
    (pss_one (ps_ret (pe_tup (pa_cons (pv 1) (pa_cons (pe_meth (pv 0) T.cl mT GT hr bT .nil pass0 (pa_cons (pv 1) pa_nil)) pa_nil)))))), ?_⟩
  obtain ⟨dx, fs, hc, no⟩ := (whK_ok CW).inst hW
  refine ⟨_, rfl, c, dx, _, rfl, hc, no "least" (by simp), c, own, kvs, rfl, hW, hl, fun H1 e hW1 s1 => ?_, fun a n H1 hW1 s1 ha le => ?_⟩
  · refine ⟨_, rfl, _, rfl, ?_⟩
    exact iteE (decide_eq_true rfl) (iteT (k1 H1 e hW1 s1))
  · refine ⟨_, rfl, _, rfl, ?_⟩
    refine iteE (decide_eq_false (fun z => by cases z)) (iteF ?_)
    obtain ⟨dx1, fs1, hc1, no1⟩ := (whK_ok CW).inst hW1
    have ko : KeyOk 200 n := by
      obtain ⟨_, _, _, _, _, _, sp, _, _, h⟩ := id hW1
      exact (h.mem _ (rowIx_lt sp n) n (h.memK.mp le.1)).1
    refine ⟨_, rfl, _, rfl, c, dx1, _, rfl, hc1, no1 "take_out" (by simp), _, rfl, c, a, own, n, kvs, rfl, hW1, ha, ko, hl, fun e => ?_, fun v H2 e hW2 s2 => ?_⟩
    · exact absurd le.1 (valV_not e)
    · refine ⟨lt2, fun t ht => ?_⟩
      have s3 : Same H2 (upd H2 t (.tup [.ref a, v])) := same_new ht _
      exact k2 a t n v _ le e (s3 a _ (s2.tup a _ ha)) upd_same ((whK_ok CW).stay (ps := []) hW2 (Stay.same s3) (fun _ _ z => (nomatch z))) (s1.trans (s2.trans (Stay.same s3)))
/-! __init__ -/
def spWI (CW : Addr) : Sp := fun vs H Q _ => ∃ (c dx : Addr) (sp : Int), vs = [.ref c, .int sp] ∧ H c = some (.ins CW dx []) ∧ 1 ≤ sp ∧ sp ≤ 1000 ∧ ∀ (own : List Addr) (H' : Hp), whK CW H' c (c :: own) [] → (∀ b ∈ own, H b = none) → Stay [c] H H' → Q .non H'
abbrev nWi : List Str := ["self", "span"]
theorem scWi : FnScope nWi nWi (defScope s_Wheel_init) := ⟨rfl, rfl, rfl, by decide +kernel, rfl, by decide +kernel, by decide +kernel⟩
theorem nd_pl : ((["place"] : List Str) ++ nWi).Nodup := by decide +kernel
theorem ok_WI (F : Fun K "__init__" "Wheel.__init__" s_Wheel_init f fd) (T : WhT K mg CW) (B : Bl mg) (mgC : mg "Calendar" = some (.ref CC)) (cm : CMeth K CC "__init__" fI) (FI : Fun K "__init__" "Calendar.__init__" s_Calendar_init fI fdI) (bI : Binds K fdI ["self"] []) :
    FnOk P w K mg base CX0 2 f fd nWi (spWI CW) := by
  have GI : FnOk P w K mg base CX0 1 fI fdI ["self"] (spCalI CW) := ok_calI0 FI T.cl T.nT T.nR
  obtain ⟨tk, hrows⟩ := T.rows
  refine F.ok scWi (fun vs H Q E h => ?_) (fun cdv A outer s H vs Q E hr h => ?_)
  · obtain ⟨c, dx, sp, rfl, _⟩ := h
    rfl
  obtain ⟨c, dx, sp, rfl, hc, s1, s2, k⟩ := h
  refine ⟨_, pss_cons (ps_expr (pe_cmeth cm GI hr (by rfl) mgC bI .nil pass0 (pa_cons (pv 0) pa_nil)))
    (pss_cons (ps_fld (pv 0) (pe_comp ["place"] (CompOk.open (NN := nWi) (N := nWi) (sc := defScope s_Wheel_init) rfl rfl (by decide +kernel) rfl (by decide +kernel) (by decide +kernel) rfl (by decide +kernel)) rfl
      (pi_range1 rfl B.range (pa_cons (pe_glob (v := .int 64) (by rfl) hrows ⟨_, rfl⟩) pa_nil)) (fun _ _ _ _ => pg_name (i := 0) nd_pl rfl (Or.inl rfl)) (fun _ _ _ _ => pts_nil) (fun _ _ _ _ => pe_lst pa_nil)) rfl)
    (pss_cons (ps_fld (pv 0) (pe_callB (call_max2 rfl) (by rfl) B.max boot_max (pa_cons (pv 1) (pa_cons pe_int pa_nil))) rfl)
    (pss_one (ps_fld (pv 0) pe_int rfl)))), ?_⟩
  refine ⟨_, rfl, c, dx, rfl, hc, fun d r0 q0 H1 nd nr nq ndr hC st1 => ?_⟩
  obtain ⟨dx1, as0, ns0, g1, g2, g3, g4, _⟩ := hC
  have edx : dx1 = dx ∨ True := .inr True.intro
  refine fld_i (comp_rngI 64 rfl (by decide) (by decide) (fun i ys G => ys.length = i ∧ Same H1 G ∧ ∃ qs : List Addr, ys = qs.map V.ref ∧ qs.Nodup ∧ ∀ q ∈ qs, G q = some (.lst []) ∧ H1 q = none) ⟨rfl, Same.refl H1, [], rfl, List.nodup_nil, fun _ h => (nomatch h)⟩ ?_ ?_ ?_)
  · rintro i ys G hi ⟨hy, _⟩
    rw [hy]
    exact Nat.lt_of_le_of_lt hi (by decide)
  · rintro i ys G hi ⟨hy, sG, qs, rfl, nq', hq'⟩
    refine ⟨rfl, ?_⟩
    unfold tAll
    refine iteT ?_
    refine ⟨Nat.zero_le _, fun q hq => ?_⟩
    have sn := same_new hq (.lst [])
    have nn : ¬ q ∈ qs := fun z => by
      rw [(hq' q z).1] at hq
      cases hq
    refine ⟨by rw [List.length_append, hy]; rfl, sG.trans sn, qs ++ [q], by rw [List.map_append]; rfl, nd_snoc nq' nn, fun q2 hq2 => ?_⟩
    rcases List.mem_append.mp hq2 with z | z
    · exact ⟨sn _ _ (hq' q2 z).1, (hq' q2 z).2⟩
    · rw [List.mem_singleton.mp z]
      exact ⟨upd_same, sG.free hq⟩
  · rintro ys G ⟨hy, sG, qs, rfl, nq', hq'⟩ r hr'
    have l64 : qs.length = 64 := by
      rw [List.length_map] at hy
      exact hy
    have sr := same_new hr' (.lst (qs.map V.ref))
    have c1 : upd G r (.lst (qs.map V.ref)) c = some (.ins CW dx1 (cF d r0)) := sr _ _ (sG _ _ g1)
    refine ⟨_, rfl, c, CW, dx1, _, rfl, c1, T.cl, T.nR, (Nat.lt_of_le_of_lt (length_putF _ _ _) (Nat.lt_of_le_of_lt (Nat.succ_le_succ (length_putF _ _ _)) (by decide))), ?_⟩
    refine ⟨_, rfl, sp, 1, rfl, _, rfl, c, CW, dx1, _, rfl, upd_same, T.cl, T.nS, (Nat.lt_of_le_of_lt (length_putF _ _ _) (Nat.lt_of_le_of_lt (Nat.succ_le_succ (length_putF _ _ _)) (Nat.lt_of_le_of_lt (Nat.succ_le_succ (Nat.succ_le_succ (length_putF _ _ _))) (by decide)))), ?_⟩
    refine ⟨_, rfl, c, CW, dx1, _, rfl, upd_same, T.cl, T.nE, (Nat.lt_of_le_of_lt (length_putF _ _ _) (Nat.lt_of_le_of_lt (Nat.succ_le_succ (length_putF _ _ _)) (Nat.lt_of_le_of_lt (Nat.succ_le_succ (Nat.succ_le_succ (length_putF _ _ _))) (Nat.lt_of_le_of_lt (Nat.succ_le_succ (Nat.succ_le_succ (Nat.succ_le_succ (length_putF _ _ _)))) (by decide))))), ?_⟩
    have esp : (if (1 : Int) > sp then 1 else sp) = sp := if_neg (by omega)
    rw [esp, wF_new]
    have cs : Stay [c] H1 (upd (upd (upd (upd G r (.lst (qs.map V.ref))) c (.ins CW dx1 (putF "rows" (.ref r) (cF d r0)))) c (.ins CW dx1 (putF "span" (.int sp) (putF "rows" (.ref r) (cF d r0))))) c (.ins CW dx1 (wF d r sp 0))) :=
      (Stay.same (sG.trans sr)).trans ((Stay.upd (by simp) c1 (fun xs z => by cases z)).trans ((Stay.upd (by simp) upd_same (fun xs z => by cases z)).trans (Stay.upd (by simp) upd_same (fun xs z => by cases z))))
    have nc : ∀ b o, upd G r (.lst (qs.map V.ref)) b = some o → b ≠ c → upd (upd (upd (upd G r (.lst (qs.map V.ref))) c (.ins CW dx1 (putF "rows" (.ref r) (cF d r0)))) c (.ins CW dx1 (putF "span" (.int sp) (putF "rows" (.ref r) (cF d r0))))) c (.ins CW dx1 (wF d r sp 0)) b = some o := fun b o hb n => by
      rw [upd_ne n, upd_ne n, upd_ne n]
      exact hb
    have hrH : H1 r = none := sG.free hr'
    have ndc : d ≠ c := (ne_of g1 g2 (by intro z; cases z)).symm
    have nrc : r ≠ c := fun z => by rw [z, g1] at hrH; cases hrH
    have fr : ∀ b, H1 b = none → H b = none := fun b hb => by
      cases e : H b with
      | none => rfl
      | some o =>
        by_cases z : b = c
        · subst z
          rw [g1] at hb
          cases hb
        · rw [st1.keep b o e (by simpa using z)] at hb
          cases hb
    refine k (d :: r :: qs) _ ⟨dx1, d, r, qs, fun _ => [], fun _ => [], sp, 0, rfl, upd_same, nc _ _ (sr _ _ (sG _ _ g2)) ndc, nc _ _ upd_same nrc, fun i q hq => ?_, fun _ _ => .nil, fun _ _ => List.Pairwise.nil, l64, nq', fun z => ?_, fun _ _ _ h => (nomatch h), fun k => ⟨fun h => (nomatch h), fun ⟨_, _, _, h, _⟩ => (nomatch h)⟩, List.nodup_nil, fun _ _ _ h => (nomatch h), ⟨s1, s2⟩, ⟨by decide, by decide⟩⟩ (fun b hb => ?_) (st1.trans cs)
    · have mq := List.mem_of_getElem? hq
      obtain ⟨a1, a2⟩ := hq' q mq
      refine nc _ _ (sr _ _ a1) fun z => ?_
      rw [z, g1] at a2
      cases a2
    · rw [(hq' r z).1] at hr'
      cases hr'
    · rcases List.mem_cons.mp hb with rfl | hb
      · exact nd
      · rcases List.mem_cons.mp hb with rfl | hb
        · exact fr _ hrH
        · exact fr _ (hq' b hb).2
/-! the class as such -/
theorem wh_ckT (T : WhT K mg CW) (B : Bl mg) (mn : mg "min" = none) (DP : Df K mg "put_in" s_put_in ["falling", "thing"] fP fdP) (DPl : Df K mg "place_in" s_place_in ["falling", "thing"] fPl fdPl) (DL : Df K mg "last_of" s_last_of ["falling"] fL fdL)
    (FSt : Fun K "stretch_of" "Wheel.stretch_of" s_Wheel_stretch_of fSt fdSt) (bSt : Binds K fdSt ["self", "key"] []) (mSt : Meth K CW "stretch_of" fSt) (FR : Fun K "row_for" "Wheel.row_for" s_Wheel_row_for fR fdR) (bR : Binds K fdR ["self", "key"] []) (mR : Meth K CW "row_for" fR)
    (FO : Fun K "least_in_one_turn" "Wheel.least_in_one_turn" s_Wheel_least_in_one_turn fO fdO) (bO : Binds K fdO ["self"] []) (mO : Meth K CW "least_in_one_turn" fO)
    (FS : Fun K "size" "Calendar.size" s_Calendar_size fS dS) (bS : Binds K dS ["self"] []) (mS : Meth K CW "size" fS)
    (FLe : Fun K "least" "Wheel.least" s_Wheel_least fLe dLe) (bLe : Binds K dLe ["self"] []) (mLe : Meth K CW "least" fLe)
    (FPu : Fun K "put" "Wheel.put" s_Wheel_put fPu dPu) (bPu : Binds K dPu ["self", "key", "thing"] []) (mPu : Meth K CW "put" fPu)
    (FT : Fun K "take_out" "Calendar.take_out" s_Calendar_take_out fT dT) (bT : Binds K dT ["self", "key"] []) (mT : Meth K CW "take_out" fT)
    (FLv : Fun K "leave" "Calendar.leave" s_Calendar_leave fLv dLv) (bLv : Binds K dLv ["self"] []) (mLv : Meth K CW "leave" fLv) : CkT P w K mg base CW (whK CW) fS fLe fPu fT fLv dS dLe dPu dT dLv :=
  have GLe := ok_leastW FLe T B mn DL FSt bSt mSt FO bO mO
  have GT := ok_takeW FT T B DPl FSt bSt mSt FR bR mR
  { ok := whK_ok CW, cl := T.cl, GS := ok_sizeW FS T B, bS := bS, mS := mS, GLe := GLe, bLe := bLe, mLe := mLe, GPu := ok_putW FPu T B mn DP DPl FSt bSt mSt FR bR mR, bPu := bPu, mPu := mPu, GT := GT, bT := bT, mT := mT,
    GLv := ok_leaveW FLv T GLe bLe mLe GT bT mT, bLv := bLv, mLv := mLv }
end
end My
set_option Elab.async false
set_option linter.all false
set_option maxRecDepth 100000
set_option maxHeartbeats 4000000
namespace My
open PySem L2
/-- a wheel that was made -/
theorem wh_made {CW : Addr} {H H4 : Hp} {c dx : Addr} {own : List Addr} (nc : H c = none) (ndx : H dx = none) (fr : ∀ b ∈ own, (upd (upd H dx (.own c)) c (.ins CW dx [])) b = none)
    (s4 : Stay [c] (upd (upd H dx (.own c)) c (.ins CW dx [])) H4) : Same H H4 ∧ ∀ b ∈ c :: own, H b = none := by
  have sI : Same H (upd (upd H dx (.own c)) c (.ins CW dx [])) := fun b o e => by
    rw [upd_ne (ne_of_none e nc), upd_ne (ne_of_none e ndx)]
    exact e
  refine ⟨fun b o e => s4.keep b o (sI b o e) (by simpa using ne_of_none e nc), fun b hb => ?_⟩
  rcases List.mem_cons.mp hb with rfl | hb
  · exact nc
  · exact sI.free (fr b hb)
/-- what isinstance asks of the class -/
structure WhIs (K : PySem.W.Frag) (CW CC : Addr) : Prop where
  ha : PySem.W.findIn K (.ref CW) "__class__" = some (some (.builtin "object.__class__"))
  hn : PySem.W.specialIn K (.builtin "object.__class__") "__get__" = some (some (.builtin "getset_descriptor.__get__"))
  htk : PySem.W.takesIn K (.builtin "object.__class__") = some true
  hm : PySem.W.mroIn K CW (.type "object") = some true
  kit : PySem.W.kitOne K (.ref CW) (.ref CC) = some true
section
variable {P : Program} {w : World} {K : PySem.W.Frag} {mg : Str → Option Value} {base : Heap} {f fP fM fD fKy fTh fKs fLk fLf fTk fSt fWh fI fW CW CC fS fLe fPu fT fLv : Addr} {fd fdP fdM fdD fdKy fdTh fdKs fdLk fdLf fdTk fdSt fdWh fdI fdW dS dLe dPu dT dLv : FuncData}
abbrev nL24 : List Str := ["_law_script", "_law_purse_here", "_law_keys_here", "_law_calendars", "_law_there", "_law_k", "_law_at"]
theorem scL : FnScope nL24 ["_law_script"] (defScope s_law) := ⟨rfl, rfl, rfl, by decide +kernel, rfl, by decide +kernel, by decide +kernel⟩
theorem ok_law (D : Df K mg "law" s_law ["_law_script"] f fd) (DP : Df K mg "_law_purse" s_law_purse ["_law_script"] fP fdP) (DM : Df K mg "_law_mixed" s_law_mixed ["_law_cell", "_law_k"] fM fdM) (DD : Df K mg "_law_draw" s_law_draw ["_law_purse_here", "_law_out_of"] fD fdD)
    (DKy : Df K mg "_law_key" s_law_key ["_law_purse_here"] fKy fdKy) (DTh : Df K mg "_law_thing" s_law_thing ["_law_purse_here", "_law_key_here"] fTh fdTh) (DKs : Df K mg "_law_keys" s_law_keys ["_law_purse_here", "_law_many"] fKs fdKs)
    (DLk : Df K mg "_law_look" s_law_look ["_law_calendar", "_law_there"] fLk fdLk) (DLf : Df K mg "_law_left" s_law_left ["_law_calendar", "_law_there"] fLf fdLf) (DTk : Df K mg "_law_taken" s_law_taken ["_law_calendar", "_law_there", "_law_key_here"] fTk fdTk)
    (DSt : Df K mg "_law_step" s_law_step ["_law_purse_here", "_law_calendar", "_law_there", "_law_keys_here"] fSt fdSt) (DWh : Df K mg "_law_whole" s_law_whole ["_law_found"] fWh fdWh)
    (M : Mk K CW fW) (FW : Fun K "__init__" "Wheel.__init__" s_Wheel_init fW fdW) (bW : Binds K fdW ["self", "span"] []) (mgC : mg "Calendar" = some (.ref CC)) (cm : CMeth K CC "__init__" fI) (FI : Fun K "__init__" "Calendar.__init__" s_Calendar_init fI fdI) (bI : Binds K fdI ["self"] []) (TW : WhT K mg CW) (WI : WhIs K CW CC) (B : Bl mg) (mn : mg "min" = none)
    (T : CkT P w K mg base CW (whK CW) fS fLe fPu fT fLv dS dLe dPu dT dLv) : FnOk P w K mg base CX0 9 f fd ["_law_script"] (spLaw K) := by
  have GP : FnOk P w K mg base CX0 2 fP fdP ["_law_script"] (spPurse K) := ok_purse DP DM B
  have GD : FnOk P w K mg base CX0 1 fD fdD ["_law_purse_here", "_law_out_of"] spDraw := ok_draw DD
  have GKs : FnOk P w K mg base CX0 3 fKs fdKs ["_law_purse_here", "_law_many"] spKeys := ok_keys DKs DKy DD B
  have GLk : FnOk P w K mg base CX0 5 fLk fdLk ["_law_calendar", "_law_there"] (spLook (whK CW)) := ok_look DLk T B mn DWh
  have GLf : FnOk P w K mg base CX0 6 fLf fdLf ["_law_calendar", "_law_there"] (spLeft (whK CW)) := ok_left DLf T B mn
  have GSt : FnOk P w K mg base CX0 7 fSt fdSt ["_law_purse_here", "_law_calendar", "_law_there", "_law_keys_here"] (spStep (whK CW)) := ok_step DSt DD DTh DLk DLf DTk DWh B mn T
  have GI : FnOk P w K mg base CX0 2 fW fdW ["self", "span"] (spWI CW) := ok_WI FW TW B mgC cm FI bI
  refine D.F.ok scL (fun vs H Q E h => ?_) (fun cdv A outer s H vs Q E hr h => ?_)
  · obtain ⟨a, ns, rfl, _⟩ := h
    rfl
  obtain ⟨a, ns, rfl, hS, hlen, hbits, k⟩ := h
  have r1 : Room 1 _ := hr.mono (by decide)
  have r2 : Room 2 _ := hr.mono (by decide)
  have r3 : Room 3 _ := hr.mono (by decide)
  have r5 : Room 5 _ := hr.mono (by decide)
  have r6 : Room 6 _ := hr.mono (by decide)
  have r7 : Room 7 _ := hr.mono (by decide)
  refine ⟨_, pss_cons (ps_set (i := 1) scL.nd rfl (Or.inl rfl) (pe_call GP r2 (by rfl) DP.m DP.F.kp DP.b .nil pass0 (pa_cons (pv 0) pa_nil)))
    (pss_cons (ps_set (i := 2) scL.nd rfl (Or.inl rfl) (pe_call GKs r3 (by rfl) DKs.m DKs.F.kp DKs.b .nil pass0 (pa_cons (pv 1) (pa_cons (pe_op op_add pe_int (pe_call GD r1 (by rfl) DD.m DD.F.kp DD.b .nil pass0 (pa_cons (pv 1) (pa_cons pe_int pa_nil)))) pa_nil))))
    (pss_cons (ps_set (i := 3) scL.nd rfl (Or.inl rfl) (pe_lst (pa_cons (pe_make M GI r3 (by rfl) TW.mgW bW .nil pass0 (pa_cons (pe_ix ix_list (pe_lst (pa_cons pe_int (pa_cons pe_int (pa_cons pe_int (pa_cons pe_int (pa_cons pe_int pa_nil)))))) (pe_call GD r1 (by rfl) DD.m DD.F.kp DD.b .nil pass0 (pa_cons (pv 1) (pa_cons pe_int pa_nil))) (fun _ _ => rfl)) pa_nil)) (pa_cons (pe_make M GI r3 (by rfl) TW.mgW bW .nil pass0 (pa_cons (pe_ix ix_list (pe_lst (pa_cons pe_int (pa_cons pe_int (pa_cons pe_int (pa_cons pe_int (pa_cons pe_int pa_nil)))))) (pe_call GD r1 (by rfl) DD.m DD.F.kp DD.b .nil pass0 (pa_cons (pv 1) (pa_cons pe_int pa_nil))) (fun _ _ => rfl)) pa_nil)) pa_nil))))
    (pss_cons (ps_set (i := 4) scL.nd rfl (Or.inl rfl) (pe_lst (pa_cons pe_dnewT (pa_cons pe_dnewT pa_nil))))
    (pss_cons (ps_if (pw_or (pt_not (pt_val (pe_callB call_isinstC (by rfl) B.isi boot_isi (pa_cons (pe_ix ix_list (pv 3) pe_int (fun _ _ => rfl)) (pa_cons (pe_glob (v := .ref CC) (by rfl) mgC rfl) pa_nil))))) (pw_or1 (pt_not (pt_val (pe_callB call_isinstC (by rfl) B.isi boot_isi (pa_cons (pe_ix ix_list (pv 3) pe_int (fun _ _ => rfl)) (pa_cons (pe_glob (v := .ref CC) (by rfl) mgC rfl) pa_nil))))))).pt (pss_one (ps_ret pe_bl)) pss_nil)
    (pss_cons (ps_for PassesOwn.never rfl (pi_range1 rfl B.range (pa_cons pe_int pa_nil)) (pg_name (i := 5) scL.nd rfl (Or.inl rfl))
      (pss_cons (ps_set (i := 6) scL.nd rfl (Or.inl rfl) (pe_call GD r1 (by rfl) DD.m DD.F.kp DD.b .nil pass0 (pa_cons (pv 1) (pa_cons pe_int pa_nil))))
      (pss_one (ps_if (pt_not (pt_val (pe_call GSt r7 (by rfl) DSt.m DSt.F.kp DSt.b .nil pass0 (pa_cons (pv 1) (pa_cons (pe_ix ix_list (pv 3) (pv 6) (fun _ _ => rfl)) (pa_cons (pe_ix ix_list (pv 4) (pv 6) (fun _ _ => rfl)) (pa_cons (pv 2) pa_nil))))))) (pss_one (ps_ret pe_bl)) pss_nil))))
    (pss_cons (ps_for PassesOwn.never rfl (pi_range1 rfl B.range (pa_cons pe_int pa_nil)) (pg_name (i := 6) scL.nd rfl (Or.inl rfl))
      (pss_one (ps_while PassesOwn.never (pt_cmpR op_gt (pe_callB call_lenT (by rfl) B.len PySem.boot_len (pa_cons (pe_ix ix_list (pv 4) (pv 6) (fun _ _ => rfl)) pa_nil)) pe_int (nomark _))
        (pss_one (ps_if (pw_or (pt_not (pt_val (pe_call GLf r6 (by rfl) DLf.m DLf.F.kp DLf.b .nil pass0 (pa_cons (pe_ix ix_list (pv 3) (pv 6) (fun _ _ => rfl)) (pa_cons (pe_ix ix_list (pv 4) (pv 6) (fun _ _ => rfl)) pa_nil)))))
          (pw_or1 (pt_not (pt_val (pe_call GLk r5 (by rfl) DLk.m DLk.F.kp DLk.b .nil pass0 (pa_cons (pe_ix ix_list (pv 3) (pv 6) (fun _ _ => rfl)) (pa_cons (pe_ix ix_list (pv 4) (pv 6) (fun _ _ => rfl)) pa_nil))))))).pt (pss_one (ps_ret pe_bl)) pss_nil)))))
    (pss_one (ps_ret (pe_and (pe_call GLf r6 (by rfl) DLf.m DLf.F.kp DLf.b .nil pass0 (pa_cons (pe_ix ix_list (pv 3) pe_int (fun _ _ => rfl)) (pa_cons (pe_ix ix_list (pv 4) pe_int (fun _ _ => rfl)) pa_nil)))
      (pe_one (pe_call GLf r6 (by rfl) DLf.m DLf.F.kp DLf.b .nil pass0 (pa_cons (pe_ix ix_list (pv 3) pe_int (fun _ _ => rfl)) (pa_cons (pe_ix ix_list (pv 4) pe_int (fun _ _ => rfl)) pa_nil))))))))))))), ?_⟩
  -- the purse, the keys
  refine ⟨_, rfl, a, ns, rfl, hS, hlen, hbits, fun p H1 np hp1 s1 => ?_⟩
  refine ⟨_, rfl, _, rfl, p, 20, rfl, hp1, by decide, by decide, fun m H2 m0 m1 hp2 b2 => ⟨_, _, rfl, rfl, ?_⟩⟩
  refine ⟨p, 1 + m, rfl, hp2, by omega, by omega, fun l as ks H3 nl hl ht nd ko hm hp3 s3 => ?_⟩
  -- two wheels, two dicts
  refine ⟨(by show 5 ≤ sizeLine; decide), fun li nli => ?_⟩
  have sl1 := same_new nli (.lst [.int 1, .int 2, .int 7, .int 100, .int 1000])
  refine ⟨_, rfl, p, 5, rfl, hp3.same sl1, by decide, by decide, fun j1 Ha j10 j11 hpa ba => ?_⟩
  have sta := (hp3.same sl1).stay ba
  have nli' : li ≠ p := by
    obtain ⟨x, y, ep⟩ := hp3
    exact (ne_of_none ep nli).symm
  have at5 : ∀ j : Int, 0 ≤ j → j < 5 → ∃ sp : Int, atI [V.int 1, V.int 2, V.int 7, V.int 100, V.int 1000] j = some (.int sp) ∧ 1 ≤ sp ∧ sp ≤ 1000 := fun j h0 h1 => by
    have cs : j = 0 ∨ j = 1 ∨ j = 2 ∨ j = 3 ∨ j = 4 := by omega
    rcases cs with rfl | rfl | rfl | rfl | rfl
    · exact ⟨1, rfl, by decide, by decide⟩
    · exact ⟨2, rfl, by decide, by decide⟩
    · exact ⟨7, rfl, by decide, by decide⟩
    · exact ⟨100, rfl, by decide, by decide⟩
    · exact ⟨1000, rfl, by decide, by decide⟩
  obtain ⟨sp1, a1, sp10, sp11⟩ := at5 j1 j10 j11
  refine ⟨li, _, _, _, rfl, rfl, SqL.of (ba li _ upd_same nli'), a1, ?_⟩
  intro c1 dx1 nc1 ndx1 ncd1
  refine ⟨c1, dx1, sp1, rfl, upd_same, sp10, sp11, fun ow1 H4 hW1 fr1 s4 => ⟨rfl, ?_⟩⟩
  obtain ⟨sa1, f1⟩ := wh_made nc1 ndx1 fr1 s4
  have hp4 := hpa.same sa1
  have st1 : Stay [p] H3 H4 := (Stay.same sl1).trans (sta.trans (Stay.same sa1))
  have st1a : Stay [p] H3 Ha := (Stay.same sl1).trans sta
  refine ⟨(by show 5 ≤ sizeLine; decide), fun lj nlj => ?_⟩
  have sl2 := same_new nlj (.lst [.int 1, .int 2, .int 7, .int 100, .int 1000])
  refine ⟨_, rfl, p, 5, rfl, hp4.same sl2, by decide, by decide, fun j2 Hb j20 j21 hpb bb => ?_⟩
  have stb := (hp4.same sl2).stay bb
  have nlj' : lj ≠ p := by
    obtain ⟨x, y, ep⟩ := hp4
    exact (ne_of_none ep nlj).symm
  obtain ⟨sp2, a2, sp20, sp21⟩ := at5 j2 j20 j21
  refine ⟨lj, _, _, _, rfl, rfl, SqL.of (bb lj _ upd_same nlj'), a2, ?_⟩
  intro c2 dx2 nc2 ndx2 ncd2
  refine ⟨c2, dx2, sp2, rfl, upd_same, sp20, sp21, fun ow2 H5 hW2 fr2 s5 => ⟨rfl, ?_⟩⟩
  obtain ⟨sa2, f2⟩ := wh_made nc2 ndx2 fr2 s5
  have st2 : Stay [p] H4 H5 := (Stay.same sl2).trans (stb.trans (Stay.same sa2))
  have st2b : Stay [p] H4 Hb := (Stay.same sl2).trans stb
  refine ⟨lt2, fun lc nlc => ?_⟩
  intro e1 ne1 e2 ne2
  refine ⟨lt2, fun lt nlt => ?_⟩
  have fa1 : ∀ b ∈ c1 :: ow1, H3 b = none := fun b hb => stay_free st1a (f1 b hb) fun z => by
    have y := f1 b hb
    obtain ⟨u1, u2, ep⟩ := hpa
    rw [List.mem_singleton.mp z, ep] at y
    cases y
  have fa2 : ∀ b ∈ c2 :: ow2, H4 b = none := fun b hb => stay_free st2b (f2 b hb) fun z => by
    have y := f2 b hb
    obtain ⟨u1, u2, ep⟩ := hpb
    rw [List.mem_singleton.mp z, ep] at y
    cases y
  have T0 := two0 (whK_ok CW) hp3 hl ht nd ko st1 hW1 fa1 st2 hW2 fa2 hp4 (hpb.same sa2) nlc ne1 ne2 nlt
  obtain ⟨_, _, ⟨kz1, LZ1, _⟩, _⟩ := T0.pick (whK_ok CW) 0 (by decide)
  obtain ⟨_, _, ⟨kz2, LZ2, _⟩, _⟩ := T0.pick (whK_ok CW) 1 (by decide)
  obtain ⟨dz1, fz1, hz1, _⟩ := T.ok.inst LZ1.both.cal
  obtain ⟨dz2, fz2, hz2, _⟩ := T.ok.inst LZ2.both.cal
  -- both are calendars
  refine ⟨_, rfl, lc, _, _, _, rfl, rfl, SqL.of T0.hlc, rfl, _, CC, _, true, rfl, TyOf.ins hz1 TW.cl WI.ha WI.hn WI.htk WI.hm, WI.kit, _, rfl, iteF ?_⟩
  refine ⟨_, rfl, lc, _, _, _, rfl, rfl, SqL.of T0.hlc, rfl, _, CC, _, true, rfl, TyOf.ins hz2 TW.cl WI.ha WI.hn WI.htk WI.hm, WI.kit, _, rfl, iteF ?_⟩
  have kslen : 1 ≤ ks.length ∧ ks.length ≤ 50 := by omega
  -- ninety deeds
  refine ⟨90, rfl, by decide, by decide, for_range (n := 90) (fun i σ G => ∃ (v5 v6 : Option V), σ = [some (.ref a), some (.ref p), some (.ref l), some (.ref lc), some (.ref lt), v5, v6] ∧ TwoS (whK CW) G p l lc lt c1 e1 c2 e2 (c1 :: ow1) (c2 :: ow2) as ks i)
    ⟨none, none, rfl, T0⟩ ?_ ?_⟩
  · rintro i σ G hi ⟨v5, v6, rfl, T2⟩
    obtain ⟨_, L, _⟩ := T2.one
    refine ⟨_, rfl, p, 2, rfl, L.pu, by decide, by decide, fun t G1 t0 t1 pu1 b1 => ?_⟩
    obtain ⟨tn, rfl⟩ : ∃ tn : Nat, t = (tn : Int) := ⟨t.toNat, by omega⟩
    obtain ⟨_, _, ⟨kvs0, L0, z0⟩, _⟩ := T2.pick (whK_ok CW) 0 (by decide)
    have TP : TwoS (whK CW) G1 p l lc lt c1 e1 c2 e2 (c1 :: ow1) (c2 :: ow2) as ks i := by
      obtain ⟨_, _, ⟨kvs0, L0, z0⟩, up⟩ := T2.pick (whK_ok CW) 0 (by decide)
      exact up G1 kvs0 i (L0.purse (whK_ok CW) pu1 (L0.pu.stay b1)) ((L0.pu.stay b1).mono fun b hb => by rw [List.mem_singleton.mp hb]; exact List.mem_cons_self) z0 (Nat.le_refl _)
    obtain ⟨g1, g2, ⟨kvs, LP, zP⟩, up⟩ := TP.pick (whK_ok CW) tn (by omega)
    refine ⟨_, rfl, _, rfl, _, rfl, lc, _, _, _, rfl, rfl, SqL.of TP.hlc, g1, _, rfl, _, rfl, lt, _, _, _, rfl, rfl, SqL.of TP.hlt, g2, _, rfl, p, _, _, l, _, as, ks, kvs, rfl, LP, kslen.1, kslen.2, by omega, fun kvs' G' L' hl' st' => ⟨_, rfl, iteF ?_⟩⟩
    exact ⟨_, _, rfl, up G' kvs' (i + 1) L' st' (by omega) (by omega)⟩
  · rintro σ G ⟨v5, v6, rfl, T2⟩
    refine ⟨2, rfl, by decide, by decide, for_range (n := 2) (fun i σ G => ∃ (v6 : Option V), σ = [some (.ref a), some (.ref p), some (.ref l), some (.ref lc), some (.ref lt), v5, v6] ∧ TwoS (whK CW) G p l lc lt c1 e1 c2 e2 (c1 :: ow1) (c2 :: ow2) as ks 90)
      ⟨v6, rfl, T2⟩ ?_ ?_⟩
    · rintro i σ G hi ⟨v6, rfl, T3⟩
      have ei : (0 : Int) + (i : Int) = (i : Int) := by omega
      refine while_by (fun σ G' => σ = [some (.ref a), some (.ref p), some (.ref l), some (.ref lc), some (.ref lt), v5, some (.int (0 + (i : Int)))] ∧ TwoS (whK CW) G' p l lc lt c1 e1 c2 e2 (c1 :: ow1) (c2 :: ow2) as ks 90)
        (fun _ G' => match G' (sel i e1 e2) with | some (.dT kvs) => kvs.length | _ => 0) ⟨rfl, T3⟩ ?_ ?_
      · rintro σ G' ⟨rfl, T4⟩
        obtain ⟨g1, g2, ⟨kvs, LP, zP⟩, up⟩ := T4.pick (whK_ok CW) i hi
        rw [← ei] at g1 g2
        refine ⟨_, rfl, _, rfl, lt, _, _, _, rfl, rfl, SqL.of T4.hlt, g2, _, kvs, rfl, LP.both.dict, _, _, rfl, rfl, _, rfl, ?_⟩
        refine ite2 (fun cc => ?_) (fun cc => ?_)
        · have ne' : kvs ≠ [] := fun z => by
            rw [z] at cc
            exact absurd (of_decide_eq_true cc) (by decide)
          refine ⟨_, rfl, _, rfl, lc, _, _, _, rfl, rfl, SqL.of T4.hlc, g1, _, rfl, _, rfl, lt, _, _, _, rfl, rfl, SqL.of T4.hlt, g2, _, _, _, _, rfl, LP.both, fun G2 z => absurd z ne', fun n G2 hn hB2 t2 => ⟨_, rfl, iteF ?_⟩⟩
          have L5 := LP.own hB2 t2
          have T5 := up G2 _ 90 L5 (t2.mono fun b hb => List.mem_cons_of_mem _ hb) (Nat.le_trans (dropK_le _ _) zP) (Nat.le_refl _)
          refine ⟨_, rfl, _, rfl, lc, _, _, _, rfl, rfl, SqL.of T5.hlc, g1, _, rfl, _, rfl, lt, _, _, _, rfl, rfl, SqL.of T5.hlt, g2, _, _, _, _, rfl, hB2, fun G3 hB3 t3 => ⟨_, rfl, iteF ?_⟩⟩
          refine ⟨⟨rfl, up G3 _ 90 (L5.own hB3 (t3.mono fun b hb => List.mem_cons_of_mem _ hb)) ((t2.trans (t3.mono fun b hb => List.mem_cons_of_mem _ hb)).mono fun b hb => List.mem_cons_of_mem _ hb) (Nat.le_trans (dropK_le _ _) zP) (Nat.le_refl _)⟩, ?_⟩
          show (match G3 (sel i e1 e2) with | some (.dT kvs) => kvs.length | _ => 0) < (match G' (sel i e1 e2) with | some (.dT kvs) => kvs.length | _ => 0)
          rw [hB3.dict, LP.both.dict]
          have := dropK_len (T.ok.nd LP.both.cal) hn
          show (dropK kvs (kI n)).length < kvs.length
          omega
        · exact ⟨_, rfl, T4⟩
      · rintro σ G2 Q1 Q2 hq2 h
        obtain ⟨x1, e1, x2, e2, y1, y2, y3, y4, y5, y6, y7, y8, d1, k1, e7, e8, i1, j1, e4, e5, b1, e6, h⟩ := h
        exact ⟨x1, e1, x2, e2, y1, y2, y3, y4, y5, y6, y7, y8, d1, k1, e7, e8, i1, j1, e4, e5, b1, e6, hq2 _ _ h⟩
    · rintro σ G ⟨v6, rfl, T3⟩
      obtain ⟨g1, g2, ⟨kvs, LP, zP⟩, up⟩ := T3.pick (whK_ok CW) 0 (by decide)
      have go : ∀ G2 kvs2, Both (whK CW) G2 c1 e1 (c1 :: ow1) kvs2 → kvs2.length ≤ 90 → Stay (e1 :: (c1 :: ow1)) G G2 → TwoS (whK CW) G2 p l lc lt c1 e1 c2 e2 (c1 :: ow1) (c2 :: ow2) as ks 90 := fun G2 kvs2 hB hl2 t2 =>
        up G2 kvs2 90 (LP.own hB t2) (t2.mono fun b hb => List.mem_cons_of_mem _ hb) hl2 (Nat.le_refl _)
      refine ⟨_, rfl, lc, _, _, _, rfl, rfl, SqL.of T3.hlc, rfl, _, rfl, lt, _, _, _, rfl, rfl, SqL.of T3.hlt, rfl, c1, e1, _, kvs, rfl, LP.both, fun G2 z hB2 t2 => ⟨_, rfl, iteT ?_⟩, fun n G2 hn hB2 t2 => ⟨_, rfl, iteT ?_⟩⟩
      · have T5 := go G2 _ hB2 zP t2
        obtain ⟨_, _, ⟨kvs', LQ, _⟩, _⟩ := T5.pick (whK_ok CW) 1 (by decide)
        exact ⟨_, rfl, lc, _, _, _, rfl, rfl, SqL.of T5.hlc, rfl, _, rfl, lt, _, _, _, rfl, rfl, SqL.of T5.hlt, rfl, c2, e2, _, kvs', rfl, LQ.both, fun G3 _ _ _ => k G3, fun n G3 _ _ _ => k G3⟩
      · have T5 := go G2 _ hB2 (Nat.le_trans (dropK_le _ _) zP) t2
        obtain ⟨_, _, ⟨kvs', LQ, _⟩, _⟩ := T5.pick (whK_ok CW) 1 (by decide)
        exact ⟨_, rfl, lc, _, _, _, rfl, rfl, SqL.of T5.hlc, rfl, _, rfl, lt, _, _, _, rfl, rfl, SqL.of T5.hlt, rfl, c2, e2, _, kvs', rfl, LQ.both, fun G3 _ _ _ => k G3, fun n G3 _ _ _ => k G3⟩
end
end My
set_option Elab.async false
set_option linter.all false
set_option maxRecDepth 100000
set_option maxHeartbeats 4000000
namespace My
open PySem L2
theorem df_mk {K : PySem.W.Frag} {h : Heap} {mg : Str → Option Value} {x : Str} {st : Stmt} {f : Addr} {oc : Value} {od an : Option Addr} {sl : Array (Option Value)} {kV dc pm cd ct : Value} {ps : List Str} (X : K.In h) (G : h.Ns mainGlobals mg) (a : PySem.W.nsIn K mainGlobals x = some (some (.ref f)))
    (l : K.lookup f = some ⟨oc, od, .func (PySem.W.fnOf x x (defArgs st) (defBody st) (defScope st) .none kV dc pm an cd ct), sl⟩) (c : PySem.W.codeIn K cd x = true) (k : PySem.W.keepIn K (.ref f) = true)
    (hb : ∀ (kV doc pm : Value) (an : Option Addr) (cdv ct : Value) (us : List Value), us.length = ps.length → bindArgs (PySem.W.fnOf x x (defArgs st) (defBody st) (defScope st) .none kV doc pm an cdv ct) ⟨us, []⟩ = pure (ps.zip us)) :
    Df K mg x st ps f (PySem.W.fnOf x x (defArgs st) (defBody st) (defScope st) .none kV dc pm an cd ct) := ⟨fun_mk l c k, (fun_mk l c k).binds hb, PySem.W.mg_of X G a⟩
theorem all_mk {l : PySem.W.OpenLaw} {w : World} {K : PySem.W.Frag} {h : Heap} {mg : Str → Option Value} {tkR : Tok} {fa f1 f2 f3 f4 f5 f6 f7 f8 f9 f10 f11 f12 f13 f14 f15 CC f16 CW f17 f18 f19 f20 f21 f22 f23 f24 f25 : Addr} (X : K.In h) (G : h.Ns mainGlobals mg) (hfa : mg "law" = some (.ref fa))
    {od1 an1 : Option Addr} {sl1 : Array (Option Value)} {oc1 kV1 dc1 pm1 cd1 ct1 : Value}
    {od2 an2 : Option Addr} {sl2 : Array (Option Value)} {oc2 kV2 dc2 pm2 cd2 ct2 : Value}
    {od3 an3 : Option Addr} {sl3 : Array (Option Value)} {oc3 kV3 dc3 pm3 cd3 ct3 : Value}
    {od4 an4 : Option Addr} {sl4 : Array (Option Value)} {oc4 kV4 dc4 pm4 cd4 ct4 : Value}
    {od5 an5 : Option Addr} {sl5 : Array (Option Value)} {oc5 kV5 dc5 pm5 cd5 ct5 : Value}
    {od6 an6 : Option Addr} {sl6 : Array (Option Value)} {oc6 kV6 dc6 pm6 cd6 ct6 : Value}
    {od7 an7 : Option Addr} {sl7 : Array (Option Value)} {oc7 kV7 dc7 pm7 cd7 ct7 : Value}
    {od8 an8 : Option Addr} {sl8 : Array (Option Value)} {oc8 kV8 dc8 pm8 cd8 ct8 : Value}
    {od9 an9 : Option Addr} {sl9 : Array (Option Value)} {oc9 kV9 dc9 pm9 cd9 ct9 : Value}
    {od10 an10 : Option Addr} {sl10 : Array (Option Value)} {oc10 kV10 dc10 pm10 cd10 ct10 : Value}
    {od11 an11 : Option Addr} {sl11 : Array (Option Value)} {oc11 kV11 dc11 pm11 cd11 ct11 : Value}
    {od12 an12 : Option Addr} {sl12 : Array (Option Value)} {oc12 kV12 dc12 pm12 cd12 ct12 : Value}
    {od13 an13 : Option Addr} {sl13 : Array (Option Value)} {oc13 kV13 dc13 pm13 cd13 ct13 : Value}
    {od14 an14 : Option Addr} {sl14 : Array (Option Value)} {oc14 kV14 dc14 pm14 cd14 ct14 : Value}
    {od15 an15 : Option Addr} {sl15 : Array (Option Value)} {oc15 kV15 dc15 pm15 cd15 ct15 : Value}
    {od16 an16 : Option Addr} {sl16 : Array (Option Value)} {oc16 kV16 dc16 pm16 cd16 ct16 : Value}
    {od17 an17 : Option Addr} {sl17 : Array (Option Value)} {oc17 kV17 dc17 pm17 cd17 ct17 : Value}
    {od18 an18 : Option Addr} {sl18 : Array (Option Value)} {oc18 kV18 dc18 pm18 cd18 ct18 : Value}
    {od19 an19 : Option Addr} {sl19 : Array (Option Value)} {oc19 kV19 dc19 pm19 cd19 ct19 : Value}
    {od20 an20 : Option Addr} {sl20 : Array (Option Value)} {oc20 kV20 dc20 pm20 cd20 ct20 : Value}
    {od21 an21 : Option Addr} {sl21 : Array (Option Value)} {oc21 kV21 dc21 pm21 cd21 ct21 : Value}
    {od22 an22 : Option Addr} {sl22 : Array (Option Value)} {oc22 kV22 dc22 pm22 cd22 ct22 : Value}
    {od23 an23 : Option Addr} {sl23 : Array (Option Value)} {oc23 kV23 dc23 pm23 cd23 ct23 : Value}
    {od24 an24 : Option Addr} {sl24 : Array (Option Value)} {oc24 kV24 dc24 pm24 cd24 ct24 : Value}
    {od25 an25 : Option Addr} {sl25 : Array (Option Value)} {oc25 kV25 dc25 pm25 cd25 ct25 : Value}
    (a1 : PySem.W.nsIn K mainGlobals "place_in" = some (some (.ref f1))) (l1 : K.lookup f1 = some ⟨oc1, od1, .func (PySem.W.fnOf "place_in" "place_in" (defArgs s_place_in) (defBody s_place_in) (defScope s_place_in) .none kV1 dc1 pm1 an1 cd1 ct1), sl1⟩) (c1 : PySem.W.codeIn K cd1 "place_in" = true) (k1 : PySem.W.keepIn K (.ref f1) = true)
    (a2 : PySem.W.nsIn K mainGlobals "put_in" = some (some (.ref f2))) (l2 : K.lookup f2 = some ⟨oc2, od2, .func (PySem.W.fnOf "put_in" "put_in" (defArgs s_put_in) (defBody s_put_in) (defScope s_put_in) .none kV2 dc2 pm2 an2 cd2 ct2), sl2⟩) (c2 : PySem.W.codeIn K cd2 "put_in" = true) (k2 : PySem.W.keepIn K (.ref f2) = true)
    (a3 : PySem.W.nsIn K mainGlobals "last_of" = some (some (.ref f3))) (l3 : K.lookup f3 = some ⟨oc3, od3, .func (PySem.W.fnOf "last_of" "last_of" (defArgs s_last_of) (defBody s_last_of) (defScope s_last_of) .none kV3 dc3 pm3 an3 cd3 ct3), sl3⟩) (c3 : PySem.W.codeIn K cd3 "last_of" = true) (k3 : PySem.W.keepIn K (.ref f3) = true)
    (a4 : PySem.W.nsIn K mainGlobals "_law_whole" = some (some (.ref f4))) (l4 : K.lookup f4 = some ⟨oc4, od4, .func (PySem.W.fnOf "_law_whole" "_law_whole" (defArgs s_law_whole) (defBody s_law_whole) (defScope s_law_whole) .none kV4 dc4 pm4 an4 cd4 ct4), sl4⟩) (c4 : PySem.W.codeIn K cd4 "_law_whole" = true) (k4 : PySem.W.keepIn K (.ref f4) = true)
    (a5 : PySem.W.nsIn K mainGlobals "_law_mixed" = some (some (.ref f5))) (l5 : K.lookup f5 = some ⟨oc5, od5, .func (PySem.W.fnOf "_law_mixed" "_law_mixed" (defArgs s_law_mixed) (defBody s_law_mixed) (defScope s_law_mixed) .none kV5 dc5 pm5 an5 cd5 ct5), sl5⟩) (c5 : PySem.W.codeIn K cd5 "_law_mixed" = true) (k5 : PySem.W.keepIn K (.ref f5) = true)
    (a6 : PySem.W.nsIn K mainGlobals "_law_purse" = some (some (.ref f6))) (l6 : K.lookup f6 = some ⟨oc6, od6, .func (PySem.W.fnOf "_law_purse" "_law_purse" (defArgs s_law_purse) (defBody s_law_purse) (defScope s_law_purse) .none kV6 dc6 pm6 an6 cd6 ct6), sl6⟩) (c6 : PySem.W.codeIn K cd6 "_law_purse" = true) (k6 : PySem.W.keepIn K (.ref f6) = true)
    (a7 : PySem.W.nsIn K mainGlobals "_law_draw" = some (some (.ref f7))) (l7 : K.lookup f7 = some ⟨oc7, od7, .func (PySem.W.fnOf "_law_draw" "_law_draw" (defArgs s_law_draw) (defBody s_law_draw) (defScope s_law_draw) .none kV7 dc7 pm7 an7 cd7 ct7), sl7⟩) (c7 : PySem.W.codeIn K cd7 "_law_draw" = true) (k7 : PySem.W.keepIn K (.ref f7) = true)
    (a8 : PySem.W.nsIn K mainGlobals "_law_key" = some (some (.ref f8))) (l8 : K.lookup f8 = some ⟨oc8, od8, .func (PySem.W.fnOf "_law_key" "_law_key" (defArgs s_law_key) (defBody s_law_key) (defScope s_law_key) .none kV8 dc8 pm8 an8 cd8 ct8), sl8⟩) (c8 : PySem.W.codeIn K cd8 "_law_key" = true) (k8 : PySem.W.keepIn K (.ref f8) = true)
    (a9 : PySem.W.nsIn K mainGlobals "_law_thing" = some (some (.ref f9))) (l9 : K.lookup f9 = some ⟨oc9, od9, .func (PySem.W.fnOf "_law_thing" "_law_thing" (defArgs s_law_thing) (defBody s_law_thing) (defScope s_law_thing) .none kV9 dc9 pm9 an9 cd9 ct9), sl9⟩) (c9 : PySem.W.codeIn K cd9 "_law_thing" = true) (k9 : PySem.W.keepIn K (.ref f9) = true)
    (a10 : PySem.W.nsIn K mainGlobals "_law_keys" = some (some (.ref f10))) (l10 : K.lookup f10 = some ⟨oc10, od10, .func (PySem.W.fnOf "_law_keys" "_law_keys" (defArgs s_law_keys) (defBody s_law_keys) (defScope s_law_keys) .none kV10 dc10 pm10 an10 cd10 ct10), sl10⟩) (c10 : PySem.W.codeIn K cd10 "_law_keys" = true) (k10 : PySem.W.keepIn K (.ref f10) = true)
    (a11 : PySem.W.nsIn K mainGlobals "_law_look" = some (some (.ref f11))) (l11 : K.lookup f11 = some ⟨oc11, od11, .func (PySem.W.fnOf "_law_look" "_law_look" (defArgs s_law_look) (defBody s_law_look) (defScope s_law_look) .none kV11 dc11 pm11 an11 cd11 ct11), sl11⟩) (c11 : PySem.W.codeIn K cd11 "_law_look" = true) (k11 : PySem.W.keepIn K (.ref f11) = true)
    (a12 : PySem.W.nsIn K mainGlobals "_law_left" = some (some (.ref f12))) (l12 : K.lookup f12 = some ⟨oc12, od12, .func (PySem.W.fnOf "_law_left" "_law_left" (defArgs s_law_left) (defBody s_law_left) (defScope s_law_left) .none kV12 dc12 pm12 an12 cd12 ct12), sl12⟩) (c12 : PySem.W.codeIn K cd12 "_law_left" = true) (k12 : PySem.W.keepIn K (.ref f12) = true)
    (a13 : PySem.W.nsIn K mainGlobals "_law_taken" = some (some (.ref f13))) (l13 : K.lookup f13 = some ⟨oc13, od13, .func (PySem.W.fnOf "_law_taken" "_law_taken" (defArgs s_law_taken) (defBody s_law_taken) (defScope s_law_taken) .none kV13 dc13 pm13 an13 cd13 ct13), sl13⟩) (c13 : PySem.W.codeIn K cd13 "_law_taken" = true) (k13 : PySem.W.keepIn K (.ref f13) = true)
    (a14 : PySem.W.nsIn K mainGlobals "_law_step" = some (some (.ref f14))) (l14 : K.lookup f14 = some ⟨oc14, od14, .func (PySem.W.fnOf "_law_step" "_law_step" (defArgs s_law_step) (defBody s_law_step) (defScope s_law_step) .none kV14 dc14 pm14 an14 cd14 ct14), sl14⟩) (c14 : PySem.W.codeIn K cd14 "_law_step" = true) (k14 : PySem.W.keepIn K (.ref f14) = true)
    (a15 : PySem.W.nsIn K mainGlobals "law" = some (some (.ref f15))) (l15 : K.lookup f15 = some ⟨oc15, od15, .func (PySem.W.fnOf "law" "law" (defArgs s_law) (defBody s_law) (defScope s_law) .none kV15 dc15 pm15 an15 cd15 ct15), sl15⟩) (c15 : PySem.W.codeIn K cd15 "law" = true) (k15 : PySem.W.keepIn K (.ref f15) = true)
    (aCC : PySem.W.nsIn K mainGlobals "Calendar" = some (some (.ref CC)))
    (a16 : PySem.W.findIn K (.ref CC) "__init__" = some (some (.ref f16))) (i16 : PySem.W.isFn K (.ref f16) = true) (l16 : K.lookup f16 = some ⟨oc16, od16, .func (PySem.W.fnOf "__init__" "Calendar.__init__" (defArgs s_Calendar_init) (defBody s_Calendar_init) (defScope s_Calendar_init) .none kV16 dc16 pm16 an16 cd16 ct16), sl16⟩) (c16 : PySem.W.codeIn K cd16 "Calendar.__init__" = true) (k16 : PySem.W.keepIn K (.ref f16) = true)
    (pgCC : PySem.W.plainGet K CC Str.empty = true) (hdCC : PySem.W.hasDictIn K CC = true) (poCC : PySem.W.plainOver K CC = true) (saCC : PySem.W.findIn K (.ref CC) "__setattr__" = some (some (.builtin "object.__setattr__"))) (mkCC : PySem.W.makesIn K CC = true) (kcCC : PySem.W.keepIn K (.ref CC) = true)
    (aCW : PySem.W.nsIn K mainGlobals "Wheel" = some (some (.ref CW)))
    (a17 : PySem.W.findIn K (.ref CW) "__init__" = some (some (.ref f17))) (i17 : PySem.W.isFn K (.ref f17) = true) (l17 : K.lookup f17 = some ⟨oc17, od17, .func (PySem.W.fnOf "__init__" "Wheel.__init__" (defArgs s_Wheel_init) (defBody s_Wheel_init) (defScope s_Wheel_init) .none kV17 dc17 pm17 an17 cd17 ct17), sl17⟩) (c17 : PySem.W.codeIn K cd17 "Wheel.__init__" = true) (k17 : PySem.W.keepIn K (.ref f17) = true)
    (a18 : PySem.W.findIn K (.ref CW) "put" = some (some (.ref f18))) (i18 : PySem.W.isFn K (.ref f18) = true) (l18 : K.lookup f18 = some ⟨oc18, od18, .func (PySem.W.fnOf "put" "Wheel.put" (defArgs s_Wheel_put) (defBody s_Wheel_put) (defScope s_Wheel_put) .none kV18 dc18 pm18 an18 cd18 ct18), sl18⟩) (c18 : PySem.W.codeIn K cd18 "Wheel.put" = true) (k18 : PySem.W.keepIn K (.ref f18) = true)
    (a19 : PySem.W.findIn K (.ref CW) "least" = some (some (.ref f19))) (i19 : PySem.W.isFn K (.ref f19) = true) (l19 : K.lookup f19 = some ⟨oc19, od19, .func (PySem.W.fnOf "least" "Wheel.least" (defArgs s_Wheel_least) (defBody s_Wheel_least) (defScope s_Wheel_least) .none kV19 dc19 pm19 an19 cd19 ct19), sl19⟩) (c19 : PySem.W.codeIn K cd19 "Wheel.least" = true) (k19 : PySem.W.keepIn K (.ref f19) = true)
    (a20 : PySem.W.findIn K (.ref CW) "least_in_one_turn" = some (some (.ref f20))) (i20 : PySem.W.isFn K (.ref f20) = true) (l20 : K.lookup f20 = some ⟨oc20, od20, .func (PySem.W.fnOf "least_in_one_turn" "Wheel.least_in_one_turn" (defArgs s_Wheel_least_in_one_turn) (defBody s_Wheel_least_in_one_turn) (defScope s_Wheel_least_in_one_turn) .none kV20 dc20 pm20 an20 cd20 ct20), sl20⟩) (c20 : PySem.W.codeIn K cd20 "Wheel.least_in_one_turn" = true) (k20 : PySem.W.keepIn K (.ref f20) = true)
    (a21 : PySem.W.findIn K (.ref CW) "row_for" = some (some (.ref f21))) (i21 : PySem.W.isFn K (.ref f21) = true) (l21 : K.lookup f21 = some ⟨oc21, od21, .func (PySem.W.fnOf "row_for" "Wheel.row_for" (defArgs s_Wheel_row_for) (defBody s_Wheel_row_for) (defScope s_Wheel_row_for) .none kV21 dc21 pm21 an21 cd21 ct21), sl21⟩) (c21 : PySem.W.codeIn K cd21 "Wheel.row_for" = true) (k21 : PySem.W.keepIn K (.ref f21) = true)
    (a22 : PySem.W.findIn K (.ref CW) "stretch_of" = some (some (.ref f22))) (i22 : PySem.W.isFn K (.ref f22) = true) (l22 : K.lookup f22 = some ⟨oc22, od22, .func (PySem.W.fnOf "stretch_of" "Wheel.stretch_of" (defArgs s_Wheel_stretch_of) (defBody s_Wheel_stretch_of) (defScope s_Wheel_stretch_of) .none kV22 dc22 pm22 an22 cd22 ct22), sl22⟩) (c22 : PySem.W.codeIn K cd22 "Wheel.stretch_of" = true) (k22 : PySem.W.keepIn K (.ref f22) = true)
    (a23 : PySem.W.findIn K (.ref CW) "size" = some (some (.ref f23))) (i23 : PySem.W.isFn K (.ref f23) = true) (l23 : K.lookup f23 = some ⟨oc23, od23, .func (PySem.W.fnOf "size" "Calendar.size" (defArgs s_Calendar_size) (defBody s_Calendar_size) (defScope s_Calendar_size) .none kV23 dc23 pm23 an23 cd23 ct23), sl23⟩) (c23 : PySem.W.codeIn K cd23 "Calendar.size" = true) (k23 : PySem.W.keepIn K (.ref f23) = true)
    (a24 : PySem.W.findIn K (.ref CW) "leave" = some (some (.ref f24))) (i24 : PySem.W.isFn K (.ref f24) = true) (l24 : K.lookup f24 = some ⟨oc24, od24, .func (PySem.W.fnOf "leave" "Calendar.leave" (defArgs s_Calendar_leave) (defBody s_Calendar_leave) (defScope s_Calendar_leave) .none kV24 dc24 pm24 an24 cd24 ct24), sl24⟩) (c24 : PySem.W.codeIn K cd24 "Calendar.leave" = true) (k24 : PySem.W.keepIn K (.ref f24) = true)
    (a25 : PySem.W.findIn K (.ref CW) "take_out" = some (some (.ref f25))) (i25 : PySem.W.isFn K (.ref f25) = true) (l25 : K.lookup f25 = some ⟨oc25, od25, .func (PySem.W.fnOf "take_out" "Calendar.take_out" (defArgs s_Calendar_take_out) (defBody s_Calendar_take_out) (defScope s_Calendar_take_out) .none kV25 dc25 pm25 an25 cd25 ct25), sl25⟩) (c25 : PySem.W.codeIn K cd25 "Calendar.take_out" = true) (k25 : PySem.W.keepIn K (.ref f25) = true)
    (pgCW : PySem.W.plainGet K CW Str.empty = true) (hdCW : PySem.W.hasDictIn K CW = true) (poCW : PySem.W.plainOver K CW = true) (saCW : PySem.W.findIn K (.ref CW) "__setattr__" = some (some (.builtin "object.__setattr__"))) (mkCW : PySem.W.makesIn K CW = true) (kcCW : PySem.W.keepIn K (.ref CW) = true)
    (nCWthings : PySem.W.findIn K (.ref CW) "things" = some none)
    (nCWrows : PySem.W.findIn K (.ref CW) "rows" = some none)
    (nCWspan : PySem.W.findIn K (.ref CW) "span" = some none)
    (nCWearliest : PySem.W.findIn K (.ref CW) "earliest" = some none)
    (csp : PySem.W.specialIn K (.ref CC) "__getattribute__" = some (some (.builtin "type.__getattribute__")))
    (crd : PySem.W.readsIn K CC (.type "type") = true)
    (cfc : PySem.W.findCls K (.ref CC) (.type "type") "__init__" = some (.val (.ref f16)))
    (wha : PySem.W.findIn K (.ref CW) "__class__" = some (some (.builtin "object.__class__")))
    (whn : PySem.W.specialIn K (.builtin "object.__class__") "__get__" = some (some (.builtin "getset_descriptor.__get__")))
    (whk : PySem.W.takesIn K (.builtin "object.__class__") = some true)
    (whm : PySem.W.mroIn K CW (.type "object") = some true)
    (wkt : PySem.W.kitOne K (.ref CW) (.ref CC) = some true)
    (wro : PySem.W.nsIn K mainGlobals "ROWS" = some (some (.int 64 tkR)))
    (zlen : PySem.W.nsIn K mainGlobals "len" = some none)
    (zabs : PySem.W.nsIn K mainGlobals "abs" = some none)
    (zisinstance : PySem.W.nsIn K mainGlobals "isinstance" = some none)
    (zlist : PySem.W.nsIn K mainGlobals "list" = some none)
    (ztuple : PySem.W.nsIn K mainGlobals "tuple" = some none)
    (zstr : PySem.W.nsIn K mainGlobals "str" = some none)
    (zint : PySem.W.nsIn K mainGlobals "int" = some none)
    (zbool : PySem.W.nsIn K mainGlobals "bool" = some none)
    (zrange : PySem.W.nsIn K mainGlobals "range" = some none)
    (zmax : PySem.W.nsIn K mainGlobals "max" = some none)
    (zdict : PySem.W.nsIn K mainGlobals "dict" = some none)
    (zmin : PySem.W.nsIn K mainGlobals "min" = some none) :
    ∃ fd : FuncData, (∀ (s : Shared) (v : Value), BindsTo s fd ⟨[v], []⟩ [("_law_script", v)]) ∧ ∀ base : Heap, K.In base → base.Ns mainGlobals mg → FnOk l.prog w K mg base CX0 9 fa fd ["_law_script"] (spLaw K) := by
  have e := hfa.symm.trans (PySem.W.mg_of X G a15)
  cases e
  have D1 := df_mk (ps := ["falling", "thing"]) X G a1 l1 c1 k1 fun _ _ _ _ _ _ us hl => match us, hl with | [_, _], _ => rfl
  have D2 := df_mk (ps := ["falling", "thing"]) X G a2 l2 c2 k2 fun _ _ _ _ _ _ us hl => match us, hl with | [_, _], _ => rfl
  have D3 := df_mk (ps := ["falling"]) X G a3 l3 c3 k3 fun _ _ _ _ _ _ us hl => match us, hl with | [_], _ => rfl
  have D4 := df_mk (ps := ["_law_found"]) X G a4 l4 c4 k4 fun _ _ _ _ _ _ us hl => match us, hl with | [_], _ => rfl
  have D5 := df_mk (ps := ["_law_cell", "_law_k"]) X G a5 l5 c5 k5 fun _ _ _ _ _ _ us hl => match us, hl with | [_, _], _ => rfl
  have D6 := df_mk (ps := ["_law_script"]) X G a6 l6 c6 k6 fun _ _ _ _ _ _ us hl => match us, hl with | [_], _ => rfl
  have D7 := df_mk (ps := ["_law_purse_here", "_law_out_of"]) X G a7 l7 c7 k7 fun _ _ _ _ _ _ us hl => match us, hl with | [_, _], _ => rfl
  have D8 := df_mk (ps := ["_law_purse_here"]) X G a8 l8 c8 k8 fun _ _ _ _ _ _ us hl => match us, hl with | [_], _ => rfl
  have D9 := df_mk (ps := ["_law_purse_here", "_law_key_here"]) X G a9 l9 c9 k9 fun _ _ _ _ _ _ us hl => match us, hl with | [_, _], _ => rfl
  have D10 := df_mk (ps := ["_law_purse_here", "_law_many"]) X G a10 l10 c10 k10 fun _ _ _ _ _ _ us hl => match us, hl with | [_, _], _ => rfl
  have D11 := df_mk (ps := ["_law_calendar", "_law_there"]) X G a11 l11 c11 k11 fun _ _ _ _ _ _ us hl => match us, hl with | [_, _], _ => rfl
  have D12 := df_mk (ps := ["_law_calendar", "_law_there"]) X G a12 l12 c12 k12 fun _ _ _ _ _ _ us hl => match us, hl with | [_, _], _ => rfl
  have D13 := df_mk (ps := ["_law_calendar", "_law_there", "_law_key_here"]) X G a13 l13 c13 k13 fun _ _ _ _ _ _ us hl => match us, hl with | [_, _, _], _ => rfl
  have D14 := df_mk (ps := ["_law_purse_here", "_law_calendar", "_law_there", "_law_keys_here"]) X G a14 l14 c14 k14 fun _ _ _ _ _ _ us hl => match us, hl with | [_, _, _, _], _ => rfl
  have D15 := df_mk (ps := ["_law_script"]) X G a15 l15 c15 k15 fun _ _ _ _ _ _ us hl => match us, hl with | [_], _ => rfl
  have FCI := fun_mk (x := "__init__") (qual := "Calendar.__init__") (st := s_Calendar_init) l16 c16 k16
  have bCI := FCI.binds (ps := ["self"]) fun _ _ _ _ _ _ us hl => match us, hl with | [_], _ => rfl
  have mCI : Meth K CC "__init__" f16 := ⟨a16, i16, k16⟩
  have MCC : Mk K CC f16 := ⟨mkCC, a16, i16, kcCC⟩
  have FWI := fun_mk (x := "__init__") (qual := "Wheel.__init__") (st := s_Wheel_init) l17 c17 k17
  have bWI := FWI.binds (ps := ["self", "span"]) fun _ _ _ _ _ _ us hl => match us, hl with | [_, _], _ => rfl
  have mWI : Meth K CW "__init__" f17 := ⟨a17, i17, k17⟩
  have FWP := fun_mk (x := "put") (qual := "Wheel.put") (st := s_Wheel_put) l18 c18 k18
  have bWP := FWP.binds (ps := ["self", "key", "thing"]) fun _ _ _ _ _ _ us hl => match us, hl with | [_, _, _], _ => rfl
  have mWP : Meth K CW "put" f18 := ⟨a18, i18, k18⟩
  have FWL := fun_mk (x := "least") (qual := "Wheel.least") (st := s_Wheel_least) l19 c19 k19
  have bWL := FWL.binds (ps := ["self"]) fun _ _ _ _ _ _ us hl => match us, hl with | [_], _ => rfl
  have mWL : Meth K CW "least" f19 := ⟨a19, i19, k19⟩
  have FWO := fun_mk (x := "least_in_one_turn") (qual := "Wheel.least_in_one_turn") (st := s_Wheel_least_in_one_turn) l20 c20 k20
  have bWO := FWO.binds (ps := ["self"]) fun _ _ _ _ _ _ us hl => match us, hl with | [_], _ => rfl
  have mWO : Meth K CW "least_in_one_turn" f20 := ⟨a20, i20, k20⟩
  have FWR := fun_mk (x := "row_for") (qual := "Wheel.row_for") (st := s_Wheel_row_for) l21 c21 k21
  have bWR := FWR.binds (ps := ["self", "key"]) fun _ _ _ _ _ _ us hl => match us, hl with | [_, _], _ => rfl
  have mWR : Meth K CW "row_for" f21 := ⟨a21, i21, k21⟩
  have FWS := fun_mk (x := "stretch_of") (qual := "Wheel.stretch_of") (st := s_Wheel_stretch_of) l22 c22 k22
  have bWS := FWS.binds (ps := ["self", "key"]) fun _ _ _ _ _ _ us hl => match us, hl with | [_, _], _ => rfl
  have mWS : Meth K CW "stretch_of" f22 := ⟨a22, i22, k22⟩
  have FWZ := fun_mk (x := "size") (qual := "Calendar.size") (st := s_Calendar_size) l23 c23 k23
  have bWZ := FWZ.binds (ps := ["self"]) fun _ _ _ _ _ _ us hl => match us, hl with | [_], _ => rfl
  have mWZ : Meth K CW "size" f23 := ⟨a23, i23, k23⟩
  have FWV := fun_mk (x := "leave") (qual := "Calendar.leave") (st := s_Calendar_leave) l24 c24 k24
  have bWV := FWV.binds (ps := ["self"]) fun _ _ _ _ _ _ us hl => match us, hl with | [_], _ => rfl
  have mWV : Meth K CW "leave" f24 := ⟨a24, i24, k24⟩
  have FWT := fun_mk (x := "take_out") (qual := "Calendar.take_out") (st := s_Calendar_take_out) l25 c25 k25
  have bWT := FWT.binds (ps := ["self", "key"]) fun _ _ _ _ _ _ us hl => match us, hl with | [_, _], _ => rfl
  have mWT : Meth K CW "take_out" f25 := ⟨a25, i25, k25⟩
  have MCW : Mk K CW f17 := ⟨mkCW, a17, i17, kcCW⟩
  have B : Bl mg := ⟨PySem.W.mg_none_of X G zlen, PySem.W.mg_none_of X G zabs, PySem.W.mg_none_of X G zisinstance, PySem.W.mg_none_of X G zlist, PySem.W.mg_none_of X G ztuple, PySem.W.mg_none_of X G zstr, PySem.W.mg_none_of X G zint, PySem.W.mg_none_of X G zbool, PySem.W.mg_none_of X G zrange, PySem.W.mg_none_of X G zmax, PySem.W.mg_none_of X G zdict⟩
  have mgC : mg "Calendar" = some (.ref CC) := PySem.W.mg_of X G aCC
  have TW : WhT K mg CW := ⟨⟨pgCW, hdCW, poCW, saCW⟩, nCWthings, nCWrows, nCWspan, nCWearliest, PySem.W.mg_of X G aCW, ⟨_, PySem.W.mg_of X G wro⟩⟩
  have WI : WhIs K CW CC := ⟨wha, whn, whk, whm, wkt⟩
  have cm : CMeth K CC "__init__" f16 := ⟨csp, crd, cfc, k16⟩
  have mn : mg "min" = none := PySem.W.mg_none_of X G zmin
  exact ⟨_, fun s v => .of_eq rfl, fun base _ _ => ok_law D15 D6 D5 D7 D8 D9 D10 D11 D12 D13 D14 D4 MCW FWI bWI mgC cm FCI bCI TW WI B mn (wh_ckT TW B mn D2 D1 D3 FWS bWS mWS FWR bWR mWR FWO bWO mWO FWZ bWZ mWZ FWL bWL mWL FWP bWP mWP FWT bWT mWT FWV bWV mWV)⟩
theorem walk {l : PySem.W.OpenLaw} {q : Program} {loose : List Str} {XP : (Str → Option Value) → Heap → Prop} {YP : World → Heap → Prop} {d : DefRec} {K : Params → PySem.W.Frag} (hn : l.most = some 63) (hdf : d.params.defaults = [])
    (hY : ∀ (w : World) (h : Heap), YP w h → (K w.params).In h)
    (F : ∀ (w : World) (mg : Str → Option Value) (fa : Addr) (h : Heap), (K w.params).In h → h.Ns mainGlobals mg → mg d.name = some (.ref fa) →
      ∃ fd : FuncData, (∀ (s : Shared) (u : Value), BindsTo s fd ⟨[u], []⟩ [("_law_script", u)]) ∧ ∀ base : Heap, (K w.params).In base → base.Ns mainGlobals mg → FnOk l.prog w (K w.params) mg base CX0 9 fa fd ["_law_script"] (spLaw (K w.params))) :
    PySem.W.WalkO q loose XP YP l.row.toRowW d [] (fun f vs => PySem.call f vs) :=
  L2.walk_ofB (n := 63) (k := 9) (x := "_law_script") (CX := fun _ => CX0) (sp := fun w => spLaw (K w.params)) hn (by decide) hdf ⟨rfl, by decide, by decide⟩ hY F (fun _ _ a ns hl hb hS => ⟨a, ns, rfl, hS, hl, hb, fun _ => rfl⟩) fun _ _ _ _ _ z => z
end My
open PySem PySem.W PyProof.Rows
set_option maxRecDepth 100000 in
set_option maxHeartbeats 0 in
theorem PySem.Challenge.cw_momentloom_k24_wheels_used_holds : PySem.Challenge.rw_momentloom_k24_wheels_used.Holds := by
  w_on; o_law; k_head; (case hw => w_witness2)
  k_fill
  refine My.walk (l := PySem.Challenge.rw_momentloom_k24_wheels_used) rfl rfl (fun w h Y => PySem.W.kIn_of Y) ?F
  case F =>
    intro w mg fa h KX G hmg
    refine' My.all_mk KX G hmg ?a1 ?l1 ?c1 ?k1 ?a2 ?l2 ?c2 ?k2 ?a3 ?l3 ?c3 ?k3 ?a4 ?l4 ?c4 ?k4 ?a5 ?l5 ?c5 ?k5 ?a6 ?l6 ?c6 ?k6 ?a7 ?l7 ?c7 ?k7 ?a8 ?l8 ?c8 ?k8 ?a9 ?l9 ?c9 ?k9 ?a10 ?l10 ?c10 ?k10 ?a11 ?l11 ?c11 ?k11 ?a12 ?l12 ?c12 ?k12 ?a13 ?l13 ?c13 ?k13 ?a14 ?l14 ?c14 ?k14 ?a15 ?l15 ?c15 ?k15 ?aCC ?a16 ?i16 ?l16 ?c16 ?k16 ?pgCC ?hdCC ?poCC ?saCC ?mkCC ?kcCC ?aCW ?a17 ?i17 ?l17 ?c17 ?k17 ?a18 ?i18 ?l18 ?c18 ?k18 ?a19 ?i19 ?l19 ?c19 ?k19 ?a20 ?i20 ?l20 ?c20 ?k20 ?a21 ?i21 ?l21 ?c21 ?k21 ?a22 ?i22 ?l22 ?c22 ?k22 ?a23 ?i23 ?l23 ?c23 ?k23 ?a24 ?i24 ?l24 ?c24 ?k24 ?a25 ?i25 ?l25 ?c25 ?k25 ?pgCW ?hdCW ?poCW ?saCW ?mkCW ?kcCW ?nCWthings ?nCWrows ?nCWspan ?nCWearliest ?csp ?crd ?cfc ?wha ?whn ?whk ?whm ?wkt ?wro ?zlen ?zabs ?zisinstance ?zlist ?ztuple ?zstr ?zint ?zbool ?zrange ?zmax ?zdict ?zmin
    (case a1 => k_is)
    (case l1 => k_is)
    (case c1 => k_is)
    (case k1 => k_is)
    (case a2 => k_is)
    (case l2 => k_is)
    (case c2 => k_is)
    (case k2 => k_is)
    (case a3 => k_is)
    (case l3 => k_is)
    (case c3 => k_is)
    (case k3 => k_is)
    (case a4 => k_is)
    (case l4 => k_is)
    (case c4 => k_is)
    (case k4 => k_is)
    (case a5 => k_is)
    (case l5 => k_is)
    (case c5 => k_is)
    (case k5 => k_is)
    (case a6 => k_is)
    (case l6 => k_is)
    (case c6 => k_is)
    (case k6 => k_is)
    (case a7 => k_is)
    (case l7 => k_is)
    (case c7 => k_is)
    (case k7 => k_is)
    (case a8 => k_is)
    (case l8 => k_is)
    (case c8 => k_is)
    (case k8 => k_is)
    (case a9 => k_is)
    (case l9 => k_is)
    (case c9 => k_is)
    (case k9 => k_is)
    (case a10 => k_is)
    (case l10 => k_is)
    (case c10 => k_is)
    (case k10 => k_is)
    (case a11 => k_is)
    (case l11 => k_is)
    (case c11 => k_is)
    (case k11 => k_is)
    (case a12 => k_is)
    (case l12 => k_is)
    (case c12 => k_is)
    (case k12 => k_is)
    (case a13 => k_is)
    (case l13 => k_is)
    (case c13 => k_is)
    (case k13 => k_is)
    (case a14 => k_is)
    (case l14 => k_is)
    (case c14 => k_is)
    (case k14 => k_is)
    (case a15 => k_is)
    (case l15 => k_is)
    (case c15 => k_is)
    (case k15 => k_is)
    (case aCC => k_is)
    (case a16 => k_is)
    (case i16 => k_is)
    (case l16 => k_is)
    (case c16 => k_is)
    (case k16 => k_is)
    (case pgCC => k_is)
    (case hdCC => k_is)
    (case poCC => k_is)
    (case saCC => k_is)
    (case mkCC => k_is)
    (case kcCC => k_is)
    (case aCW => k_is)
    (case a17 => k_is)
    (case i17 => k_is)
    (case l17 => k_is)
    (case c17 => k_is)
    (case k17 => k_is)
    (case a18 => k_is)
    (case i18 => k_is)
    (case l18 => k_is)
    (case c18 => k_is)
    (case k18 => k_is)
    (case a19 => k_is)
    (case i19 => k_is)
    (case l19 => k_is)
    (case c19 => k_is)
    (case k19 => k_is)
    (case a20 => k_is)
    (case i20 => k_is)
    (case l20 => k_is)
    (case c20 => k_is)
    (case k20 => k_is)
    (case a21 => k_is)
    (case i21 => k_is)
    (case l21 => k_is)
    (case c21 => k_is)
    (case k21 => k_is)
    (case a22 => k_is)
    (case i22 => k_is)
    (case l22 => k_is)
    (case c22 => k_is)
    (case k22 => k_is)
    (case a23 => k_is)
    (case i23 => k_is)
    (case l23 => k_is)
    (case c23 => k_is)
    (case k23 => k_is)
    (case a24 => k_is)
    (case i24 => k_is)
    (case l24 => k_is)
    (case c24 => k_is)
    (case k24 => k_is)
    (case a25 => k_is)
    (case i25 => k_is)
    (case l25 => k_is)
    (case c25 => k_is)
    (case k25 => k_is)
    (case pgCW => k_is)
    (case hdCW => k_is)
    (case poCW => k_is)
    (case saCW => k_is)
    (case mkCW => k_is)
    (case kcCW => k_is)
    (case nCWthings => k_is)
    (case nCWrows => k_is)
    (case nCWspan => k_is)
    (case nCWearliest => k_is)
    (case csp => k_is)
    (case crd => k_is)
    (case cfc => k_is)
    (case wha => k_is)
    (case whn => k_is)
    (case whk => k_is)
    (case whm => k_is)
    (case wkt => kit_is)
    (case wro => k_is)
    (case zlen => k_is)
    (case zabs => k_is)
    (case zisinstance => k_is)
    (case zlist => k_is)
    (case ztuple => k_is)
    (case zstr => k_is)
    (case zint => k_is)
    (case zbool => k_is)
    (case zrange => k_is)
    (case zmax => k_is)
    (case zdict => k_is)
    (case zmin => k_is)

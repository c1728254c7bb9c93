import PyProof.Rows.All
import Wide.All
import OpenK.AllK
import Wide.FinOn
import Lean
import PyProof.EqAt
import PyProof.EqKinds
import PyProof.TupleCall
import PySem.Challenge.RW_duelground_k02_some_places_and_moves

set_option Elab.async false
set_option linter.all false
set_option maxRecDepth 100000
/-! THE HAND LAYER, for ints, bools, texts, own classes, LISTS and tuples (index, slices, in, append, pop ..), calls, loops. Paste it whole ahead of your own text; what your proof does not reach may be deleted. -/
namespace L2
open PySem PySem.Spec PyProof.Rows

/-- a key: an int or a str -/
abbrev Key := Sum Int Str
def keyIs : Key → Value → Bool
  | .inl k, v => Value.isInt k v
  | .inr x, v => Value.isStrOf x v
def keyH (w : World) : Key → Int
  | .inl k => hashInt k
  | .inr x => hashStr w x
theorem keyIs_shape : ∀ {k : Key} {v : Value}, keyIs k v = true → (∃ i t, k = Sum.inl i ∧ v = Value.int i t) ∨ (∃ x t, k = Sum.inr x ∧ v = Value.str x t)
  | .inl i, v, h => by
    obtain ⟨t, e⟩ := Value.isInt_shape (k := i) (v := v) h
    exact .inl ⟨i, t, rfl, e⟩
  | .inr x, v, h => by
    obtain ⟨t, e⟩ := Value.isStrOf_shape (x := x) (v := v) h
    exact .inr ⟨x, t, rfl, e⟩
theorem keyIs_int (i : Int) (t : Tok) : keyIs (.inl i) (.int i t) = true := by simp [keyIs, Value.isInt]
theorem keyIs_str (x : Str) (t : Tok) : keyIs (.inr x) (.str x t) = true := by simp [keyIs, Value.isStrOf]
theorem key_ll (a b : Int) : decide ((Sum.inl a : Key) = Sum.inl b) = (a == b) := by
  by_cases e : a = b
  · subst e; simp
  · have h : ¬ (Sum.inl a : Key) = Sum.inl b := fun q => e (Sum.inl.inj q)
    rw [decide_eq_false h]
    exact (beq_eq_false_iff_ne.mpr e).symm
theorem key_rr (a b : Str) : decide ((Sum.inr a : Key) = Sum.inr b) = decide (a = b) := by
  by_cases e : a = b
  · subst e; simp
  · have h : ¬ (Sum.inr a : Key) = Sum.inr b := fun q => e (Sum.inr.inj q)
    rw [decide_eq_false h, decide_eq_false e]
theorem key_lr (a : Int) (b : Str) : decide ((Sum.inl a : Key) = Sum.inr b) = false := decide_eq_false (fun q => nomatch q)
theorem key_rl (a : Str) (b : Int) : decide ((Sum.inr a : Key) = Sum.inl b) = false := decide_eq_false (fun q => nomatch q)

def mixKind (prog : Program) (w : World) : PySem.KeyKind prog w Key where
  is := keyIs
  hash := keyH w
  inj := fun v a b ha hb => by
    rcases keyIs_shape ha with ⟨i, t, rfl, rfl⟩ | ⟨x, t, rfl, rfl⟩
    · rcases keyIs_shape hb with ⟨j, u, rfl, e⟩ | ⟨y, u, rfl, e⟩
      · injection e with e1 _; rw [e1]
      · exact nomatch e
    · rcases keyIs_shape hb with ⟨j, u, rfl, e⟩ | ⟨y, u, rfl, e⟩
      · exact nomatch e
      · injection e with e1 _; rw [e1]
  byValue := fun k v h => by
    rcases keyIs_shape h with ⟨i, t, rfl, rfl⟩ | ⟨x, t, rfl, rfl⟩ <;> rfl
  pyHash := fun hv h => by
    rcases keyIs_shape hv with ⟨i, t, rfl, rfl⟩ | ⟨x, t, rfl, rfl⟩
    · exact wpAny_pyHash_int h
    · exact wpAny_pyHash_str h
  eqBool := fun hu hv h => by
    rcases keyIs_shape hu with ⟨i, t, rfl, rfl⟩ | ⟨x, t, rfl, rfl⟩
    · rcases keyIs_shape hv with ⟨j, u, rfl, rfl⟩ | ⟨y, u, rfl, rfl⟩
      · rw [key_ll] at h; exact wpAny_eqBool_int h
      · rw [key_lr] at h; exact SeqAt.EqAt.int_str i t y u _ _ _ _ h
    · rcases keyIs_shape hv with ⟨j, u, rfl, rfl⟩ | ⟨y, u, rfl, rfl⟩
      · rw [key_rl] at h; exact SeqAt.EqAt.str_int x t j u _ _ _ _ h
      · rw [key_rr] at h; exact wpAny_eqBool_str h
  «strs» := fun k x t v h => by
    rcases keyIs_shape h with ⟨i, u, rfl, e⟩ | ⟨y, u, rfl, e⟩
    · exact nomatch e
    · injection e with e1 _
      subst e1
      cases v <;> rfl

theorem mixKind_is (prog : Program) (w : World) (k : Key) (v : Value) : (mixKind prog w).is k v = keyIs k v := rfl
theorem mixKind_int (prog : Program) (w : World) (i : Int) (t : Tok) : (mixKind prog w).is (.inl i) (.int i t) = true := keyIs_int i t
theorem mixKind_str (prog : Program) (w : World) (x : Str) (t : Tok) : (mixKind prog w).is (.inr x) (.str x t) = true := keyIs_str x t
end L2

namespace L2
open PySem PySem.Spec PyProof.Rows

/-- a value, without the heap -/
inductive V where
  | non | bl (b : Bool) | int (i : Int) | str (x : Str) | byt (b : Array UInt8) | flt (b : UInt64) | ref (a : Addr) | ty (n : String)
  deriving DecidableEq

def RelV : V → Value → Prop
  | .non, u => u = Value.none
  | .bl b, u => u = Value.bool b
  | .int i, u => ∃ t, u = Value.int i t
  | .str x, u => ∃ t, u = Value.str x t
  | .byt b, u => ∃ t, u = Value.bytes b t
  | .flt b, u => ∃ t, u = Value.float b t
  | .ref a, u => u = Value.ref a
  | .ty n, u => u = Value.type n

abbrev Vals : List V → List Value → Prop := Paired RelV
theorem Vals.length {xs : List V} {us : List Value} (r : Vals xs us) : xs.length = us.length := Paired.length r
theorem Vals.get : ∀ {xs : List V} {us : List Value} {i : Nat} {x : V}, Vals xs us → xs[i]? = some x → ∃ u, us[i]? = some u ∧ RelV x u
  | _, _, _, _, .nil, e => by simp at e
  | _, _, 0, _, .cons r _, e => by simp at e; subst e; exact ⟨_, rfl, r⟩
  | _, _, i + 1, x, .cons _ t, e => by
    obtain ⟨u, h1, h2⟩ := Vals.get (i := i) (x := x) t (by simpa using e)
    exact ⟨u, by simpa using h1, h2⟩
theorem Vals.set {x : V} {u : Value} (r : RelV x u) : ∀ {xs : List V} {us : List Value} (i : Nat), Vals xs us → Vals (xs.set i x) (us.set i u)
  | _, _, _, .nil => .nil
  | _, _, 0, .cons _ t => .cons r t
  | _, _, i + 1, .cons q t => .cons q (Vals.set r i t)
theorem Vals.append : ∀ {xs ys : List V} {us ws : List Value}, Vals xs us → Vals ys ws → Vals (xs ++ ys) (us ++ ws)
  | _, _, _, _, .nil, s => s
  | _, _, _, _, .cons r t, s => .cons r (Vals.append t s)
theorem Vals.take : ∀ {xs : List V} {us : List Value} (n : Nat), Vals xs us → Vals (xs.take n) (us.take n)
  | _, _, 0, _ => .nil
  | _, _, _ + 1, .nil => .nil
  | _, _, n + 1, .cons r t => .cons r (Vals.take n t)
theorem Vals.drop : ∀ {xs : List V} {us : List Value} (n : Nat), Vals xs us → Vals (xs.drop n) (us.drop n)
  | _, _, 0, r => r
  | _, _, _ + 1, .nil => .nil
  | _, _, n + 1, .cons _ t => Vals.drop n t
theorem Vals.none_of : ∀ {xs : List V} {us : List Value} {i : Nat}, Vals xs us → xs[i]? = none → us[i]? = none := fun {xs us i} r e => by
  have h1 := r.length
  have h2 : xs.length ≤ i := List.getElem?_eq_none_iff.mp e
  exact List.getElem?_eq_none_iff.mpr (by omega)

def RelO : Option V → Option Value → Prop
  | some v, some u => RelV v u
  | none, none => True
  | _, _ => False
def KV {κ : Type} : List (κ × V) → List (κ × Value) → Prop := Paired fun (p : κ × V) (q : κ × Value) => p.1 = q.1 ∧ RelV p.2 q.2

/-- a key of a dict (00_mix): an int or a text -/
def kV : Key → V
  | .inl i => .int i
  | .inr x => .str x

/-- what stands at a tracked address -/
inductive HO where
  /-- a list -/
  | lst (xs : List V)
  /-- a tuple (never changes) -/
  | tup (xs : List V)
  /-- a dict whose keys are ints and texts; one whose keys are tuples of ints and texts (the empty one is both) -/
  | dK (kvs : List (Key × V)) | dT (kvs : List (List Key × V))
  /-- a set of ints: its members, its size -/
  | set (S : Int → Bool) (n : Nat)
  /-- an instance of the class at C, its dict at dx, its attributes -/
  | ins (C dx : Addr) (fs : List (Str × V))
  /-- the dict of the instance at x -/
  | own (x : Addr)
  /-- the dict of an exception -/
  | xd (fs : List (Str × V))
  /-- a bound method, f of x -/
  | met (f x : Addr)
  /-- a range object lo, lo + 1, .. below hi -/
  | rng (lo hi : Int)
  /-- a thing that is known to the object (the script; a dict while a loop walks it): read, never written while it is so -/
  | frz (o : Obj) (u : HO)
  /-- a code object's table -/
  | tbl (ps : Array Value)
  /-- any other thing, by what is true of its one object (a def of one's own: SetO a S n := HO.ext fun h => ..) -/
  | ext (φ : Heap → Prop)

abbrev Hp := Addr → Option HO
def upd (H : Hp) (a : Addr) (o : HO) : Hp := fun b => if b = a then some o else H b
theorem upd_same {H : Hp} {a : Addr} {o : HO} : upd H a o a = some o := by unfold upd; rw [if_pos rfl]
theorem upd_ne {H : Hp} {a b : Addr} {o : HO} (h : b ≠ a) : upd H a o b = H b := by unfold upd; rw [if_neg h]
theorem upd_upd {H : Hp} {a : Addr} {o u : HO} : upd (upd H a o) a u = upd H a u := by
  funext b; unfold upd; split <;> rfl
/-- two objects of different content stand apart -/
theorem ne_of {H : Hp} {a b : Addr} {o u : HO} (h : H a = some o) (h' : H b = some u) (d : o ≠ u) : a ≠ b := by
  intro e; subst e; rw [h] at h'; exact d (Option.some.inj h')
theorem ne_of_none {H : Hp} {a b : Addr} {o : HO} (h : H a = some o) (h' : H b = none) : a ≠ b := by
  intro e; subst e; rw [h] at h'; cases h'

section
variable (P : Program) (w : World)
def ObjOk (H : Hp) (h : Heap) (a : Addr) : HO → Prop
  | .lst xs => xs.length ≤ sizeLine ∧ ∃ (its : List Value) (n : Nat), Vals xs its ∧ h.get? a = some { cls := .type "list", data := .seq its.toArray n }
  | .tup xs => xs.length ≤ sizeLine ∧ ∃ its : List Value, Vals xs its ∧ IsTup h a its.toArray
  | .dK kvs => kvs.length ≤ sizeLine ∧ (a == sysModules) = false ∧ ∃ vs, KV kvs vs ∧ h.DictOf (mixKind P w) a vs
  | .dT kvs => kvs.length ≤ sizeLine ∧ (a == sysModules) = false ∧ ∃ xs : List (List Key × Addr × Value),
      Paired (fun (p : List Key × V) (q : List Key × Addr × Value) => p.1 = q.1 ∧ H q.2.1 = some (.tup (p.1.map kV)) ∧ RelV p.2 q.2.2) kvs xs ∧
      ∃ o es ep, h.get? a = some o ∧ o.ExactDict ∧ o.data = .dict es ep ∧ es.toList = xs.map (entryOfKey (tupleKind (mixKind P w))) ∧ (xs.map (·.1)).Nodup
  | .set S n => h.SetOf (intKind P w) a S n
  | .ins C dx fs => H dx = some (.own a) ∧ fs.length ≤ 1000 ∧ dx ≠ a ∧ h.get? a = some (PySem.W.instObj C dx) ∧
      ∃ mA, h.Ns1 dx mA ∧ (∀ f, RelO (fs.lookup f) (mA f)) ∧ PySem.Within mA (fs.map (·.1))
  | .own _ => ∃ o, h.get? a = some o
  | .xd fs => ∃ mA, h.Ns1 a mA ∧ ∀ f, RelO (fs.lookup f) (mA f)
  | .rng lo hi => ∃ t u v, h.get? a = some { cls := .type "range", data := .fields #[.int lo t, .int hi u, .int 1 v] }
  | .frz o u => h.get? a = some o ∧ ObjOk H h a u
  | .tbl ps => h.get? a = some { cls := .none, data := .fields ps }
  | .met f x => h.get? a = some (PySem.W.methodObj (.ref f) (.ref x))
  | .ext φ => φ h ∧ (∃ o, h.get? a = some o) ∧ ∀ h1 h2 : Heap, φ h1 → (∀ o, h1.get? a = some o → h2.get? a = some o) → φ h2
/-- the abstract heap is held -/
def HOk (H : Hp) (h : Heap) : Prop := ∀ a o, H a = some o → ObjOk P w H h a o
end

section
variable {P : Program} {w : World} {H H' : Hp} {h h' : Heap} {a : Addr} {o : HO}
theorem ObjOk.lt (x : ObjOk P w H h a o) : a < h.objs.size := by
  cases o with
  | lst xs => obtain ⟨_, _, _, _, e⟩ := x; exact Heap.lt_size e
  | tup xs => obtain ⟨_, _, _, p⟩ := x; exact p.lt
  | dK kvs => obtain ⟨_, _, _, _, o, _, _, e, _⟩ := x; exact Heap.lt_size e
  | dT kvs => obtain ⟨_, _, _, _, o, _, _, e, _⟩ := x; exact Heap.lt_size e
  | set S n => obtain ⟨o, _, _, _, e, _⟩ := x; exact Heap.lt_size e
  | ins C dx fs => obtain ⟨_, _, _, e, _⟩ := x; exact Heap.lt_size e
  | own y => obtain ⟨_, e⟩ := x; exact Heap.lt_size e
  | xd fs => obtain ⟨_, ⟨_, _, _, e, _⟩, _⟩ := x; exact Heap.lt_size e
  | rng lo hi => obtain ⟨_, _, _, e⟩ := x; exact Heap.lt_size e
  | frz ob u => obtain ⟨e, _⟩ := x; exact Heap.lt_size e
  | tbl ps => exact Heap.lt_size (show h.get? a = some _ from x)
  | met f y => exact Heap.lt_size (show h.get? a = some _ from x)
  | ext φ => obtain ⟨_, ⟨_, e⟩, _⟩ := x; exact Heap.lt_size e
theorem Paired.mapP {α β : Type} {F G : α → β → Prop} : ∀ {l₁ : List α} {l₂ : List β}, Paired F l₁ l₂ → (∀ a b, F a b → G a b) → Paired G l₁ l₂
  | _, _, .nil, _ => .nil
  | _, _, .cons r t, f => .cons (f _ _ r) (Paired.mapP t f)
theorem Paired.imp' {α β : Type} {F G : α → β → Prop} (f : ∀ a b, F a b → G a b) {l₁ : List α} {l₂ : List β} (r : Paired F l₁ l₂) : Paired G l₁ l₂ := Paired.mapP r f
/-- what an object's description leans on: its own object, its own dict, the tuples -/
theorem ObjOk.stay (x : ObjOk P w H h a o) (k : ∀ b u, (b = a ∨ H b = some (.own a)) → h.get? b = some u → h'.get? b = some u)
    (ho : ∀ b, H b = some (.own a) → H' b = some (.own a)) (ht : ∀ b xs, H b = some (.tup xs) → H' b = some (.tup xs)) : ObjOk P w H' h' a o := by
  induction o with
  | lst xs => obtain ⟨z, its, n, r, e⟩ := x; exact ⟨z, its, n, r, k _ _ (.inl rfl) e⟩
  | tup xs => obtain ⟨z, its, r, ob, e, c⟩ := x; exact ⟨z, its, r, ob, k _ _ (.inl rfl) e, c⟩
  | dK kvs => obtain ⟨z, y, vs, r, ob, es, ep, e, c⟩ := x; exact ⟨z, y, vs, r, ob, es, ep, k _ _ (.inl rfl) e, c⟩
  | dT kvs =>
    obtain ⟨z, y, xs, r, ob, es, ep, e, c⟩ := x
    exact ⟨z, y, xs, Paired.mapP r fun p q z => ⟨z.1, ht _ _ z.2.1, z.2.2⟩, ob, es, ep, k _ _ (.inl rfl) e, c⟩
  | set S n => obtain ⟨ob, es, ep, t, e, c⟩ := x; exact ⟨ob, es, ep, t, k _ _ (.inl rfl) e, c⟩
  | ins C dx fs =>
    obtain ⟨d, z, ne, e, mA, ⟨od, es, ep, e2, c⟩, r⟩ := x
    exact ⟨ho _ d, z, ne, k _ _ (.inl rfl) e, mA, ⟨od, es, ep, k _ _ (.inr d) e2, c⟩, r⟩
  | own y => obtain ⟨ob, e⟩ := x; exact ⟨ob, k _ _ (.inl rfl) e⟩
  | xd fs => obtain ⟨mA, ⟨od, es, ep, e, c⟩, r⟩ := x; exact ⟨mA, ⟨od, es, ep, k _ _ (.inl rfl) e, c⟩, r⟩
  | rng lo hi => obtain ⟨t, u, v, e⟩ := x; exact ⟨t, u, v, k _ _ (.inl rfl) e⟩
  | frz ob u ih => obtain ⟨e, q⟩ := x; exact ⟨k _ _ (.inl rfl) e, ih q⟩
  | tbl ps =>
    have e : h.get? a = some { cls := .none, data := .fields ps } := x
    show h'.get? a = some { cls := .none, data := .fields ps }
    exact k a _ (.inl rfl) e
  | met f y =>
    have e : h.get? a = some (PySem.W.methodObj (.ref f) (.ref y)) := x
    show h'.get? a = some (PySem.W.methodObj (.ref f) (.ref y))
    exact k a _ (.inl rfl) e
  | ext φ => obtain ⟨p, ⟨o, e⟩, st⟩ := x; exact ⟨st _ _ p fun o q => k _ _ (.inl rfl) q, ⟨o, k _ _ (.inl rfl) e⟩, st⟩
theorem HOk.lt (x : HOk P w H h) (e : H a = some o) : a < h.objs.size := (x a o e).lt
theorem HOk.fresh (x : HOk P w H h) (e : h.objs.size ≤ a) : H a = none := by
  cases q : H a with
  | none => rfl
  | some u => exact absurd (Nat.lt_of_lt_of_le (x.lt q) e) (Nat.lt_irrefl _)
/-- every object of the heap is kept -/
theorem HOk.kept (x : HOk P w H h) (k : ∀ b u, h.get? b = some u → h'.get? b = some u) : HOk P w H h' := fun a o e =>
  (x a o e).stay (fun b u _ q => k b u q) (fun _ q => q) fun _ _ q => q
/-- a new object is laid and tracked -/
theorem HOk.laid (x : HOk P w H h) (k : ∀ b u, h.get? b = some u → h'.get? b = some u) (hp : h.objs.size ≤ a) (new : ObjOk P w (upd H a o) h' a o) : HOk P w (upd H a o) h' := fun b u e => by
  have hn := x.fresh hp
  by_cases hb : b = a
  · subst hb; rw [upd_same] at e; cases e; exact new
  · rw [upd_ne hb] at e
    exact (x b u e).stay (fun c v _ q => k c v q) (fun c q => by rw [upd_ne (ne_of_none q hn)]; exact q) fun c xs q => by rw [upd_ne (ne_of_none q hn)]; exact q
end

/-- what may be read as u: it is u, or a known u -/
def Rd (H : Hp) (a : Addr) (u : HO) : Prop := H a = some u ∨ ∃ o, H a = some (.frz o u)
theorem Rd.of {H : Hp} {a : Addr} {u : HO} (h : H a = some u) : Rd H a u := .inl h
theorem Rd.ok {P : Program} {w : World} {H : Hp} {h : Heap} {a : Addr} {u : HO} (r : Rd H a u) (x : HOk P w H h) : ObjOk P w H h a u := by
  rcases r with r | ⟨o, r⟩
  · exact x a u r
  · obtain ⟨_, q⟩ := x a _ r
    exact q
/-- what may be written -/
def Mut : Option HO → Prop
  | some (.lst _) => True
  | some (.dK _) => True
  | some (.dT _) => True
  | some (.set _ _) => True
  | some (.ins _ _ _) => True
  | some (.ext _) => True
  | _ => False
section
variable {P : Program} {w : World} {H : Hp} {h h' : Heap} {x e : Addr} {o' : HO}
/-- the object at e is changed: x itself, or the dict of the instance x -/
theorem HOk.write (ok : HOk P w H h) (mu : Mut (H x)) (he : e = x ∨ H e = some (.own x)) (k : ∀ b u, b ≠ e → h.get? b = some u → h'.get? b = some u) (heo : ∃ u, h'.get? e = some u)
    (new : ObjOk P w (upd H x o') h' x o') : HOk P w (upd H x o') h' := fun b u q => by
  have nown : ∀ c y, H c = some (.own y) → c ≠ x := fun c y r z => by subst z; rw [r] at mu; exact mu
  have ntup : ∀ c xs, H c = some (.tup xs) → c ≠ x := fun c xs r z => by subst z; rw [r] at mu; exact mu
  by_cases hb : b = x
  · subst hb; rw [upd_same] at q; cases q; exact new
  · rw [upd_ne hb] at q
    by_cases hbe : b = e
    · have q' : H b = some (.own x) := by
        rcases he with z | z
        · exact absurd (hbe.trans z) hb
        · rw [hbe]; exact z
      rw [q] at q'; cases q'
      obtain ⟨v, hv⟩ := heo
      exact ⟨v, by rw [hbe]; exact hv⟩
    · refine (ok b u q).stay (fun c v hc r => k c v ?_ r) (fun c r => by rw [upd_ne (nown c b r)]; exact r) fun c xs r => by rw [upd_ne (ntup c xs r)]; exact r
      rcases hc with rfl | hc
      · exact hbe
      · rintro rfl
        rcases he with z | z
        · exact nown c b hc z
        · rw [hc] at z; cases z; exact hb rfl
end

/-! ### kept unless tracked; of the frames at fs (the callers') the slots may change (an exception that passes writes there); of the records at ex (iterators) nothing is said -/
structure Un (fs ex : List Addr) (H H' : Hp) (h h' : Heap) : Prop where
  keep : ∀ b o, h.get? b = some o → H b = none → b ∉ fs → b ∉ ex → h'.get? b = some o
  slot : ∀ b o, h.get? b = some o → H b = none → b ∈ fs → b ∉ ex → ∃ sl, h'.get? b = some { o with slots := sl }
  free : ∀ b o, h.get? b = some o → H b = none → b ∉ ex → H' b = none
  there : ∀ b o, h.get? b = some o → b ∉ ex → ∃ o', h'.get? b = some o'
  tups : ∀ b xs, H b = some (.tup xs) → H' b = some (.tup xs)
  frzs : ∀ b o u, H b = some (.frz o u) → H' b = some (.frz o u)
  tbls : ∀ b ps, H b = some (.tbl ps) → ∃ more, H' b = some (.tbl (ps ++ more))
section
variable {fs fs' ex ex' : List Addr} {H H1 H2 : Hp} {h h1 h2 h' : Heap} {a x e : Addr} {o : HO}
theorem Un.any (u : Un fs ex H H1 h h1) {b : Addr} {ob : Obj} (q : h.get? b = some ob) (n : H b = none) (hx : b ∉ ex) : ∃ sl, h1.get? b = some { ob with slots := sl } := by
  by_cases hb : b ∈ fs
  · exact u.slot b ob q n hb hx
  · exact ⟨ob.slots, u.keep b ob q n hb hx⟩
theorem Un.trans (a : Un fs ex H H1 h h1) (b : Un fs ex H1 H2 h1 h2) : Un fs ex H H2 h h2 where
  keep := fun c ob q n hc hx => b.keep c ob (a.keep c ob q n hc hx) (a.free c ob q n hx) hc hx
  slot := fun c ob q n hc hx => by
    obtain ⟨sl, e1⟩ := a.slot c ob q n hc hx
    obtain ⟨sl', e2⟩ := b.slot c _ e1 (a.free c ob q n hx) hc hx
    exact ⟨sl', e2⟩
  free := fun c ob q n hx => by
    obtain ⟨o', e1⟩ := a.there c ob q hx
    exact b.free c o' e1 (a.free c ob q n hx) hx
  there := fun c ob q hx => by
    obtain ⟨o', e1⟩ := a.there c ob q hx
    exact b.there c o' e1 hx
  tups := fun c xs q => b.tups c xs (a.tups c xs q)
  frzs := fun c ob xs q => b.frzs c ob xs (a.frzs c ob xs q)
  tbls := fun c ps q => by
    obtain ⟨m1, e1⟩ := a.tbls c ps q
    obtain ⟨m2, e2⟩ := b.tbls c _ e1
    exact ⟨m1 ++ m2, by rw [e2, Array.append_assoc]⟩
theorem Un.kept (k : ∀ b u, h.get? b = some u → h'.get? b = some u) : Un fs ex H H h h' :=
  ⟨fun b ob q _ _ _ => k b ob q, fun b ob q _ _ _ => ⟨ob.slots, k b ob q⟩, fun _ _ _ n _ => n, fun b ob q _ => ⟨ob, k b ob q⟩, fun _ _ q => q, fun _ _ _ q => q, fun _ ps q => ⟨#[], by rw [q]; simp⟩⟩
theorem Un.refl : Un fs ex H H h h := Un.kept fun _ _ q => q
theorem Un.laid (k : ∀ b u, h.get? b = some u → h'.get? b = some u) (hp : h.objs.size ≤ a) (hn : H a = none) : Un fs ex H (upd H a o) h h' where
  keep := fun b u q _ _ _ => k b u q
  slot := fun b u q _ _ _ => ⟨u.slots, k b u q⟩
  free := fun b u q n _ => by rw [upd_ne (Nat.ne_of_lt (Nat.lt_of_lt_of_le (Heap.lt_size q) hp))]; exact n
  there := fun b u q _ => ⟨u, k b u q⟩
  tups := fun b xs q => by rw [upd_ne (ne_of_none q hn)]; exact q
  frzs := fun b u xs q => by rw [upd_ne (ne_of_none q hn)]; exact q
  tbls := fun b ps q => ⟨#[], by rw [upd_ne (ne_of_none q hn), q]; simp⟩
theorem Un.write (mu : Mut (H x)) (he : e = x ∨ H e = some (.own x)) (k : ∀ b u, b ≠ e → h.get? b = some u → h'.get? b = some u) (heo : ∃ u, h'.get? e = some u) : Un fs ex H (upd H x o) h h' := by
  have hx : ∀ b, H b = none → b ≠ x := fun b n z => by subst z; rw [n] at mu; exact mu
  have hb : ∀ b, H b = none → b ≠ e := fun b n z => by
    subst z
    rcases he with r | r
    · exact hx b n r
    · rw [n] at r; cases r
  have hm : ∀ b u, H b = some u → ¬ Mut (some u) → b ≠ x := fun b u q nm z => by subst z; rw [q] at mu; exact nm mu
  refine ⟨fun b u q n _ _ => k b u (hb b n) q, fun b u q n _ _ => ⟨u.slots, k b u (hb b n) q⟩, fun b u q n _ => by rw [upd_ne (hx b n)]; exact n, fun b u q _ => ?_,
    fun b xs q => by rw [upd_ne (hm b _ q fun z => z)]; exact q, fun b u xs q => by rw [upd_ne (hm b _ q fun z => z)]; exact q, fun b ps q => ⟨#[], by rw [upd_ne (hm b _ q fun z => z), q]; simp⟩⟩
  by_cases hbe : b = e
  · subst hbe; exact heo
  · exact ⟨u, k b u hbe q⟩
theorem Un.mono (u : Un fs ex H H1 h h1) (hs : ∀ b ∈ fs, b ∈ fs') (hx : ∀ b ∈ ex, b ∈ ex') : Un fs' ex' H H1 h h1 :=
  ⟨fun b ob q n hb he => u.keep b ob q n (fun z => hb (hs b z)) fun z => he (hx b z), fun _ _ q n _ he => u.any q n fun z => he (hx _ z), fun b ob q n he => u.free b ob q n fun z => he (hx b z), fun b ob q he => u.there b ob q fun z => he (hx b z), u.tups, u.frzs, u.tbls⟩
end

/-! ### the heap without what is tracked -/
def trk (h : Heap) (H : Hp) : List Addr := (List.range h.objs.size).filter fun a => (H a).isSome
def hidT (h : Heap) (H : Hp) : Heap := PySem.W.hideAll h (trk h H)
theorem hidT_size (h : Heap) (H : Hp) : (hidT h H).objs.size = h.objs.size := PySem.W.hideAll_size _ _
theorem hidT_get {h : Heap} {H : Hp} {b : Addr} {o : Obj} (e : h.get? b = some o) (n : H b = none) : (hidT h H).get? b = some o :=
  PySem.W.hideAll_get _ e fun hm => by
    have q : (H b).isSome = true := (List.mem_filter.mp hm).2
    rw [n] at q; simp at q
theorem of_hidT {h : Heap} {H : Hp} {b : Addr} {o : Obj} (e : (hidT h H).get? b = some o) : h.get? b = some o ∧ H b = none := by
  have e' : h.get? b = some o := PySem.W.of_hideAll (trk h H) e
  refine ⟨e', ?_⟩
  cases q : H b with
  | none => rfl
  | some x =>
    have hm : b ∈ trk h H := List.mem_filter.mpr ⟨List.mem_range.mpr (Heap.lt_size e'), by simp [q]⟩
    have z : (hidT h H).get? b = none := PySem.W.hideAll_none (trk h H) hm
    rw [z] at e; cases e

/-! ### OpenK's ledger, filled with every new object but one -/
def allNews (g h : Heap) (L : Addr) : List (Addr × Obj) := (List.range h.objs.size).filterMap fun a => if a = L ∨ (g.get? a).isSome = true then none else (h.get? a).map fun o => (a, o)
theorem mem_allNews {g h : Heap} {L a : Addr} {o : Obj} (h1 : a ≠ L) (h2 : g.get? a = none) (h3 : h.get? a = some o) : (a, o) ∈ allNews g h L :=
  List.mem_filterMap.mpr ⟨a, List.mem_range.mpr (Heap.lt_size h3), by simp [h1, h2, h3]⟩
theorem of_mem_allNews {g h : Heap} {L : Addr} {p : Addr × Obj} (hp : p ∈ allNews g h L) : p.1 ≠ L ∧ g.get? p.1 = none ∧ h.get? p.1 = some p.2 := by
  obtain ⟨b, _, e⟩ := List.mem_filterMap.mp hp
  split at e
  · cases e
  · rename_i hn
    cases q : h.get? b with
    | none => rw [q] at e; simp at e
    | some u =>
      rw [q] at e
      simp only [Option.map_some, Option.some.injEq] at e
      subst e
      refine ⟨fun z => hn (.inl z), ?_, q⟩
      show g.get? b = none
      cases r : g.get? b with
      | none => rfl
      | some v => exact (hn (.inr (by simp [r]))).elim
def rest (g h : Heap) (L d : Addr) : List (Addr × Obj) := (allNews g h L).filter fun p => decide (p.1 ≠ d)
theorem rest_ne {g h : Heap} {L d : Addr} : ∀ p ∈ rest g h L d, p.1 ≠ d := fun p hp => of_decide_eq_true (List.mem_filter.mp hp).2
theorem mem_rest {g h : Heap} {L d a : Addr} {o : Obj} (h1 : a ≠ L) (h2 : g.get? a = none) (h3 : h.get? a = some o) (h4 : a ≠ d) : (a, o) ∈ rest g h L d :=
  List.mem_filter.mpr ⟨mem_allNews h1 h2 h3, decide_eq_true h4⟩
theorem news_all {g h : Heap} {L : Addr} : News g L h (allNews g h L) := fun p hp => let ⟨a, b, c⟩ := of_mem_allNews hp; ⟨c, a, b⟩
theorem news_at {g h : Heap} {L d : Addr} {o : Obj} (h1 : d ≠ L) (h2 : g.get? d = none) (h3 : h.get? d = some o) : News g L h ((d, o) :: rest g h L d) := fun p hp => by
  rcases List.mem_cons.mp hp with rfl | hp
  · exact ⟨h3, h1, h2⟩
  · exact news_all p (List.mem_filter.mp hp).1
/-- behind a rule that changed d alone: all else but the frame is kept -/
theorem kept_of_news {g h h' : Heap} {L d : Addr} {m : Str → Option Value} (k : ∀ b o, g.get? b = some o → h.get? b = some o) (F : Fr g L h' m) (N : News g L h' (rest g h L d)) :
    ∀ b o, b ≠ L → b ≠ d → h.get? b = some o → h'.get? b = some o := fun b o h1 h2 e => by
  cases q : g.get? b with
  | some u =>
    have := k b u q
    rw [e] at this; cases this
    exact F.keep b _ q
  | none => exact (N (b, o) (mem_rest h1 q e h2)).1
end L2

namespace L2
open PySem PySem.Spec PyProof.Rows

/-- the module's facts, over the base: the heap at the law's entry without what is tracked there -/
structure Mod (K : PySem.W.Frag) (mg : Str → Option Value) (base : Heap) : Prop where
  kin : K.In base
  glob : base.Ns mainGlobals mg
  blt : ∃ mb, base.Ns builtinsNs mb ∧ ∀ x : Str, x ≠ "__name__" → mb x = bootBuiltins x
  nolimit : base.NoLimit

/-- the context: a def's body (or a comprehension's block) running. base: fixed through the whole law; s₀, H₀: the entry; outer: the frames whose slots others may change (a def's callers); stack: all frames that run;
   ex: iterators that were made ahead of the entry and are walked here (a comprehension's); fn: the names whose cells were made at the entry (a def: all; a comprehension's block: its own); calm: not within an except suite; pn: pins that every state bears; xe: what is wanted of an exception that leaves the code -/
structure Cx where
  prog : Program
  w : World
  K : PySem.W.Frag
  mg : Str → Option Value
  base : Heap
  A : Around
  N : List Str
  s₀ : Shared
  H₀ : Hp
  env : Env
  outer : List Env
  stack : List Env
  ex : List Addr
  fn : Str → Bool
  calm : Bool
  pn : List (Addr × Obj)
  xe : Value → Shared → Prop
/-- the callers' frames -/
def frs (l : List Env) : List Addr := l.filterMap (·.frame)
abbrev Cx.fs (X : Cx) : List Addr := frs X.outer

def Vis (sc : Scope) (x : Str) : Prop := sc.names.lookup x = some .local ∨ sc.names.lookup x = some .cell ∨ sc.names.lookup x = some .free
def Loc (sc : Scope) (x : Str) : Prop := sc.names.lookup x = some .local ∨ sc.names.lookup x = some .cell
def Look (env : Env) (h : Heap) (m : Str → Option Value) (x : Str) (u : Value) : Prop :=
  (env.kindOf x = some .local ∧ m x = some u) ∨ ((env.kindOf x = some .cell ∨ env.kindOf x = some .free) ∧ ∃ c, env.cells.lookup x = some c ∧ h.IsCell c (some u))

structure Cx.Ok (X : Cx) : Prop where
  mod : Mod X.K X.mg X.base
  kind : X.env.scope.kind = .function
  glob : X.env.globals = mainGlobals
  blt : X.env.builtins = builtinsNs
  above : X.s₀.heap.objs.size ≤ X.env.locals
  inj : ∀ x y c, X.env.cells.lookup x = some c → X.env.cells.lookup y = some c → x = y
  has : ∀ x, (X.env.kindOf x = some .cell ∨ X.env.kindOf x = some .free) → ∃ c, X.env.cells.lookup x = some c
  cab : ∀ x c, X.fn x = true → X.env.cells.lookup x = some c → X.s₀.heap.objs.size ≤ c
  hd : X.calm = true → X.A.handled = none
  frames : X.A.frames = some X.stack
  stk : X.stack = X.outer ∨ (X.stack = X.env :: X.outer ∧ X.env.frame = some X.env.locals)
  exf : ∀ b ∈ X.ex, b ≠ X.env.locals ∧ ∀ x c, X.env.cells.lookup x = some c → c ≠ b
  bs : ∀ b o, X.base.get? b = some o → X.s₀.heap.get? b = some o ∧ X.H₀ b = none
  bsz : X.base.objs.size ≤ X.s₀.heap.objs.size
  noex : ∀ b o, X.base.get? b = some o → b ∉ X.ex
  exfs : ∀ b ∈ X.ex, b ∉ X.fs
  funs : X.s₀.heap.FunFrames X.base X.outer
  frf : ∀ b ∈ X.fs, X.H₀ b = none

structure Inv (X : Cx) (pins : List (Addr × Obj)) (σ : List (Option V)) (H : Hp) (s : Shared) : Prop where
  ok : X.Ok
  os : s.os = X.s₀.os
  bare : AllBare s.gens
  base : Un X.fs X.ex X.H₀ H X.s₀.heap s.heap
  loc : ∃ m, s.heap.Ns X.env.locals m ∧ ∀ (i : Nat) (x : Str) (v : V), X.N[i]? = some x → σ[i]? = some (some v) → Vis X.env.scope x → ∃ u, RelV v u ∧ Look X.env s.heap m x u
  cell : ∀ x c, X.env.cells.lookup x = some c → ∃ v, s.heap.IsCell c v
  free : H X.env.locals = none
  freeC : ∀ x c, X.env.cells.lookup x = some c → H c = none
  pin : ∀ p ∈ X.pn ++ pins, s.heap.get? p.1 = some p.2 ∧ H p.1 = none ∧ p.1 ≠ X.env.locals ∧ p.1 ∉ X.fs ∧ ∀ v, p.2.data ≠ .cell v
  hok : HOk X.prog X.w H s.heap
  len : σ.length = X.N.length

section
variable {X : Cx} {pins : List (Addr × Obj)} {σ : List (Option V)} {H H' : Hp} {s : Shared} {h' : Heap}

theorem Cx.Ok.nofr (ok : X.Ok) {b : Addr} {o : Obj} (e : X.base.get? b = some o) : b ∉ X.fs := fun hb => by
  have := (ok.funs.mem hb).1
  rw [e] at this; cases this
theorem Inv.bs (I : Inv X pins σ H s) : ∀ b o, X.base.get? b = some o → s.heap.get? b = some o ∧ H b = none := fun b o e =>
  ⟨I.base.keep b o (I.ok.bs b o e).1 (I.ok.bs b o e).2 (I.ok.nofr e) (I.ok.noex b o e), I.base.free b o (I.ok.bs b o e).1 (I.ok.bs b o e).2 (I.ok.noex b o e)⟩
theorem Inv.bk (I : Inv X pins σ H s) : ∀ b o, X.base.get? b = some o → s.heap.get? b = some o := fun b o e => (I.bs b o e).1
theorem Inv.mod (I : Inv X pins σ H s) : Mod X.K X.mg X.base := I.ok.mod
theorem Inv.kIn (I : Inv X pins σ H s) : X.K.In s.heap := I.ok.mod.kin.keeps I.bk
theorem Inv.nolimit (I : Inv X pins σ H s) : s.heap.NoLimit := I.ok.mod.nolimit.keeps I.bk
/-- the frame over the base: for OpenK's rules (K.In X.base is I.mod.kin) -/
theorem Inv.fr (I : Inv X pins σ H s) : ∃ m, Fr X.base X.env.locals s.heap m :=
  let ⟨m, hn, _⟩ := I.loc
  ⟨m, hn, I.bk, Nat.le_trans I.ok.bsz I.ok.above⟩
theorem Inv.lt (I : Inv X pins σ H s) : X.env.locals < s.heap.objs.size := let ⟨_, hn, _⟩ := I.loc; hn.lt
theorem Inv.sz (I : Inv X pins σ H s) : X.s₀.heap.objs.size ≤ s.heap.objs.size := Nat.le_trans I.ok.above (Nat.le_of_lt I.lt)
theorem Inv.nofs (I : Inv X pins σ H s) {a : Addr} (h : s.heap.objs.size ≤ a) : a ∉ X.fs := fun hb => by
  obtain ⟨_, o, ho, _⟩ := I.ok.funs.mem hb
  exact absurd (Nat.lt_of_lt_of_le (Heap.lt_size ho) (Nat.le_trans I.sz h)) (Nat.lt_irrefl _)
theorem Inv.cne (I : Inv X pins σ H s) : ∀ x c, X.env.cells.lookup x = some c → c ≠ X.env.locals := fun x c e z => by
  obtain ⟨v, o, ho, hd⟩ := I.cell x c e
  obtain ⟨m, ⟨o', es, ep, ho', hd', _⟩, _⟩ := I.loc
  rw [z, ho'] at ho; cases ho; rw [hd'] at hd; cases hd
theorem Inv.funs (I : Inv X pins σ H s) : s.heap.FunFrames X.base X.outer := by
  have all : ∀ (l : List Env), (∀ b ∈ frs l, b ∈ X.fs) → X.s₀.heap.FunFrames X.base l → s.heap.FunFrames X.base l := by
    intro l
    induction l with
    | nil => intro _ _; trivial
    | cons env r ih =>
      intro hs hl
      obtain ⟨hk, ⟨L, o, hf, hn, ho, hd⟩, hr⟩ := hl
      have hL : L ∈ X.fs := hs L (by unfold frs; rw [List.filterMap_cons, hf]; exact List.mem_cons_self)
      obtain ⟨sl, e⟩ := I.base.slot L o ho (I.ok.frf L hL) hL fun z => I.ok.exfs L z hL
      exact ⟨hk, ⟨L, _, hf, hn, e, hd⟩, ih (fun b hb => hs b (by unfold frs; rw [List.filterMap_cons, hf]; exact List.mem_cons_of_mem _ hb)) hr⟩
  exact all X.outer (fun _ hb => hb) I.ok.funs

/-- the frames that run, for a call -/
theorem Inv.stack (I : Inv X pins σ H s) : s.heap.FunFrames X.base X.stack := by
  rcases I.ok.stk with e | ⟨e, hf⟩
  · rw [e]; exact I.funs
  · rw [e]
    obtain ⟨m, hn, _⟩ := I.loc
    refine .cons (by rw [I.ok.kind]; decide) hf hn ?_ I.funs
    exact Heap.get?_none_of_le (Nat.le_trans I.ok.bsz I.ok.above)
theorem Inv.stkSub (I : Inv X pins σ H s) : ∀ b ∈ frs X.stack, b ∈ X.env.locals :: X.fs := fun b hb => by
  rcases I.ok.stk with e | ⟨e, hf⟩
  · rw [e] at hb; exact List.mem_cons_of_mem _ hb
  · rw [e] at hb
    unfold frs at hb
    rw [List.filterMap_cons, hf] at hb
    exact hb
theorem Inv.stkFree (I : Inv X pins σ H s) : ∀ b ∈ frs X.stack, H b = none := fun b hb => by
  rcases List.mem_cons.mp (I.stkSub b hb) with e | hb
  · rw [e]; exact I.free
  · obtain ⟨_, o, ho, _⟩ := I.ok.funs.mem hb
    exact I.base.free b o ho (I.ok.frf b hb) fun z => I.ok.exfs b z hb

/-- THE STEP: the untracked objects but the frame and the records at ch are kept (the callers' frames up to slots), the frame's map is kept, the new abstract heap is held -/
theorem Inv.step {g' : Array GenState} {t' : Nat} {d' : Drawn} {ch : List Addr} (I : Inv X pins σ H s)
    (hch : ∀ b ∈ ch, (b ∈ X.ex ∨ X.s₀.heap.objs.size ≤ b) ∧ b ≠ X.env.locals ∧ (∀ x c, X.env.cells.lookup x = some c → c ≠ b) ∧ ∀ p ∈ X.pn ++ pins, p.1 ≠ b)
    (keep : ∀ b o, b ≠ X.env.locals → b ∉ X.fs → b ∉ ch → s.heap.get? b = some o → H b = none → h'.get? b = some o)
    (slot : ∀ b o, b ≠ X.env.locals → b ∈ X.fs → b ∉ ch → s.heap.get? b = some o → H b = none → ∃ sl, h'.get? b = some { o with slots := sl }) (free : ∀ b o, b ∉ ch → s.heap.get? b = some o → H b = none → H' b = none)
    (there : ∀ b o, b ∉ ch → s.heap.get? b = some o → ∃ o', h'.get? b = some o')
    (tups : ∀ b xs, H b = some (.tup xs) → H' b = some (.tup xs)) (frzs : ∀ b o u, H b = some (.frz o u) → H' b = some (.frz o u)) (tbls : ∀ b ps, H b = some (.tbl ps) → ∃ more, H' b = some (.tbl (ps ++ more)))
    (ns : ∀ m, s.heap.Ns X.env.locals m → h'.Ns X.env.locals m) (hok : HOk X.prog X.w H' h') (hg : AllBare g') :
    Inv X pins σ H' { s with heap := h', gens := g', drawn := d', toks := t' } := by
  have neL : ∀ b o, X.s₀.heap.get? b = some o → b ≠ X.env.locals := fun b o e => Nat.ne_of_lt (Nat.lt_of_lt_of_le (Heap.lt_size e) I.ok.above)
  have neC : ∀ b o, X.s₀.heap.get? b = some o → b ∉ X.ex → b ∉ ch := fun b o e hx hb => by
    rcases (hch b hb).1 with z | z
    · exact hx z
    · exact absurd (Nat.lt_of_lt_of_le (Heap.lt_size e) z) (Nat.lt_irrefl _)
  have cellK : ∀ x c, X.env.cells.lookup x = some c → ∀ v, s.heap.IsCell c v → h'.IsCell c v := fun x c e v ⟨o, ho, hd⟩ => by
    have nch : c ∉ ch := fun z => (hch c z).2.2.1 x c e rfl
    by_cases hc : c ∈ X.fs
    · obtain ⟨sl, q⟩ := slot c o (I.cne x c e) hc nch ho (I.freeC x c e)
      exact ⟨_, q, hd⟩
    · exact ⟨o, keep c o (I.cne x c e) hc nch ho (I.freeC x c e), hd⟩
  refine ⟨I.ok, I.os, hg, ⟨fun b o e n hb hx => ?_, fun b o e n hb hx => ?_, fun b o e n hx => ?_, fun b o e hx => ?_, fun b xs e => tups b xs (I.base.tups b xs e), fun b o xs e => frzs b o xs (I.base.frzs b o xs e), fun b ps e => ?_⟩, ?_, fun x c e => ?_, ?_, fun x c e => ?_, fun p hp => ?_, hok, I.len⟩
  · exact keep b o (neL b o e) hb (neC b o e hx) (I.base.keep b o e n hb hx) (I.base.free b o e n hx)
  · obtain ⟨sl, e1⟩ := I.base.slot b o e n hb hx
    obtain ⟨sl', e2⟩ := slot b _ (neL b o e) hb (neC b o e hx) e1 (I.base.free b o e n hx)
    exact ⟨sl', e2⟩
  · obtain ⟨o', e1⟩ := I.base.there b o e hx
    exact free b o' (neC b o e hx) e1 (I.base.free b o e n hx)
  · obtain ⟨o', e1⟩ := I.base.there b o e hx
    exact there b o' (neC b o e hx) e1
  · obtain ⟨m1, e1⟩ := I.base.tbls b ps e
    obtain ⟨m2, e2⟩ := tbls b _ e1
    exact ⟨m1 ++ m2, by rw [e2, Array.append_assoc]⟩
  · obtain ⟨m, hn, hl⟩ := I.loc
    refine ⟨m, ns m hn, fun i x v e1 e2 e3 => ?_⟩
    obtain ⟨u, r, l⟩ := hl i x v e1 e2 e3
    refine ⟨u, r, ?_⟩
    rcases l with l | ⟨k, c, e, z⟩
    · exact .inl l
    · exact .inr ⟨k, c, e, cellK x c e _ z⟩
  · obtain ⟨v, z⟩ := I.cell x c e
    exact ⟨v, cellK x c e v z⟩
  · obtain ⟨m, ⟨o, _, _, ho, _⟩, _⟩ := I.loc
    exact free _ o (fun z => (hch _ z).2.1 rfl) ho I.free
  · obtain ⟨v, o, ho, hd⟩ := I.cell x c e
    exact free c o (fun z => (hch c z).2.2.1 x c e rfl) ho (I.freeC x c e)
  · obtain ⟨e, n, ne, nf, d⟩ := I.pin p hp
    have nch : p.1 ∉ ch := fun z => (hch p.1 z).2.2.2 p hp rfl
    exact ⟨keep p.1 p.2 ne nf nch e n, free p.1 p.2 nch e n, ne, nf, d⟩
/-- .. where the frame's own object is kept too -/
theorem Inv.un {t' : Nat} (I : Inv X pins σ H s) (u : Un X.fs [] H H' s.heap h') (hok : HOk X.prog X.w H' h') : Inv X pins σ H' { s with heap := h', toks := t' } := by
  obtain ⟨m, ⟨o, es, ep, ho, r⟩, _⟩ := id I.loc
  obtain ⟨sl, hL⟩ := u.any ho I.free (by simp)
  exact I.step (g' := s.gens) (d' := s.drawn) (ch := []) (fun _ z => nomatch z) (fun b o _ hb _ e n => u.keep b o e n hb (by simp)) (fun b o _ hb _ e n => u.slot b o e n hb (by simp)) (fun b o _ e n => u.free b o e n (by simp)) (fun b o _ e => u.there b o e (by simp)) u.tups u.frzs u.tbls (fun m' hm => by
    obtain ⟨o', es', ep', ho', r'⟩ := hm
    rw [ho] at ho'; cases ho'
    exact ⟨_, es', ep', hL, r'⟩) hok I.bare
/-- behind a call (or a comprehension's block): the slots of this frame may have changed too, the records at ch may have turned -/
theorem Inv.call {g' : Array GenState} {t' : Nat} {d' : Drawn} {ch : List Addr} (I : Inv X pins σ H s) (u : Un (frs X.stack) ch H H' s.heap h') (hok : HOk X.prog X.w H' h') (hg : AllBare g')
    (hch : ∀ b ∈ ch, (b ∈ X.ex ∨ X.s₀.heap.objs.size ≤ b) ∧ b ≠ X.env.locals ∧ (∀ x c, X.env.cells.lookup x = some c → c ≠ b) ∧ ∀ p ∈ X.pn ++ pins, p.1 ≠ b) :
    Inv X pins σ H' { s with heap := h', gens := g', drawn := d', toks := t' } := by
  obtain ⟨m, ⟨o, es, ep, ho, r⟩, _⟩ := id I.loc
  obtain ⟨sl, hL⟩ := u.any ho I.free fun z => (hch _ z).2.1 rfl
  exact I.step (ch := ch) hch (fun b o hL hb hc e n => u.keep b o e n (fun z => (List.mem_cons.mp (I.stkSub b z)).elim hL hb) hc) (fun b o _ _ hc e n => u.any e n hc) (fun b o hc e n => u.free b o e n hc) (fun b o hc e => u.there b o e hc) u.tups u.frzs u.tbls (fun m' hm => by
    obtain ⟨o', es', ep', ho', r'⟩ := hm
    rw [ho] at ho'; cases ho'
    exact ⟨_, es', ep', hL, r'⟩) hok hg
/-- an untracked record of ours (an iterator) has turned -/
theorem Inv.turned {t' : Nat} {it : Addr} (I : Inv X pins σ H s) (k : ∀ b o, b ≠ it → s.heap.get? b = some o → h'.get? b = some o) (hn : H it = none) (hL : it ≠ X.env.locals)
    (h1 : it ∈ X.ex ∨ X.s₀.heap.objs.size ≤ it) (h2 : ∀ x c, X.env.cells.lookup x = some c → c ≠ it) (h3 : ∀ p ∈ X.pn ++ pins, p.1 ≠ it) : Inv X pins σ H { s with heap := h', toks := t' } := by
  have nit : ∀ b u, H b = some u → b ≠ it := fun b u e z => by rw [z, hn] at e; cases e
  refine I.step (g' := s.gens) (d' := s.drawn) (ch := [it]) (fun b hb => ?_) (fun b o _ _ hc e _ => k b o (fun z => hc (by simp [z])) e) (fun b o _ _ hc e _ => ⟨o.slots, k b o (fun z => hc (by simp [z])) e⟩) (fun _ _ _ _ n => n)
    (fun b o hc e => ⟨o, k b o (fun z => hc (by simp [z])) e⟩) (fun _ _ e => e) (fun _ _ _ e => e) (fun b ps e => ⟨#[], by rw [e]; simp⟩) (fun m hm => ?_) (fun b u e => ?_) I.bare
  · have e : b = it := by simpa using hb
    subst e
    exact ⟨h1, hL, h2, h3⟩
  · obtain ⟨o, es, ep, ho, r⟩ := hm
    exact ⟨o, es, ep, k _ o (Ne.symm hL) ho, r⟩
  · refine (I.hok b u e).stay (fun c v hc q => k c v ?_ q) (fun _ q => q) fun _ _ q => q
    rcases hc with z | z
    · rw [z]; exact nit b u e
    · exact nit c _ z
theorem Inv.tok (I : Inv X pins σ H s) (t : Nat) : Inv X pins σ H { s with toks := t } := I.un (h' := s.heap) (t' := t) Un.refl I.hok
/-- all objects kept -/
theorem Inv.kept {t' : Nat} (I : Inv X pins σ H s) (k : ∀ b u, s.heap.get? b = some u → h'.get? b = some u) : Inv X pins σ H { s with heap := h', toks := t' } := I.un (Un.kept k) (I.hok.kept k)
/-- a new object laid and tracked -/
theorem Inv.laid {a : Addr} {o : HO} {t' : Nat} (I : Inv X pins σ H s) (k : ∀ b u, s.heap.get? b = some u → h'.get? b = some u) (hp : s.heap.objs.size ≤ a) (new : ObjOk X.prog X.w (upd H a o) h' a o) :
    Inv X pins σ (upd H a o) { s with heap := h', toks := t' } := I.un (Un.laid k hp (I.hok.fresh hp)) (I.hok.laid k hp new)
/-- an object written -/
theorem Inv.write {x e : Addr} {o : HO} {t' : Nat} (I : Inv X pins σ H s) (mu : Mut (H x)) (he : e = x ∨ H e = some (.own x)) (k : ∀ b u, b ≠ e → s.heap.get? b = some u → h'.get? b = some u) (heo : ∃ u, h'.get? e = some u)
    (new : ObjOk X.prog X.w (upd H x o) h' x o) : Inv X pins σ (upd H x o) { s with heap := h', toks := t' } := I.un (Un.write mu he k heo) (I.hok.write mu he k heo new)
/-- forgetting slots, pins -/
theorem Inv.weak {σ' : List (Option V)} (I : Inv X pins σ H s) (hl : σ'.length = σ.length) (w : ∀ (i : Nat) v, σ'[i]? = some (some v) → σ[i]? = some (some v)) : Inv X pins σ' H s :=
  ⟨I.ok, I.os, I.bare, I.base, let ⟨m, hn, hl'⟩ := I.loc; ⟨m, hn, fun i x v e1 e2 e3 => hl' i x v e1 (w i v e2) e3⟩, I.cell, I.free, I.freeC, I.pin, I.hok, hl.trans I.len⟩
theorem Inv.pins_of {pins' : List (Addr × Obj)} (I : Inv X pins σ H s) (h : ∀ p ∈ pins', s.heap.get? p.1 = some p.2 ∧ H p.1 = none ∧ p.1 ≠ X.env.locals ∧ p.1 ∉ X.fs ∧ ∀ v, p.2.data ≠ .cell v) : Inv X pins' σ H s :=
  ⟨I.ok, I.os, I.bare, I.base, I.loc, I.cell, I.free, I.freeC, fun p hp => (List.mem_append.mp hp).elim (fun z => I.pin p (List.mem_append_left _ z)) (h p), I.hok, I.len⟩

theorem nodup_ix {N : List Str} (hN : N.Nodup) {i j : Nat} {x : Str} (a : N[i]? = some x) (b : N[j]? = some x) : i = j := by
  obtain ⟨h1, e1⟩ := List.getElem?_eq_some_iff.mp a
  obtain ⟨h2, e2⟩ := List.getElem?_eq_some_iff.mp b
  exact (List.getElem_inj hN).mp (e1.trans e2.symm)

/-- a name is stored; what changed -/
theorem store_ok2 {M : Model} {A : Around} {E : Value → Shared → Prop} {i : Nat} {x : Str} {v : V} {u : Value} {Q : Unit → Shared → Prop} (I : Inv X pins σ H s) (hN : X.N.Nodup) (hi : X.N[i]? = some x) (hx : Loc X.env.scope x) (r : RelV v u)
    (h : ∀ s', Inv X pins (σ.set i (some v)) H s' → (∃ a, Heap.SameBut a s.heap s'.heap ∧ (a = X.env.locals ∨ X.env.cells.lookup x = some a)) → Q () s') (hf : X.fn x = true ∨ X.env.scope.names.lookup x = some .local := by first | exact .inl rfl | exact .inr rfl | assumption) : wpAny M A (storeName X.env x u) Q E s := by
  obtain ⟨m, hn, hl⟩ := id I.loc
  have hcls : (X.env.scope.kind == .class || (X.env.scope.kind == .module && X.env.locals != X.env.globals)) = false := by rw [I.ok.kind]; rfl
  have hiσ : i < σ.length := by rw [I.len]; exact (List.getElem?_eq_some_iff.mp hi).1
  have cne := I.cne
  have tracked : ∀ {a : Addr} {h' : Heap}, (∃ o, s.heap.get? a = some o ∧ H a = none) → Heap.SameBut a s.heap h' → HOk X.prog X.w H h' := fun {a h'} ha hs b ob e => by
    obtain ⟨_, _, hfree⟩ := ha
    refine (I.hok b ob e).stay (fun c w' hc q => (hs.2 c ?_).trans q) (fun _ q => q) fun _ _ q => q
    rintro rfl
    rcases hc with rfl | hc
    · rw [hfree] at e; cases e
    · rw [hfree] at hc; cases hc
  rcases hx with hk | hk
  · refine wpAny_storeName_local hk hn (fun h' hn' hs => ?_) hcls
    obtain ⟨oL, _, _, hoL, _⟩ := id hn
    refine h _ ⟨I.ok, I.os, I.bare, ⟨fun b o e n hb hx => ?_, fun b o e n hb hx => ?_, I.base.free, fun b o e hx => ?_, I.base.tups, I.base.frzs, I.base.tbls⟩, ⟨_, hn', fun j y v' e1 e2 e3 => ?_⟩, fun y c e => ?_, I.free, I.freeC, fun p hp => ?_, tracked ⟨oL, hoL, I.free⟩ hs, by simpa using I.len⟩ ⟨_, hs, .inl rfl⟩
    · exact (hs.2 b (Nat.ne_of_lt (Nat.lt_of_lt_of_le (Heap.lt_size e) I.ok.above))).trans (I.base.keep b o e n hb hx)
    · obtain ⟨sl, e1⟩ := I.base.slot b o e n hb hx
      exact ⟨sl, (hs.2 b (Nat.ne_of_lt (Nat.lt_of_lt_of_le (Heap.lt_size e) I.ok.above))).trans e1⟩
    · obtain ⟨o', e1⟩ := I.base.there b o e hx
      exact ⟨o', (hs.2 b (Nat.ne_of_lt (Nat.lt_of_lt_of_le (Heap.lt_size e) I.ok.above))).trans e1⟩
    · by_cases hj : j = i
      · subst hj
        rw [hi] at e1; cases e1
        rw [List.getElem?_set_self hiσ] at e2
        cases e2
        exact ⟨u, r, .inl ⟨hk, by simp⟩⟩
      · rw [List.getElem?_set_ne (Ne.symm hj)] at e2
        obtain ⟨u', r', q⟩ := hl j y v' e1 e2 e3
        refine ⟨u', r', ?_⟩
        rcases q with ⟨k, e⟩ | ⟨k, c, e, z⟩
        · refine .inl ⟨k, ?_⟩
          have : y ≠ x := fun e => hj (nodup_ix hN e1 (e ▸ hi))
          simp [this, e]
        · exact .inr ⟨k, c, e, z.sameBut hs (cne y c e)⟩
    · obtain ⟨w', z⟩ := I.cell y c e
      exact ⟨w', z.sameBut hs (cne y c e)⟩
    · obtain ⟨e, n, ne, nf, d⟩ := I.pin p hp
      exact ⟨(hs.2 p.1 ne).trans e, n, ne, nf, d⟩
  · have hfn : X.fn x = true := by
      rcases hf with z | z
      · exact z
      · rw [z] at hk; cases hk
    obtain ⟨c, hc⟩ := I.ok.has x (.inl hk)
    obtain ⟨w', z⟩ := I.cell x c hc
    refine wpAny_storeName_cell I.ok.kind hk hc z (fun h' hc' hs => ?_)
    obtain ⟨oc, hoc, hocd⟩ := id z
    refine h { s with heap := h' } ⟨I.ok, I.os, I.bare, ⟨fun b o e n hb hx => ?_, fun b o e n hb hx => ?_, I.base.free, fun b o e hx => ?_, I.base.tups, I.base.frzs, I.base.tbls⟩, ⟨m, hn.sameBut hs (Ne.symm (cne x c hc)), fun j y v' e1 e2 e3 => ?_⟩, fun y c' e => ?_, I.free, I.freeC, fun p hp => ?_, tracked ⟨oc, hoc, I.freeC x c hc⟩ hs, by simpa using I.len⟩ ⟨c, hs, .inr hc⟩
    · exact (hs.2 b (Nat.ne_of_lt (Nat.lt_of_lt_of_le (Heap.lt_size e) (I.ok.cab x c hfn hc)))).trans (I.base.keep b o e n hb hx)
    · obtain ⟨sl, e1⟩ := I.base.slot b o e n hb hx
      exact ⟨sl, (hs.2 b (Nat.ne_of_lt (Nat.lt_of_lt_of_le (Heap.lt_size e) (I.ok.cab x c hfn hc)))).trans e1⟩
    · obtain ⟨o', e1⟩ := I.base.there b o e hx
      exact ⟨o', (hs.2 b (Nat.ne_of_lt (Nat.lt_of_lt_of_le (Heap.lt_size e) (I.ok.cab x c hfn hc)))).trans e1⟩
    · by_cases hj : j = i
      · subst hj
        rw [hi] at e1; cases e1
        rw [List.getElem?_set_self hiσ] at e2
        cases e2
        exact ⟨u, r, .inr ⟨.inl hk, c, hc, hc'⟩⟩
      · rw [List.getElem?_set_ne (Ne.symm hj)] at e2
        obtain ⟨u', r', q⟩ := hl j y v' e1 e2 e3
        refine ⟨u', r', ?_⟩
        rcases q with q | ⟨k, c', e, z'⟩
        · exact .inl q
        · refine .inr ⟨k, c', e, z'.sameBut hs ?_⟩
          rintro rfl
          exact hj (nodup_ix hN e1 (I.ok.inj _ _ _ e hc ▸ hi))
    · by_cases hcc : c' = c
      · subst hcc; exact ⟨_, hc'⟩
      · obtain ⟨w2, z2⟩ := I.cell y c' e
        exact ⟨w2, z2.sameBut hs hcc⟩
    · obtain ⟨e, n, ne, nf, d⟩ := I.pin p hp
      refine ⟨(hs.2 p.1 ?_).trans e, n, ne, nf, d⟩
      intro q
      rw [q, hoc] at e
      have q' : oc = p.2 := Option.some.inj e
      exact d w' (by rw [← q']; exact hocd)
theorem store_ok {M : Model} {A : Around} {E : Value → Shared → Prop} {i : Nat} {x : Str} {v : V} {u : Value} {Q : Unit → Shared → Prop} (I : Inv X pins σ H s) (hN : X.N.Nodup) (hi : X.N[i]? = some x) (hx : Loc X.env.scope x) (r : RelV v u)
    (h : ∀ s', Inv X pins (σ.set i (some v)) H s' → Q () s') (hf : X.fn x = true ∨ X.env.scope.names.lookup x = some .local := by first | exact .inl rfl | exact .inr rfl | assumption) : wpAny M A (storeName X.env x u) Q E s :=
  store_ok2 I hN hi hx r (fun s' I' _ => h s' I') hf
/-- behind a call or a block, the state as it is -/
theorem Inv.call' {s' : Shared} {ch : List Addr} (I : Inv X pins σ H s) (ho : s'.os = s.os) (u : Un (frs X.stack) ch H H' s.heap s'.heap) (hok : HOk X.prog X.w H' s'.heap) (hg : AllBare s'.gens)
    (hch : ∀ b ∈ ch, (b ∈ X.ex ∨ X.s₀.heap.objs.size ≤ b) ∧ b ≠ X.env.locals ∧ (∀ x c, X.env.cells.lookup x = some c → c ≠ b) ∧ ∀ p ∈ X.pn ++ pins, p.1 ≠ b) : Inv X pins σ H' s' := by
  obtain ⟨h', g', d', t', o'⟩ := s'
  have e : o' = s.os := ho
  subst e
  exact I.call (g' := g') (t' := t') (d' := d') u hok hg hch
end

/-! ### the judgements -/
/-- an exception: its class, its own dict's address (where it has one), the abstract heap behind it -/
abbrev XK := Value → Option Addr → Hp → Prop
abbrev St := List (Option V)
abbrev VK := V → Hp → Prop
/-- an expression's reading; a test's; an argument list's -/
abbrev TE := St → Hp → VK → Prop
abbrev TT := St → Hp → (Bool → Hp → Prop) → Prop
abbrev TA := St → Hp → (List V → Hp → Prop) → Prop
/-- what is wanted behind a statement -/
structure Ends where
  nx : St → Hp → Prop
  rt : VK
  bk : St → Hp → Prop := fun _ _ => False
  ct : St → Hp → Prop := fun _ _ => False
abbrev TS := Ends → St → Hp → Prop

def EP (X : Cx) (pins : List (Addr × Obj)) (σ : St) (Q : VK) (u : Value) (s' : Shared) : Prop := ∃ v H', Inv X pins σ H' s' ∧ RelV v u ∧ Q v H'
def TP (X : Cx) (pins : List (Addr × Obj)) (σ : St) (Q : Bool → Hp → Prop) (b : Bool) (s' : Shared) : Prop := ∃ H', Inv X pins σ H' s' ∧ Q b H'
def AP (X : Cx) (pins : List (Addr × Obj)) (σ : St) (Q : List V → Hp → Prop) (us : List Value) (s' : Shared) : Prop := ∃ vs H', Inv X pins σ H' s' ∧ Vals vs us ∧ Q vs H'
def SP (X : Cx) (pins : List (Addr × Obj)) (D : Ends) (f : Flow) (s' : Shared) : Prop :=
  match f with
  | .next => ∃ σ' H', Inv X pins σ' H' s' ∧ D.nx σ' H'
  | .brk => ∃ σ' H', Inv X pins σ' H' s' ∧ D.bk σ' H'
  | .cont => ∃ σ' H', Inv X pins σ' H' s' ∧ D.ct σ' H'
  | .ret u => ∃ v σ' H', Inv X pins σ' H' s' ∧ RelV v u ∧ D.rt v H'

def PE (X : Cx) (e : Expr) (t : TE) : Prop :=
  ∀ (pins : List (Addr × Obj)) (s : Shared) (σ : St) (H : Hp) (Q : VK), Inv X pins σ H s → t σ H Q → wpAny (model X.prog X.w) X.A (eval e X.env) (EP X pins σ Q) X.xe s
def PT (X : Cx) (e : Expr) (t : TT) : Prop :=
  ∀ (pins : List (Addr × Obj)) (s : Shared) (σ : St) (H : Hp) (Q : Bool → Hp → Prop), Inv X pins σ H s → t σ H Q → wpAny (model X.prog X.w) X.A (isTrue e X.env (eval e X.env)) (TP X pins σ Q) X.xe s
/-- a test whatever its 'whole' is (and, or) -/
def PW (X : Cx) (e : Expr) (t : TT) : Prop :=
  ∀ (whole : Sem Value) (pins : List (Addr × Obj)) (s : Shared) (σ : St) (H : Hp) (Q : Bool → Hp → Prop), Inv X pins σ H s → t σ H Q → wpAny (model X.prog X.w) X.A (isTrue e X.env whole) (TP X pins σ Q) X.xe s
theorem PW.pt {X : Cx} {e : Expr} {t : TT} (h : PW X e t) : PT X e t := h _
/-- an argument list (no star), from the left -/
def PA (X : Cx) (es : List Expr) (t : TA) : Prop :=
  ∀ (pos : Pos) (pins : List (Addr × Obj)) (s : Shared) (σ : St) (H : Hp) (Q : List V → Hp → Prop), Inv X pins σ H s → t σ H Q → wpAny (model X.prog X.w) X.A (spliced (backTo pos (starEach es X.env))) (AP X pins σ Q) X.xe s
def PS (X : Cx) (st : Stmt) (t : TS) : Prop :=
  ∀ (pins : List (Addr × Obj)) (s : Shared) (σ : St) (H : Hp) (D : Ends), Inv X pins σ H s → t D σ H → wpAny (model X.prog X.w) X.A (exec st X.env) (SP X pins D) X.xe s
def PSs (X : Cx) (st : List Stmt) (t : TS) : Prop :=
  ∀ (pins : List (Addr × Obj)) (s : Shared) (σ : St) (H : Hp) (D : Ends), Inv X pins σ H s → t D σ H → wpAny (model X.prog X.w) X.A (execs st X.env) (SP X pins D) X.xe s
/-- weaken the end -/
theorem thn {α : Type} {t : Sem α} {Q Q' : α → Shared → Prop} {M : Model} {A : Around} {E : Value → Shared → Prop} {s : Shared} (h : wpAny M A t Q E s) (hQ : ∀ a s, Q a s → Q' a s) : wpAny M A t Q' E s := wpAny_mono h hQ fun _ _ x => x
end L2

namespace L2
open PySem PySem.Spec PyProof.Rows
section
variable {X : Cx}

/-- two expressions in a row -/
theorem bin {a b : Expr} {ta tb : TE} (ha : PE X a ta) (hb : PE X b tb) {pins : List (Addr × Obj)} {s : Shared} {σ : St} {H : Hp} {R : V → V → Hp → Prop} (I : Inv X pins σ H s) (h : ta σ H fun x H1 => tb σ H1 fun y H2 => R x y H2)
    {α : Type} {Q : α → Shared → Prop} {f : Value → Value → Sem α}
    (hf : ∀ v u s2 x y H2, Inv X pins σ H2 s2 → RelV x v → RelV y u → R x y H2 → wpAny (model X.prog X.w) X.A (f v u) Q X.xe s2) :
    wpAny (model X.prog X.w) X.A (eval a X.env) (fun v s₁ => wpAny (model X.prog X.w) X.A (eval b X.env) (fun u s₂ => wpAny (model X.prog X.w) X.A (f v u) Q X.xe s₂) X.xe s₁) X.xe s := by
  refine thn (ha pins s σ H _ I h) fun v s1 ⟨x, H1, I1, r1, q1⟩ => ?_
  refine thn (hb pins s1 σ H1 _ I1 q1) fun u s2 ⟨y, H2, I2, r2, q2⟩ => ?_
  exact hf v u s2 x y H2 I2 r1 r2 q2

/-! ### names and constants -/
def tVar (i : Nat) : TE := fun σ H Q => ∃ v, σ[i]? = some (some v) ∧ Q v H
def tC (v : V) : TE := fun _ H Q => Q v H
theorem pe_var {i : Nat} {x : Str} {pos : Pos} (hN : X.N[i]? = some x) (hv : Vis X.env.scope x) (hd : (x == ("__debug__" : Str)) = false := by decide) (hcd : (x == ("__classdict__" : Str)) = false := by decide) : PE X (.Name x pos) (tVar i) := by
  intro pins s σ H Q I h
  obtain ⟨v, e, h⟩ := h
  obtain ⟨m, hn, hl⟩ := I.loc
  obtain ⟨u, r, l⟩ := hl i x v hN e hv
  have fin : EP X pins σ Q u s := ⟨v, H, I, r, h⟩
  rcases l with ⟨hk, hm⟩ | ⟨hk, c, hc, hcell⟩
  · exact wpAny_Name (wpAny_loadName_local I.ok.kind hk hn hm fin) hd
  · rcases hk with hk | hk
    · exact wpAny_Name (wpAny_loadName_cell I.ok.kind hk hc hcell fin) hd
    · exact wpAny_Name (wpAny_loadName_free I.ok.kind hk hc hcell fin hcd) hd
theorem pe_int {i j pos} : PE X (.Constant (.int i) j pos) (tC (.int i)) := fun _ _ _ H _ I h => wpAny_Constant_int ⟨.int i, H, I.tok _, ⟨_, rfl⟩, h⟩
theorem pe_bl {b j pos} : PE X (.Constant (.bool b) j pos) (tC (.bl b)) := fun _ _ _ H _ I h => Constant_bool ⟨.bl b, H, I, rfl, h⟩
theorem pe_non {j pos} : PE X (.Constant .none j pos) (tC .non) := fun _ _ _ H _ I h => Constant_none ⟨.non, H, I, rfl, h⟩
theorem pe_str {x j pos} : PE X (.Constant (.str x) j pos) (tC (.str x)) := fun _ _ _ H _ I h => Calls.Constant_str ⟨.str x, H, I.tok _, ⟨_, rfl⟩, h⟩

/-- a global name of the def -/
def Gl (X : Cx) (x : Str) : Prop := X.env.kindOf x = some .globalImplicit
theorem ld_glob {E : Value → Shared → Prop} {pins : List (Addr × Obj)} {s : Shared} {σ : St} {H : Hp} {x : Str} {u : Value} {pos : Pos} {Q : Value → Shared → Prop} (I : Inv X pins σ H s) (hg : Gl X x) (hm : X.mg x = some u) (h : Q u s)
    (hd : (x == ("__debug__" : Str)) = false := by decide) : wpAny (model X.prog X.w) X.A (eval (.Name x pos) X.env) Q E s :=
  Calls.Name_function_global I.ok.kind hg (Calls.loadGlobal_global (by rw [I.ok.glob]; exact I.mod.glob.keeps I.bk) hm h) hd
theorem ld_blt {E : Value → Shared → Prop} {pins : List (Addr × Obj)} {s : Shared} {σ : St} {H : Hp} {x : Str} {u : Value} {pos : Pos} {Q : Value → Shared → Prop} (I : Inv X pins σ H s) (hg : Gl X x) (hm : X.mg x = none) (hv : bootBuiltins x = some u) (h : Q u s)
    (hn : x ≠ "__name__" := by decide) (hd : (x == ("__debug__" : Str)) = false := by decide) : wpAny (model X.prog X.w) X.A (eval (.Name x pos) X.env) Q E s := by
  obtain ⟨mb, h1, h2⟩ := I.mod.blt
  exact Calls.Name_function_global I.ok.kind hg (Calls.loadGlobal_builtin (by rw [I.ok.glob]; exact I.mod.glob.keeps I.bk) hm (by rw [I.ok.blt]; exact h1.keeps I.bk) ((h2 x hn).trans hv) h) hd
/-- a module's constant, a class, a function, as a value -/
theorem pe_glob {x : Str} {v : V} {u : Value} {pos : Pos} (hg : Gl X x) (hm : X.mg x = some u) (r : RelV v u) (hd : (x == ("__debug__" : Str)) = false := by decide) : PE X (.Name x pos) (tC v) :=
  fun _ _ _ H _ I h => ld_glob I hg hm ⟨v, H, I, r, h⟩ hd
theorem pe_bltn {x : Str} {v : V} {u : Value} {pos : Pos} (hg : Gl X x) (hm : X.mg x = none) (hv : bootBuiltins x = some u) (r : RelV v u) (hn : x ≠ "__name__" := by decide) (hd : (x == ("__debug__" : Str)) = false := by decide) : PE X (.Name x pos) (tC v) :=
  fun _ _ _ H _ I h => ld_blt I hg hm hv ⟨v, H, I, r, h⟩ hn hd

/-! ### arithmetic -/
/-- two ints -/
def t2I (ta tb : TE) (k : Int → Int → Hp → Prop) : St → Hp → Prop := fun σ H => ta σ H fun x H1 => tb σ H1 fun y H2 => ∃ i j, x = .int i ∧ y = .int j ∧ k i j H2
def tAdd (ta tb : TE) : TE := fun σ H Q => t2I ta tb (fun i j H2 => Q (.int (i + j)) H2) σ H
def tSub (ta tb : TE) : TE := fun σ H Q => t2I ta tb (fun i j H2 => Q (.int (i - j)) H2) σ H
/-- the left factor below 2^64 -/
def tMul (ta tb : TE) : TE := fun σ H Q => t2I ta tb (fun i j H2 => (-(2 ^ 64) < i ∧ i < 2 ^ 64) ∧ Q (.int (i * j)) H2) σ H
variable {a b : Expr} {ta tb : TE} {pos : Pos}
theorem pe_add (ha : PE X a ta) (hb : PE X b tb) : PE X (.BinOp a .Add b pos) (tAdd ta tb) := by
  intro pins s σ H Q I h
  refine wpAny_BinOp (bin ha hb I h fun v u s2 x y H2 I2 rx ry q => ?_)
  obtain ⟨i, j, rfl, rfl, q⟩ := q
  obtain ⟨t, rfl⟩ := rx
  obtain ⟨t', rfl⟩ := ry
  exact add_int ⟨.int _, H2, I2.tok _, ⟨_, rfl⟩, q⟩
theorem pe_sub (ha : PE X a ta) (hb : PE X b tb) : PE X (.BinOp a .Sub b pos) (tSub ta tb) := by
  intro pins s σ H Q I h
  refine wpAny_BinOp (bin ha hb I h fun v u s2 x y H2 I2 rx ry q => ?_)
  obtain ⟨i, j, rfl, rfl, q⟩ := q
  obtain ⟨t, rfl⟩ := rx
  obtain ⟨t', rfl⟩ := ry
  exact sub_int ⟨.int _, H2, I2.tok _, ⟨_, rfl⟩, q⟩
theorem pe_mul (ha : PE X a ta) (hb : PE X b tb) : PE X (.BinOp a .Mult b pos) (tMul ta tb) := by
  intro pins s σ H Q I h
  refine wpAny_BinOp (bin ha hb I h fun v u s2 x y H2 I2 rx ry q => ?_)
  obtain ⟨i, j, rfl, rfl, ⟨q1, q2⟩, q⟩ := q
  obtain ⟨t, rfl⟩ := rx
  obtain ⟨t', rfl⟩ := ry
  exact mul_int ⟨.int _, H2, I2.tok _, ⟨_, rfl⟩, q⟩ (.of_left (intBits_le_64 q1 q2))

/-! ### comparisons -/
def PC (X : Cx) (op : CmpOp) (a b : Expr) (t : TE) : Prop :=
  ∀ (pins : List (Addr × Obj)) (s : Shared) (σ : St) (H : Hp) (Q : VK), Inv X pins σ H s → t σ H Q →
    wpAny (model X.prog X.w) X.A (eval a X.env) (fun v s₁ => wpAny (model X.prog X.w) X.A (eval b X.env) (fun u s₂ => wpAny (model X.prog X.w) X.A (compareOp op v u) (EP X pins σ Q) X.xe s₂) X.xe s₁) X.xe s
theorem nobehind (b : Expr) {op : CmpOp} (h : op ≠ .In) (h2 : op ≠ .NotIn) : behindInMarks op b = false := by
  have e1 : (op == CmpOp.In) = false := by cases op <;> first | rfl | exact absurd rfl h
  have e2 : (op == CmpOp.NotIn) = false := by cases op <;> first | rfl | exact absurd rfl h2
  cases b <;> simp [behindInMarks, e1, e2]
def tCmp (p : Int → Int → Bool) (ta tb : TE) : TE := fun σ H Q => t2I ta tb (fun i j H2 => Q (.bl (p i j)) H2) σ H
abbrev tLt : TE → TE → TE := tCmp fun i j => decide (i < j)
abbrev tLe : TE → TE → TE := tCmp fun i j => decide (i ≤ j)
abbrev tGt : TE → TE → TE := tCmp fun i j => decide (j < i)
abbrev tGe : TE → TE → TE := tCmp fun i j => decide (j ≤ i)
abbrev tEqI : TE → TE → TE := tCmp fun i j => decide (i = j)
abbrev tNeI : TE → TE → TE := tCmp fun i j => !decide (i = j)
/-- a comparison of two ints, by its rule -/
theorem pc_int {op : CmpOp} {p : Int → Int → Bool} (ha : PE X a ta) (hb : PE X b tb)
    (rule : ∀ (i j : Int) (t u : Tok) (Q : Value → Shared → Prop) (s : Shared), Q (.bool (p i j)) s → wpAny (model X.prog X.w) X.A (compareOp op (.int i t) (.int j u)) Q X.xe s) : PC X op a b (tCmp p ta tb) := by
  intro pins s σ H Q I h
  refine bin ha hb I h fun v u s2 x y H2 I2 rx ry q => ?_
  obtain ⟨i, j, rfl, rfl, q⟩ := q
  obtain ⟨t, rfl⟩ := rx
  obtain ⟨t', rfl⟩ := ry
  exact rule i j t t' _ s2 ⟨.bl _, H2, I2, rfl, q⟩
theorem pc_lt (ha : PE X a ta) (hb : PE X b tb) : PC X .Lt a b (tLt ta tb) := pc_int ha hb fun _ _ _ _ _ _ h => lt_int h
theorem pc_le (ha : PE X a ta) (hb : PE X b tb) : PC X .LtE a b (tLe ta tb) := pc_int ha hb fun _ _ _ _ _ _ h => le_int h
theorem pc_gt (ha : PE X a ta) (hb : PE X b tb) : PC X .Gt a b (tGt ta tb) := pc_int ha hb fun _ _ _ _ _ _ h => gt_int h
theorem pc_ge (ha : PE X a ta) (hb : PE X b tb) : PC X .GtE a b (tGe ta tb) := pc_int ha hb fun _ _ _ _ _ _ h => ge_int h
theorem pc_eqI (ha : PE X a ta) (hb : PE X b tb) : PC X .Eq a b (tEqI ta tb) := pc_int ha hb fun _ _ _ _ _ _ h => eq_int (by rw [Bool.beq_eq_decide_eq]; exact h)
theorem pc_neI (ha : PE X a ta) (hb : PE X b tb) : PC X .NotEq a b (tNeI ta tb) := pc_int ha hb fun _ _ _ _ _ _ h => ne_int (by rw [bne, Bool.beq_eq_decide_eq]; exact h)
/-- is None -/
def tIsN (ta : TE) : TE := fun σ H Q => ta σ H fun x H1 => Q (.bl (decide (x = .non))) H1
def tNotN (ta : TE) : TE := fun σ H Q => ta σ H fun x H1 => Q (.bl (!decide (x = .non))) H1
theorem RelV.none_iff {x : V} {v : Value} (r : RelV x v) : (v == Value.none) = decide (x = .non) := by
  cases x with
  | non => cases r; rfl
  | bl _ => cases r; rfl
  | int _ => obtain ⟨t, rfl⟩ := r; rfl
  | str _ => obtain ⟨t, rfl⟩ := r; rfl
  | byt _ => obtain ⟨t, rfl⟩ := r; rfl
  | flt _ => obtain ⟨t, rfl⟩ := r; rfl
  | ref _ => cases r; rfl
  | ty _ => cases r; rfl
theorem pc_isN {j pos'} (ha : PE X a ta) : PC X .Is a (.Constant .none j pos') (tIsN ta) := by
  intro pins s σ H Q I h
  refine thn (ha pins s σ H _ I h) fun v s1 ⟨x, H1, I1, r1, q1⟩ => ?_
  exact Constant_none (is_none_gen ⟨.bl _, H1, I1, by rw [r1.none_iff]; rfl, q1⟩)
theorem pc_notN {j pos'} (ha : PE X a ta) : PC X .IsNot a (.Constant .none j pos') (tNotN ta) := by
  intro pins s σ H Q I h
  refine thn (ha pins s σ H _ I h) fun v s1 ⟨x, H1, I1, r1, q1⟩ => ?_
  exact Constant_none (isnot_none_gen ⟨.bl _, H1, I1, by rw [r1.none_iff]; rfl, q1⟩)
/-- a comparison as a value, as a test -/
def tB (t : TE) : TT := fun σ H Q => t σ H fun x H1 => ∃ c, x = .bl c ∧ Q c H1
theorem pe_cmp {op : CmpOp} {t : TE} (h : PC X op a b t) (h1 : behindInMarks op b = false := by first | exact nobehind _ (by decide) (by decide) | rfl) : PE X (.Compare a [op] [b] pos) t := fun pins s σ H Q I hw => wpAny_Compare1 (h pins s σ H Q I hw) h1
theorem pt_cmp {op : CmpOp} {t : TE} (h : PC X op a b t) (h1 : behindInMarks op b = false := by first | exact nobehind _ (by decide) (by decide) | rfl) : PT X (.Compare a [op] [b] pos) (tB t) := by
  intro pins s σ H Q I hw
  refine wpAny_isTrue_Compare1 (thn (h pins s σ H _ I hw) fun v s1 h1 => thn h1 fun u s2 h2 => thn h2 fun c s3 ⟨x, H1, I1, r1, q1⟩ => ?_) h1
  obtain ⟨d, rfl, q⟩ := q1
  cases r1
  exact wpAny_truthy_bool ⟨H1, I1, q⟩
/-- an expression whose value is a bool, as a test -/
theorem pt_val {e : Expr} {t : TE} (h : PE X e t) (he : ∀ whole, isTrue e X.env whole = (do let v ← whole; standAt e.pos; holding [v] (truthy v)) := by intro _; rfl) : PT X e (tB t) := by
  intro pins s σ H Q I hw
  refine isTrue_plain (thn (h pins s σ H _ I hw) fun v s1 ⟨x, H1, I1, r1, q1⟩ => ?_) (he _)
  obtain ⟨d, rfl, q⟩ := q1
  cases r1
  exact wpAny_truthy_bool ⟨H1, I1, q⟩

/-! ### and, or, not -/
variable {tA tB' : TT} {rest : List Expr}
def tAnd (t u : TT) : TT := fun σ H Q => t σ H fun c H1 => if c = true then u σ H1 Q else Q false H1
def tOr (t u : TT) : TT := fun σ H Q => t σ H fun c H1 => if c = true then Q true H1 else u σ H1 Q
def tNot (t : TT) : TT := fun σ H Q => t σ H fun c H1 => Q (!c) H1
theorem pw_and1 (ha : PT X a tA) : PW X (.BoolOp .And [a] pos) tA := by
  intro wh pins s σ H Q I h
  refine isTrue_and (thn (ha pins s σ H Q I h) fun c s1 e => ?_)
  cases c with
  | true => exact isTrue_and_nil e
  | false => exact e
theorem pw_or1 (ha : PT X a tA) : PW X (.BoolOp .Or [a] pos) tA := by
  intro wh pins s σ H Q I h
  refine isTrue_or (thn (ha pins s σ H Q I h) fun c s1 e => ?_)
  cases c with
  | false => exact isTrue_or_nil e
  | true => exact e
theorem pw_and (ha : PT X a tA) (hb : PW X (.BoolOp .And (b :: rest) pos) tB') : PW X (.BoolOp .And (a :: b :: rest) pos) (tAnd tA tB') := by
  intro wh pins s σ H Q I h
  refine isTrue_and (thn (ha pins s σ H _ I h) fun c s1 ⟨H1, I1, q1⟩ => ?_)
  cases c with
  | true => exact hb wh pins s1 σ H1 Q I1 q1
  | false => exact ⟨H1, I1, q1⟩
theorem pw_or (ha : PT X a tA) (hb : PW X (.BoolOp .Or (b :: rest) pos) tB') : PW X (.BoolOp .Or (a :: b :: rest) pos) (tOr tA tB') := by
  intro wh pins s σ H Q I h
  refine isTrue_or (thn (ha pins s σ H _ I h) fun c s1 ⟨H1, I1, q1⟩ => ?_)
  cases c with
  | true => exact ⟨H1, I1, q1⟩
  | false => exact hb wh pins s1 σ H1 Q I1 q1
theorem pt_not (ha : PT X a tA) : PT X (.UnaryOp .Not a pos) (tNot tA) := by
  intro pins s σ H Q I h
  exact isTrue_not (ha pins s σ H (fun c H1 => Q (!c) H1) I h)
/-- .. as values (bools) -/
def tAndV (ta tb : TE) : TE := fun σ H Q => ta σ H fun x H1 => ∃ c, x = .bl c ∧ if c = true then tb σ H1 Q else Q (.bl false) H1
def tOrV (ta tb : TE) : TE := fun σ H Q => ta σ H fun x H1 => ∃ c, x = .bl c ∧ if c = true then Q (.bl true) H1 else tb σ H1 Q
def tNotV (ta : TE) : TE := fun σ H Q => ta σ H fun x H1 => ∃ c, x = .bl c ∧ Q (.bl (!c)) H1
theorem pe_one {op} {t : TE} (h : PE X a t) : PE X (.BoolOp op [a] pos) t := fun pins s σ H Q I hw => BoolOp_one (h pins s σ H Q I hw)
theorem pe_and (ha : PE X a ta) (hb : PE X (.BoolOp .And (b :: rest) pos) tb) : PE X (.BoolOp .And (a :: b :: rest) pos) (tAndV ta tb) := by
  intro pins s σ H Q I h
  refine BoolOp_and (thn (ha pins s σ H _ I h) fun v s1 ⟨x, H1, I1, r1, q1⟩ => ?_)
  obtain ⟨c, rfl, q1⟩ := q1
  cases r1
  refine wpAny_truthy_bool ?_
  cases c with
  | true => exact hb pins s1 σ H1 Q I1 q1
  | false => exact ⟨.bl false, H1, I1, rfl, q1⟩
theorem pe_or (ha : PE X a ta) (hb : PE X (.BoolOp .Or (b :: rest) pos) tb) : PE X (.BoolOp .Or (a :: b :: rest) pos) (tOrV ta tb) := by
  intro pins s σ H Q I h
  refine BoolOp_or (thn (ha pins s σ H _ I h) fun v s1 ⟨x, H1, I1, r1, q1⟩ => ?_)
  obtain ⟨c, rfl, q1⟩ := q1
  cases r1
  refine wpAny_truthy_bool ?_
  cases c with
  | false => exact hb pins s1 σ H1 Q I1 q1
  | true => exact ⟨.bl true, H1, I1, rfl, q1⟩
theorem pe_not (ha : PE X a ta) : PE X (.UnaryOp .Not a pos) (tNotV ta) := by
  intro pins s σ H Q I h
  refine UnaryOp_ (thn (ha pins s σ H _ I h) fun v s1 ⟨x, H1, I1, r1, q1⟩ => ?_)
  obtain ⟨c, rfl, q1⟩ := q1
  cases r1
  exact not_of (wpAny_truthy_bool ⟨.bl (!c), H1, I1, rfl, q1⟩)
/-- a if t else b -/
def tIf (t : TT) (ta tb : TE) : TE := fun σ H Q => t σ H fun c H1 => if c = true then ta σ H1 Q else tb σ H1 Q
theorem pe_ifExp {c : Expr} (hc : PT X c tA) (ha : PE X a ta) (hb : PE X b tb) : PE X (.IfExp c a b pos) (tIf tA ta tb) := by
  intro pins s σ H Q I h
  refine wpAny_IfExp (thn (hc pins s σ H _ I h) fun d s1 ⟨H1, I1, q1⟩ => ?_)
  cases d with
  | true => exact ha pins s1 σ H1 Q I1 q1
  | false => exact hb pins s1 σ H1 Q I1 q1
end
end L2

namespace L2
open PySem PySem.Spec PyProof.Rows

/-! ### a list, a tuple that is read: tracked, frozen, or an object of the module -/
def SqL (K : PySem.W.Frag) (H : Hp) (a : Addr) (xs : List V) : Prop :=
  Rd H a (.lst xs) ∨
    ∃ (o : Obj) (its : Array Value) (n : Nat), K.lookup a = some o ∧ o.cls = .type "list" ∧ o.dict = none ∧ o.data = .seq its n ∧ its.size ≤ sizeLine ∧ Vals xs its.toList
def SqT (K : PySem.W.Frag) (H : Hp) (a : Addr) (xs : List V) : Prop :=
  Rd H a (.tup xs) ∨
    ∃ (o : Obj) (its : Array Value) (n : Nat), K.lookup a = some o ∧ o.cls = .type "tuple" ∧ o.data = .seq its n ∧ its.size ≤ sizeLine ∧ Vals xs its.toList
def absV : Value → Option V
  | .none => some .non
  | .bool b => some (.bl b)
  | .int i _ => some (.int i)
  | .str x _ => some (.str x)
  | .bytes b _ => some (.byt b)
  | .float b _ => some (.flt b)
  | .ref a => some (.ref a)
  | .type n => some (.ty n)
  | _ => none
theorem RelV.abs {x : V} {u : Value} (r : RelV x u) : absV u = some x := by
  cases x with
  | non => cases r; rfl
  | bl _ => cases r; rfl
  | int _ => obtain ⟨t, rfl⟩ := r; rfl
  | str _ => obtain ⟨t, rfl⟩ := r; rfl
  | byt _ => obtain ⟨t, rfl⟩ := r; rfl
  | flt _ => obtain ⟨t, rfl⟩ := r; rfl
  | ref _ => cases r; rfl
  | ty _ => cases r; rfl
theorem RelV.inj {x y : V} {u : Value} (r : RelV x u) (q : RelV y u) : x = y := Option.some.inj (r.abs.symm.trans q.abs)
theorem Vals.inj : ∀ {xs ys : List V} {us : List Value}, Vals xs us → Vals ys us → xs = ys
  | _, _, _, .nil, .nil => rfl
  | _, _, _, .cons r t, .cons r' t' => by rw [r.inj r', Vals.inj t t']
section
variable {X : Cx} {pins : List (Addr × Obj)} {σ : St} {H : Hp} {s : Shared} {a : Addr} {xs ys : List V}
theorem SqL.of {K : PySem.W.Frag} (h : H a = some (.lst xs)) : SqL K H a xs := .inl (.inl h)
theorem SqT.of {K : PySem.W.Frag} (h : H a = some (.tup xs)) : SqT K H a xs := .inl (.inl h)
theorem Inv.list (I : Inv X pins σ H s) (h : SqL X.K H a xs) : ∃ its : List Value, Vals xs its ∧ PlainL s.heap a its.toArray ∧ xs.length ≤ sizeLine := by
  rcases h with h | ⟨o, its, n, hk, hc, hd, hs, hz, r⟩
  · obtain ⟨z, its, n, r, e⟩ := h.ok I.hok
    exact ⟨its, r, ⟨_, n, e, rfl, rfl, rfl⟩, z⟩
  · refine ⟨its.toList, r, ⟨o, n, I.kIn a o hk, hc, hd, by simpa using hs⟩, ?_⟩
    have e := r.length
    simp only [Array.length_toList] at e
    omega
theorem Inv.tuple (I : Inv X pins σ H s) (h : SqT X.K H a xs) : ∃ its : List Value, Vals xs its ∧ IsTup s.heap a its.toArray ∧ xs.length ≤ sizeLine := by
  rcases h with h | ⟨o, its, n, hk, hc, hs, hz, r⟩
  · obtain ⟨z, its, r, p⟩ := h.ok I.hok
    exact ⟨its, r, p, z⟩
  · refine ⟨its.toList, r, ⟨o, I.kIn a o hk, hc, n, by simpa using hs⟩, ?_⟩
    have e := r.length
    simp only [Array.length_toList] at e
    omega
theorem Inv.list_inj (I : Inv X pins σ H s) (h : SqL X.K H a xs) (h' : SqL X.K H a ys) : xs = ys := by
  obtain ⟨its, r, ⟨o, n, e, _, _, d⟩, _⟩ := I.list h
  obtain ⟨its', r', ⟨o', n', e', _, _, d'⟩, _⟩ := I.list h'
  rw [e] at e'; cases e'
  rw [d] at d'
  injection d' with d1 _
  have : its = its' := by simpa using congrArg Array.toList d1
  subst this
  exact r.inj r'
theorem Inv.tuple_inj (I : Inv X pins σ H s) (h : SqT X.K H a xs) (h' : SqT X.K H a ys) : xs = ys := by
  obtain ⟨its, r, ⟨o, e, _, n, d⟩, _⟩ := I.tuple h
  obtain ⟨its', r', ⟨o', e', _, n', d'⟩, _⟩ := I.tuple h'
  rw [e] at e'; cases e'
  rw [d] at d'
  injection d' with d1 _
  have : its = its' := by simpa using congrArg Array.toList d1
  subst this
  exact r.inj r'
end

/-! ### another wish about exceptions -/
abbrev Cx.wish (X : Cx) (E : Value → Shared → Prop) : Cx := { X with xe := E }
/-- no exception leaves -/
abbrev Cx.nox (X : Cx) : Cx := X.wish fun _ _ => False
theorem Cx.Ok.wish {X : Cx} (ok : X.Ok) (E : Value → Shared → Prop) : (X.wish E).Ok :=
  ⟨ok.mod, ok.kind, ok.glob, ok.blt, ok.above, ok.inj, ok.has, ok.cab, ok.hd, ok.frames, ok.stk, ok.exf, ok.bs, ok.bsz, ok.noex, ok.exfs, ok.funs, ok.frf⟩
theorem Cx.Ok.unwish {X : Cx} {E : Value → Shared → Prop} (ok : (X.wish E).Ok) : X.Ok :=
  ⟨ok.mod, ok.kind, ok.glob, ok.blt, ok.above, ok.inj, ok.has, ok.cab, ok.hd, ok.frames, ok.stk, ok.exf, ok.bs, ok.bsz, ok.noex, ok.exfs, ok.funs, ok.frf⟩
section
variable {X : Cx} {pins : List (Addr × Obj)} {σ : St} {H : Hp} {s : Shared} {E : Value → Shared → Prop}
theorem Inv.wish (I : Inv X pins σ H s) (E : Value → Shared → Prop) : Inv (X.wish E) pins σ H s := ⟨I.ok.wish E, I.os, I.bare, I.base, I.loc, I.cell, I.free, I.freeC, I.pin, I.hok, I.len⟩
theorem Inv.unwish (I : Inv (X.wish E) pins σ H s) : Inv X pins σ H s := ⟨I.ok.unwish, I.os, I.bare, I.base, I.loc, I.cell, I.free, I.freeC, I.pin, I.hok, I.len⟩
theorem SP.unwish {D : Ends} {f : Flow} {s' : Shared} (h : SP (X.wish E) pins D f s') : SP X pins D f s' := by
  cases f with
  | next => obtain ⟨σ', H', I, q⟩ := h; exact ⟨σ', H', I.unwish, q⟩
  | brk => obtain ⟨σ', H', I, q⟩ := h; exact ⟨σ', H', I.unwish, q⟩
  | cont => obtain ⟨σ', H', I, q⟩ := h; exact ⟨σ', H', I.unwish, q⟩
  | ret u => obtain ⟨v, σ', H', I, r, q⟩ := h; exact ⟨v, σ', H', I.unwish, r, q⟩
theorem PE.nox {e : Expr} {t : TE} (h : PE X.nox e t) : PE X e t := fun pins s σ H Q I hw =>
  wpAny_mono (h pins s σ H Q (I.wish _) hw) (fun _ _ ⟨v, H', I', r, q⟩ => ⟨v, H', I'.unwish, r, q⟩) fun _ _ z => False.elim z
theorem PT.nox {e : Expr} {t : TT} (h : PT X.nox e t) : PT X e t := fun pins s σ H Q I hw =>
  wpAny_mono (h pins s σ H Q (I.wish _) hw) (fun _ _ ⟨H', I', q⟩ => ⟨H', I'.unwish, q⟩) fun _ _ z => False.elim z
theorem PSs.nox {st : List Stmt} {t : TS} (h : PSs X.nox st t) : PSs X st t := fun pins s σ H D I hw =>
  wpAny_mono (h pins s σ H D (I.wish _) hw) (fun _ _ q => q.unwish) fun _ _ z => False.elim z
end

/-! ### blocks and small statements -/
section
variable {X : Cx} {st : Stmt} {rest : List Stmt} {t u : TS} {e : Expr} {te : TE} {pos : Pos}
def tNext : TS := fun D σ H => D.nx σ H
def tSeq (t u : TS) : TS := fun D σ H => t { D with nx := u D } σ H
theorem pss_nil : PSs X [] tNext := fun _ _ σ H _ I h => wpAny_execs_nil ⟨σ, H, I, h⟩
theorem pss_cons (h1 : PS X st t) (h2 : PSs X rest u) : PSs X (st :: rest) (tSeq t u) := by
  intro pins s σ H D I h
  refine wpAny_execs_cons (thn (h1 pins s σ H { D with nx := u D } I h) fun f s1 q => ?_)
  cases f with
  | next =>
    obtain ⟨σ', H', I', q⟩ := q
    exact h2 pins s1 σ' H' D I' q
  | ret v => exact q
  | brk => exact q
  | cont => exact q
theorem pss_one (h1 : PS X st t) : PSs X [st] t := by
  intro pins s σ H D I h
  refine wpAny_execs_cons (thn (h1 pins s σ H D I h) fun f s1 q => ?_)
  cases f with
  | next => exact wpAny_execs_nil q
  | ret v => exact q
  | brk => exact q
  | cont => exact q
def tBreak : TS := fun D σ H => D.bk σ H
def tCont : TS := fun D σ H => D.ct σ H
theorem ps_pass : PS X (.Pass pos) tNext := fun _ _ σ H _ I h => wpAny_Pass ⟨σ, H, I, h⟩
theorem ps_break : PS X (.Break pos) tBreak := fun _ _ σ H _ I h => wpAny_Break ⟨σ, H, I, h⟩
theorem ps_continue : PS X (.Continue pos) tCont := fun _ _ σ H _ I h => wpAny_Continue ⟨σ, H, I, h⟩
/-- in a def's body nothing is shown -/
theorem Inv.quiet {pins : List (Addr × Obj)} {σ : St} {H : Hp} {s : Shared} (I : Inv X pins σ H s) : interactive X.env = false := by simp [interactive, I.ok.kind]
/-- a docstring -/
theorem ps_doc {x j pos pos'} : PS X (.Expr (.Constant (.str x) j pos) pos') tNext := fun _ s σ H _ I h => wpAny_Expr (Calls.Constant_str (show SP X _ _ .next { s with toks := s.toks + 1 } from ⟨σ, H, I.tok _, h⟩)) I.quiet
/-- an expression whose value is dropped -/
def tDrop (te : TE) : TS := fun D σ H => te σ H fun _ H1 => D.nx σ H1
theorem ps_expr (he : PE X e te) (hs : swapsWith e none pos.line X.env = pure false := by rfl) : PS X (.Expr e pos) (tDrop te) := by
  intro pins s σ H D I h
  exact wpAny_Expr_any (thn (he pins s σ H _ I h) fun v s1 ⟨x, H1, I1, r1, q1⟩ => ⟨σ, H1, I1, q1⟩) I.quiet hs
def tRet (te : TE) : TS := fun D σ H => te σ H D.rt
theorem ps_ret (he : PE X e te) : PS X (.Return (some e) pos) (tRet te) := by
  intro pins s σ H D I h
  exact wpAny_Return_some (thn (he pins s σ H _ I h) fun v s1 ⟨x, H1, I1, r1, q1⟩ => ⟨x, σ, H1, I1, r1, q1⟩)
def tRetN : TS := fun D _ H => D.rt .non H
theorem ps_retN : PS X (.Return none pos) tRetN := fun _ _ σ H _ I h => wpAny_Return_none ⟨.non, σ, H, I, rfl, h⟩
def tIfS (c : TT) (t u : TS) : TS := fun D σ H => c σ H fun b H1 => if b = true then t D σ H1 else u D σ H1
theorem ps_if {c : Expr} {a b : List Stmt} {tc : TT} (hc : PT X c tc) (ha : PSs X a t) (hb : PSs X b u) : PS X (.If c a b pos) (tIfS tc t u) := by
  intro pins s σ H D I h
  refine wpAny_If (thn (hc pins s σ H _ I h) fun d s1 ⟨H1, I1, q1⟩ => ?_)
  cases d with
  | true => exact ha pins s1 σ H1 D I1 q1
  | false => exact hb pins s1 σ H1 D I1 q1
/-- code that the proof never comes to -/
def tNever : TS := fun _ _ _ => False
theorem ps_never : PS X st tNever := fun _ _ _ _ _ _ h => h.elim
theorem pss_never {sts : List Stmt} : PSs X sts tNever := fun _ _ _ _ _ _ h => h.elim
end

/-! ### targets -/
abbrev TG := V → St → Hp → (St → Hp → Prop) → Prop
abbrev TGs := List V → St → Hp → (St → Hp → Prop) → Prop
def PG (X : Cx) (target : Expr) (t : TG) : Prop :=
  ∀ (pins : List (Addr × Obj)) (s : Shared) (σ : St) (H : Hp) (v : V) (u : Value) (Q : St → Hp → Prop), Inv X pins σ H s → RelV v u → t v σ H Q →
    wpAny (model X.prog X.w) X.A (assign target X.env u) (fun _ s' => ∃ σ' H', Inv X pins σ' H' s' ∧ Q σ' H') X.xe s
/-- several targets, one after another -/
def PGs (X : Cx) (ts : List Expr) (t : TGs) : Prop :=
  ∀ (pins : List (Addr × Obj)) (s : Shared) (σ : St) (H : Hp) (vs : List V) (us : List Value) (Q : St → Hp → Prop), Inv X pins σ H s → Vals vs us → t vs σ H Q →
    wpAny (model X.prog X.w) X.A (assignInOrder ((assignEach ts X.env).map (·.2)) us) (fun _ s' => ∃ σ' H', Inv X pins σ' H' s' ∧ Q σ' H') X.xe s
/-- o[i] = v, by values -/
abbrev TSet := V → V → V → Hp → (Hp → Prop) → Prop
def PSet (X : Cx) (t : TSet) : Prop :=
  ∀ (pins : List (Addr × Obj)) (s : Shared) (σ : St) (H : Hp) (o i v : V) (ov iv u : Value) (Q : Hp → Prop), Inv X pins σ H s → RelV o ov → RelV i iv → RelV v u → t o i v H Q →
    wpAny (model X.prog X.w) X.A (setItem ov iv u) (fun _ s' => ∃ H', Inv X pins σ H' s' ∧ Q H') X.xe s
/-- a op= b, by values -/
abbrev TIp := V → V → Hp → VK → Prop
def PIp (X : Cx) (op : Operator) (t : TIp) : Prop :=
  ∀ (pins : List (Addr × Obj)) (s : Shared) (σ : St) (H : Hp) (x y : V) (v u : Value) (Q : VK), Inv X pins σ H s → RelV x v → RelV y u → t x y H Q →
    wpAny (model X.prog X.w) X.A (inplaceOp op v u) (EP X pins σ Q) X.xe s
section
variable {X : Cx} {pos : Pos}
def gName (i : Nat) : TG := fun v σ H Q => Q (σ.set i (some v)) H
theorem pg_name {i : Nat} {x : Str} (hN : X.N.Nodup) (hi : X.N[i]? = some x) (hx : Loc X.env.scope x) (hf : X.fn x = true ∨ X.env.scope.names.lookup x = some .local := by first | exact .inl rfl | exact .inr rfl | assumption) : PG X (.Name x pos) (gName i) := by
  intro pins s σ H v u Q I r h
  exact wpAny_assign_Name (store_ok I hN hi hx r (fun s' I' => ⟨_, H, I', h⟩) hf)
def gNil : TGs := fun vs σ H Q => vs = [] ∧ Q σ H
def gCons (t : TG) (u : TGs) : TGs := fun vs σ H Q => ∃ v r, vs = v :: r ∧ t v σ H fun σ' H' => u r σ' H' Q
theorem pgs_nil : PGs X [] gNil := by
  intro pins s σ H vs us Q I r h
  obtain ⟨e, h⟩ := h
  subst e
  cases r
  exact assignInOrder_nil ⟨σ, H, I, h⟩
theorem pgs_cons {e : Expr} {es : List Expr} {t : TG} {u : TGs} (h1 : PG X e t) (h2 : PGs X es u)
    (hs : (assignEach (e :: es) X.env).map (·.2) = assign e X.env :: (assignEach es X.env).map (·.2) := by rfl) : PGs X (e :: es) (gCons t u) := by
  intro pins s σ H vs us Q I r h
  obtain ⟨v, vr, e1, h⟩ := h
  subst e1
  cases r with
  | cons r rr =>
    rw [hs]
    refine assignInOrder_cons (thn (h1 pins s σ H _ _ _ I r h) fun _ s1 ⟨σ1, H1, I1, q1⟩ => ?_)
    exact h2 pins s1 σ1 H1 _ _ Q I1 rr q1
/-- (a, b, ..) = a tuple of that length -/
def gTup (K : PySem.W.Frag) (n : Nat) (t : TGs) : TG := fun v σ H Q => ∃ a xs, v = .ref a ∧ SqT K H a xs ∧ xs.length = n ∧ t xs σ H Q
theorem pg_tup {es : List Expr} {k : Nat} {t : TGs} {n : Nat} (hc : X.calm = true) (h : PGs X es t)
    (hn : (assignEach es X.env).length = n := by rfl) (hst : (assignEach es X.env).findIdx? (·.1) = none := by rfl) : PG X (.Tuple es k pos) (gTup X.K n t) := by
  intro pins s σ H v u Q I r hw
  obtain ⟨a, xs, e1, hq, hl, hw⟩ := hw
  subst e1
  cases r
  obtain ⟨its, rv, ht, hz⟩ := I.tuple hq
  refine assign_Tuple_tuple (I.ok.hd hc) ht (by simp [hn, ← hl, rv.length]) hst fun h' hx => ?_
  have I1 : Inv X pins σ H { s with heap := h' } := I.kept (t' := s.toks) fun b o e => hx b o (Nat.ne_of_lt (Heap.lt_size e)) e
  exact h pins _ σ H xs _ Q I1 (by simpa using rv) hw
/-- o[i] = .. -/
def gSub (to ti : TE) (t : TSet) : TG := fun v σ H Q => to σ H fun o H1 => ti σ H1 fun i H2 => t o i v H2 fun H3 => Q σ H3
theorem pg_sub {o i : Expr} {to ti : TE} {t : TSet} (ho : PE X o to) (hi : PE X i ti) (hs : PSet X t)
    (ha : ∀ v, assign (.Subscript o i pos) X.env v = (do
      let ov ← holding [v] (eval o X.env)
      let iv ← holding [v, ov] (eval i X.env)
      standAt pos
      holding [v, ov, iv] (setItem ov iv v)
      release [v, ov, iv] []) := by intro _; rfl) : PG X (.Subscript o i pos) (gSub to ti t) := by
  intro pins s σ H v u Q I r h
  rw [ha]
  refine wpAny_bind (wpAny_holding (thn (ho pins s σ H _ I h) fun ov s1 ⟨x, H1, I1, r1, q1⟩ => ?_))
  refine wpAny_bind (wpAny_holding (thn (hi pins s1 σ H1 _ I1 q1) fun iv s2 ⟨y, H2, I2, r2, q2⟩ => ?_))
  refine wpAny_bind (wpAny_standAt (wpAny_bind (wpAny_holding (thn (hs pins s2 σ H2 x y v ov iv u _ I2 r1 r2 r q2) fun _ s3 ⟨H3, I3, q3⟩ => ?_))))
  exact wpAny_release ⟨σ, H3, I3, q3⟩
/-- target = value -/
def tAsg (te : TE) (g : TG) : TS := fun D σ H => te σ H fun x H1 => g x σ H1 D.nx
theorem ps_asg {tg e : Expr} {te : TE} {g : TG} (he : PE X e te) (hg : PG X tg g) (hs : swapsWithSole [tg] e pos.line X.env = pure false := by rfl) (hw : swappedStores [tg] e X.env = pure none := by rfl)
    (h1 : (assignEach [tg] X.env).map (·.2) = [assign tg X.env] := by rfl) : PS X (.Assign [tg] e pos) (tAsg te g) := by
  intro pins s σ H D I h
  refine wpAny_Assign_stores (thn (he pins s σ H _ I h) fun v s1 ⟨x, H1, I1, r1, q1⟩ => ?_) hs hw
  rw [h1]
  exact thn (hg pins s1 σ H1 x v _ I1 r1 q1) fun _ s2 q => q
/-- name = value -/
theorem ps_set {i : Nat} {x : Str} {e : Expr} {te : TE} {pos' : Pos} (hN : X.N.Nodup) (hi : X.N[i]? = some x) (hx : Loc X.env.scope x) (he : PE X e te) (hs : swapsWith e (some (.Name x pos')) pos.line X.env = pure false := by rfl) (hf : X.fn x = true ∨ X.env.scope.names.lookup x = some .local := by first | exact .inl rfl | exact .inr rfl | assumption) :
    PS X (.Assign [.Name x pos'] e pos) (tAsg te (gName i)) := by
  intro pins s σ H D I h
  refine wpAny_Assign_Name (thn (he pins s σ H _ I h) fun v s1 ⟨y, H1, I1, r1, q1⟩ => ?_) hs
  exact store_ok I1 hN hi hx r1 (fun s2 I2 => ⟨_, H1, I2, q1⟩) hf
/-- a, b = x, y with plain local names: stored from the right; the pair itself is not tracked (the opening rows as in PyProof/Rows/TupAssign.lean:23) -/
def tPar (i j : Nat) (ta : TA) : TS := fun D σ H => ta σ H fun vs H1 => ∃ v w, vs = [v, w] ∧ D.nx ((σ.set i (some v)).set j (some w)) H1
theorem ps_par {i j : Nat} {x y : Str} {a b : Expr} {ta : TA} {px py pt : Pos} {kt k2 pt2} (hc : X.calm = true) (hN : X.N.Nodup) (hi : X.N[i]? = some x) (hj : X.N[j]? = some y) (hij : i ≠ j)
    (hx : X.env.scope.names.lookup x = some .local) (hy : X.env.scope.names.lookup y = some .local) (ha : PA X [a, b] ta)
    (hw : swappedStores [.Tuple [.Name x px, .Name y py] kt pt] (.Tuple [a, b] k2 pt2) X.env = pure (some [x, y]))
    (hs : swapsWithSole [.Tuple [.Name x px, .Name y py] kt pt] (.Tuple [a, b] k2 pt2) pos.line X.env = pure false := by rfl) :
    PS X (.Assign [.Tuple [.Name x px, .Name y py] kt pt] (.Tuple [a, b] k2 pt2) pos) (tPar i j ta) := by
  intro pins s σ H D I h
  rw [exec_Assign_arm]
  refine wpAny_bind (wpAny_standAt ?_)
  rw [hs]
  refine wpAny_bind (wpAny_pure ?_)
  rw [if_neg (by decide)]
  refine wpAny_bind (Tuple_ (thn (ha _ pins s σ H _ I h) fun us s1 ⟨vs, H1, I1, r1, q1⟩ => ?_))
  obtain ⟨v, w, e1, q1⟩ := q1
  subst e1
  obtain ⟨u1, u2, rfl, rv, rw'⟩ : ∃ u1 u2, us = [u1, u2] ∧ RelV v u1 ∧ RelV w u2 := by
    cases r1 with
    | cons p q =>
      cases q with
      | cons p' q' =>
        cases q'
        exact ⟨_, _, rfl, p, p'⟩
  refine wpAny_newObj_type ?_ (by show 2 ≤ sizeLine; decide)
  have I2 : Inv X pins σ H1 { s1 with heap := s1.heap.push { cls := .type "tuple", data := .seq [u1, u2].toArray } } := I1.kept (t' := s1.toks) fun b o e => Heap.get?_push_of_some _ e
  rw [hw]
  refine wpAny_bind (wpAny_pure ?_)
  show wpAny (model X.prog X.w) X.A (do rule "assign.swapped-stores"; let items ← unpackItems (.ref s1.heap.objs.size) 2 none; assignInOrder [fun v => bindName X.env y v, fun v => bindName X.env x v] items.reverse; pure Flow.next) _ _ _
  refine wpAny_bind (wpAny_rule (wpAny_bind (unpackItems_tuple (items := #[u1, u2]) (I.ok.hd hc) (IsTup.new s1.heap _) fun h' hx' => ?_)))
  have I3 := I2.kept (h' := h') (t' := s1.toks) fun b o e => hx' b o (Nat.ne_of_lt (Heap.lt_size e)) e
  show wpAny _ _ (assignInOrder [fun v => bindName X.env y v, fun v => bindName X.env x v] [u2, u1] >>= fun _ => pure Flow.next) _ _ _
  refine wpAny_bind (assignInOrder_cons (wpAny_bindName (store_ok I3 hN hj (.inl hy) rw' (fun s2 I4 => ?_) (.inr hy))))
  refine assignInOrder_cons (wpAny_bindName (store_ok I4 hN hi (.inl hx) rv (fun s3 I5 => assignInOrder_nil (wpAny_pure ?_)) (.inr hx)))
  rw [List.set_comm _ _ (Ne.symm hij)] at I5
  exact ⟨_, H1, I5, q1⟩
/-- name op= e -/
def tAug (i : Nat) (te : TE) (ti : TIp) : TS := fun D σ H => ∃ x, σ[i]? = some (some x) ∧ te σ H fun y H1 => ti x y H1 fun z H2 => D.nx (σ.set i (some z)) H2
theorem ps_aug {i : Nat} {x : Str} {e : Expr} {te : TE} {op : Operator} {ti : TIp} {pos' : Pos} (hN : X.N.Nodup) (hi : X.N[i]? = some x) (hx : Loc X.env.scope x) (he : PE X e te) (ho : PIp X op ti) (hf : X.fn x = true ∨ X.env.scope.names.lookup x = some .local := by first | exact .inl rfl | exact .inr rfl | assumption) :
    PS X (.AugAssign (.Name x pos') op e pos) (tAug i te ti) := by
  intro pins s σ H D I h
  obtain ⟨v, e1, h⟩ := h
  obtain ⟨m, hn, hl⟩ := I.loc
  have vis : Vis X.env.scope x := by rcases hx with k | k; exact .inl k; exact .inr (.inl k)
  obtain ⟨u, r, l⟩ := hl i x v hi e1 vis
  refine wpAny_AugAssign_Name ?_
  have go : wpAny (model X.prog X.w) X.A (eval e X.env) (fun w s₂ => wpAny (model X.prog X.w) X.A (inplaceOp op u w) (fun r s₃ => wpAny (model X.prog X.w) X.A (storeName X.env x r) (fun _ => SP X pins D .next) X.xe s₃) X.xe s₂) X.xe s := by
    refine thn (he pins s σ H _ I h) fun w s1 ⟨y, H1, I1, r1, q1⟩ => ?_
    refine thn (ho pins s1 σ H1 v y u w _ I1 r r1 q1) fun z s2 ⟨zv, H2, I2, r2, q2⟩ => ?_
    exact store_ok I2 hN hi hx r2 (fun s3 I3 => ⟨_, H2, I3, q2⟩) hf
  rcases l with ⟨hk, hm⟩ | ⟨hk, c, hc, hcell⟩
  · exact wpAny_loadName_local I.ok.kind hk hn hm go
  · rcases hk with hk | hk
    · exact wpAny_loadName_cell I.ok.kind hk hc hcell go
    · rcases hx with k | k
      · have : X.env.scope.names.lookup x = some .free := hk
        rw [k] at this; cases this
      · have : X.env.scope.names.lookup x = some .free := hk
        rw [k] at this; cases this
/-- o[i] op= e -/
def tAugS (to ti te : TE) (tget : V → V → Hp → VK → Prop) (tip : TIp) (tset : TSet) : TS := fun D σ H => to σ H fun o H1 => ti σ H1 fun i H2 => tget o i H2 fun x H3 => te σ H3 fun y H4 => tip x y H4 fun z H5 => tset o i z H5 fun H6 => D.nx σ H6
/-- o[i], by values -/
def PGet (X : Cx) (t : V → V → Hp → VK → Prop) : Prop :=
  ∀ (pins : List (Addr × Obj)) (s : Shared) (σ : St) (H : Hp) (o i : V) (ov iv : Value) (Q : VK), Inv X pins σ H s → RelV o ov → RelV i iv → t o i H Q →
    wpAny (model X.prog X.w) X.A (getItem ov iv) (EP X pins σ Q) X.xe s
theorem ps_augS {o i e : Expr} {to ti te : TE} {tget : V → V → Hp → VK → Prop} {tip : TIp} {tset : TSet} {op : Operator} {tpos : Pos} (ho : PE X o to) (hi : PE X i ti) (hg : PGet X tget) (he : PE X e te) (hp : PIp X op tip) (hs : PSet X tset)
    (ha : ∀ ov iv new, augStore i ov iv new = (do holding [new, ov, iv] (setItem ov iv new); release [new, ov, iv] []; pure .next) := by intros; rfl) : PS X (.AugAssign (.Subscript o i tpos) op e pos) (tAugS to ti te tget tip tset) := by
  intro pins s σ H D I h
  refine wpAny_AugAssign_SubscriptAny (thn (ho pins s σ H _ I h) fun ov s1 ⟨x1, H1, I1, r1, q1⟩ => ?_) ha
  refine thn (hi pins s1 σ H1 _ I1 q1) fun iv s2 ⟨x2, H2, I2, r2, q2⟩ => ?_
  refine thn (hg pins s2 σ H2 x1 x2 ov iv _ I2 r1 r2 q2) fun old s3 ⟨x3, H3, I3, r3, q3⟩ => ?_
  refine thn (he pins s3 σ H3 _ I3 q3) fun v s4 ⟨x4, H4, I4, r4, q4⟩ => ?_
  refine thn (hp pins s4 σ H4 x3 x4 old v _ I4 r3 r4 q4) fun new s5 ⟨x5, H5, I5, r5, q5⟩ => ?_
  exact thn (hs pins s5 σ H5 x1 x2 x5 ov iv new _ I5 r1 r2 r5 q5) fun _ s6 ⟨H6, I6, q6⟩ => ⟨σ, H6, I6, q6⟩
/-- ints -/
def ipI (f : Int → Int → Int) : TIp := fun x y H Q => ∃ i j, x = .int i ∧ y = .int j ∧ Q (.int (f i j)) H
theorem ip_add : PIp X .Add (ipI fun i j => i + j) := by
  intro pins s σ H x y v u Q I r1 r2 h
  obtain ⟨i, j, e1, e2, q⟩ := h
  subst e1; subst e2
  obtain ⟨t, rfl⟩ := r1
  obtain ⟨t', rfl⟩ := r2
  exact iadd_int ⟨.int _, H, I.tok _, ⟨_, rfl⟩, q⟩
theorem ip_sub : PIp X .Sub (ipI fun i j => i - j) := by
  intro pins s σ H x y v u Q I r1 r2 h
  obtain ⟨i, j, e1, e2, q⟩ := h
  subst e1; subst e2
  obtain ⟨t, rfl⟩ := r1
  obtain ⟨t', rfl⟩ := r2
  exact isub_int ⟨.int _, H, I.tok _, ⟨_, rfl⟩, q⟩
end

/-! ### while -/
section
variable {X : Cx} {pos : Pos}
/-- the invariant W with its measure -/
def tWhile (c : TT) (tb : TS) : TS := fun D σ H => ∃ W : Nat → St → Hp → Prop, (∃ m, W m σ H) ∧ ∀ m σ H, W m σ H →
  c σ H fun b H1 => if b = true then ∃ N : St → Hp → Prop, (∀ σ' H', N σ' H' → ∃ m', m' < m ∧ W m' σ' H') ∧ tb { D with nx := N, ct := N, bk := D.nx } σ H1 else D.nx σ H1
theorem ps_while {c : Expr} {body : List Stmt} {tc : TT} {tb : TS} (hp : PassesOwn (model X.prog X.w) X.A X.env X.xe) (hc : PT X c tc) (hb : PSs X body tb) : PS X (.While c body [] pos) (tWhile tc tb) := by
  intro pins s σ H D I h
  obtain ⟨W, ⟨m0, w0⟩, turn⟩ := h
  refine wpAny_While (codeAny_whileLoop (fun n s' => ∃ σ' H', Inv X pins σ' H' s' ∧ W n σ' H') ?_ m0 ⟨σ, H, I, w0⟩)
  rintro n s1 ⟨σ1, H1, I1, w1⟩
  refine wpAny_passesOwn hp (thn (hc pins s1 σ1 H1 _ I1 (turn n σ1 H1 w1)) fun b s2 ⟨H2, I2, q2⟩ => ?_)
  cases b with
  | true =>
    obtain ⟨N, hN, q2⟩ := q2
    rw [if_pos rfl]
    refine wpAny_passesOwn hp (thn (hb pins s2 σ1 H2 _ I2 q2) fun f s3 q3 => ?_)
    cases f with
    | next =>
      obtain ⟨σ3, H3, I3, n3⟩ := q3
      obtain ⟨m', hm, w3⟩ := hN σ3 H3 n3
      exact ⟨m', hm, σ3, H3, I3, w3⟩
    | cont =>
      obtain ⟨σ3, H3, I3, n3⟩ := q3
      obtain ⟨m', hm, w3⟩ := hN σ3 H3 n3
      exact ⟨m', hm, σ3, H3, I3, w3⟩
    | brk => exact q3
    | ret v => exact q3
  | false =>
    rw [if_neg Bool.false_ne_true]
    exact wpAny_execs_nil ⟨σ1, H2, I2, q2⟩
end

/-! ### what a loop or a comprehension walks -/
/-- at turn i: it yields x (the heap may grow), or it stops -/
structure It where
  go : Nat → Hp → Prop
  yld : Nat → Hp → V → Hp → Prop
  stop : Nat → Hp → Prop
/-- the iterator's own objects may turn: they are not the frame's, not pinned, younger than the entry (or a comprehension's own) -/
def FpOk (X : Cx) (pins : List (Addr × Obj)) (H : Hp) (b : Addr) : Prop :=
  H b = none ∧ b ≠ X.env.locals ∧ b ∉ X.fs ∧ (b ∈ X.ex ∨ X.s₀.heap.objs.size ≤ b) ∧ (∀ x c, X.env.cells.lookup x = some c → c ≠ b) ∧ ∀ p ∈ X.pn ++ pins, p.1 ≠ b
theorem Inv.fpOk {X : Cx} {pins : List (Addr × Obj)} {σ : St} {H H' : Hp} {s : Shared} {b : Addr} (I : Inv X pins σ H s) (hb : s.heap.objs.size ≤ b) (hn : H' b = none) : FpOk X pins H' b := by
  refine ⟨hn, Nat.ne_of_gt (Nat.lt_of_lt_of_le I.lt hb), I.nofs hb, .inr (Nat.le_trans I.sz hb), fun x c e z => ?_, fun p hp z => ?_⟩
  · obtain ⟨v, q⟩ := I.cell x c e
    exact absurd (Nat.lt_of_lt_of_le q.lt (by rw [z]; exact hb)) (Nat.lt_irrefl _)
  · exact absurd (Nat.lt_of_lt_of_le (Heap.lt_size (I.pin p hp).1) (by rw [z]; exact hb)) (Nat.lt_irrefl _)
structure Turn (P : Program) (w : World) (K : PySem.W.Frag) (tg : Expr) (J : It) (fp : List Addr) (it : Addr) (tn : Nat → Heap → Prop) : Prop where
  mem : it ∈ fp
  obj : ∀ i h, tn i h → ∀ b ∈ fp, ∃ o, h.get? b = some o ∧ ∀ v, o.data ≠ .cell v
  keep : ∀ i h h', tn i h → (∀ b ∈ fp, ∀ o, h.get? b = some o → h'.get? b = some o) → tn i h'
  item : ∀ (X : Cx), X.prog = P → X.w = w → X.K = K → X.calm = true → ∀ (i : Nat) (pins : List (Addr × Obj)) (s : Shared) (σ : St) (H : Hp) (E : Value → Shared → Prop), Inv X pins σ H s → (∀ b ∈ fp, FpOk X pins H b) → tn i s.heap → J.go i H →
    wpAny (model P w) X.A (pyNext (.ref it)) (fun r s1 => ∃ u, r = some u ∧
      wpAny (model P w) X.A (letOwnedTupleGo tg (.ref it) u) (fun _ s2 => ∃ x H', Inv X pins σ H' s2 ∧ RelV x u ∧ J.yld i H x H' ∧ tn (i + 1) s2.heap ∧ ∀ b ∈ fp, H' b = none) E s1) E s
  done : ∀ (X : Cx), X.prog = P → X.w = w → X.K = K → X.calm = true → ∀ (i : Nat) (pins : List (Addr × Obj)) (s : Shared) (σ : St) (H : Hp) (E : Value → Shared → Prop), Inv X pins σ H s → (∀ b ∈ fp, FpOk X pins H b) → tn i s.heap → J.stop i H →
    wpAny (model P w) X.A (pyNext (.ref it)) (fun r s1 => r = none ∧ Inv X pins σ H s1) E s
  self : ∀ (A : Around) (i : Nat) (s : Shared) (Q : Value → Shared → Prop) (E : Value → Shared → Prop), tn i s.heap → Q (.ref it) s → wpAny (model P w) A (pyIter (.ref it)) Q E s
abbrev TI := St → Hp → (It → Hp → Prop) → Prop
/-- an iterator has come -/
def PIE (X : Cx) (pins : List (Addr × Obj)) (σ : St) (tg : Expr) (R : It → Hp → Prop) (itv : Value) (s2 : Shared) : Prop :=
  ∃ (it : Addr) (fp : List Addr) (tn : Nat → Heap → Prop) (J : It) (H' : Hp), itv = .ref it ∧ Inv X pins σ H' s2 ∧ Turn X.prog X.w X.K tg J fp it tn ∧ tn 0 s2.heap ∧ (∀ b ∈ fp, FpOk X pins H' b) ∧ R J H'
def PI (X : Cx) (tg iter : Expr) (wi : TI) : Prop :=
  ∀ (pins : List (Addr × Obj)) (s : Shared) (σ : St) (H : Hp) (R : It → Hp → Prop), Inv X pins σ H s → wi σ H R →
    wpAny (model X.prog X.w) X.A (eval iter X.env) (fun v s1 => wpAny (model X.prog X.w) X.A (pyIter v) (PIE X pins σ tg R) X.xe s1) X.xe s

/-- the step ahead of the store is nothing for an iterator that keeps no tuple -/
theorem go_of {M : Model} {A : Around} {E : Value → Shared → Prop} {s : Shared} {tg : Expr} {it : Addr} {u : Value} {o : Obj} {n : String} {vs : Array Value} {Q : Unit → Shared → Prop} (ho : s.heap.get? it = some o) (hc : o.cls = .type n) (hd : o.data = .fields vs)
    (hn : ["enumerate", "zip", "dict_itemiterator", "dict_reverseitemiterator", "odict_iterator", "itertools.zip_longest", "itertools.pairwise"].contains n = false) (hQ : Q () s) : wpAny M A (letOwnedTupleGo tg (.ref it) u) Q E s := by
  unfold letOwnedTupleGo
  cases tg <;> first
    | exact wpAny_pure hQ
    | (cases u <;> first
        | exact wpAny_pure hQ
        | (refine wpAny_bind (wpAny_load ho ?_)
           rw [hc, hd]
           show wpAny M A (if (["enumerate", "zip", "dict_itemiterator", "dict_reverseitemiterator", "odict_iterator", "itertools.zip_longest", "itertools.pairwise"].contains n && vs[0]? == some (rawInt _)) = true then _ else _) Q E s
           rw [if_neg (by intro h; rw [hn, Bool.false_and] at h; cases h)]
           exact wpAny_pure hQ))

/-- the list at a, as it stands at each turn (a loop may append to it) -/
def Itl (K : PySem.W.Frag) (a : Addr) : It :=
  ⟨fun i H => ∃ xs x, SqL K H a xs ∧ xs[i]? = some x, fun i H x H' => H' = H ∧ ∀ xs, SqL K H a xs → xs[i]? = some x, fun i H => ∃ xs, SqL K H a xs ∧ xs.length ≤ i⟩
def Itt (K : PySem.W.Frag) (a : Addr) : It :=
  ⟨fun i H => ∃ xs x, SqT K H a xs ∧ xs[i]? = some x, fun i H x H' => H' = H ∧ ∀ xs, SqT K H a xs → xs[i]? = some x, fun i H => ∃ xs, SqT K H a xs ∧ xs.length ≤ i⟩
/-- lo, lo + 1, .. (n of them) -/
def Itr (lo : Int) (n : Nat) : It := ⟨fun i _ => i < n, fun i H x H' => H' = H ∧ x = .int (lo + i), fun i _ => n ≤ i⟩
theorem turn_list {P : Program} {w : World} {K : PySem.W.Frag} {tg : Expr} (a it : Addr) : Turn P w K tg (Itl K a) [it] it (fun i h => h.IsListIter it a i) where
  mem := by simp
  obj := fun i h st b hb => by
    have e : b = it := by simpa using hb
    subst e
    obtain ⟨o, e, c, d⟩ := st
    exact ⟨o, e, fun v z => by rw [d] at z; cases z⟩
  keep := fun i h h' st k => st.at fun o e => k it (by simp) o e
  item := by
    intro X hP hw hK hc i pins s σ H E I hf st hg
    subst hP hw hK
    obtain ⟨xs, x, hq, hx⟩ := hg
    obtain ⟨its, rv, p, hz⟩ := I.list hq
    obtain ⟨u, hu, ru⟩ := rv.get hx
    obtain ⟨f0, f1, f2, f3, f4, f5⟩ := hf it (by simp)
    refine wpAny_pyNext_list_item st p.isList (x := u) (by simpa using hu) fun h' st' sb => ?_
    have I1 : Inv X pins σ H { s with heap := h' } := I.turned (t' := s.toks) (fun b o hb e => (sb.2 b hb).trans e) f0 f1 f3 f4 f5
    obtain ⟨o, e, c, d⟩ := id st'
    exact ⟨u, rfl, go_of (s := { s with heap := h' }) e c d (by decide) ⟨x, H, I1, ru, ⟨rfl, fun ys hy => by rw [I.list_inj hy hq]; exact hx⟩, st', fun b hb => (hf b hb).1⟩⟩
  done := by
    intro X hP hw hK hc i pins s σ H E I hf st hg
    subst hP hw hK
    obtain ⟨xs, hq, hx⟩ := hg
    obtain ⟨its, rv, p, hz⟩ := I.list hq
    obtain ⟨f0, f1, f2, f3, f4, f5⟩ := hf it (by simp)
    have hl := rv.length
    exact wpAny_pyNext_list_end (I.ok.hd hc) st p.isList (by simp; omega) fun h' eb => ⟨rfl, I.turned (t' := s.toks) (fun b o hb e => eb b o hb e) f0 f1 f3 f4 f5⟩
  self := fun _ _ _ _ _ st h => wpAny_pyIter_listiter st h
theorem turn_tuple {P : Program} {w : World} {K : PySem.W.Frag} {tg : Expr} (a it : Addr) : Turn P w K tg (Itt K a) [it] it (fun i h => h.IsTupleIter it a i) where
  mem := by simp
  obj := fun i h st b hb => by
    have e : b = it := by simpa using hb
    subst e
    obtain ⟨o, e, c, d⟩ := st
    exact ⟨o, e, fun v z => by rw [d] at z; cases z⟩
  keep := fun i h h' st k => st.at fun o e => k it (by simp) o e
  item := by
    intro X hP hw hK hc i pins s σ H E I hf st hg
    subst hP hw hK
    obtain ⟨xs, x, hq, hx⟩ := hg
    obtain ⟨its, rv, p, hz⟩ := I.tuple hq
    obtain ⟨u, hu, ru⟩ := rv.get hx
    obtain ⟨f0, f1, f2, f3, f4, f5⟩ := hf it (by simp)
    refine wpAny_pyNext_tuple_item st (show s.heap.IsTuple a its.toArray from p) (x := u) (by simpa using hu) fun h' st' sb => ?_
    have I1 : Inv X pins σ H { s with heap := h' } := I.turned (t' := s.toks) (fun b o hb e => (sb.2 b hb).trans e) f0 f1 f3 f4 f5
    obtain ⟨o, e, c, d⟩ := id st'
    exact ⟨u, rfl, go_of (s := { s with heap := h' }) e c d (by decide) ⟨x, H, I1, ru, ⟨rfl, fun ys hy => by rw [I.tuple_inj hy hq]; exact hx⟩, st', fun b hb => (hf b hb).1⟩⟩
  done := by
    intro X hP hw hK hc i pins s σ H E I hf st hg
    subst hP hw hK
    obtain ⟨xs, hq, hx⟩ := hg
    obtain ⟨its, rv, p, hz⟩ := I.tuple hq
    obtain ⟨f0, f1, f2, f3, f4, f5⟩ := hf it (by simp)
    have hl := rv.length
    exact wpAny_pyNext_tuple_end (I.ok.hd hc) st (show s.heap.IsTuple a its.toArray from p) (by simp; omega) fun h' eb => ⟨rfl, I.turned (t' := s.toks) (fun b o hb e => eb b o hb e) f0 f1 f3 f4 f5⟩
  self := fun _ _ _ _ _ st h => wpAny_pyIter_tupleiter st h
theorem turn_range {P : Program} {w : World} {K : PySem.W.Frag} {tg : Expr} (it : Addr) (lo : Int) (n : Nat) : Turn P w K tg (Itr lo n) [it] it (fun i h => IsRangeIter h it (lo + (i : Nat) * 1) ((n : Int) - (i : Nat)) 1) where
  mem := by simp
  obj := fun i h st b hb => by
    have e : b = it := by simpa using hb
    subst e
    exact ⟨_, st, fun v z => by
      have z' : Data.fields _ = Data.cell v := z
      cases z'⟩
  keep := fun i h h' st k => k it (by simp) _ st
  item := by
    intro X hP hw hK hc i pins s σ H E I hf st hg
    subst hP hw hK
    obtain ⟨f0, f1, f2, f3, f4, f5⟩ := hf it (by simp)
    have W := Walks.range (prog := X.prog) (w := X.w) (I.ok.hd hc) it lo 1 n
    refine W.item i s _ _ hg st fun v h' tk hv st' kk => ?_
    obtain ⟨t, rfl⟩ := hv
    have I1 : Inv X pins σ H { s with heap := h', toks := tk } := I.turned (fun b o hb e => kk b o (by simpa using hb) e) f0 f1 f3 f4 f5
    refine ⟨_, rfl, go_of (s := { s with heap := h', toks := tk }) (n := "range_iterator") st' rfl rfl (by decide) ⟨.int (lo + i), H, I1, ⟨t, ?_⟩, ⟨rfl, rfl⟩, st', fun b hb => (hf b hb).1⟩⟩
    rw [Int.mul_one]
  done := by
    intro X hP hw hK hc i pins s σ H E I hf st hg
    subst hP hw hK
    obtain ⟨f0, f1, f2, f3, f4, f5⟩ := hf it (by simp)
    exact wpAny_pyNext_range_end (I.ok.hd hc) st (by have : n ≤ i := hg; omega) fun h' eb => ⟨rfl, I.turned (t' := s.toks) (fun b o hb e => eb b o hb e) f0 f1 f3 f4 f5⟩
  self := fun _ _ _ _ _ st h => wpAny_pyIter_rangeiter st h
end L2

namespace L2
open PySem PySem.Spec PyProof.Rows
section
variable {X : Cx} {tg : Expr}
def iList (K : PySem.W.Frag) (tl : TE) : TI := fun σ H R => tl σ H fun x H1 => ∃ a, x = .ref a ∧ (∃ xs, SqL K H1 a xs) ∧ R (Itl K a) H1
def iTup (K : PySem.W.Frag) (tl : TE) : TI := fun σ H R => tl σ H fun x H1 => ∃ a, x = .ref a ∧ (∃ xs, SqT K H1 a xs) ∧ R (Itt K a) H1
theorem pi_list {l : Expr} {tl : TE} (hl : PE X l tl) : PI X tg l (iList X.K tl) := by
  intro pins s σ H R I h
  refine thn (hl pins s σ H _ I h) fun v s1 ⟨x, H1, I1, r1, q1⟩ => ?_
  obtain ⟨a, e, ⟨xs, hq⟩, q⟩ := q1
  subst e
  cases r1
  obtain ⟨its, rv, p, hz⟩ := I1.list hq
  refine wpAny_pyIter_list p.isList ?_
  refine ⟨s1.heap.objs.size, [s1.heap.objs.size], _, _, H1, rfl, I1.kept (t' := s1.toks) fun b o e => Heap.get?_push_of_some _ e, turn_list a _, ⟨_, Heap.get?_push_size _ rfl, rfl, rfl⟩, fun b hb => ?_, q⟩
  have e : b = s1.heap.objs.size := by simpa using hb
  subst e
  exact I1.fpOk (Nat.le_refl _) (I1.hok.fresh (Nat.le_refl _))
theorem pi_tup {l : Expr} {tl : TE} (hl : PE X l tl) : PI X tg l (iTup X.K tl) := by
  intro pins s σ H R I h
  refine thn (hl pins s σ H _ I h) fun v s1 ⟨x, H1, I1, r1, q1⟩ => ?_
  obtain ⟨a, e, ⟨xs, hq⟩, q⟩ := q1
  subst e
  cases r1
  obtain ⟨its, rv, p, hz⟩ := I1.tuple hq
  refine wpAny_pyIter_tuple (show s1.heap.IsTuple a its.toArray from p) ?_
  refine ⟨s1.heap.objs.size, [s1.heap.objs.size], _, _, H1, rfl, I1.kept (t' := s1.toks) fun b o e => Heap.get?_push_of_some _ e, turn_tuple a _, ⟨_, Heap.get?_push_size _ rfl, rfl, rfl⟩, fun b hb => ?_, q⟩
  have e : b = s1.heap.objs.size := by simpa using hb
  subst e
  exact I1.fpOk (Nat.le_refl _) (I1.hok.fresh (Nat.le_refl _))
/-- a range object just made, walked -/
theorem range_it {pins : List (Addr × Obj)} {σ : St} {H : Hp} {s : Shared} {R : It → Hp → Prop} {E : Value → Shared → Prop} {lo hi : Int} {t u v : Tok} {tk : Nat} (I : Inv X pins σ H s) (h1 : -(2 ^ 62) ≤ lo) (h2 : lo < 2 ^ 62) (h3 : -(2 ^ 62) ≤ hi) (h4 : hi < 2 ^ 62)
    (q : R (Itr lo (hi - lo).toNat) H) : wpAny (model X.prog X.w) X.A (pyIter (.ref s.heap.objs.size)) (PIE X pins σ tg R) E { s with heap := s.heap.push { cls := .type "range", data := .fields #[.int lo t, .int hi u, .int 1 v] }, toks := tk } := by
  refine wpAny_pyIter_range (IsRange.new ..) (small_one h1 h2 h3 h4) ?_
  have I1 : Inv X pins σ H { s with heap := s.heap.push { cls := .type "range", data := .fields #[.int lo t, .int hi u, .int 1 v] }, toks := tk } := I.kept fun b o e => Heap.get?_push_of_some _ e
  refine ⟨(s.heap.push { cls := .type "range", data := .fields #[.int lo t, .int hi u, .int 1 v] }).objs.size, [(s.heap.push { cls := .type "range", data := .fields #[.int lo t, .int hi u, .int 1 v] }).objs.size], _, _, H, rfl,
    I1.kept (t' := tk) fun b o e => Heap.get?_push_of_some _ e, turn_range _ lo (hi - lo).toNat, ?_, fun b hb => ?_, q⟩
  · have e1 : lo + ((0 : Nat) : Int) * 1 = lo := by simp
    have e2 : (((hi - lo).toNat : Nat) : Int) - ((0 : Nat) : Int) = Builtin.Range.rangeSize lo hi 1 := by rw [rangeSize_one]; split <;> omega
    show IsRangeIter _ _ (lo + ((0 : Nat) : Int) * 1) ((((hi - lo).toNat : Nat) : Int) - ((0 : Nat) : Int)) 1
    rw [e1, e2]
    exact Heap.get?_push_size _ rfl
  · have e : b = (s.heap.push { cls := .type "range", data := .fields #[.int lo t, .int hi u, .int 1 v] }).objs.size := by simpa using hb
    subst e
    exact I1.fpOk (Nat.le_refl _) (I1.hok.fresh (Nat.le_refl _))
def iRng1 (ta : TA) : TI := fun σ H R => ta σ H fun vs H1 => ∃ j : Int, vs = [.int j] ∧ -(2 ^ 62) ≤ j ∧ j < 2 ^ 62 ∧ R (Itr 0 j.toNat) H1
def iRng2 (ta : TA) : TI := fun σ H R => ta σ H fun vs H1 => ∃ i j : Int, vs = [.int i, .int j] ∧ (-(2 ^ 62) ≤ i ∧ i < 2 ^ 62 ∧ -(2 ^ 62) ≤ j ∧ j < 2 ^ 62) ∧ R (Itr i (j - i).toNat) H1
theorem pi_range1 {a : Expr} {ta : TA} {p pos : Pos} (hg : Gl X "range") (hm : X.mg "range" = none) (ha : PA X [a] ta) (hs : starEach [a] X.env = [(false, eval a X.env)] := by rfl) : PI X tg (.Call (.Name "range" p) [a] [] pos) (iRng1 ta) := by
  intro pins s σ H R I h
  refine Call_ (ld_blt I hg hm boot_range (PyProof.Rows.callWith_type1 (thn (ha pos pins s σ H _ I h) fun us s1 ⟨vs, H1, I1, r1, q1⟩ => ?_) hs rfl))
  obtain ⟨j, e, q1, q2, q⟩ := q1
  subst e
  cases r1 with
  | cons r rr =>
    cases rr
    obtain ⟨t, rfl⟩ := r
    exact call_range_1 (range_it I1 (by omega) (by omega) q1 q2 (by simpa using q))
theorem pi_range2 {a b : Expr} {ta : TA} {p pos : Pos} (hg : Gl X "range") (hm : X.mg "range" = none) (ha : PA X [a, b] ta) (hs : starEach [a, b] X.env = [(false, eval a X.env), (false, eval b X.env)] := by rfl) (hs2 : starEach [b] X.env = [(false, eval b X.env)] := by rfl) :
    PI X tg (.Call (.Name "range" p) [a, b] [] pos) (iRng2 ta) := by
  intro pins s σ H R I h
  refine Call_ (ld_blt I hg hm boot_range (PyProof.Rows.callWith_type1 (thn (ha pos pins s σ H _ I h) fun us s1 ⟨vs, H1, I1, r1, q1⟩ => ?_) (by rw [hs, hs2]) (by rw [hs2]; rfl)))
  obtain ⟨i, j, e, ⟨q1, q2, q3, q4⟩, q⟩ := q1
  subst e
  cases r1 with
  | cons r rr =>
    cases rr with
    | cons r' rr =>
      cases rr
      obtain ⟨t, rfl⟩ := r
      obtain ⟨t', rfl⟩ := r'
      exact call_range_2 (range_it I1 q1 q2 q3 q4 q)

/-! ### for -/
/-- W: the invariant by the turn and a measure; N: what the body is to reach -/
def tFor (wi : TI) (g : TG) (tb : TS) : TS := fun D σ H => wi σ H fun J H1 => ∃ W : Nat → Nat → St → Hp → Prop, (∃ m, W 0 m σ H1) ∧ ∀ i m σ H, W i m σ H →
  (J.stop i H ∧ D.nx σ H) ∨ (J.go i H ∧ ∃ N : St → Hp → Prop, (∀ σ' H', N σ' H' → ∃ m', m' < m ∧ W (i + 1) m' σ' H') ∧ ∀ x H', J.yld i H x H' → g x σ H' fun σ2 H2 => tb { D with nx := N, ct := N, bk := D.nx } σ2 H2)
/-- the records at fp as they stand -/
def pinsAt (fp : List Addr) (h : Heap) : List (Addr × Obj) := fp.filterMap fun b => (h.get? b).map fun o => (b, o)
theorem mem_pinsAt {fp : List Addr} {h : Heap} {b : Addr} {o : Obj} (hb : b ∈ fp) (e : h.get? b = some o) : (b, o) ∈ pinsAt fp h := List.mem_filterMap.mpr ⟨b, hb, by rw [e]; rfl⟩
theorem of_pinsAt {fp : List Addr} {h : Heap} {p : Addr × Obj} (hp : p ∈ pinsAt fp h) : p.1 ∈ fp ∧ h.get? p.1 = some p.2 := by
  obtain ⟨b, hb, e⟩ := List.mem_filterMap.mp hp
  cases q : h.get? b with
  | none => rw [q] at e; cases e
  | some o =>
    rw [q] at e
    have e' : (b, o) = p := Option.some.inj e
    subst e'
    exact ⟨hb, q⟩
theorem Inv.pinned {pins : List (Addr × Obj)} {σ : St} {H : Hp} {s : Shared} {fp : List Addr} (I : Inv X pins σ H s) (hf : ∀ b ∈ fp, FpOk X pins H b) (ho : ∀ b ∈ fp, ∃ o, s.heap.get? b = some o ∧ ∀ v, o.data ≠ .cell v) : Inv X (pins ++ pinsAt fp s.heap) σ H s :=
  I.pins_of fun p hp => (List.mem_append.mp hp).elim (fun z => I.pin p (List.mem_append_right _ z)) fun z => by
    obtain ⟨hb, e⟩ := of_pinsAt z
    obtain ⟨f0, f1, f2, _⟩ := hf p.1 hb
    obtain ⟨o, e', d⟩ := ho p.1 hb
    rw [e] at e'; cases e'
    exact ⟨e, f0, f1, f2, d⟩
theorem Inv.unpinned {pins pl : List (Addr × Obj)} {σ : St} {H : Hp} {s : Shared} (I : Inv X (pins ++ pl) σ H s) : Inv X pins σ H s := I.pins_of fun p hp => I.pin p (List.mem_append_right _ (List.mem_append_left _ hp))
theorem ps_for {iter : Expr} {body : List Stmt} {wi : TI} {g : TG} {tb : TS} {pos : Pos} (hp : PassesOwn (model X.prog X.w) X.A X.env X.xe) (hc : X.calm = true) (hi : PI X tg iter wi) (hg : PG X tg g) (hb : PSs X body tb)
    (hs : ∀ x, foldedSetIterable iter X.env x = pure x := by intro _; rfl) : PS X (.For tg iter body [] pos) (tFor wi g tb) := by
  intro pins s σ H D I h
  refine wpAny_For (thn (hi pins s σ H _ I h) fun v s1 h1 => thn h1 fun itv s2 h2 => ?_) hs
  obtain ⟨it, fp, tn, J, H2, e, I2, T, st2, f2, W, ⟨m0, w0⟩, turn⟩ := h2
  subst e
  -- what stays true of the iterator's objects through the loop
  have stat : ∀ {H' : Hp}, (∀ b ∈ fp, H' b = none) → ∀ b ∈ fp, FpOk X pins H' b := fun hn b hb => ⟨hn b hb, (f2 b hb).2⟩
  refine codeAny_forLoop_any (fun n s' => ∃ i σ' H', Inv X pins σ' H' s' ∧ tn i s'.heap ∧ (∀ b ∈ fp, H' b = none) ∧ W i n σ' H') ?_ m0 ⟨0, σ, H2, I2, st2, fun b hb => (f2 b hb).1, w0⟩
  rintro n s3 ⟨i, σ3, H3, I3, st3, fr3, w3⟩
  rcases turn i n σ3 H3 w3 with ⟨stop, qn⟩ | ⟨go, N, hN, step⟩
  · refine wpAny_passesOwn hp (thn (T.done X rfl rfl rfl hc i pins s3 σ3 H3 X.xe I3 (stat fr3) st3 stop) fun r s4 ⟨hr, I4⟩ => ?_)
    subst hr
    exact wpAny_execs_nil ⟨σ3, H3, I4, qn⟩
  · refine wpAny_passesOwn hp (thn (T.item X rfl rfl rfl hc i pins s3 σ3 H3 X.xe I3 (stat fr3) st3 go) fun r s4 ⟨u, hr, h4⟩ => ?_)
    subst hr
    refine wpAny_passesOwn hp (thn h4 fun _ s5 ⟨x, H5, I5, r5, y5, st5, fr5⟩ => ?_)
    have I5' := I5.pinned (stat fr5) (T.obj _ _ st5)
    refine wpAny_passesOwn hp (thn (hg _ s5 σ3 H5 x u _ I5' r5 (step x H5 y5)) fun _ s6 ⟨σ6, H6, I6, q6⟩ => ?_)
    refine wpAny_passesOwn hp (thn (hb _ s6 σ6 H6 _ I6 q6) fun f s7 q7 => ?_)
    have again : ∀ {σ7 : St} {H7 : Hp}, Inv X (pins ++ pinsAt fp s5.heap) σ7 H7 s7 → N σ7 H7 → ∃ m, m < n ∧ ∃ i σ' H', Inv X pins σ' H' s7 ∧ tn i s7.heap ∧ (∀ b ∈ fp, H' b = none) ∧ W i m σ' H' := fun {σ7 H7} I7 n7 => by
      obtain ⟨m', hm, w7⟩ := hN σ7 H7 n7
      refine ⟨m', hm, i + 1, σ7, H7, I7.unpinned, T.keep _ _ _ st5 fun b hb o e => (I7.pin (b, o) (List.mem_append_right _ (List.mem_append_right _ (mem_pinsAt hb e)))).1, fun b hb => ?_, w7⟩
      obtain ⟨o, e, d⟩ := T.obj _ _ st5 b hb
      exact (I7.pin (b, o) (List.mem_append_right _ (List.mem_append_right _ (mem_pinsAt hb e)))).2.1
    cases f with
    | next => obtain ⟨σ7, H7, I7, n7⟩ := q7; exact again I7 n7
    | cont => obtain ⟨σ7, H7, I7, n7⟩ := q7; exact again I7 n7
    | brk => obtain ⟨σ7, H7, I7, q7⟩ := q7; exact ⟨σ7, H7, I7.unpinned, q7⟩
    | ret v => obtain ⟨x7, σ7, H7, I7, r7, q7⟩ := q7; exact ⟨x7, σ7, H7, I7.unpinned, r7, q7⟩
end

/-! ### the forms one uses -/
/-- over a list that the body leaves as it is -/
theorem for_list {K : PySem.W.Frag} {a : Addr} {xs : List V} {g : TG} {tb : TS} {D : Ends} {σ : St} {H : Hp} (Pv : Nat → St → Hp → Prop) (h0 : Pv 0 σ H) (hl : ∀ i σ H, i ≤ xs.length → Pv i σ H → SqL K H a xs)
    (hs : ∀ i x σ H, xs[i]? = some x → Pv i σ H → g x σ H fun σ2 H2 => tb { D with nx := Pv (i + 1), ct := Pv (i + 1), bk := D.nx } σ2 H2) (hd : ∀ σ H, Pv xs.length σ H → D.nx σ H) :
    ∃ W : Nat → Nat → St → Hp → Prop, (∃ m, W 0 m σ H) ∧ ∀ i m σ H, W i m σ H →
      ((Itl K a).stop i H ∧ D.nx σ H) ∨ ((Itl K a).go i H ∧ ∃ N : St → Hp → Prop, (∀ σ' H', N σ' H' → ∃ m', m' < m ∧ W (i + 1) m' σ' H') ∧ ∀ x H', (Itl K a).yld i H x H' → g x σ H' fun σ2 H2 => tb { D with nx := N, ct := N, bk := D.nx } σ2 H2) := by
  refine ⟨fun i m σ H => m = xs.length - i ∧ i ≤ xs.length ∧ Pv i σ H, ⟨xs.length, by simp, Nat.zero_le _, h0⟩, ?_⟩
  rintro i m σ H ⟨rfl, hi, p⟩
  have q := hl i σ H hi p
  by_cases hlt : i < xs.length
  · refine .inr ⟨⟨xs, xs[i], q, by simp [hlt]⟩, Pv (i + 1), fun σ' H' p' => ⟨xs.length - (i + 1), by omega, rfl, hlt, p'⟩, fun x H' y => ?_⟩
    obtain ⟨e, y⟩ := y
    subst e
    exact hs i x σ _ (y xs q) p
  · have e : i = xs.length := by omega
    subst e
    exact .inl ⟨⟨xs, q, Nat.le_refl _⟩, hd σ H p⟩
theorem for_tup {K : PySem.W.Frag} {a : Addr} {xs : List V} {g : TG} {tb : TS} {D : Ends} {σ : St} {H : Hp} (Pv : Nat → St → Hp → Prop) (h0 : Pv 0 σ H) (hl : ∀ i σ H, i ≤ xs.length → Pv i σ H → SqT K H a xs)
    (hs : ∀ i x σ H, xs[i]? = some x → Pv i σ H → g x σ H fun σ2 H2 => tb { D with nx := Pv (i + 1), ct := Pv (i + 1), bk := D.nx } σ2 H2) (hd : ∀ σ H, Pv xs.length σ H → D.nx σ H) :
    ∃ W : Nat → Nat → St → Hp → Prop, (∃ m, W 0 m σ H) ∧ ∀ i m σ H, W i m σ H →
      ((Itt K a).stop i H ∧ D.nx σ H) ∨ ((Itt K a).go i H ∧ ∃ N : St → Hp → Prop, (∀ σ' H', N σ' H' → ∃ m', m' < m ∧ W (i + 1) m' σ' H') ∧ ∀ x H', (Itt K a).yld i H x H' → g x σ H' fun σ2 H2 => tb { D with nx := N, ct := N, bk := D.nx } σ2 H2) := by
  refine ⟨fun i m σ H => m = xs.length - i ∧ i ≤ xs.length ∧ Pv i σ H, ⟨xs.length, by simp, Nat.zero_le _, h0⟩, ?_⟩
  rintro i m σ H ⟨rfl, hi, p⟩
  have q := hl i σ H hi p
  by_cases hlt : i < xs.length
  · refine .inr ⟨⟨xs, xs[i], q, by simp [hlt]⟩, Pv (i + 1), fun σ' H' p' => ⟨xs.length - (i + 1), by omega, rfl, hlt, p'⟩, fun x H' y => ?_⟩
    obtain ⟨e, y⟩ := y
    subst e
    exact hs i x σ _ (y xs q) p
  · have e : i = xs.length := by omega
    subst e
    exact .inl ⟨⟨xs, q, Nat.le_refl _⟩, hd σ H p⟩
theorem for_range {lo : Int} {n : Nat} {g : TG} {tb : TS} {D : Ends} {σ : St} {H : Hp} (Pv : Nat → St → Hp → Prop) (h0 : Pv 0 σ H)
    (hs : ∀ i σ H, i < n → Pv i σ H → g (.int (lo + i)) σ H fun σ2 H2 => tb { D with nx := Pv (i + 1), ct := Pv (i + 1), bk := D.nx } σ2 H2) (hd : ∀ σ H, Pv n σ H → D.nx σ H) :
    ∃ W : Nat → Nat → St → Hp → Prop, (∃ m, W 0 m σ H) ∧ ∀ i m σ H, W i m σ H →
      ((Itr lo n).stop i H ∧ D.nx σ H) ∨ ((Itr lo n).go i H ∧ ∃ N : St → Hp → Prop, (∀ σ' H', N σ' H' → ∃ m', m' < m ∧ W (i + 1) m' σ' H') ∧ ∀ x H', (Itr lo n).yld i H x H' → g x σ H' fun σ2 H2 => tb { D with nx := N, ct := N, bk := D.nx } σ2 H2) := by
  refine ⟨fun i m σ H => m = n - i ∧ i ≤ n ∧ Pv i σ H, ⟨n, by simp, Nat.zero_le _, h0⟩, ?_⟩
  rintro i m σ H ⟨rfl, hi, p⟩
  by_cases hlt : i < n
  · refine .inr ⟨hlt, Pv (i + 1), fun σ' H' p' => ⟨n - (i + 1), by omega, rfl, hlt, p'⟩, fun x H' y => ?_⟩
    obtain ⟨e, y⟩ := y
    subst e y
    exact hs i σ _ hlt p
  · have e : i = n := by omega
    subst e
    exact .inl ⟨Nat.le_refl _, hd σ H p⟩
/-- while, by a word and a measure of the state -/
theorem while_by {c : TT} {tb : TS} {D : Ends} {σ : St} {H : Hp} (Pv : St → Hp → Prop) (μ : St → Hp → Nat) (h0 : Pv σ H)
    (hs : ∀ σ H, Pv σ H → c σ H fun b H1 => if b = true then tb { D with nx := fun σ' H' => Pv σ' H' ∧ μ σ' H' < μ σ H, ct := fun σ' H' => Pv σ' H' ∧ μ σ' H' < μ σ H, bk := D.nx } σ H1 else D.nx σ H1)
    (mono : ∀ σ H Q Q', (∀ b H1, Q b H1 → Q' b H1) → c σ H Q → c σ H Q') : tWhile c tb D σ H := by
  refine ⟨fun m σ H => m = μ σ H ∧ Pv σ H, ⟨_, rfl, h0⟩, ?_⟩
  rintro m σ H ⟨rfl, p⟩
  refine mono σ H _ _ (fun b H1 q => ?_) (hs σ H p)
  cases b with
  | true => exact ⟨_, fun σ' H' ⟨p', l⟩ => ⟨_, l, rfl, p'⟩, q⟩
  | false => exact q
end L2

namespace L2
open PySem PySem.Spec PyProof.Rows

abbrev R2 := V → V → Hp → VK → Prop
/-- a two-place operation on values: f is binaryOp op, inplaceOp op or compareOp op -/
def OpR (X : Cx) (f : Value → Value → Sem Value) (r : R2) : Prop :=
  ∀ (pins : List (Addr × Obj)) (s : Shared) (σ : St) (H : Hp) (x y : V) (v u : Value) (Q : VK), Inv X pins σ H s → RelV x v → RelV y u → r x y H Q →
    wpAny (model X.prog X.w) X.A (f v u) (EP X pins σ Q) X.xe s
/-- a one-place operation -/
def UnR (X : Cx) (f : Value → Sem Value) (r : V → Hp → VK → Prop) : Prop :=
  ∀ (pins : List (Addr × Obj)) (s : Shared) (σ : St) (H : Hp) (x : V) (v : Value) (Q : VK), Inv X pins σ H s → RelV x v → r x H Q →
    wpAny (model X.prog X.w) X.A (f v) (EP X pins σ Q) X.xe s
/-- a call of a value that is known (a builtin, a type) with values -/
def CallR (X : Cx) (f : Value) (r : List V → Hp → VK → Prop) : Prop :=
  ∀ (pins : List (Addr × Obj)) (s : Shared) (σ : St) (H : Hp) (xs : List V) (us : List Value) (Q : VK), Inv X pins σ H s → Vals xs us → r xs H Q →
    wpAny (model X.prog X.w) X.A (call f us) (EP X pins σ Q) X.xe s
/-- a value's truth -/
def TruR (X : Cx) (r : V → Hp → (Bool → Hp → Prop) → Prop) : Prop :=
  ∀ (pins : List (Addr × Obj)) (s : Shared) (σ : St) (H : Hp) (x : V) (v : Value) (Q : Bool → Hp → Prop), Inv X pins σ H s → RelV x v → r x H Q →
    wpAny (model X.prog X.w) X.A (truthy v) (TP X pins σ Q) X.xe s

def tOp (r : R2) (ta tb : TE) : TE := fun σ H Q => ta σ H fun x H1 => tb σ H1 fun y H2 => r x y H2 Q
def tUn (r : V → Hp → VK → Prop) (ta : TE) : TE := fun σ H Q => ta σ H fun x H1 => r x H1 Q
/-- ints in, under C, and a value out -/
def rI (C : Int → Int → Prop) (g : Int → Int → V) : R2 := fun x y H Q => ∃ i j, x = .int i ∧ y = .int j ∧ C i j ∧ Q (g i j) H
def rI0 (g : Int → Int → V) : R2 := fun x y H Q => ∃ i j, x = .int i ∧ y = .int j ∧ Q (g i j) H
def rU (g : Int → V) : V → Hp → VK → Prop := fun x H Q => ∃ i, x = .int i ∧ Q (g i) H

section
variable {X : Cx} {a b c : Expr} {ta tb tc : TE} {pos : Pos}

theorem binT (ha : PE X a ta) (hb : PE X b tb) {pins : List (Addr × Obj)} {s : Shared} {σ : St} {H : Hp} {R : V → V → Hp → Prop} (I : Inv X pins σ H s)
    (h : ta σ H fun x H1 => tb σ H1 fun y H2 => R x y H2) {Q : Value → Shared → Prop} {f : Value → Value → Sem Value}
    (hf : ∀ v u s2 x y H2, Inv X pins σ H2 s2 → RelV x v → RelV y u → R x y H2 → wpAny (model X.prog X.w) X.A (f v u) Q X.xe s2) :
    wpAny (model X.prog X.w) X.A (eval a X.env) (fun v s₁ => wpAny (model X.prog X.w) X.A (eval b X.env) (fun u s₂ => wpAny (model X.prog X.w) X.A (f v u) Q X.xe s₂) X.xe s₁) X.xe s := by
  refine thn (ha pins s σ H _ I h) fun v s1 ⟨x, H1, I1, r1, q1⟩ => ?_
  refine thn (hb pins s1 σ H1 _ I1 q1) fun u s2 ⟨y, H2, I2, r2, q2⟩ => ?_
  exact hf v u s2 x y H2 I2 r1 r2 q2

theorem pe_op {op : Operator} {r : R2} (ho : OpR X (binaryOp op) r) (ha : PE X a ta) (hb : PE X b tb) : PE X (.BinOp a op b pos) (tOp r ta tb) := by
  intro pins s σ H Q I h
  exact wpAny_BinOp (binT ha hb I h fun v u s2 x y H2 I2 rx ry q => ho pins s2 σ H2 x y v u Q I2 rx ry q)
theorem pe_un {op : UnaryOp} {r : V → Hp → VK → Prop} (ho : UnR X (unaryOp op) r) (ha : PE X a ta) : PE X (.UnaryOp op a pos) (tUn r ta) := by
  intro pins s σ H Q I h
  exact UnaryOp_ (thn (ha pins s σ H _ I h) fun v s1 ⟨x, H1, I1, r1, q1⟩ => ho pins s1 σ H1 x v Q I1 r1 q1)
/-- a op= e at a name: the name's slot i -/
theorem augR {op : Operator} {r : R2} (ho : OpR X (inplaceOp op) r) {pins : List (Addr × Obj)} {s : Shared} {σ : St} {H : Hp} {x y : V} {v u : Value} {Q : VK} (I : Inv X pins σ H s)
    (rx : RelV x v) (ry : RelV y u) (q : r x y H Q) : wpAny (model X.prog X.w) X.A (inplaceOp op v u) (EP X pins σ Q) X.xe s := ho pins s σ H x y v u Q I rx ry q

/-! ### ints -/
theorem opI {f : Value → Value → Sem Value} {C : Int → Int → Prop} {g : Int → Int → Int}
    (rule : ∀ (i j : Int) (t u : Tok) (s : Shared) (Q : Value → Shared → Prop) (E : Value → Shared → Prop), C i j → Q (.int (g i j) s.toks) { s with toks := s.toks + 1 } → wpAny (model X.prog X.w) X.A (f (.int i t) (.int j u)) Q E s) :
    OpR X f (rI C fun i j => .int (g i j)) := by
  intro pins s σ H x y v u Q I rx ry h
  obtain ⟨i, j, rfl, rfl, hc, q⟩ := h
  obtain ⟨t, rfl⟩ := rx
  obtain ⟨t', rfl⟩ := ry
  exact rule i j t t' s _ _ hc ⟨.int (g i j), H, I.tok _, ⟨_, rfl⟩, q⟩
theorem opI0 {f : Value → Value → Sem Value} {g : Int → Int → Int}
    (rule : ∀ (i j : Int) (t u : Tok) (s : Shared) (Q : Value → Shared → Prop) (E : Value → Shared → Prop), Q (.int (g i j) s.toks) { s with toks := s.toks + 1 } → wpAny (model X.prog X.w) X.A (f (.int i t) (.int j u)) Q E s) :
    OpR X f (rI0 fun i j => .int (g i j)) := by
  intro pins s σ H x y v u Q I rx ry h
  obtain ⟨i, j, rfl, rfl, q⟩ := h
  obtain ⟨t, rfl⟩ := rx
  obtain ⟨t', rfl⟩ := ry
  exact rule i j t t' s _ _ ⟨.int (g i j), H, I.tok _, ⟨_, rfl⟩, q⟩
theorem opB0 {f : Value → Value → Sem Value} {g : Int → Int → Bool}
    (rule : ∀ (i j : Int) (t u : Tok) (s : Shared) (Q : Value → Shared → Prop) (E : Value → Shared → Prop), Q (.bool (g i j)) s → wpAny (model X.prog X.w) X.A (f (.int i t) (.int j u)) Q E s) :
    OpR X f (rI0 fun i j => .bl (g i j)) := by
  intro pins s σ H x y v u Q I rx ry h
  obtain ⟨i, j, rfl, rfl, q⟩ := h
  obtain ⟨t, rfl⟩ := rx
  obtain ⟨t', rfl⟩ := ry
  exact rule i j t t' s _ _ ⟨.bl (g i j), H, I, rfl, q⟩

def CDiv (i j : Int) : Prop := 0 < j ∧ j < 1073741824
def CDivN (i j : Int) : Prop := j ≠ 0 ∧ j.natAbs < 1073741824
def CPow (i j : Int) : Prop := 0 ≤ j ∧ j ≤ 1000000 ∧ i.natAbs < 2 ^ 64
def CMul (i j : Int) : Prop := (-(2 ^ 64) < i ∧ i < 2 ^ 64) ∨ (-(2 ^ 64) < j ∧ j < 2 ^ 64)
theorem CMul.ok {i j : Int} (h : CMul i j) : IntMulOk i j := by
  rcases h with ⟨h1, h2⟩ | ⟨h1, h2⟩
  · exact .of_left (intBits_le_64 h1 h2)
  · exact .of_right (intBits_le_64 h1 h2)
theorem two_pow_nn (k : Nat) : (0 : Int) ≤ 2 ^ k := by
  rw [two_pow_cast]
  exact Int.natCast_nonneg _

theorem op_add : OpR X (binaryOp .Add) (rI0 fun i j => .int (i + j)) := opI0 fun _ _ _ _ _ _ _ q => add_int q
theorem op_sub : OpR X (binaryOp .Sub) (rI0 fun i j => .int (i - j)) := opI0 fun _ _ _ _ _ _ _ q => sub_int q
theorem op_mul : OpR X (binaryOp .Mult) (rI CMul fun i j => .int (i * j)) := opI fun _ _ _ _ _ _ _ hc q => mul_int q hc.ok
/-- // by a positive divisor -/
theorem op_fdiv : OpR X (binaryOp .FloorDiv) (rI CDiv fun i j => .int (i / j)) := opI fun i j _ _ _ _ _ hc q => by
  have h1 : (0 : Int) < j := hc.1
  have h2 : j < 1073741824 := hc.2
  exact floordiv_int (by omega) (by rw [Int.fdiv_eq_ediv_of_nonneg i (by omega)]; exact q) (.inl (PyProof.noPylong_small (by omega)))
theorem op_fdivN : OpR X (binaryOp .FloorDiv) (rI CDivN fun i j => .int (i.fdiv j)) := opI fun _ _ _ _ _ _ _ hc q => floordiv_int hc.1 q (.inl (PyProof.noPylong_small hc.2))
/-- % by a positive divisor of any size -/
theorem op_mod : OpR X (binaryOp .Mod) (rI (fun _ j => 0 < j) fun i j => .int (i % j)) := opI fun i j _ _ _ _ _ hc q => by
  have h1 : (0 : Int) < j := hc
  exact mod_int' (by omega) (by rw [Int.fmod_eq_emod_of_nonneg i (by omega)]; exact q)
theorem op_modN : OpR X (binaryOp .Mod) (rI (fun _ j => j ≠ 0) fun i j => .int (i.fmod j)) := opI fun _ _ _ _ _ _ _ hc q => mod_int' hc q
theorem op_pow : OpR X (binaryOp .Pow) (rI CPow fun i j => .int (i ^ j.toNat)) := opI fun _ _ _ _ _ _ _ hc q => pow_int_small hc.1 hc.2.1 hc.2.2 q
theorem op_shl : OpR X (binaryOp .LShift) (rI CPow fun i j => .int (i * 2 ^ j.toNat)) := opI fun _ _ _ _ _ _ _ hc q => lshift_int_small hc.1 hc.2.1 hc.2.2 q
theorem op_shr : OpR X (binaryOp .RShift) (rI (fun _ j => 0 ≤ j) fun i j => .int (i / 2 ^ j.toNat)) := opI fun i j _ _ _ _ _ hc q =>
  rshift_int hc (by rw [Int.fdiv_eq_ediv_of_nonneg i (two_pow_nn _)]; exact q)
theorem op_and : OpR X (binaryOp .BitAnd) (rI0 fun i j => .int (Builtin.bitAnd i j)) := opI0 fun _ _ _ _ _ _ _ q => and_int q
theorem op_or : OpR X (binaryOp .BitOr) (rI0 fun i j => .int (Builtin.bitOr i j)) := opI0 fun _ _ _ _ _ _ _ q => or_int q
theorem op_xor : OpR X (binaryOp .BitXor) (rI0 fun i j => .int (Builtin.bitXor i j)) := opI0 fun _ _ _ _ _ _ _ q => xor_int q

theorem iop_add : OpR X (inplaceOp .Add) (rI0 fun i j => .int (i + j)) := opI0 fun _ _ _ _ _ _ _ q => iadd_int q
theorem iop_sub : OpR X (inplaceOp .Sub) (rI0 fun i j => .int (i - j)) := opI0 fun _ _ _ _ _ _ _ q => isub_int q
theorem iop_mul : OpR X (inplaceOp .Mult) (rI CMul fun i j => .int (i * j)) := opI fun _ _ _ _ _ _ _ hc q => imul_int q hc.ok
theorem iop_fdiv : OpR X (inplaceOp .FloorDiv) (rI CDiv fun i j => .int (i / j)) := opI fun i j _ _ _ _ _ hc q => by
  have h1 : (0 : Int) < j := hc.1
  have h2 : j < 1073741824 := hc.2
  exact ifloordiv_int (by omega) (by rw [Int.fdiv_eq_ediv_of_nonneg i (by omega)]; exact q) (.inl (PyProof.noPylong_small (by omega)))
theorem iop_mod : OpR X (inplaceOp .Mod) (rI (fun _ j => 0 < j) fun i j => .int (i % j)) := opI fun i j _ _ _ _ _ hc q => by
  have h1 : (0 : Int) < j := hc
  exact imod_int (by omega) (by rw [Int.fmod_eq_emod_of_nonneg i (by omega)]; exact q)
theorem iop_shl : OpR X (inplaceOp .LShift) (rI CPow fun i j => .int (i * 2 ^ j.toNat)) := opI fun _ _ _ _ _ _ _ hc q => ilshift_int_small hc.1 hc.2.1 hc.2.2 q
theorem iop_shr : OpR X (inplaceOp .RShift) (rI (fun _ j => 0 ≤ j) fun i j => .int (i / 2 ^ j.toNat)) := opI fun i j _ _ _ _ _ hc q =>
  irshift_int hc (by rw [Int.fdiv_eq_ediv_of_nonneg i (two_pow_nn _)]; exact q)
theorem iop_and : OpR X (inplaceOp .BitAnd) (rI0 fun i j => .int (Builtin.bitAnd i j)) := opI0 fun _ _ _ _ _ _ _ q => iand_int q
theorem iop_or : OpR X (inplaceOp .BitOr) (rI0 fun i j => .int (Builtin.bitOr i j)) := opI0 fun _ _ _ _ _ _ _ q => ior_int q
theorem iop_xor : OpR X (inplaceOp .BitXor) (rI0 fun i j => .int (Builtin.bitXor i j)) := opI0 fun _ _ _ _ _ _ _ q => ixor_int q

theorem unI {f : Value → Sem Value} {g : Int → Int}
    (rule : ∀ (i : Int) (t : Tok) (s : Shared) (Q : Value → Shared → Prop) (E : Value → Shared → Prop), Q (.int (g i) s.toks) { s with toks := s.toks + 1 } → wpAny (model X.prog X.w) X.A (f (.int i t)) Q E s) :
    UnR X f (rU fun i => .int (g i)) := by
  intro pins s σ H x v Q I rx h
  obtain ⟨i, rfl, q⟩ := h
  obtain ⟨t, rfl⟩ := rx
  exact rule i t s _ _ ⟨.int (g i), H, I.tok _, ⟨_, rfl⟩, q⟩
theorem un_neg : UnR X (unaryOp .USub) (rU fun i => .int (-i)) := unI fun _ _ _ _ _ q => neg_int q
theorem un_inv : UnR X (unaryOp .Invert) (rU fun i => .int (Builtin.bitNot i)) := unI fun _ _ _ _ _ q => invert_int q

/-! ### bools among ints: n += (a < b) -/
theorem op_add_ib : OpR X (binaryOp .Add) (fun x y H Q => ∃ i k, x = .int i ∧ y = .bl k ∧ Q (.int (i + b2i k)) H) := by
  intro pins s σ H x y v u Q I rx ry h
  obtain ⟨i, k, rfl, rfl, q⟩ := h
  obtain ⟨t, rfl⟩ := rx
  cases ry
  exact add_int_bool ⟨.int (i + b2i k), H, I.tok _, ⟨_, rfl⟩, q⟩
end

/-! ### comparisons -/
/-- the scalars that == tells apart as data does -/
def scal : V → V → Bool
  | .non, .non => true | .non, .int _ => true | .int _, .non => true | .non, .bl _ => true | .bl _, .non => true | .non, .str _ => true | .str _, .non => true
  | .int _, .int _ => true | .bl _, .bl _ => true | .str _, .str _ => true | .byt _, .byt _ => true
  | .int _, .str _ => true | .str _, .int _ => true | .bl _, .str _ => true | .str _, .bl _ => true
  | _, _ => false
def rEq : R2 := fun x y H Q => scal x y = true ∧ Q (.bl (decide (x = y))) H
def rNe : R2 := fun x y H Q => scal x y = true ∧ Q (.bl (!decide (x = y))) H

theorem dec_int {i j : Int} : decide (V.int i = V.int j) = (i == j) := by
  rw [Bool.eq_iff_iff]
  simp
theorem dec_bl {i j : Bool} : decide (V.bl i = V.bl j) = (i == j) := by
  rw [Bool.eq_iff_iff]
  simp
theorem dec_str {i j : Str} : decide (V.str i = V.str j) = (i == j) := by
  rw [Bool.eq_iff_iff]
  simp
theorem dec_byt {i j : Array UInt8} : decide (V.byt i = V.byt j) = (i.toList == j.toList) := by
  rw [Bool.eq_iff_iff]
  cases i
  cases j
  simp

section
variable {X : Cx} {a b c : Expr} {ta tb tc : TE} {pos : Pos}
theorem fin_bl {pins : List (Addr × Obj)} {σ : St} {H : Hp} {s : Shared} {Q : VK} {k k' : Bool} (I : Inv X pins σ H s) (q : Q (.bl k) H) (e : k = k') : EP X pins σ Q (.bool k') s := by
  subst e
  exact ⟨.bl k, H, I, rfl, q⟩
theorem op_eq : OpR X (compareOp .Eq) rEq := by
  intro pins s σ H x y v u Q I rx ry h
  obtain ⟨hs, q⟩ := h
  cases x with
  | non =>
    cases rx
    cases y with
    | non => cases ry; exact PySem.EqNone.eq_none_none (fin_bl I q (by simp))
    | bl j => cases ry; exact PySem.EqNone.eq_none_bool (fin_bl I q (by simp))
    | int j => obtain ⟨t', rfl⟩ := ry; exact PySem.EqNone.eq_none_int (fin_bl I q (by simp))
    | str j => obtain ⟨t', rfl⟩ := ry; exact PySem.EqNone.eq_none_str (fin_bl I q (by simp))
    | _ => exact absurd (show false = true from hs) Bool.false_ne_true
  | bl i =>
    cases rx
    cases y with
    | non => cases ry; exact PySem.EqNone.eq_bool_none (fin_bl I q (by simp))
    | bl j => cases ry; exact eq_bool (fin_bl I q dec_bl)
    | str j => obtain ⟨t', rfl⟩ := ry; exact PySem.EqMixed.eq_bool_str (fin_bl I q (by simp))
    | _ => exact absurd (show false = true from hs) Bool.false_ne_true
  | int i =>
    obtain ⟨t, rfl⟩ := rx
    cases y with
    | non => cases ry; exact PySem.EqNone.eq_int_none (fin_bl I q (by simp))
    | int j => obtain ⟨t', rfl⟩ := ry; exact eq_int (fin_bl I q dec_int)
    | str j => obtain ⟨t', rfl⟩ := ry; exact PySem.EqMixed.eq_int_str (fin_bl I q (by simp))
    | _ => exact absurd (show false = true from hs) Bool.false_ne_true
  | str i =>
    obtain ⟨t, rfl⟩ := rx
    cases y with
    | non => cases ry; exact PySem.EqNone.eq_str_none (fin_bl I q (by simp))
    | bl j => cases ry; exact PySem.EqMixed.eq_str_bool (fin_bl I q (by simp))
    | int j => obtain ⟨t', rfl⟩ := ry; exact PySem.EqMixed.eq_str_int (fin_bl I q (by simp))
    | str j => obtain ⟨t', rfl⟩ := ry; exact eq_str (fin_bl I q dec_str)
    | _ => exact absurd (show false = true from hs) Bool.false_ne_true
  | byt i =>
    obtain ⟨t, rfl⟩ := rx
    cases y with
    | byt j => obtain ⟨t', rfl⟩ := ry; exact PySem.W.eq_bytes (fin_bl I q dec_byt)
    | _ => exact absurd (show false = true from hs) Bool.false_ne_true
  | _ => cases y <;> exact absurd (show false = true from hs) Bool.false_ne_true
theorem op_ne : OpR X (compareOp .NotEq) rNe := by
  intro pins s σ H x y v u Q I rx ry h
  obtain ⟨hs, q⟩ := h
  cases x with
  | non =>
    cases rx
    cases y with
    | non => cases ry; exact PySem.EqNone.ne_none_none (fin_bl I q (by simp))
    | bl j => cases ry; exact PySem.EqNone.ne_none_bool (fin_bl I q (by simp))
    | int j => obtain ⟨t', rfl⟩ := ry; exact PySem.EqNone.ne_none_int (fin_bl I q (by simp))
    | str j => obtain ⟨t', rfl⟩ := ry; exact PySem.EqNone.ne_none_str (fin_bl I q (by simp))
    | _ => exact absurd (show false = true from hs) Bool.false_ne_true
  | bl i =>
    cases rx
    cases y with
    | non => cases ry; exact PySem.EqNone.ne_bool_none (fin_bl I q (by simp))
    | bl j => cases ry; exact ne_bool (fin_bl I q (congrArg not dec_bl))
    | str j => obtain ⟨t', rfl⟩ := ry; exact PySem.EqMixed.ne_bool_str (fin_bl I q (by simp))
    | _ => exact absurd (show false = true from hs) Bool.false_ne_true
  | int i =>
    obtain ⟨t, rfl⟩ := rx
    cases y with
    | non => cases ry; exact PySem.EqNone.ne_int_none (fin_bl I q (by simp))
    | int j => obtain ⟨t', rfl⟩ := ry; exact ne_int (fin_bl I q (congrArg not dec_int))
    | str j => obtain ⟨t', rfl⟩ := ry; exact PySem.EqMixed.ne_int_str (fin_bl I q (by simp))
    | _ => exact absurd (show false = true from hs) Bool.false_ne_true
  | str i =>
    obtain ⟨t, rfl⟩ := rx
    cases y with
    | non => cases ry; exact PySem.EqNone.ne_str_none (fin_bl I q (by simp))
    | bl j => cases ry; exact PySem.EqMixed.ne_str_bool (fin_bl I q (by simp))
    | int j => obtain ⟨t', rfl⟩ := ry; exact PySem.EqMixed.ne_str_int (fin_bl I q (by simp))
    | str j => obtain ⟨t', rfl⟩ := ry; exact ne_str (fin_bl I q (congrArg not dec_str))
    | _ => exact absurd (show false = true from hs) Bool.false_ne_true
  | byt i =>
    obtain ⟨t, rfl⟩ := rx
    cases y with
    | byt j => obtain ⟨t', rfl⟩ := ry; exact PySem.W.ne_bytes (fin_bl I q (congrArg not dec_byt))
    | _ => exact absurd (show false = true from hs) Bool.false_ne_true
  | _ => cases y <;> exact absurd (show false = true from hs) Bool.false_ne_true

theorem op_lt : OpR X (compareOp .Lt) (rI0 fun i j => .bl (decide (i < j))) := opB0 fun _ _ _ _ _ _ _ q => lt_int q
theorem op_le : OpR X (compareOp .LtE) (rI0 fun i j => .bl (decide (i ≤ j))) := opB0 fun _ _ _ _ _ _ _ q => le_int q
theorem op_gt : OpR X (compareOp .Gt) (rI0 fun i j => .bl (decide (j < i))) := opB0 fun _ _ _ _ _ _ _ q => gt_int q
theorem op_ge : OpR X (compareOp .GtE) (rI0 fun i j => .bl (decide (j ≤ i))) := opB0 fun _ _ _ _ _ _ _ q => ge_int q
theorem op_lt_str : OpR X (compareOp .Lt) (fun x y H Q => ∃ i j, x = .str i ∧ y = .str j ∧ Q (.bl (decide (i.cps.toList < j.cps.toList))) H) := by
  intro pins s σ H x y v u Q I rx ry h
  obtain ⟨i, j, rfl, rfl, q⟩ := h
  obtain ⟨t, rfl⟩ := rx
  obtain ⟨t', rfl⟩ := ry
  exact lt_str (fin_bl I q rfl)
/-- the one string within the other -/
theorem op_in_str : OpR X (compareOp .In) (fun x y H Q => ∃ i j, x = .str i ∧ y = .str j ∧ Q (.bl (!(Builtin.Str.occurrences j i 0 j.length 1).isEmpty)) H) := by
  intro pins s σ H x y v u Q I rx ry h
  obtain ⟨i, j, rfl, rfl, q⟩ := h
  obtain ⟨t, rfl⟩ := rx
  obtain ⟨t', rfl⟩ := ry
  exact in_str (fin_bl I q rfl)

/-- is None, is not None: the right side a value none -/
theorem op_isN : OpR X (compareOp .Is) (fun x y H Q => y = .non ∧ Q (.bl (decide (x = .non))) H) := by
  intro pins s σ H x y v u Q I rx ry h
  obtain ⟨rfl, q⟩ := h
  cases ry
  refine is_none_gen (fin_bl I q ?_)
  cases x <;> first
    | (cases rx; rfl)
    | (obtain ⟨t, rfl⟩ := rx; rfl)
theorem op_notN : OpR X (compareOp .IsNot) (fun x y H Q => y = .non ∧ Q (.bl (!decide (x = .non))) H) := by
  intro pins s σ H x y v u Q I rx ry h
  obtain ⟨rfl, q⟩ := h
  cases ry
  refine isnot_none_gen (fin_bl I q ?_)
  cases x <;> first
    | (cases rx; rfl)
    | (obtain ⟨t, rfl⟩ := rx; rfl)

theorem op_notin_str : OpR X (compareOp .NotIn) (fun x y H Q => ∃ i j, x = .str i ∧ y = .str j ∧ Q (.bl (!(!(Builtin.Str.occurrences j i 0 j.length 1).isEmpty))) H) := by
  intro pins s σ H x y v u Q I rx ry h
  obtain ⟨i, j, rfl, rfl, q⟩ := h
  obtain ⟨t, rfl⟩ := rx
  obtain ⟨t', rfl⟩ := ry
  exact notIn_str (fin_bl I q rfl)
/-- is, is not of two objects that are tracked lists or instances -/
def isObj : HO → Bool
  | .lst _ => true
  | .ins _ _ _ => true
  | _ => false
theorem obj_there {pins : List (Addr × Obj)} {s : Shared} {σ : St} {H : Hp} {a : Addr} {o : HO} (I : Inv X pins σ H s) (h : H a = some o) (p : isObj o = true) : ∃ ob, s.heap.get? a = some ob ∧ ob.cls ≠ .type "tuple" := by
  cases o with
  | lst xs =>
    obtain ⟨_, its, n, _, e⟩ : xs.length ≤ sizeLine ∧ ∃ (its : List Value) (n : Nat), Vals xs its ∧ s.heap.get? a = some { cls := .type "list", data := .seq its.toArray n } := I.hok a _ h
    exact ⟨_, e, (by show Value.type "list" ≠ .type "tuple"; decide +kernel)⟩
  | ins C dx fs =>
    have x := I.hok a _ h
    obtain ⟨_, _, _, e, _⟩ := x
    exact ⟨_, e, (by show Value.ref C ≠ .type "tuple"; exact fun z => by cases z)⟩
  | _ => exact absurd (show false = true from p) Bool.false_ne_true
theorem op_is_ref : OpR X (compareOp .Is) (fun x y H Q => ∃ a b oa ob, x = .ref a ∧ y = .ref b ∧ H a = some oa ∧ isObj oa = true ∧ H b = some ob ∧ isObj ob = true ∧ Q (.bl (decide (a = b))) H) := by
  intro pins s σ H x y v u Q I rx ry h
  obtain ⟨a, b, oa, ob, rfl, rfl, ha, pa, hb, pb, q⟩ := h
  cases rx
  cases ry
  obtain ⟨o1, e1, n1⟩ := obj_there I ha pa
  obtain ⟨o2, e2, _⟩ := obj_there I hb pb
  by_cases z : a = b
  · subst z
    exact wpAny_is_ref_self (fin_bl I q (by simp))
  · exact wpAny_is_ref_other z e1 e2 n1 (fin_bl I q (by simp [z]))
theorem op_isnot_ref : OpR X (compareOp .IsNot) (fun x y H Q => ∃ a b oa ob, x = .ref a ∧ y = .ref b ∧ H a = some oa ∧ isObj oa = true ∧ H b = some ob ∧ isObj ob = true ∧ Q (.bl (!decide (a = b))) H) := by
  intro pins s σ H x y v u Q I rx ry h
  obtain ⟨a, b, oa, ob, rfl, rfl, ha, pa, hb, pb, q⟩ := h
  cases rx
  cases ry
  obtain ⟨o1, e1, n1⟩ := obj_there I ha pa
  obtain ⟨o2, e2, _⟩ := obj_there I hb pb
  by_cases z : a = b
  · subst z
    exact wpAny_isNot_ref_self (fin_bl I q (by simp))
  · exact wpAny_isNot_ref_other z e1 e2 n1 (fin_bl I q (by simp [z]))

/-- two rules for one operation: by cases -/
theorem OpR.or {f : Value → Value → Sem Value} {r r' : R2} (h : OpR X f r) (h' : OpR X f r') : OpR X f (fun x y H Q => r x y H Q ∨ r' x y H Q) := by
  intro pins s σ H x y v u Q I rx ry q
  rcases q with q | q
  · exact h pins s σ H x y v u Q I rx ry q
  · exact h' pins s σ H x y v u Q I rx ry q

theorem nomark (b : Expr) {op : CmpOp} (h : op ≠ .In := by decide) (h2 : op ≠ .NotIn := by decide) : behindInMarks op b = false := by
  have e1 : (op == CmpOp.In) = false := by cases op <;> first | rfl | exact absurd rfl h
  have e2 : (op == CmpOp.NotIn) = false := by cases op <;> first | rfl | exact absurd rfl h2
  cases b <;> simp [behindInMarks, e1, e2]
/-- a comparison as a value; hm: nomark b, or (for in, not in) by with_unfolding_all rfl -/
theorem pe_cmpR {op : CmpOp} {r : R2} (ho : OpR X (compareOp op) r) (ha : PE X a ta) (hb : PE X b tb) (hm : behindInMarks op b = false) : PE X (.Compare a [op] [b] pos) (tOp r ta tb) := by
  intro pins s σ H Q I h
  exact wpAny_Compare1 (binT ha hb I h fun v u s2 x y H2 I2 rx ry q => ho pins s2 σ H2 x y v u Q I2 rx ry q) hm
/-- a reading of a value as a test -/
def tTest (t : TE) : TT := fun σ H Q => t σ H fun x H' => ∃ k, x = .bl k ∧ Q k H'
theorem pt_cmpR {op : CmpOp} {r : R2} (ho : OpR X (compareOp op) r) (ha : PE X a ta) (hb : PE X b tb) (hm : behindInMarks op b = false) : PT X (.Compare a [op] [b] pos) (tTest (tOp r ta tb)) := by
  intro pins s σ H Q I h
  refine wpAny_isTrue_Compare1 (thn (ha pins s σ H _ I h) fun v s1 ⟨x, H1, I1, r1, q1⟩ => thn (hb pins s1 σ H1 _ I1 q1) fun u s2 ⟨y, H2, I2, r2, q2⟩ =>
    thn (ho pins s2 σ H2 x y v u _ I2 r1 r2 q2) fun c s3 ⟨z, H3, I3, r3, k, e, q3⟩ => ?_) hm
  subst e
  cases r3
  exact wpAny_truthy_bool ⟨H3, I3, q3⟩
/-- a op1 b op2 c -/
def tChain (r r' : R2) (ta tb tc : TE) : TE := fun σ H Q => ta σ H fun x H1 => tb σ H1 fun y H2 => r x y H2 fun z H3 => ∃ k, z = .bl k ∧
  (if k = true then tc σ H3 fun w' H4 => r' y w' H4 Q else Q (.bl false) H3)
theorem pe_chain {op op' : CmpOp} {r r' : R2} (ho : OpR X (compareOp op) r) (ho' : OpR X (compareOp op') r') (ha : PE X a ta) (hb : PE X b tb) (hc : PE X c tc)
    (hm : lastMarks [op, op'] [b, c] = false := by with_unfolding_all rfl) : PE X (.Compare a [op, op'] [b, c] pos) (tChain r r' ta tb tc) := by
  intro pins s σ H Q I h
  refine Compare_chain (thn (ha pins s σ H _ I h) fun v s1 ⟨x, H1, I1, r1, q1⟩ => chain_link (thn (hb pins s1 σ H1 _ I1 q1) fun u s2 ⟨y, H2, I2, r2, q2⟩ =>
    thn (ho pins s2 σ H2 x y v u _ I2 r1 r2 q2) fun d s3 ⟨z, H3, I3, r3, k, e, q3⟩ => ?_)) hm
  subst e
  cases r3
  refine wpAny_truthy_bool ?_
  cases k with
  | false => exact ite_ff ⟨.bl false, H3, I3, rfl, q3⟩
  | true => exact ite_tt (chain_last (thn (hc pins s3 σ H3 _ I3 q3) fun w' s4 ⟨z', H4, I4, r4, q4⟩ => ho' pins s4 σ H4 y z' u w' Q I4 r2 r4 q4))
theorem pt_chain {op op' : CmpOp} {r r' : R2} (ho : OpR X (compareOp op) r) (ho' : OpR X (compareOp op') r') (ha : PE X a ta) (hb : PE X b tb) (hc : PE X c tc)
    (hm : lastMarks [op, op'] [b, c] = false := by with_unfolding_all rfl) : PT X (.Compare a [op, op'] [b, c] pos) (tTest (tChain r r' ta tb tc)) := by
  intro pins s σ H Q I h
  refine isTrue_chain (thn (ha pins s σ H _ I h) fun v s1 ⟨x, H1, I1, r1, q1⟩ => test_link (thn (hb pins s1 σ H1 _ I1 q1) fun u s2 ⟨y, H2, I2, r2, q2⟩ =>
    thn (ho pins s2 σ H2 x y v u _ I2 r1 r2 q2) fun d s3 ⟨z, H3, I3, r3, k, e, q3⟩ => ?_)) hm
  subst e
  cases r3
  refine wpAny_truthy_bool ?_
  cases k with
  | false =>
    obtain ⟨k', e', q'⟩ := q3
    cases e'
    exact ite_ff ⟨H3, I3, q'⟩
  | true =>
    refine ite_tt (test_last (thn (hc pins s3 σ H3 _ I3 q3) fun w' s4 ⟨z', H4, I4, r4, q4⟩ => thn (ho' pins s4 σ H4 y z' u w' _ I4 r2 r4 q4) fun d' s5 ⟨z2, H5, I5, r5, k2, e2, q5⟩ => ?_))
    subst e2
    cases r5
    exact wpAny_truthy_bool ⟨H5, I5, q5⟩

/-! ### truth -/
/-- a value's truth by the abstract heap -/
def TruV (K : PySem.W.Frag) (x : V) (H : Hp) (k : Bool) : Prop :=
  match x with
  | .non => k = false
  | .bl b => k = b
  | .int i => k = (i != 0)
  | .str y => y.length ≤ sizeLine ∧ k = ((y.length : Int) != 0)
  | .byt y => y.size ≤ sizeLine ∧ k = ((y.size : Int) != 0)
  | .ref p => (∃ xs, SqL K H p xs ∧ k = !xs.isEmpty) ∨ (∃ xs, SqT K H p xs ∧ k = !xs.isEmpty) ∨ ∃ kvs, H p = some (.dK kvs) ∧ k = !kvs.isEmpty
  | _ => False
theorem isEmpty_kv {κ : Type} {kvs : List (κ × V)} {vs : List (κ × Value)} (r : KV kvs vs) : (!vs.isEmpty) = !kvs.isEmpty := by
  cases r <;> rfl
theorem isEmpty_of {xs : List V} {its : List Value} (r : Vals xs its) : (!its.toArray.isEmpty) = !xs.isEmpty := by
  cases r <;> simp
theorem line63 : (sizeLine : Nat) < 2 ^ 63 := by rw [sizeLine_eq]; decide
theorem tru_ok : TruR X (fun x H Q => ∃ k, TruV X.K x H k ∧ Q k H) := by
  intro pins s σ H x v Q I rx h
  obtain ⟨k, e, q⟩ := h
  have hl := line63
  have hs : sizeLine = 16777216 := sizeLine_eq
  cases x with
  | non =>
    cases rx
    have e' : k = false := e
    subst e'
    exact truthy_none ⟨H, I, q⟩
  | bl b =>
    cases rx
    have e' : k = b := e
    subst e'
    exact wpAny_truthy_bool ⟨H, I, q⟩
  | int i =>
    obtain ⟨t, rfl⟩ := rx
    have e' : k = (i != 0) := e
    subst e'
    exact PySem.P.truthy_int ⟨H, I, q⟩
  | str y =>
    obtain ⟨t, rfl⟩ := rx
    obtain ⟨hy, e'⟩ : y.length ≤ sizeLine ∧ k = ((y.length : Int) != 0) := e
    subst e'
    exact PySem.P.truthy_str (by omega) ⟨H, I.tok _, q⟩
  | byt y =>
    obtain ⟨t, rfl⟩ := rx
    obtain ⟨hy, e'⟩ : y.size ≤ sizeLine ∧ k = ((y.size : Int) != 0) := e
    subst e'
    exact PySem.W.truthy_bytes (by omega) ⟨H, I.tok _, q⟩
  | ref p =>
    cases rx
    have e' : (∃ xs, SqL X.K H p xs ∧ k = !xs.isEmpty) ∨ (∃ xs, SqT X.K H p xs ∧ k = !xs.isEmpty) ∨ ∃ kvs, H p = some (.dK kvs) ∧ k = !kvs.isEmpty := e
    rcases e' with ⟨xs, hx, e'⟩ | ⟨xs, hx, e'⟩ | ⟨kvs, hx, e'⟩
    · subst e'
      obtain ⟨its, r, pl, hz⟩ := I.list hx
      have hlen := r.length
      exact wpAny_truthy_list pl.isList (by simp only [List.size_toArray]; omega) ⟨H, I.tok _, by rw [isEmpty_of r]; exact q⟩
    · subst e'
      obtain ⟨its, r, pl, hz⟩ := I.tuple hx
      have hlen := r.length
      exact truthy_tuple pl (by simp only [List.size_toArray]; omega) ⟨H, I.tok _, by rw [isEmpty_of r]; exact q⟩
    · subst e'
      obtain ⟨hz, hS, vs, r, m⟩ : kvs.length ≤ sizeLine ∧ (p == sysModules) = false ∧ ∃ vs, KV kvs vs ∧ s.heap.DictOf (mixKind X.prog X.w) p vs := I.hok p _ hx
      have hlen : kvs.length = vs.length := Paired.length r
      exact wpAny_truthy_dict hS m (by omega) ⟨H, I.tok _, by rw [isEmpty_kv r]; exact q⟩
  | _ => exact (show False from e).elim
/-- any expression whose test is its value's truth (a name, a call, a subscript, a field ..: he by fun _ => rfl) -/
theorem pt_truth (ha : PE X a ta) (he : ∀ whole, isTrue a X.env whole = (do let v ← whole; standAt a.pos; holding [v] (truthy v))) :
    PT X a (fun σ H Q => ta σ H fun x H' => ∃ k, TruV X.K x H' k ∧ Q k H') := by
  intro pins s σ H Q I h
  exact isTrue_plain (thn (ha pins s σ H _ I h) fun v s1 ⟨x, H1, I1, r1, q1⟩ => tru_ok pins s1 σ H1 x v Q I1 r1 q1) (he _)

/-! ### strs and bytes -/
theorem pe_byt {x : List UInt8} {k : Nat} : PE X (.Constant (.bytes x) k pos) (fun _ H Q => Q (.byt x.toArray) H) := fun _ _ _ H _ I h => PySem.W.Constant_bytes ⟨.byt x.toArray, H, I.tok _, ⟨_, rfl⟩, h⟩
theorem op_add_str : OpR X (binaryOp .Add) (fun x y H Q => ∃ i j, x = .str i ∧ y = .str j ∧ i.length + j.length ≤ sizeLine ∧ Q (.str (i ++ j)) H) := by
  intro pins s σ H x y v u Q I rx ry h
  obtain ⟨i, j, rfl, rfl, hz, q⟩ := h
  obtain ⟨t, rfl⟩ := rx
  obtain ⟨t', rfl⟩ := ry
  exact add_str (fun t' tk => ⟨.str (i ++ j), H, I.tok _, ⟨_, rfl⟩, q⟩) hz
theorem iop_add_str : OpR X (inplaceOp .Add) (fun x y H Q => ∃ i j, x = .str i ∧ y = .str j ∧ i.length + j.length ≤ sizeLine ∧ Q (.str (i ++ j)) H) := by
  intro pins s σ H x y v u Q I rx ry h
  obtain ⟨i, j, rfl, rfl, hz, q⟩ := h
  obtain ⟨t, rfl⟩ := rx
  obtain ⟨t', rfl⟩ := ry
  exact iadd_str (fun t' tk => ⟨.str (i ++ j), H, I.tok _, ⟨_, rfl⟩, q⟩) hz
theorem op_add_byt : OpR X (binaryOp .Add) (fun x y H Q => ∃ i j, x = .byt i ∧ y = .byt j ∧ i.size + j.size ≤ 16777216 ∧ Q (.byt (i ++ j)) H) := by
  intro pins s σ H x y v u Q I rx ry h
  obtain ⟨i, j, rfl, rfl, hz, q⟩ := h
  obtain ⟨t, rfl⟩ := rx
  obtain ⟨t', rfl⟩ := ry
  exact PySem.W.KBy.add_bytes hz (fun t' tk => ⟨.byt (i ++ j), H, I.tok _, ⟨_, rfl⟩, q⟩)

def PlainIxT (b : Expr) : Prop := ∀ o i, subscripted b false o i = operate [o, i] (getItem o i)
/-- s[i], 0 ≤ i < len -/
theorem pe_item_str (ha : PE X a ta) (hb : PE X b tb) (hs : PlainIxT b) :
    PE X (.Subscript a b pos) (tOp (fun x y H Q => ∃ z i c, x = .str z ∧ y = .int i ∧ 0 ≤ i ∧ i < 2 ^ 63 ∧ i < z.length ∧ z.cps[i.toNat]? = some c ∧ Q (.str ⟨#[c]⟩) H) ta tb) := by
  intro pins s σ H Q I h
  refine Subscript_ (binT ha hb I h fun v u s2 x y H2 I2 rx ry q => ?_)
  obtain ⟨z, i, c, rfl, rfl, h0, h63, h1, hc, q⟩ := q
  obtain ⟨t, rfl⟩ := rx
  obtain ⟨t', rfl⟩ := ry
  have e : seqIndex? i z.length = some i.toNat := PySem.StrLaws.seqIndex_nonneg h0 h1
  exact tail_any (typeIs_str s2 z t) slot_str_getitem.lookup (getItem_str (c := c) (by
    have e1 : decide (i < -(2 ^ 63 : Int)) = false := decide_eq_false (by omega)
    have e2 : decide (i ≥ 2 ^ 63) = false := decide_eq_false (by omega)
    rw [e1, e2] <;> rfl) (by rw [e]; exact hc) ⟨.str ⟨#[c]⟩, H2, I2.tok _, ⟨_, rfl⟩, q⟩) (hs _ _)
/-- b[i], 0 ≤ i < len -/
theorem pe_item_byt (ha : PE X a ta) (hb : PE X b tb) (hs : PlainIxT b) :
    PE X (.Subscript a b pos) (tOp (fun x y H Q => ∃ (z : List UInt8) (i : Int), x = .byt z.toArray ∧ y = .int i ∧ z.length ≤ sizeLine ∧ 0 ≤ i ∧ i < z.length ∧ Q (.int ((z.getD i.toNat 0).toNat : Nat)) H) ta tb) := by
  intro pins s σ H Q I h
  refine Subscript_ (binT ha hb I h fun v u s2 x y H2 I2 rx ry q => ?_)
  obtain ⟨z, i, rfl, rfl, hz, h0, h1, q⟩ := q
  obtain ⟨t, rfl⟩ := rx
  obtain ⟨t', rfl⟩ := ry
  have hl : sizeLine = 16777216 := sizeLine_eq
  exact tail_any (PySem.W.typeIs_bytes s2 z.toArray t) PySem.W.FB.slot_bytes_getitem.lookup (PySem.W.getItem_bytes (by omega) h0 h1 ⟨.int ((z.getD i.toNat 0).toNat : Nat), H2, I2.tok _, ⟨_, rfl⟩, q⟩) (hs _ _)

/-! ### scalar builtins, by CallR -/
theorem vals1 {x : V} {us : List Value} (r : Vals [x] us) : ∃ u, us = [u] ∧ RelV x u := by
  cases r with
  | cons r1 r2 => cases r2; exact ⟨_, rfl, r1⟩
theorem vals2 {x y : V} {us : List Value} (r : Vals [x, y] us) : ∃ u w', us = [u, w'] ∧ RelV x u ∧ RelV y w' := by
  cases r with
  | cons r1 r2 =>
    cases r2 with
    | cons r3 r4 => cases r4; exact ⟨_, _, rfl, r1, r3⟩
theorem call_abs : CallR X (.builtin "abs") (fun xs H Q => ∃ i, xs = [.int i] ∧ Q (.int (if i < 0 then -i else i)) H) := by
  intro pins s σ H xs us Q I r h
  obtain ⟨i, rfl, q⟩ := h
  obtain ⟨u, rfl, t, rfl⟩ := vals1 r
  exact call_abs_int fun u tk => ⟨.int (if i < 0 then -i else i), H, I.tok _, ⟨_, rfl⟩, q⟩
theorem call_max2 (hc : X.calm = true) : CallR X (.builtin "max") (fun xs H Q => ∃ i j, xs = [.int i, .int j] ∧ Q (.int (if j > i then j else i)) H) := by
  intro pins s σ H xs us Q I r h
  obtain ⟨i, j, rfl, q⟩ := h
  obtain ⟨u, w', rfl, ⟨t, rfl⟩, ⟨t', rfl⟩⟩ := vals2 r
  refine max_two_ints (I.ok.hd hc) fun h' tk k => ⟨_, H, I.kept k, ?_, q⟩
  by_cases hj : j > i
  · rw [if_pos hj, if_pos hj]; exact ⟨_, rfl⟩
  · rw [if_neg hj, if_neg hj]; exact ⟨_, rfl⟩
theorem call_min2 (hc : X.calm = true) : CallR X (.builtin "min") (fun xs H Q => ∃ i j, xs = [.int i, .int j] ∧ Q (.int (if j < i then j else i)) H) := by
  intro pins s σ H xs us Q I r h
  obtain ⟨i, j, rfl, q⟩ := h
  obtain ⟨u, w', rfl, ⟨t, rfl⟩, ⟨t', rfl⟩⟩ := vals2 r
  refine min_two_ints (I.ok.hd hc) fun h' tk k => ⟨_, H, I.kept k, ?_, q⟩
  by_cases hj : j < i
  · rw [if_pos hj, if_pos hj]; exact ⟨_, rfl⟩
  · rw [if_neg hj, if_neg hj]; exact ⟨_, rfl⟩
theorem call_int1 : CallR X (.type "int") (fun xs H Q => (∃ i, xs = [.int i] ∧ Q (.int i) H) ∨ ∃ k, xs = [.bl k] ∧ Q (.int (if k then 1 else 0)) H) := by
  intro pins s σ H xs us Q I r h
  rcases h with ⟨i, rfl, q⟩ | ⟨k, rfl, q⟩
  · obtain ⟨u, rfl, t, rfl⟩ := vals1 r
    exact call_int_int ⟨.int i, H, I, ⟨_, rfl⟩, q⟩
  · obtain ⟨u, rfl, r1⟩ := vals1 r
    cases r1
    exact call_int_bool ⟨.int (if k then 1 else 0), H, I.tok _, ⟨_, rfl⟩, q⟩
theorem call_bool1 : CallR X (.type "bool") (fun xs H Q => (∃ i, xs = [.int i] ∧ Q (.bl (i != 0)) H) ∨ ∃ k, xs = [.bl k] ∧ Q (.bl k) H) := by
  intro pins s σ H xs us Q I r h
  rcases h with ⟨i, rfl, q⟩ | ⟨k, rfl, q⟩
  · obtain ⟨u, rfl, t, rfl⟩ := vals1 r
    exact call_bool_int ⟨.bl (i != 0), H, I, rfl, q⟩
  · obtain ⟨u, rfl, r1⟩ := vals1 r
    cases r1
    exact call_bool_bool ⟨.bl k, H, I, rfl, q⟩
theorem call_str_int : CallR X (.type "str") (fun xs H Q => ∃ i, xs = [.int i] ∧ i.natAbs.log2 < 1920 ∧ Q (.str (toString i)) H) := by
  intro pins s σ H xs us Q I r h
  obtain ⟨i, rfl, hz, q⟩ := h
  obtain ⟨u, rfl, t, rfl⟩ := vals1 r
  exact PySem.P.str_of_int hz ⟨.str _, H, I.tok _, ⟨_, rfl⟩, q⟩
theorem call_ord : CallR X (.builtin "ord") (fun xs H Q => ∃ x, xs = [.str x] ∧ x.length = 1 ∧ Q (.int (x.cps.getD 0 0 : Nat)) H) := by
  intro pins s σ H xs us Q I r h
  obtain ⟨x, rfl, hz, q⟩ := h
  obtain ⟨u, rfl, t, rfl⟩ := vals1 r
  exact ord_of_one hz ⟨.int _, H, I.tok _, ⟨_, rfl⟩, q⟩
theorem call_chr : CallR X (.builtin "chr") (fun xs H Q => ∃ i, xs = [.int i] ∧ 0 ≤ i ∧ i ≤ 1114111 ∧ Q (.str ⟨#[i.toNat]⟩) H) := by
  intro pins s σ H xs us Q I r h
  obtain ⟨i, rfl, h0, h1, q⟩ := h
  obtain ⟨u, rfl, t, rfl⟩ := vals1 r
  exact chr_of_range h0 h1 ⟨.str _, H, I.tok _, ⟨_, rfl⟩, q⟩
/-- len of a str, a bytes, a list, a tuple -/
def LenV (K : PySem.W.Frag) (x : V) (H : Hp) (n : Nat) : Prop :=
  match x with
  | .str y => y.length ≤ sizeLine ∧ n = y.length
  | .byt y => y.size ≤ sizeLine ∧ n = y.size
  | .ref p => (∃ xs, SqL K H p xs ∧ n = xs.length) ∨ ∃ xs, SqT K H p xs ∧ n = xs.length
  | _ => False
theorem call_len : CallR X (.builtin "len") (fun xs H Q => ∃ x n, xs = [x] ∧ LenV X.K x H n ∧ Q (.int n) H) := by
  intro pins s σ H xs us Q I r h
  obtain ⟨x, n, rfl, e, q⟩ := h
  obtain ⟨u, rfl, rx⟩ := vals1 r
  have hl := line63
  have hs : sizeLine = 16777216 := sizeLine_eq
  cases x with
  | str y =>
    obtain ⟨t, rfl⟩ := rx
    obtain ⟨hy, e'⟩ : y.length ≤ sizeLine ∧ n = y.length := e
    subst e'
    exact len_str (by omega) ⟨.int _, H, I.tok _, ⟨_, rfl⟩, q⟩
  | byt y =>
    obtain ⟨t, rfl⟩ := rx
    obtain ⟨hy, e'⟩ : y.size ≤ sizeLine ∧ n = y.size := e
    subst e'
    exact PySem.W.len_bytes (by omega) ⟨.int _, H, I.tok _, ⟨_, rfl⟩, q⟩
  | ref p =>
    cases rx
    have e' : (∃ xs, SqL X.K H p xs ∧ n = xs.length) ∨ ∃ xs, SqT X.K H p xs ∧ n = xs.length := e
    rcases e' with ⟨xs, hx, e'⟩ | ⟨xs, hx, e'⟩
    · subst e'
      obtain ⟨its, r', pl, hz⟩ := I.list hx
      have hlen := r'.length
      exact Calls.call_len_list pl.isList (by simp only [List.size_toArray]; omega) ⟨.int xs.length, H, I.tok _, ⟨_, by simp only [List.size_toArray]; rw [hlen]⟩, q⟩
    · subst e'
      obtain ⟨its, r', pl, hz⟩ := I.tuple hx
      have hlen := r'.length
      exact len_tuple pl (by simp only [List.size_toArray]; omega) ⟨.int xs.length, H, I.tok _, ⟨_, by simp only [List.size_toArray]; rw [hlen]⟩, q⟩
  | _ => exact (show False from e).elim
/-- divmod: a new tuple -/
theorem call_divmod : CallR X (.builtin "divmod") (fun xs H Q => ∃ i j, xs = [.int i, .int j] ∧ CDiv i j ∧ ∀ p, H p = none → Q (.ref p) (upd H p (.tup [.int (i / j), .int (i % j)]))) := by
  intro pins s σ H xs us Q I r h
  obtain ⟨i, j, rfl, ⟨h1, h2⟩, q⟩ := h
  obtain ⟨u, w', rfl, ⟨t, rfl⟩, ⟨t', rfl⟩⟩ := vals2 r
  refine divmod_int (by omega) ?_ (.inl (PyProof.noPylong_small (by omega)))
  rw [Int.fdiv_eq_ediv_of_nonneg i (by omega), Int.fmod_eq_emod_of_nonneg i (by omega)]
  have hn : H s.heap.objs.size = none := I.hok.fresh (Nat.le_refl _)
  refine ⟨.ref s.heap.objs.size, _, ?_, rfl, q _ hn⟩
  refine I.laid (fun b o e => Heap.get?_push_of_some _ e) (Nat.le_refl _) ⟨by simp only [List.length_cons, List.length_nil]; rw [sizeLine_eq]; decide, [.int (i / j) s.toks, .int (i % j) (s.toks + 1)], .cons ⟨_, rfl⟩ (.cons ⟨_, rfl⟩ .nil), ?_⟩
  exact ⟨_, Heap.get?_push_size s.heap rfl, rfl, 0, rfl⟩
end
end L2

namespace L2
open PySem PySem.Spec PyProof.Rows

/-! ### an instance, its attributes a map -/
structure ObjM (h : Heap) (x dx C : Addr) (mA : Str → Option Value) : Prop where
  obj : h.get? x = some (PySem.W.instObj C dx)
  ns : h.Ns1 dx mA
  ne : dx ≠ x

theorem lookIn_ns {h : Heap} {dx : Addr} {mA : Str → Option Value} (n : h.Ns1 dx mA) : ∃ od, h.get? dx = some od ∧ ∀ name, PySem.W.lookIn name od = some (mA name) := by
  obtain ⟨o, es, ep, ho, hd, hk, _, hm⟩ := n
  refine ⟨o, ho, fun name => ?_⟩
  have e := hm name
  unfold nsFind findBy at e
  rw [← Array.find?_toList] at e
  unfold PySem.W.lookIn
  rw [hd]
  dsimp only
  split
  · rename_i y q
    rw [q] at e
    exact congrArg some e
  · rename_i q
    rw [q] at e
    have a : es.toList.any (·.refKey) = false := by
      rw [List.any_eq_false]
      intro y hy
      obtain ⟨z, t, hkey⟩ := hk y (Array.mem_toList_iff.mp hy)
      simp [DictEntry.refKey, hkey]
    have a' : ¬ es.toList.any (·.refKey) = true := by rw [a]; exact Bool.false_ne_true
    rw [if_neg a']
    exact congrArg some e

theorem ObjM.look {h : Heap} {x dx C : Addr} {mA : Str → Option Value} (I : ObjM h x dx C mA) : ∃ od, PySem.W.InstAt h x (PySem.W.instObj C dx) C (some od) ∧ ∀ name, PySem.W.lookIn name od = some (mA name) :=
  let ⟨od, ho, hl⟩ := lookIn_ns I.ns
  ⟨od, ⟨I.obj, rfl, rfl, ho⟩, hl⟩

section
variable {prog : Program} {w : World} {A : Around} {E : Value → Shared → Prop} {s : Shared} {K : PySem.W.Frag} {x dx C f : Addr} {mA : Str → Option Value} {name : Str} {v : Value}

theorem get_map {expr : Bool} {Q : Value → Shared → Prop} (X : K.In s.heap) (I : ObjM s.heap x dx C mA) (hg : PySem.W.plainGet K C name = true) (hh : PySem.W.hasDictIn K C = true)
    (ha : PySem.W.findIn K (.ref C) name = some none) (hv : mA name = some v) (hv' : PySem.W.handedIn v = true) (h : Q v { s with toks := s.toks + 1 }) :
    wpAny (model prog w) A (getAttr (.ref x) name expr) Q E s := by
  obtain ⟨od, J, hl⟩ := I.look
  exact PySem.W.get_value X J (PySem.W.plainGet_of hg).1 (PySem.W.findObj_own hh ha rfl (by rw [hl, hv])) hv' h

theorem get_const {expr : Bool} {a : Value} {Q : Value → Shared → Prop} (X : K.In s.heap) (I : ObjM s.heap x dx C mA) (hg : PySem.W.plainGet K C name = true) (hh : PySem.W.hasDictIn K C = true)
    (ha : PySem.W.findIn K (.ref C) name = some (some a)) (hn : PySem.W.specialIn K a "__get__" = some none) (hc : PySem.W.copiedNames.contains name = false) (hv : mA name = none) (hv' : PySem.W.handedIn a = true)
    (h : Q a { s with toks := s.toks + 1 }) : wpAny (model prog w) A (getAttr (.ref x) name expr) Q E s := by
  obtain ⟨od, J, hl⟩ := I.look
  exact PySem.W.get_value X J (PySem.W.plainGet_of hg).1 (PySem.W.findObj_cls hh ha hn hv' hc (by rw [hl, hv])) hv' h

theorem get_meth {pl : Sem Bool} {Q : Value × List Value → Shared → Prop} (X : K.In s.heap) (I : ObjM s.heap x dx C mA) (hg : PySem.W.plainGet K C name = true)
    (hf : PySem.W.findIn K (.ref C) name = some (some (.ref f))) (ht : PySem.W.isFn K (.ref f) = true) (hv : mA name = none) (h : Q (.ref f, [.ref x]) s) :
    wpAny (model prog w) A (getMethod (.ref x) name pl) Q E s := by
  obtain ⟨od, J, hl⟩ := I.look
  exact PySem.W.method_fn X J (PySem.W.plainGet_of hg).1 (PySem.W.plainGet_of hg).2 hf (beq_iff_eq.mp ht) (by show (PySem.W.lookIn name od).map (·.isSome) = some false; rw [hl, hv]; rfl) h

theorem set_map {ns : List Str} {Q : Unit → Shared → Prop} (X : K.In s.heap) (I : ObjM s.heap x dx C mA)
    (hs : PySem.W.findIn K (.ref C) "__setattr__" = some (some (.builtin "object.__setattr__"))) (hp : PySem.W.plainOver K C = true) (ht : PySem.W.takerIn K C name = some none) (hh : PySem.W.hasDictIn K C = true)
    (hw : PySem.Within mA ns) (hsz : ns.length ≤ sizeLine)
    (h : ∀ h', ObjM h' x dx C (fun y => if y = name then some v else mA y) → Heap.SameBut dx s.heap h' → Q () { s with heap := h', toks := s.toks + 2 }) :
    wpAny (model prog w) A (setAttr (.ref x) name v) Q E s := by
  obtain ⟨od, J, hl⟩ := I.look
  refine PySem.W.set_plain X J hs (PySem.W.osa_open (s := { s with toks := s.toks + 1 }) (r := none) X J hp ht fun b => ?_)
  obtain ⟨cd, hc, hd'⟩ := PySem.W.any_some hh
  have hx : s.heap.get? x = some ⟨.ref C, some dx, .plain, #[]⟩ := I.obj
  refine wpAny_bind (wpAny_pure (wpAny_bind (wpAny_bind (wpAny_loadPart hx (wpAny_bind (PySem.W.Looks.here (s := { s with toks := s.toks + 1 }) (PySem.W.looks_clsIn X hc) ?_))))))
  rw [hd']
  refine wpAny_pure (a := some dx) (wpAny_bind (wpAny_pure (wpAny_bind ?_)))
  refine wpAny_nsSet1 (s := { s with toks := s.toks + 1 }) I.ns fun h' hn2 hs2 => ?_
  obtain ⟨oD, esD, epD, hoD, hdD, hcD⟩ := hn2.count (PySem.Within.cons name v hw)
  refine wpAny_bind (wpAny_lookBehind hoD (by rw [hdD]; exact pastItsLine_dict (Nat.le_trans hcD (by rw [List.length_cons]; omega))) ?_)
  exact wpAny_pure (h _ ⟨(hs2.2 _ (Ne.symm I.ne)).trans I.obj, hn2, I.ne⟩ hs2)

/-- C(..): the dict at the heap's end, the instance behind it; then its __init__ -/
theorem make_map {R : Result → Shared → Prop} {vs : List Value} {kw : List (Str × Value)} (X : K.In s.heap) (hm : PySem.W.makesIn K C = true)
    (hi : PySem.W.findIn K (.ref C) "__init__" = some (some (.ref f))) (hf : PySem.W.typeIn K (.ref f) = some (.type "function"))
    (h : codeAny (model prog w) (A.under (.builtin "type.__call__" ⟨.ref C :: vs, kw⟩)) (.call (.ref f) ⟨.ref (s.heap.objs.size + 1) :: vs, kw⟩) (PySem.W.InitBack (s.heap.objs.size + 1) R)
      { s with heap := (s.heap.push PySem.W.emptyDict).push (PySem.W.instObj C s.heap.objs.size) }) :
    codeAny (model prog w) A (.call (.ref C) ⟨vs, kw⟩) R s := by
  obtain ⟨hh, g, d, t, os⟩ := s
  exact PySem.W.make_core (PySem.W.makes_of X hm) (PySem.W.looks_findIn X hi) (fun self => PySem.W.bind_fn X self hf) (.inl rfl) h
/-- C() where there is no __init__ but object's -/
theorem make_map0 {R : Result → Shared → Prop} (X : K.In s.heap) (hm : PySem.W.makesIn K C = true)
    (hi : PySem.W.findIn K (.ref C) "__init__" = some (some (.builtin "object.__init__")))
    (hb : ∀ self, PySem.W.Looks (model prog w) s.heap (bindSpecial (.builtin "object.__init__") self) (.builtin "object.__init__", [self]))
    (h : codeAny (model prog w) (A.under (.builtin "type.__call__" ⟨[.ref C], []⟩)) (.call (.builtin "object.__init__") ⟨[.ref (s.heap.objs.size + 1)], []⟩) (PySem.W.InitBack (s.heap.objs.size + 1) R)
      { s with heap := (s.heap.push PySem.W.emptyDict).push (PySem.W.instObj C s.heap.objs.size) }) :
    codeAny (model prog w) A (.call (.ref C) ⟨[], []⟩) R s := by
  obtain ⟨hh, g, d, t, os⟩ := s
  exact PySem.W.make_core (PySem.W.makes_of X hm) (PySem.W.looks_findIn X hi) hb (.inr ⟨rfl, rfl⟩) h
end

/-! ### the attributes as a list of pairs -/
def putF (f : Str) (v : V) : List (Str × V) → List (Str × V)
  | [] => [(f, v)]
  | (g, x) :: r => if g = f then (g, v) :: r else (g, x) :: putF f v r
theorem lookup_putF (f g : Str) (v : V) : ∀ fs : List (Str × V), (putF f v fs).lookup g = if g = f then some v else fs.lookup g
  | [] => by
    show List.lookup g [(f, v)] = _
    by_cases h : g = f
    · have hb : (g == f) = true := beq_iff_eq.mpr h
      simp only [List.lookup, hb, if_pos h]
    · have hb : (g == f) = false := beq_eq_false_iff_ne.mpr h
      simp only [List.lookup, hb, if_neg h]
  | (k, x) :: r => by
    have ih := lookup_putF f g v r
    rw [show putF f v ((k, x) :: r) = (if k = f then (k, v) :: r else (k, x) :: putF f v r) from rfl]
    by_cases hk : k = f
    · rw [if_pos hk]
      by_cases h : g = k
      · have hb : (g == k) = true := beq_iff_eq.mpr h
        simp only [List.lookup, hb, if_pos (h.trans hk)]
      · have hb : (g == k) = false := beq_eq_false_iff_ne.mpr h
        simp only [List.lookup, hb, if_neg (fun e : g = f => h (e.trans hk.symm))]
    · rw [if_neg hk]
      by_cases h : g = k
      · have hb : (g == k) = true := beq_iff_eq.mpr h
        simp only [List.lookup, hb, if_neg (fun e : g = f => hk (h.symm.trans e))]
      · have hb : (g == k) = false := beq_eq_false_iff_ne.mpr h
        simp only [List.lookup, hb]
        exact ih
theorem keys_putF (f : Str) (v : V) : ∀ fs : List (Str × V), f ∈ (putF f v fs).map (·.1) ∧ ∀ g, g ∈ fs.map (·.1) → g ∈ (putF f v fs).map (·.1)
  | [] => ⟨by simp [putF], fun g h => by simp at h⟩
  | (k, x) :: r => by
    obtain ⟨i1, i2⟩ := keys_putF f v r
    rw [show putF f v ((k, x) :: r) = (if k = f then (k, v) :: r else (k, x) :: putF f v r) from rfl]
    by_cases hk : k = f
    · rw [if_pos hk]
      subst hk
      exact ⟨by simp, fun g h => by simpa using h⟩
    · rw [if_neg hk]
      refine ⟨?_, fun g h => ?_⟩
      · rw [List.map_cons]
        exact List.mem_cons_of_mem _ i1
      · rw [List.map_cons] at h ⊢
        rcases List.mem_cons.mp h with e | e
        · exact List.mem_cons.mpr (.inl e)
        · exact List.mem_cons_of_mem _ (i2 g e)
theorem length_putF (f : Str) (v : V) : ∀ fs : List (Str × V), (putF f v fs).length ≤ fs.length + 1
  | [] => by simp [putF]
  | (k, x) :: r => by
    have ih := length_putF f v r
    rw [show putF f v ((k, x) :: r) = (if k = f then (k, v) :: r else (k, x) :: putF f v r) from rfl]
    by_cases hk : k = f
    · rw [if_pos hk, List.length_cons, List.length_cons]; omega
    · rw [if_neg hk, List.length_cons, List.length_cons]; omega

theorem RelO.some_of {v : V} {o : Option Value} (r : RelO (some v) o) : ∃ u, o = some u ∧ RelV v u := by
  cases o with
  | none => exact (show False from r).elim
  | some u => exact ⟨u, rfl, r⟩
theorem RelO.none_of {o : Option Value} (r : RelO none o) : o = none := by
  cases o with
  | none => rfl
  | some u => exact (show False from r).elim
theorem handed_of {v : V} {u : Value} (r : RelV v u) : PySem.W.handedIn u = true := by
  cases v with
  | non => cases (show u = Value.none from r); rfl
  | bl b => cases (show u = Value.bool b from r); rfl
  | int i => obtain ⟨t, e⟩ := (show ∃ t, u = Value.int i t from r); cases e; rfl
  | str x => obtain ⟨t, e⟩ := (show ∃ t, u = Value.str x t from r); cases e; rfl
  | byt b => obtain ⟨t, e⟩ := (show ∃ t, u = Value.bytes b t from r); cases e; rfl
  | flt b => obtain ⟨t, e⟩ := (show ∃ t, u = Value.float b t from r); cases e; rfl
  | ref a => cases (show u = Value.ref a from r); rfl
  | ty n => cases (show u = Value.type n from r); rfl

section
variable {P : Program} {w : World} {H H' : Hp} {h h' : Heap} {a C dx : Addr} {fs fs' : List (Str × V)}
theorem ins_get (hok : HOk P w H h) (e : H a = some (.ins C dx fs)) : ∃ mA, ObjM h a dx C mA ∧ (∀ f, RelO (fs.lookup f) (mA f)) ∧ PySem.Within mA (fs.map (·.1)) ∧ fs.length ≤ 1000 ∧ H dx = some (.own a) := by
  obtain ⟨d, z, ne, ob, mA, n, r, q⟩ := (show ObjOk P w H h a (.ins C dx fs) from hok a _ e)
  exact ⟨mA, ⟨ob, n, ne⟩, r, q, z, d⟩
end

/-! ### what of the text a class must have -/
structure Cls (K : PySem.W.Frag) (C : Addr) : Prop where
  pg : PySem.W.plainGet K C Str.empty = true
  hd : PySem.W.hasDictIn K C = true
  po : PySem.W.plainOver K C = true
  sa : PySem.W.findIn K (.ref C) "__setattr__" = some (some (.builtin "object.__setattr__"))
theorem Cls.get {K : PySem.W.Frag} {C : Addr} (c : Cls K C) (f : Str) : PySem.W.plainGet K C f = true := c.pg
/-- no class of it has the name -/
def NoAttr (K : PySem.W.Frag) (C : Addr) (f : Str) : Prop := PySem.W.findIn K (.ref C) f = some none
theorem NoAttr.taker {K : PySem.W.Frag} {C : Addr} {f : Str} (n : NoAttr K C f) : PySem.W.takerIn K C f = some none := by
  unfold PySem.W.takerIn
  rw [show PySem.W.findIn K (.ref C) f = some none from n]
  rfl
/-- a constant of the class -/
structure Con (K : PySem.W.Frag) (C : Addr) (f : Str) (v : V) (u : Value) : Prop where
  at_ : PySem.W.findIn K (.ref C) f = some (some u)
  rel : RelV v u
  get : PySem.W.specialIn K u "__get__" = some none
  cp : PySem.W.copiedNames.contains f = false
/-- a method: a plain def of the class or of one above it -/
structure Meth (K : PySem.W.Frag) (C : Addr) (m : Str) (f : Addr) : Prop where
  at_ : PySem.W.findIn K (.ref C) m = some (some (.ref f))
  fn : PySem.W.isFn K (.ref f) = true
  kp : PySem.W.keepIn K (.ref f) = true

section
variable {X : Cx} {pins : List (Addr × Obj)} {σ : St} {H : Hp} {s : Shared} {a C dx : Addr} {fs : List (Str × V)} {f : Str} {v : V} {A : Around} {E : Value → Shared → Prop}

theorem getattr_ok {b : Bool} {Q : Value → Shared → Prop} (I : Inv X pins σ H s) (e : H a = some (.ins C dx fs)) (c : Cls X.K C) (n : NoAttr X.K C f) (l : fs.lookup f = some v)
    (h : ∀ u s', Inv X pins σ H s' → RelV v u → Q u s') : wpAny (model X.prog X.w) A (getAttr (.ref a) f b) Q E s := by
  obtain ⟨mA, O, r, _, _, _⟩ := ins_get I.hok e
  obtain ⟨u, hu, ru⟩ := RelO.some_of (v := v) (o := mA f) (by rw [← l]; exact r f)
  exact get_map I.kIn O (c.get f) c.hd n hu (handed_of ru) (h u _ (I.tok _) ru)

theorem getcon_ok {b : Bool} {u : Value} {Q : Value → Shared → Prop} (I : Inv X pins σ H s) (e : H a = some (.ins C dx fs)) (c : Cls X.K C) (k : Con X.K C f v u) (l : fs.lookup f = none)
    (h : ∀ s', Inv X pins σ H s' → Q u s') : wpAny (model X.prog X.w) A (getAttr (.ref a) f b) Q E s := by
  obtain ⟨mA, O, r, _, _, _⟩ := ins_get I.hok e
  have hn : mA f = none := RelO.none_of (by rw [← l]; exact r f)
  exact get_const I.kIn O (c.get f) c.hd k.at_ k.get k.cp hn (handed_of k.rel) (h _ (I.tok _))

theorem getmeth_ok {m : Str} {g : Addr} {pl : Sem Bool} {Q : Value × List Value → Shared → Prop} (I : Inv X pins σ H s) (e : H a = some (.ins C dx fs)) (c : Cls X.K C) (k : Meth X.K C m g) (l : fs.lookup m = none)
    (h : Q (.ref g, [.ref a]) s) : wpAny (model X.prog X.w) A (getMethod (.ref a) m pl) Q E s := by
  obtain ⟨mA, O, r, _, _, _⟩ := ins_get I.hok e
  have hn : mA m = none := RelO.none_of (by rw [← l]; exact r m)
  exact get_meth I.kIn O (c.get m) k.at_ k.fn hn h

theorem setattr_ok {y : V} {u : Value} {Q : Unit → Shared → Prop} (I : Inv X pins σ H s) (e : H a = some (.ins C dx fs)) (c : Cls X.K C) (n : NoAttr X.K C f) (hl : fs.length < 1000) (ry : RelV y u)
    (h : ∀ s', Inv X pins σ (upd H a (.ins C dx (putF f y fs))) s' → Q () s') : wpAny (model X.prog X.w) A (setAttr (.ref a) f u) Q E s := by
  obtain ⟨mA, O, r, wi, _, ho⟩ := ins_get I.hok e
  have hz : (fs.map (·.1)).length ≤ sizeLine := by rw [List.length_map, sizeLine_eq]; omega
  refine set_map I.kIn O c.sa c.po n.taker c.hd wi hz fun h' O' sb => h _ ?_
  have hd : ∃ o, h'.get? dx = some o := let ⟨o, _, _, e', _⟩ := O'.ns; ⟨o, e'⟩
  refine I.write (x := a) (e := dx) (by rw [e]; exact True.intro) (.inr ho) (fun b q hb z => (sb.2 b hb).trans z) hd ?_
  refine ⟨by rw [upd_ne O.ne]; exact ho, ?_, O.ne, O'.obj, _, O'.ns, fun g => ?_, fun g hg => ?_⟩
  · have := length_putF f y fs; omega
  · show RelO ((putF f y fs).lookup g) (if g = f then some u else mA g)
    rw [lookup_putF]
    by_cases q : g = f
    · rw [if_pos q, if_pos q]; exact ry
    · rw [if_neg q, if_neg q]; exact r g
  · by_cases q : g = f
    · rw [q]; exact (keys_putF f y fs).1
    · refine (keys_putF f y fs).2 g (wi g fun z => hg ?_)
      show (if g = f then some u else mA g) = none
      rw [if_neg q]; exact z

/-- a new instance, tracked, without attributes -/
theorem Inv.made (I : Inv X pins σ H s) : Inv X pins σ (upd (upd H s.heap.objs.size (.own (s.heap.objs.size + 1))) (s.heap.objs.size + 1) (.ins C s.heap.objs.size []))
    { s with heap := (s.heap.push PySem.W.emptyDict).push (PySem.W.instObj C s.heap.objs.size) } := by
  have e1 : (s.heap.push PySem.W.emptyDict).get? s.heap.objs.size = some PySem.W.emptyDict := Heap.get?_push_size s.heap rfl
  have e2 : ((s.heap.push PySem.W.emptyDict).push (PySem.W.instObj C s.heap.objs.size)).get? (s.heap.objs.size + 1) = some (PySem.W.instObj C s.heap.objs.size) := by
    have := Heap.get?_push_size (s.heap.push PySem.W.emptyDict) (o := PySem.W.instObj C s.heap.objs.size) rfl
    rwa [Heap.size_push] at this
  have e3 : (s.heap.push PySem.W.emptyDict).Ns s.heap.objs.size (fun _ => none) := ⟨PySem.W.emptyDict, #[], _, e1, rfl, (fun e he => absurd he (by simp)), fun _ => rfl⟩
  have I1 := I.laid (a := s.heap.objs.size) (o := .own (s.heap.objs.size + 1)) (h' := s.heap.push PySem.W.emptyDict) (t' := s.toks) (fun b u q => Heap.get?_push_of_some _ q) (Nat.le_refl _) ⟨_, e1⟩
  refine I1.laid (a := s.heap.objs.size + 1) (o := .ins C s.heap.objs.size []) (t' := s.toks) (fun b u q => Heap.get?_push_of_some _ q) (Nat.le_of_eq (Heap.size_push _ _)) ?_
  have ne : s.heap.objs.size ≠ s.heap.objs.size + 1 := Nat.ne_of_lt (Nat.lt_succ_self _)
  refine ⟨by rw [upd_ne ne, upd_same], Nat.zero_le _, ne, e2, fun _ => none, (Heap.Ns1.of_empty e3).at fun o q => Heap.get?_push_of_some _ q, fun _ => True.intro, fun y hy => absurd rfl hy⟩

/-- e.f where nothing but the object is asked: through attributeBase (super) and the last hold -/
theorem attr_of {prog : Program} {w : World} {env : Env} {e : Expr} {f : Str} {pos : Pos} {s : Shared} {Q : Value → Shared → Prop} (hb : attributeBase e f env (eval e env) = eval e env)
    (h : wpAny (model prog w) A (eval e env) (fun o s₁ => wpAny (model prog w) A (getAttr o f true) Q E s₁) E s) : wpAny (model prog w) A (eval (.Attribute e f pos) env) Q E s :=
  Attribute_any_ h (by rw [arm_eval_Attribute, hb])
end

/-! ### readings and rules -/
/-- e.f, an attribute of the instance -/
def tFld (K : PySem.W.Frag) (ta : TE) (f : Str) : TE := fun σ H Q => ta σ H fun x H1 => ∃ a C dx fs v, x = .ref a ∧ H1 a = some (.ins C dx fs) ∧ Cls K C ∧ NoAttr K C f ∧ fs.lookup f = some v ∧ Q v H1
/-- e.f, a constant of the class -/
def tCon (K : PySem.W.Frag) (ta : TE) (f : Str) : TE := fun σ H Q => ta σ H fun x H1 => ∃ a C dx fs v u, x = .ref a ∧ H1 a = some (.ins C dx fs) ∧ Cls K C ∧ Con K C f v u ∧ fs.lookup f = none ∧ Q v H1
/-- e.f = value -/
def sFld (K : PySem.W.Frag) (ta tv : TE) (f : Str) : TS := fun D σ H => tv σ H fun y H1 => ta σ H1 fun x H2 => ∃ a C dx fs, x = .ref a ∧ H2 a = some (.ins C dx fs) ∧ Cls K C ∧ NoAttr K C f ∧ fs.length < 1000 ∧
  D.nx σ (upd H2 a (.ins C dx (putF f y fs)))
/-- an augmented operator on two values -/
def InOp (X : Cx) (op : Operator) (rd : V → V → Hp → VK → Prop) : Prop :=
  ∀ (pins : List (Addr × Obj)) (s : Shared) (σ : St) (H : Hp) (x y : V) (u v : Value) (Q : VK), Inv X pins σ H s → RelV x u → RelV y v → rd x y H Q → wpAny (model X.prog X.w) X.A (inplaceOp op u v) (EP X pins σ Q) X.xe s
/-- e.f op= value -/
def sFldAug (K : PySem.W.Frag) (ta tv : TE) (rd : V → V → Hp → VK → Prop) (f : Str) : TS := fun D σ H => ta σ H fun x H1 => ∃ a C dx fs v, x = .ref a ∧ H1 a = some (.ins C dx fs) ∧ Cls K C ∧ NoAttr K C f ∧ fs.lookup f = some v ∧
  tv σ H1 fun y H2 => rd v y H2 fun z H3 => ∃ dx' fs', H3 a = some (.ins C dx' fs') ∧ fs'.length < 1000 ∧ D.nx σ (upd H3 a (.ins C dx' (putF f z fs')))

section
variable {X : Cx} {o e value : Expr} {f : Str} {pos pos' tpos : Pos} {ta tv : TE}
theorem pe_fld (he : PE X e ta) (hb : attributeBase e f X.env (eval e X.env) = eval e X.env) : PE X (.Attribute e f pos) (tFld X.K ta f) := by
  intro pins s σ H Q I h
  refine attr_of hb (thn (he pins s σ H _ I h) fun u s1 ⟨x, H1, I1, rx, a, C, dx, fs, v, ex, ea, c, n, l, q⟩ => ?_)
  subst ex
  obtain rfl : u = Value.ref a := rx
  exact getattr_ok I1 ea c n l fun u' s2 I2 ru => ⟨v, H1, I2, ru, q⟩
theorem pe_con (he : PE X e ta) (hb : attributeBase e f X.env (eval e X.env) = eval e X.env) : PE X (.Attribute e f pos) (tCon X.K ta f) := by
  intro pins s σ H Q I h
  refine attr_of hb (thn (he pins s σ H _ I h) fun u s1 ⟨x, H1, I1, rx, a, C, dx, fs, v, u0, ex, ea, c, k, l, q⟩ => ?_)
  subst ex
  obtain rfl : u = Value.ref a := rx
  exact getcon_ok I1 ea c k l fun s2 I2 => ⟨v, H1, I2, k.rel, q⟩
theorem ps_fld (ha : PE X o ta) (hv : PE X value tv) (hs : swapsWith value (some (.Attribute o f pos')) pos.line X.env = pure false) : PS X (.Assign [.Attribute o f pos'] value pos) (sFld X.K ta tv f) := by
  intro pins s σ H D I h
  refine plainObj_wpAny_Assign_Attribute (thn (hv pins s σ H _ I h) fun u s1 ⟨y, H1, I1, ry, q⟩ => thn (ha pins s1 σ H1 _ I1 q) fun ov s2 ⟨x, H2, I2, rx, a, C, dx, fs, ex, ea, c, n, l, q2⟩ => ?_) hs
  subst ex
  obtain rfl : ov = Value.ref a := rx
  exact setattr_ok I2 ea c n l ry fun s3 I3 => ⟨σ, _, I3, q2⟩
theorem ps_fldaug {op : Operator} {rd : V → V → Hp → VK → Prop} (ha : PE X o ta) (hv : PE X value tv) (hop : InOp X op rd) : PS X (.AugAssign (.Attribute o f tpos) op value pos) (sFldAug X.K ta tv rd f) := by
  intro pins s σ H D I h
  refine wpAny_AugAssign_AttributeAny (thn (ha pins s σ H _ I h) fun ov s1 ⟨x, H1, I1, rx, a, C, dx, fs, v, ex, ea, c, n, l, q⟩ => ?_)
  subst ex
  obtain rfl : ov = Value.ref a := rx
  refine getattr_ok I1 ea c n l fun u s2 I2 ru => thn (hv pins s2 σ H1 _ I2 q) fun w3 s3 ⟨y, H2, I3, ry, q3⟩ => thn (hop pins s3 σ H2 v y u w3 _ I3 ru ry q3) fun w4 s4 ⟨z, H3, I4, rz, dx', fs', ea', l', q4⟩ => ?_
  exact setattr_ok I4 ea' c n l' rz fun s5 I5 => ⟨σ, _, I5, q4⟩
def rAdd : V → V → Hp → VK → Prop := fun x y H Q => ∃ i j, x = .int i ∧ y = .int j ∧ Q (.int (i + j)) H
def rSub : V → V → Hp → VK → Prop := fun x y H Q => ∃ i j, x = .int i ∧ y = .int j ∧ Q (.int (i - j)) H
theorem in_add : InOp X .Add rAdd := by
  rintro pins s σ H x y u v Q I rx ry ⟨i, j, rfl, rfl, q⟩
  obtain ⟨t, rfl⟩ := (show ∃ t, u = Value.int i t from rx)
  obtain ⟨t', rfl⟩ := (show ∃ t', v = Value.int j t' from ry)
  exact PyProof.Rows.iadd_int ⟨.int (i + j), H, I.tok _, ⟨_, rfl⟩, q⟩
theorem in_sub : InOp X .Sub rSub := by
  rintro pins s σ H x y u v Q I rx ry ⟨i, j, rfl, rfl, q⟩
  obtain ⟨t, rfl⟩ := (show ∃ t, u = Value.int i t from rx)
  obtain ⟨t', rfl⟩ := (show ∃ t', v = Value.int j t' from ry)
  exact PyProof.Rows.isub_int ⟨.int (i - j), H, I.tok _, ⟨_, rfl⟩, q⟩

/-- what is between an instance and its method: the tree of a method call -/
theorem methcall_of {pl : Sem Bool} {m : Str} {apos : Pos} {args : List Expr} {pins : List (Addr × Obj)} {s : Shared} {σ : St} {H : Hp} {Q : Value → Shared → Prop} {te : TE} (he : PE X e te) (I : Inv X pins σ H s)
    (h : te σ H fun x H1 => ∃ a C dx fs g, x = .ref a ∧ H1 a = some (.ins C dx fs) ∧ Cls X.K C ∧ Meth X.K C m g ∧ fs.lookup m = none ∧
      ∀ s1, Inv X pins σ H1 s1 → wpAny (model X.prog X.w) X.A (callWith pos (.ref g) [.ref a] (backTo pos (starEach args X.env)) (backToKw pos (keywordEach [] X.env))) Q X.xe s1)
    (ht : eval (.Call (.Attribute e m apos) args [] pos) X.env = (do
      let ov ← eval e X.env
      standAt apos.atName
      let (f, first) ← holding [ov] (getMethod ov m pl)
      callWith pos f first (backTo pos (starEach args X.env)) (backToKw pos (keywordEach [] X.env)))) :
    wpAny (model X.prog X.w) X.A (eval (.Call (.Attribute e m apos) args [] pos) X.env) Q X.xe s := by
  refine PySem.W.methodCall_KW (pl := pl) (thn (he pins s σ H _ I h) fun u s1 ⟨x, H1, I1, rx, a, C, dx, fs, g, ex, ea, c, k, l, q⟩ => ?_) ht
  subst ex
  obtain rfl : u = Value.ref a := rx
  exact getmeth_ok I1 ea c k l (q s1 I1)
end

/-! ### isinstance -/
section
variable {X : Cx} {pins : List (Addr × Obj)} {σ : St} {H : Hp} {s : Shared} {A : Around} {E : Value → Shared → Prop} {Q : Value → Shared → Prop} {c : Value} {b : Bool}
/-- the type of a value, as the fragment's deciders take it; for an instance its class -/
inductive TyOf (K : PySem.W.Frag) (H : Hp) : V → Value → Prop where
  | non : TyOf K H .non (.type "NoneType")
  | bl (x : Bool) : TyOf K H (.bl x) (.type "bool")
  | int (i : Int) : TyOf K H (.int i) (.type "int")
  | str (x : Str) : TyOf K H (.str x) (.type "str")
  | flt (x : UInt64) : TyOf K H (.flt x) (.type "float")
  | lst {a : Addr} {xs : List V} (e : H a = some (.lst xs)) : TyOf K H (.ref a) (.type "list")
  | frz {a : Addr} {o : Obj} {xs : List V} (e : H a = some (.frz o (.lst xs))) : TyOf K H (.ref a) (.type "list")
  | tup {a : Addr} {xs : List V} (e : H a = some (.tup xs)) : TyOf K H (.ref a) (.type "tuple")
  | dK {a : Addr} {kvs : List (Key × V)} (e : H a = some (.dK kvs)) : TyOf K H (.ref a) (.type "dict")
  | dT {a : Addr} {kvs : List (List Key × V)} (e : H a = some (.dT kvs)) : TyOf K H (.ref a) (.type "dict")
  | ins {a C dx : Addr} {fs : List (Str × V)} (e : H a = some (.ins C dx fs)) (cl : Cls K C) (ha : PySem.W.findIn K (.ref C) "__class__" = some (some (.builtin "object.__class__")))
      (hn : PySem.W.specialIn K (.builtin "object.__class__") "__get__" = some (some (.builtin "getset_descriptor.__get__"))) (htk : PySem.W.takesIn K (.builtin "object.__class__") = some true)
      (hm : PySem.W.mroIn K C (.type "object") = some true) : TyOf K H (.ref a) (.ref C)
/-- isinstance(x, c) for one class c, a built-in or an own one: kitOne's answer -/
theorem isinst_ok {x : V} {u t : Value} (I : Inv X pins σ H s) (rx : RelV x u) (ty : TyOf X.K H x t) (e : PySem.W.kitOne X.K t c = some b) (h : ∀ tk, Q (.bool b) { s with toks := tk }) :
    wpAny (model X.prog X.w) A (call (.builtin "isinstance") [u, c]) Q E s := by
  cases ty with
  | non => cases (show u = Value.none from rx); exact PySem.W.kia_one PySem.W.kitx_none I.kIn True.intro e (fun z => nomatch z) h
  | bl y => cases (show u = Value.bool y from rx); exact PySem.W.kia_one PySem.W.kitx_bool I.kIn True.intro e (fun z => nomatch z) h
  | int i => obtain ⟨t, q⟩ := (show ∃ t, u = Value.int i t from rx); cases q; exact PySem.W.kia_one PySem.W.kitx_int I.kIn True.intro e (fun z => nomatch z) h
  | str y => obtain ⟨t, q⟩ := (show ∃ t, u = Value.str y t from rx); cases q; exact PySem.W.kia_one PySem.W.kitx_str I.kIn True.intro e (fun z => nomatch z) h
  | flt y => obtain ⟨t, q⟩ := (show ∃ t, u = Value.float y t from rx); cases q; exact PySem.W.kia_one PySem.W.kitx_float I.kIn True.intro e (fun z => nomatch z) h
  | @lst a xs ea =>
    cases (show u = Value.ref a from rx)
    obtain ⟨_, _, n, _, h1⟩ := (show ObjOk X.prog X.w H s.heap a (.lst xs) from I.hok a _ ea)
    exact PySem.W.kia_one PySem.W.kitx_list I.kIn ⟨_, h1, rfl⟩ e (fun z => nomatch z) h
  | @frz a ob xs ea =>
    cases (show u = Value.ref a from rx)
    obtain ⟨_, _, _, n, _, h1⟩ := (show ObjOk X.prog X.w H s.heap a (.frz ob (.lst xs)) from I.hok a _ ea)
    exact PySem.W.kia_one PySem.W.kitx_list I.kIn ⟨_, h1, rfl⟩ e (fun z => nomatch z) h
  | @tup a xs ea =>
    cases (show u = Value.ref a from rx)
    obtain ⟨_, _, _, p⟩ := (show ObjOk X.prog X.w H s.heap a (.tup xs) from I.hok a _ ea)
    obtain ⟨o, h1, h2, _⟩ := p
    exact PySem.W.kia_one PySem.W.kitx_tuple I.kIn ⟨o, h1, h2⟩ e (fun z => nomatch z) h
  | @dK a kvs ea =>
    cases (show u = Value.ref a from rx)
    obtain ⟨_, _, vs, _, p⟩ := (show ObjOk X.prog X.w H s.heap a (.dK kvs) from I.hok a _ ea)
    obtain ⟨o, es, ep, h1, h2, _⟩ := p
    exact PySem.W.kia_one PySem.W.kitx_dict I.kIn ⟨o, h1, h2.1⟩ e (fun z => nomatch z) h
  | @dT a kvs ea =>
    cases (show u = Value.ref a from rx)
    obtain ⟨_, _, xs, _, o, es, ep, h1, h2, _⟩ := (show ObjOk X.prog X.w H s.heap a (.dT kvs) from I.hok a _ ea)
    exact PySem.W.kia_one PySem.W.kitx_dict I.kIn ⟨o, h1, h2.1⟩ e (fun z => nomatch z) h
  | @ins a C dx fs ea cl ha hn htk hm =>
    cases (show u = Value.ref a from rx)
    obtain ⟨mA, O, _⟩ := ins_get I.hok ea
    obtain ⟨od, J, _⟩ := O.look
    exact PySem.W.kia_one (PySem.W.kitx_own (cl.get _) cl.hd ha hn htk hm) I.kIn J e (fun z => nomatch z) h
end
end L2

namespace L2
open PySem PySem.Spec PyProof.Rows

/-! ### room -/
structure Room (k : Nat) (A : Around) : Prop where
  hd : A.handled = none
  dp : A.depth + 3 * k + 5 < recursionLimit
  un : A.units + 16 * k + 200 < cLine
theorem Room.mono {j k : Nat} {A : Around} (r : Room k A) (h : j ≤ k) : Room j A := ⟨r.hd, by have := r.dp; omega, by have := r.un; omega⟩
theorem Room.deeper {k : Nat} {A : Around} (r : Room (k + 1) A) (env : Env) : Room k (A.deeper env) :=
  ⟨r.hd, by have := r.dp; show A.depth + 1 + 3 * k + 5 < _; omega, by have := r.un; show A.units + 3 + 16 * k + 200 < _; omega⟩
theorem Room.in1 {k : Nat} {A : Around} (r : Room (k + 1) A) : Room k A.in1 :=
  ⟨r.hd, by have := r.dp; show A.depth + 3 * k + 5 < _; omega, by have := r.un; show A.units + 1 + 16 * k + 200 < _; omega⟩
theorem make_depth {A : Around} {C : Addr} {us : List Value} {kw : List (Str × Value)} : (A.under (.builtin "type.__call__" ⟨.ref C :: us, kw⟩)).depth = A.depth + 1 := by
  first | rfl | simp [Around.under, Code.weight, Code.isCreation, Code.isGuard, Code.isCaller, Code.frames, Code.isFrame, guardIds]
theorem make_units {A : Around} {C : Addr} {us : List Value} {kw : List (Str × Value)} : (A.under (.builtin "type.__call__" ⟨.ref C :: us, kw⟩)).units = A.units + 1 := by
  first | rfl | simp [Around.under, Code.cUnits, Code.frames, Code.isFrame]
theorem Room.make {k : Nat} {A : Around} (r : Room (k + 1) A) (C : Addr) (us : List Value) (kw : List (Str × Value)) : Room k (A.under (.builtin "type.__call__" ⟨.ref C :: us, kw⟩)) :=
  ⟨r.hd, by have := r.dp; rw [make_depth]; omega, by have := r.un; rw [make_units]; omega⟩
theorem Room.depth {k : Nat} {A : Around} (r : Room k A) : A.depth < recursionLimit := by have := r.dp; omega
theorem Room.units {k : Nat} {A : Around} (r : Room k A) : A.units + 64 < cLine := by have := r.un; omega
theorem Room.units0 {k : Nat} {A : Around} (r : Room k A) : A.units < cLine := by have := r.un; omega

/-! ### argument lists and displays -/
def tNil : TA := fun _ H Q => Q [] H
def tCons (ta : TE) (tr : TA) : TA := fun σ H Q => ta σ H fun x H1 => tr σ H1 fun xs H2 => Q (x :: xs) H2
section
variable {X : Cx} {e : Expr} {es : List Expr} {te : TE} {t : TA} {pos : Pos}
theorem pa_nil : PA X [] tNil := fun _ _ _ _ H Q I h => Calls.spliced_nil ⟨[], H, I, .nil, h⟩
theorem pa_cons (ha : PE X e te) (hr : PA X es t) (hs : starEach (e :: es) X.env = (false, eval e X.env) :: starEach es X.env := by rfl) : PA X (e :: es) (tCons te t) := by
  intro pos pins s σ H Q I h
  rw [hs]
  show wpAny _ _ (spliced ((false, eval e X.env) :: backTo pos (starEach es X.env))) _ _ s
  refine Calls.spliced_cons (thn (ha pins s σ H _ I h) fun u s1 ⟨x, H1, I1, r1, q1⟩ => ?_)
  exact thn (hr pos pins s1 σ H1 _ I1 q1) fun us s2 ⟨xs, H2, I2, r2, q2⟩ => ⟨x :: xs, H2, I2, .cons r1 r2, q2⟩

/-- a tuple, a list of written items -/
def tTup (t : TA) : TE := fun σ H Q => t σ H fun xs H1 => xs.length ≤ sizeLine ∧ ∀ p, H1 p = none → Q (.ref p) (upd H1 p (.tup xs))
def tLst (t : TA) : TE := fun σ H Q => t σ H fun xs H1 => xs.length ≤ sizeLine ∧ ∀ p, H1 p = none → Q (.ref p) (upd H1 p (.lst xs))
theorem pe_tup {x1} (h : PA X es t) : PE X (.Tuple es x1 pos) (tTup t) := by
  intro pins s σ H Q I hq
  refine wpAny_Tuple_spliced (thn (h pos pins s σ H _ I hq) fun us s1 ⟨xs, H1, I1, r, z, q⟩ => ⟨by rw [← r.length]; exact z, ?_⟩)
  have hf : H1 s1.heap.objs.size = none := I1.hok.fresh (Nat.le_refl _)
  refine ⟨.ref s1.heap.objs.size, upd H1 s1.heap.objs.size (.tup xs), I1.laid (t' := s1.toks) (fun b u e => Heap.get?_push_of_some _ e) (Nat.le_refl _) ?_, rfl, q _ hf⟩
  exact ⟨z, us, r, ⟨_, Heap.get?_push_size _ rfl, rfl, _, rfl⟩⟩
theorem pe_lst (h : PA X es t) : PE X (.List es pos) (tLst t) := by
  intro pins s σ H Q I hq
  refine wpAny_List_spliced (thn (h pos pins s σ H _ I hq) fun us s1 ⟨xs, H1, I1, r, z, q⟩ => ⟨by rw [← r.length]; exact z, ?_⟩)
  have hf : H1 s1.heap.objs.size = none := I1.hok.fresh (Nat.le_refl _)
  refine ⟨.ref s1.heap.objs.size, upd H1 s1.heap.objs.size (.lst xs), I1.laid (t' := s1.toks) (fun b u e => Heap.get?_push_of_some _ e) (Nat.le_refl _) ?_, rfl, q _ hf⟩
  exact ⟨z, us, 0, r, Heap.get?_push_size _ rfl⟩
end

/-! ### what a def promises -/
/-- a def's promise: the bound arguments in the parameters' order, the heap, the wanted end, the wanted exception -/
abbrev Sp := List V → Hp → VK → XK → Prop
/-- how an exception lies behind a call (file 08 gives it): the callers' frames, abstract heap and state ahead of the call, the wish, the exception, the state -/
abbrev CXT := List Env → Hp → Shared → XK → Value → Shared → Prop

/-- the state at a call -/
structure Env0 (P : Program) (w : World) (K : PySem.W.Frag) (mg : Str → Option Value) (base : Heap) (A : Around) (outer : List Env) (s : Shared) (H : Hp) : Prop where
  frames : A.frames = some outer
  mod : Mod K mg base
  bs : ∀ b o, base.get? b = some o → s.heap.get? b = some o ∧ H b = none
  bsz : base.objs.size ≤ s.heap.objs.size
  funs : s.heap.FunFrames base outer
  frf : ∀ b ∈ frs outer, H b = none
  hok : HOk P w H s.heap
  bare : AllBare s.gens
/-- a call's end -/
def CE (outer : List Env) (P : Program) (w : World) (H : Hp) (s : Shared) (Q : VK) (u : Value) (s' : Shared) : Prop :=
  ∃ v H', s'.os = s.os ∧ AllBare s'.gens ∧ Un (frs outer) [] H H' s.heap s'.heap ∧ HOk P w H' s'.heap ∧ RelV v u ∧ Q v H'
def CR (CX : CXT) (outer : List Env) (P : Program) (w : World) (H : Hp) (s : Shared) (Q : VK) (E : XK) (r : Result) (s' : Shared) : Prop :=
  match r with
  | .ok (.ret u) => CE outer P w H s Q u s'
  | .ok _ => False
  | .error e => CX outer H s E e s'
structure FnOk (P : Program) (w : World) (K : PySem.W.Frag) (mg : Str → Option Value) (base : Heap) (CX : CXT) (k : Nat) (f : Addr) (fd : FuncData) (ps : List Str) (sp : Sp) : Prop where
  len : ∀ vs H Q E, sp vs H Q E → vs.length = ps.length
  run : ∀ (A : Around) (outer : List Env) (s : Shared) (H : Hp) (args : Args) (us : List Value) (vs : List V) (Q : VK) (E : XK), Room k A → Env0 P w K mg base A outer s H → BindsTo s fd args (ps.zip us) → Vals vs us → sp vs H Q E →
    codeAny (model P w) A (.call (.ref f) args) (CR CX outer P w H s Q E) s
theorem FnOk.mono {P : Program} {w : World} {K : PySem.W.Frag} {mg : Str → Option Value} {base : Heap} {CX : CXT} {j k : Nat} {f : Addr} {fd : FuncData} {ps : List Str} {sp : Sp} (F : FnOk P w K mg base CX j f fd ps sp) (h : j ≤ k) :
    FnOk P w K mg base CX k f fd ps sp := ⟨F.len, fun A outer s H args us vs Q E hr => F.run A outer s H args us vs Q E (hr.mono h)⟩
/-- a weaker promise -/
theorem FnOk.imp {P : Program} {w : World} {K : PySem.W.Frag} {mg : Str → Option Value} {base : Heap} {CX : CXT} {k : Nat} {f : Addr} {fd : FuncData} {ps : List Str} {sp sp' : Sp} (F : FnOk P w K mg base CX k f fd ps sp)
    (h : ∀ vs H Q E, sp' vs H Q E → sp vs H Q E) : FnOk P w K mg base CX k f fd ps sp' :=
  ⟨fun vs H Q E q => F.len vs H Q E (h _ _ _ _ q), fun A outer s H args us vs Q E hr he hb hv hs => F.run A outer s H args us vs Q E hr he hb hv (h _ _ _ _ hs)⟩

theorem Env0.make {P : Program} {w : World} {K : PySem.W.Frag} {mg : Str → Option Value} {base : Heap} {A : Around} {outer : List Env} {s : Shared} {H : Hp} (e : Env0 P w K mg base A outer s H) (C : Addr) (us : List Value) (kw : List (Str × Value)) :
    Env0 P w K mg base (A.under (.builtin "type.__call__" ⟨.ref C :: us, kw⟩)) outer s H := ⟨by first | exact e.frames | (simpa [Around.under, Code.envs, Code.isFrame, pushEnvs] using e.frames), e.mod, e.bs, e.bsz, e.funs, e.frf, e.hok, e.bare⟩
theorem Env0.in1 {P : Program} {w : World} {K : PySem.W.Frag} {mg : Str → Option Value} {base : Heap} {A : Around} {outer : List Env} {s : Shared} {H : Hp} (e : Env0 P w K mg base A outer s H) :
    Env0 P w K mg base A.in1 outer s H := ⟨e.frames, e.mod, e.bs, e.bsz, e.funs, e.frf, e.hok, e.bare⟩

section
variable {X : Cx} {pins : List (Addr × Obj)} {σ : St} {H : Hp} {s s' : Shared}
/-- from a body: what a callee wants -/
theorem Inv.env0 (I : Inv X pins σ H s) : Env0 X.prog X.w X.K X.mg X.base X.A X.stack s H :=
  ⟨I.ok.frames, I.ok.mod, I.bs, Nat.le_trans I.ok.bsz I.sz, I.stack, I.stkFree, I.hok, I.bare⟩
/-- behind a call -/
theorem Inv.after {Q : VK} {u : Value} (I : Inv X pins σ H s) (h : CE X.stack X.prog X.w H s Q u s') : EP X pins σ Q u s' := by
  obtain ⟨v, H', os, bare, un, hok, r, q⟩ := h
  obtain ⟨hh, g, d, t, os'⟩ := s'
  obtain rfl : os' = s.os := os
  exact ⟨v, H', I.call (h' := hh) (g' := g) (d' := d) (t' := t) (ch := []) un hok bare (fun b z => absurd z (by simp)), r, q⟩
end

/-! ### calls -/
/-- f(..): the written arguments, then the defaults dvs; E: what is wanted of an exception -/
def tCall (sp : Sp) (dvs : List V) (E : XK) (t : TA) : TE := fun σ H Q => t σ H fun vs H1 => sp (vs ++ dvs) H1 Q E
/-- o.m(..) of an instance of the class at C -/
def tMeth (C : Addr) (m : Str) (sp : Sp) (dvs : List V) (E : XK) (ta : TE) (t : TA) : TE := fun σ H Q => ta σ H fun x H1 => ∃ a dx fs, x = .ref a ∧ H1 a = some (.ins C dx fs) ∧ fs.lookup m = none ∧
  t σ H1 fun vs H2 => sp (x :: (vs ++ dvs)) H2 Q E
/-- C(..): a new instance and its dict, then __init__ -/
def tMake (C : Addr) (sp : Sp) (dvs : List V) (E : XK) (t : TA) : TE := fun σ H Q => t σ H fun vs H1 => ∀ x dx, H1 x = none → H1 dx = none → dx ≠ x →
  sp (.ref x :: (vs ++ dvs)) (upd (upd H1 dx (.own x)) x (.ins C dx [])) (fun v H2 => v = .non ∧ Q (.ref x) H2) E

/-- how the parameters are bound: us the positional arguments, kw the keywords' values by name, ds the defaults that fill up -/
def Binds (K : PySem.W.Frag) (fd : FuncData) (ps : List Str) (ds : List Value) : Prop :=
  ∀ (s : Shared) (us : List Value), K.In s.heap → (us ++ ds).length = ps.length → BindsTo s fd ⟨us, []⟩ (ps.zip (us ++ ds))
/-- every parameter is given -/
theorem Binds.all {K : PySem.W.Frag} {fd : FuncData} {ps : List Str} (h : ∀ us : List Value, us.length = ps.length → bindArgs fd ⟨us, []⟩ = pure (ps.zip us)) : Binds K fd ps [] := fun s us _ hl => by
  rw [List.append_nil] at hl ⊢
  exact .of_eq (h us hl)

/-- an exception of a callee reaches what this body wants of exceptions -/
def Passes (CX : CXT) (X : Cx) (E : XK) : Prop := ∀ (pins : List (Addr × Obj)) (σ : St) (H : Hp) (s : Shared) (e : Value) (s' : Shared), Inv X pins σ H s → CX X.stack H s E e s' → X.xe e s'

section
variable {X : Cx} {CX : CXT} {k : Nat} {f C : Addr} {fd : FuncData} {ps : List Str} {sp : Sp} {dvs : List V} {ds : List Value} {E : XK} {x m : Str} {p pos apos : Pos} {e o : Expr} {es : List Expr} {ta : TE} {t : TA}

/-- the callee runs -/
theorem run_fn {pins : List (Addr × Obj)} {σ : St} {H : Hp} {s : Shared} {Q : VK} {us : List Value} {vs : List V} (F : FnOk X.prog X.w X.K X.mg X.base CX k f fd ps sp) (hr : Room k X.A) (hb : Binds X.K fd ps ds) (hd : Vals dvs ds) (hx : Passes CX X E)
    (I : Inv X pins σ H s) (r : Vals vs us) (h : sp (vs ++ dvs) H Q E) : wpAny (model X.prog X.w) X.A (call (.ref f) us) (EP X pins σ Q) X.xe s := by
  have r2 : Vals (vs ++ dvs) (us ++ ds) := r.append hd
  have hl : (us ++ ds).length = ps.length := by rw [← r2.length]; exact F.len _ _ _ _ h
  refine wpAny_call (codeAny_mono (F.run X.A X.stack s H ⟨us, []⟩ (us ++ ds) (vs ++ dvs) Q E hr I.env0 (hb s us I.kIn hl) r2 h) fun r s' hq => ?_)
  cases r with
  | error e => exact hx pins σ H s e s' I hq
  | ok fl =>
    cases fl with
    | ret u => exact I.after hq
    | next => exact False.elim hq
    | brk => exact False.elim hq
    | cont => exact False.elim hq

theorem pe_call (F : FnOk X.prog X.w X.K X.mg X.base CX k f fd ps sp) (hr : Room k X.A) (hg : Gl X x) (hm : X.mg x = some (.ref f)) (hk : PySem.W.keepIn X.K (.ref f) = true) (hb : Binds X.K fd ps ds) (hd : Vals dvs ds) (hx : Passes CX X E)
    (ha : PA X (e :: es) t) (hdb : (x == ("__debug__" : Str)) = false := by decide) (he : starEach (e :: es) X.env = (false, eval e X.env) :: starEach es X.env := by rfl) (hpl : (backTo pos (starEach es X.env)).any (·.1) = false := by rfl) :
    PE X (.Call (.Name x p) (e :: es) [] pos) (tCall sp dvs E t) := by
  intro pins s σ H Q I h
  refine wpAny_Call_Name_kw (ld_glob I hg hm ?_ hdb)
  refine PySem.W.callWith_K (h₀ := X.base) I.ok.mod.kin hk (thn (ha pos pins s σ H _ I h) fun us s1 ⟨vs, H1, I1, r, q⟩ => ⟨I1.kIn, ?_⟩) he hpl
  exact run_fn F hr hb hd hx I1 r q
theorem pe_call0 (F : FnOk X.prog X.w X.K X.mg X.base CX k f fd ps sp) (hr : Room k X.A) (hg : Gl X x) (hm : X.mg x = some (.ref f)) (hk : PySem.W.keepIn X.K (.ref f) = true) (hb : Binds X.K fd ps ds) (hd : Vals dvs ds) (hx : Passes CX X E)
    (hdb : (x == ("__debug__" : Str)) = false := by decide) : PE X (.Call (.Name x p) [] [] pos) (tCall sp dvs E tNil) := by
  intro pins s σ H Q I h
  refine wpAny_Call_Name_kw (ld_glob I hg hm ?_ hdb)
  exact PySem.W.callWith_K0 I.kIn hk (run_fn (us := []) F hr hb hd hx I .nil h)

/-- o.m(e, ..) -/
theorem pe_meth {pl : Sem Bool} (he : PE X o ta) (c : Cls X.K C) (hm : Meth X.K C m f) (F : FnOk X.prog X.w X.K X.mg X.base CX k f fd ps sp) (hr : Room k X.A) (hb : Binds X.K fd ps ds) (hd : Vals dvs ds) (hx : Passes CX X E) (ha : PA X (e :: es) t)
    (hst : starEach (e :: es) X.env = (false, eval e X.env) :: starEach es X.env := by rfl) (hpl : (backTo pos (starEach es X.env)).any (·.1) = false := by rfl)
    (ht : eval (.Call (.Attribute o m apos) (e :: es) [] pos) X.env = (do
      let ov ← eval o X.env
      standAt apos.atName
      let (f, first) ← holding [ov] (getMethod ov m pl)
      callWith pos f first (backTo pos (starEach (e :: es) X.env)) (backToKw pos (keywordEach [] X.env))) := by rfl) :
    PE X (.Call (.Attribute o m apos) (e :: es) [] pos) (tMeth C m sp dvs E ta t) := by
  intro pins s σ H Q I h
  refine PySem.W.methodCall_KW (pl := pl) (thn (he pins s σ H _ I h) fun u s1 ⟨x, H1, I1, rx, a, dx, fs, ex, ea, l, q⟩ => ?_) ht
  subst ex
  obtain rfl : u = Value.ref a := rx
  refine getmeth_ok I1 ea c hm l ?_
  refine PySem.W.callWith_K (first := [.ref a]) (h₀ := X.base) I.ok.mod.kin hm.kp (thn (ha pos pins s1 σ H1 _ I1 q) fun us s2 ⟨vs, H2, I2, r, q2⟩ => ⟨I2.kIn, ?_⟩) hst hpl
  exact run_fn (us := .ref a :: us) (vs := .ref a :: vs) F hr hb hd hx I2 (.cons rfl r) q2
/-- o.m() -/
theorem pe_meth0 {pl : Sem Bool} (he : PE X o ta) (c : Cls X.K C) (hm : Meth X.K C m f) (F : FnOk X.prog X.w X.K X.mg X.base CX k f fd ps sp) (hr : Room k X.A) (hb : Binds X.K fd ps ds) (hd : Vals dvs ds) (hx : Passes CX X E)
    (ht : eval (.Call (.Attribute o m apos) [] [] pos) X.env = (do
      let ov ← eval o X.env
      standAt apos.atName
      let (f, first) ← holding [ov] (getMethod ov m pl)
      callWith pos f first (backTo pos (starEach [] X.env)) (backToKw pos (keywordEach [] X.env))) := by rfl) :
    PE X (.Call (.Attribute o m apos) [] [] pos) (tMeth C m sp dvs E ta tNil) := by
  intro pins s σ H Q I h
  refine PySem.W.methodCall_KW (pl := pl) (thn (he pins s σ H _ I h) fun u s1 ⟨x, H1, I1, rx, a, dx, fs, ex, ea, l, q⟩ => ?_) ht
  subst ex
  obtain rfl : u = Value.ref a := rx
  refine getmeth_ok I1 ea c hm l ?_
  exact PySem.W.callWith_K0 (first := [.ref a]) I1.kIn hm.kp (run_fn (us := [.ref a]) (vs := [.ref a]) F hr hb hd hx I1 (.cons rfl .nil) q)

/-- what a class must have to be made -/
structure Mk (K : PySem.W.Frag) (C f : Addr) : Prop where
  makes : PySem.W.makesIn K C = true
  init : PySem.W.findIn K (.ref C) "__init__" = some (some (.ref f))
  fn : PySem.W.isFn K (.ref f) = true
  kp : PySem.W.keepIn K (.ref C) = true

theorem run_make {pins : List (Addr × Obj)} {σ : St} {H : Hp} {s : Shared} {Q : VK} {us : List Value} {vs : List V} (M : Mk X.K C f) (F : FnOk X.prog X.w X.K X.mg X.base CX k f fd ps sp) (hr : Room (k + 1) X.A) (hb : Binds X.K fd ps ds) (hd : Vals dvs ds)
    (hx : Passes CX X E) (I : Inv X pins σ H s) (r : Vals vs us)
    (h : ∀ x dx, H x = none → H dx = none → dx ≠ x → sp (.ref x :: (vs ++ dvs)) (upd (upd H dx (.own x)) x (.ins C dx [])) (fun v H2 => v = .non ∧ Q (.ref x) H2) E) :
    wpAny (model X.prog X.w) X.A (call (.ref C) us) (EP X pins σ Q) X.xe s := by
  have hq := h (s.heap.objs.size + 1) s.heap.objs.size (I.hok.fresh (Nat.le_succ _)) (I.hok.fresh (Nat.le_refl _)) (Nat.ne_of_lt (Nat.lt_succ_self _))
  have I2 := Inv.made (C := C) I
  have r2 : Vals (V.ref (s.heap.objs.size + 1) :: (vs ++ dvs)) (Value.ref (s.heap.objs.size + 1) :: (us ++ ds)) := .cons rfl (r.append hd)
  have hl : (Value.ref (s.heap.objs.size + 1) :: us ++ ds).length = ps.length := by
    have e := r2.length
    rw [F.len _ _ _ _ hq] at e
    exact e.symm
  refine wpAny_call (make_map (f := f) I.kIn M.makes M.init (beq_iff_eq.mp M.fn) (codeAny_mono (F.run _ X.stack _ _ ⟨Value.ref (s.heap.objs.size + 1) :: us, []⟩ (Value.ref (s.heap.objs.size + 1) :: (us ++ ds)) _ _ E (hr.make C us [])
    (I2.env0.make C us []) (hb _ (Value.ref (s.heap.objs.size + 1) :: us) I2.kIn hl) r2 hq) fun r s' hq' => ?_))
  cases r with
  | error e => exact hx pins σ _ _ e s' I2 hq'
  | ok fl =>
    cases fl with
    | ret u =>
      obtain ⟨v, H', I3, rv, ev, q3⟩ := I2.after hq'
      subst ev
      exact ⟨rv, ⟨V.ref (s.heap.objs.size + 1), H', I3, rfl, q3⟩⟩
    | next => exact False.elim hq'
    | brk => exact False.elim hq'
    | cont => exact False.elim hq'
theorem pe_make (M : Mk X.K C f) (F : FnOk X.prog X.w X.K X.mg X.base CX k f fd ps sp) (hr : Room (k + 1) X.A) (hg : Gl X x) (hm : X.mg x = some (.ref C)) (hb : Binds X.K fd ps ds) (hd : Vals dvs ds) (hx : Passes CX X E)
    (ha : PA X (e :: es) t) (hdb : (x == ("__debug__" : Str)) = false := by decide) (he : starEach (e :: es) X.env = (false, eval e X.env) :: starEach es X.env := by rfl) (hpl : (backTo pos (starEach es X.env)).any (·.1) = false := by rfl) :
    PE X (.Call (.Name x p) (e :: es) [] pos) (tMake C sp dvs E t) := by
  intro pins s σ H Q I h
  refine wpAny_Call_Name_kw (ld_glob I hg hm ?_ hdb)
  refine PySem.W.callWith_K (h₀ := X.base) I.ok.mod.kin M.kp (thn (ha pos pins s σ H _ I h) fun us s1 ⟨vs, H1, I1, r, q⟩ => ⟨I1.kIn, ?_⟩) he hpl
  exact run_make M F hr hb hd hx I1 r q
theorem pe_make0 (M : Mk X.K C f) (F : FnOk X.prog X.w X.K X.mg X.base CX k f fd ps sp) (hr : Room (k + 1) X.A) (hg : Gl X x) (hm : X.mg x = some (.ref C)) (hb : Binds X.K fd ps ds) (hd : Vals dvs ds) (hx : Passes CX X E)
    (hdb : (x == ("__debug__" : Str)) = false := by decide) : PE X (.Call (.Name x p) [] [] pos) (tMake C sp dvs E tNil) := by
  intro pins s σ H Q I h
  refine wpAny_Call_Name_kw (ld_glob I hg hm ?_ hdb)
  exact PySem.W.callWith_K0 I.kIn M.kp (run_make (us := []) M F hr hb hd hx I .nil h)
end

/-! ### keywords -/
/-- the values of the keywords, from the left -/
def PK (X : Cx) (kws : List Keyword) (t : TA) : Prop :=
  ∀ (pos : Pos) (pins : List (Addr × Obj)) (s : Shared) (σ : St) (H : Hp) (Q : List V → Hp → Prop), Inv X pins σ H s → t σ H Q → wpAny (model X.prog X.w) X.A (evalAll ((backToKw pos (keywordEach kws X.env)).map (·.2))) (AP X pins σ Q) X.xe s
section
variable {X : Cx} {CX : CXT} {k : Nat} {f C : Addr} {fd : FuncData} {ps ks : List Str} {sp : Sp} {E : XK} {x m : Str} {p pos apos kpos : Pos} {e o : Expr} {es : List Expr} {kws : List Keyword} {te ta : TE} {t tk : TA} {nm : Option Str}
theorem pk_nil : PK X [] tNil := fun _ _ _ _ H Q I h => wpAny_evalAll_nil ⟨[], H, I, .nil, h⟩
theorem pk_cons (ha : PE X e te) (hr : PK X kws t) : PK X (⟨nm, e, kpos⟩ :: kws) (tCons te t) := by
  intro pos pins s σ H Q I h
  show wpAny _ _ (evalAll ((do let v ← eval e X.env; standAt pos; pure v) :: (backToKw pos (keywordEach kws X.env)).map (·.2))) _ _ s
  refine wpAny_evalAll_cons (wpAny_bind (thn (ha pins s σ H _ I h) fun u s1 ⟨x, H1, I1, r1, q1⟩ => wpAny_bind (wpAny_standAt (wpAny_pure ?_))))
  exact thn (hr pos pins s1 σ H1 _ I1 q1) fun us s2 ⟨xs, H2, I2, r2, q2⟩ => ⟨x :: xs, H2, I2, .cons r1 r2, q2⟩

/-- how a call with keywords binds: g puts the positional values us and the keywords' values ws (names ks) in the parameters' order, defaults among them -/
structure KBinds (K : PySem.W.Frag) (fd : FuncData) (ps ks : List Str) (g : List Value → List Value → List Value) (gV : List V → List V → List V) : Prop where
  to : ∀ (s : Shared) (us ws : List Value), K.In s.heap → (g us ws).length = ps.length → BindsTo s fd ⟨us, ks.zip ws⟩ (ps.zip (g us ws))
  rel : ∀ {vs : List V} {us : List Value} {zs : List V} {ws : List Value}, Vals vs us → Vals zs ws → Vals (gV vs zs) (g us ws)
def tCallK (sp : Sp) (gV : List V → List V → List V) (E : XK) (t tk : TA) : TE := fun σ H Q => t σ H fun vs H1 => tk σ H1 fun zs H2 => sp (gV vs zs) H2 Q E
variable {g : List Value → List Value → List Value} {gV : List V → List V → List V}
theorem run_fnk {pins : List (Addr × Obj)} {σ : St} {H : Hp} {s : Shared} {Q : VK} {us ws : List Value} {vs zs : List V} (F : FnOk X.prog X.w X.K X.mg X.base CX k f fd ps sp) (hr : Room k X.A) (hb : KBinds X.K fd ps ks g gV) (hx : Passes CX X E)
    (I : Inv X pins σ H s) (r : Vals vs us) (rz : Vals zs ws) (h : sp (gV vs zs) H Q E) : wpAny (model X.prog X.w) X.A (call (.ref f) us (ks.zip ws)) (EP X pins σ Q) X.xe s := by
  have r2 := hb.rel r rz
  have hl : (g us ws).length = ps.length := by rw [← r2.length]; exact F.len _ _ _ _ h
  refine wpAny_call (codeAny_mono (F.run X.A X.stack s H ⟨us, ks.zip ws⟩ (g us ws) (gV vs zs) Q E hr I.env0 (hb.to s us ws I.kIn hl) r2 h) fun r s' hq => ?_)
  cases r with
  | error e => exact hx pins σ H s e s' I hq
  | ok fl =>
    cases fl with
    | ret u => exact I.after hq
    | next => exact False.elim hq
    | brk => exact False.elim hq
    | cont => exact False.elim hq
/-- f(e, .., k = v, ..) -/
theorem pe_callK (F : FnOk X.prog X.w X.K X.mg X.base CX k f fd ps sp) (hr : Room k X.A) (hg : Gl X x) (hm : X.mg x = some (.ref f)) (hk : PySem.W.keepIn X.K (.ref f) = true) (hb : KBinds X.K fd ps ks g gV) (hx : Passes CX X E)
    (ha : PA X (e :: es) t) (hkw : PK X kws tk) (hall : (backToKw pos (keywordEach kws X.env)).all (·.1.isSome) = true := by rfl) (hks : (backToKw pos (keywordEach kws X.env)).filterMap (·.1) = ks := by rfl)
    (hdb : (x == ("__debug__" : Str)) = false := by decide) (he : starEach (e :: es) X.env = (false, eval e X.env) :: starEach es X.env := by rfl)
    (hpl : ((backTo pos (starEach (e :: es) X.env)).any (·.1) || (backToKw pos (keywordEach kws X.env)).any (·.1.isNone)) = false := by rfl) :
    PE X (.Call (.Name x p) (e :: es) kws pos) (tCallK sp gV E t tk) := by
  intro pins s σ H Q I h
  refine wpAny_Call_Name_kw (ld_glob I hg hm ?_ hdb)
  refine PySem.W.callWith_KW (h₀ := X.base) I.ok.mod.kin hk hall (thn (ha pos pins s σ H _ I h) fun us s1 ⟨vs, H1, I1, r, q⟩ => ?_) hpl he
  refine thn (hkw pos pins s1 σ H1 _ I1 q) fun ws s2 ⟨zs, H2, I2, rz, q2⟩ => ⟨I2.kIn, ?_⟩
  rw [hks]
  exact run_fnk F hr hb hx I2 r rz q2
end

/-! ### a def's body keeps its promise -/
/-- names: the parameters first -/
structure FnScope (N P : List Str) (sc : Scope) : Prop where
  kind : sc.kind = .function
  co : sc.isCoroutine = false
  gen : sc.isGenerator = false
  nd : N.Nodup
  pre : N.take P.length = P
  par : ∀ x ∈ P, sc.names.lookup x = some .local ∨ sc.names.lookup x = some .cell
  nofree : ∀ y ∈ sc.names, y.2 ≠ .free

theorem bindL_out {kindOf : Str → Option NameKind} {x : Str} : ∀ {binds : List (Str × Value)} {m : Str → Option Value}, (∀ v, (x, v) ∉ binds) → bindL kindOf binds m x = m x
  | [], _, _ => rfl
  | (n, v) :: r, m, h => by
    unfold bindL
    rw [bindL_out fun w hw => h w (List.mem_cons_of_mem _ hw)]
    split
    · have : x ≠ n := by rintro rfl; exact h v List.mem_cons_self
      simp [this]
    · rfl
theorem bindC_out {kindOf : Str → Option NameKind} {x : Str} : ∀ {binds : List (Str × Value)} {m : Str → Option Value}, (∀ v, (x, v) ∉ binds) → bindC kindOf binds m x = m x
  | [], _, _ => rfl
  | (n, v) :: r, m, h => by
    unfold bindC
    rw [bindC_out fun w hw => h w (List.mem_cons_of_mem _ hw)]
    split
    · rfl
    · have : x ≠ n := by rintro rfl; exact h v List.mem_cons_self
      simp [this]
theorem bindL_get {kindOf : Str → Option NameKind} {x : Str} {v : Value} : ∀ {P : List Str} {vs : List Value} {i : Nat} {m : Str → Option Value}, P.Nodup → P[i]? = some x → vs[i]? = some v → kindOf x = some .local →
    bindL kindOf (P.zip vs) m x = some v
  | [], _, _, _, _, h, _, _ => by simp at h
  | _ :: _, [], _, _, _, _, h, _ => by simp at h
  | p :: P, w :: vs, 0, m, nd, h1, h2, hk => by
    simp at h1 h2; subst h1; subst h2
    show bindL kindOf ((p, w) :: P.zip vs) m p = _
    unfold bindL
    rw [bindL_out fun v hv => (List.nodup_cons.mp nd).1 (List.of_mem_zip hv).1, if_pos hk]
    simp
  | p :: P, w :: vs, i + 1, m, nd, h1, h2, hk => by
    show bindL kindOf ((p, w) :: P.zip vs) m x = _
    unfold bindL
    exact bindL_get (i := i) (List.nodup_cons.mp nd).2 (by simpa using h1) (by simpa using h2) hk
theorem bindC_get {kindOf : Str → Option NameKind} {x : Str} {v : Value} : ∀ {P : List Str} {vs : List Value} {i : Nat} {m : Str → Option Value}, P.Nodup → P[i]? = some x → vs[i]? = some v → kindOf x ≠ some .local →
    bindC kindOf (P.zip vs) m x = some v
  | [], _, _, _, _, h, _, _ => by simp at h
  | _ :: _, [], _, _, _, _, h, _ => by simp at h
  | p :: P, w :: vs, 0, m, nd, h1, h2, hk => by
    simp at h1 h2; subst h1; subst h2
    show bindC kindOf ((p, w) :: P.zip vs) m p = _
    unfold bindC
    rw [bindC_out fun v hv => (List.nodup_cons.mp nd).1 (List.of_mem_zip hv).1, if_neg hk]
    simp
  | p :: P, w :: vs, i + 1, m, nd, h1, h2, hk => by
    show bindC kindOf ((p, w) :: P.zip vs) m x = _
    unfold bindC
    exact bindC_get (i := i) (List.nodup_cons.mp nd).2 (by simpa using h1) (by simpa using h2) hk

/-- the names' values at the entry -/
def start (N : List Str) (vs : List V) : St := vs.map some ++ List.replicate (N.length - vs.length) none

/-- the context of a def's body, at its entry; an exception leaves the frame, then lies as CX says -/
def cxOf (CX : CXT) (P : Program) (w : World) (K : PySem.W.Frag) (mg : Str → Option Value) (base : Heap) (N : List Str) (qual : Str) (scope : Scope) (f : Addr) (cd : Value) (A : Around) (outer : List Env) (s : Shared) (H : Hp) (E : XK) : Cx where
  prog := P
  w := w
  K := K
  mg := mg
  base := base
  A := A.deeper (envOfC qual scope s.heap.objs.size f cd)
  N := N
  s₀ := s
  H₀ := H
  env := envOfC qual scope s.heap.objs.size f cd
  outer := outer
  stack := envOfC qual scope s.heap.objs.size f cd :: outer
  ex := []
  calm := true
  fn := fun _ => true
  pn := []
  xe := fun e s' => wpAny (model P w) (A.deeper (envOfC qual scope s.heap.objs.size f cd)) (leaving (envOfC qual scope s.heap.objs.size f cd) e) (fun _ s'' => CX outer H s E e s'') (fun e' s'' => CX outer H s E e' s'') s'

theorem cell_has {sc : Scope} {n : Nat} {x : Str} (h : sc.names.lookup x = some .cell) : ∃ c, (cellsFrom n sc.names []).lookup x = some c := by
  have q := PySem.W.cellsFrom_some sc.names n [] (.inl h)
  exact Option.isSome_iff_exists.mp q

theorem inv_start {CX : CXT} {P : Program} {w : World} {K : PySem.W.Frag} {mg : Str → Option Value} {base : Heap} {N ps : List Str} {qual : Str} {scope : Scope} {f : Addr} {cd : Value} {A : Around} {outer : List Env} {s s1 : Shared} {H : Hp} {E : XK} {us : List Value} {vs : List V}
    (S : FnScope N ps scope) (hd : A.handled = none) (e0 : Env0 P w K mg base A outer s H) (hl : vs.length = ps.length) (r : Vals vs us)
    (x : InCallC s s.heap.objs.size (bindL (envOfC qual scope s.heap.objs.size f cd).kindOf (ps.zip us) fun _ => none) (cellsFrom (s.heap.objs.size + 1) scope.names []) (bindC (envOfC qual scope s.heap.objs.size f cd).kindOf (ps.zip us) fun _ => none) s1) :
    Inv (cxOf CX P w K mg base N qual scope f cd A outer s H E) [] (start N vs) H s1 := by
  have hpl : ps.length ≤ N.length := by have := congrArg List.length S.pre; rw [List.length_take] at this; omega
  obtain ⟨h1, tk, rfl, hk⟩ := x.done
  have noA : ∀ b : Addr, b ∉ (cxOf CX P w K mg base N qual scope f cd A outer s H E).ex := fun b z => absurd (show b ∈ ([] : List Addr) from z) (by simp)
  refine ⟨⟨e0.mod, S.kind, rfl, rfl, Nat.le_refl _, fun y z c h1 h2 => ?_, fun y hy => ?_, fun y c _ h => ?_, fun _ => hd, Around.frames_deeper e0.frames, .inr ⟨rfl, rfl⟩, fun b z => absurd z (noA b), e0.bs, e0.bsz, fun b _ _ => noA b, fun b z => absurd z (noA b), e0.funs, e0.frf⟩,
    rfl, e0.bare, Un.kept hk, ⟨_, x.toInCall.ns, fun i y v h1 h2 h3 => ?_⟩, fun y c h => ⟨_, x.cell y c h⟩, e0.hok.fresh (Nat.le_refl _), fun y c h => ?_, fun p hp => absurd (show p ∈ ([] : List (Addr × Obj)) from hp) (by simp), e0.hok.kept hk, ?_⟩
  · exact name_of_addr x.apart (PySem.mem_of_lookup h1) (PySem.mem_of_lookup h2)
  · have hy : scope.names.lookup y = some .cell ∨ scope.names.lookup y = some .free := hy
    rcases hy with hy | hy
    · exact cell_has hy
    · exact absurd rfl (S.nofree _ (PySem.mem_of_lookup hy))
  · exact Nat.le_of_lt (x.above y c (PySem.mem_of_lookup h))
  · have hi : i < vs.length := by
      unfold start at h2
      by_cases hi : i < vs.length
      · exact hi
      · rw [List.getElem?_append_right (by simpa using hi)] at h2
        rw [List.getElem?_replicate] at h2
        split at h2 <;> cases h2
    have ha : vs[i]? = some v := by
      unfold start at h2
      rw [List.getElem?_append_left (by simpa using hi), List.getElem?_map] at h2
      cases e : vs[i]? with
      | none => rw [e] at h2; cases h2
      | some a => rw [e] at h2; cases h2; rfl
    obtain ⟨u, hu, rv⟩ := r.get ha
    have hp : ps[i]? = some y := by
      rw [← S.pre, List.getElem?_take_of_lt (by omega)]; exact h1
    have ndP : ps.Nodup := by rw [← S.pre]; exact S.nd.sublist (List.take_sublist _ _)
    refine ⟨u, rv, ?_⟩
    rcases S.par y (List.mem_of_getElem? hp) with k | k
    · exact .inl ⟨k, bindL_get ndP hp hu k⟩
    · obtain ⟨c, e⟩ := cell_has (n := s.heap.objs.size + 1) k
      refine .inr ⟨.inl k, c, e, ?_⟩
      have q := x.cell y c e
      rw [bindC_get ndP hp hu (by show scope.names.lookup y ≠ _; rw [k]; decide)] at q
      exact q
  · exact e0.hok.fresh (Nat.le_of_lt (x.above y c (PySem.mem_of_lookup h)))
  · unfold start
    show _ = N.length
    rw [List.length_append, List.length_map, List.length_replicate]
    omega

/-- THE RULE: a def (or a method) of the text, by its body. The body's reading t is chosen for each entry; it is run at the parameters' values -/
theorem fn_of {CX : CXT} {P : Program} {w : World} {K : PySem.W.Frag} {mg : Str → Option Value} {base : Heap} {k : Nat} {f : Addr} {name qual : Str} {params : Arguments} {body : List Stmt} {scope : Scope} {dV kV doc pm cdv ct oc : Value} {an od : Option Addr}
    {osl : Array (Option Value)} {N ps : List Str} {sp : Sp} (lk : K.lookup f = some ⟨oc, od, .func (PySem.W.fnOf name qual params body scope dV kV doc pm an cdv ct), osl⟩) (hcd : PySem.W.codeIn K cdv qual = true) (S : FnScope N ps scope)
    (len : ∀ vs H Q E, sp vs H Q E → vs.length = ps.length)
    (hbody : ∀ (A : Around) (outer : List Env) (s : Shared) (H : Hp) (vs : List V) (Q : VK) (E : XK), Room k (A.deeper (envOfC qual scope s.heap.objs.size f cdv)) → sp vs H Q E →
      ∃ t, PSs (cxOf CX P w K mg base N qual scope f cdv A outer s H E) body t ∧ t { nx := fun _ H' => Q .non H', rt := Q } (start N vs) H) :
    FnOk P w K mg base CX (k + 1) f (PySem.W.fnOf name qual params body scope dV kV doc pm an cdv ct) ps sp := by
  refine ⟨len, fun A outer s H args us vs Q E hr e0 hb r hsp => ?_⟩
  have hl := len _ _ _ _ hsp
  have KX : K.In s.heap := e0.mod.kin.keeps fun b o e => (e0.bs b o e).1
  have lim : s.heap.NoLimit := e0.mod.nolimit.keeps fun b o e => (e0.bs b o e).1
  have hkind : ∀ y ∈ ps.zip us, scope.names.lookup y.1 = some .local ∨ (scope.names.lookup y.1 = some .cell ∧ ((cellsFrom (s.heap.objs.size + 1) scope.names []).lookup y.1).isSome = true) := fun ⟨n, v⟩ hy => by
    rcases S.par n (List.of_mem_zip hy).1 with q | q
    · exact .inl q
    · exact .inr ⟨q, PySem.W.cellsFrom_some _ _ _ (.inl q)⟩
  refine codeAny_call_function hr.depth (KX _ _ lk) rfl S.co S.gen rfl (PySem.W.codeRec_of KX hcd) (hb _ _ _ _ ?_)
  refine wpAny_newFunctionEnv_cells S.kind hkind fun env he s1 x => ?_
  subst he
  refine ⟨lim.keeps x.toInCall.keep, codeAny_func ?_⟩
  obtain ⟨t, ht, hq⟩ := hbody A outer s H vs Q E (hr.deeper _) hsp
  have I : Inv (cxOf CX P w K mg base N qual scope f cdv A outer s H E) [] (start N vs) H s1 := inv_start S hr.hd e0 hl r x
  refine wpAny_mono (ht [] s1 (start N vs) H _ I hq) (fun fl s' hs => ?_) fun e s' hs => hs
  have fin : ∀ {σ' : St} {H' : Hp} {v : V} {u : Value}, Inv (cxOf CX P w K mg base N qual scope f cdv A outer s H E) [] σ' H' s' → RelV v u → Q v H' → CE outer P w H s Q u s' :=
    fun {σ' H' v u} J rv q => ⟨v, H', J.os, J.bare, J.base, J.hok, rv, q⟩
  cases fl with
  | ret u =>
    obtain ⟨v, σ', H', J, rv, q⟩ := hs
    exact fin J rv q
  | next =>
    obtain ⟨σ', H', J, q⟩ := hs
    exact fin (v := V.non) (u := Value.none) J rfl q
  | brk =>
    obtain ⟨_, _, _, q⟩ := hs
    exact False.elim q
  | cont =>
    obtain ⟨_, _, _, q⟩ := hs
    exact False.elim q
end L2

namespace L2
open PySem PySem.Spec PyProof.Rows
section
variable {X : Cx} {x : Str} {p pos : Pos} {e : Expr} {es : List Expr} {t : TA} {id T : String} {r : List V → Hp → VK → Prop}

def tCB (r : List V → Hp → VK → Prop) (t : TA) : TE := fun σ H Q => t σ H fun vs H1 => r vs H1 Q
/-- f(e, ..), f a built-in function -/
theorem pe_callB (hc : CallR X (.builtin id) r) (hg : Gl X x) (hm : X.mg x = none) (hv : bootBuiltins x = some (.builtin id)) (ha : PA X (e :: es) t) (hn : x ≠ "__name__" := by decide) (hdb : (x == ("__debug__" : Str)) = false := by decide)
    (he : starEach (e :: es) X.env = (false, eval e X.env) :: starEach es X.env := by rfl) (hpl : (backTo pos (starEach es X.env)).any (·.1) = false := by rfl) : PE X (.Call (.Name x p) (e :: es) [] pos) (tCB r t) := by
  intro pins s σ H Q I h
  refine wpAny_Call_Name_kw (ld_blt I hg hm hv ?_ hn hdb)
  exact PyProof.Rows.callWith_builtin1 (thn (ha pos pins s σ H _ I h) fun us s1 ⟨vs, H1, I1, r1, q1⟩ => hc pins s1 σ H1 vs us Q I1 r1 q1) he hpl
/-- T(e, ..), T a built-in type -/
theorem pe_callTy (hc : CallR X (.type T) r) (hg : Gl X x) (hm : X.mg x = none) (hv : bootBuiltins x = some (.type T)) (ha : PA X (e :: es) t) (hn : x ≠ "__name__" := by decide) (hdb : (x == ("__debug__" : Str)) = false := by decide)
    (he : starEach (e :: es) X.env = (false, eval e X.env) :: starEach es X.env := by rfl) (hpl : (backTo pos (starEach es X.env)).any (·.1) = false := by rfl) : PE X (.Call (.Name x p) (e :: es) [] pos) (tCB r t) := by
  intro pins s σ H Q I h
  refine wpAny_Call_Name_kw (ld_blt I hg hm hv ?_ hn hdb)
  exact PyProof.Rows.callWith_type1 (thn (ha pos pins s σ H _ I h) fun us s1 ⟨vs, H1, I1, r1, q1⟩ => hc pins s1 σ H1 vs us Q I1 r1 q1) he hpl
/-- T() -/
theorem pe_callTy0 (hc : CallR X (.type T) r) (hg : Gl X x) (hm : X.mg x = none) (hv : bootBuiltins x = some (.type T)) (hn : x ≠ "__name__" := by decide) (hdb : (x == ("__debug__" : Str)) = false := by decide) :
    PE X (.Call (.Name x p) [] [] pos) (tCB r tNil) := by
  intro pins s σ H Q I h
  refine wpAny_Call_Name_kw (ld_blt I hg hm hv ?_ hn hdb)
  exact PyProof.Rows.callWith_type0 (hc pins s σ H [] [] Q I .nil h)
end
end L2

namespace HT
open PySem PyProof.Rows

/-- t < u of tuples of ints -/
def lexLt : List Int → List Int → Bool
  | [], [] => false
  | [], _ :: _ => true
  | _ :: _, [] => false
  | x :: xs, y :: ys => if x = y then lexLt xs ys else decide (x < y)
theorem lexLt_cons (x y : Int) (xs ys : List Int) : lexLt (x :: xs) (y :: ys) = if x = y then lexLt xs ys else decide (x < y) := rfl
theorem lexLt_nil_nil : lexLt [] [] = false := rfl
theorem lexLt_nil_cons (y : Int) (ys : List Int) : lexLt [] (y :: ys) = true := rfl
theorem lexLt_cons_nil (x : Int) (xs : List Int) : lexLt (x :: xs) [] = false := rfl

theorem eqAt_int (A : Around) (s : Shared) (a : Int) (t : Tok) (c : Int) (u : Tok) : ∃ e, SeqAt.EqAt A s (.int a t) (.int c u) e ∧ (e = true ↔ a = c) :=
  ⟨(a == c), SeqAt.EqAt.int_int a t c u, by simp⟩
theorem rcLt_int (A : Around) (s : Shared) (a : Int) (t : Tok) (c : Int) (u : Tok) (prog : Program) (w : World) (E : Value → Shared → Prop) (Q : Value → Shared → Prop) (h : Q (.bool (decide (a < c))) s) :
    wpAny (model prog w) A (richCompare .Lt (.int a t) (.int c u)) Q E s :=
  (PyProof.Rows.lt_int h : wpAny (model prog w) A (compareOp .Lt (.int a t) (.int c u)) Q E s)

section
open PySem.SeqAt
open PySem.AutoSeq1 (wpAny_loadPart')
open PySem.MeetsSeq PySem.MeetsSeq2 PySem.MeetsSeq3

theorem tuple_lt_ints (l b : Addr) (items items2 : Array Value) (n n2 : Nat) (dd dd2 : Option Addr) (sl sl2 : Array (Option Value)) (ns ms : List Int) (hi : IntsAre items.toList ns) (hj : IntsAre items2.toList ms) :
    Meets (Builtin.«tuple.__lt__» ⟨[.ref l, .ref b], []⟩)
      (fun _ R s => s.heap.get? l = some { cls := .type "tuple", dict := dd, data := .seq items n, slots := sl } ∧ s.heap.get? b = some { cls := .type "tuple", dict := dd2, data := .seq items2 n2, slots := sl2 } ∧
        R (.ok (.ret (.bool (lexLt ns ms)))) s) :=
  .of_wp fun prog w A R s h => by
    obtain ⟨hp, g, d, tk, os⟩ := s; obtain ⟨hl, hb, h⟩ := h
    have f2 := AutoSeq1.sub_tuple_tuple
    have z1 : items.size = ns.length := by rw [← hi.length]; simp
    have z2 : items2.size = ms.length := by rw [← hj.length]; simp
    wp_walk using wpAny_loadPart' hl, wpAny_loadPart' hb, wpAny_forIn_list _ (fun rest b s' => b.1 = none ∧ s' = ⟨hp, g, d, tk, os⟩ ∧ ∃ (vs ws : List Value) (ns' ms' : List Int), rest = vs.zip ws ∧
      IntsAre vs ns' ∧ IntsAre ws ms' ∧ ns'.length + items2.size = ms'.length + items.size ∧ R (.ok (.ret (.bool (lexLt ns' ms')))) ⟨hp, g, d, tk, os⟩) _
    case turn =>
      rintro ⟨y, x⟩ rest b s' ⟨hb', rfl, vs, ws, ns', ms', hz, hvi, hwi, hlen, hR⟩
      cases hvi with
      | nil => rw [List.zip_nil_left] at hz; cases hz
      | cons a t hvi' =>
        cases hwi with
        | nil => rw [List.zip_nil_right] at hz; cases hz
        | cons c u hwi' =>
          rw [List.zip_cons_cons] at hz
          injection hz with hyx hrest
          injection hyx with hy hx
          subst hy hx
          rw [lexLt_cons] at hR
          simp only [List.length_cons] at hlen
          obtain ⟨e, he, hiff⟩ := eqAt_int A.in1 ⟨hp, g, d, tk, os⟩ a t c u
          refine wpAny_bind (he prog w _ _ ?_)
          cases e with
          | true =>
            rw [if_pos (hiff.mp rfl)] at hR
            wp_walk
            exact ⟨rfl, rfl, _, _, _, _, hrest, hvi', hwi', by omega, hR⟩
          | false =>
            rw [if_neg (fun q => absurd (hiff.mpr q) Bool.false_ne_true)] at hR
            have hri := rcLt_int A.in1 ⟨hp, g, d, tk, os⟩ a t c u prog w
            wp_walk using hri
            exact ⟨_, rfl, by simpa using hR⟩
    case fin =>
      rintro ⟨b1, b2⟩ s' ⟨hb', rfl, vs, ws, ns', ms', hz, hvi, hwi, hlen, hR⟩
      simp only at hb'
      subst hb'
      have hv : lexLt ns' ms' = decide (items.size < items2.size) := by
        cases hvi with
        | nil =>
          cases hwi with
          | nil =>
            simp only [List.length_nil] at hlen
            rw [lexLt_nil_nil]
            exact (decide_eq_false (by omega)).symm
          | cons c u hw =>
            simp only [List.length_nil, List.length_cons] at hlen
            rw [lexLt_nil_cons]
            exact (decide_eq_true (by omega)).symm
        | cons a t hv =>
          cases hwi with
          | nil =>
            simp only [List.length_nil, List.length_cons] at hlen
            rw [lexLt_cons_nil]
            exact (decide_eq_false (by omega)).symm
          | cons c u hw =>
            rw [List.zip_cons_cons] at hz
            cases hz
      rw [hv] at hR
      wp_walk
      exact ⟨_, rfl, by simpa [Builtin.Tuple.tupleCompareSizes] using hR⟩
    case h =>
      exact ⟨rfl, rfl, items.toList, items2.toList, ns, ms, rfl, hi, hj, by omega, h⟩
end

section
variable {prog : Program} {w : World} {A : Around} {E : Value → Shared → Prop} {s : Shared}

theorem lt_tupInts {l b : Addr} {items items2 : Array Value} {ns ms : List Int} {Q : Value → Shared → Prop} (hl : IsTup s.heap l items) (hb : IsTup s.heap b items2) (hi : IntsAre items.toList ns) (hj : IntsAre items2.toList ms)
    (hu : A.units < cLine) (h : Q (.bool (lexLt ns ms)) s) : wpAny (model prog w) A (compareOp .Lt (.ref l) (.ref b)) Q E s := by
  obtain ⟨⟨cls, dd, data, sl⟩, ho, hc, n, hd⟩ := id hl
  obtain ⟨⟨cls2, dd2, data2, sl2⟩, ho2, hc2, n2, hd2⟩ := id hb
  simp only at hc hd hc2 hd2
  subst hc hd hc2 hd2
  exact richCompare_meets_room (op := .Lt) ⟨_, ho, rfl⟩ ⟨_, ho2, rfl⟩ PySem.F.slot_tuple_lt PySem.F.entry_tuple_lt (PySem.F.args_tuple_lt_2 _ _) (tuple_lt_ints l b items items2 n n2 dd dd2 sl sl2 ns ms hi hj)
    ⟨ho, ho2, show Value.bool (lexLt ns ms) ≠ Value.notImplemented ∧ Q (.bool (lexLt ns ms)) s from ⟨(fun x => nomatch x), h⟩⟩ hu

/-- t + u, t not empty -/
theorem cat_tup {t b : Addr} {vs ws : List Value} {Q : Value → Shared → Prop} (ht : IsTup s.heap t vs.toArray) (hb : IsTup s.heap b ws.toArray) (hv : vs ≠ [])
    (h1 : ws = [] → Q (.ref t) s) (h2 : ws ≠ [] → Q (.ref s.heap.objs.size) { s with heap := s.heap.push { cls := .type "tuple", data := .seq (vs ++ ws).toArray } })
    (hsz : vs.length + ws.length ≤ sizeLine) : wpAny (model prog w) A (binaryOp .Add (.ref t) (.ref b)) Q E s := by
  obtain ⟨⟨cls, dd, data, sl⟩, ho, hc, n, hd⟩ := id ht
  obtain ⟨⟨cls2, dd2, data2, sl2⟩, ho2, hc2, n2, hd2⟩ := id hb
  simp only at hc hd hc2 hd2
  subst hc hd hc2 hd2
  have e : vs.toArray ++ ws.toArray = (vs ++ ws).toArray := by simp
  by_cases hw : ws = []
  · exact concat_meets ⟨_, ho, rfl⟩ ⟨_, ho2, rfl⟩ noFill_tuple_add seq_tuple_add PySem.F.slot_tuple_add PySem.F.entry_tuple_add (PySem.F.args_tuple_add_2 _ _)
      (tuple_addW1 t b vs.toArray ws.toArray n n2 dd dd2 sl sl2 (by simpa using hv) (by simp [hw])) ⟨ho, ho2, h1 hw⟩
  · refine concat_meets ⟨_, ho, rfl⟩ ⟨_, ho2, rfl⟩ noFill_tuple_add seq_tuple_add PySem.F.slot_tuple_add PySem.F.entry_tuple_add (PySem.F.args_tuple_add_2 _ _)
      (tuple_addW2 t b vs.toArray ws.toArray n n2 dd dd2 sl sl2 (by simpa using hv) (by simpa using hw) (by rw [List.size_toArray, List.size_toArray]; exact hsz)) ⟨ho, ho2, ?_⟩
    rw [e]
    exact h2 hw

/-! ### t[a:b], not the whole -/
/-- a slice's bound as a place among n (d where it is left out) -/
def sIx (n d : Nat) : Option Int → Nat
  | none => d
  | some v => if v < 0 then (v + (n : Int)).toNat else min v.toNat n
theorem sIx_none (n d : Nat) : sIx n d none = d := rfl
theorem sIx_nat (n d k : Nat) : sIx n d (some (k : Int)) = min k n := by
  show (if (k : Int) < 0 then ((k : Int) + (n : Int)).toNat else min (k : Int).toNat n) = min k n
  rw [if_neg (by omega), Int.toNat_natCast]
theorem sIx_le (n d : Nat) (hd : d ≤ n) (o : Option Int) : sIx n d o ≤ n := by
  cases o with
  | none => exact hd
  | some v =>
    show (if v < 0 then (v + (n : Int)).toNat else min v.toNat n) ≤ n
    by_cases hv : v < 0
    · rw [if_pos hv]; omega
    · rw [if_neg hv]; exact Nat.min_le_right _ _
theorem clip_eq (v : Int) (n d : Nat) : (if v < 0 then max (v + (n : Int)) 0 else min v (n : Int)) = ((sIx n d (some v) : Nat) : Int) := by
  show (if v < 0 then max (v + (n : Int)) 0 else min v (n : Int)) = (((if v < 0 then (v + (n : Int)).toNat else min v.toNat n) : Nat) : Int)
  by_cases hv : v < 0
  · simp only [if_pos hv]; omega
  · simp only [if_neg hv]; omega
theorem adjust_gen (lo hi : Option Int) (n : Nat) : Builtin.Slice.sliceAdjust lo hi 1 (n : Int) = (((sIx n 0 lo : Nat) : Int), ((sIx n n hi : Nat) : Int)) := by
  have h1 : ¬ ((1 : Int) < 0) := by omega
  unfold Builtin.Slice.sliceAdjust
  simp only [h1, if_false]
  refine Prod.ext ?_ ?_
  · cases lo with
    | none => rfl
    | some v => exact clip_eq v n 0
  · cases hi with
    | none => rfl
    | some v => exact clip_eq v n n
theorem places_gen (i j : Nat) : Builtin.Slice.slicePlaces (i : Int) (j : Int) 1 = j - i := by
  unfold Builtin.Slice.slicePlaces
  have h1 : (1 : Int) > 0 := by omega
  simp only [h1, if_true, Int.ediv_one]
  split <;> omega
theorem slicePart_ {v : Value} {o : Option Int} {Q : Option Int → Shared → Prop} (p : IsPart v o) (h : Q o s) : wpAny (model prog w) A (Builtin.Slice.slicePartIndex v) Q E s := by
  cases p with
  | none => exact slicePart_none h
  | int i t => exact slicePart_int h
theorem sliceApplied_gen {sl : Addr} {vl vu : Value} {lo hi : Option Int} {n : Nat} {Q : Int × Int × Nat → Shared → Prop} (hs : s.heap.IsSliceOf sl vl vu .none) (pl : IsPart vl lo) (pu : IsPart vu hi)
    (h : Q (((sIx n 0 lo : Nat) : Int), 1, sIx n n hi - sIx n 0 lo) s) : wpAny (model prog w) A (Builtin.Slice.sliceApplied (.ref sl) (pure (n : Int))) Q E s := by
  obtain ⟨os, hos, hcs, hds⟩ := id hs
  unfold Builtin.Slice.sliceApplied Builtin.Slice.sliceFields
  refine wpAny_bind (wpAny_bind (wpAny_field hos hds (x := vl) rfl (wpAny_bind (wpAny_field hos hds (x := vu) rfl (wpAny_bind (wpAny_field hos hds (x := .none) rfl (wpAny_pure ?_)))))))
  refine wpAny_bind (slicePart_none ?_)
  show wpAny _ _ (if ((1 : Int) == 0) = true then _ else _) _ _ s
  rw [if_neg (by decide)]
  refine wpAny_bind (slicePart_ pl (wpAny_bind (slicePart_ pu (wpAny_bind (wpAny_pure ?_)))))
  show wpAny _ _ (match Builtin.Slice.sliceAdjust lo hi 1 (n : Int) with | (lo, hi) => pure (lo, (1 : Int), Builtin.Slice.slicePlaces lo hi 1)) _ _ s
  rw [adjust_gen lo hi n]
  show wpAny _ _ (pure (((sIx n 0 lo : Nat) : Int), (1 : Int), Builtin.Slice.slicePlaces ((sIx n 0 lo : Nat) : Int) ((sIx n n hi : Nat) : Int) 1)) _ _ s
  rw [places_gen]
  exact wpAny_pure h
theorem pick_gen (xs : Array Value) (i k : Nat) : ((List.range k).filterMap fun (m : Nat) => xs[((i : Int) + (m : Int) * 1).toNat]?).toArray = ((xs.toList.drop i).take k).toArray := by
  have e : (fun (m : Nat) => xs[((i : Int) + (m : Int) * 1).toNat]?) = fun m => xs[i + m]? := by
    funext m
    have : ((i : Int) + (m : Int) * 1).toNat = i + m := by omega
    rw [this]
  rw [e]
  have := pick_run xs i k
  rw [List.filterMap_map] at this
  have e2 : ((fun x => xs[x]?) ∘ fun x => i + x) = fun m => xs[i + m]? := rfl
  rw [e2] at this
  rw [this]

theorem getItem_tuple_cut {t sl : Addr} {items : Array Value} {vl vu : Value} {lo hi : Option Int} {Q : Value → Shared → Prop} (ht : IsTup s.heap t items) (hs : s.heap.IsSliceOf sl vl vu .none) (pl : IsPart vl lo) (pu : IsPart vu hi)
    (hw : ¬ (sIx items.size 0 lo = 0 ∧ sIx items.size items.size hi = items.size))
    (h : Q (.ref s.heap.objs.size) { s with heap := s.heap.push { cls := .type "tuple", data := .seq ((items.toList.drop (sIx items.size 0 lo)).take (sIx items.size items.size hi - sIx items.size 0 lo)).toArray } })
    (hsz : items.size ≤ sizeLine) : wpAny (model prog w) A (getItem (.ref t) (.ref sl)) Q E s := by
  have htake : sizeOk (.seq ((items.toList.drop (sIx items.size 0 lo)).take (sIx items.size items.size hi - sIx items.size 0 lo)).toArray) := by
    show ((items.toList.drop (sIx items.size 0 lo)).take (sIx items.size items.size hi - sIx items.size 0 lo)).toArray.size ≤ sizeLine
    rw [List.size_toArray, List.length_take, List.length_drop, Array.length_toList]
    omega
  have hj : sIx items.size items.size hi ≤ items.size := sIx_le _ _ (Nat.le_refl _) hi
  obtain ⟨os, hos, hcs, hds⟩ := id hs
  have hTs : s.TypeIs (.ref sl) "slice" := ⟨os, hos, hcs⟩
  unfold getItem
  try with_reducible refine wpAny_holding ?_
  first | refine wpAny_bind (wpAny_pure ?_) | skip
  refine wpAny_bind (wpAny_sequenceKey ht.typeIs (by decide) ?_)
  refine wpAny_bind (wpAny_callSpecial?_slot (name := Str.ofString "__getitem__") ht.typeIs PyProof.Rows.slot_tuple_getitem
    (wpAny_call_entry PyProof.Rows.slot_tuple_getitem ht.typeIs entry_tuple_getitem ?_ (args_tuple_getitem _ _)))
  show wpAny _ _ (Builtin.Tuple.tupleItemsOf (.ref t) >>= _) _ _ s
  refine wpAny_bind (tupleItemsOf_ ht ?_)
  refine wpAny_bind (wpAny_typeOf hTs ?_)
  rw [if_pos (by decide)]
  refine wpAny_bind (sliceApplied_gen hs pl pu ?_)
  have hno : ¬ ((((sIx items.size 0 lo : Nat) : Int) == 0 && (1 : Int) == 1 && (sIx items.size items.size hi - sIx items.size 0 lo) == items.size) = true) := by
    intro q
    rw [Bool.and_eq_true, Bool.and_eq_true] at q
    have q1 : ((sIx items.size 0 lo : Nat) : Int) = 0 := eq_of_beq q.1.1
    have q2 : sIx items.size items.size hi - sIx items.size 0 lo = items.size := eq_of_beq q.2
    exact hw ⟨by omega, by omega⟩
  show wpAny _ _ (if (((sIx items.size 0 lo : Nat) : Int) == 0 && (1 : Int) == 1 && (sIx items.size items.size hi - sIx items.size 0 lo) == items.size) = true then _ else _) _ _ s
  rw [if_neg hno, pick_gen]
  first
    | exact wpAny_bind (m := Builtin.Tuple.tupleExact _) (wpAny_newObj_type (wpAny_pure ⟨_, rfl, wpAny_pure h⟩) htake)
    | exact wpAny_bind (m := Builtin.Tuple.tupleExact _) (wpAny_newObj_type (wpAny_bind (wpAny_pure (wpAny_pure ⟨_, rfl, wpAny_pure h⟩))) htake)
    | exact wpAny_bind (wpAny_bind (m := Builtin.Tuple.tupleExact _) (wpAny_newObj_type (wpAny_pure (wpAny_pure ⟨_, rfl, wpAny_pure h⟩)) htake))
    | exact wpAny_bind (wpAny_bind (m := Builtin.Tuple.tupleExact _) (wpAny_newObj_type (wpAny_pure ⟨_, rfl, wpAny_pure h⟩) htake))
end
end HT

namespace L2
open PySem PySem.Spec PyProof.Rows

/-! ### the parts of a slice -/
abbrev TO := St → Hp → (Option Int → Hp → Prop) → Prop
/-- a slice's part (left out, or an int) -/
def PO (X : Cx) (e : Option Expr) (t : TO) : Prop :=
  ∀ (pins : List (Addr × Obj)) (s : Shared) (σ : St) (H : Hp) (Q : Option Int → Hp → Prop), Inv X pins σ H s → t σ H Q →
    wpAny (model X.prog X.w) X.A (evalPart e X.env) (fun u s' => ∃ o H', Inv X pins σ H' s' ∧ IsPart u o ∧ Q o H') X.xe s
def tNoPart : TO := fun _ H Q => Q none H
def tPart (t : TE) : TO := fun σ H Q => t σ H fun x H1 => ∃ i, x = .int i ∧ Q (some i) H1

theorem intsAre_of {ns : List Int} : ∀ {us : List Value}, Vals (ns.map V.int) us → IntsAre us ns := by
  induction ns with
  | nil => intro us r; rw [List.map_nil] at r; cases r; exact .nil
  | cons n ns ih =>
    intro us r
    rw [List.map_cons] at r
    cases r with
    | cons r1 r2 =>
      obtain ⟨t, e⟩ := r1
      subst e
      exact .cons n t (ih r2)

section
variable {X : Cx} {e : Expr} {te : TE} {lo hi : Option Expr} {tl th : TO} {pos p2 : Pos}

theorem po_none : PO X none tNoPart := by
  intro pins s σ H Q I h
  rw [evalPart_none]
  exact wpAny_pure ⟨none, H, I, .none, h⟩
theorem po_some (h : PE X e te) : PO X (some e) (tPart te) := by
  intro pins s σ H Q I hw
  rw [evalPart_some]
  refine thn (h pins s σ H _ I hw) fun u s1 ⟨x, H1, I1, r1, q1⟩ => ?_
  obtain ⟨i, rfl, q⟩ := q1
  obtain ⟨t, rfl⟩ := r1
  exact ⟨some i, H1, I1, .int i t, q⟩

/-- what a slice of a value is, by values: the slice object stands at sl -/
def SlR (X : Cx) (r : V → Option Int → Option Int → Hp → VK → Prop) : Prop :=
  ∀ (pins : List (Addr × Obj)) (s : Shared) (σ : St) (H : Hp) (x : V) (v vl vu : Value) (lo hi : Option Int) (sl : Addr) (Q : VK), Inv X pins σ H s → RelV x v → s.heap.IsSliceOf sl vl vu .none → IsPart vl lo → IsPart vu hi → r x lo hi H Q →
    ∃ T id, typeLookup (.type T) "__getitem__" = pure (some (.builtin id)) ∧ s.TypeIs v T ∧ wpAny (model X.prog X.w) X.A (getItem v (.ref sl)) (EP X pins σ Q) X.xe s
theorem SlR.or {r r' : V → Option Int → Option Int → Hp → VK → Prop} (h : SlR X r) (h' : SlR X r') : SlR X (fun x lo hi H Q => r x lo hi H Q ∨ r' x lo hi H Q) := by
  intro pins s σ H x v vl vu lo hi sl Q I rx hs pl pu q
  rcases q with q | q
  · exact h pins s σ H x v vl vu lo hi sl Q I rx hs pl pu q
  · exact h' pins s σ H x v vl vu lo hi sl Q I rx hs pl pu q
def tSl (r : V → Option Int → Option Int → Hp → VK → Prop) (te : TE) (tl th : TO) : TE := fun σ H Q => te σ H fun x H1 => tl σ H1 fun l H2 => th σ H2 fun u H3 => r x l u H3 Q
/-- a[lo:hi], any a -/
theorem pe_slice {r : V → Option Int → Option Int → Hp → VK → Prop} (hr : SlR X r) (he : PE X e te) (hl : PO X lo tl) (hu : PO X hi th) : PE X (.Subscript e (.Slice lo hi none p2) pos) (tSl r te tl th) := by
  intro pins s σ H Q I h
  refine Subscript_ (thn (he pins s σ H _ I h) fun v s1 ⟨x, H1, I1, r1, q1⟩ => ?_)
  refine wpAny_Slice (thn (hl pins s1 σ H1 _ I1 q1) fun vl s2 ⟨l, H2, I2, pl, q2⟩ => thn (hu pins s2 σ H2 _ I2 q2) fun vu s3 ⟨u, H3, I3, pu, q3⟩ => ?_)
  rw [evalPart_none]
  refine wpAny_pure ?_
  have I4 : Inv X pins σ H3 { s3 with heap := s3.heap.push { cls := .type "slice", data := .fields #[vl, vu, .none] } } := I3.kept (t' := s3.toks) fun b ob q => Heap.get?_push_of_some _ q
  obtain ⟨T, id, hT, ht, hg⟩ := hr pins { s3 with heap := s3.heap.push { cls := .type "slice", data := .fields #[vl, vu, .none] } } σ H3 x v vl vu l u s3.heap.objs.size Q I4 r1 (Heap.IsSliceOf.new ..) pl pu q3
  show wpAny (model X.prog X.w) X.A (subscriptTail e (.Slice lo hi none p2) v (.ref s3.heap.objs.size)) (EP X pins σ Q) X.xe { s3 with heap := s3.heap.push { cls := .type "slice", data := .fields #[vl, vu, .none] } }
  exact tail_any (ops := [.ref s3.heap.objs.size, v]) ht hT hg (by with_unfolding_all rfl)

/-- the items of xs[lo:hi] -/
def cutV (xs : List V) (lo hi : Option Int) : List V := (xs.drop (HT.sIx xs.length 0 lo)).take (HT.sIx xs.length xs.length hi - HT.sIx xs.length 0 lo)
theorem cutV_length (xs : List V) (lo hi : Option Int) : (cutV xs lo hi).length ≤ xs.length := by
  unfold cutV
  rw [List.length_take, List.length_drop]
  omega
/-- t[lo:hi], not the whole of it (the whole would be t itself) -/
def rSlT (K : PySem.W.Frag) : V → Option Int → Option Int → Hp → VK → Prop := fun x lo hi H Q => ∃ a xs, x = .ref a ∧ SqT K H a xs ∧
  ¬ (HT.sIx xs.length 0 lo = 0 ∧ HT.sIx xs.length xs.length hi = xs.length) ∧ ∀ p, H p = none → Q (.ref p) (upd H p (.tup (cutV xs lo hi)))
theorem sl_tup : SlR X (rSlT X.K) := by
  intro pins s σ H x v vl vu lo hi sl Q I rx hs pl pu h
  obtain ⟨a, xs, rfl, hx, hw, q⟩ := h
  cases rx
  obtain ⟨its, r, ht, hz⟩ := I.tuple hx
  have hlen : its.toArray.size = xs.length := by rw [List.size_toArray]; exact r.length.symm
  refine ⟨"tuple", _, PyProof.Rows.slot_tuple_getitem.lookup, ht.typeIs, ?_⟩
  refine HT.getItem_tuple_cut ht hs pl pu (by rw [hlen]; exact hw) ?_ (by rw [hlen]; exact hz)
  rw [hlen]
  refine ⟨.ref s.heap.objs.size, _, I.laid (t' := s.toks) (o := .tup (cutV xs lo hi)) (fun b ob q => Heap.get?_push_of_some _ q) (Nat.le_refl _) ?_, rfl, q _ (I.hok.fresh (Nat.le_refl _))⟩
  exact ⟨Nat.le_trans (cutV_length xs lo hi) hz, _, (r.drop (HT.sIx xs.length 0 lo)).take (HT.sIx xs.length xs.length hi - HT.sIx xs.length 0 lo), IsTup.new _ _⟩

/-! ### t < u, t + u -/
def rLtT (K : PySem.W.Frag) : R2 := fun x y H Q => ∃ a b ns ms, x = .ref a ∧ y = .ref b ∧ SqT K H a (ns.map V.int) ∧ SqT K H b (ms.map V.int) ∧ Q (.bl (HT.lexLt ns ms)) H
theorem op_ltT (hu : X.A.units < cLine) : OpR X (compareOp .Lt) (rLtT X.K) := by
  intro pins s σ H x y v u Q I rx ry h
  obtain ⟨a, b, ns, ms, rfl, rfl, ha, hb, q⟩ := h
  cases rx
  cases ry
  obtain ⟨its, r1, p1, _⟩ := I.tuple ha
  obtain ⟨its2, r2, p2, _⟩ := I.tuple hb
  have i1 : IntsAre its.toArray.toList ns := intsAre_of r1
  have i2 : IntsAre its2.toArray.toList ms := intsAre_of r2
  exact HT.lt_tupInts p1 p2 i1 i2 hu ⟨.bl (HT.lexLt ns ms), H, I, rfl, q⟩
/-- t + u, t not empty: u empty gives t itself -/
def rCatT (K : PySem.W.Frag) : R2 := fun x y H Q => ∃ a b xs ys, x = .ref a ∧ y = .ref b ∧ SqT K H a xs ∧ SqT K H b ys ∧ xs ≠ [] ∧ xs.length + ys.length ≤ sizeLine ∧
  (ys = [] → Q (.ref a) H) ∧ (ys ≠ [] → ∀ p, H p = none → Q (.ref p) (upd H p (.tup (xs ++ ys))))
theorem Vals.nil_iff {xs : List V} {us : List Value} (r : Vals xs us) : us = [] ↔ xs = [] := by
  cases r with
  | nil => simp
  | cons _ _ => simp
theorem op_catT : OpR X (binaryOp .Add) (rCatT X.K) := by
  intro pins s σ H x y v u Q I rx ry h
  obtain ⟨a, b, xs, ys, rfl, rfl, ha, hb, hx, hz, q1, q2⟩ := h
  cases rx
  cases ry
  obtain ⟨its, r1, p1, _⟩ := I.tuple ha
  obtain ⟨its2, r2, p2, _⟩ := I.tuple hb
  refine HT.cat_tup p1 p2 (fun z => hx (r1.nil_iff.mp z)) (fun z => ⟨.ref a, H, I, rfl, q1 (r2.nil_iff.mp z)⟩) (fun z => ?_) (by rw [← r1.length, ← r2.length]; exact hz)
  refine ⟨.ref s.heap.objs.size, _, I.laid (t' := s.toks) (o := .tup (xs ++ ys)) (fun b ob q => Heap.get?_push_of_some _ q) (Nat.le_refl _) ?_, rfl, q2 (fun w => z (r2.nil_iff.mpr w)) _ (I.hok.fresh (Nat.le_refl _))⟩
  exact ⟨by rw [List.length_append]; exact hz, _, r1.append r2, IsTup.new _ _⟩
/-- tuple(t) -/
theorem call_tupleT : CallR X (.type "tuple") (fun xs H Q => ∃ a ys, xs = [.ref a] ∧ SqT X.K H a ys ∧ Q (.ref a) H) := by
  intro pins s σ H xs us Q I r h
  obtain ⟨a, ys, rfl, ha, q⟩ := h
  obtain ⟨u, rfl, ru⟩ := vals1 r
  cases ru
  obtain ⟨its, _, p1, _⟩ := I.tuple ha
  exact call_tuple_same (items := its.toArray) p1 ⟨.ref a, H, I, rfl, q⟩
end
end L2

namespace L2
open PySem PySem.Spec PyProof.Rows

/-! ### places -/
/-- the place that an index of any sign means -/
def ixN (n : Nat) (i : Int) : Option Nat := if 0 ≤ i then (if i < n then some i.toNat else none) else if -(n : Int) ≤ i then some (i + n).toNat else none
def atI {α : Type} (xs : List α) (i : Int) : Option α := (ixN xs.length i).bind fun j => xs[j]?
theorem ixN_seq {n : Nat} {i : Int} {j : Nat} (h : ixN n i = some j) : seqIndex? i n = some j ∧ j < n ∧ -(n : Int) ≤ i ∧ i < n := by
  unfold ixN at h
  by_cases h0 : 0 ≤ i
  · rw [if_pos h0] at h
    by_cases h1 : i < n
    · rw [if_pos h1] at h
      have e : i.toNat = j := Option.some.inj h
      exact ⟨by rw [seqIndex_of h0 h1, e], by omega, by omega, h1⟩
    · rw [if_neg h1] at h; cases h
  · rw [if_neg h0] at h
    by_cases h1 : -(n : Int) ≤ i
    · rw [if_pos h1] at h
      have e : (i + n).toNat = j := Option.some.inj h
      exact ⟨by rw [seqIndex_neg (by omega) h1, e], by omega, h1, by omega⟩
    · rw [if_neg h1] at h; cases h
theorem atI_get {α : Type} {xs : List α} {i : Int} {v : α} (h : atI xs i = some v) : ∃ j, seqIndex? i xs.length = some j ∧ xs[j]? = some v ∧ j < xs.length ∧ -(xs.length : Int) ≤ i ∧ i < xs.length := by
  unfold atI at h
  cases e : ixN xs.length i with
  | none => rw [e] at h; cases h
  | some j =>
    rw [e] at h
    obtain ⟨h1, h2, h3, h4⟩ := ixN_seq e
    exact ⟨j, h1, h, h2, h3, h4⟩
theorem atI_nat {α : Type} {xs : List α} {j : Nat} {v : α} (h : xs[j]? = some v) : atI xs (j : Int) = some v := by
  have hj : j < xs.length := (List.getElem?_eq_some_iff.mp h).1
  have e : ixN xs.length (j : Int) = some j := by
    unfold ixN
    rw [if_pos (by omega), if_pos (by omega)]; simp
  unfold atI; rw [e]; exact h
theorem atI_last {α : Type} (xs : List α) (v : α) : atI (xs ++ [v]) (-1) = some v := by
  have hl : (xs ++ [v]).length = xs.length + 1 := by simp
  have e : ixN (xs ++ [v]).length (-1) = some xs.length := by
    unfold ixN
    rw [hl, if_neg (by decide), if_pos (by omega)]
    congr 1
    omega
  unfold atI
  rw [e]
  show (xs ++ [v])[xs.length]? = some v
  simp

/-! ### what may be subscripted -/
/-- what stands as an index of a plain subscript -/
def PlainIx (b : Expr) : Prop := ∀ o i, subscripted b false o i = operate [o, i] (getItem o i)
/-- a subscript by values -/
def IxR (X : Cx) (r : R2) : Prop :=
  ∀ (value slice : Expr) (pins : List (Addr × Obj)) (s : Shared) (σ : St) (H : Hp) (x y : V) (v u : Value) (Q : VK), Inv X pins σ H s → RelV x v → RelV y u → r x y H Q →
    subscripted slice false v u = operate [v, u] (getItem v u) → wpAny (model X.prog X.w) X.A (subscriptTail value slice v u) (EP X pins σ Q) X.xe s
/-- a call of a builtin's method by values: the receiver, the arguments -/
def MtR (X : Cx) (id : String) (r : V → List V → Hp → VK → Prop) : Prop :=
  ∀ (pins : List (Addr × Obj)) (s : Shared) (σ : St) (H : Hp) (x : V) (xs : List V) (v : Value) (us : List Value) (Q : VK), Inv X pins σ H s → RelV x v → Vals xs us → r x xs H Q →
    wpAny (model X.prog X.w) X.A (call (.builtin id) (v :: us)) (EP X pins σ Q) X.xe s
section
variable {X : Cx} {a b : Expr} {ta tb : TE} {pos : Pos}
theorem IxR.or {r r' : R2} (h : IxR X r) (h' : IxR X r') : IxR X (fun x y H Q => r x y H Q ∨ r' x y H Q) := by
  intro value slice pins s σ H x y v u Q I rx ry q hs
  rcases q with q | q
  · exact h value slice pins s σ H x y v u Q I rx ry q hs
  · exact h' value slice pins s σ H x y v u Q I rx ry q hs
theorem MtR.or {id : String} {r r' : V → List V → Hp → VK → Prop} (h : MtR X id r) (h' : MtR X id r') : MtR X id (fun x xs H Q => r x xs H Q ∨ r' x xs H Q) := by
  intro pins s σ H x xs v us Q I rx rs q
  rcases q with q | q
  · exact h pins s σ H x xs v us Q I rx rs q
  · exact h' pins s σ H x xs v us Q I rx rs q
/-- a[b] -/
theorem pe_ix {r : R2} (hr : IxR X r) (ha : PE X a ta) (hb : PE X b tb) (hs : PlainIx b) : PE X (.Subscript a b pos) (tOp r ta tb) := by
  intro pins s σ H Q I h
  exact Subscript_ (binT ha hb I h fun v u s2 x y H2 I2 rx ry q => hr a b pins s2 σ H2 x y v u Q I2 rx ry q (hs _ _))

def rIxL (K : PySem.W.Frag) : R2 := fun x y H Q => ∃ p xs i v, x = .ref p ∧ y = .int i ∧ SqL K H p xs ∧ atI xs i = some v ∧ Q v H
def rIxT (K : PySem.W.Frag) : R2 := fun x y H Q => ∃ p xs i v, x = .ref p ∧ y = .int i ∧ SqT K H p xs ∧ atI xs i = some v ∧ Q v H
def rIxS : R2 := fun x y H Q => ∃ z i c, x = .str z ∧ y = .int i ∧ z.length ≤ sizeLine ∧ atI z.cps.toList i = some c ∧ Q (.str ⟨#[c]⟩) H
theorem ix_list : IxR X (rIxL X.K) := by
  intro value slice pins s σ H x y v u Q I rx ry h hs
  obtain ⟨p, xs, i, z, rfl, rfl, hq, he, q⟩ := h
  cases rx
  obtain ⟨t, rfl⟩ := ry
  obtain ⟨its, r, pl, hz⟩ := I.list hq
  obtain ⟨j, h1, h2, h3, h4, h5⟩ := atI_get he
  obtain ⟨w, ew, rw'⟩ := r.get h2
  have hl := r.length
  have hn := line63
  have fin : EP X pins σ Q w s := ⟨z, H, I, rw', q⟩
  by_cases h0 : 0 ≤ i
  · have hj : i.toNat = j := by
      rw [seqIndex_of h0 h5] at h1
      exact Option.some.inj h1
    exact item_listR pl.isList h0 (by omega) (by rw [hj]; simpa using ew) fin hs
  · have hj : (i + (its.toArray.size : Int)).toNat = j := by
      rw [seqIndex_neg (by omega) h4] at h1
      rw [List.size_toArray, ← hl]
      exact Option.some.inj h1
    exact subscriptTail_builtinR (x := w) pl.isList.typeIs slot_list_getitem.lookup
      (wpAny_getItem_list_neg (Q := fun r s' => r = w ∧ EP X pins σ Q r s') pl.isList (by omega) (by rw [List.size_toArray] <;> omega) (by omega) (by rw [hj]; simpa using ew) ⟨rfl, fin⟩) hs
theorem ix_tup : IxR X (rIxT X.K) := by
  intro value slice pins s σ H x y v u Q I rx ry h hs
  obtain ⟨p, xs, i, z, rfl, rfl, hq, he, q⟩ := h
  cases rx
  obtain ⟨t, rfl⟩ := ry
  obtain ⟨its, r, pl, hz⟩ := I.tuple hq
  obtain ⟨j, h1, h2, h3, h4, h5⟩ := atI_get he
  obtain ⟨w, ew, rw'⟩ := r.get h2
  have hl := r.length
  have hn := line63
  have fin : EP X pins σ Q w s := ⟨z, H, I, rw', q⟩
  exact subscriptTail_builtinR (x := w) pl.typeIs slot_tuple_getitem.lookup
    (getItem_tuple (j := j) (Q := fun r s' => r = w ∧ EP X pins σ Q r s') pl (by omega) (by omega) (by rw [List.size_toArray, ← hl]; exact h1) (by simpa using ew) ⟨rfl, fin⟩) hs
theorem ix_str : IxR X rIxS := by
  intro value slice pins s σ H x y v u Q I rx ry h hs
  obtain ⟨z, i, c, rfl, rfl, hz, he, q⟩ := h
  obtain ⟨t, rfl⟩ := rx
  obtain ⟨t', rfl⟩ := ry
  obtain ⟨j, h1, h2, h3, h4, h5⟩ := atI_get he
  have hl : z.cps.toList.length = z.length := by simp [Str.length]
  rw [hl] at h1 h4 h5
  have hn := line63
  exact tail_any (typeIs_str s z t) slot_str_getitem.lookup (getItem_str (c := c) (by
    have e1 : decide (i < -(2 ^ 63 : Int)) = false := decide_eq_false (by omega)
    have e2 : decide (i ≥ 2 ^ 63) = false := decide_eq_false (by omega)
    rw [e1, e2, Bool.or_false]) (by rw [h1]; simpa using h2) ⟨.str ⟨#[c]⟩, H, I.tok _, ⟨_, rfl⟩, q⟩) hs
/-- list, tuple or str -/
def rIx (K : PySem.W.Frag) : R2 := fun x y H Q => rIxL K x y H Q ∨ rIxT K x y H Q ∨ rIxS x y H Q
theorem ix_seq : IxR X (rIx X.K) := ix_list.or (ix_tup.or ix_str)

/-! ### xs[i] = v, any sign -/
/-- the list's object behind a store -/
theorem mapSeq_set (its : List Value) (n j : Nat) (u : Value) : Obj.mapSeq (·.setIfInBounds j u) { cls := .type "list", data := .seq its.toArray n } = { cls := .type "list", data := .seq (its.set j u).toArray n } := by
  simp [Obj.mapSeq]
theorem Inv.lst {pins : List (Addr × Obj)} {σ : St} {H : Hp} {s : Shared} {p : Addr} {xs : List V} (I : Inv X pins σ H s) (h : H p = some (.lst xs)) :
    ∃ (its : List Value) (n : Nat), Vals xs its ∧ s.heap.get? p = some { cls := .type "list", data := .seq its.toArray n } ∧ xs.length ≤ sizeLine := by
  obtain ⟨z, its, n, r, e⟩ := I.hok p _ h
  exact ⟨its, n, r, e, z⟩
/-- the list at p is written by an update of its object -/
theorem Inv.lstUpd {pins : List (Addr × Obj)} {σ : St} {H : Hp} {s : Shared} {p : Addr} {xs ys : List V} {its its' : List Value} {n n' : Nat} {f : Obj → Obj} (I : Inv X pins σ H s) (h : H p = some (.lst xs))
    (ho : s.heap.get? p = some { cls := .type "list", data := .seq its.toArray n }) (hf : f { cls := .type "list", data := .seq its.toArray n } = { cls := .type "list", data := .seq its'.toArray n' }) (r : Vals ys its') (hz : ys.length ≤ sizeLine) (t : Nat) :
    Inv X pins σ (upd H p (.lst ys)) { s with heap := s.heap.update p f, toks := t } := by
  have e : (s.heap.update p f).get? p = some { cls := .type "list", data := .seq its'.toArray n' } := by
    rw [Heap.get?_update_self f ho (by rw [hf] <;> rfl), hf]
  refine I.write (x := p) (e := p) (by rw [h]; trivial) (.inl rfl) (fun b u hb q => (Heap.get?_update_other _ _ (Ne.symm hb)).trans q) ⟨_, e⟩ ?_
  exact ⟨hz, its', n', r, e⟩
def rSetL : V → V → V → Hp → (Hp → Prop) → Prop := fun o i v H Q => ∃ p xs k j, o = .ref p ∧ i = .int k ∧ H p = some (.lst xs) ∧ ixN xs.length k = some j ∧ Q (upd H p (.lst (xs.set j v)))
theorem set_list : PSet X rSetL := by
  intro pins s σ H o i v ov iv u Q I ro ri rv h
  obtain ⟨p, xs, k, j, rfl, rfl, hp, hj, q⟩ := h
  cases ro
  obtain ⟨t, rfl⟩ := ri
  obtain ⟨its, n, r, ho, hz⟩ := I.lst hp
  obtain ⟨h1, h2, h3, h4⟩ := ixN_seq hj
  have hl := r.length
  have hn := line63
  have I' : Inv X pins σ (upd H p (.lst (xs.set j v))) { s with heap := s.heap.update p (Obj.mapSeq (·.setIfInBounds j u)) } :=
    I.lstUpd hp ho (mapSeq_set its n j u) (r.set rv j) (by rw [List.length_set]; exact hz) s.toks
  by_cases h0 : 0 ≤ k
  · have hk : k.toNat = j := by
      rw [seqIndex_of h0 h4] at h1
      exact Option.some.inj h1
    exact PySem.W.ki_setAt ho h0 (by omega) (by rw [List.size_toArray, ← hl]; exact h4) (by rw [hk]; exact ⟨_, I', q⟩)
  · have hk : (k + (its.toArray.size : Int)).toNat = j := by
      rw [seqIndex_neg (by omega) h3] at h1
      rw [List.size_toArray, ← hl]
      exact Option.some.inj h1
    exact PySem.W.ki_setBack ho (by omega) (by rw [List.size_toArray, ← hl]; exact h3) (by omega) (by rw [hk]; exact ⟨_, I', q⟩)

/-! ### slices -/
theorem slice_bounds (lo hi : Option Int) (n : Nat) : (sliceBounds lo hi none n).1 = ((HT.sIx n 0 lo : Nat) : Int) ∧ (sliceBounds lo hi none n).2.1 = ((HT.sIx n n hi : Nat) : Int) ∧ (sliceBounds lo hi none n).2.2 = 1 := by
  refine ⟨?_, ?_, rfl⟩
  · cases lo with
    | none => simp [sliceBounds, HT.sIx]
    | some i =>
      simp only [sliceBounds, HT.sIx, Option.getD_none, show (1 : Int) > 0 by decide, if_true]
      by_cases h : i < 0
      · simp only [h, if_true] <;> omega
      · simp only [h, if_false] <;> omega
  · cases hi with
    | none => simp [sliceBounds, HT.sIx]
    | some i =>
      simp only [sliceBounds, HT.sIx, Option.getD_none, show (1 : Int) > 0 by decide, if_true]
      by_cases h : i < 0
      · simp only [h, if_true] <;> omega
      · simp only [h, if_false] <;> omega
theorem slicePick_cut (its : List Value) (lo hi : Option Int) : slicePick its.toArray lo hi none = ((its.drop (HT.sIx its.length 0 lo)).take (HT.sIx its.length its.length hi - HT.sIx its.length 0 lo)).toArray := by
  obtain ⟨h1, h2, h3⟩ := slice_bounds lo hi its.toArray.size
  unfold slicePick
  rw [h1, h2, h3]
  simp only [sliceRange_one, pick_run, List.size_toArray] <;> rfl
/-- xs[lo:hi] of a list: a new list -/
def rSlL (K : PySem.W.Frag) : V → Option Int → Option Int → Hp → VK → Prop := fun x lo hi H Q => ∃ a xs, x = .ref a ∧ SqL K H a xs ∧ ∀ p, H p = none → Q (.ref p) (upd H p (.lst (cutV xs lo hi)))
theorem sl_list : SlR X (rSlL X.K) := by
  intro pins s σ H x v vl vu lo hi sl Q I rx hs pl pu h
  obtain ⟨a, xs, rfl, hx, q⟩ := h
  cases rx
  obtain ⟨its, r, ht, hz⟩ := I.list hx
  have hlen := r.length
  refine ⟨"list", _, slot_list_getitem.lookup, ht.isList.typeIs, ?_⟩
  refine wpAny_getItem_list_slice ht.isList hs pl pu .none (by simp) ?_ (by rw [List.size_toArray] <;> omega)
  rw [slicePick_cut, ← hlen]
  refine ⟨.ref s.heap.objs.size, _, I.laid (t' := s.toks) (o := .lst (cutV xs lo hi)) (fun b ob q => Heap.get?_push_of_some _ q) (Nat.le_refl _) ?_, rfl, q _ (I.hok.fresh (Nat.le_refl _))⟩
  exact ⟨Nat.le_trans (cutV_length xs lo hi) hz, _, 0, (r.drop (HT.sIx xs.length 0 lo)).take (HT.sIx xs.length xs.length hi - HT.sIx xs.length 0 lo), Heap.get?_push_size _ rfl⟩

/-! ### in, not in: flat items -/
def flatV : V → Bool
  | .non => true
  | .bl _ => true
  | .int _ => true
  | .str _ => true
  | _ => false
/-- == of flat values -/
def eqV : V → V → Bool
  | .non, .non => true
  | .bl a, .bl b => a == b
  | .bl a, .int b => (if a then 1 else 0) == b
  | .int a, .bl b => a == (if b then 1 else 0)
  | .int a, .int b => a == b
  | .str a, .str b => a == b
  | _, _ => false
theorem eqAt_V {A : Around} {s : Shared} {y x : V} {u v : Value} (ry : RelV y u) (rx : RelV x v) (fy : flatV y = true) (fx : flatV x = true) : SeqAt.EqAt A s u v (eqV y x) := by
  cases y with
  | non =>
    cases ry
    cases x with
    | non => cases rx; exact SeqAt.EqAt.same _
    | bl b => cases rx; exact SeqAt.EqAt.none_bool b
    | int b => obtain ⟨t, rfl⟩ := rx; exact SeqAt.EqAt.none_int b t
    | str b => obtain ⟨t, rfl⟩ := rx; exact SeqAt.EqAt.none_str b t
    | _ => exact absurd (show false = true from fx) Bool.false_ne_true
  | bl a =>
    cases ry
    cases x with
    | non => cases rx; exact SeqAt.EqAt.bool_none a
    | bl b => cases rx; exact SeqAt.EqAt.bool_bool a b
    | int b => obtain ⟨t, rfl⟩ := rx; exact SeqAt.EqAt.bool_int a b t
    | str b => obtain ⟨t, rfl⟩ := rx; exact SeqAt.EqAt.bool_str a b t
    | _ => exact absurd (show false = true from fx) Bool.false_ne_true
  | int a =>
    obtain ⟨t', rfl⟩ := ry
    cases x with
    | non => cases rx; exact SeqAt.EqAt.int_none a t'
    | bl b => cases rx; exact SeqAt.EqAt.int_bool a t' b
    | int b => obtain ⟨t, rfl⟩ := rx; exact SeqAt.EqAt.int_int a t' b t
    | str b => obtain ⟨t, rfl⟩ := rx; exact SeqAt.EqAt.int_str a t' b t
    | _ => exact absurd (show false = true from fx) Bool.false_ne_true
  | str a =>
    obtain ⟨t', rfl⟩ := ry
    cases x with
    | non => cases rx; exact SeqAt.EqAt.str_none a t'
    | bl b => cases rx; exact SeqAt.EqAt.str_bool a t' b
    | int b => obtain ⟨t, rfl⟩ := rx; exact SeqAt.EqAt.str_int a t' b t
    | str b => obtain ⟨t, rfl⟩ := rx; exact SeqAt.EqAt.str_str a t' b t
    | _ => exact absurd (show false = true from fx) Bool.false_ne_true
  | _ => exact absurd (show false = true from fy) Bool.false_ne_true
/-- the items' answers, read off the values (a value's own answer does not lean on its token) -/
def eqU (x : V) (u : Value) : Bool := match u with
  | .none => eqV .non x
  | .bool b => eqV (.bl b) x
  | .int i _ => eqV (.int i) x
  | .str z _ => eqV (.str z) x
  | _ => false
theorem eqU_of {x y : V} {u : Value} (r : RelV y u) (f : flatV y = true) : eqU x u = eqV y x := by
  cases y with
  | non => cases r; rfl
  | bl b => cases r; rfl
  | int i => obtain ⟨t, rfl⟩ := r; rfl
  | str z => obtain ⟨t, rfl⟩ := r; rfl
  | _ => exact absurd (show false = true from f) Bool.false_ne_true
theorem any_eqU {x : V} : ∀ {xs : List V} {us : List Value}, Vals xs us → xs.all flatV = true → us.any (eqU x) = xs.any fun y => eqV y x
  | _, _, .nil, _ => rfl
  | y :: xs, u :: us, .cons r t, f => by
    rw [List.all_cons, Bool.and_eq_true] at f
    rw [List.any_cons, List.any_cons, eqU_of r f.1, any_eqU t f.2]
theorem mem_eqAt {A : Around} {s : Shared} {x : V} {v : Value} (rx : RelV x v) (fx : flatV x = true) : ∀ {xs : List V} {us : List Value}, Vals xs us → xs.all flatV = true → ∀ u ∈ us, SeqAt.EqAt A s u v (eqU x u)
  | _, _, .nil, _ => fun u hu => by cases hu
  | y :: xs, u :: us, .cons r t, f => fun u' hu => by
    rw [List.all_cons, Bool.and_eq_true] at f
    rcases List.mem_cons.mp hu with rfl | hu
    · rw [eqU_of r f.1]; exact eqAt_V r rx f.1 fx
    · exact mem_eqAt rx fx t f.2 u' hu
def inV (x : V) (xs : List V) : Bool := xs.any fun y => eqV y x
/-- x in a list or tuple of flat items -/
def rIn (K : PySem.W.Frag) (neg : Bool) : R2 := fun x y H Q => ∃ p xs, y = .ref p ∧ (SqL K H p xs ∨ SqT K H p xs) ∧ flatV x = true ∧ xs.all flatV = true ∧ Q (.bl (if neg then !inV x xs else inV x xs)) H
theorem op_in_seq : OpR X (compareOp .In) (rIn X.K false) := by
  intro pins s σ H x y v u Q I rx ry h
  obtain ⟨p, xs, rfl, hq, fx, fs, q⟩ := h
  cases ry
  rcases hq with hq | hq
  · obtain ⟨its, r, pl, hz⟩ := I.list hq
    refine SeqAt.in_listAt (eqU x) pl.isList (fun w hw => mem_eqAt rx fx r fs w (by simpa using hw)) ⟨.bl _, H, I, rfl, ?_⟩
    rw [show its.toArray.any (eqU x) = its.any (eqU x) by simp, any_eqU r fs]
    exact q
  · obtain ⟨its, r, pl, hz⟩ := I.tuple hq
    refine SeqAt.in_tupleAt (eqU x) pl (fun w hw => mem_eqAt rx fx r fs w (by simpa using hw)) ⟨.bl _, H, I, rfl, ?_⟩
    rw [show its.toArray.any (eqU x) = its.any (eqU x) by simp, any_eqU r fs]
    exact q
theorem op_notIn_seq : OpR X (compareOp .NotIn) (rIn X.K true) := by
  intro pins s σ H x y v u Q I rx ry h
  obtain ⟨p, xs, rfl, hq, fx, fs, q⟩ := h
  cases ry
  rcases hq with hq | hq
  · obtain ⟨its, r, pl, hz⟩ := I.list hq
    refine SeqAt.notIn_listAt (eqU x) pl.isList (fun w hw => mem_eqAt rx fx r fs w (by simpa using hw)) ⟨.bl _, H, I, rfl, ?_⟩
    rw [show its.toArray.any (eqU x) = its.any (eqU x) by simp, any_eqU r fs]
    exact q
  · obtain ⟨its, r, pl, hz⟩ := I.tuple hq
    refine SeqAt.notIn_tupleAt (eqU x) pl (fun w hw => mem_eqAt rx fx r fs w (by simpa using hw)) ⟨.bl _, H, I, rfl, ?_⟩
    rw [show its.toArray.any (eqU x) = its.any (eqU x) by simp, any_eqU r fs]
    exact q
theorem op_notIn_str : OpR X (compareOp .NotIn) (fun x y H Q => ∃ i j, x = .str i ∧ y = .str j ∧ Q (.bl (!(!(Builtin.Str.occurrences j i 0 j.length 1).isEmpty))) H) := by
  intro pins s σ H x y v u Q I rx ry h
  obtain ⟨i, j, rfl, rfl, q⟩ := h
  obtain ⟨t, rfl⟩ := rx
  obtain ⟨t', rfl⟩ := ry
  exact notIn_str ⟨.bl _, H, I, rfl, q⟩

/-! ### len, list(x), tuple(x) of any list or tuple that is read -/
theorem call_len_seq : CallR X (.builtin "len") (fun xs H Q => ∃ p ys, xs = [.ref p] ∧ (SqL X.K H p ys ∨ SqT X.K H p ys) ∧ Q (.int ys.length) H) := by
  intro pins s σ H xs us Q I r h
  obtain ⟨p, ys, rfl, hq, q⟩ := h
  obtain ⟨u, rfl, rx⟩ := vals1 r
  cases rx
  have hn := line63
  rcases hq with hq | hq
  · obtain ⟨its, r', pl, hz⟩ := I.list hq
    have hlen := r'.length
    exact Calls.call_len_list pl.isList (by simp only [List.size_toArray] <;> omega) ⟨.int ys.length, H, I.tok _, ⟨s.toks + 1, by rw [List.size_toArray, hlen]⟩, q⟩
  · obtain ⟨its, r', pl, hz⟩ := I.tuple hq
    have hlen := r'.length
    exact len_tuple pl (by simp only [List.size_toArray] <;> omega) ⟨.int ys.length, H, I.tok _, ⟨s.toks + 1, by rw [List.size_toArray, hlen]⟩, q⟩
theorem call_len_str : CallR X (.builtin "len") (fun xs H Q => ∃ z, xs = [.str z] ∧ z.length ≤ sizeLine ∧ Q (.int z.length) H) := by
  intro pins s σ H xs us Q I r h
  obtain ⟨z, rfl, hz, q⟩ := h
  obtain ⟨u, rfl, t, rfl⟩ := vals1 r
  have hn := line63
  exact len_str (by omega) ⟨.int z.length, H, I.tok _, ⟨_, rfl⟩, q⟩
theorem CallR.or {f : Value} {r r' : List V → Hp → VK → Prop} (h : CallR X f r) (h' : CallR X f r') : CallR X f (fun xs H Q => r xs H Q ∨ r' xs H Q) := by
  intro pins s σ H xs us Q I rs q
  rcases q with q | q
  · exact h pins s σ H xs us Q I rs q
  · exact h' pins s σ H xs us Q I rs q
theorem call_list_of : CallR X (.type "list") (fun xs H Q => ∃ p ys, xs = [.ref p] ∧ (SqL X.K H p ys ∨ SqT X.K H p ys) ∧ ∀ l, H l = none → Q (.ref l) (upd H l (.lst ys))) := by
  intro pins s σ H xs us Q I r h
  obtain ⟨p, ys, rfl, hq, q⟩ := h
  obtain ⟨u, rfl, rx⟩ := vals1 r
  cases rx
  have fin : ∀ (its : List Value), Vals ys its → ys.length ≤ sizeLine → ∀ (h' : Heap) (c' : Nat), (∀ b o', s.heap.get? b = some o' → h'.get? b = some o') →
      h'.get? s.heap.objs.size = some { cls := .type "list", dict := none, data := .seq its.toArray c', slots := #[] } → EP X pins σ Q (.ref s.heap.objs.size) { s with heap := h' } := fun its r' hz h' c' kp e =>
    ⟨.ref s.heap.objs.size, _, I.laid (t' := s.toks) kp (Nat.le_refl _) (show ObjOk X.prog X.w _ h' _ (.lst ys) from ⟨hz, its, c', r', e⟩), rfl, q _ (I.hok.fresh (Nat.le_refl _))⟩
  rcases hq with hq | hq
  · obtain ⟨its, r', pl, hz⟩ := I.list hq
    have hlen := r'.length
    obtain ⟨o, ho, hc, n, hd⟩ := pl.isList
    exact call_list_seq p (.inl rfl) ho hc hd (fun h' c' kp e => fin its r' hz h' c' kp e) (by simp only [List.size_toArray] <;> omega)
  · obtain ⟨its, r', pl, hz⟩ := I.tuple hq
    have hlen := r'.length
    obtain ⟨o, ho, hc, n, hd⟩ := pl
    exact call_list_seq p (.inr rfl) ho hc hd (fun h' c' kp e => fin its r' hz h' c' kp e) (by simp only [List.size_toArray] <;> omega)
theorem call_tuple_of : CallR X (.type "tuple") (fun xs H Q => ∃ p ys, xs = [.ref p] ∧ ((SqL X.K H p ys ∧ ∀ l, H l = none → Q (.ref l) (upd H l (.tup ys))) ∨ (SqT X.K H p ys ∧ Q (.ref p) H))) := by
  intro pins s σ H xs us Q I r h
  obtain ⟨p, ys, rfl, h⟩ := h
  obtain ⟨u, rfl, rx⟩ := vals1 r
  cases rx
  rcases h with ⟨hq, q⟩ | ⟨hq, q⟩
  · obtain ⟨its, r', pl, hz⟩ := I.list hq
    have hlen := r'.length
    refine call_tuple_list pl.isList (fun h' kp => ?_) (by simp only [List.size_toArray] <;> omega)
    have I1 : Inv X pins σ H { s with heap := h' } := I.kept (t' := s.toks) kp
    have I2 : Inv X pins σ (upd H h'.objs.size (.tup ys)) { s with heap := h'.push { cls := .type "tuple", data := .seq its.toArray } } :=
      I1.laid (t' := s.toks) (fun b o e => Heap.get?_push_of_some _ e) (Nat.le_refl _) (show ObjOk X.prog X.w _ _ _ (.tup ys) from ⟨hz, its, r', IsTup.new _ _⟩)
    exact ⟨.ref h'.objs.size, _, I2, rfl, q _ (I1.hok.fresh (Nat.le_refl _))⟩
  · obtain ⟨its, r', pl, hz⟩ := I.tuple hq
    exact call_tuple_same pl ⟨.ref p, H, I, rfl, q⟩

/-! ### the call of a builtin's method: o.m(..) -/
/-- the value is of that builtin type -/
def tyV (K : PySem.W.Frag) (T : String) (x : V) (H : Hp) : Prop := match x with
  | .str _ => T = "str"
  | .int _ => T = "int"
  | .ref p => (T = "list" ∧ ∃ xs, SqL K H p xs) ∨ (T = "tuple" ∧ ∃ o, K.lookup p = some o ∧ o.cls = .type "tuple" ∧ o.dict = none) ∨
      (T = "dict" ∧ ((∃ kvs, H p = some (.dK kvs)) ∨ ∃ kvs, H p = some (.dT kvs))) ∨ (T = "set" ∧ ∃ S n, H p = some (.set S n))
  | _ => False
theorem tyV_is {pins : List (Addr × Obj)} {σ : St} {H : Hp} {s : Shared} {T : String} {x : V} {v : Value} (I : Inv X pins σ H s) (r : RelV x v) (ty : tyV X.K T x H) :
    s.TypeIs v T ∧ ∀ a, v = .ref a → ∃ ob, s.heap.get? a = some ob ∧ ob.dict = none := by
  cases x with
  | str z =>
    obtain ⟨t, rfl⟩ := r
    cases (show T = "str" from ty)
    exact ⟨typeIs_str s z t, fun _ e => nomatch e⟩
  | int i =>
    obtain ⟨t, rfl⟩ := r
    cases (show T = "int" from ty)
    exact ⟨typeIs_int s i t, fun _ e => nomatch e⟩
  | ref p =>
    cases r
    rcases ty with ⟨rfl, xs, hq⟩ | ⟨rfl, o, hk, hc, hd⟩ | ⟨rfl, hk⟩ | ⟨rfl, S, n, hk⟩
    · obtain ⟨its, _, pl, _⟩ := I.list hq
      refine ⟨pl.isList.typeIs, fun a e => ?_⟩
      cases e
      obtain ⟨o, n, e, c, hd, _⟩ := pl
      exact ⟨o, e, hd⟩
    · refine ⟨⟨o, I.kIn p o hk, hc⟩, fun a e => ?_⟩
      cases e
      exact ⟨o, I.kIn _ o hk, hd⟩
    · have z : ∃ o, s.heap.get? p = some o ∧ o.ExactDict := by
        rcases hk with ⟨kvs, hk⟩ | ⟨kvs, hk⟩
        · obtain ⟨_, _, _, _, o, _, _, e, ex, _⟩ := I.hok p _ hk
          exact ⟨o, e, ex⟩
        · obtain ⟨_, _, _, _, o, _, _, e, ex, _⟩ := I.hok p _ hk
          exact ⟨o, e, ex⟩
      obtain ⟨o, e, ex⟩ := z
      refine ⟨⟨o, e, ex.1⟩, fun a e2 => ?_⟩
      cases e2
      exact ⟨o, e, ex.2.1⟩
    · obtain ⟨o, _, _, _, e, ex, _⟩ := I.hok p _ hk
      refine ⟨⟨o, e, ex.1⟩, fun a e2 => ?_⟩
      cases e2
      exact ⟨o, e, ex.2.1⟩
  | _ => exact False.elim ty
def tBM0 (K : PySem.W.Frag) (T : String) (r : V → List V → Hp → VK → Prop) (to : TE) : TE := fun σ H Q => to σ H fun x H1 => tyV K T x H1 ∧ r x [] H1 Q
def tBM (K : PySem.W.Frag) (T : String) (r : V → List V → Hp → VK → Prop) (to : TE) (t : TA) : TE := fun σ H Q => to σ H fun x H1 => tyV K T x H1 ∧ t σ H1 fun xs H2 => r x xs H2 Q
variable {o e : Expr} {es : List Expr} {to : TE} {t : TA} {name : Str} {apos cpos : Pos} {T id : String} {r : V → List V → Hp → VK → Prop}
theorem pe_bm0 (pa : PlainAttrs T) (slot : Slot T name id) (hty : typeOf (.builtin id) = pure (.type "method_descriptor")) (hm : MtR X id r) (ho : PE X o to)
    (hbase : attributeBase o name X.env (eval o X.env) = eval o X.env := by rfl) (hline : (apos.endLine == cpos.line) = true := by rfl) : PE X (.Call (.Attribute o name apos) [] [] cpos) (tBM0 X.K T r to) := by
  intro pins s σ H Q I h
  refine wpAny_Call_method0_late hbase hline (thn (ho pins s σ H _ I h) fun v s1 ⟨x, H1, I1, r1, ty, q1⟩ => ?_)
  obtain ⟨h1, h2⟩ := tyV_is I1 r1 ty
  exact ⟨T, id, pa, slot, hty, h1, h2, Calls.callWith_builtin rfl (PySem.evalArgs_none (hm pins s1 σ H1 x [] v [] Q I1 r1 .nil q1))⟩
theorem pe_bm (pa : PlainAttrs T) (slot : Slot T name id) (hty : typeOf (.builtin id) = pure (.type "method_descriptor")) (hm : MtR X id r) (ho : PE X o to) (ha : PA X (e :: es) t)
    (hbase : attributeBase o name X.env (eval o X.env) = eval o X.env := by rfl)
    (hfew : ((backTo cpos (starEach (e :: es) X.env)).all (fun x => !x.1) && (backToKw cpos (keywordEach [] X.env)).all (fun x => x.1.isSome)
      && decide ((e :: es).length + ([] : List Keyword).length + (if ([] : List Keyword).isEmpty then 0 else 1) < 30)) = true := by rfl)
    (hline : (apos.endLine == cpos.line) = true := by rfl) (hs : starEach (e :: es) X.env = (false, eval e X.env) :: starEach es X.env := by rfl) (hplain : (backTo cpos (starEach es X.env)).any (·.1) = false := by rfl) :
    PE X (.Call (.Attribute o name apos) (e :: es) [] cpos) (tBM X.K T r to t) := by
  intro pins s σ H Q I h
  refine wpAny_Call_method_late hbase hfew hline rfl (thn (ho pins s σ H _ I h) fun v s1 ⟨x, H1, I1, r1, ty, q1⟩ => ?_)
  obtain ⟨h1, h2⟩ := tyV_is I1 r1 ty
  refine ⟨T, id, pa, slot, hty, h1, h2, ?_⟩
  have hA := ha cpos pins s1 σ H1 _ I1 q1
  rw [hs] at hA ⊢
  refine Calls.callWith_builtin (by show (false || (backTo cpos (starEach es X.env)).any (·.1)) = false; rw [hplain] <;> rfl) (Calls.evalArgs_plain ?_)
  exact thn hA fun us s2 ⟨vs, H2, I2, r2, q2⟩ => hm pins s2 σ H2 x vs v us Q I2 r1 r2 q2
/- xs.append(e), list.index on a module's tuple .. are MtR facts of 06m -/
end
end L2

namespace L2
open PySem PySem.Spec PyProof.Rows

def MtM (X : Cx) (id : String) (r : V → List V → Hp → VK → Prop) : Prop :=
  ∀ (pins : List (Addr × Obj)) (s : Shared) (σ : St) (H : Hp) (x : V) (xs : List V) (v : Value) (us : List Value) (Q : VK), Inv X pins σ H s → RelV x v → Vals xs us → r x xs H Q →
    wpAny (model X.prog X.w) X.A (call (.builtin id) (v :: us)) (EP X pins σ Q) X.xe s

/-! ### lists of values -/
theorem Vals.one : ∀ {x : V} {us : List Value}, Vals [x] us → ∃ u, us = [u] ∧ RelV x u
  | _, _, .cons r .nil => ⟨_, rfl, r⟩
theorem Vals.two : ∀ {x y : V} {us : List Value}, Vals [x, y] us → ∃ u v, us = [u, v] ∧ RelV x u ∧ RelV y v
  | _, _, _, .cons r (.cons q .nil) => ⟨_, _, rfl, r, q⟩
theorem Vals.zero : ∀ {us : List Value}, Vals [] us → us = []
  | _, .nil => rfl
theorem Vals.dropLast {xs : List V} {us : List Value} (h : Vals xs us) : Vals xs.dropLast us.dropLast := by
  induction h with
  | nil => exact .nil
  | cons r t ih =>
    cases t with
    | nil => exact .nil
    | cons q t' => exact .cons r ih
theorem Vals.eraseIdx : ∀ {xs : List V} {us : List Value} (i : Nat), Vals xs us → Vals (xs.eraseIdx i) (us.eraseIdx i)
  | _, _, _, .nil => .nil
  | _, _, 0, .cons _ t => t
  | _, _, i + 1, .cons r t => .cons r (Vals.eraseIdx i t)
theorem Vals.reverse {xs : List V} {us : List Value} (h : Vals xs us) : Vals xs.reverse us.reverse := by
  induction h with
  | nil => exact .nil
  | cons r t ih => rw [List.reverse_cons, List.reverse_cons]; exact Vals.append ih (.cons r .nil)
theorem Vals.rep {xs : List V} {us : List Value} (h : Vals xs us) : ∀ k : Nat, Vals (List.replicate k xs).flatten (List.replicate k us).flatten
  | 0 => .nil
  | k + 1 => by
    rw [List.replicate_succ, List.replicate_succ, List.flatten_cons, List.flatten_cons]
    exact Vals.append h (Vals.rep h k)
theorem erase_last {α : Type} (l : List α) : l.eraseIdx (l.length - 1) = l.dropLast := by
  induction l with
  | nil => rfl
  | cons a r ih =>
    cases r with
    | nil => rfl
    | cons b r =>
      have e : (a :: b :: r).length - 1 = ((b :: r).length - 1) + 1 := by
        have h1 : (a :: b :: r).length = r.length + 2 := rfl
        have h2 : (b :: r).length = r.length + 1 := rfl
        omega
      rw [e, List.eraseIdx_cons_succ, ih]
      all_goals rfl
theorem len_erase {α : Type} : ∀ (l : List α) (i : Nat), (l.eraseIdx i).length ≤ l.length
  | [], _ => Nat.le_refl _
  | _ :: _, 0 => Nat.le_succ _
  | _ :: r, i + 1 => Nat.succ_le_succ (len_erase r i)
theorem foldl_rep (its : List Value) : ∀ (k : Nat) (acc : List Value),
    List.foldl (fun x1 x2 => x1 ++ x2) acc.toArray (List.replicate k its.toArray) = (acc ++ (List.replicate k its).flatten).toArray
  | 0, acc => by simp
  | k + 1, acc => by
    have e : acc.toArray ++ its.toArray = (acc ++ its).toArray := by simp
    have e2 : (acc ++ its) ++ (List.replicate k its).flatten = acc ++ (List.replicate (k + 1) its).flatten := by
      rw [List.replicate_succ, List.flatten_cons, List.append_assoc]
    rw [← e2, ← foldl_rep its k (acc ++ its), ← e, List.replicate_succ, List.foldl_cons]

section
variable {X : Cx} {pins : List (Addr × Obj)} {σ : St} {H : Hp} {s : Shared} {l b : Addr} {xs ys zs : List V}

/-! ### the two steps: a tracked list is rewritten, a new list is laid -/
theorem Inv.lset {its its' : List Value} {n : Nat} {f : Array Value → Array Value} {t' : Nat} (I : Inv X pins σ H s) (hH : H l = some (.lst xs))
    (e : s.heap.get? l = some { cls := .type "list", data := .seq its.toArray n }) (hf : f its.toArray = its'.toArray) (hv : Vals ys its') (hz : ys.length ≤ sizeLine) :
    Inv X pins σ (upd H l (.lst ys)) { s with heap := s.heap.update l (Obj.mapSeq f), toks := t' } := by
  have q := PySem.IsL.update e f
  rw [hf] at q
  refine I.write (x := l) (e := l) (by rw [hH]; exact trivial) (.inl rfl) (fun b' u hb hu => (Heap.get?_update_other s.heap (Obj.mapSeq f) (Ne.symm hb)).trans hu) ⟨_, q⟩ ?_
  exact ⟨hz, its', _, hv, q⟩
theorem Inv.lnew {its : List Value} {t' : Nat} (I : Inv X pins σ H s) (hv : Vals ys its) (hz : ys.length ≤ sizeLine) :
    Inv X pins σ (upd H s.heap.objs.size (.lst ys)) { s with heap := s.heap.push { cls := .type "list", data := .seq its.toArray }, toks := t' } :=
  I.laid (fun _ _ q => Heap.get?_push_of_some _ q) (Nat.le_refl _) ⟨hz, its, 0, hv, Heap.get?_push_size _ rfl⟩
theorem Inv.fresh (I : Inv X pins σ H s) : H s.heap.objs.size = none := I.hok.fresh (Nat.le_refl _)
theorem Inv.lstM (I : Inv X pins σ H s) (hH : H l = some (.lst xs)) : xs.length ≤ sizeLine ∧ ∃ (its : List Value) (n : Nat), Vals xs its ∧ xs.length = its.length ∧ s.heap.get? l = some { cls := .type "list", data := .seq its.toArray n } := by
  obtain ⟨z, its, n, r, e⟩ := I.hok l _ hH
  exact ⟨z, its, n, r, r.length, e⟩

theorem notLongL {n : Nat} (h : n ≤ sizeLine) : Builtin.List.listTooLong n = false := by
  unfold Builtin.List.listTooLong
  exact decide_eq_false (by omega)
end

section
variable {X : Cx}

/-! ### methods -/
def rAppend : V → List V → Hp → VK → Prop := fun x vs H Q => ∃ l xs y, x = .ref l ∧ vs = [y] ∧ H l = some (.lst xs) ∧ xs.length < sizeLine ∧ Q .non (upd H l (.lst (xs ++ [y])))
theorem mt_append : MtM X "list.append" rAppend := by
  intro pins s σ H x vs v us Q I rx rv h
  obtain ⟨l, xs, y, rfl, rfl, hH, hz, q⟩ := h
  cases rx
  obtain ⟨u, rfl, ru⟩ := rv.one
  obtain ⟨z, its, n, r, hl, e⟩ := I.lstM hH
  refine call_meets F.slot_list_append ⟨_, e, rfl⟩ F.entry_list_append (F.args_list_append_2 _ _) (PySem.list_append l its.toArray n u (by rw [List.size_toArray]; omega)) ⟨e, ?_⟩
  refine ⟨.non, _, I.lset (its' := its ++ [u]) hH e (by simp) (r.append (.cons ru .nil)) ?_, rfl, q⟩
  rw [List.length_append, List.length_singleton]
  omega

def rExtend : V → List V → Hp → VK → Prop := fun x vs H Q => ∃ l b xs zs, x = .ref l ∧ vs = [.ref b] ∧ H l = some (.lst xs) ∧ H b = some (.lst zs) ∧ xs.length + zs.length ≤ sizeLine ∧ Q .non (upd H l (.lst (xs ++ zs)))
theorem mt_extend : MtM X "list.extend" rExtend := by
  intro pins s σ H x vs v us Q I rx rv h
  obtain ⟨l, b, xs, zs, rfl, rfl, hH, hB, hz, q⟩ := h
  cases rx
  obtain ⟨u, rfl, ru⟩ := rv.one
  cases ru
  obtain ⟨z, its, n, r, hl, e⟩ := I.lstM hH
  obtain ⟨z2, its2, n2, r2, hl2, e2⟩ := I.lstM hB
  have hsz : its.toArray.size + its2.toArray.size ≤ sizeLine := by rw [List.size_toArray, List.size_toArray]; omega
  have hlong : ¬ (!its.toArray.isEmpty && Builtin.List.listTooLong (its.toArray.size + its2.toArray.size)) = true := by
    rw [notLongL hsz, Bool.and_false]
    exact Bool.false_ne_true
  refine call_meets F.slot_list_extend ⟨_, e, rfl⟩ F.entry_list_extend (F.args_list_extend_2 _ _)
    (AutoSeq1.list_extend_list_list_0 l its.toArray n b its2.toArray n2 hlong (by rw [List.size_toArray]; omega) (by omega)) ⟨e, e2, ?_⟩
  refine ⟨.non, _, I.lset (its' := its ++ its2) hH e (by simp) (r.append r2) ?_, rfl, q⟩
  rw [List.length_append]
  omega

def rPop : V → List V → Hp → VK → Prop := fun x vs H Q => ∃ l xs y, x = .ref l ∧ vs = [] ∧ H l = some (.lst xs) ∧ xs[xs.length - 1]? = some y ∧ Q y (upd H l (.lst xs.dropLast))
theorem mt_pop : MtM X "list.pop" rPop := by
  intro pins s σ H x vs v us Q I rx rv h
  obtain ⟨l, xs, y, rfl, rfl, hH, hy, q⟩ := h
  cases rx
  have hus := rv.zero
  subst hus
  obtain ⟨z, its, n, r, hl, e⟩ := I.lstM hH
  obtain ⟨u, hu, ru⟩ := r.get hy
  have hy' : its.toArray[its.toArray.size - 1]? = some u := by
    show its.toArray[its.length - 1]? = some u
    rw [← Array.getElem?_toList, ← hl]
    exact hu
  refine call_meets F.slot_list_pop ⟨_, e, rfl⟩ F.entry_list_pop (F.args_list_pop_1 _) (MeetsSeq.list_pop_last l its.toArray n u hy' (by rw [List.size_toArray]; omega)) ⟨e, ?_⟩
  refine ⟨y, _, I.lset (its' := its.dropLast) hH e ?_ r.dropLast ?_, ru, q⟩
  · show its.toArray.eraseIdxIfInBounds (its.toArray.size - 1) = its.dropLast.toArray
    rw [List.size_toArray, List.eraseIdxIfInBounds_toArray, erase_last]
  · rw [List.length_dropLast]
    omega

def rPopAt : V → List V → Hp → VK → Prop := fun x vs H Q => ∃ l xs i k y, x = .ref l ∧ vs = [.int i] ∧ H l = some (.lst xs) ∧ -(2 ^ 63) ≤ i ∧ i < 2 ^ 63 ∧ seqIndex? i xs.length = some k ∧ xs[k]? = some y ∧ Q y (upd H l (.lst (xs.eraseIdx k)))
theorem mt_popAt : MtM X "list.pop" rPopAt := by
  intro pins s σ H x vs v us Q I rx rv h
  obtain ⟨l, xs, i, k, y, rfl, rfl, hH, h1, h2, hk, hy, q⟩ := h
  cases rx
  obtain ⟨u, rfl, ru⟩ := rv.one
  obtain ⟨t, rfl⟩ := ru
  obtain ⟨z, its, n, r, hl, e⟩ := I.lstM hH
  obtain ⟨w, hw, rw'⟩ := r.get hy
  refine call_meets F.slot_list_pop ⟨_, e, rfl⟩ F.entry_list_pop (F.args_list_pop_2 _ _)
    (MeetsSeq.list_pop_at l its.toArray n i t k w (fitsIndex_both h1 h2) (by rw [List.size_toArray, ← hl]; exact hk) (by rw [← Array.getElem?_toList]; exact hw) (by rw [List.size_toArray]; omega)) ⟨e, ?_⟩
  refine ⟨y, _, I.lset (its' := its.eraseIdx k) hH e ?_ (r.eraseIdx k) ?_, rw', q⟩
  · show its.toArray.eraseIdxIfInBounds k = (its.eraseIdx k).toArray
    rw [List.eraseIdxIfInBounds_toArray]
  · have := len_erase xs k
    omega

def rReverse : V → List V → Hp → VK → Prop := fun x vs H Q => ∃ l xs, x = .ref l ∧ vs = [] ∧ H l = some (.lst xs) ∧ Q .non (upd H l (.lst xs.reverse))
theorem mt_reverse : MtM X "list.reverse" rReverse := by
  intro pins s σ H x vs v us Q I rx rv h
  obtain ⟨l, xs, rfl, rfl, hH, q⟩ := h
  cases rx
  have hus := rv.zero
  subst hus
  obtain ⟨z, its, n, r, hl, e⟩ := I.lstM hH
  refine call_meets F.slot_list_reverse ⟨_, e, rfl⟩ F.entry_list_reverse (F.args_list_reverse_1 _) (AutoSeq1.list_reverse_list_0 l its.toArray n (by rw [List.size_toArray]; omega)) ⟨e, ?_⟩
  refine ⟨.non, _, I.lset (its' := its.reverse) hH e (by simp) r.reverse ?_, rfl, q⟩
  rw [List.length_reverse]
  omega

def rClear : V → List V → Hp → VK → Prop := fun x vs H Q => ∃ l xs, x = .ref l ∧ vs = [] ∧ H l = some (.lst xs) ∧ Q .non (upd H l (.lst []))
theorem mt_clear : MtM X "list.clear" rClear := by
  intro pins s σ H x vs v us Q I rx rv h
  obtain ⟨l, xs, rfl, rfl, hH, q⟩ := h
  cases rx
  have hus := rv.zero
  subst hus
  obtain ⟨z, its, n, r, hl, e⟩ := I.lstM hH
  refine call_meets F.slot_list_clear ⟨_, e, rfl⟩ F.entry_list_clear (F.args_list_clear_1 _) (AutoSeq1.list_clear_list_0 l its.toArray n (by rw [List.size_toArray]; omega)) ⟨e, ?_⟩
  exact ⟨.non, _, I.lset (its' := []) (ys := []) hH e rfl .nil (Nat.zero_le _), rfl, q⟩

/-! ### list + list, list += list, list * int -/
def rCat : R2 := fun x y H Q => ∃ l b xs zs, x = .ref l ∧ y = .ref b ∧ H l = some (.lst xs) ∧ H b = some (.lst zs) ∧ xs.length + zs.length ≤ sizeLine ∧ ∀ p, H p = none → Q (.ref p) (upd H p (.lst (xs ++ zs)))
theorem op_cat : OpR X (binaryOp .Add) rCat := by
  intro pins s σ H x y v u Q I rx ry h
  obtain ⟨l, b, xs, zs, rfl, rfl, hH, hB, hz, q⟩ := h
  cases rx
  cases ry
  obtain ⟨z, its, n, r, hl, e⟩ := I.lstM hH
  obtain ⟨z2, its2, n2, r2, hl2, e2⟩ := I.lstM hB
  refine PySem.P.add_list e e2 ?_ (by rw [List.size_toArray, List.size_toArray]; omega)
  have ea : its.toArray ++ its2.toArray = (its ++ its2).toArray := by simp
  rw [ea]
  exact ⟨.ref _, _, I.lnew (t' := s.toks) (r.append r2) (by rw [List.length_append]; omega), rfl, q _ I.fresh⟩
/-- a list times an int (a negative one is nothing) -/
def rRep : R2 := fun x y H Q => ∃ l k xs, x = .ref l ∧ y = .int k ∧ H l = some (.lst xs) ∧ -(2 ^ 63) ≤ k ∧ k < 2 ^ 63 ∧ xs.length * k.toNat ≤ sizeLine ∧
  ∀ p, H p = none → Q (.ref p) (upd H p (.lst (List.replicate k.toNat xs).flatten))
theorem len_rep {α : Type} (xs : List α) (k : Nat) : (List.replicate k xs).flatten.length = k * xs.length := by
  induction k with
  | zero => simp
  | succ k ih => rw [List.replicate_succ, List.flatten_cons, List.length_append, ih, Nat.succ_mul, Nat.add_comm]
theorem op_rep : OpR X (binaryOp .Mult) rRep := by
  intro pins s σ H x y v u Q I rx ry h
  obtain ⟨l, k, xs, rfl, rfl, hH, h1, h2, hz, q⟩ := h
  cases rx
  obtain ⟨t, rfl⟩ := ry
  obtain ⟨z, its, n, r, hl, e⟩ := I.lstM hH
  have hlen : its.toArray.size * k.toNat ≤ sizeLine := by rw [List.size_toArray, ← hl]; exact hz
  have hcap : ¬ its.toArray.size * k.toNat > (2 ^ 63 - 1) / 8 := by
    have : (sizeLine : Nat) ≤ (2 ^ 63 - 1) / 8 := by decide
    omega
  have hfit : ¬ (!Builtin.List.listFitsIndex k) = true := by
    rw [fitsIndex_both h1 h2]
    exact Bool.false_ne_true
  have hlong : ¬ Builtin.List.listTooLong (its.toArray.size * k.toNat) = true := by
    rw [notLongL hlen]
    exact Bool.false_ne_true
  have hnew : List.foldl (fun x1 x2 => x1 ++ x2) #[] (List.replicate (if its.toArray.isEmpty = true then 0 else k.toNat) its.toArray) = (List.replicate k.toNat its).flatten.toArray := by
    have f0 : ∀ m : Nat, List.foldl (fun x1 x2 => x1 ++ x2) #[] (List.replicate m its.toArray) = (List.replicate m its).flatten.toArray := fun m => by
      have := foldl_rep its m []
      rw [List.nil_append] at this
      exact this
    rw [f0]
    cases its with
    | nil => simp
    | cons a r' => rw [if_neg (by simp)]
  refine wpAny_binaryOp_repeat_ref (T := "list") (U := "int") (by decide) ⟨_, e, rfl⟩ (fun s' => typeIs_int s' k t) noFill_list_mul F.fills_int_mul F.slot_int_rmul repeat_list F.slot_int_index.lookup
    (call_meets F.slot_int_rmul (typeIs_int s k t) F.entry_int_rmul (F.args_int_rmul_2 _ _) (int___rmul___int_list k t l its.toArray n)
      ⟨e, rfl, ⟨_, e, rfl⟩, call_meets F.slot_list_mul ⟨_, e, rfl⟩ F.entry_list_mul (F.args_list_mul_2 _ _) (AutoListH.list___mul___list_int_3 l its.toArray n k t hfit hcap hlong) ⟨e, ?_⟩⟩)
  rw [hnew]
  exact ⟨.ref _, _, I.lnew (t' := s.toks) (r.rep k.toNat) (by rw [len_rep, Nat.mul_comm]; exact hz), rfl, q _ I.fresh⟩

/-! ### del xs[i] -/
theorem del_list {pins : List (Addr × Obj)} {s : Shared} {σ : St} {H : Hp} {l : Addr} {xs : List V} {i : Int} {t : Tok} {k : Nat} {Q : Unit → Shared → Prop} (I : Inv X pins σ H s) (hH : H l = some (.lst xs))
    (h1 : -(2 ^ 63) ≤ i) (h2 : i < 2 ^ 63) (hk : seqIndex? i xs.length = some k) (h : ∀ s', Inv X pins σ (upd H l (.lst (xs.eraseIdx k))) s' → Q () s') :
    wpAny (model X.prog X.w) X.A (delItem (.ref l) (.int i t)) Q X.xe s := by
  obtain ⟨z, its, n, r, hl, e⟩ := I.lstM hH
  refine PySem.P.delItem_list (k := k) e (fitsIndex_both h1 h2) (by rw [List.size_toArray, ← hl]; exact hk) (h _ ?_) (by rw [List.size_toArray]; omega)
  refine I.lset (its' := its.eraseIdx k) (t' := s.toks) hH e ?_ (r.eraseIdx k) ?_
  · show its.toArray.eraseIdxIfInBounds k = (its.eraseIdx k).toArray
    rw [List.eraseIdxIfInBounds_toArray]
  · have := len_erase xs k
    omega
end

/-! ### xs[a:b] = ys -/
section
variable {prog : Program} {w : World} {A : Around} {E : Value → Shared → Prop} {s : Shared}
theorem splice_eq (its its2 : List Value) (a c : Nat) : its.toArray.extract 0 a ++ its2.toArray ++ its.toArray.extract c its.toArray.size = (its.take a ++ its2 ++ its.drop c).toArray := by
  apply Array.toList_inj.mp
  first
    | (simp
       exact List.take_of_length_le (by simp))
    | simp [List.take_of_length_le]
    | simp
theorem bounds_run {a c n : Nat} (hac : a ≤ c) (hc : c ≤ n) : sliceBounds (some (a : Int)) (some (c : Int)) none n = ((a : Int), (c : Int), 1) := by
  simp only [sliceBounds, Option.getD_none]
  have h1 : ¬ ((a : Int) < 0) := by omega
  have h2 : ¬ ((c : Int) < 0) := by omega
  simp only [h1, h2, if_false, show (1 : Int) > 0 by decide, if_true]
  congr 1
  · omega
  · congr 1; omega
set_option maxRecDepth 100000 in
/-- list.__setitem__ with a slice of step one and another list -/
theorem setItem_slice {l b sl : Addr} {items new : Array Value} {n n2 : Nat} {vl vu : Value} {a c : Nat} {Q : Unit → Shared → Prop}
    (e : s.heap.get? l = some { cls := .type "list", data := .seq items n }) (e2 : s.heap.get? b = some { cls := .type "list", data := .seq new n2 }) (hne : l ≠ b)
    (hs : s.heap.IsSliceOf sl vl vu .none) (pl : IsPart vl (some (a : Int))) (pu : IsPart vu (some (c : Int))) (hac : a ≤ c) (hc : c ≤ items.size)
    (hsz : items.size + new.size ≤ sizeLine) (h : Q () { s with heap := s.heap.update l (Obj.mapSeq fun xs => xs.extract 0 a ++ new ++ xs.extract c xs.size) }) :
    wpAny (model prog w) A (setItem (.ref l) (.ref sl) (.ref b)) Q E s := by
  have hl : s.heap.IsList l items := PySem.IsL.isList e
  have hb : s.heap.IsList b new := PySem.IsL.isList e2
  obtain ⟨os, hos, hcs, hds⟩ := id hs
  have hTs : s.TypeIs (.ref sl) "slice" := ⟨os, hos, hcs⟩
  have hstep : ¬ ((rawPart none == rawInt 0) = true) := Bool.false_ne_true
  have hsame : Builtin.List.listSameRef (.ref l) (.ref b) = false := by
    unfold Builtin.List.listSameRef
    exact beq_eq_false_iff_ne.mpr hne
  have hmax : (max (a : Int) (c : Int)).toNat = c := by omega
  have hz' : ((fun xs : Array Value => xs.extract 0 a ++ new ++ xs.extract c xs.size) items).size ≤ sizeLine + 1 := by
    simp only [Array.size_append, Array.size_extract]
    omega
  unfold setItem
  try with_reducible refine wpAny_holding ?_
  first | refine wpAny_bind (wpAny_pure ?_) | skip
  refine wpAny_bind (wpAny_sequenceKey hl.typeIs (by decide) ?_)
  refine wpAny_bind (wpAny_callSpecial?_slot (name := Str.ofString "__setitem__") hl.typeIs slot_list_setitem
    (wpAny_call_entry slot_list_setitem hl.typeIs entry_list_setitem ?_ (args_list_setitem _ _ _)))
  show wpAny _ _ (Builtin.List.listSubscript? (.ref sl) >>= _) _ _ s
  refine wpAny_bind ?_
  unfold Builtin.List.listSubscript?
  refine wpAny_bind (wpAny_specialOf hTs slice_no_index ?_)
  simp only [Option.isNone_none, if_true]
  refine wpAny_pure ?_
  show wpAny _ _ (typeOf (.ref sl) >>= _) _ _ s
  refine wpAny_bind (wpAny_typeOf hTs ?_)
  first
    | rw [if_neg (by decide)]
    | refine PySem.W.KFB.if_not (by decide) ?_
  rw [listSliceParts_eq]
  refine wpAny_bind (wpAny_bind (wpAny_field hos hds (x := .none) rfl (wpAny_bind (wpAny_listPart .none ?_))))
  rw [if_neg hstep]
  refine wpAny_bind (wpAny_field hos hds (x := vl) rfl (wpAny_bind (wpAny_listPart pl ?_)))
  refine wpAny_bind (wpAny_field hos hds (x := vu) rfl (wpAny_bind (wpAny_listPart pu (wpAny_pure ?_))))
  first
    | simp only [hsame, Bool.false_eq_true, if_false]
    | refine PySem.W.KFB.if_not hsame ?_
    | (dsimp only
       rw [if_neg (by rw [hsame]; exact Bool.false_ne_true)])
  refine wpAny_bind (m := Builtin.List.listAllItems (.ref b) "must assign iterable to extended slice") ?_
  unfold Builtin.List.listAllItems
  refine wpAny_bind (wpAny_typeOf hb.typeIs ?_)
  first
    | refine PySem.W.KFB.if_so (by decide) ?_
    | rw [if_pos (by decide)]
    | simp only [beq_self_eq_true, Bool.true_or, if_true]
  unfold Builtin.List.listItems
  refine wpAny_bind (wpAny_seqItems e2 rfl (wpAny_pure ?_))
  refine wpAny_bind (wpAny_bind (wpAny_seqItems e rfl (wpAny_pure ?_)))
  refine wpAny_bind (wpAny_of_eq ((sliceIndices_raw (some (a : Int)) (some (c : Int)) none items.size (by simp)).trans (congrArg (pure : Int × Int × Int → Sem (Int × Int × Int)) (bounds_run hac hc))) ?_)
  show wpAny _ _ (if ((1 : Int) == 1) = true then _ else _) _ _ s
  rw [if_pos (by decide)]
  refine wpAny_bind (wpAny_rule ?_)
  first
    | simp only [notLongL hsz, Bool.false_eq_true, if_false]
    | refine PySem.W.KFB.if_not (notLongL hsz) ?_
  first | refine wpAny_bind (wpAny_pure ?_) | skip
  show wpAny _ _ (updateSeq l (fun xs => xs.extract 0 ((a : Int)).toNat ++ new ++ xs.extract (max (a : Int) (c : Int)).toNat xs.size) >>= _) _ _ s
  rw [hmax, Int.toNat_natCast]
  refine wpAny_bind (wpAny_updateSeq (hz := Nat.le_trans (Nat.le_add_right _ _) hsz) (_hz' := hz') e rfl ?_)
  refine wpAny_bind (wpAny_letGo ?_)
  first
    | exact wpAny_bind (wpAny_pure (wpAny_pure ⟨.none, rfl, wpAny_pure h⟩))
    | exact wpAny_pure ⟨.none, rfl, wpAny_pure h⟩
end

section
variable {X : Cx}
/-- xs[a:c] = ys of another list, at the value level: sl is the slice object that was just made -/
theorem set_slice {pins : List (Addr × Obj)} {s : Shared} {σ : St} {H : Hp} {l b sl : Addr} {xs ys : List V} {a c : Int} {vl vu : Value} {Q : Unit → Shared → Prop} (I : Inv X pins σ H s)
    (hH : H l = some (.lst xs)) (hB : H b = some (.lst ys)) (hne : l ≠ b) (hs : s.heap.IsSliceOf sl vl vu .none) (ra : RelV (.int a) vl) (rc : RelV (.int c) vu) (h0 : 0 ≤ a) (hac : a ≤ c) (hc : c ≤ xs.length)
    (hz : xs.length + ys.length ≤ sizeLine) (h : ∀ s', Inv X pins σ (upd H l (.lst (xs.take a.toNat ++ ys ++ xs.drop c.toNat))) s' → Q () s') :
    wpAny (model X.prog X.w) X.A (setItem (.ref l) (.ref sl) (.ref b)) Q X.xe s := by
  obtain ⟨ta, rfl⟩ := ra
  obtain ⟨tc, rfl⟩ := rc
  obtain ⟨z, its, n, r, hl, e⟩ := I.lstM hH
  obtain ⟨z2, its2, n2, r2, hl2, e2⟩ := I.lstM hB
  obtain ⟨a', rfl⟩ := Int.eq_ofNat_of_zero_le h0
  obtain ⟨c', rfl⟩ := Int.eq_ofNat_of_zero_le (Int.le_trans h0 hac)
  simp only [Int.toNat_natCast] at h
  refine setItem_slice (a := a') (c := c') e e2 hne hs (.int _ _) (.int _ _) (by omega) (by rw [List.size_toArray]; omega) (by rw [List.size_toArray, List.size_toArray]; omega) (h _ ?_)
  refine I.lset (its' := its.take a' ++ its2 ++ its.drop c') (t' := s.toks) hH e ?_ (Vals.append (Vals.append (r.take _) r2) (r.drop _)) ?_
  · exact splice_eq its its2 a' c'
  · rw [List.length_append, List.length_append, List.length_take, List.length_drop]
    omega
end
end L2

namespace Att
open PySem PySem.W PySem.Calls PyProof.Rows

/-! ### the script -/
theorem ints_of_wellAll {P : Params} {h : Heap} : ∀ (ns : List Int) (vs : List Value), WellAll P h vs (ns.map WData.int) → IntsAre vs ns := by
  intro ns
  induction ns with
  | nil =>
    intro vs w
    rw [List.map_nil] at w
    cases w
    exact .nil
  | cons n ns ih =>
    intro vs w
    rw [List.map_cons] at w
    cases w with
    | cons a b =>
      cases a
      exact .cons _ _ (ih _ b)

theorem script_of {l : OpenLaw} {n : Nat} (hn : l.most = some n) {P : Params} {h : Heap} {args : List WData} {vals : List Value}
    (hpre : l.row.toRowW.claim.pre args = true) (hwl : WellAll P h vals args) :
    ∃ a vs ns, vals = [Value.ref a] ∧ args = [WData.list (ns.map WData.int)] ∧ h.get? a = some { cls := .type "list", data := .seq vs.toArray } ∧ IntsAre vs ns ∧ ns.length ≤ n := by
  have hsh : WShape.hasAll [] args [.list .int] = true := (pre_splitW hpre).1
  have hc : l.pre.holds [] { args := args } = true := (pre_splitW hpre).2
  obtain ⟨d, r, rfl, h1, h2⟩ := hasAllW_cons hsh
  obtain rfl := hasAllW_nil h2
  obtain ⟨xs, rfl, h3⟩ := hasW_list h1
  obtain ⟨ns, rfl⟩ := items_int h3
  have hlen : ns.length ≤ n := by
    unfold OpenLaw.pre at hc
    have h4 : (WTm.not (.lt (.lit (.int (n : Int))) (.len (.arg 0)))).holds [] { args := [.list (ns.map .int)] } = true := by
      have h4 := (holds_andW hc).1
      rw [hn] at h4
      exact h4
    have h5 := condW_of h4 (w_not (w_lt w_lit (w_len_list (w_arg rfl))))
    rw [List.length_map] at h5
    refine Nat.le_of_not_lt fun q => ?_
    have q' : (n : Int) < ((ns.length : Nat) : Int) := by omega
    first
      | (rw [decide_eq_true q'] at h5; exact absurd h5 (by decide))
      | (simp at h5; omega)
  cases hwl with
  | cons w1 w2 =>
    cases w2
    cases w1 with
    | list ho hall => exact ⟨_, _, ns, rfl, rfl, ho, ints_of_wellAll ns _ hall, hlen⟩

theorem post_true (l : OpenLaw) (args : List WData) : l.row.toRowW.claim.post args (.bool true) args = true :=
  postW_of (r := l.row.toRowW) (X := (true == true))
    (show WShape.has [] (.bool true) .bool = true by first | rfl | decide | simp [WShape.has, WShape.arms, WShape.armsAll])
    (show (WTm.eq .res (.lit (.bool true))).value [] { args := args, res := some (.bool true), after := args } = some (.bool (true == true)) from w_eq_bool (w_res rfl) w_lit) rfl

/-! ### the attachment: holds_open's last premise (the goal 'hc' behind k_head) from a wpAny of the law's body -/
theorem attach {l : OpenLaw} {n : Nat} {q : Program} {loose : List Str} {XP : (Str → Option Value) → Heap → Prop} {YP : World → Heap → Prop} {d : DefRec} {x : Str}
    (hn : l.most = some n) (hdf : d.params.defaults = [])
    (hbind : ∀ pm cd doc v : Value, bindArgs (docDef d.name d.params d.body d.scope pm cd doc) ⟨[v], []⟩ = pure [(x, v)])
    (hx : d.scope.names.lookup x = some .local ∨ d.scope.names.lookup x = some .cell)
    (hk : d.scope.kind = .function) (hco : d.scope.isCoroutine = false) (hgen : d.scope.isGenerator = false)
    (body : ∀ (w : World) (s₀ s₁ s : Shared) (mg mb : Str → Option Value) (fa : Addr) (o : Obj) (pm cd doc : Value) (a : Addr) (vs : List Value) (ns : List Int),
      Ground q loose [] XP w s₀ mg mb s₁.heap → YP w s₁.heap →
      s₁.heap.get? fa = some o → o.data = .func (docDef d.name d.params d.body d.scope pm cd doc) → s₁.heap.CodeRec cd d.name → mg d.name = some (.ref fa) →
      s₁.heap.get? a = some { cls := .type "list", data := .seq vs.toArray } → IntsAre vs ns → ns.length ≤ n →
      s.gens = #[] → s.os = s₁.os →
      Fr s₁.heap s₁.heap.objs.size s.heap (bindL (envOfC d.name d.scope s₁.heap.objs.size fa cd).kindOf [(x, .ref a)] fun _ => none) →
      Cl s₁.heap.objs.size (cellsFrom (s₁.heap.objs.size + 1) d.scope.names []) s.heap (bindC (envOfC d.name d.scope s₁.heap.objs.size fa cd).kindOf [(x, .ref a)] fun _ => none) →
      wpAny (model l.prog w) (callerA.deeper (envOfC d.name d.scope s₁.heap.objs.size fa cd)) (execs d.body (envOfC d.name d.scope s₁.heap.objs.size fa cd))
        (fun f s' => f = .ret (.bool true) ∧ OldK s₁.heap s'.heap ∧ s'.os = s₁.os ∧ AllBare s'.gens) (fun _ _ => False) s) :
    WalkO q loose XP YP l.row.toRowW d [] (fun f vs => PySem.call f vs) := by
  intro w s₀ s₁ mg mb G Y fa o pm cd doc dV kV ho hd hcd hD hmg hg args vals as hpre hlay hrd hwl hlo
  obtain rfl : dV = .none := Dflts.none hD hdf
  obtain rfl : kV = .none := Dflts.noKw hD
  obtain ⟨a, vs, ns, rfl, rfl, hobj, hints, hlen⟩ := script_of hn hpre hwl
  refine enter_call ?_
  refine call_cells_ret (o := o) (by rw [depth_caller]; decide) ho (fd_plain hd) G.T.nolimit hcd (hbind pm cd doc (.ref a)) (fun y hy => ?_) (fun h₁ tk F X => ?_) hco hgen hk
  · obtain rfl : y = (x, Value.ref a) := List.mem_singleton.mp hy
    rcases hx with e | e
    · exact .inl e
    · exact .inr ⟨e, cellsFrom_some _ _ _ (.inl e)⟩
  · refine wpAny_mono (body w s₀ s₁ { s₁ with heap := h₁, toks := tk } mg mb fa o pm cd doc a vs ns G Y ho (fd_plain hd) hcd hmg hobj hints hlen hg rfl F X) (fun f s' hq => ?_) (fun _ _ hq => hq)
    obtain ⟨rfl, h2, h3, h4⟩ := hq
    exact ⟨.inl ⟨.bool true, .bool true, [], rfl, fun _ => rfl, .bool true, post_true l _, fun _ => ⟨List.Pairwise.nil, fun _ hm => (nomatch hm)⟩⟩, h2, h3, h4⟩

/-- the same from a codeAny of the CALL (for a layer whose function contracts speak of calls) -/
theorem attach_call {l : OpenLaw} {n : Nat} {q : Program} {loose : List Str} {XP : (Str → Option Value) → Heap → Prop} {YP : World → Heap → Prop} {d : DefRec}
    (hn : l.most = some n) (hdf : d.params.defaults = [])
    (call : ∀ (w : World) (s₀ s₁ : Shared) (mg mb : Str → Option Value) (fa : Addr) (o : Obj) (pm cd doc : Value) (a : Addr) (vs : List Value) (ns : List Int),
      Ground q loose [] XP w s₀ mg mb s₁.heap → YP w s₁.heap →
      s₁.heap.get? fa = some o → o.data = .func (docDef d.name d.params d.body d.scope pm cd doc) → s₁.heap.CodeRec cd d.name → mg d.name = some (.ref fa) →
      s₁.heap.get? a = some { cls := .type "list", data := .seq vs.toArray } → IntsAre vs ns → ns.length ≤ n → s₁.gens = #[] →
      codeAny (model l.prog w) callerA (.call (.ref fa) ⟨[.ref a], []⟩) (fun r s' => r = .ok (.ret (.bool true)) ∧ OldK s₁.heap s'.heap ∧ s'.os = s₁.os ∧ AllBare s'.gens) s₁) :
    WalkO q loose XP YP l.row.toRowW d [] (fun f vs => PySem.call f vs) := by
  intro w s₀ s₁ mg mb G Y fa o pm cd doc dV kV ho hd hcd hD hmg hg args vals as hpre hlay hrd hwl hlo
  obtain rfl : dV = .none := Dflts.none hD hdf
  obtain rfl : kV = .none := Dflts.noKw hD
  obtain ⟨a, vs, ns, rfl, rfl, hobj, hints, hlen⟩ := script_of hn hpre hwl
  refine enter_call (codeAny_mono (call w s₀ s₁ mg mb fa o pm cd doc a vs ns G Y ho (fd_plain hd) hcd hmg hobj hints hlen hg) fun r s' hq => ?_)
  obtain ⟨rfl, h2, h3, h4⟩ := hq
  exact ⟨.inl ⟨.bool true, .bool true, [], rfl, fun _ => rfl, .bool true, post_true l _, fun _ => ⟨List.Pairwise.nil, fun _ hm => (nomatch hm)⟩⟩, h2, h3, h4⟩

/-- the same where the top left finished generators (o_head chose holds_openN): nothing may have changed at all and no generator may be left -/
theorem attachN {l : OpenLaw} {n : Nat} {q : Program} {loose : List Str} {XP : (Str → Option Value) → Heap → Prop} {YP : World → Heap → Prop} {d : DefRec} {x : Str}
    (hn : l.most = some n) (hdf : d.params.defaults = [])
    (hbind : ∀ pm cd doc v : Value, bindArgs (docDef d.name d.params d.body d.scope pm cd doc) ⟨[v], []⟩ = pure [(x, v)])
    (hx : d.scope.names.lookup x = some .local ∨ d.scope.names.lookup x = some .cell)
    (hk : d.scope.kind = .function) (hco : d.scope.isCoroutine = false) (hgen : d.scope.isGenerator = false)
    (body : ∀ (w : World) (s₀ s₁ s : Shared) (mg mb : Str → Option Value) (fa : Addr) (o : Obj) (pm cd doc : Value) (a : Addr) (vs : List Value) (ns : List Int),
      Ground q loose [] XP w s₀ mg mb s₁.heap → YP w s₁.heap →
      s₁.heap.get? fa = some o → o.data = .func (docDef d.name d.params d.body d.scope pm cd doc) → s₁.heap.CodeRec cd d.name → mg d.name = some (.ref fa) →
      s₁.heap.get? a = some { cls := .type "list", data := .seq vs.toArray } → IntsAre vs ns → ns.length ≤ n →
      s.gens = #[] → s.os = s₁.os →
      Fr s₁.heap s₁.heap.objs.size s.heap (bindL (envOfC d.name d.scope s₁.heap.objs.size fa cd).kindOf [(x, .ref a)] fun _ => none) →
      Cl s₁.heap.objs.size (cellsFrom (s₁.heap.objs.size + 1) d.scope.names []) s.heap (bindC (envOfC d.name d.scope s₁.heap.objs.size fa cd).kindOf [(x, .ref a)] fun _ => none) →
      wpAny (model l.prog w) (callerA.deeper (envOfC d.name d.scope s₁.heap.objs.size fa cd)) (execs d.body (envOfC d.name d.scope s₁.heap.objs.size fa cd))
        (fun f s' => f = .ret (.bool true) ∧ (∀ b o, s₁.heap.get? b = some o → s'.heap.get? b = some o) ∧ s'.os = s₁.os ∧ s'.gens = #[]) (fun _ _ => False) s) :
    WalkN q loose XP YP l.row.toRowW d [] (fun f vs => PySem.call f vs) := by
  intro w s₀ s₁ mg mb G Y fa o pm cd doc dV kV ho hd hcd hD hmg hg args vals as hpre hlay hrd hwl hlo
  obtain rfl : dV = .none := Dflts.none hD hdf
  obtain rfl : kV = .none := Dflts.noKw hD
  obtain ⟨a, vs, ns, rfl, rfl, hobj, hints, hlen⟩ := script_of hn hpre hwl
  refine enter_callW ?_
  refine call_cells_ret (o := o) (by rw [depth_caller]; decide) ho (fd_plain hd) G.T.nolimit hcd (hbind pm cd doc (.ref a)) (fun y hy => ?_) (fun h₁ tk F X => ?_) hco hgen hk
  · obtain rfl : y = (x, Value.ref a) := List.mem_singleton.mp hy
    rcases hx with e | e
    · exact .inl e
    · exact .inr ⟨e, cellsFrom_some _ _ _ (.inl e)⟩
  · refine wpAny_mono (body w s₀ s₁ { s₁ with heap := h₁, toks := tk } mg mb fa o pm cd doc a vs ns G Y ho (fd_plain hd) hcd hmg hobj hints hlen hg rfl F X) (fun f s' hq => ?_) (fun _ _ hq => hq)
    obtain ⟨rfl, h2, h3, h4⟩ := hq
    exact ⟨.inl ⟨.bool true, .bool true, [], rfl, fun _ => rfl, .bool true, post_true l _, fun _ => ⟨List.Pairwise.nil, fun _ hm => (nomatch hm)⟩⟩, h2, h3, h4⟩

/-! ### rules over ANY heap (no ledger) from facts about the written part K: the library's own take a ledger (News) for what they write -/
section
variable {prog : Program} {w : World} {A : Around} {E : Value → Shared → Prop} {s : Shared} {K : Frag}

/-- a def of the module, or a method (qual 'C.m'), entered: the frame is the next address; cells behind it -/
theorem call_fn {R : Result → Shared → Prop} {name qual : Str} {params : Arguments} {body : List Stmt} {scope : Scope} {dV kV doc pm cdv ct oc : Value} {an od : Option Addr} {osl : Array (Option Value)} {f : Addr} {args : Args} {binds : List (Str × Value)}
    (X : K.In s.heap) (hlim : s.heap.NoLimit) (ho : K.lookup f = some ⟨oc, od, .func (fnOf name qual params body scope dV kV doc pm an cdv ct), osl⟩) (hcd : codeIn K cdv qual = true) (hroom : A.depth < recursionLimit)
    (hbind : BindsTo s (fnOf name qual params body scope dV kV doc pm an cdv ct) args binds)
    (hkind : (binds.all fun y => scope.names.lookup y.1 == some .local || scope.names.lookup y.1 == some .cell) = true)
    (h : ∀ s₁, InCallC s s.heap.objs.size (bindL (envOfC qual scope s.heap.objs.size f cdv).kindOf binds fun _ => none) (cellsFrom (s.heap.objs.size + 1) scope.names [])
        (bindC (envOfC qual scope s.heap.objs.size f cdv).kindOf binds fun _ => none) s₁ →
      wpAny (model prog w) (A.deeper (envOfC qual scope s.heap.objs.size f cdv)) (execs body (envOfC qual scope s.heap.objs.size f cdv))
        (fun fl s' => R (.ok (.ret (match fl with | .ret v => v | _ => .none))) s')
        (fun e s' => wpAny (model prog w) (A.deeper (envOfC qual scope s.heap.objs.size f cdv)) (leaving (envOfC qual scope s.heap.objs.size f cdv) e) (fun _ s'' => R (.error e) s'') (fun e' s'' => R (.error e') s'') s') s₁)
    (hco : scope.isCoroutine = false) (hgen : scope.isGenerator = false) (hk : scope.kind = .function) : codeAny (model prog w) A (.call (.ref f) args) R s := by
  refine codeAny_call_function hroom (X _ _ ho) rfl hco hgen rfl (codeRec_of X hcd) (hbind _ _ _ _ ?_)
  refine wpAny_newFunctionEnv_cells hk (kindsX hkind _) fun env he s₁ x => ?_
  subst he
  exact ⟨hlim.keeps x.toInCall.keep, codeAny_func (h s₁ x)⟩

/-- C(..): dict at size, instance at size + 1, then __init__ -/
theorem make_obj {R : Result → Shared → Prop} {C fI : Addr} {rest : List Value} {kw : List (Str × Value)}
    (X : K.In s.heap) (hm : makesIn K C = true) (hi : findIn K (.ref C) "__init__" = some (some (.ref fI))) (hf : isFn K (.ref fI) = true)
    (h : codeAny (model prog w) (A.under (.builtin "type.__call__" ⟨.ref C :: rest, kw⟩)) (.call (.ref fI) ⟨.ref (s.heap.objs.size + 1) :: rest, kw⟩) (InitBack (s.heap.objs.size + 1) R)
      { s with heap := (s.heap.push emptyDict).push (instObj C s.heap.objs.size) }) : codeAny (model prog w) A (.call (.ref C) ⟨rest, kw⟩) R s := by
  obtain ⟨hh, g, d, t, os⟩ := s
  exact make_core (makes_of X hm) (looks_findIn X hi) (fun self => bind_fn X self (beq_iff_eq.mp hf)) (.inl rfl) h

/-- x.name where the instance's dict holds the name and the class does not -/
theorem get_field {x C : Addr} {ox : Obj} {es : List DictEntry} {n : Nat} {name : Str} {expr : Bool} {v : Value} {Q : Value → Shared → Prop}
    (X : K.In s.heap) (I : PySem.W.InstAt s.heap x ox C (some (dictOf es n))) (hg : plainGet K C name = true) (hh : hasDictIn K C = true) (ha : findIn K (.ref C) name = some none)
    (hl : getL name es = some (some v)) (hv : handedIn v = true) (h : Q v { s with toks := s.toks + 1 }) : wpAny (model prog w) A (getAttr (.ref x) name expr) Q E s :=
  get_value X I (plainGet_of hg).1 (findObj_own hh ha rfl hl) hv h

/-- x.m(..): the method found in the class -/
theorem get_method {x C f : Addr} {ox : Obj} {es : List DictEntry} {n : Nat} {name : Str} {pl : Sem Bool} {Q : Value × List Value → Shared → Prop}
    (X : K.In s.heap) (I : PySem.W.InstAt s.heap x ox C (some (dictOf es n))) (hg : plainGet K C name = true) (hf : findIn K (.ref C) name = some (some (.ref f))) (ht : isFn K (.ref f) = true)
    (hl : getL name es = some none) (h : Q (.ref f, [.ref x]) s) : wpAny (model prog w) A (getMethod (.ref x) name pl) Q E s :=
  method_fn X I (plainGet_of hg).1 (plainGet_of hg).2 hf (beq_iff_eq.mp ht) (by show (lookIn name (dictOf es n)).map _ = _; rw [lookIn_dict, hl]; rfl) h

/-! the whole heap as the ledger: makes every rule that writes through a ledger a rule over any heap -/
def noObjs (h : Heap) : Heap := { h with objs := #[] }
theorem noObjs_get (h : Heap) (b : Addr) : (noObjs h).get? b = none := by
  cases e : (noObjs h).get? b with
  | none => rfl
  | some o => exact absurd (Heap.lt_size e) (Nat.not_lt_zero _)
def ledger (h : Heap) (L d : Addr) : List (Addr × Obj) := (List.range h.objs.size).filterMap fun a => if a = L ∨ a = d then none else (h.get? a).map fun o => (a, o)
theorem mem_ledger {h : Heap} {L d a : Addr} {o : Obj} : (a, o) ∈ ledger h L d ↔ a ≠ L ∧ a ≠ d ∧ h.get? a = some o := by
  unfold ledger
  rw [List.mem_filterMap]
  constructor
  · rintro ⟨b, _, e⟩
    split at e
    · cases e
    · rename_i hb
      obtain ⟨o', ho, e'⟩ := Option.map_eq_some_iff.mp e
      cases e'
      exact ⟨fun q => hb (.inl q), fun q => hb (.inr q), ho⟩
  · rintro ⟨n1, n2, ho⟩
    refine ⟨a, List.mem_range.mpr (Heap.lt_size ho), ?_⟩
    rw [if_neg (show ¬ (a = L ∨ a = d) from fun q => q.elim n1 n2), ho] <;> rfl
theorem news_ledger {h : Heap} {L d : Addr} {od : Obj} (hne : d ≠ L) (ho : h.get? d = some od) : News (noObjs h) L h ([] ++ (d, od) :: ledger h L d) := by
  rintro ⟨a, o⟩ hp
  rcases List.mem_cons.mp hp with e | hp
  · cases e
    exact ⟨ho, hne, noObjs_get _ _⟩
  · obtain ⟨n1, n2, e⟩ := mem_ledger.mp hp
    exact ⟨e, n1, noObjs_get _ _⟩
theorem fr_all {h : Heap} {L : Addr} {m : Str → Option Value} (n : h.Ns L m) : Fr (noObjs h) L h m :=
  ⟨n, fun b o e => (by rw [noObjs_get] at e; cases e), Nat.zero_le _⟩
/-- Upd of the head entry (for append_K, setItem_K ..) -/
theorem upd_ledger {h : Heap} {L d : Addr} {o o' : Obj} : Upd d o o' ((d, o) :: ledger h L d) ((d, o') :: ledger h L d) :=
  .head fun ⟨_, _⟩ hp => (mem_ledger.mp hp).2.1

/-- x.name = v over any heap: L is any namespace of the heap (the frame's, say): its map stays, its object is not told; all else but the dict stays -/
theorem set_field {x C dx L : Addr} {ox : Obj} {m : Str → Option Value} {es es' : List DictEntry} {n n' : Nat} {name : Str} {v : Value} {Q : Unit → Shared → Prop}
    (X : K.In s.heap) (I : PySem.W.InstAt s.heap x ox C (some (dictOf es n))) (hd : ox.dict = some dx) (hL : s.heap.Ns L m) (hne : dx ≠ L)
    (hs : findIn K (.ref C) "__setattr__" = some (some (.builtin "object.__setattr__"))) (hp : plainOver K C = true) (ht : takerIn K C name = some none) (hh : hasDictIn K C = true) (hl : (getL name es).isSome = true)
    (e : (putL name (PyData.keyHash w.params name) (.str name (s.toks + 1)) v es, putN name es n) = (es', n')) (hz : es'.length ≤ 1000)
    (h : ∀ h' : Heap, h'.Ns L m → h'.get? dx = some (dictOf es' n') → (∀ b o, b ≠ dx → b ≠ L → s.heap.get? b = some o → h'.get? b = some o) → Q () { s with heap := h', toks := s.toks + 2 }) :
    wpAny (model prog w) A (setAttr (.ref x) name v) Q E s := by
  obtain ⟨e1, e2⟩ := Prod.mk.inj e
  have hdx : s.heap.get? dx = some (dictOf es n) := by
    have := I.dict
    rw [hd] at this
    exact this
  refine set_plain X I hs (osa_dict (s := { s with toks := s.toks + 1 }) (h₀ := noObjs s.heap) (L := L) (m := m) (od := dictOf es n) (od' := dictOf es' n') (es := es') (n := n') (pre := []) (post := ledger s.heap L dx)
    (fr_all hL) (news_ledger hne hdx) X I hd hp ht hh hl (fun _ q => nomatch q) (fun ⟨_, _⟩ q => (mem_ledger.mp q).2.1) (by rw [putName_dict, e1, e2]) rfl hz fun h' F' N' => ?_)
  exact h h' F'.ns (N'.get (List.Mem.head _)) fun b o n1 n2 ho => N'.get (List.Mem.tail _ (mem_ledger.mpr ⟨n2, n1, ho⟩))
end
end Att

namespace L2
open PySem PySem.Spec PyProof.Rows

theorem vals_ints : ∀ {vs : List Value} {ns : List Int}, IntsAre vs ns → Vals (ns.map V.int) vs
  | _, _, .nil => .nil
  | _, _, .cons n t h => .cons ⟨t, rfl⟩ (vals_ints h)

/-- nothing is tracked but the script, known to the object (or it is an object of the module) -/
def Only (H : Hp) : Prop := ∀ b, H b = none ∨ ∃ o xs, H b = some (.frz o (.lst xs))

/-- THE HEAD: the law's promise, at the heap behind the top. F, the promise of the law's def, may use that base is part of the heap (so K.In base, base.Ns mainGlobals mg stand in Mod) -/
theorem law_call {P : Program} {w : World} {K : PySem.W.Frag} {mg mb : Str → Option Value} {CX : CXT} {k : Nat} {fa a : Addr} {fd : FuncData} {x : Str} {sp : Sp} {s₁ : Shared} {vs : List Value} {ns : List Int}
    (KX : K.In s₁.heap) (hns : s₁.heap.Ns mainGlobals mg) (hb : s₁.heap.Ns builtinsNs mb) (hbb : ∀ x : Str, x ≠ "__name__" → mb x = bootBuiltins x) (hlim : s₁.heap.NoLimit) (hg : s₁.gens = #[])
    (ha : s₁.heap.get? a = some { cls := .type "list", data := .seq vs.toArray }) (hi : IntsAre vs ns) (hl : ns.length ≤ sizeLine) (hr : Room k callerA)
    (F : ∀ base : Heap, K.In base → base.Ns mainGlobals mg → FnOk P w K mg base CX k fa fd [x] sp) (hbind : ∀ (s : Shared) (u : Value), BindsTo s fd ⟨[u], []⟩ [(x, u)])
    (hsp : ∀ H : Hp, Only H → SqL K H a (ns.map V.int) → sp [.ref a] H (fun v _ => v = .bl true) fun _ _ _ => False)
    (hCX : ∀ H e s', CX [] H s₁ (fun _ _ _ => False) e s' → False) :
    codeAny (model P w) callerA (.call (.ref fa) ⟨[.ref a], []⟩) (fun r s' => r = .ok (.ret (.bool true)) ∧ OldK s₁.heap s'.heap ∧ s'.os = s₁.os ∧ AllBare s'.gens) s₁ := by
  have rv := vals_ints hi
  have lenV := hi.length
  -- from an abstract heap in which nothing but the script may be tracked
  have core : ∀ H : Hp, Only H → SqL K H a (ns.map V.int) → HOk P w H s₁.heap → (∀ b, H b ≠ none → b = a) → (H a ≠ none → K.lookup a = none) →
      codeAny (model P w) callerA (.call (.ref fa) ⟨[.ref a], []⟩) (fun r s' => r = .ok (.ret (.bool true)) ∧ OldK s₁.heap s'.heap ∧ s'.os = s₁.os ∧ AllBare s'.gens) s₁ := by
    intro H hO hS hok hA hK
    have base_of : ∀ {b : Addr} {o : Obj}, s₁.heap.get? b = some o → H b = none → (hidT s₁.heap H).get? b = some o := fun e n => hidT_get e n
    have noA : ∀ {b : Addr} {o : Obj} {es : Array DictEntry} {ep : Nat}, s₁.heap.get? b = some o → o.data = .dict es ep → H b = none := fun {b o es ep} e d => by
      cases q : H b with
      | none => rfl
      | some u =>
        have e' : b = a := hA b (by rw [q]; simp)
        subst e'
        rw [ha] at e; cases e
        have d' : Data.seq vs.toArray _ = Data.dict es ep := d
        cases d'
    have nsK : ∀ {b : Addr} {m : Str → Option Value}, s₁.heap.Ns b m → (hidT s₁.heap H).Ns b m := fun {b m} ⟨o, es, ep, e, d, r⟩ => ⟨o, es, ep, base_of e (noA e d), d, r⟩
    have hKb : K.In (hidT s₁.heap H) := fun b o e => base_of (KX b o e) (by
      cases q : H b with
      | none => rfl
      | some u =>
        have e' : b = a := hA b (by rw [q]; simp)
        subst e'
        rw [hK (by rw [q]; simp)] at e; cases e)
    have hM : Mod K mg (hidT s₁.heap H) := ⟨hKb, nsK hns, ⟨mb, nsK hb, hbb⟩, let ⟨mc, h1, h2⟩ := hlim; ⟨mc, nsK h1, h2⟩⟩
    have e0 : Env0 P w K mg (hidT s₁.heap H) callerA [] s₁ H := ⟨rfl, hM, fun b o e => of_hidT e, Nat.le_of_eq (hidT_size _ _), trivial, fun b hb => absurd (show b ∈ ([] : List Addr) from hb) (by simp), hok, .of_eq hg⟩
    refine codeAny_mono ((F _ hKb (nsK hns)).run callerA [] s₁ H ⟨[.ref a], []⟩ [.ref a] [.ref a] _ _ hr e0 (hbind s₁ (.ref a)) (.cons rfl .nil) (hsp H hO hS)) fun r s' h => ?_
    cases r with
    | error e => exact (hCX H e s' h).elim
    | ok fl =>
      cases fl with
      | next => exact False.elim h
      | brk => exact False.elim h
      | cont => exact False.elim h
      | ret u =>
        obtain ⟨v, H', os, bare, un, hok', r', q⟩ := h
        have q' : v = .bl true := q
        subst q'
        obtain rfl : u = Value.bool true := r'
        refine ⟨rfl, OldK.of_keep fun b o e => ?_, os, bare⟩
        cases q : H b with
        | none => exact un.keep b o e q (by intro z; exact absurd (show b ∈ ([] : List Addr) from z) (by simp)) (by simp)
        | some u =>
          rcases hO b with z | ⟨ob, xs, z⟩
          · rw [q] at z; cases z
          · have z2 := un.frzs b ob _ z
            obtain ⟨e1, _⟩ := hok b _ z
            obtain ⟨e2, _⟩ := hok' b _ z2
            rw [e] at e1; cases e1
            exact e2
  cases hk : K.lookup a with
  | some o =>
    -- the script is one of the module's own objects
    have e := KX a o hk
    rw [ha] at e
    cases e
    refine core (fun _ => none) (fun _ => .inl rfl) (.inr ⟨_, vs.toArray, _, hk, rfl, rfl, rfl, by rw [List.size_toArray, lenV]; exact hl, by simpa using rv⟩) (fun b u z => by have z' : (none : Option HO) = some u := z; cases z') (fun b z => absurd rfl z) fun z => absurd rfl z
  | none =>
    refine core (fun b => if b = a then some (.frz { cls := .type "list", data := .seq vs.toArray } (.lst (ns.map V.int))) else none) (fun b => ?_) (.inl (.inr ⟨{ cls := .type "list", data := .seq vs.toArray }, if_pos rfl⟩)) (fun b u z => ?_) (fun b z => ?_) fun _ => hk
    · by_cases hb : b = a
      · exact .inr ⟨_, _, if_pos hb⟩
      · exact .inl (if_neg hb)
    · by_cases hb : b = a
      · have z' := (if_pos hb).symm.trans z
        cases z'
        subst hb
        exact ⟨ha, by rw [List.length_map]; exact hl, vs, _, rv, ha⟩
      · have z' := (if_neg hb).symm.trans z
        cases z'
    · by_cases hb : b = a
      · exact hb
      · exact absurd (if_neg hb) z
end L2

namespace L2
open PySem PySem.Spec PyProof.Rows

abbrev KOf {K : PySem.W.Frag} {h : Heap} (_ : K.In h) : PySem.W.Frag := K

/-- the goal that k_head leaves (case hc), from the law's promise. F gives the function object fd (K's own) once, then the promise over every base -/
theorem walk_of {l : PySem.W.OpenLaw} {n k : Nat} {q : Program} {loose : List Str} {XP : (Str → Option Value) → Heap → Prop} {YP : World → Heap → Prop} {d : DefRec} {K : Params → PySem.W.Frag} {CX : World → CXT} {sp : World → Sp} {x : Str}
    (hn : l.most = some n) (hn2 : n ≤ sizeLine) (hdf : d.params.defaults = []) (hr : Room k callerA)
    (hY : ∀ (w : World) (h : Heap), YP w h → (K w.params).In h)
    (F : ∀ (w : World) (mg : Str → Option Value) (fa : Addr) (h : Heap), (K w.params).In h → h.Ns mainGlobals mg → mg d.name = some (.ref fa) →
      ∃ fd : FuncData, (∀ (s : Shared) (u : Value), BindsTo s fd ⟨[u], []⟩ [(x, u)]) ∧
        ∀ base : Heap, (K w.params).In base → base.Ns mainGlobals mg → FnOk l.prog w (K w.params) mg base (CX w) k fa fd [x] (sp w))
    (hsp : ∀ (w : World) (H : Hp) (a : Addr) (ns : List Int), ns.length ≤ n → Only H → SqL (K w.params) H a (ns.map V.int) → sp w [.ref a] H (fun v _ => v = .bl true) fun _ _ _ => False)
    (hCX : ∀ (w : World) (H : Hp) (s : Shared) (e : Value) (s' : Shared), CX w [] H s (fun _ _ _ => False) e s' → False) :
    PySem.W.WalkO q loose XP YP l.row.toRowW d [] (fun f vs => PySem.call f vs) := by
  refine Att.attach_call hn hdf fun w s₀ s₁ mg mb fa o pm cd doc a vs ns G Y ho hd hcd hmg hobj hints hlen hg => ?_
  have KX := hY w _ Y
  obtain ⟨fd, hb, hF⟩ := F w mg fa _ KX G.T.g hmg
  exact law_call KX G.T.g G.T.b G.T.builtins G.T.nolimit hg hobj hints (Nat.le_trans hlen hn2) hr hF hb (fun H hO hS => hsp w H a ns hlen hO hS) fun H e s' => hCX w H s₁ e s'
/-- the same where the promise hangs on the written part alone: (sp := My.sp_law), no hole under a binder -/
theorem walk_ofK {l : PySem.W.OpenLaw} {n k : Nat} {q : Program} {loose : List Str} {XP : (Str → Option Value) → Heap → Prop} {YP : World → Heap → Prop} {d : DefRec} {K : Params → PySem.W.Frag} {CX : CXT} {sp : PySem.W.Frag → Sp} {x : Str}
    (hn : l.most = some n) (hn2 : n ≤ sizeLine) (hdf : d.params.defaults = []) (hr : Room k callerA)
    (hY : ∀ (w : World) (h : Heap), YP w h → (K w.params).In h)
    (F : ∀ (w : World) (mg : Str → Option Value) (fa : Addr) (h : Heap), (K w.params).In h → h.Ns mainGlobals mg → mg d.name = some (.ref fa) →
      ∃ fd : FuncData, (∀ (s : Shared) (u : Value), BindsTo s fd ⟨[u], []⟩ [(x, u)]) ∧
        ∀ base : Heap, (K w.params).In base → base.Ns mainGlobals mg → FnOk l.prog w (K w.params) mg base CX k fa fd [x] (sp (K w.params)))
    (hsp : ∀ (K : PySem.W.Frag) (H : Hp) (a : Addr) (ns : List Int), ns.length ≤ n → Only H → SqL K H a (ns.map V.int) → sp K [.ref a] H (fun v _ => v = .bl true) fun _ _ _ => False)
    (hCX : ∀ (H : Hp) (s : Shared) (e : Value) (s' : Shared), CX [] H s (fun _ _ _ => False) e s' → False) :
    PySem.W.WalkO q loose XP YP l.row.toRowW d [] (fun f vs => PySem.call f vs) :=
  walk_of (K := K) (CX := fun _ => CX) (sp := fun w => sp (K w.params)) hn hn2 hdf hr hY F (fun w H a ns h1 h2 h3 => hsp (K w.params) H a ns h1 h2 h3) fun _ H s e s' => hCX H s e s'
end L2

/- THE LAST THEOREM (shape; LID, My.* are yours):
   My.Adr: a structure of the addresses that your layer names (classes, functions); My.Txt K t: a structure (Prop) of the equations over K;
   My.txt_mk : {K} {implicit addresses ..} (e1 : nsIn K mainGlobals "law" = some (some (.ref f))) (e2 : K.lookup f = some ⟨oc, od, .func (fnOf "law" "law" params body scope dV kV doc pm an cdv ct), sl⟩) (e3 : codeIn K cdv "law" = true) .. : ∃ t, My.Txt K t

set_option maxRecDepth 100000 in
set_option maxHeartbeats 0 in
theorem PySem.Challenge.cw_LID_holds : PySem.Challenge.rw_LID.Holds := by
  w_on; o_law; k_head; (case hw => w_witness2)
  k_fill
  refine L2.walk_of (l := PySem.Challenge.rw_LID) (n := 63) (k := 40) (x := "script") (CX := fun w => ..) (sp := fun _ => My.sp_law) rfl (by decide) rfl ⟨rfl, by decide, by decide⟩ (fun w h Y => PySem.W.kIn_of Y) ?F ?S ?C
  case F =>
    intro w mg fa h KX G hmg
    have T : ∃ t, My.Txt (L2.KOf KX) t := by
      dsimp only [L2.KOf]                          -- K must stand as «<heap const> w.params» for k_is
      refine' My.txt_mk ?e1 ?e2 ?e3 ..
      (case e1 => PySem.W.k_is)                    -- in the order: a name -> its address -> its object -> its parts
      (case e2 => PySem.W.k_is)
      ..
    obtain ⟨t, T⟩ := T
    have e0 := hmg.symm.trans (PySem.W.mg_of KX G T.law)
    cases e0                                       -- fa is the law's own address
    exact ⟨_, fun s u => .of_eq rfl, fun base kb nb => My.law_fn T kb nb⟩     -- if «.of_eq rfl» comes too early: refine' ⟨_, ?b, fun base kb nb => My.law_fn T kb nb⟩; exact fun s u => .of_eq rfl
  case S => exact fun w H a ns hl hO hS => ..
  case C => exact ..
(the tactic k_is has no namespace: write k_is) -/

/-! SHORT WORDS over the layer: a def of the text, its body, what a loop and a test want. -/
namespace L2
open PySem PySem.Spec PyProof.Rows

/-! ### the text by places -/
/-- the j-th statement of a class's body -/
def inClass (s : Stmt) (j : Nat) : Stmt := match s with
  | .ClassDef _ _ _ body _ _ _ _ _ _ _ => body.getD j (.Pass ⟨0, 0, 0, 0⟩)
  | _ => .Pass ⟨0, 0, 0, 0⟩
def defArgs (s : Stmt) : Arguments := match s with
  | .FunctionDef _ a _ _ _ _ _ _ _ _ => a
  | _ => { posonlyargs := [], args := [], vararg := none, kwonlyargs := [], kw_defaults := [], kwarg := none, defaults := [] }
def defBody (s : Stmt) : List Stmt := match s with
  | .FunctionDef _ _ b _ _ _ _ _ _ _ => b
  | _ => []
def defScope (s : Stmt) : Scope := match s with
  | .FunctionDef _ _ _ _ _ _ sc _ _ _ => sc
  | _ => { kind := .function, names := [], isGenerator := false, isCoroutine := false }

/-! ### no exception leaves a def -/
abbrev CX0 : CXT := fun _ _ _ _ _ _ => False
abbrev E0 : XK := fun _ _ _ => False
theorem pass0 {X : Cx} : Passes CX0 X E0 := fun _ _ _ _ _ _ _ h => h.elim

/-! ### a def (or method) of the text as it stands behind the top -/
structure Fun (K : PySem.W.Frag) (x qual : Str) (st : Stmt) (f : Addr) (fd : FuncData) : Prop where
  ex : ∃ (oc : Value) (od : Option Addr) (kV doc pm : Value) (an : Option Addr) (cdv ct : Value) (osl : Array (Option Value)),
    fd = PySem.W.fnOf x qual (defArgs st) (defBody st) (defScope st) .none kV doc pm an cdv ct ∧ K.lookup f = some ⟨oc, od, .func fd, osl⟩ ∧ PySem.W.codeIn K cdv qual = true
  kp : PySem.W.keepIn K (.ref f) = true
section
variable {P : Program} {w : World} {K : PySem.W.Frag} {mg : Str → Option Value} {base : Heap}
/-- THE RULE for a def: its body as a term of rules, and the reading of that term -/
theorem Fun.ok {x qual : Str} {st : Stmt} {f : Addr} {fd : FuncData} {N ps : List Str} {k : Nat} {sp : Sp} (F : Fun K x qual st f fd) (S : FnScope N ps (defScope st)) (len : ∀ vs H Q E, sp vs H Q E → vs.length = ps.length)
    (hbody : ∀ (cdv : Value) (A : Around) (outer : List Env) (s : Shared) (H : Hp) (vs : List V) (Q : VK) (E : XK), Room k (A.deeper (envOfC qual (defScope st) s.heap.objs.size f cdv)) → sp vs H Q E →
      ∃ t, PSs (cxOf CX0 P w K mg base N qual (defScope st) f cdv A outer s H E).nox (defBody st) t ∧ t { nx := fun _ H' => Q .non H', rt := Q } (start N vs) H) : FnOk P w K mg base CX0 (k + 1) f fd ps sp := by
  obtain ⟨oc, od, kV, doc, pm, an, cdv, ct, osl, rfl, lk, hcd⟩ := F.ex
  refine fn_of lk hcd S len fun A outer s H vs Q E hr hsp => ?_
  obtain ⟨t, h, q⟩ := hbody cdv A outer s H vs Q E hr hsp
  exact ⟨t, h.nox, q⟩
/-- how its arguments bind (no defaults): h is «fun _ _ _ _ _ _ us hl => match us, hl with | [_, _], _ => rfl», one _ a parameter -/
theorem Fun.binds {x qual : Str} {st : Stmt} {f : Addr} {fd : FuncData} {ps : List Str} (F : Fun K x qual st f fd)
    (h : ∀ (kV doc pm : Value) (an : Option Addr) (cdv ct : Value) (us : List Value), us.length = ps.length → bindArgs (PySem.W.fnOf x qual (defArgs st) (defBody st) (defScope st) .none kV doc pm an cdv ct) ⟨us, []⟩ = pure (ps.zip us)) : Binds K fd ps [] := by
  obtain ⟨oc, od, kV, doc, pm, an, cdv, ct, osl, rfl, lk, hcd⟩ := F.ex
  exact .all (h kV doc pm an cdv ct)
theorem fun_mk {x qual : Str} {st : Stmt} {f : Addr} {oc : Value} {od an : Option Addr} {osl : Array (Option Value)} {kV doc pm cdv ct : Value} (l : K.lookup f = some ⟨oc, od, .func (PySem.W.fnOf x qual (defArgs st) (defBody st) (defScope st) .none kV doc pm an cdv ct), osl⟩)
    (c : PySem.W.codeIn K cdv qual = true) (k : PySem.W.keepIn K (.ref f) = true) : Fun K x qual st f (PySem.W.fnOf x qual (defArgs st) (defBody st) (defScope st) .none kV doc pm an cdv ct) := ⟨⟨oc, od, kV, doc, pm, an, cdv, ct, osl, rfl, l, c⟩, k⟩
end
theorem hu_of {A : Around} {k : Nat} (hr : Room k A) : A.units + 1 < cLine := Nat.lt_of_le_of_lt (Nat.add_le_add_left (by decide : 1 ≤ 64) _) hr.units
theorem small1000 {n : Nat} (h : n ≤ 1000) : n < sizeLine := Nat.lt_of_le_of_lt h (by decide)

/-! ### expressions in short: the name that stands in the i-th slot -/
section
variable {X : Cx}
theorem pv (i : Nat) {x : Str} {pos : Pos} (hN : X.N[i]? = some x := by rfl) (hv : Vis X.env.scope x := by first | exact Or.inl rfl | exact Or.inr (Or.inl rfl) | exact Or.inr (Or.inr rfl)) (hd : (x == ("__debug__" : Str)) = false := by decide)
    (hcd : (x == ("__classdict__" : Str)) = false := by decide) : PE X (.Name x pos) (tVar i) := pe_var hN hv hd hcd
end

/-! ### tests -/
theorem iteF {A B : Prop} (h : B) : if false = true then A else B := by
  rw [if_neg Bool.false_ne_true]
  exact h
theorem iteT {A B : Prop} (h : A) : if true = true then A else B := by
  rw [if_pos rfl]
  exact h
theorem ite2 {c A B : Prop} [Decidable c] (h1 : c → A) (h2 : ¬ c → B) : if c then A else B := by
  by_cases h : c
  · rw [if_pos h]
    exact h1 h
  · rw [if_neg h]
    exact h2 h
theorem iteNS {c A B : Prop} [Decidable c] (hc : c) (h : B) : if (!decide c) = true then A else B := by
  rw [decide_eq_true hc]
  exact iteF h

/-! ### heaps -/
/-- all that was tracked is as it was -/
def Same (H H' : Hp) : Prop := ∀ b o, H b = some o → H' b = some o
theorem Same.refl (H : Hp) : Same H H := fun _ _ h => h
theorem Same.trans {H H1 H2 : Hp} (a : Same H H1) (b : Same H1 H2) : Same H H2 := fun c o h => b c o (a c o h)
theorem Same.free {H H' : Hp} (e : Same H H') {l : Addr} (h : H' l = Option.none) : H l = Option.none := by
  cases q : H l with
  | none => rfl
  | some o =>
    rw [e l o q] at h
    cases h
theorem Same.seq {K : PySem.W.Frag} {H H' : Hp} {a : Addr} {xs : List V} (e : Same H H') (h : SqL K H a xs) : SqL K H' a xs := by
  rcases h with (h | ⟨o, h⟩) | h
  · exact .inl (.inl (e _ _ h))
  · exact .inl (.inr ⟨o, e _ _ h⟩)
  · exact .inr h

end L2
set_option Elab.async false
set_option linter.all false
set_option maxRecDepth 100000
namespace L2
open PySem PySem.Spec PyProof.Rows

/-! ### lists of pairs as tables -/
section
variable {κ : Type} [DecidableEq κ]
def valV (kvs : List (κ × V)) (k : κ) : Option V := (kvs.find? fun kv => decide (kv.1 = k)).map (·.2)
/-- in its place, or at the end -/
def putK (kvs : List (κ × V)) (k : κ) (v : V) : List (κ × V) :=
  if (kvs.any fun kv => decide (kv.1 = k)) = true then kvs.map (fun kv => if kv.1 = k then (kv.1, v) else kv) else kvs ++ [(k, v)]
def dropK (kvs : List (κ × V)) (k : κ) : List (κ × V) := kvs.filter fun kv => decide (kv.1 ≠ k)

theorem valV_nil {k : κ} : valV ([] : List (κ × V)) k = none := rfl
theorem valV_pos {p : κ × V} {r : List (κ × V)} {k : κ} (e : p.1 = k) : valV (p :: r) k = some p.2 := by simp [valV, List.find?_cons, e]
theorem valV_neg {p : κ × V} {r : List (κ × V)} {k : κ} (e : ¬ p.1 = k) : valV (p :: r) k = valV r k := by simp [valV, List.find?_cons, e]
theorem valV_any (k : κ) : ∀ kvs : List (κ × V), (kvs.any fun kv => decide (kv.1 = k)) = (valV kvs k).isSome
  | [] => rfl
  | p :: r => by
    rw [List.any_cons]
    by_cases e : p.1 = k
    · simp only [valV_pos e, decide_eq_true e, Bool.true_or, Option.isSome_some]
    · rw [valV_neg e, decide_eq_false e, Bool.false_or]; exact valV_any k r
theorem valV_map (k j : κ) (y : V) : ∀ kvs : List (κ × V), valV (kvs.map fun kv => if kv.1 = k then (kv.1, y) else kv) j = (valV kvs j).map fun x => if j = k then y else x
  | [] => rfl
  | p :: r => by
    have ih := valV_map k j y r
    rw [List.map_cons]
    by_cases h : p.1 = k
    · rw [if_pos h]
      by_cases e : p.1 = j
      · rw [valV_pos (p := (p.1, y)) e, valV_pos e, Option.map_some, if_pos (e.symm.trans h)]
      · rw [valV_neg (p := (p.1, y)) e, valV_neg e, ih]
    · rw [if_neg h]
      by_cases e : p.1 = j
      · rw [valV_pos (p := p) e, valV_pos e, Option.map_some, if_neg (fun z => h (e.trans z))]
      · rw [valV_neg (p := p) e, valV_neg e, ih]
theorem valV_snoc (k j : κ) (y : V) : ∀ kvs : List (κ × V), valV kvs k = none → valV (kvs ++ [(k, y)]) j = if j = k then some y else valV kvs j
  | [], _ => by
    by_cases e : k = j
    · rw [if_pos e.symm]; exact valV_pos (p := (k, y)) e
    · rw [if_neg (fun z => e z.symm)]; exact valV_neg (p := (k, y)) e
  | p :: r, hn => by
    rw [List.cons_append]
    have hk : ¬ p.1 = k := fun z => by rw [valV_pos z] at hn; cases hn
    rw [valV_neg hk] at hn
    have ih := valV_snoc k j y r hn
    by_cases e : p.1 = j
    · rw [valV_pos e, valV_pos e, if_neg (fun z => hk (e.trans z))]
    · rw [valV_neg e, valV_neg e, ih]
theorem valV_put (kvs : List (κ × V)) (k j : κ) (y : V) : valV (putK kvs k y) j = if j = k then some y else valV kvs j := by
  unfold putK
  by_cases a : (kvs.any fun kv => decide (kv.1 = k)) = true
  · rw [if_pos a, valV_map]
    rw [valV_any] at a
    by_cases e : j = k
    · obtain ⟨x, hx⟩ := Option.isSome_iff_exists.mp a
      rw [if_pos e, e, hx, Option.map_some, if_pos rfl]
    · rw [if_neg e]
      cases valV kvs j with
      | none => rfl
      | some x => rw [Option.map_some, if_neg e]
  · rw [if_neg a]
    refine valV_snoc k j y kvs ?_
    rw [valV_any] at a
    cases q : valV kvs k with
    | none => rfl
    | some x => rw [q] at a; exact (a rfl).elim
theorem length_putK (kvs : List (κ × V)) (k : κ) (v : V) : (putK kvs k v).length ≤ kvs.length + 1 := by
  unfold putK
  split
  · rw [List.length_map]; omega
  · rw [List.length_append, List.length_cons, List.length_nil]; omega
theorem putK_new {kvs : List (κ × V)} {k : κ} (v : V) (h : valV kvs k = none) : putK kvs k v = kvs ++ [(k, v)] := by
  unfold putK
  rw [valV_any, h]
  exact if_neg (by decide)

theorem RelO.isSome_eq {o : Option V} {u : Option Value} (r : RelO o u) : o.isSome = u.isSome := by
  cases o with
  | none => cases u with
    | none => rfl
    | some _ => exact (show False from r).elim
  | some _ => cases u with
    | none => exact (show False from r).elim
    | some _ => rfl
theorem RelO.getD {o : Option V} {u : Option Value} {d : V} {d' : Value} (r : RelO o u) (rd : RelV d d') : RelV (o.getD d) (u.getD d') := by
  cases o with
  | none => cases u with
    | none => exact rd
    | some _ => exact (show False from r).elim
  | some _ => cases u with
    | none => exact (show False from r).elim
    | some _ => exact r

/-- raw tables of the same keys -/
theorem KV.val {kvs : List (κ × V)} {vs : List (κ × Value)} (r : KV kvs vs) (k : κ) : RelO (valV kvs k) (valueAt vs k) := by
  unfold KV at r
  induction r with
  | nil => exact True.intro
  | @cons p q ps qs h t ih =>
    obtain ⟨h1, h2⟩ := h
    by_cases e : p.1 = k
    · have e' : q.1 = k := h1.symm.trans e
      have b : valueAt (q :: qs) k = some q.2 := by simp [valueAt, List.find?_cons, e']
      rw [valV_pos e, b]; exact h2
    · have e' : ¬ q.1 = k := fun z => e (h1.trans z)
      have b : valueAt (q :: qs) k = valueAt qs k := by simp [valueAt, List.find?_cons, e']
      rw [valV_neg e, b]; exact ih
theorem KV.any {kvs : List (κ × V)} {vs : List (κ × Value)} (r : KV kvs vs) (k : κ) : (kvs.any fun kv => decide (kv.1 = k)) = vs.any fun kv => decide (kv.1 = k) := by
  unfold KV at r
  induction r with
  | nil => rfl
  | cons h t ih => rw [List.any_cons, List.any_cons, ih, h.1]
theorem KV.repl {kvs : List (κ × V)} {vs : List (κ × Value)} (r : KV kvs vs) (k : κ) {y : V} {u : Value} (ry : RelV y u) :
    KV (kvs.map fun kv => if kv.1 = k then (kv.1, y) else kv) (vs.map fun kv => if kv.1 = k then (kv.1, u) else kv) := by
  unfold KV at r ⊢
  induction r with
  | nil => exact .nil
  | @cons p q ps qs h t ih =>
    rw [List.map_cons, List.map_cons]
    refine .cons ?_ ih
    obtain ⟨h1, h2⟩ := h
    by_cases e : p.1 = k
    · rw [if_pos e, if_pos (h1.symm.trans e)]; exact ⟨h1, ry⟩
    · rw [if_neg e, if_neg (fun z => e (h1.trans z))]; exact ⟨h1, h2⟩
theorem KV.put {kvs : List (κ × V)} {vs : List (κ × Value)} (r : KV kvs vs) (k : κ) {y : V} {u : Value} (ry : RelV y u) : KV (putK kvs k y) (stored vs k u) := by
  unfold putK stored
  rw [r.any k]
  by_cases e : (vs.any fun kv => decide (kv.1 = k)) = true
  · rw [if_pos e, if_pos e]; exact r.repl k ry
  · rw [if_neg e, if_neg e]; exact Paired.snoc r ⟨rfl, ry⟩
theorem KV.drop {kvs : List (κ × V)} {vs : List (κ × Value)} (r : KV kvs vs) (k : κ) : KV (dropK kvs k) (without vs k) := by
  unfold KV at r ⊢
  unfold dropK without
  induction r with
  | nil => exact .nil
  | @cons p q ps qs h t ih =>
    obtain ⟨h1, h2⟩ := h
    rw [List.filter_cons, List.filter_cons]
    by_cases e : p.1 = k
    · have a : ¬ decide (p.1 ≠ k) = true := by simp [e]
      have b : ¬ decide (q.1 ≠ k) = true := by simp [h1.symm.trans e]
      rw [if_neg a, if_neg b]; exact ih
    · have e' : ¬ q.1 = k := fun z => e (h1.trans z)
      have a : decide (p.1 ≠ k) = true := by simp [e]
      have b : decide (q.1 ≠ k) = true := by simp [e']
      rw [if_pos a, if_pos b]; exact .cons ⟨h1, h2⟩ ih
theorem KV.keys {kvs : List (κ × V)} {vs : List (κ × Value)} (r : KV kvs vs) : kvs.map (·.1) = vs.map (·.1) := by
  unfold KV at r
  induction r with
  | nil => rfl
  | cons h t ih => rw [List.map_cons, List.map_cons, ih, h.1]
theorem KV.length {kvs : List (κ × V)} {vs : List (κ × Value)} (r : KV kvs vs) : kvs.length = vs.length := Paired.length r
theorem dropK_le (kvs : List (κ × V)) (k : κ) : (dropK kvs k).length ≤ kvs.length := List.length_filter_le _ _
end


/-! ### a tracked dict, its keys ints and texts or tuples of these -/
theorem kV_is {P : Program} {w : World} {k : Key} {u : Value} (r : RelV (kV k) u) : (mixKind P w).is k u = true := by
  cases k with
  | inl i => obtain ⟨t, e⟩ := (show ∃ t, u = Value.int i t from r); subst e; exact mixKind_int P w i t
  | inr x => obtain ⟨t, e⟩ := (show ∃ t, u = Value.str x t from r); subst e; exact mixKind_str P w x t
theorem kV_inj {a b : Key} (e : kV a = kV b) : a = b := by
  cases a with
  | inl i => cases b with
    | inl j => have e' : V.int i = V.int j := e; injection e' with e'; rw [e']
    | inr y => exact nomatch (show V.int i = V.str y from e)
  | inr x => cases b with
    | inl j => exact nomatch (show V.str x = V.int j from e)
    | inr y => have e' : V.str x = V.str y := e; injection e' with e'; rw [e']
theorem kVs_inj : ∀ {a b : List Key}, a.map kV = b.map kV → a = b
  | [], [], _ => rfl
  | [], _ :: _, e => by simp at e
  | _ :: _, [], e => by simp at e
  | x :: xs, y :: ys, e => by
    rw [List.map_cons, List.map_cons] at e
    injection e with e1 e2
    rw [kV_inj e1, kVs_inj e2]
theorem items_are {P : Program} {w : World} : ∀ {ks : List Key} {us : List Value}, Vals (ks.map kV) us → ItemsAre (mixKind P w) ks us
  | [], _, r => by rw [List.map_nil] at r; cases r; exact .nil
  | k :: ks, _, r => by
    rw [List.map_cons] at r
    cases r with
    | cons h t => exact .cons (kV_is h) (items_are t)

/-- raw entries of a dict with tuple keys -/
abbrev KT (H : Hp) : List (List Key × V) → List (List Key × Addr × Value) → Prop := Paired fun p q => p.1 = q.1 ∧ H q.2.1 = some (.tup (p.1.map kV)) ∧ RelV p.2 q.2.2
theorem KT.val {H : Hp} {kvs : List (List Key × V)} {xs : List (List Key × Addr × Value)} (r : KT H kvs xs) (k : List Key) : RelO (valV kvs k) ((atKey xs k).map (·.2)) := by
  induction r with
  | nil => exact True.intro
  | @cons p q ps qs h t ih =>
    obtain ⟨h1, _, h2⟩ := h
    by_cases e : p.1 = k
    · have e' : q.1 = k := h1.symm.trans e
      have b : atKey (q :: qs) k = some q.2 := by simp [atKey, List.find?_cons, e']
      rw [valV_pos e, b]; exact h2
    · have e' : ¬ q.1 = k := fun z => e (h1.trans z)
      have b : atKey (q :: qs) k = atKey qs k := by simp [atKey, List.find?_cons, e']
      rw [valV_neg e, b]; exact ih
theorem KT.repl {H : Hp} {kvs : List (List Key × V)} {xs : List (List Key × Addr × Value)} (r : KT H kvs xs) (k : List Key) {y : V} {u : Value} (ry : RelV y u) :
    KT H (kvs.map fun kv => if kv.1 = k then (kv.1, y) else kv) (xs.map (putAt k u)) := by
  induction r with
  | nil => exact .nil
  | @cons p q ps qs h t ih =>
    rw [List.map_cons, List.map_cons]
    refine .cons ?_ ih
    obtain ⟨h1, h2, h3⟩ := h
    unfold putAt
    by_cases e : p.1 = k
    · rw [if_pos e, if_pos (h1.symm.trans e)]; exact ⟨h1, h2, ry⟩
    · rw [if_neg e, if_neg (fun z => e (h1.trans z))]; exact ⟨h1, h2, h3⟩
theorem KT.put {H : Hp} {kvs : List (List Key × V)} {xs : List (List Key × Addr × Value)} (r : KT H kvs xs) (k : List Key) {b : Addr} {y : V} {u : Value} (hb : H b = some (.tup (k.map kV))) (ry : RelV y u) :
    KT H (putK kvs k y) (storedH xs k b u) := by
  have e : (kvs.any fun kv => decide (kv.1 = k)) = (atKey xs k).isSome := by
    rw [valV_any, (r.val k).isSome_eq, Option.isSome_map]
  unfold putK storedH
  rw [e]
  by_cases q : (atKey xs k).isSome = true
  · rw [if_pos q, if_pos q]; exact r.repl k ry
  · rw [if_neg q, if_neg q]; exact Paired.snoc r ⟨rfl, hb, ry⟩
theorem KT.keeps {H H' : Hp} {kvs : List (List Key × V)} {xs : List (List Key × Addr × Value)} (r : KT H kvs xs) (ht : ∀ b ys, H b = some (.tup ys) → H' b = some (.tup ys)) : KT H' kvs xs :=
  Paired.mapP r fun _ _ z => ⟨z.1, ht _ _ z.2.1, z.2.2⟩

section
variable {P : Program} {w : World} {H : Hp} {h : Heap} {a : Addr}
theorem rd_of {u : HO} (ok : HOk P w H h) (e : Rd H a u) : ObjOk P w H h a u := e.ok ok
theorem dk_rd {kvs : List (Key × V)} (ok : HOk P w H h) (e : Rd H a (.dK kvs)) : kvs.length ≤ sizeLine ∧ (a == sysModules) = false ∧ ∃ vs, KV kvs vs ∧ h.DictOf (mixKind P w) a vs :=
  show ObjOk P w H h a (.dK kvs) from rd_of ok e
theorem dk_of {kvs : List (Key × V)} (ok : HOk P w H h) (e : H a = some (.dK kvs)) : kvs.length ≤ sizeLine ∧ (a == sysModules) = false ∧ ∃ vs, KV kvs vs ∧ h.DictOf (mixKind P w) a vs := dk_rd ok (.inl e)
/-- a tracked tuple of ints and texts is a key -/
theorem key_of {ks : List Key} (ok : HOk P w H h) (e : H a = some (.tup (ks.map kV))) : (tupleKind (mixKind P w)).is h ks a := by
  obtain ⟨_, its, r, o, h1, h2, n, h3⟩ := (show ObjOk P w H h a (.tup (ks.map kV)) from ok a _ e)
  exact ⟨o, its.toArray, n, h1, h2, h3, by simpa using items_are r⟩
theorem dt_rd {kvs : List (List Key × V)} (ok : HOk P w H h) (e : Rd H a (.dT kvs)) : kvs.length ≤ sizeLine ∧ (a == sysModules) = false ∧
    ∃ xs, KT H kvs xs ∧ h.DictOfH (tupleKind (mixKind P w)) a xs := by
  obtain ⟨z, y, xs, r, o, es, ep, h1, h2, h3, h4, h5⟩ := (show ObjOk P w H h a (.dT kvs) from rd_of ok e)
  refine ⟨z, y, xs, r, o, es, ep, h1, h2, h3, h4, fun x hx => ?_, h5⟩
  have all : ∀ {l : List (List Key × V)} {m : List (List Key × Addr × Value)}, KT H l m → ∀ x ∈ m, (tupleKind (mixKind P w)).is h x.1 x.2.1 := by
    intro l m q
    induction q with
    | nil => intro x hx; exact nomatch hx
    | @cons p q ps qs hq t ih =>
      intro x hx
      rcases List.mem_cons.mp hx with e | hx
      · subst e
        exact key_of ok (by rw [← hq.1]; exact hq.2.1)
      · exact ih x hx
  exact all r x hx
theorem dt_of {kvs : List (List Key × V)} (ok : HOk P w H h) (e : H a = some (.dT kvs)) : kvs.length ≤ sizeLine ∧ (a == sysModules) = false ∧
    ∃ xs, KT H kvs xs ∧ h.DictOfH (tupleKind (mixKind P w)) a xs := dt_rd ok (.inl e)
end

/-- what the dict at a holds at the key y -/
def DGet (H : Hp) (a : Addr) (y : V) (r : Option V) : Prop :=
  (∃ kvs k, Rd H a (.dK kvs) ∧ y = kV k ∧ r = valV kvs k) ∨ ∃ kvs k b, Rd H a (.dT kvs) ∧ y = .ref b ∧ H b = some (.tup (k.map kV)) ∧ r = valV kvs k
/-- the heap behind a[y] = v -/
def DPut (H : Hp) (a : Addr) (y v : V) (H' : Hp) : Prop :=
  (∃ kvs k, H a = some (.dK kvs) ∧ y = kV k ∧ kvs.length < sizeLine ∧ H' = upd H a (.dK (putK kvs k v))) ∨
  ∃ kvs k b, H a = some (.dT kvs) ∧ y = .ref b ∧ H b = some (.tup (k.map kV)) ∧ kvs.length < sizeLine ∧ H' = upd H a (.dT (putK kvs k v))
theorem DGet.k {H : Hp} {a : Addr} {kvs : List (Key × V)} {k : Key} (e : H a = some (.dK kvs)) : DGet H a (kV k) (valV kvs k) := .inl ⟨kvs, k, .inl e, rfl, rfl⟩
theorem DGet.t {H : Hp} {a b : Addr} {kvs : List (List Key × V)} {k : List Key} (e : H a = some (.dT kvs)) (eb : H b = some (.tup (k.map kV))) : DGet H a (.ref b) (valV kvs k) := .inr ⟨kvs, k, b, .inl e, rfl, eb, rfl⟩
theorem DPut.k {H : Hp} {a : Addr} {kvs : List (Key × V)} {k : Key} {v : V} (e : H a = some (.dK kvs)) (hl : kvs.length < sizeLine) : DPut H a (kV k) v (upd H a (.dK (putK kvs k v))) := .inl ⟨kvs, k, e, rfl, hl, rfl⟩
theorem DPut.t {H : Hp} {a b : Addr} {kvs : List (List Key × V)} {k : List Key} {v : V} (e : H a = some (.dT kvs)) (eb : H b = some (.tup (k.map kV))) (hl : kvs.length < sizeLine) :
    DPut H a (.ref b) v (upd H a (.dT (putK kvs k v))) := .inr ⟨kvs, k, b, e, rfl, eb, hl, rfl⟩


section
variable {X : Cx} {pins : List (Addr × Obj)} {σ : St} {H : Hp} {s : Shared} {a : Addr} {y v : V} {u r : Value} {o : Option V} {A : Around} {E : Value → Shared → Prop}

theorem Inv.big (I : Inv X pins σ H s) : sysModules < s.heap.objs.size := by
  have h : mainGlobals < s.heap.objs.size := (I.mod.glob.keeps I.bk).lt
  exact Nat.lt_trans (by decide) h

/-- d[y], there -/
theorem d_getItem {Q : Value → Shared → Prop} (hu : A.units + 1 < cLine) (I : Inv X pins σ H s) (g : DGet H a y (some v)) (ry : RelV y u) (h : ∀ w' s', Inv X pins σ H s' → RelV v w' → Q w' s') :
    wpAny (model X.prog X.w) A (getItem (.ref a) u) Q E s := by
  rcases g with ⟨kvs, k, e, ey, l⟩ | ⟨kvs, k, b, e, ey, eb, l⟩
  · subst ey
    obtain ⟨z, hd, vs, rel, dd⟩ := dk_rd I.hok e
    obtain ⟨w', hw, rw'⟩ := RelO.some_of (v := v) (o := valueAt vs k) (by rw [l]; exact rel.val k)
    exact wpAny_getItem_of (kV_is ry) dd.mapOf hw (h w' _ (I.tok _) rw')
  · subst ey
    cases (show u = Value.ref b from ry)
    obtain ⟨z, hd, xs, rel, dd⟩ := dt_rd I.hok e
    obtain ⟨w', hw, rw'⟩ := RelO.some_of (v := v) (o := (atKey xs k).map (·.2)) (by rw [l]; exact rel.val k)
    obtain ⟨p, hp, hp2⟩ := Option.map_eq_some_iff.mp hw
    refine wpAny_getItem_heap (tupleKind_room_in1 hu) (key_of I.hok eb) dd hp ?_
    rw [hp2]
    exact h w' _ (I.tok _) rw'
/-- y in d -/
theorem d_in {Q : Value → Shared → Prop} (hu : A.units + 1 < cLine) (I : Inv X pins σ H s) (g : DGet H a y o) (ry : RelV y u) (h : ∀ s', Inv X pins σ H s' → Q (.bool o.isSome) s') :
    wpAny (model X.prog X.w) A (compareOp .In u (.ref a)) Q E s := by
  rcases g with ⟨kvs, k, e, ey, l⟩ | ⟨kvs, k, b, e, ey, eb, l⟩
  · subst ey
    obtain ⟨z, hd, vs, rel, dd⟩ := dk_rd I.hok e
    refine wpAny_in_of (kV_is ry) hd dd.mapOf ?_
    rw [← (rel.val k).isSome_eq, ← l]
    exact h _ (I.tok _)
  · subst ey
    cases (show u = Value.ref b from ry)
    obtain ⟨z, hd, xs, rel, dd⟩ := dt_rd I.hok e
    refine wpAny_in_heap (tupleKind_room_in1 hu) (key_of I.hok eb) hd dd ?_
    have q := (rel.val k).isSome_eq
    rw [Option.isSome_map] at q
    rw [← q, ← l]
    exact h _ (I.tok _)
theorem d_notIn {Q : Value → Shared → Prop} (hu : A.units + 1 < cLine) (I : Inv X pins σ H s) (g : DGet H a y o) (ry : RelV y u) (h : ∀ s', Inv X pins σ H s' → Q (.bool (!o.isSome)) s') :
    wpAny (model X.prog X.w) A (compareOp .NotIn u (.ref a)) Q E s := by
  rcases g with ⟨kvs, k, e, ey, l⟩ | ⟨kvs, k, b, e, ey, eb, l⟩
  · subst ey
    obtain ⟨z, hd, vs, rel, dd⟩ := dk_rd I.hok e
    refine wpAny_notIn_of (kV_is ry) hd dd.mapOf ?_
    rw [← (rel.val k).isSome_eq, ← l]
    exact h _ (I.tok _)
  · subst ey
    cases (show u = Value.ref b from ry)
    obtain ⟨z, hd, xs, rel, dd⟩ := dt_rd I.hok e
    refine wpAny_notIn_heap (tupleKind_room_in1 hu) (key_of I.hok eb) hd dd ?_
    have q := (rel.val k).isSome_eq
    rw [Option.isSome_map] at q
    rw [← q, ← l]
    exact h _ (I.tok _)
/-- a dict's object is replaced -/
theorem d_write {h' : Heap} {t' : Nat} {ob : HO} (I : Inv X pins σ H s) (mu : Mut (H a)) (hs : Heap.SameBut a s.heap h') (he : ∃ q, h'.get? a = some q) (new : ObjOk X.prog X.w (upd H a ob) h' a ob) :
    Inv X pins σ (upd H a ob) { s with heap := h', toks := t' } :=
  I.write (x := a) (e := a) mu (.inl rfl) (fun b q hb z => (hs.2 b hb).trans z) he new
theorem dk_new {P : Program} {w : World} {H' : Hp} {h' : Heap} {kvs : List (Key × V)} {vs : List (Key × Value)} (z : kvs.length ≤ sizeLine) (hd : (a == sysModules) = false) (rel : KV kvs vs) (dd : h'.DictOf (mixKind P w) a vs) :
    ObjOk P w H' h' a (.dK kvs) := ⟨z, hd, vs, rel, dd⟩
/-- d[y] = v -/
theorem d_setItem {H' : Hp} {Q : Unit → Shared → Prop} (hu : A.units + 1 < cLine) (I : Inv X pins σ H s) (g : DPut H a y v H') (ry : RelV y u) (rv : RelV v r) (h : ∀ s', Inv X pins σ H' s' → Q () s') :
    wpAny (model X.prog X.w) A (setItem (.ref a) u r) Q E s := by
  rcases g with ⟨kvs, k, e, ey, l, eH⟩ | ⟨kvs, k, b, e, ey, eb, l, eH⟩
  · subst ey eH
    obtain ⟨z, hd, vs, rel, dd⟩ := dk_of I.hok e
    have hz : vs.length ≤ sizeLine := by rw [← rel.length]; exact z
    have hl : (putK kvs k v).length ≤ sizeLine := by have := length_putK kvs k v; omega
    refine wpAny_setItem_pairs (hsz := hz) (kV_is ry) dd fun h' dd' hs => h _ ?_
    have he : ∃ q, h'.get? a = some q := let ⟨q, _, _, hq, _⟩ := dd'; ⟨q, hq⟩
    exact d_write I (by rw [e]; exact True.intro) hs he (dk_new hl hd (rel.put k rv) dd')
  · subst ey eH
    cases (show u = Value.ref b from ry)
    obtain ⟨z, hd, xs, rel, dd⟩ := dt_of I.hok e
    have hz : xs.length ≤ sizeLine := by rw [← Paired.length rel]; exact z
    have hl : (putK kvs k v).length ≤ sizeLine := by have := length_putK kvs k v; omega
    refine wpAny_setItem_heap (hsz := hz) (tupleKind_room_in1 hu) (key_of I.hok eb) dd fun h' dd' hs => h _ ?_
    obtain ⟨q, es, ep, hq, h2, h3, h4, _, h5⟩ := dd'
    refine d_write I (by rw [e]; exact True.intro) hs ⟨q, hq⟩ ⟨hl, hd, _, (rel.put k eb rv).keeps fun c ys ec => ?_, q, es, ep, hq, h2, h3, h4, h5⟩
    rw [upd_ne (ne_of ec e (fun z => nomatch z))]
    exact ec
end

section
variable {X : Cx} {pins : List (Addr × Obj)} {σ : St} {H : Hp} {s : Shared} {a : Addr} {kvs : List (Key × V)} {k : Key} {u : Value} {A : Around} {E : Value → Shared → Prop}
/-- del d[k] -/
theorem d_delItem {Q : Unit → Shared → Prop} (I : Inv X pins σ H s) (e : H a = some (.dK kvs)) (ry : RelV (kV k) u) (l : (valV kvs k).isSome = true) (h : ∀ s', Inv X pins σ (upd H a (.dK (dropK kvs k))) s' → Q () s') :
    wpAny (model X.prog X.w) A (delItem (.ref a) u) Q E s := by
  obtain ⟨z, hd, vs, rel, dd⟩ := dk_of I.hok e
  refine wpAny_delItem_slot dd.typeIs (by decide) PySem.F.slot_dict_delitem
    (call_meetsIn PySem.F.slot_dict_delitem dd.typeIs PySem.F.entry_dict_delitem (PySem.F.args_dict_delitem_2 _ _) (meets_dict_delitem_pairs (mixKind X.prog X.w) a (kV_is ry)) ⟨vs, dd, by rw [← rel.length]; exact z, by rw [← (rel.val k).isSome_eq]; exact l, fun h' dd' hs => h _ ?_⟩)
  have he : ∃ q, h'.get? a = some q := let ⟨q, _, _, hq, _⟩ := dd'; ⟨q, hq⟩
  exact d_write I (by rw [e]; exact True.intro) hs he (dk_new (Nat.le_trans (dropK_le kvs k) z) hd (rel.drop k) dd')
/-- d.pop(k[, x]), there -/
theorem d_pop {v : V} {more : List Value} {Q : Value → Shared → Prop} (I : Inv X pins σ H s) (e : H a = some (.dK kvs)) (ry : RelV (kV k) u) (l : valV kvs k = some v) (hm : more = [] ∨ ∃ x, more = [x])
    (h : ∀ w' s', Inv X pins σ (upd H a (.dK (dropK kvs k))) s' → RelV v w' → Q w' s') : wpAny (model X.prog X.w) A (call (.builtin "dict.pop") (.ref a :: u :: more)) Q E s := by
  obtain ⟨z, hd, vs, rel, dd⟩ := dk_of I.hok e
  obtain ⟨w', hw, rw'⟩ := RelO.some_of (v := v) (o := valueAt vs k) (by rw [← l]; exact rel.val k)
  have hp : (keyPart u).isSome = true := by
    cases k with
    | inl i => obtain ⟨t, q⟩ := (show ∃ t, u = Value.int i t from ry); subst q; rfl
    | inr x => obtain ⟨t, q⟩ := (show ∃ t, u = Value.str x t from ry); subst q; rfl
  have ha : argsOk "dict.pop" ⟨.ref a :: u :: more, []⟩ := by
    rcases hm with q | ⟨x, q⟩
    · subst q; exact PySem.F.args_dict_pop_2 _ _
    · subst q; exact PySem.F.args_dict_pop_3 _ _ _
  refine call_meetsIn PySem.F.slot_dict_pop dd.typeIs PySem.F.entry_dict_pop ha (meets_dict_pop_there (mixKind X.prog X.w) a (kV_is ry) more hm hp)
    ⟨vs, w', dd, by rw [← rel.length]; exact z, hw, fun h' dd' hs => h w' _ ?_ rw'⟩
  have he : ∃ q, h'.get? a = some q := let ⟨q, _, _, hq, _⟩ := dd'; ⟨q, hq⟩
  exact d_write I (by rw [e]; exact True.intro) hs he (dk_new (Nat.le_trans (dropK_le kvs k) z) hd (rel.drop k) dd')
/-- d.pop(k, x), not there -/
theorem d_popD {r : Value} {Q : Value → Shared → Prop} (I : Inv X pins σ H s) (e : H a = some (.dK kvs)) (ry : RelV (kV k) u) (l : valV kvs k = none) (h : ∀ s', Inv X pins σ H s' → Q r s') :
    wpAny (model X.prog X.w) A (call (.builtin "dict.pop") [.ref a, u, r]) Q E s := by
  obtain ⟨z, hd, vs, rel, dd⟩ := dk_of I.hok e
  have hn : valueAt vs k = none := RelO.none_of (by rw [← l]; exact rel.val k)
  have hp : (keyPart u).isSome = true := by
    cases k with
    | inl i => obtain ⟨t, q⟩ := (show ∃ t, u = Value.int i t from ry); subst q; rfl
    | inr x => obtain ⟨t, q⟩ := (show ∃ t, u = Value.str x t from ry); subst q; rfl
  exact call_meetsIn PySem.F.slot_dict_pop dd.typeIs PySem.F.entry_dict_pop (PySem.F.args_dict_pop_3 _ _ _) (meets_dict_pop_default (mixKind X.prog X.w) a (kV_is ry) hd hp r) ⟨vs, dd, hn, h _ (I.tok _)⟩
/-- d.clear() -/
theorem d_clear {Q : Value → Shared → Prop} (I : Inv X pins σ H s) (e : H a = some (.dK kvs)) (h : ∀ s', Inv X pins σ (upd H a (.dK [])) s' → Q .none s') : wpAny (model X.prog X.w) A (call (.builtin "dict.clear") [.ref a]) Q E s := by
  obtain ⟨z, hd, vs, rel, dd⟩ := dk_of I.hok e
  refine call_meetsIn PySem.F.slot_dict_clear dd.typeIs PySem.F.entry_dict_clear (PySem.F.args_dict_clear_1 _) (meets_dict_clear (mixKind X.prog X.w) a) ⟨vs, dd, by rw [← rel.length]; exact z, fun h' dd' hs => h _ ?_⟩
  have he : ∃ q, h'.get? a = some q := let ⟨q, _, _, hq, _⟩ := dd'; ⟨q, hq⟩
  exact d_write (t' := s.toks) I (by rw [e]; exact True.intro) hs he (dk_new (Nat.zero_le _) hd .nil dd')
/-- len(d) -/
theorem d_len {Q : Value → Shared → Prop} (I : Inv X pins σ H s) (e : Rd H a (.dK kvs)) (h : ∀ t s', Inv X pins σ H s' → Q (.int kvs.length t) s') : wpAny (model X.prog X.w) A (call (.builtin "len") [.ref a]) Q E s := by
  obtain ⟨z, hd, vs, rel, dd⟩ := dk_rd I.hok e
  refine call_len_dict hd dd (by rw [← rel.length]; rw [sizeLine_eq] at z; omega) ?_
  rw [← rel.length]
  exact h _ _ (I.tok _)
/-- if d -/
theorem d_truth {Q : Bool → Shared → Prop} (I : Inv X pins σ H s) (e : Rd H a (.dK kvs)) (h : ∀ s', Inv X pins σ H s' → Q (!kvs.isEmpty) s') : wpAny (model X.prog X.w) A (truthy (.ref a)) Q E s := by
  obtain ⟨z, hd, vs, rel, dd⟩ := dk_rd I.hok e
  refine wpAny_truthy_dict hd dd (by rw [← rel.length]; rw [sizeLine_eq] at z; omega) ?_
  have q : kvs.isEmpty = vs.isEmpty := by cases rel <;> rfl
  rw [← q]
  exact h _ (I.tok _)
end


/-! ### readings and rules -/
/-- the element of a subscription, not a slice -/
def NoSl (i : Expr) : Prop := ∀ ov iv, subscripted i false ov iv = operate [ov, iv] (getItem ov iv)
theorem subD_of {prog : Program} {w : World} {A : Around} {E : Value → Shared → Prop} {s : Shared} {env : Env} {value slice : Expr} {pos : Pos} {T id : String} {Q : Value → Shared → Prop}
    (hl : typeLookup (.type T) "__getitem__" = pure (some (.builtin id))) (hs : NoSl slice)
    (h : wpAny (model prog w) A (eval value env) (fun o s₁ => wpAny (model prog w) A (eval slice env) (fun i s₂ => s₂.TypeIs o T ∧ wpAny (model prog w) A (getItem o i) Q E s₂) E s₁) E s) :
    wpAny (model prog w) A (eval (.Subscript value slice pos) env) Q E s := by
  refine Subscript_ (wpAny_mono h (fun o s₁ h₁ => wpAny_mono h₁ (fun i s₂ h₂ => ?_) fun _ _ x => x) fun _ _ x => x)
  obtain ⟨hT, h₂⟩ := h₂
  unfold subscriptTail
  refine wpAny_bind ?_
  rw [getitemInPython_of_ne hT.not_modules]
  refine wpAny_bind (wpAny_specialOf hT hl ?_)
  have fin : wpAny (model prog w) A (subscripted slice false o i) (fun r s₃ => wpAny (model prog w) A (letTemporaryGo value o r >>= fun _ => pure r) Q E s₃) E s₂ := by
    rw [hs o i]
    exact wpAny_operating (wpAny_mono h₂ (fun r s₃ h₃ => wpAny_bind (wpAny_letTemporaryGo (wpAny_pure h₃))) fun _ _ x => x)
  first
    | exact wpAny_pure (wpAny_bind fin)
    | exact wpAny_bind (wpAny_pure (wpAny_bind fin))
    | exact wpAny_bind fin

theorem dict_typeIs {X : Cx} {pins : List (Addr × Obj)} {σ : St} {H : Hp} {s : Shared} {a : Addr} {y : V} {o : Option V} (I : Inv X pins σ H s) (g : DGet H a y o) : s.TypeIs (.ref a) "dict" := by
  rcases g with ⟨kvs, k, e, _, _⟩ | ⟨kvs, k, b, e, _, _, _⟩
  · obtain ⟨_, _, vs, _, dd⟩ := dk_rd I.hok e
    exact dd.typeIs
  · obtain ⟨_, _, xs, _, dd⟩ := dt_rd I.hok e
    exact dd.typeIs
theorem dict_noDict {X : Cx} {pins : List (Addr × Obj)} {σ : St} {H : Hp} {s : Shared} {a : Addr} {y : V} {o : Option V} (I : Inv X pins σ H s) (g : DGet H a y o) :
    ∀ b, Value.ref a = .ref b → ∃ ob, s.heap.get? b = some ob ∧ ob.dict = none := fun b q => by
  cases q
  rcases g with ⟨kvs, k, e, _, _⟩ | ⟨kvs, k, b, e, _, _, _⟩
  · obtain ⟨_, _, vs, _, ob, _, _, h1, h2, _⟩ := dk_rd I.hok e
    exact ⟨ob, h1, h2.2.1⟩
  · obtain ⟨_, _, xs, _, ob, _, _, h1, h2, _⟩ := dt_rd I.hok e
    exact ⟨ob, h1, h2.2.1⟩

/-- d[y] -/
def tDGet (td ty : TE) : TE := fun σ H Q => td σ H fun x H1 => ty σ H1 fun y H2 => ∃ a v, x = .ref a ∧ DGet H2 a y (some v) ∧ Q v H2
/-- y in d, y not in d -/
def tDIn (ty td : TE) : TE := fun σ H Q => ty σ H fun y H1 => td σ H1 fun x H2 => ∃ a o, x = .ref a ∧ DGet H2 a y o ∧ Q (.bl o.isSome) H2
def tDNotIn (ty td : TE) : TE := fun σ H Q => ty σ H fun y H1 => td σ H1 fun x H2 => ∃ a o, x = .ref a ∧ DGet H2 a y o ∧ Q (.bl (!o.isSome)) H2
/-- d[y] = v -/
def sDPut (td ty tv : TE) : TS := fun D σ H => tv σ H fun v H1 => td σ H1 fun x H2 => ty σ H2 fun y H3 => ∃ a H4, x = .ref a ∧ DPut H3 a y v H4 ∧ D.nx σ H4
/-- d[y] op= v -/
def sDAug (td ty tv : TE) (rd : V → V → Hp → VK → Prop) : TS := fun D σ H => td σ H fun x H1 => ty σ H1 fun y H2 => ∃ a v, x = .ref a ∧ DGet H2 a y (some v) ∧
  tv σ H2 fun y2 H3 => rd v y2 H3 fun z H4 => ∃ H5, DPut H4 a y z H5 ∧ D.nx σ H5
/-- del d[y] -/
def sDDel (td ty : TE) : TS := fun D σ H => td σ H fun x H1 => ty σ H1 fun y H2 => ∃ a kvs k, x = .ref a ∧ H2 a = some (.dK kvs) ∧ y = kV k ∧ (valV kvs k).isSome = true ∧ D.nx σ (upd H2 a (.dK (dropK kvs k)))

section
variable {X : Cx} {o i e value : Expr} {pos pos' tpos : Pos} {td ty tv : TE}
theorem pe_dget (hu : X.A.units + 1 < cLine) (ho : PE X o td) (hi : PE X i ty) (hs : NoSl i) : PE X (.Subscript o i pos) (tDGet td ty) := by
  intro pins s σ H Q I h
  refine subD_of PySem.F.slot_dict_getitem.lookup hs (thn (ho pins s σ H _ I h) fun u s1 ⟨x, H1, I1, rx, q1⟩ => thn (hi pins s1 σ H1 _ I1 q1) fun iv s2 ⟨y, H2, I2, ry, a, v, ex, g, q2⟩ => ?_)
  subst ex
  obtain rfl : u = Value.ref a := rx
  exact ⟨dict_typeIs I2 g, d_getItem hu I2 g ry fun w' s3 I3 rw' => ⟨v, H2, I3, rw', q2⟩⟩
theorem pc_din (hu : X.A.units + 1 < cLine) (hi : PE X i ty) (ho : PE X o td) : PC X .In i o (tDIn ty td) := by
  intro pins s σ H Q I h
  refine thn (hi pins s σ H _ I h) fun iv s1 ⟨y, H1, I1, ry, q1⟩ => thn (ho pins s1 σ H1 _ I1 q1) fun u s2 ⟨x, H2, I2, rx, a, ov, ex, g, q2⟩ => ?_
  subst ex
  obtain rfl : u = Value.ref a := rx
  exact d_in hu I2 g ry fun s3 I3 => ⟨.bl ov.isSome, H2, I3, rfl, q2⟩
theorem pc_dnotin (hu : X.A.units + 1 < cLine) (hi : PE X i ty) (ho : PE X o td) : PC X .NotIn i o (tDNotIn ty td) := by
  intro pins s σ H Q I h
  refine thn (hi pins s σ H _ I h) fun iv s1 ⟨y, H1, I1, ry, q1⟩ => thn (ho pins s1 σ H1 _ I1 q1) fun u s2 ⟨x, H2, I2, rx, a, ov, ex, g, q2⟩ => ?_
  subst ex
  obtain rfl : u = Value.ref a := rx
  exact d_notIn hu I2 g ry fun s3 I3 => ⟨.bl (!ov.isSome), H2, I3, rfl, q2⟩
theorem ps_dput (hu : X.A.units + 1 < cLine) (ho : PE X o td) (hi : PE X i ty) (hv : PE X value tv) (hs : swapsWith value (some (.Subscript o i pos')) pos.line X.env = pure false) :
    PS X (.Assign [.Subscript o i pos'] value pos) (sDPut td ty tv) := by
  intro pins s σ H D I h
  refine wpAny_Assign_Subscript (thn (hv pins s σ H _ I h) fun r s1 ⟨v, H1, I1, rv, q1⟩ => thn (ho pins s1 σ H1 _ I1 q1) fun u s2 ⟨x, H2, I2, rx, q2⟩ => thn (hi pins s2 σ H2 _ I2 q2) fun iv s3 ⟨y, H3, I3, ry, a, H4, ex, g, q3⟩ => ?_) hs
  subst ex
  obtain rfl : u = Value.ref a := rx
  exact d_setItem hu I3 g ry rv fun s4 I4 => ⟨σ, H4, I4, q3⟩
theorem ps_daug {op : Operator} {rd : V → V → Hp → VK → Prop} (hu : X.A.units + 1 < cLine) (ho : PE X o td) (hi : PE X i ty) (hv : PE X value tv) (hop : InOp X op rd)
    (ha : ∀ ov iv new, augStore i ov iv new = (do holding [new, ov, iv] (setItem ov iv new); release [new, ov, iv] []; pure .next)) : PS X (.AugAssign (.Subscript o i tpos) op value pos) (sDAug td ty tv rd) := by
  intro pins s σ H D I h
  refine wpAny_AugAssign_SubscriptAny (thn (ho pins s σ H _ I h) fun u s1 ⟨x, H1, I1, rx, q1⟩ => thn (hi pins s1 σ H1 _ I1 q1) fun iv s2 ⟨y, H2, I2, ry, a, v, ex, g, q2⟩ => ?_) ha
  subst ex
  obtain rfl : u = Value.ref a := rx
  refine d_getItem hu I2 g ry fun w' s3 I3 rw' => thn (hv pins s3 σ H2 _ I3 q2) fun w2 s4 ⟨y2, H3, I4, ry2, q3⟩ => thn (hop pins s4 σ H3 v y2 w' w2 _ I4 rw' ry2 q3) fun w3 s5 ⟨z, H4, I5, rz, H5, g5, q4⟩ => ?_
  exact d_setItem hu I5 g5 ry rz fun s6 I6 => ⟨σ, H5, I6, q4⟩
theorem ps_ddel (ho : PE X o td) (hi : PE X i ty) : PS X (.Delete [.Subscript o i tpos] pos) (sDDel td ty) := by
  intro pins s σ H D I h
  refine wpAny_Delete (wpAny_deleteEach_cons (wpAny_delete_Subscript (thn (ho pins s σ H _ I h) fun u s1 ⟨x, H1, I1, rx, q1⟩ => thn (hi pins s1 σ H1 _ I1 q1) fun iv s2 ⟨y, H2, I2, ry, a, kvs, k, ex, e, ey, l, q2⟩ => ?_)))
  subst ex ey
  obtain rfl : u = Value.ref a := rx
  exact d_delItem I2 e ry l fun s3 I3 => wpAny_deleteEach_nil ⟨σ, _, I3, q2⟩
end


/-! ### displays -/
theorem dk_empty {P : Program} {w : World} {H : Hp} (h : Heap) (hb : sysModules < h.objs.size) : ObjOk P w H (h.push { cls := .type "dict", data := .dict #[] }) h.objs.size (.dK []) :=
  ⟨Nat.zero_le _, beq_eq_false_iff_ne.mpr (Ne.symm (Nat.ne_of_lt hb)), [], .nil, Heap.DictOf.new h⟩
theorem dt_empty {P : Program} {w : World} {H : Hp} (h : Heap) (hb : sysModules < h.objs.size) : ObjOk P w H (h.push { cls := .type "dict", data := .dict #[] }) h.objs.size (.dT []) :=
  ⟨Nat.zero_le _, beq_eq_false_iff_ne.mpr (Ne.symm (Nat.ne_of_lt hb)), [], .nil, _, #[], 0, Heap.get?_push_size _ rfl, ⟨rfl, rfl, rfl⟩, rfl, rfl, List.nodup_nil⟩
/-- {}, to be a dict of the kind that is wanted -/
def tDNewK : TE := fun _ H Q => ∀ p, H p = none → Q (.ref p) (upd H p (.dK []))
def tDNewT : TE := fun _ H Q => ∀ p, H p = none → Q (.ref p) (upd H p (.dT []))
section
variable {X : Cx} {pos : Pos}
theorem pe_dnewK : PE X (.Dict [] [] pos) tDNewK := fun pins s σ H Q I h =>
  wpAny_Dict_empty ⟨.ref s.heap.objs.size, _, I.laid (a := s.heap.objs.size) (o := .dK []) (t' := s.toks) (fun _ _ q => Heap.get?_push_of_some _ q) (Nat.le_refl _) (dk_empty s.heap I.big), rfl, h _ (I.hok.fresh (Nat.le_refl _))⟩
theorem pe_dnewT : PE X (.Dict [] [] pos) tDNewT := fun pins s σ H Q I h =>
  wpAny_Dict_empty ⟨.ref s.heap.objs.size, _, I.laid (a := s.heap.objs.size) (o := .dT []) (t' := s.toks) (fun _ _ q => Heap.get?_push_of_some _ q) (Nat.le_refl _) (dt_empty s.heap I.big), rfl, h _ (I.hok.fresh (Nat.le_refl _))⟩
end

/-- the pairs of a display, from the left -/
def tPairs : List (TE × TE) → St → Hp → (List (V × V) → Hp → Prop) → Prop
  | [], _, H, Q => Q [] H
  | (tk, tv) :: r, σ, H, Q => tk σ H fun x H1 => tv σ H1 fun y H2 => tPairs r σ H2 fun ps H3 => Q ((x, y) :: ps) H3
abbrev VV : List (V × V) → List (Value × Value) → Prop := Paired fun p q => RelV p.1 q.1 ∧ RelV p.2 q.2
def PPs (X : Cx) (pos : Pos) (keys : List (Option Expr)) (values : List Expr) (trs : List (TE × TE)) : Prop :=
  ∀ (pins : List (Addr × Obj)) (s : Shared) (σ : St) (H : Hp) (Q : List (V × V) → Hp → Prop), Inv X pins σ H s → tPairs trs σ H Q →
    wpAny (model X.prog X.w) X.A (evalPairs (pairTrees keys values X.env pos)) (fun vs s' => ∃ ps H', Inv X pins σ H' s' ∧ VV ps vs ∧ Q ps H') X.xe s
theorem pps_nil {X : Cx} {pos : Pos} : PPs X pos [] [] [] := fun pins s σ H Q I h => pairTrees_nil_walk ⟨[], H, I, .nil, h⟩
theorem pps_cons {X : Cx} {pos : Pos} {k v : Expr} {ks : List (Option Expr)} {vs : List Expr} {tk tv : TE} {trs : List (TE × TE)} (hk : PE X k tk) (hv : PE X v tv) (hr : PPs X pos ks vs trs) :
    PPs X pos (some k :: ks) (v :: vs) ((tk, tv) :: trs) := fun pins s σ H Q I h =>
  pairTrees_cons_walk (thn (hk pins s σ H _ I h) fun u s1 ⟨x, H1, I1, rx, q1⟩ => thn (hv pins s1 σ H1 _ I1 q1) fun w2 s2 ⟨y, H2, I2, ry, q2⟩ =>
    thn (hr pins s2 σ H2 _ I2 q2) fun ws s3 ⟨ps, H3, I3, rel, q3⟩ => ⟨(x, y) :: ps, H3, I3, .cons ⟨rx, ry⟩ rel, q3⟩)

def mergeK (kvs more : List (Key × V)) : List (Key × V) := more.foldl (fun acc kv => putK acc kv.1 kv.2) kvs
theorem KV.merge : ∀ {more : List (Key × V)} {rs : List (Key × Value)} {kvs : List (Key × V)} {vs : List (Key × Value)}, KV more rs → KV kvs vs → KV (mergeK kvs more) (merged vs rs) := by
  intro more rs kvs vs r
  unfold KV at r
  induction r generalizing kvs vs with
  | nil => intro q; exact q
  | @cons p q ps qs h t ih =>
    intro r0
    have e : KV (putK kvs p.1 p.2) (stored vs q.1 q.2) := by
      have := r0.put p.1 h.2
      rw [← h.1]; exact this
    exact ih e
theorem length_mergeK : ∀ (more kvs : List (Key × V)), (mergeK kvs more).length ≤ kvs.length + more.length
  | [], kvs => by show kvs.length ≤ kvs.length + 0; omega
  | p :: r, kvs => by
    have h1 := length_mergeK r (putK kvs p.1 p.2)
    have h2 := length_putK kvs p.1 p.2
    show (mergeK (putK kvs p.1 p.2) r).length ≤ _
    rw [List.length_cons]; omega
theorem carries_of {P : Program} {w : World} : ∀ {kvs : List (Key × V)} {ws : List (Value × Value)}, VV (kvs.map fun kv => (kV kv.1, kv.2)) ws → ∃ rs, Carries (mixKind P w) ws rs ∧ KV kvs rs
  | [], _, r => by rw [List.map_nil] at r; cases r; exact ⟨[], True.intro, .nil⟩
  | p :: kvs, _, r => by
    rw [List.map_cons] at r
    cases r with
    | @cons a b as bs h t =>
      obtain ⟨rs, c, q⟩ := carries_of (P := P) (w := w) t
      obtain ⟨b1, b2⟩ := b
      exact ⟨(p.1, b2) :: rs, ⟨kV_is h.1, rfl, c⟩, .cons ⟨rfl, h.2⟩ q⟩
/-- {k: v, ..} with keys ints and texts; the new dict stands empty while the pairs are made -/
def tDisp (trs : List (TE × TE)) : TE := fun σ H Q => ∀ p, H p = none → tPairs trs σ (upd H p (.dK [])) fun ps H2 => H2 p = some (.dK []) ∧ ∃ kvs : List (Key × V), ps = kvs.map (fun kv => (kV kv.1, kv.2)) ∧ kvs.length ≤ 15 ∧ Q (.ref p) (upd H2 p (.dK (mergeK [] kvs)))
theorem pe_disp {X : Cx} {pos : Pos} {keys : List (Option Expr)} {values : List Expr} {trs : List (TE × TE)} (h : PPs X pos keys values trs) (hall : keys.all (·.isSome) = true) (hl : keys.length = values.length) (h0 : keys ≠ [])
    (h15 : keys.length ≤ 15) : PE X (.Dict keys values pos) (tDisp trs) := by
  intro pins s σ H Q I q
  have hn := I.hok.fresh (Nat.le_refl s.heap.objs.size)
  have I1 := I.laid (a := s.heap.objs.size) (o := .dK []) (h' := s.heap.push { cls := .type "dict", data := .dict #[] }) (t' := s.toks) (fun _ _ q => Heap.get?_push_of_some _ q) (Nat.le_refl _) (dk_empty s.heap I.big)
  refine wpAny_Dict_walk (knd := mixKind X.prog X.w) hall hl h0 h15 (thn (h pins _ σ _ _ I1 (q _ hn)) fun ws s2 ⟨ps, H2, I2, rel, e, kvs, ep, lk, q2⟩ => ?_)
  subst ep
  obtain ⟨rs, c, rk⟩ := carries_of (P := X.prog) (w := X.w) rel
  obtain ⟨z, hd, vs0, r0, dd⟩ := dk_of I2.hok e
  cases r0
  refine ⟨rs, c, dd, fun h' dd' hs => ⟨.ref s.heap.objs.size, _, ?_, rfl, q2⟩⟩
  have hz : (mergeK [] kvs).length ≤ sizeLine := by
    have h1 := length_mergeK kvs []
    rw [List.length_nil] at h1
    rw [sizeLine_eq]; omega
  have he : ∃ q, h'.get? s.heap.objs.size = some q := let ⟨q, _, _, hq, _⟩ := dd'; ⟨q, hq⟩
  exact d_write I2 (by rw [e]; exact True.intro) hs he (dk_new hz hd (rk.merge .nil) dd')


/-! ### methods -/
/-- a method call o.m(e) of a built-in, with one argument: what must be seen of the text -/
structure M1 (X : Cx) (o : Expr) (m : Str) (apos : Pos) (e : Expr) (cpos : Pos) : Prop where
  base : attributeBase o m X.env (eval o X.env) = eval o X.env
  few : ((backTo cpos (starEach [e] X.env)).all (fun x => !x.1) && (backToKw cpos (keywordEach [] X.env)).all (fun x => x.1.isSome)
    && decide (([e] : List Expr).length + ([] : List Keyword).length + (if ([] : List Keyword).isEmpty then 0 else 1) < 30)) = true
  line : (apos.endLine == cpos.line) = true
  trees : backTo cpos (starEach [e] X.env) = [(false, eval e X.env)]
structure M2 (X : Cx) (o : Expr) (m : Str) (apos : Pos) (e f : Expr) (cpos : Pos) : Prop where
  base : attributeBase o m X.env (eval o X.env) = eval o X.env
  few : ((backTo cpos (starEach [e, f] X.env)).all (fun x => !x.1) && (backToKw cpos (keywordEach [] X.env)).all (fun x => x.1.isSome)
    && decide (([e, f] : List Expr).length + ([] : List Keyword).length + (if ([] : List Keyword).isEmpty then 0 else 1) < 30)) = true
  line : (apos.endLine == cpos.line) = true
  trees : backTo cpos (starEach [e, f] X.env) = [(false, eval e X.env), (false, eval f X.env)]

/-- a is a dict, whatever its keys -/
def IsD (H : Hp) (a : Addr) : Prop := (∃ kvs, Rd H a (.dK kvs)) ∨ ∃ kvs, Rd H a (.dT kvs)
theorem isD_at {X : Cx} {pins : List (Addr × Obj)} {σ : St} {H : Hp} {s : Shared} {a : Addr} (I : Inv X pins σ H s) (d : IsD H a) :
    s.TypeIs (.ref a) "dict" ∧ (∀ b, Value.ref a = .ref b → ∃ ob, s.heap.get? b = some ob ∧ ob.dict = none) ∧ (a == sysModules) = false := by
  rcases d with ⟨kvs, e⟩ | ⟨kvs, e⟩
  · obtain ⟨_, hd, vs, _, dd⟩ := dk_rd I.hok e
    refine ⟨dd.typeIs, fun b q => ?_, hd⟩
    cases q
    obtain ⟨ob, _, _, h1, h2, _⟩ := dd
    exact ⟨ob, h1, h2.2.1⟩
  · obtain ⟨_, hd, xs, _, dd⟩ := dt_rd I.hok e
    refine ⟨dd.typeIs, fun b q => ?_, hd⟩
    cases q
    obtain ⟨ob, _, _, h1, h2, _⟩ := dd
    exact ⟨ob, h1, h2.2.1⟩

section
variable {X : Cx} {pins : List (Addr × Obj)} {σ : St} {H : Hp} {s : Shared} {a : Addr} {y d : V} {u r : Value} {o : Option V} {A : Around} {E : Value → Shared → Prop}
/-- d.get(y) -/
theorem d_get1 {Q : Value → Shared → Prop} (hu : A.units + 1 < cLine) (I : Inv X pins σ H s) (g : DGet H a y o) (ry : RelV y u) (h : ∀ w' s', Inv X pins σ H s' → RelV (o.getD .non) w' → Q w' s') :
    wpAny (model X.prog X.w) A (call (.builtin "dict.get") [.ref a, u]) Q E s := by
  rcases g with ⟨kvs, k, e, ey, l⟩ | ⟨kvs, k, b, e, ey, eb, l⟩
  · subst ey
    obtain ⟨z, hd, vs, rel, dd⟩ := dk_rd I.hok e
    refine call_meetsIn PySem.F.slot_dict_get dd.typeIs PySem.F.entry_dict_get (PySem.F.args_dict_get_2 _ _) (meets_dict_get (mixKind X.prog X.w) a (kV_is ry) hd) ⟨_, dd.mapOf, h _ _ (I.tok _) ?_⟩
    rw [l]
    exact (rel.val k).getD rfl
  · subst ey
    cases (show u = Value.ref b from ry)
    obtain ⟨z, hd, xs, rel, dd⟩ := dt_rd I.hok e
    refine call_meetsIn PySem.F.slot_dict_get dd.typeIs PySem.F.entry_dict_get (PySem.F.args_dict_get_2 _ _) (meetsH_dict_get (tupleKind (mixKind X.prog X.w)) a b hd) ⟨tupleKind_room_in1 hu, k, xs, key_of I.hok eb, dd, h _ _ (I.tok _) ?_⟩
    rw [l]
    exact (rel.val k).getD rfl
/-- d.get(y, x) -/
theorem d_get2 {Q : Value → Shared → Prop} (hu : A.units + 1 < cLine) (I : Inv X pins σ H s) (g : DGet H a y o) (ry : RelV y u) (rd : RelV d r) (h : ∀ w' s', Inv X pins σ H s' → RelV (o.getD d) w' → Q w' s') :
    wpAny (model X.prog X.w) A (call (.builtin "dict.get") [.ref a, u, r]) Q E s := by
  rcases g with ⟨kvs, k, e, ey, l⟩ | ⟨kvs, k, b, e, ey, eb, l⟩
  · subst ey
    obtain ⟨z, hd, vs, rel, dd⟩ := dk_rd I.hok e
    refine call_meetsIn PySem.F.slot_dict_get dd.typeIs PySem.F.entry_dict_get (PySem.F.args_dict_get_3 _ _ _) (meets_dict_get_default (mixKind X.prog X.w) a (kV_is ry) hd r) ⟨_, dd.mapOf, h _ _ (I.tok _) ?_⟩
    rw [l]
    exact (rel.val k).getD rd
  · subst ey
    cases (show u = Value.ref b from ry)
    obtain ⟨z, hd, xs, rel, dd⟩ := dt_rd I.hok e
    refine call_meetsIn PySem.F.slot_dict_get dd.typeIs PySem.F.entry_dict_get (PySem.F.args_dict_get_3 _ _ _) (meetsH_dict_get_default (tupleKind (mixKind X.prog X.w)) a b hd r) ⟨tupleKind_room_in1 hu, k, xs, key_of I.hok eb, dd, h _ _ (I.tok _) ?_⟩
    rw [l]
    exact (rel.val k).getD rd
end

def tDGet1 (td ty : TE) : TE := fun σ H Q => td σ H fun x H1 => ∃ a, x = .ref a ∧ IsD H1 a ∧ ty σ H1 fun y H2 => ∃ o, DGet H2 a y o ∧ Q (o.getD .non) H2
def tDGet2 (td ty tx : TE) : TE := fun σ H Q => td σ H fun x H1 => ∃ a, x = .ref a ∧ IsD H1 a ∧ ty σ H1 fun y H2 => tx σ H2 fun z H3 => ∃ o, DGet H3 a y o ∧ Q (o.getD z) H3
/-- d.pop(k): there; d.pop(k, x): there or not -/
def tDPop1 (td ty : TE) : TE := fun σ H Q => td σ H fun x H1 => ∃ a, x = .ref a ∧ IsD H1 a ∧ ty σ H1 fun y H2 => ∃ kvs k v, H2 a = some (.dK kvs) ∧ y = kV k ∧ valV kvs k = some v ∧ Q v (upd H2 a (.dK (dropK kvs k)))
def tDPop2 (td ty tx : TE) : TE := fun σ H Q => td σ H fun x H1 => ∃ a, x = .ref a ∧ IsD H1 a ∧ ty σ H1 fun y H2 => tx σ H2 fun z H3 => ∃ kvs k, H3 a = some (.dK kvs) ∧ y = kV k ∧
  (∀ v, valV kvs k = some v → Q v (upd H3 a (.dK (dropK kvs k)))) ∧ (valV kvs k = none → Q z H3)
section
variable {X : Cx} {o e f : Expr} {apos cpos : Pos} {td ty tx : TE}
theorem pe_dget1 (hu : X.A.units + 1 < cLine) (ho : PE X o td) (he : PE X e ty) (m : M1 X o "get" apos e cpos) : PE X (.Call (.Attribute o "get" apos) [e] [] cpos) (tDGet1 td ty) := by
  intro pins s σ H Q I h
  refine wpAny_Call_method m.base m.few m.line PySem.F.plainAttrs_dict PySem.F.slot_dict_get PySem.F.type_dict_get (thn (ho pins s σ H _ I h) fun u s1 ⟨x, H1, I1, rx, a, ex, d, q1⟩ => ?_)
  subst ex
  obtain rfl : u = Value.ref a := rx
  obtain ⟨t1, t2, _⟩ := isD_at I1 d
  refine ⟨t1, t2, ?_⟩
  rw [m.trees]
  refine Calls.callWith_builtin rfl (Calls.evalArgs_plain (Calls.spliced_cons (thn (he pins s1 σ H1 _ I1 q1) fun iv s2 ⟨y, H2, I2, ry, ov, g, q2⟩ => Calls.spliced_nil ?_)))
  exact d_get1 hu I2 g ry fun w' s3 I3 rw' => ⟨_, H2, I3, rw', q2⟩
theorem pe_dget2 (hu : X.A.units + 1 < cLine) (ho : PE X o td) (he : PE X e ty) (hf : PE X f tx) (m : M2 X o "get" apos e f cpos) : PE X (.Call (.Attribute o "get" apos) [e, f] [] cpos) (tDGet2 td ty tx) := by
  intro pins s σ H Q I h
  refine wpAny_Call_method m.base m.few m.line PySem.F.plainAttrs_dict PySem.F.slot_dict_get PySem.F.type_dict_get (thn (ho pins s σ H _ I h) fun u s1 ⟨x, H1, I1, rx, a, ex, d, q1⟩ => ?_)
  subst ex
  obtain rfl : u = Value.ref a := rx
  obtain ⟨t1, t2, _⟩ := isD_at I1 d
  refine ⟨t1, t2, ?_⟩
  rw [m.trees]
  refine Calls.callWith_builtin rfl (Calls.evalArgs_plain (Calls.spliced_cons (thn (he pins s1 σ H1 _ I1 q1) fun iv s2 ⟨y, H2, I2, ry, q2⟩ =>
    Calls.spliced_cons (thn (hf pins s2 σ H2 _ I2 q2) fun fv s3 ⟨z, H3, I3, rz, ov, g, q3⟩ => Calls.spliced_nil ?_))))
  exact d_get2 hu I3 g ry rz fun w' s4 I4 rw' => ⟨_, H3, I4, rw', q3⟩
theorem pe_dpop1 (ho : PE X o td) (he : PE X e ty) (m : M1 X o "pop" apos e cpos) : PE X (.Call (.Attribute o "pop" apos) [e] [] cpos) (tDPop1 td ty) := by
  intro pins s σ H Q I h
  refine wpAny_Call_method m.base m.few m.line PySem.F.plainAttrs_dict PySem.F.slot_dict_pop PySem.F.type_dict_pop (thn (ho pins s σ H _ I h) fun u s1 ⟨x, H1, I1, rx, a, ex, d, q1⟩ => ?_)
  subst ex
  obtain rfl : u = Value.ref a := rx
  obtain ⟨t1, t2, _⟩ := isD_at I1 d
  refine ⟨t1, t2, ?_⟩
  rw [m.trees]
  refine Calls.callWith_builtin rfl (Calls.evalArgs_plain (Calls.spliced_cons (thn (he pins s1 σ H1 _ I1 q1) fun iv s2 ⟨y, H2, I2, ry, kvs, k, v, ea, ey, l, q2⟩ => Calls.spliced_nil ?_)))
  subst ey
  exact d_pop I2 ea ry l (.inl rfl) fun w' s3 I3 rw' => ⟨v, _, I3, rw', q2⟩
theorem pe_dpop2 (ho : PE X o td) (he : PE X e ty) (hf : PE X f tx) (m : M2 X o "pop" apos e f cpos) : PE X (.Call (.Attribute o "pop" apos) [e, f] [] cpos) (tDPop2 td ty tx) := by
  intro pins s σ H Q I h
  refine wpAny_Call_method m.base m.few m.line PySem.F.plainAttrs_dict PySem.F.slot_dict_pop PySem.F.type_dict_pop (thn (ho pins s σ H _ I h) fun u s1 ⟨x, H1, I1, rx, a, ex, d, q1⟩ => ?_)
  subst ex
  obtain rfl : u = Value.ref a := rx
  obtain ⟨t1, t2, _⟩ := isD_at I1 d
  refine ⟨t1, t2, ?_⟩
  rw [m.trees]
  refine Calls.callWith_builtin rfl (Calls.evalArgs_plain (Calls.spliced_cons (thn (he pins s1 σ H1 _ I1 q1) fun iv s2 ⟨y, H2, I2, ry, q2⟩ =>
    Calls.spliced_cons (thn (hf pins s2 σ H2 _ I2 q2) fun fv s3 ⟨z, H3, I3, rz, kvs, k, ea, ey, q3, q4⟩ => Calls.spliced_nil ?_))))
  subst ey
  cases l : valV kvs k with
  | some v => exact d_pop I3 ea ry l (.inr ⟨fv, rfl⟩) fun w' s4 I4 rw' => ⟨v, _, I4, rw', q3 v l⟩
  | none => exact d_popD I3 ea ry l fun s4 I4 => ⟨z, H3, I4, rz, q4 l⟩
end

/-! ### dict(d): a copy -/
section
variable {X : Cx} {pins : List (Addr × Obj)} {σ : St} {H : Hp} {s : Shared} {a : Addr} {kvs : List (Key × V)} {A : Around} {E : Value → Shared → Prop}
theorem d_copyOf {Q : Value → Shared → Prop} (I : Inv X pins σ H s) (e : Rd H a (.dK kvs)) (h : ∀ p s', H p = none → Inv X pins σ (upd H p (.dK kvs)) s' → Q (.ref p) s') : wpAny (model X.prog X.w) A (call (.type "dict") [.ref a]) Q E s := by
  obtain ⟨z, hd, vs, rel, dd⟩ := dk_rd I.hok e
  refine kt_call_dict hd dd (by rw [← rel.length]; exact z) fun h' dd' hs => ?_
  refine h _ _ (I.hok.fresh (Nat.le_refl _)) (I.laid (a := s.heap.objs.size) (o := .dK kvs) (t' := s.toks) (fun b q hq => ?_) (Nat.le_refl _) (dk_new z (beq_eq_false_iff_ne.mpr (Ne.symm (Nat.ne_of_lt I.big))) rel dd'))
  exact (hs.2 b (Nat.ne_of_lt (Heap.lt_size hq))).trans (Heap.get?_push_of_some _ hq)
end


section
variable {X : Cx} {pins : List (Addr × Obj)} {σ : St} {H : Hp} {s : Shared} {a : Addr} {y : V} {u : Value} {A : Around} {E : Value → Shared → Prop}
/-- d[y], not there: a KeyError -/
theorem d_missing {Q : Value → Shared → Prop} (hu : A.units + 1 < cLine) (hh : A.handled = none) (I : Inv X pins σ H s) (g : DGet H a y none) (ry : RelV y u)
    (h : ∀ h' e t', Heap.NewExc s.heap h' e "KeyError" → E (.ref e) { s with heap := h', toks := t' }) : wpAny (model X.prog X.w) A (getItem (.ref a) u) Q E s := by
  rcases g with ⟨kvs, k, e, ey, l⟩ | ⟨kvs, k, b, e, ey, eb, l⟩
  · subst ey
    obtain ⟨z, hd, vs, rel, dd⟩ := dk_rd I.hok e
    have hn : valueAt vs k = none := RelO.none_of (by rw [l]; exact rel.val k)
    exact wpAny_getItem_missing_of (kV_is ry) hd hh dd.mapOf hn fun h' ex ne => h h' ex _ ne
  · subst ey
    cases (show u = Value.ref b from ry)
    obtain ⟨z, hd, xs, rel, dd⟩ := dt_rd I.hok e
    have hn : (atKey xs k).map (·.2) = none := RelO.none_of (by rw [l]; exact rel.val k)
    exact wpAny_getItem_missing_heap (tupleKind_room_in1 hu) (key_of I.hok eb) hd hh dd (Option.map_eq_none_iff.mp hn) fun h' ex ne => h h' ex _ ne
end
section
variable {X : Cx}
/-- len of a dict -/
theorem call_lenD : CallR X (.builtin "len") (fun xs H Q => ∃ a kvs, xs = [V.ref a] ∧ H a = some (.dK kvs) ∧ Q (.int kvs.length) H) := by
  intro pins s σ H xs us Q I r h
  obtain ⟨a, kvs, rfl, ha, q⟩ := h
  obtain ⟨u, rfl, ru⟩ := vals1 r
  cases ru
  exact d_len I (.inl ha) fun t s' I' => ⟨.int kvs.length, H, I', ⟨t, rfl⟩, q⟩
end
/-! ### a dict's pairs: keys that differ -/
section
variable {κ : Type} [DecidableEq κ]
theorem valV_not {kvs : List (κ × V)} {k : κ} (h : valV kvs k = none) : ¬ k ∈ kvs.map (·.1) := by
  intro m
  obtain ⟨p, hp, e⟩ := List.mem_map.mp m
  have q : (kvs.any fun kv => decide (kv.1 = k)) = true := List.any_eq_true.mpr ⟨p, hp, decide_eq_true e⟩
  rw [valV_any, h] at q
  exact absurd q (by simp)
theorem valV_in {kvs : List (κ × V)} {k : κ} {v : V} (h : valV kvs k = some v) : k ∈ kvs.map (·.1) := by
  have q : (kvs.any fun kv => decide (kv.1 = k)) = true := by
    rw [valV_any, h]
    all_goals rfl
  obtain ⟨p, hp, e⟩ := List.any_eq_true.mp q
  exact List.mem_map.mpr ⟨p, hp, of_decide_eq_true e⟩
theorem nd_snoc : ∀ {l : List κ} {k : κ}, l.Nodup → ¬ k ∈ l → (l ++ [k]).Nodup
  | [], k, _, _ => by simp
  | a :: r, k, h, hk => by
    obtain ⟨h1, h2⟩ := List.nodup_cons.mp h
    show (a :: (r ++ [k])).Nodup
    refine List.nodup_cons.mpr ⟨fun m => ?_, nd_snoc h2 fun m => hk (List.mem_cons.mpr (Or.inr m))⟩
    rcases List.mem_append.mp m with q | q
    · exact h1 q
    · exact hk (List.mem_cons.mpr (Or.inl (List.mem_singleton.mp q).symm))
theorem nd_putK {kvs : List (κ × V)} {k : κ} (v : V) (hn : (kvs.map (·.1)).Nodup) (h : valV kvs k = none) : ((putK kvs k v).map (·.1)).Nodup := by
  rw [putK_new v h, List.map_append]
  exact nd_snoc hn (valV_not h)
theorem dropK_pos {p : κ × V} {r : List (κ × V)} {k : κ} (e : p.1 = k) : dropK (p :: r) k = dropK r k := by
  unfold dropK
  rw [List.filter_cons, if_neg (by simp [e])]
theorem dropK_neg {p : κ × V} {r : List (κ × V)} {k : κ} (e : ¬ p.1 = k) : dropK (p :: r) k = p :: dropK r k := by
  unfold dropK
  rw [List.filter_cons, if_pos (by simp [e])]
theorem dropK_no : ∀ {kvs : List (κ × V)} {k : κ}, ¬ k ∈ kvs.map (·.1) → dropK kvs k = kvs
  | [], _, _ => rfl
  | p :: r, k, h => by
    have h' : ¬ k ∈ r.map (·.1) := fun m => by
      obtain ⟨q, hq, e⟩ := List.mem_map.mp m
      exact h (List.mem_map.mpr ⟨q, List.mem_cons.mpr (Or.inr hq), e⟩)
    rw [dropK_neg fun e => h (List.mem_map.mpr ⟨p, List.mem_cons.mpr (Or.inl rfl), e⟩), dropK_no h']
theorem dropK_mem {kvs : List (κ × V)} {k : κ} {p : κ × V} (h : p ∈ dropK kvs k) : p ∈ kvs := (List.mem_filter.mp h).1
theorem nd_dropK : ∀ {kvs : List (κ × V)} {k : κ}, (kvs.map (·.1)).Nodup → ((dropK kvs k).map (·.1)).Nodup
  | [], _, _ => List.nodup_nil
  | p :: r, k, h => by
    have h : (p.1 :: r.map (·.1)).Nodup := h
    obtain ⟨h1, h2⟩ := List.nodup_cons.mp h
    by_cases e : p.1 = k
    · rw [dropK_pos e]
      exact nd_dropK h2
    · rw [dropK_neg e]
      show (p.1 :: (dropK r k).map (·.1)).Nodup
      refine List.nodup_cons.mpr ⟨fun m => h1 ?_, nd_dropK h2⟩
      obtain ⟨q, hq, eq⟩ := List.mem_map.mp m
      exact List.mem_map.mpr ⟨q, dropK_mem hq, eq⟩
theorem dropK_len : ∀ {kvs : List (κ × V)} {k : κ}, (kvs.map (·.1)).Nodup → k ∈ kvs.map (·.1) → (dropK kvs k).length + 1 = kvs.length
  | [], _, _, m => by simp at m
  | p :: r, k, h, m => by
    have h : (p.1 :: r.map (·.1)).Nodup := h
    have m : k = p.1 ∨ k ∈ r.map (·.1) := List.mem_cons.mp m
    obtain ⟨h1, h2⟩ := List.nodup_cons.mp h
    by_cases e : p.1 = k
    · subst e
      rw [dropK_pos rfl, dropK_no h1]
      all_goals rfl
    · have m' : k ∈ r.map (·.1) := m.resolve_left fun z => e z.symm
      have q := dropK_len h2 m'
      rw [dropK_neg e, List.length_cons, List.length_cons]
      omega
end
end L2
set_option Elab.async false
set_option linter.all false
set_option maxRecDepth 100000
set_option maxHeartbeats 4000000
/-! Data over the hand layer: a pure meaning for expressions and statements, and what it is worth. -/
namespace D2
open PySem PySem.Spec PyProof.Rows L2

abbrev St := L2.St
abbrev Inv := @L2.Inv
def keyD : Key → PyData
  | .inl i => .int i
  | .inr x => .str x

mutual
/-- the value v stands for the datum d in the abstract heap: tuples, frozen lists, frozen dicts -/
def Rp (H : Hp) : PyData → V → Prop
  | .none, v => v = .non
  | .bool b, v => v = .bl b
  | .int i, v => v = .int i
  | .str x, v => v = .str x
  | .tuple ds, v => ∃ a vs, v = .ref a ∧ H a = some (.tup vs) ∧ RpA H ds vs
  | .list ds, v => ∃ a o vs, v = .ref a ∧ H a = some (.frz o (.lst vs)) ∧ RpA H ds vs
  | .dict kvs, v => ∃ a o ks, v = .ref a ∧ H a = some (.frz o (.dK ks)) ∧ RpK H kvs ks
def RpA (H : Hp) : List PyData → List V → Prop
  | [], vs => vs = []
  | d :: ds, vs => ∃ v r, vs = v :: r ∧ Rp H d v ∧ RpA H ds r
def RpK (H : Hp) : List (PyData × PyData) → List (Key × V) → Prop
  | [], ks => ks = []
  | kd :: kvs, ks => ∃ x v r, ks = (x, v) :: r ∧ RpP H kd x v ∧ RpK H kvs r
def RpP (H : Hp) : PyData × PyData → Key → V → Prop
  | (k, d), x, v => k = keyD x ∧ Rp H d v
end

/-- tuples and frozen things stay -/
def Kp (H H' : Hp) : Prop := (∀ b xs, H b = some (.tup xs) → H' b = some (.tup xs)) ∧ ∀ b o u, H b = some (.frz o u) → H' b = some (.frz o u)
theorem Kp.refl (H : Hp) : Kp H H := ⟨fun _ _ h => h, fun _ _ _ h => h⟩
theorem Kp.trans {H H1 H2 : Hp} (a : Kp H H1) (b : Kp H1 H2) : Kp H H2 := ⟨fun c xs h => b.1 c xs (a.1 c xs h), fun c o u h => b.2 c o u (a.2 c o u h)⟩
theorem Kp.of {H H' : Hp} (s : Same H H') : Kp H H' := ⟨fun b xs h => s b _ h, fun b o u h => s b _ h⟩

mutual
theorem Rp.kp {H H' : Hp} (k : Kp H H') : ∀ (d : PyData) (v : V), Rp H d v → Rp H' d v
  | .none, v, h => by simpa only [Rp] using h
  | .bool b, v, h => by simpa only [Rp] using h
  | .int i, v, h => by simpa only [Rp] using h
  | .str x, v, h => by simpa only [Rp] using h
  | .tuple ds, v, h => by
    simp only [Rp] at h ⊢
    obtain ⟨a, vs, e, ha, r⟩ := h
    exact ⟨a, vs, e, k.1 _ _ ha, RpA.kp k ds vs r⟩
  | .list ds, v, h => by
    simp only [Rp] at h ⊢
    obtain ⟨a, o, vs, e, ha, r⟩ := h
    exact ⟨a, o, vs, e, k.2 _ _ _ ha, RpA.kp k ds vs r⟩
  | .dict kvs, v, h => by
    simp only [Rp] at h ⊢
    obtain ⟨a, o, ks, e, ha, r⟩ := h
    exact ⟨a, o, ks, e, k.2 _ _ _ ha, RpK.kp k kvs ks r⟩
theorem RpA.kp {H H' : Hp} (k : Kp H H') : ∀ (ds : List PyData) (vs : List V), RpA H ds vs → RpA H' ds vs
  | [], vs, h => by simpa only [RpA] using h
  | d :: ds, vs, h => by
    simp only [RpA] at h ⊢
    obtain ⟨v, r, e, h1, h2⟩ := h
    exact ⟨v, r, e, Rp.kp k d v h1, RpA.kp k ds r h2⟩
theorem RpK.kp {H H' : Hp} (k : Kp H H') : ∀ (kvs : List (PyData × PyData)) (ks : List (Key × V)), RpK H kvs ks → RpK H' kvs ks
  | [], ks, h => by simpa only [RpK] using h
  | kd :: kvs, ks, h => by
    simp only [RpK] at h ⊢
    obtain ⟨x, v, r, e, h1, h2⟩ := h
    exact ⟨x, v, r, e, RpP.kp k kd x v h1, RpK.kp k kvs r h2⟩
theorem RpP.kp {H H' : Hp} (k : Kp H H') : ∀ (kd : PyData × PyData) (x : Key) (v : V), RpP H kd x v → RpP H' kd x v
  | (c, d), x, v, h => by
    simp only [RpP] at h ⊢
    exact ⟨h.1, Rp.kp k d v h.2⟩
end
theorem Rp.mono {H H' : Hp} {d : PyData} {v : V} (h : Rp H d v) (s : Same H H') : Rp H' d v := Rp.kp (Kp.of s) d v h
theorem RpA.mono {H H' : Hp} {ds : List PyData} {vs : List V} (h : RpA H ds vs) (s : Same H H') : RpA H' ds vs := RpA.kp (Kp.of s) ds vs h

/-- a list or dict that this body may change -/
def ORp (H : Hp) : PyData → V → Prop
  | .list ds, v => ∃ a vs, v = .ref a ∧ H a = some (.lst vs) ∧ RpA H ds vs
  | .dict kvs, v => ∃ a ks, v = .ref a ∧ H a = some (.dK ks) ∧ RpK H kvs ks
  | _, _ => False
theorem ORp.mono {H H' : Hp} {d : PyData} {v : V} (h : ORp H d v) (s : Same H H') : ORp H' d v := by
  cases d <;> simp only [ORp] at h ⊢
  · obtain ⟨a, vs, e, ha, r⟩ := h
    exact ⟨a, vs, e, s _ _ ha, RpA.mono r s⟩
  · obtain ⟨a, vs, e, ha, r⟩ := h
    exact ⟨a, vs, e, s _ _ ha, RpK.kp (Kp.of s) _ _ r⟩
/-- to be read -/
def BRp (H : Hp) (d : PyData) (v : V) : Prop := Rp H d v ∨ ORp H d v
theorem BRp.mono {H H' : Hp} {d : PyData} {v : V} (h : BRp H d v) (s : Same H H') : BRp H' d v := h.elim (fun h => .inl (h.mono s)) fun h => .inr (h.mono s)
/-- new, and to be changed if one likes -/
def NRp (H H' : Hp) (d : PyData) (v : V) : Prop := ORp H' d v ∧ ∃ a, v = .ref a ∧ H a = none

/-! ### what a name holds -/
inductive Cell where
  | non
  | val (d : PyData)
  | own (d : PyData)
abbrev Rho := List Cell
def CellOk (H : Hp) : Cell → Option V → Prop
  | .non, _ => True
  | .val d, o => ∃ v, o = some v ∧ Rp H d v
  | .own d, o => ∃ v, o = some v ∧ ORp H d v
def Sl (H : Hp) (σ : St) (ρ : Rho) : Prop := σ.length = ρ.length ∧ ∀ (i : Nat) (c : Cell) (o : Option V), ρ[i]? = some c → σ[i]? = some o → CellOk H c o
theorem CellOk.mono {H H' : Hp} {c : Cell} {o : Option V} (h : CellOk H c o) (s : Same H H') : CellOk H' c o := by
  cases c <;> simp only [CellOk] at h ⊢
  · obtain ⟨v, e, h⟩ := h; exact ⟨v, e, h.mono s⟩
  · obtain ⟨v, e, h⟩ := h; exact ⟨v, e, h.mono s⟩
theorem Sl.mono {H H' : Hp} {σ : St} {ρ : Rho} (h : Sl H σ ρ) (s : Same H H') : Sl H' σ ρ := ⟨h.1, fun i c o h1 h2 => (h.2 i c o h1 h2).mono s⟩

/-! ### results -/
inductive R (α : Type) where
  | ok (a : α)
  | ex (c : Str)
  | no
def R.bind {α β : Type} : R α → (α → R β) → R β
  | .ok a, f => f a
  | .ex c, _ => .ex c
  | .no, _ => .no
instance : Monad R where
  pure := .ok
  bind := R.bind
@[simp] theorem R.ok_bind {α β : Type} (a : α) (f : α → R β) : (R.ok a >>= f) = f a := (rfl)
@[simp] theorem R.ex_bind {α β : Type} (c : Str) (f : α → R β) : ((R.ex c : R α) >>= f) = .ex c := (rfl)
@[simp] theorem R.no_bind {α β : Type} (f : α → R β) : ((R.no : R α) >>= f) = .no := (rfl)
@[simp] theorem R.pure_ok {α : Type} (a : α) : (pure a : R α) = .ok a := (rfl)

/-- an exception of the class called c may leave -/
def Xw (X : Cx) (c : Str) : Prop := False

def rdR (X : Cx) (P : Hp → Hp → PyData → V → Prop) (r : R PyData) (H : Hp) (Q : VK) : Prop :=
  match r with
  | .ok d => ∀ v H', Same H H' → P H H' d v → Q v H'
  | .ex c => Xw X c
  | .no => False
abbrev PRp : Hp → Hp → PyData → V → Prop := fun _ H' d v => Rp H' d v
abbrev PBp : Hp → Hp → PyData → V → Prop := fun _ H' d v => BRp H' d v
abbrev PFp : Hp → Hp → PyData → V → Prop := fun H H' d v => Rp H' d v ∨ NRp H H' d v
abbrev Fe := Rho → R PyData
def rdE (X : Cx) (P : Hp → Hp → PyData → V → Prop) (f : Fe) : TE := fun σ H Q => ∃ ρ, Sl H σ ρ ∧ rdR X P (f ρ) H Q
/-- e is worth f: as data | to be read | new or data | new -/
def EvE (X : Cx) (e : Expr) (f : Fe) : Prop := PE X e (rdE X PRp f)
structure Z.EvE (X : Cx) (e : Expr) (f : Fe) : Prop where
  un : D2.EvE X e f
def EvB (X : Cx) (e : Expr) (f : Fe) : Prop := PE X e (rdE X PBp f)
structure Z.EvB (X : Cx) (e : Expr) (f : Fe) : Prop where
  un : D2.EvB X e f
def EvF (X : Cx) (e : Expr) (f : Fe) : Prop := PE X e (rdE X PFp f)
structure Z.EvF (X : Cx) (e : Expr) (f : Fe) : Prop where
  un : D2.EvF X e f
def EvN (X : Cx) (e : Expr) (f : Fe) : Prop := PE X e (rdE X NRp f)
structure Z.EvN (X : Cx) (e : Expr) (f : Fe) : Prop where
  un : D2.EvN X e f
/-- a list of values, each as I says -/
def RA (I : Hp → PyData → V → Prop) (H : Hp) : List PyData → List V → Prop
  | [], vs => vs = []
  | d :: ds, vs => ∃ v r, vs = v :: r ∧ I H d v ∧ RA I H ds r
theorem ra_iff {H : Hp} : ∀ {ds : List PyData} {vs : List V}, RA Rp H ds vs ↔ RpA H ds vs
  | [], vs => by simp only [RA, RpA]
  | d :: ds, vs => by simp only [RA, RpA, ra_iff (ds := ds)]
def rdA (X : Cx) (I : Hp → PyData → V → Prop) (f : Rho → R (List PyData)) : TA := fun σ H Q => ∃ ρ, Sl H σ ρ ∧ match f ρ with
  | .ok ds => ∀ vs H', Same H H' → RA I H' ds vs → Q vs H'
  | .ex c => Xw X c
  | .no => False
/-- a list of expressions, each as data | to be read -/
def EvA (X : Cx) (es : List Expr) (f : Rho → R (List PyData)) : Prop := PA X es (rdA X Rp f)
structure Z.EvA (X : Cx) (es : List Expr) (f : Rho → R (List PyData)) : Prop where
  un : D2.EvA X es f
def EvAB (X : Cx) (es : List Expr) (f : Rho → R (List PyData)) : Prop := PA X es (rdA X BRp f)
structure Z.EvAB (X : Cx) (es : List Expr) (f : Rho → R (List PyData)) : Prop where
  un : D2.EvAB X es f
/-- a test -/
def rdT (X : Cx) (f : Rho → R Bool) : TT := fun σ H Q => ∃ ρ, Sl H σ ρ ∧ match f ρ with
  | .ok b => ∀ H', Same H H' → Q b H'
  | .ex c => Xw X c
  | .no => False
def EvT (X : Cx) (e : Expr) (f : Rho → R Bool) : Prop := PT X e (rdT X f)
structure Z.EvT (X : Cx) (e : Expr) (f : Rho → R Bool) : Prop where
  un : D2.EvT X e f
def EvW (X : Cx) (e : Expr) (f : Rho → R Bool) : Prop := PW X e (rdT X f)

structure Z.EvW (X : Cx) (e : Expr) (f : Rho → R Bool) : Prop where
  un : D2.EvW X e f
theorem PE.imp {X : Cx} {e : Expr} {t t' : TE} (h : PE X e t) (i : ∀ σ H Q, t' σ H Q → t σ H Q) : PE X e t' := fun pins s σ H Q I q => h pins s σ H Q I (i σ H Q q)
theorem PT.imp {X : Cx} {e : Expr} {t t' : TT} (h : PT X e t) (i : ∀ σ H Q, t' σ H Q → t σ H Q) : PT X e t' := fun pins s σ H Q I q => h pins s σ H Q I (i σ H Q q)
theorem PW.imp {X : Cx} {e : Expr} {t t' : TT} (h : PW X e t) (i : ∀ σ H Q, t' σ H Q → t σ H Q) : PW X e t' := fun wh pins s σ H Q I q => h wh pins s σ H Q I (i σ H Q q)
theorem PA.imp {X : Cx} {e : List Expr} {t t' : TA} (h : PA X e t) (i : ∀ σ H Q, t' σ H Q → t σ H Q) : PA X e t' := fun pos pins s σ H Q I q => h pos pins s σ H Q I (i σ H Q q)

theorem rdE.post {X : Cx} {P : Hp → Hp → PyData → V → Prop} {f : Fe} {σ : St} {H : Hp} {Q Q' : VK} (h : rdE X P f σ H Q) (i : ∀ v H', Q v H' → Q' v H') : rdE X P f σ H Q' := by
  obtain ⟨ρ, sl, q⟩ := h
  refine ⟨ρ, sl, ?_⟩
  cases e : f ρ with
  | ok d => rw [e] at q; exact fun v H' s p => i _ _ (q v H' s p)
  | ex c => rw [e] at q; exact q
  | no => rw [e] at q; exact q
theorem rdT.post {X : Cx} {f : Rho → R Bool} {σ : St} {H : Hp} {Q Q' : Bool → Hp → Prop} (h : rdT X f σ H Q) (i : ∀ b H', Q b H' → Q' b H') : rdT X f σ H Q' := by
  obtain ⟨ρ, sl, q⟩ := h
  refine ⟨ρ, sl, ?_⟩
  cases e : f ρ with
  | ok d => rw [e] at q; exact fun H' s => i _ _ (q H' s)
  | ex c => rw [e] at q; exact q
  | no => rw [e] at q; exact q
theorem rdA.post {X : Cx} {I : Hp → PyData → V → Prop} {f : Rho → R (List PyData)} {σ : St} {H : Hp} {Q Q' : List V → Hp → Prop} (h : rdA X I f σ H Q) (i : ∀ vs H', Q vs H' → Q' vs H') : rdA X I f σ H Q' := by
  obtain ⟨ρ, sl, q⟩ := h
  refine ⟨ρ, sl, ?_⟩
  cases e : f ρ with
  | ok d => rw [e] at q; exact fun vs H' s p => i _ _ (q vs H' s p)
  | ex c => rw [e] at q; exact q
  | no => rw [e] at q; exact q
theorem rdE.weaken {X : Cx} {P P' : Hp → Hp → PyData → V → Prop} {f : Fe} (h : ∀ H H' d v, P H H' d v → P' H H' d v) (σ : St) (H : Hp) (Q : VK) (q : rdE X P' f σ H Q) : rdE X P f σ H Q := by
  obtain ⟨ρ, sl, q⟩ := q
  refine ⟨ρ, sl, ?_⟩
  cases e : f ρ with
  | ok d => rw [e] at q; exact fun v H' s p => q v H' s (h _ _ _ _ p)
  | ex c => rw [e] at q; exact q
  | no => rw [e] at q; exact q
section
variable {X : Cx} {e : Expr} {f : Fe}
theorem EvE.b (h : EvE X e f) : EvB X e f := PE.imp h (rdE.weaken fun _ _ _ _ p => Or.inl p)
theorem Z.EvE.b (h : Z.EvE X e f) : Z.EvB X e f :=
  ⟨D2.EvE.b h.un⟩
theorem EvN.b (h : EvN X e f) : EvB X e f := PE.imp h (rdE.weaken fun _ _ _ _ p => Or.inr p.1)
theorem Z.EvN.b (h : Z.EvN X e f) : Z.EvB X e f :=
  ⟨D2.EvN.b h.un⟩
theorem EvE.toF (h : EvE X e f) : EvF X e f := PE.imp h (rdE.weaken fun _ _ _ _ p => Or.inl p)
theorem Z.EvE.toF (h : Z.EvE X e f) : Z.EvF X e f :=
  ⟨D2.EvE.toF h.un⟩
theorem EvN.toF (h : EvN X e f) : EvF X e f := PE.imp h (rdE.weaken fun _ _ _ _ p => Or.inr p)
theorem Z.EvN.toF (h : Z.EvN X e f) : Z.EvF X e f :=
  ⟨D2.EvN.toF h.un⟩
end

/-! ### freezing: a new list or dict is data from now on -/
section
variable {X : Cx} {pins : List (Addr × Obj)} {σ : St} {H : Hp} {s : Shared} {a : Addr} {u : HO}
theorem inv_freeze (I : Inv X pins σ H s) (h : H a = some u) (hm : (∃ xs, u = .lst xs) ∨ ∃ ks, u = .dK ks) : ∃ o, Inv X pins σ (upd H a (.frz o u)) s := by
  have ob := I.hok a u h
  have hg : ∃ o, s.heap.get? a = some o := by
    rcases hm with ⟨xs, rfl⟩ | ⟨ks, rfl⟩
    · obtain ⟨_, _, _, _, e⟩ := ob; exact ⟨_, e⟩
    · obtain ⟨_, _, _, _, o, _, _, e, _⟩ := ob; exact ⟨_, e⟩
  obtain ⟨o, hg⟩ := hg
  have nt : ∀ b xs, H b = some (.tup xs) → b ≠ a := fun b xs q z => by subst z; rw [h] at q; rcases hm with ⟨_, rfl⟩ | ⟨_, rfl⟩ <;> cases q
  have nf : ∀ b o' u', H b = some (.frz o' u') → b ≠ a := fun b o' u' q z => by subst z; rw [h] at q; rcases hm with ⟨_, rfl⟩ | ⟨_, rfl⟩ <;> cases q
  have nb : ∀ b ps, H b = some (.tbl ps) → b ≠ a := fun b ps q z => by subst z; rw [h] at q; rcases hm with ⟨_, rfl⟩ | ⟨_, rfl⟩ <;> cases q
  have nw : ∀ b y, H b = some (.own y) → b ≠ a := fun b y q z => by subst z; rw [h] at q; rcases hm with ⟨_, rfl⟩ | ⟨_, rfl⟩ <;> cases q
  have nn : ∀ b, H b = none → b ≠ a := fun b q z => by subst z; rw [h] at q; cases q
  have st : ∀ b x, ObjOk X.prog X.w H s.heap b x → ObjOk X.prog X.w (upd H a (.frz o u)) s.heap b x := fun b x q =>
    q.stay (fun c v _ e => e) (fun c e => by rw [upd_ne (nw _ _ e)]; exact e) fun c xs e => by rw [upd_ne (nt _ _ e)]; exact e
  refine ⟨o, ⟨I.ok, I.os, I.bare, ⟨I.base.keep, I.base.slot, fun b ob' e n hx => ?_, I.base.there, fun b xs e => ?_, fun b ob' v e => ?_, fun b ps e => ?_⟩, I.loc, I.cell, ?_, fun x c e => ?_, fun p hp => ?_, fun b x e => ?_, I.len⟩⟩
  · have := I.base.free b ob' e n hx
    rw [upd_ne (nn _ this)]; exact this
  · have := I.base.tups b xs e
    rw [upd_ne (nt _ _ this)]; exact this
  · have := I.base.frzs b ob' v e
    rw [upd_ne (nf _ _ _ this)]; exact this
  · obtain ⟨m, q⟩ := I.base.tbls b ps e
    exact ⟨m, by rw [upd_ne (nb _ _ q)]; exact q⟩
  · rw [upd_ne (nn _ I.free)]; exact I.free
  · rw [upd_ne (nn _ (I.freeC x c e))]; exact I.freeC x c e
  · obtain ⟨p1, p2, p3⟩ := I.pin p hp
    exact ⟨p1, by rw [upd_ne (nn _ p2)]; exact p2, p3⟩
  · by_cases hb : b = a
    · subst hb
      rw [upd_same] at e; cases e
      exact ⟨hg, st b u ob⟩
    · rw [upd_ne hb] at e
      exact st b x (I.hok b x e)
theorem kp_upd {o' : HO} (h : H a = some u) (hm : (∃ xs, u = .lst xs) ∨ ∃ ks, u = .dK ks) : Kp H (upd H a o') := by
  refine ⟨fun b xs e => ?_, fun b o v e => ?_⟩
  · rw [upd_ne]; exact e
    rintro rfl; rw [h] at e; rcases hm with ⟨_, rfl⟩ | ⟨_, rfl⟩ <;> cases e
  · rw [upd_ne]; exact e
    rintro rfl; rw [h] at e; rcases hm with ⟨_, rfl⟩ | ⟨_, rfl⟩ <;> cases e
theorem inv_fz {H0 : Hp} {d : PyData} {v : V} (I : Inv X pins σ H s) (hs : Same H0 H) (n : NRp H0 H d v) : ∃ H', Inv X pins σ H' s ∧ Same H0 H' ∧ Rp H' d v := by
  obtain ⟨n, a, rfl, h0⟩ := n
  have go : ∀ u : HO, H a = some u → ((∃ xs, u = .lst xs) ∨ ∃ ks, u = .dK ks) → ∃ o, Inv X pins σ (upd H a (.frz o u)) s ∧ Same H0 (upd H a (.frz o u)) ∧ Kp H (upd H a (.frz o u)) := fun u hu hm => by
    obtain ⟨o, J⟩ := inv_freeze I hu hm
    refine ⟨o, J, fun b x e => ?_, kp_upd hu hm⟩
    rw [upd_ne (ne_of_none e h0)]; exact hs b x e
  cases d <;> simp only [ORp] at n
  · obtain ⟨a', vs, e, ha, r⟩ := n
    cases e
    obtain ⟨o, J, S, K⟩ := go _ ha (.inl ⟨_, rfl⟩)
    refine ⟨_, J, S, ?_⟩
    simp only [Rp]
    exact ⟨a, o, vs, rfl, upd_same, RpA.kp K _ _ r⟩
  · obtain ⟨a', vs, e, ha, r⟩ := n
    cases e
    obtain ⟨o, J, S, K⟩ := go _ ha (.inr ⟨_, rfl⟩)
    refine ⟨_, J, S, ?_⟩
    simp only [Rp]
    exact ⟨a, o, vs, rfl, upd_same, RpK.kp K _ _ r⟩
end
theorem EvF.e {X : Cx} {e : Expr} {f : Fe} (h : EvF X e f) : EvE X e f := by
  intro pins s σ H Q I q
  obtain ⟨ρ, sl, q⟩ := q
  cases ef : f ρ with
  | ok d =>
    rw [ef] at q
    refine thn (h pins s σ H (fun v H' => Same H H' ∧ PFp H H' d v) I ⟨ρ, sl, by rw [ef]; exact fun v H' hs p => ⟨hs, p⟩⟩) fun u s' ⟨v, H', I', r, hs, p⟩ => ?_
    rcases p with p | p
    · exact ⟨v, H', I', r, q v H' hs p⟩
    · obtain ⟨H2, I2, S2, p2⟩ := inv_fz I' hs p
      exact ⟨v, H2, I2, r, q v H2 S2 p2⟩
  | ex c => rw [ef] at q; exact thn (h pins s σ H (fun _ _ => False) I ⟨ρ, sl, by rw [ef]; exact q⟩) fun u s' ⟨v, H', I', r, z⟩ => z.elim
  | no => rw [ef] at q; exact q.elim
theorem Z.EvF.e {X : Cx} {e : Expr} {f : Fe} (h : Z.EvF X e f) : Z.EvE X e f :=
  ⟨D2.EvF.e h.un⟩
theorem EvN.e {X : Cx} {e : Expr} {f : Fe} (h : EvN X e f) : EvE X e f := (EvN.toF h).e
theorem Z.EvN.e {X : Cx} {e : Expr} {f : Fe} (h : Z.EvN X e f) : Z.EvE X e f :=
  ⟨D2.EvN.e h.un⟩
end D2
set_option Elab.async false
set_option linter.all false
set_option maxRecDepth 100000
set_option maxHeartbeats 4000000
namespace D2
open PySem PySem.Spec PyProof.Rows L2

/-! ### one after another -/
/-- what is wanted of a result: it may wait, it passes exceptions on -/
structure Tgt {β : Type} (X : Cx) (T : R β → Hp → Prop) : Prop where
  mono : ∀ r H H', T r H → Same H H' → T r H'
  ex : ∀ c H, T (.ex c) H → Xw X c
  no : ∀ H, ¬ T .no H
/-- a wish that may wait -/
def Dn (P : Hp → Hp → PyData → V → Prop) : Prop := ∀ H H1 H' d v, Same H H1 → P H1 H' d v → P H H' d v
theorem dn_r : Dn PRp := fun _ _ _ _ _ _ p => p
theorem dn_b : Dn PBp := fun _ _ _ _ _ _ p => p
theorem dn_n : Dn NRp := fun _ _ _ _ _ s p => ⟨p.1, let ⟨a, e, h⟩ := p.2; ⟨a, e, s.free h⟩⟩
theorem dn_f : Dn PFp := fun _ _ _ _ _ s p => p.elim .inl fun p => .inr (dn_n _ _ _ _ _ s p)
section
variable {X : Cx} {σ : St} {H : Hp}
theorem tgt_r {P : Hp → Hp → PyData → V → Prop} (hP : Dn P) (Q : VK) : Tgt X (fun r H => rdR X P r H Q) where
  mono := fun r H H' h s => by
    cases r with
    | ok d => exact fun v H2 s2 p => h v H2 (s.trans s2) (hP _ _ _ _ _ s p)
    | ex c => exact h
    | no => exact h
  ex := fun c H h => h
  no := fun H h => h
theorem tgt_t (Q : Bool → Hp → Prop) : Tgt X (fun (r : R Bool) H => match r with | .ok b => ∀ H', Same H H' → Q b H' | .ex c => Xw X c | .no => False) where
  mono := fun r H H' h s => by
    cases r with
    | ok d => exact fun H2 s2 => h H2 (s.trans s2)
    | ex c => exact h
    | no => exact h
  ex := fun c H h => h
  no := fun H h => h
theorem tgt_a (I : Hp → PyData → V → Prop) (Q : List V → Hp → Prop) : Tgt X (fun (r : R (List PyData)) H => match r with | .ok ds => ∀ vs H', Same H H' → RA I H' ds vs → Q vs H' | .ex c => Xw X c | .no => False) where
  mono := fun r H H' h s => by
    cases r with
    | ok d => exact fun vs H2 s2 => h vs H2 (s.trans s2)
    | ex c => exact h
    | no => exact h
  ex := fun c H h => h
  no := fun H h => h
theorem bind_e {β : Type} {T : R β → Hp → Prop} (t : Tgt X T) {P : Hp → Hp → PyData → V → Prop} {f : Fe} {k : Rho → PyData → R β} (h : ∃ ρ, Sl H σ ρ ∧ T (f ρ >>= k ρ) H) :
    rdE X P f σ H (fun v H1 => ∃ ρ d, Sl H1 σ ρ ∧ Same H H1 ∧ P H H1 d v ∧ T (k ρ d) H1) := by
  obtain ⟨ρ, sl, q⟩ := h
  refine ⟨ρ, sl, ?_⟩
  cases e : f ρ with
  | ok d => rw [e] at q; exact fun v H1 s p => ⟨ρ, d, sl.mono s, s, p, t.mono _ _ _ q s⟩
  | ex c => rw [e] at q; exact t.ex _ _ q
  | no => rw [e] at q; exact (t.no _ q).elim
theorem bind_t {β : Type} {T : R β → Hp → Prop} (t : Tgt X T) {f : Rho → R Bool} {k : Rho → Bool → R β} (h : ∃ ρ, Sl H σ ρ ∧ T (f ρ >>= k ρ) H) :
    rdT X f σ H (fun b H1 => ∃ ρ, Sl H1 σ ρ ∧ Same H H1 ∧ T (k ρ b) H1) := by
  obtain ⟨ρ, sl, q⟩ := h
  refine ⟨ρ, sl, ?_⟩
  cases e : f ρ with
  | ok d => rw [e] at q; exact fun H1 s => ⟨ρ, sl.mono s, s, t.mono _ _ _ q s⟩
  | ex c => rw [e] at q; exact t.ex _ _ q
  | no => rw [e] at q; exact (t.no _ q).elim
theorem bind_a {β : Type} {T : R β → Hp → Prop} (t : Tgt X T) {I : Hp → PyData → V → Prop} {f : Rho → R (List PyData)} {k : Rho → List PyData → R β} (h : ∃ ρ, Sl H σ ρ ∧ T (f ρ >>= k ρ) H) :
    rdA X I f σ H (fun vs H1 => ∃ ρ ds, Sl H1 σ ρ ∧ Same H H1 ∧ RA I H1 ds vs ∧ T (k ρ ds) H1) := by
  obtain ⟨ρ, sl, q⟩ := h
  refine ⟨ρ, sl, ?_⟩
  cases e : f ρ with
  | ok d => rw [e] at q; exact fun vs H1 s p => ⟨ρ, d, sl.mono s, s, p, t.mono _ _ _ q s⟩
  | ex c => rw [e] at q; exact t.ex _ _ q
  | no => rw [e] at q; exact (t.no _ q).elim
end

/-! ### names, constants -/
def eVar (i : Nat) : Fe := fun ρ => match ρ[i]? with
  | some (.val d) => .ok d
  | _ => .no
def eVarB (i : Nat) : Fe := fun ρ => match ρ[i]? with
  | some (.val d) => .ok d
  | some (.own d) => .ok d
  | _ => .no
def eC (d : PyData) : Fe := fun _ => .ok d
/-- what is known of a scope -/
structure Tb (X : Cx) (nl : Nat) (G : List Str) : Prop where
  hu : X.A.units + 64 < cLine
  calm : X.calm = true
  nd : X.N.Nodup
  vis : ∀ x ∈ X.N, Vis X.env.scope x ∧ (x == ("__debug__" : Str)) = false ∧ (x == ("__classdict__" : Str)) = false
  loc : ∀ x ∈ X.N.take nl, Loc X.env.scope x ∧ (X.fn x = true ∨ X.env.scope.names.lookup x = some .local)
  gl : ∀ x ∈ G, Gl X x ∧ (x == ("__debug__" : Str)) = false ∧ x ≠ ("__name__" : Str)
section
variable {X : Cx} {nl : Nat} {G : List Str} {x : Str} {pos : Pos}
theorem Sl.at {H : Hp} {σ : St} {ρ : Rho} {i : Nat} {c : Cell} (h : Sl H σ ρ) (e : ρ[i]? = some c) : ∃ o, σ[i]? = some o ∧ CellOk H c o := by
  have hi : i < σ.length := by rw [h.1]; exact (List.getElem?_eq_some_iff.mp e).1
  exact ⟨σ[i], List.getElem?_eq_getElem hi, h.2 i c _ e (List.getElem?_eq_getElem hi)⟩
theorem ev_name (T : Tb X nl G) (i : Nat) (hN : X.N[i]? = some x) : EvE X (.Name x pos) (eVar i) := by
  have hm := T.vis x (List.mem_of_getElem? hN)
  refine PE.imp (pe_var hN hm.1 hm.2.1 hm.2.2) fun σ H Q ⟨ρ, sl, q⟩ => ?_
  unfold eVar at q
  split at q
  · rename_i d e
    obtain ⟨o, h1, v, rfl, h2⟩ := sl.at e
    exact ⟨v, h1, q v H (Same.refl H) h2⟩
  · exact q.elim
theorem Z.ev_name (T : Tb X nl G) (i : Nat) (hN : X.N[i]? = some x) : Z.EvE X (.Name x pos) (eVar i) :=
  ⟨D2.ev_name T i hN⟩
theorem evb_name (T : Tb X nl G) (i : Nat) (hN : X.N[i]? = some x) : EvB X (.Name x pos) (eVarB i) := by
  have hm := T.vis x (List.mem_of_getElem? hN)
  refine PE.imp (pe_var hN hm.1 hm.2.1 hm.2.2) fun σ H Q ⟨ρ, sl, q⟩ => ?_
  unfold eVarB at q
  split at q
  · rename_i d e
    obtain ⟨o, h1, v, rfl, h2⟩ := sl.at e
    exact ⟨v, h1, q v H (Same.refl H) (.inl h2)⟩
  · rename_i d e
    obtain ⟨o, h1, v, rfl, h2⟩ := sl.at e
    exact ⟨v, h1, q v H (Same.refl H) (.inr h2)⟩
  · exact q.elim
theorem Z.evb_name (T : Tb X nl G) (i : Nat) (hN : X.N[i]? = some x) : Z.EvB X (.Name x pos) (eVarB i) :=
  ⟨D2.evb_name T i hN⟩
theorem ev_con {e : Expr} {d : PyData} {v : V} (h : PE X e (tC v)) (r : ∀ H, Rp H d v) : EvE X e (eC d) :=
  PE.imp h fun σ H Q ⟨ρ, sl, q⟩ => q v H (Same.refl H) (r H)
theorem Z.ev_con {e : Expr} {d : PyData} {v : V} (h : PE X e (tC v)) (r : ∀ H, Rp H d v) : Z.EvE X e (eC d) :=
  ⟨D2.ev_con h r⟩
theorem ev_int {i j} : EvE X (.Constant (.int i) j pos) (eC (.int i)) := ev_con pe_int fun H => by simp only [Rp]
theorem Z.ev_int {i j} : Z.EvE X (.Constant (.int i) j pos) (eC (.int i)) :=
  ⟨D2.ev_int⟩
theorem ev_bool {b j} : EvE X (.Constant (.bool b) j pos) (eC (.bool b)) := ev_con pe_bl fun H => by simp only [Rp]
theorem Z.ev_bool {b j} : Z.EvE X (.Constant (.bool b) j pos) (eC (.bool b)) :=
  ⟨D2.ev_bool⟩
theorem ev_none {j} : EvE X (.Constant .none j pos) (eC .none) := ev_con pe_non fun H => by simp only [Rp]
theorem Z.ev_none {j} : Z.EvE X (.Constant .none j pos) (eC .none) :=
  ⟨D2.ev_none⟩
theorem ev_str {y j} : EvE X (.Constant (.str y) j pos) (eC (.str y)) := ev_con pe_str fun H => by simp only [Rp]
theorem Z.ev_str {y j} : Z.EvE X (.Constant (.str y) j pos) (eC (.str y)) :=
  ⟨D2.ev_str⟩
theorem ev_gint {i : Int} {t : Tok} (T : Tb X nl G) (j : Nat) (hG : G[j]? = some x) (hm : X.mg x = some (.int i t)) : EvE X (.Name x pos) (eC (.int i)) := by
  have g := T.gl x (List.mem_of_getElem? hG)
  exact ev_con (pe_glob g.1 hm (v := .int i) ⟨t, rfl⟩ g.2.1) fun H => by simp only [Rp]
theorem Z.ev_gint {i : Int} {t : Tok} (T : Tb X nl G) (j : Nat) (hG : G[j]? = some x) (hm : X.mg x = some (.int i t)) : Z.EvE X (.Name x pos) (eC (.int i)) :=
  ⟨D2.ev_gint T j hG hm⟩
end

/-! ### operations on data -/
section
variable {X : Cx} {a b c : Expr} {fa fb fc : Fe} {pos : Pos}
def e2 (g : PyData → PyData → R PyData) (fa fb : Fe) : Fe := fun ρ => fa ρ >>= fun x => fb ρ >>= fun y => g x y
def e1 (g : PyData → R PyData) (fa : Fe) : Fe := fun ρ => fa ρ >>= fun x => g x
/-- a rule by values serves an operation on data -/
def Serves2 (X : Cx) (P : Hp → Hp → PyData → V → Prop) (r : R2) (g : PyData → PyData → R PyData) : Prop :=
  ∀ H x y dx dy Q, BRp H dx x → BRp H dy y → rdR X P (g dx dy) H Q → r x y H Q
theorem two {P : Hp → Hp → PyData → V → Prop} {r : R2} {g : PyData → PyData → R PyData} (hP : Dn P) (hg : Serves2 X P r g) (σ : St) (H : Hp) (Q : VK) (h : rdE X P (e2 g fa fb) σ H Q) :
    tOp r (rdE X PBp fa) (rdE X PBp fb) σ H Q :=
  (bind_e (P := PBp) (tgt_r (X := X) hP Q) h).post fun v H1 ⟨ρ1, d1, sl1, _, p1, q1⟩ =>
    (bind_e (P := PBp) (f := fb) (k := fun _ y => g d1 y) (tgt_r (X := X) hP Q) ⟨ρ1, sl1, q1⟩).post fun u H2 ⟨_, d2, _, s2, p2, q2⟩ => hg H2 v u d1 d2 Q (BRp.mono p1 s2) p2 q2
theorem ev_bin {op : Operator} {P : Hp → Hp → PyData → V → Prop} {r : R2} {g : PyData → PyData → R PyData} (hP : Dn P) (ho : OpR X (binaryOp op) r) (hg : Serves2 X P r g) (ha : EvB X a fa) (hb : EvB X b fb) :
    PE X (.BinOp a op b pos) (rdE X P (e2 g fa fb)) := PE.imp (pe_op ho ha hb) (two hP hg)
theorem ev_cmp {op : CmpOp} {r : R2} {g : PyData → PyData → R PyData} (ho : OpR X (compareOp op) r) (hg : Serves2 X PRp r g) (ha : EvB X a fa) (hb : EvB X b fb) (hm : behindInMarks op b = false) :
    EvE X (.Compare a [op] [b] pos) (e2 g fa fb) := PE.imp (pe_cmpR ho ha hb hm) (two dn_r hg)
theorem Z.ev_cmp {op : CmpOp} {r : R2} {g : PyData → PyData → R PyData} (ho : OpR X (compareOp op) r) (hg : Serves2 X PRp r g) (ha : Z.EvB X a fa) (hb : Z.EvB X b fb) (hm : behindInMarks op b = false) : Z.EvE X (.Compare a [op] [b] pos) (e2 g fa fb) :=
  ⟨D2.ev_cmp ho hg ha.un hb.un hm⟩
end

/-! ### a value's truth where it is a bool -/
def asB : PyData → R Bool
  | .bool b => .ok b
  | _ => .no
def tE (f : Fe) : Rho → R Bool := fun ρ => f ρ >>= asB
theorem rd_test {X : Cx} {f : Fe} {σ : St} {H : Hp} {Q : Bool → Hp → Prop} (h : rdT X (tE f) σ H Q) : rdE X PRp f σ H (fun x H' => ∃ k, x = .bl k ∧ Q k H') :=
  (bind_e (P := PRp) (f := f) (k := fun _ => asB) (tgt_t (X := X) Q) h).post fun v H1 ⟨ρ1, d1, _, _, p1, q1⟩ => by
    cases d1 with
    | bool b =>
      have p2 : v = .bl b := by simpa only [Rp] using p1
      exact ⟨b, p2, q1 H1 (Same.refl _)⟩
    | _ => exact q1.elim
section
variable {X : Cx} {a b c : Expr} {fa fb fc : Fe} {pos : Pos}
theorem evt_cmp {op : CmpOp} {r : R2} {g : PyData → PyData → R PyData} (ho : OpR X (compareOp op) r) (hg : Serves2 X PRp r g) (ha : EvB X a fa) (hb : EvB X b fb) (hm : behindInMarks op b = false) :
    EvT X (.Compare a [op] [b] pos) (tE (e2 g fa fb)) :=
  PT.imp (pt_cmpR ho ha hb hm) fun σ H Q h => two dn_r hg σ H _ (rd_test h)
theorem Z.evt_cmp {op : CmpOp} {r : R2} {g : PyData → PyData → R PyData} (ho : OpR X (compareOp op) r) (hg : Serves2 X PRp r g) (ha : Z.EvB X a fa) (hb : Z.EvB X b fb) (hm : behindInMarks op b = false) : Z.EvT X (.Compare a [op] [b] pos) (tE (e2 g fa fb)) :=
  ⟨D2.evt_cmp ho hg ha.un hb.un hm⟩
theorem evt_val {e : Expr} {f : Fe} (h : EvE X e f) (he : ∀ whole, isTrue e X.env whole = (do let v ← whole; standAt e.pos; holding [v] (truthy v)) := by intro _; rfl) : EvT X e (tE f) :=
  PT.imp (pt_val h he) fun σ H Q h => rd_test h
theorem Z.evt_val {e : Expr} {f : Fe} (h : Z.EvE X e f) (he : ∀ whole, isTrue e X.env whole = (do let v ← whole; standAt e.pos; holding [v] (truthy v)) := by intro _; rfl) : Z.EvT X e (tE f) :=
  ⟨D2.evt_val h.un he⟩
/-! ### and, or, not, if-else -/
def tAndR (f g : Rho → R Bool) : Rho → R Bool := fun ρ => f ρ >>= fun b => if b = true then g ρ else .ok false
def tOrR (f g : Rho → R Bool) : Rho → R Bool := fun ρ => f ρ >>= fun b => if b = true then .ok true else g ρ
def tNotR (f : Rho → R Bool) : Rho → R Bool := fun ρ => f ρ >>= fun b => .ok (!b)
variable {ga gb : Rho → R Bool} {rest : List Expr}
theorem evw_and1 (ha : EvT X a ga) : EvW X (.BoolOp .And [a] pos) ga := pw_and1 ha
theorem Z.evw_and1 (ha : Z.EvT X a ga) : Z.EvW X (.BoolOp .And [a] pos) ga :=
  ⟨D2.evw_and1 ha.un⟩
theorem evw_or1 (ha : EvT X a ga) : EvW X (.BoolOp .Or [a] pos) ga := pw_or1 ha
theorem Z.evw_or1 (ha : Z.EvT X a ga) : Z.EvW X (.BoolOp .Or [a] pos) ga :=
  ⟨D2.evw_or1 ha.un⟩
theorem evw_and (ha : EvT X a ga) (hb : EvW X (.BoolOp .And (b :: rest) pos) gb) : EvW X (.BoolOp .And (a :: b :: rest) pos) (tAndR ga gb) :=
  PW.imp (pw_and ha hb) fun σ H Q h => (bind_t (f := ga) (k := fun ρ b => if b = true then gb ρ else .ok false) (tgt_t (X := X) Q) h).post fun d H1 ⟨ρ1, sl1, _, q1⟩ => by
    cases d with
    | true => exact ⟨ρ1, sl1, q1⟩
    | false => exact q1 H1 (Same.refl _)
theorem Z.evw_and (ha : Z.EvT X a ga) (hb : Z.EvW X (.BoolOp .And (b :: rest) pos) gb) : Z.EvW X (.BoolOp .And (a :: b :: rest) pos) (tAndR ga gb) :=
  ⟨D2.evw_and ha.un hb.un⟩
theorem evw_or (ha : EvT X a ga) (hb : EvW X (.BoolOp .Or (b :: rest) pos) gb) : EvW X (.BoolOp .Or (a :: b :: rest) pos) (tOrR ga gb) :=
  PW.imp (pw_or ha hb) fun σ H Q h => (bind_t (f := ga) (k := fun ρ b => if b = true then .ok true else gb ρ) (tgt_t (X := X) Q) h).post fun d H1 ⟨ρ1, sl1, _, q1⟩ => by
    cases d with
    | false => exact ⟨ρ1, sl1, q1⟩
    | true => exact q1 H1 (Same.refl _)
theorem Z.evw_or (ha : Z.EvT X a ga) (hb : Z.EvW X (.BoolOp .Or (b :: rest) pos) gb) : Z.EvW X (.BoolOp .Or (a :: b :: rest) pos) (tOrR ga gb) :=
  ⟨D2.evw_or ha.un hb.un⟩
theorem EvW.t {e : Expr} (h : EvW X e ga) : EvT X e ga := PW.pt h
theorem Z.EvW.t {e : Expr} (h : Z.EvW X e ga) : Z.EvT X e ga :=
  ⟨D2.EvW.t h.un⟩
theorem evt_not (ha : EvT X a ga) : EvT X (.UnaryOp .Not a pos) (tNotR ga) :=
  PT.imp (pt_not ha) fun σ H Q h => (bind_t (f := ga) (k := fun _ b => .ok (!b)) (tgt_t (X := X) Q) h).post fun d H1 ⟨ρ1, sl1, _, q1⟩ => q1 H1 (Same.refl _)
theorem Z.evt_not (ha : Z.EvT X a ga) : Z.EvT X (.UnaryOp .Not a pos) (tNotR ga) :=
  ⟨D2.evt_not ha.un⟩
def eAnd (f g : Fe) : Fe := fun ρ => f ρ >>= fun d => asB d >>= fun b => if b = true then g ρ else .ok (.bool false)
def eOr (f g : Fe) : Fe := fun ρ => f ρ >>= fun d => asB d >>= fun b => if b = true then .ok (.bool true) else g ρ
def eNot (f : Fe) : Fe := fun ρ => f ρ >>= fun d => asB d >>= fun b => .ok (.bool (!b))
theorem rd_bool {k : Rho → Bool → R PyData} {f : Fe} {σ : St} {H : Hp} {Q : VK} (h : rdE X PRp (fun ρ => f ρ >>= fun d => asB d >>= fun b => k ρ b) σ H Q) :
    rdE X PRp f σ H (fun x H' => ∃ c, x = .bl c ∧ rdE X PRp (fun ρ => k ρ c) σ H' Q) :=
  (bind_e (P := PRp) (f := f) (k := fun ρ d => asB d >>= fun b => k ρ b) (tgt_r (X := X) dn_r Q) h).post fun v H1 ⟨ρ1, d1, sl1, _, p1, q1⟩ => by
    cases d1 with
    | bool b =>
      have p2 : v = .bl b := by simpa only [Rp] using p1
      exact ⟨b, p2, ρ1, sl1, q1⟩
    | _ => exact q1.elim
theorem ev_one {op} (h : EvE X a fa) : EvE X (.BoolOp op [a] pos) fa := pe_one h
theorem Z.ev_one {op} (h : Z.EvE X a fa) : Z.EvE X (.BoolOp op [a] pos) fa :=
  ⟨D2.ev_one h.un⟩
theorem ev_and (ha : EvE X a fa) (hb : EvE X (.BoolOp .And (b :: rest) pos) fb) : EvE X (.BoolOp .And (a :: b :: rest) pos) (eAnd fa fb) :=
  PE.imp (pe_and ha hb) fun σ H Q h => (rd_bool (k := fun ρ b => if b = true then fb ρ else .ok (.bool false)) h).post fun v H1 ⟨c, e1, q1⟩ => by
    refine ⟨c, e1, ?_⟩
    cases c with
    | true => exact q1
    | false =>
      obtain ⟨_, _, q2⟩ := q1
      exact q2 _ H1 (Same.refl _) (by simp only [Rp])
theorem Z.ev_and (ha : Z.EvE X a fa) (hb : Z.EvE X (.BoolOp .And (b :: rest) pos) fb) : Z.EvE X (.BoolOp .And (a :: b :: rest) pos) (eAnd fa fb) :=
  ⟨D2.ev_and ha.un hb.un⟩
theorem ev_or (ha : EvE X a fa) (hb : EvE X (.BoolOp .Or (b :: rest) pos) fb) : EvE X (.BoolOp .Or (a :: b :: rest) pos) (eOr fa fb) :=
  PE.imp (pe_or ha hb) fun σ H Q h => (rd_bool (k := fun ρ b => if b = true then .ok (.bool true) else fb ρ) h).post fun v H1 ⟨c, e1, q1⟩ => by
    refine ⟨c, e1, ?_⟩
    cases c with
    | false => exact q1
    | true =>
      obtain ⟨_, _, q2⟩ := q1
      exact q2 _ H1 (Same.refl _) (by simp only [Rp])
theorem Z.ev_or (ha : Z.EvE X a fa) (hb : Z.EvE X (.BoolOp .Or (b :: rest) pos) fb) : Z.EvE X (.BoolOp .Or (a :: b :: rest) pos) (eOr fa fb) :=
  ⟨D2.ev_or ha.un hb.un⟩
theorem ev_not (ha : EvE X a fa) : EvE X (.UnaryOp .Not a pos) (eNot fa) :=
  PE.imp (pe_not ha) fun σ H Q h => (rd_bool (k := fun ρ b => .ok (.bool (!b))) h).post fun v H1 ⟨c, e1, _, _, q2⟩ => ⟨c, e1, q2 _ H1 (Same.refl _) (by simp only [Rp])⟩
theorem Z.ev_not (ha : Z.EvE X a fa) : Z.EvE X (.UnaryOp .Not a pos) (eNot fa) :=
  ⟨D2.ev_not ha.un⟩
def eIf (t : Rho → R Bool) (f g : Fe) : Fe := fun ρ => t ρ >>= fun b => if b = true then f ρ else g ρ
theorem ev_ifExp {e : Expr} (hc : EvT X e ga) (ha : EvE X a fa) (hb : EvE X b fb) : EvE X (.IfExp e a b pos) (eIf ga fa fb) :=
  PE.imp (pe_ifExp hc ha hb) fun σ H Q h => (bind_t (f := ga) (k := fun ρ b => if b = true then fa ρ else fb ρ) (tgt_r (X := X) dn_r Q) h).post fun d H1 ⟨ρ1, sl1, _, q1⟩ => by
    cases d with
    | true => exact ⟨ρ1, sl1, q1⟩
    | false => exact ⟨ρ1, sl1, q1⟩
theorem Z.ev_ifExp {e : Expr} (hc : Z.EvT X e ga) (ha : Z.EvE X a fa) (hb : Z.EvE X b fb) : Z.EvE X (.IfExp e a b pos) (eIf ga fa fb) :=
  ⟨D2.ev_ifExp hc.un ha.un hb.un⟩
end
/-! ### argument lists -/
def notStar : Expr → Bool
  | .Starred .. => false
  | _ => true
theorem star_cons {e : Expr} {es : List Expr} {env : Env} (h : notStar e = true) : starEach (e :: es) env = (false, eval e env) :: starEach es env := by
  cases e <;> first | rfl | (cases h)
theorem star_any {es : List Expr} {env : Env} {pos : Pos} (h : es.all notStar = true) : (backTo pos (starEach es env)).any (·.1) = false := by
  induction es with
  | nil => rfl
  | cons e es ih =>
    rw [List.all_cons, Bool.and_eq_true] at h
    rw [star_cons h.1]
    have := ih h.2
    simpa [backTo] using this
def aNil : Rho → R (List PyData) := fun _ => .ok []
def aCons (f : Fe) (g : Rho → R (List PyData)) : Rho → R (List PyData) := fun ρ => f ρ >>= fun d => g ρ >>= fun ds => .ok (d :: ds)
section
variable {X : Cx} {e : Expr} {es : List Expr} {f : Fe} {g : Rho → R (List PyData)}
theorem ea_nilG {I : Hp → PyData → V → Prop} : PA X [] (rdA X I aNil) := PA.imp pa_nil fun σ H Q ⟨ρ, sl, q⟩ => q [] H (Same.refl _) (by simp only [RA])
theorem ea_nil : EvA X [] aNil := ea_nilG
theorem Z.ea_nil  : Z.EvA X [] aNil :=
  ⟨D2.ea_nil⟩
theorem eb_nil : EvAB X [] aNil := ea_nilG
theorem Z.eb_nil  : Z.EvAB X [] aNil :=
  ⟨D2.eb_nil⟩
theorem ea_consG {I : Hp → PyData → V → Prop} (hI : ∀ H H' d v, I H d v → Same H H' → I H' d v) (ha : PE X e (rdE X (fun _ H' d v => I H' d v) f)) (hr : PA X es (rdA X I g))
    (hs : starEach (e :: es) X.env = (false, eval e X.env) :: starEach es X.env := by rfl) : PA X (e :: es) (rdA X I (aCons f g)) :=
  PA.imp (pa_cons ha hr hs) fun σ H Q h =>
    (bind_e (P := fun _ H' d v => I H' d v) (f := f) (k := fun ρ d => g ρ >>= fun ds => .ok (d :: ds)) (tgt_a (X := X) I Q) h).post fun v H1 ⟨ρ1, d1, sl1, _, p1, q1⟩ =>
      (bind_a (I := I) (f := g) (k := fun _ ds => .ok (d1 :: ds)) (tgt_a (X := X) I Q) ⟨ρ1, sl1, q1⟩).post fun vs H2 ⟨_, ds1, _, s2, p3, q3⟩ =>
        q3 (v :: vs) H2 (Same.refl _) (by simp only [RA]; exact ⟨v, vs, rfl, hI _ _ _ _ p1 s2, p3⟩)
theorem ea_cons (ha : EvE X e f) (hr : EvA X es g) (hs : notStar e = true := by rfl) : EvA X (e :: es) (aCons f g) := ea_consG (fun _ _ _ _ h s => h.mono s) ha hr (star_cons hs)
theorem Z.ea_cons (ha : Z.EvE X e f) (hr : Z.EvA X es g) (hs : notStar e = true := by rfl) : Z.EvA X (e :: es) (aCons f g) :=
  ⟨D2.ea_cons ha.un hr.un hs⟩
theorem eb_cons (ha : EvB X e f) (hr : EvAB X es g) (hs : notStar e = true := by rfl) : EvAB X (e :: es) (aCons f g) := ea_consG (fun _ _ _ _ h s => h.mono s) ha hr (star_cons hs)
theorem Z.eb_cons (ha : Z.EvB X e f) (hr : Z.EvAB X es g) (hs : notStar e = true := by rfl) : Z.EvAB X (e :: es) (aCons f g) :=
  ⟨D2.eb_cons ha.un hr.un hs⟩
end
end D2
set_option Elab.async false
set_option linter.all false
set_option maxRecDepth 100000
set_option maxHeartbeats 4000000
namespace D2
open PySem PySem.Spec PyProof.Rows L2

/-! ### reading off what a value is -/
section
variable {K : PySem.W.Frag} {H : Hp} {x : V}
theorem brp_none (h : BRp H .none x) : x = .non := by
  rcases h with h | h
  · simpa only [Rp] using h
  · simp only [ORp] at h
theorem brp_bool {b : Bool} (h : BRp H (.bool b) x) : x = .bl b := by
  rcases h with h | h
  · simpa only [Rp] using h
  · simp only [ORp] at h
theorem brp_int {i : Int} (h : BRp H (.int i) x) : x = .int i := by
  rcases h with h | h
  · simpa only [Rp] using h
  · simp only [ORp] at h
theorem brp_str {y : Str} (h : BRp H (.str y) x) : x = .str y := by
  rcases h with h | h
  · simpa only [Rp] using h
  · simp only [ORp] at h
theorem brp_tuple {ds : List PyData} (h : BRp H (.tuple ds) x) : ∃ a vs, x = .ref a ∧ H a = some (.tup vs) ∧ RpA H ds vs := by
  rcases h with h | h
  · simpa only [Rp] using h
  · simp only [ORp] at h
theorem brp_list {ds : List PyData} (h : BRp H (.list ds) x) : ∃ a vs, x = .ref a ∧ SqL K H a vs ∧ RpA H ds vs := by
  rcases h with h | h
  · simp only [Rp] at h
    obtain ⟨a, o, vs, e, ha, r⟩ := h
    exact ⟨a, vs, e, .inl (.inr ⟨o, ha⟩), r⟩
  · simp only [ORp] at h
    obtain ⟨a, vs, e, ha, r⟩ := h
    exact ⟨a, vs, e, .inl (.inl ha), r⟩
theorem brp_dict {kvs : List (PyData × PyData)} (h : BRp H (.dict kvs) x) : ∃ a ks, x = .ref a ∧ Rd H a (.dK ks) ∧ RpK H kvs ks := by
  rcases h with h | h
  · simp only [Rp] at h
    obtain ⟨a, o, vs, e, ha, r⟩ := h
    exact ⟨a, vs, e, .inr ⟨o, ha⟩, r⟩
  · simp only [ORp] at h
    obtain ⟨a, vs, e, ha, r⟩ := h
    exact ⟨a, vs, e, .inl ha, r⟩
end
/-! ### lists of values -/
theorem RpA.nil {H : Hp} : RpA H [] [] := by simp only [RpA]
theorem RpA.cons {H : Hp} {d : PyData} {ds : List PyData} {v : V} {vs : List V} (h : Rp H d v) (t : RpA H ds vs) : RpA H (d :: ds) (v :: vs) := by simp only [RpA]; exact ⟨v, vs, rfl, h, t⟩
theorem RpA.nil_inv {H : Hp} {vs : List V} (h : RpA H [] vs) : vs = [] := by simpa only [RpA] using h
theorem RpA.cons_inv {H : Hp} {d : PyData} {ds : List PyData} {vs : List V} (h : RpA H (d :: ds) vs) : ∃ v r, vs = v :: r ∧ Rp H d v ∧ RpA H ds r := by simpa only [RpA] using h
theorem RpA.length {H : Hp} : ∀ {ds : List PyData} {vs : List V}, RpA H ds vs → vs.length = ds.length
  | [], vs, h => by rw [h.nil_inv]; rfl
  | d :: ds, vs, h => by
    obtain ⟨v, r, rfl, _, t⟩ := h.cons_inv
    rw [List.length_cons, List.length_cons, RpA.length t]
theorem RpA.get {H : Hp} : ∀ {ds : List PyData} {vs : List V} {i : Nat} {d : PyData}, RpA H ds vs → ds[i]? = some d → ∃ v, vs[i]? = some v ∧ Rp H d v
  | [], vs, i, d, h, e => by simp at e
  | d0 :: ds, vs, 0, d, h, e => by
    obtain ⟨v, r, rfl, p, _⟩ := h.cons_inv
    simp at e; subst e
    exact ⟨v, rfl, p⟩
  | d0 :: ds, vs, i + 1, d, h, e => by
    obtain ⟨v, r, rfl, _, t⟩ := h.cons_inv
    obtain ⟨u, e1, p⟩ := RpA.get (i := i) t (by simpa using e)
    exact ⟨u, by simpa using e1, p⟩
theorem RpA.append {H : Hp} : ∀ {ds es : List PyData} {vs us : List V}, RpA H ds vs → RpA H es us → RpA H (ds ++ es) (vs ++ us)
  | [], es, vs, us, h, g => by rw [h.nil_inv]; exact g
  | d :: ds, es, vs, us, h, g => by
    obtain ⟨v, r, rfl, p, t⟩ := h.cons_inv
    exact RpA.cons p (RpA.append t g)
theorem RpA.take {H : Hp} : ∀ {ds : List PyData} {vs : List V} (n : Nat), RpA H ds vs → RpA H (ds.take n) (vs.take n)
  | ds, vs, 0, h => by simp only [List.take_zero]; exact RpA.nil
  | [], vs, n + 1, h => by rw [h.nil_inv]; exact RpA.nil
  | d :: ds, vs, n + 1, h => by
    obtain ⟨v, r, rfl, p, t⟩ := h.cons_inv
    exact RpA.cons p (RpA.take n t)
theorem RpA.drop {H : Hp} : ∀ {ds : List PyData} {vs : List V} (n : Nat), RpA H ds vs → RpA H (ds.drop n) (vs.drop n)
  | ds, vs, 0, h => h
  | [], vs, n + 1, h => by rw [h.nil_inv]; exact RpA.nil
  | d :: ds, vs, n + 1, h => by
    obtain ⟨v, r, rfl, p, t⟩ := h.cons_inv
    exact RpA.drop n t
theorem RpA.reverse {H : Hp} : ∀ {ds : List PyData} {vs : List V}, RpA H ds vs → RpA H ds.reverse vs.reverse
  | [], vs, h => by rw [h.nil_inv]; exact RpA.nil
  | d :: ds, vs, h => by
    obtain ⟨v, r, rfl, p, t⟩ := h.cons_inv
    rw [List.reverse_cons, List.reverse_cons]
    exact RpA.append (RpA.reverse t) (RpA.cons p RpA.nil)
theorem RpA.rep {H : Hp} {ds : List PyData} {vs : List V} (h : RpA H ds vs) : ∀ k : Nat, RpA H (List.replicate k ds).flatten (List.replicate k vs).flatten
  | 0 => RpA.nil
  | k + 1 => by rw [List.replicate_succ, List.replicate_succ, List.flatten_cons, List.flatten_cons]; exact RpA.append h (RpA.rep h k)
theorem RpA.ints {H : Hp} : ∀ ns : List Int, RpA H (ns.map PyData.int) (ns.map V.int)
  | [] => RpA.nil
  | n :: ns => RpA.cons (by simp only [Rp]) (RpA.ints ns)
/-- the heap with a new thing -/
theorem same_up {H : Hp} {p : Addr} (h : H p = none) (o : HO) : Same H (upd H p o) := fun b u q => by rw [upd_ne (ne_of_none q h)]; exact q
theorem rp_new_tup {H : Hp} {p : Addr} {ds : List PyData} {vs : List V} (h : H p = none) (r : RpA H ds vs) : Rp (upd H p (.tup vs)) (.tuple ds) (.ref p) := by
  simp only [Rp]; exact ⟨p, vs, rfl, upd_same, r.mono (same_up h _)⟩
theorem nrp_new_lst {H : Hp} {p : Addr} {ds : List PyData} {vs : List V} (h : H p = none) (r : RpA H ds vs) : NRp H (upd H p (.lst vs)) (.list ds) (.ref p) := by
  refine ⟨?_, p, rfl, h⟩
  simp only [ORp]; exact ⟨p, vs, rfl, upd_same, r.mono (same_up h _)⟩

/-! ### from the abstract heap to the library's reading -/
section
variable {P : Program} {w : World} {H : Hp} {h : Heap}
mutual
theorem reads_of (ok : HOk P w H h) : ∀ (d : PyData) (v : V) (u : Value), d.canLay0 = true → Rp H d v → RelV v u → ∃ as, Reads h u d as
  | .none, v, u, _, r, e => by simp only [Rp] at r; subst r; cases e; exact ⟨_, .none⟩
  | .bool b, v, u, _, r, e => by simp only [Rp] at r; subst r; cases e; exact ⟨_, .bool b⟩
  | .int i, v, u, _, r, e => by simp only [Rp] at r; subst r; obtain ⟨t, rfl⟩ := e; exact ⟨_, .int i t⟩
  | .str x, v, u, _, r, e => by simp only [Rp] at r; subst r; obtain ⟨t, rfl⟩ := e; exact ⟨_, .str x t⟩
  | .tuple ds, v, u, c, r, e => by
    simp only [Rp] at r
    obtain ⟨a, vs, rfl, ha, r⟩ := r
    cases e
    obtain ⟨_, its, rv, o, h1, h2, n, h3⟩ := (show ObjOk P w H h a (.tup vs) from ok a _ ha)
    obtain ⟨as, q⟩ := readsAll_of ok ds vs its (by simpa only [PyData.canLay0] using c) r rv
    exact ⟨as, .tuple h1 h2 h3 (by simpa using q)⟩
  | .list ds, v, u, c, r, e => by
    simp only [Rp] at r
    obtain ⟨a, ob, vs, rfl, ha, r⟩ := r
    cases e
    obtain ⟨_, _, its, n, rv, h1⟩ := (show ObjOk P w H h a (.frz ob (.lst vs)) from ok a _ ha)
    obtain ⟨as, q⟩ := readsAll_of ok ds vs its (by simpa only [PyData.canLay0] using c) r rv
    exact ⟨a :: as, .list h1 rfl rfl (by simpa using q)⟩
  | .dict kvs, v, u, c, r, e => by simp [PyData.canLay0] at c
theorem readsAll_of (ok : HOk P w H h) : ∀ (ds : List PyData) (vs : List V) (us : List Value), PyData.canLayAll0 ds = true → RpA H ds vs → Vals vs us → ∃ as, ReadsAll h us ds as
  | [], vs, us, _, r, e => by rw [r.nil_inv] at e; cases e; exact ⟨_, .nil⟩
  | d :: ds, vs, us, c, r, e => by
    obtain ⟨v, r', rfl, p, t⟩ := r.cons_inv
    have c' : d.canLay0 = true ∧ PyData.canLayAll0 ds = true := by simpa [PyData.canLayAll0] using c
    cases e with
    | cons e1 e2 =>
      obtain ⟨as, q1⟩ := reads_of ok d v _ c'.1 p e1
      obtain ⟨bs, q2⟩ := readsAll_of ok ds r' _ c'.2 t e2
      exact ⟨as ++ bs, .cons q1 q2⟩
end
theorem reads_ofB (ok : HOk P w H h) {d : PyData} {v : V} {u : Value} (c : d.canLay0 = true) (r : BRp H d v) (e : RelV v u) : ∃ as, Reads h u d as := by
  rcases r with r | r
  · exact reads_of ok d v u c r e
  · cases d <;> simp only [ORp] at r
    · rename_i ds
      obtain ⟨a, vs, rfl, ha, r⟩ := r
      cases e
      obtain ⟨_, its, n, rv, h1⟩ := (show ObjOk P w H h a (.lst vs) from ok a _ ha)
      obtain ⟨as, q⟩ := readsAll_of ok ds vs its (by simpa only [PyData.canLay0] using c) r rv
      exact ⟨a :: as, .list h1 rfl rfl (by simpa using q)⟩
    · simp [PyData.canLay0] at c
end

/-! ### arithmetic on data -/
def dSub : PyData → PyData → R PyData
  | .int i, .int j => .ok (.int (i - j))
  | _, _ => .no
def dMod : PyData → PyData → R PyData
  | .int i, .int j => if 0 < j then .ok (.int (i % j)) else .no
  | _, _ => .no
def dDiv : PyData → PyData → R PyData
  | .int i, .int j => if 0 < j ∧ j < 1073741824 then .ok (.int (i / j)) else .no
  | _, _ => .no
def dCmp (p : Int → Int → Bool) : PyData → PyData → R PyData
  | .int i, .int j => .ok (.bool (p i j))
  | _, _ => .no
def eqOk (x y : PyData) : Bool := x.canLay0 && y.canLay0 && decide (min x.depth y.depth ≤ 60)
def dEq (x y : PyData) : R PyData := if eqOk x y = true then .ok (.bool (PyData.eqv x y)) else .no
def dNe (x y : PyData) : R PyData := if eqOk x y = true then .ok (.bool (!PyData.eqv x y)) else .no
def isNoneD : PyData → Bool
  | .none => true
  | _ => false
def dIsN (x y : PyData) : R PyData := if isNoneD y = true then .ok (.bool (isNoneD x)) else .no
def dNotN (x y : PyData) : R PyData := if isNoneD y = true then .ok (.bool (!isNoneD x)) else .no
def inOk (xs : List PyData) (d : PyData) : Bool := PyData.canLayAll0 xs && d.canLay0 && decide (min (PyData.depthAll xs) d.depth ≤ 60)
def dIn (neg : Bool) (d : PyData) : PyData → R PyData
  | .list xs => if inOk xs d = true then .ok (.bool (if neg then !(xs.any fun y => PyData.eqv y d) else xs.any fun y => PyData.eqv y d)) else .no
  | .tuple xs => if inOk xs d = true then .ok (.bool (if neg then !(xs.any fun y => PyData.eqv y d) else xs.any fun y => PyData.eqv y d)) else .no
  | _ => .no
section
variable {X : Cx} {a b c : Expr} {fa fb fc : Fe} {pos : Pos}
theorem rp_int {H : Hp} {i : Int} : Rp H (.int i) (.int i) := by simp only [Rp]
theorem rp_bool {H : Hp} {i : Bool} : Rp H (.bool i) (.bl i) := by simp only [Rp]
theorem rp_str {H : Hp} {i : Str} : Rp H (.str i) (.str i) := by simp only [Rp]
theorem rp_none {H : Hp} : Rp H .none .non := by simp only [Rp]
theorem sv_sub : Serves2 X PRp (rI0 fun i j => .int (i - j)) dSub := fun H x y dx dy Q hx hy q => by
  unfold dSub at q
  split at q
  · exact ⟨_, _, brp_int hx, brp_int hy, q _ H (Same.refl _) rp_int⟩
  · exact q.elim
theorem sv_mod : Serves2 X PRp (rI (fun _ j => 0 < j) fun i j => .int (i % j)) dMod := fun H x y dx dy Q hx hy q => by
  unfold dMod at q
  split at q
  · split at q
    · rename_i h; exact ⟨_, _, brp_int hx, brp_int hy, h, q _ H (Same.refl _) rp_int⟩
    · exact q.elim
  · exact q.elim
theorem sv_div : Serves2 X PRp (rI CDiv fun i j => .int (i / j)) dDiv := fun H x y dx dy Q hx hy q => by
  unfold dDiv at q
  split at q
  · split at q
    · rename_i h; exact ⟨_, _, brp_int hx, brp_int hy, h, q _ H (Same.refl _) rp_int⟩
    · exact q.elim
  · exact q.elim
theorem sv_cmp {p : Int → Int → Bool} : Serves2 X PRp (rI0 fun i j => .bl (p i j)) (dCmp p) := fun H x y dx dy Q hx hy q => by
  unfold dCmp at q
  split at q
  · exact ⟨_, _, brp_int hx, brp_int hy, q _ H (Same.refl _) rp_bool⟩
  · exact q.elim
theorem ev_sub (ha : EvB X a fa) (hb : EvB X b fb) : EvE X (.BinOp a .Sub b pos) (e2 dSub fa fb) := ev_bin dn_r op_sub sv_sub ha hb
theorem Z.ev_sub (ha : Z.EvB X a fa) (hb : Z.EvB X b fb) : Z.EvE X (.BinOp a .Sub b pos) (e2 dSub fa fb) :=
  ⟨D2.ev_sub ha.un hb.un⟩
theorem ev_mod (ha : EvB X a fa) (hb : EvB X b fb) : EvE X (.BinOp a .Mod b pos) (e2 dMod fa fb) := ev_bin dn_r op_mod sv_mod ha hb
theorem Z.ev_mod (ha : Z.EvB X a fa) (hb : Z.EvB X b fb) : Z.EvE X (.BinOp a .Mod b pos) (e2 dMod fa fb) :=
  ⟨D2.ev_mod ha.un hb.un⟩
theorem ev_div (ha : EvB X a fa) (hb : EvB X b fb) : EvE X (.BinOp a .FloorDiv b pos) (e2 dDiv fa fb) := ev_bin dn_r op_fdiv sv_div ha hb
theorem Z.ev_div (ha : Z.EvB X a fa) (hb : Z.EvB X b fb) : Z.EvE X (.BinOp a .FloorDiv b pos) (e2 dDiv fa fb) :=
  ⟨D2.ev_div ha.un hb.un⟩
abbrev pLt : Int → Int → Bool := fun i j => decide (i < j)
abbrev pLe : Int → Int → Bool := fun i j => decide (i ≤ j)
abbrev pGt : Int → Int → Bool := fun i j => decide (j < i)
abbrev pGe : Int → Int → Bool := fun i j => decide (j ≤ i)
theorem ev_lt (ha : EvB X a fa) (hb : EvB X b fb) : EvE X (.Compare a [.Lt] [b] pos) (e2 (dCmp pLt) fa fb) := ev_cmp op_lt sv_cmp ha hb (nomark _)
theorem Z.ev_lt (ha : Z.EvB X a fa) (hb : Z.EvB X b fb) : Z.EvE X (.Compare a [.Lt] [b] pos) (e2 (dCmp pLt) fa fb) :=
  ⟨D2.ev_lt ha.un hb.un⟩
theorem ev_le (ha : EvB X a fa) (hb : EvB X b fb) : EvE X (.Compare a [.LtE] [b] pos) (e2 (dCmp pLe) fa fb) := ev_cmp op_le sv_cmp ha hb (nomark _)
theorem Z.ev_le (ha : Z.EvB X a fa) (hb : Z.EvB X b fb) : Z.EvE X (.Compare a [.LtE] [b] pos) (e2 (dCmp pLe) fa fb) :=
  ⟨D2.ev_le ha.un hb.un⟩
theorem ev_gt (ha : EvB X a fa) (hb : EvB X b fb) : EvE X (.Compare a [.Gt] [b] pos) (e2 (dCmp pGt) fa fb) := ev_cmp op_gt sv_cmp ha hb (nomark _)
theorem Z.ev_gt (ha : Z.EvB X a fa) (hb : Z.EvB X b fb) : Z.EvE X (.Compare a [.Gt] [b] pos) (e2 (dCmp pGt) fa fb) :=
  ⟨D2.ev_gt ha.un hb.un⟩
theorem ev_ge (ha : EvB X a fa) (hb : EvB X b fb) : EvE X (.Compare a [.GtE] [b] pos) (e2 (dCmp pGe) fa fb) := ev_cmp op_ge sv_cmp ha hb (nomark _)
theorem Z.ev_ge (ha : Z.EvB X a fa) (hb : Z.EvB X b fb) : Z.EvE X (.Compare a [.GtE] [b] pos) (e2 (dCmp pGe) fa fb) :=
  ⟨D2.ev_ge ha.un hb.un⟩
theorem evt_lt (ha : EvB X a fa) (hb : EvB X b fb) : EvT X (.Compare a [.Lt] [b] pos) (tE (e2 (dCmp pLt) fa fb)) := evt_cmp op_lt sv_cmp ha hb (nomark _)
theorem Z.evt_lt (ha : Z.EvB X a fa) (hb : Z.EvB X b fb) : Z.EvT X (.Compare a [.Lt] [b] pos) (tE (e2 (dCmp pLt) fa fb)) :=
  ⟨D2.evt_lt ha.un hb.un⟩
theorem evt_le (ha : EvB X a fa) (hb : EvB X b fb) : EvT X (.Compare a [.LtE] [b] pos) (tE (e2 (dCmp pLe) fa fb)) := evt_cmp op_le sv_cmp ha hb (nomark _)
theorem Z.evt_le (ha : Z.EvB X a fa) (hb : Z.EvB X b fb) : Z.EvT X (.Compare a [.LtE] [b] pos) (tE (e2 (dCmp pLe) fa fb)) :=
  ⟨D2.evt_le ha.un hb.un⟩
theorem evt_gt (ha : EvB X a fa) (hb : EvB X b fb) : EvT X (.Compare a [.Gt] [b] pos) (tE (e2 (dCmp pGt) fa fb)) := evt_cmp op_gt sv_cmp ha hb (nomark _)
theorem Z.evt_gt (ha : Z.EvB X a fa) (hb : Z.EvB X b fb) : Z.EvT X (.Compare a [.Gt] [b] pos) (tE (e2 (dCmp pGt) fa fb)) :=
  ⟨D2.evt_gt ha.un hb.un⟩
theorem evt_ge (ha : EvB X a fa) (hb : EvB X b fb) : EvT X (.Compare a [.GtE] [b] pos) (tE (e2 (dCmp pGe) fa fb)) := evt_cmp op_ge sv_cmp ha hb (nomark _)

theorem Z.evt_ge (ha : Z.EvB X a fa) (hb : Z.EvB X b fb) : Z.EvT X (.Compare a [.GtE] [b] pos) (tE (e2 (dCmp pGe) fa fb)) :=
  ⟨D2.evt_ge ha.un hb.un⟩
/-! ### ==, != -/
def rEqD (X : Cx) (neg : Bool) : R2 := fun x y H Q => ∃ dx dy, BRp H dx x ∧ BRp H dy y ∧ eqOk dx dy = true ∧ Q (.bl (if neg then !PyData.eqv dx dy else PyData.eqv dx dy)) H
theorem eqOk_parts {x y : PyData} (h : eqOk x y = true) : x.canLay0 = true ∧ y.canLay0 = true ∧ min x.depth y.depth ≤ 60 := by
  unfold eqOk at h
  rw [Bool.and_eq_true, Bool.and_eq_true, decide_eq_true_eq] at h
  exact ⟨h.1.1, h.1.2, h.2⟩
theorem op_eqD (hu : X.A.units + 64 < cLine) : OpR X (compareOp .Eq) (rEqD X false) := by
  intro pins s σ H x y v u Q I rx ry h
  obtain ⟨dx, dy, hx, hy, ho, q⟩ := h
  obtain ⟨c1, c2, c3⟩ := eqOk_parts ho
  obtain ⟨as, r1⟩ := reads_ofB I.hok c1 hx rx
  obtain ⟨bs, r2⟩ := reads_ofB I.hok c2 hy ry
  exact PySem.SeqAt.compareEq_reads r1 r2 c1 c2 (by omega) ⟨.bl _, H, I, rfl, q⟩
theorem op_neD (hu : X.A.units + 64 < cLine) : OpR X (compareOp .NotEq) (rEqD X true) := by
  intro pins s σ H x y v u Q I rx ry h
  obtain ⟨dx, dy, hx, hy, ho, q⟩ := h
  obtain ⟨c1, c2, c3⟩ := eqOk_parts ho
  obtain ⟨as, r1⟩ := reads_ofB I.hok c1 hx rx
  obtain ⟨bs, r2⟩ := reads_ofB I.hok c2 hy ry
  exact PySem.SeqAt.compareNe_reads r1 r2 c1 c2 (by omega) ⟨.bl _, H, I, rfl, q⟩
theorem sv_eq : Serves2 X PRp (rEqD X false) dEq := fun H x y dx dy Q hx hy q => by
  unfold dEq at q
  split at q
  · rename_i h; exact ⟨dx, dy, hx, hy, h, q _ H (Same.refl _) rp_bool⟩
  · exact q.elim
theorem sv_ne : Serves2 X PRp (rEqD X true) dNe := fun H x y dx dy Q hx hy q => by
  unfold dNe at q
  split at q
  · rename_i h; exact ⟨dx, dy, hx, hy, h, q _ H (Same.refl _) rp_bool⟩
  · exact q.elim
theorem ev_eq (hu : X.A.units + 64 < cLine) (ha : EvB X a fa) (hb : EvB X b fb) : EvE X (.Compare a [.Eq] [b] pos) (e2 dEq fa fb) := ev_cmp (op_eqD hu) sv_eq ha hb (nomark _)
theorem Z.ev_eq (hu : X.A.units + 64 < cLine) (ha : Z.EvB X a fa) (hb : Z.EvB X b fb) : Z.EvE X (.Compare a [.Eq] [b] pos) (e2 dEq fa fb) :=
  ⟨D2.ev_eq hu ha.un hb.un⟩
theorem ev_ne (hu : X.A.units + 64 < cLine) (ha : EvB X a fa) (hb : EvB X b fb) : EvE X (.Compare a [.NotEq] [b] pos) (e2 dNe fa fb) := ev_cmp (op_neD hu) sv_ne ha hb (nomark _)
theorem Z.ev_ne (hu : X.A.units + 64 < cLine) (ha : Z.EvB X a fa) (hb : Z.EvB X b fb) : Z.EvE X (.Compare a [.NotEq] [b] pos) (e2 dNe fa fb) :=
  ⟨D2.ev_ne hu ha.un hb.un⟩
theorem evt_eq (hu : X.A.units + 64 < cLine) (ha : EvB X a fa) (hb : EvB X b fb) : EvT X (.Compare a [.Eq] [b] pos) (tE (e2 dEq fa fb)) := evt_cmp (op_eqD hu) sv_eq ha hb (nomark _)
theorem Z.evt_eq (hu : X.A.units + 64 < cLine) (ha : Z.EvB X a fa) (hb : Z.EvB X b fb) : Z.EvT X (.Compare a [.Eq] [b] pos) (tE (e2 dEq fa fb)) :=
  ⟨D2.evt_eq hu ha.un hb.un⟩
theorem evt_ne (hu : X.A.units + 64 < cLine) (ha : EvB X a fa) (hb : EvB X b fb) : EvT X (.Compare a [.NotEq] [b] pos) (tE (e2 dNe fa fb)) := evt_cmp (op_neD hu) sv_ne ha hb (nomark _)
theorem Z.evt_ne (hu : X.A.units + 64 < cLine) (ha : Z.EvB X a fa) (hb : Z.EvB X b fb) : Z.EvT X (.Compare a [.NotEq] [b] pos) (tE (e2 dNe fa fb)) :=
  ⟨D2.evt_ne hu ha.un hb.un⟩
/-! ### is None -/
theorem non_iff {H : Hp} {d : PyData} {x : V} (h : BRp H d x) : decide (x = .non) = isNoneD d := by
  cases d with
  | none => rw [brp_none h]; rfl
  | bool b => rw [brp_bool h]; rfl
  | int i => rw [brp_int h]; rfl
  | str y => rw [brp_str h]; rfl
  | tuple ds => obtain ⟨a, vs, rfl, _⟩ := brp_tuple h; rfl
  | list ds => obtain ⟨a, vs, rfl, _⟩ := brp_list (K := default) h; rfl
  | dict kvs => obtain ⟨a, vs, rfl, _⟩ := brp_dict h; rfl
theorem sv_isN : Serves2 X PRp (fun x y H Q => y = .non ∧ Q (.bl (decide (x = .non))) H) dIsN := fun H x y dx dy Q hx hy q => by
  unfold dIsN at q
  split at q
  · rename_i h
    cases dy <;> simp only [isNoneD, Bool.false_eq_true] at h
    exact ⟨brp_none hy, by rw [non_iff hx]; exact q _ H (Same.refl _) rp_bool⟩
  · exact q.elim
theorem sv_notN : Serves2 X PRp (fun x y H Q => y = .non ∧ Q (.bl (!decide (x = .non))) H) dNotN := fun H x y dx dy Q hx hy q => by
  unfold dNotN at q
  split at q
  · rename_i h
    cases dy <;> simp only [isNoneD, Bool.false_eq_true] at h
    exact ⟨brp_none hy, by rw [non_iff hx]; exact q _ H (Same.refl _) rp_bool⟩
  · exact q.elim
theorem ev_isN (ha : EvB X a fa) (hb : EvB X b fb) : EvE X (.Compare a [.Is] [b] pos) (e2 dIsN fa fb) := ev_cmp op_isN sv_isN ha hb (nomark _)
theorem Z.ev_isN (ha : Z.EvB X a fa) (hb : Z.EvB X b fb) : Z.EvE X (.Compare a [.Is] [b] pos) (e2 dIsN fa fb) :=
  ⟨D2.ev_isN ha.un hb.un⟩
theorem ev_notN (ha : EvB X a fa) (hb : EvB X b fb) : EvE X (.Compare a [.IsNot] [b] pos) (e2 dNotN fa fb) := ev_cmp op_notN sv_notN ha hb (nomark _)
theorem Z.ev_notN (ha : Z.EvB X a fa) (hb : Z.EvB X b fb) : Z.EvE X (.Compare a [.IsNot] [b] pos) (e2 dNotN fa fb) :=
  ⟨D2.ev_notN ha.un hb.un⟩
theorem evt_isN (ha : EvB X a fa) (hb : EvB X b fb) : EvT X (.Compare a [.Is] [b] pos) (tE (e2 dIsN fa fb)) := evt_cmp op_isN sv_isN ha hb (nomark _)
theorem Z.evt_isN (ha : Z.EvB X a fa) (hb : Z.EvB X b fb) : Z.EvT X (.Compare a [.Is] [b] pos) (tE (e2 dIsN fa fb)) :=
  ⟨D2.evt_isN ha.un hb.un⟩
theorem evt_notN (ha : EvB X a fa) (hb : EvB X b fb) : EvT X (.Compare a [.IsNot] [b] pos) (tE (e2 dNotN fa fb)) := evt_cmp op_notN sv_notN ha hb (nomark _)
theorem Z.evt_notN (ha : Z.EvB X a fa) (hb : Z.EvB X b fb) : Z.EvT X (.Compare a [.IsNot] [b] pos) (tE (e2 dNotN fa fb)) :=
  ⟨D2.evt_notN ha.un hb.un⟩
/-! ### in -/
def rInD (X : Cx) (neg : Bool) : R2 := fun x y H Q => ∃ d xs, BRp H d x ∧ (BRp H (.list xs) y ∨ BRp H (.tuple xs) y) ∧ inOk xs d = true ∧ Q (.bl (if neg then !(xs.any fun z => PyData.eqv z d) else xs.any fun z => PyData.eqv z d)) H
theorem inOk_parts {xs : List PyData} {d : PyData} (h : inOk xs d = true) : PyData.canLayAll0 xs = true ∧ d.canLay0 = true ∧ min (PyData.depthAll xs) d.depth ≤ 60 := by
  unfold inOk at h
  rw [Bool.and_eq_true, Bool.and_eq_true, decide_eq_true_eq] at h
  exact ⟨h.1.1, h.1.2, h.2⟩
theorem op_inD (hu : X.A.units + 64 < cLine) : OpR X (compareOp .In) (rInD X false) := by
  intro pins s σ H x y v u Q I rx ry h
  obtain ⟨d, xs, hx, hy, ho, q⟩ := h
  obtain ⟨c1, c2, c3⟩ := inOk_parts ho
  obtain ⟨as, r1⟩ := reads_ofB I.hok c2 hx rx
  rcases hy with hy | hy
  · obtain ⟨bs, r2⟩ := reads_ofB I.hok (d := .list xs) (by simpa only [PyData.canLay0] using c1) hy ry
    exact PySem.SeqAt.in_list_reads r2 r1 c1 c2 (by omega) ⟨.bl _, H, I, rfl, q⟩
  · obtain ⟨bs, r2⟩ := reads_ofB I.hok (d := .tuple xs) (by simpa only [PyData.canLay0] using c1) hy ry
    exact PySem.SeqAt.in_tuple_reads r2 r1 c1 c2 (by omega) ⟨.bl _, H, I, rfl, q⟩
theorem op_notInD (hu : X.A.units + 64 < cLine) : OpR X (compareOp .NotIn) (rInD X true) := by
  intro pins s σ H x y v u Q I rx ry h
  obtain ⟨d, xs, hx, hy, ho, q⟩ := h
  obtain ⟨c1, c2, c3⟩ := inOk_parts ho
  obtain ⟨as, r1⟩ := reads_ofB I.hok c2 hx rx
  rcases hy with hy | hy
  · obtain ⟨bs, r2⟩ := reads_ofB I.hok (d := .list xs) (by simpa only [PyData.canLay0] using c1) hy ry
    exact PySem.SeqAt.notIn_list_reads r2 r1 c1 c2 (by omega) ⟨.bl _, H, I, rfl, q⟩
  · obtain ⟨bs, r2⟩ := reads_ofB I.hok (d := .tuple xs) (by simpa only [PyData.canLay0] using c1) hy ry
    exact PySem.SeqAt.notIn_tuple_reads r2 r1 c1 c2 (by omega) ⟨.bl _, H, I, rfl, q⟩
theorem sv_in {neg : Bool} : Serves2 X PRp (rInD X neg) (dIn neg) := fun H x y dx dy Q hx hy q => by
  unfold dIn at q
  split at q
  · split at q
    · rename_i h; exact ⟨dx, _, hx, .inl hy, h, q _ H (Same.refl _) rp_bool⟩
    · exact q.elim
  · split at q
    · rename_i h; exact ⟨dx, _, hx, .inr hy, h, q _ H (Same.refl _) rp_bool⟩
    · exact q.elim
  · exact q.elim
theorem ev_in (hu : X.A.units + 64 < cLine) (ha : EvB X a fa) (hb : EvB X b fb) (hm : behindInMarks .In b = false) : EvE X (.Compare a [.In] [b] pos) (e2 (dIn false) fa fb) := ev_cmp (op_inD hu) sv_in ha hb hm
theorem Z.ev_in (hu : X.A.units + 64 < cLine) (ha : Z.EvB X a fa) (hb : Z.EvB X b fb) (hm : behindInMarks .In b = false) : Z.EvE X (.Compare a [.In] [b] pos) (e2 (dIn false) fa fb) :=
  ⟨D2.ev_in hu ha.un hb.un hm⟩
theorem ev_notIn (hu : X.A.units + 64 < cLine) (ha : EvB X a fa) (hb : EvB X b fb) (hm : behindInMarks .NotIn b = false) : EvE X (.Compare a [.NotIn] [b] pos) (e2 (dIn true) fa fb) := ev_cmp (op_notInD hu) sv_in ha hb hm
theorem Z.ev_notIn (hu : X.A.units + 64 < cLine) (ha : Z.EvB X a fa) (hb : Z.EvB X b fb) (hm : behindInMarks .NotIn b = false) : Z.EvE X (.Compare a [.NotIn] [b] pos) (e2 (dIn true) fa fb) :=
  ⟨D2.ev_notIn hu ha.un hb.un hm⟩
theorem evt_in (hu : X.A.units + 64 < cLine) (ha : EvB X a fa) (hb : EvB X b fb) (hm : behindInMarks .In b = false) : EvT X (.Compare a [.In] [b] pos) (tE (e2 (dIn false) fa fb)) := evt_cmp (op_inD hu) sv_in ha hb hm
theorem Z.evt_in (hu : X.A.units + 64 < cLine) (ha : Z.EvB X a fa) (hb : Z.EvB X b fb) (hm : behindInMarks .In b = false) : Z.EvT X (.Compare a [.In] [b] pos) (tE (e2 (dIn false) fa fb)) :=
  ⟨D2.evt_in hu ha.un hb.un hm⟩
theorem evt_notIn (hu : X.A.units + 64 < cLine) (ha : EvB X a fa) (hb : EvB X b fb) (hm : behindInMarks .NotIn b = false) : EvT X (.Compare a [.NotIn] [b] pos) (tE (e2 (dIn true) fa fb)) := evt_cmp (op_notInD hu) sv_in ha hb hm
theorem Z.evt_notIn (hu : X.A.units + 64 < cLine) (ha : Z.EvB X a fa) (hb : Z.EvB X b fb) (hm : behindInMarks .NotIn b = false) : Z.EvT X (.Compare a [.NotIn] [b] pos) (tE (e2 (dIn true) fa fb)) :=
  ⟨D2.evt_notIn hu ha.un hb.un hm⟩
end
end D2
set_option Elab.async false
set_option linter.all false
set_option maxRecDepth 100000
set_option maxHeartbeats 4000000
namespace D2
open PySem PySem.Spec PyProof.Rows L2

/-! ### statements -/
inductive Out where
  | nx (ρ : Rho)
  | rt (d : PyData)
  | bk (ρ : Rho)
  | ct (ρ : Rho)
abbrev Fs := Rho → R Out
/-- Fm is as it was; what may be changed is not of Fm and stands apart -/
structure SlS (Fm H : Hp) (σ : St) (ρ : Rho) : Prop where
  fm : Same Fm H
  sl : Sl H σ ρ
  own : ∀ (i : Nat) (d : PyData) (a : Addr), ρ[i]? = some (.own d) → σ[i]? = some (some (.ref a)) → Fm a = none
  apart : ∀ (i j : Nat) (d e : PyData) (a : Addr), ρ[i]? = some (.own d) → ρ[j]? = some (.own e) → σ[i]? = some (some (.ref a)) → σ[j]? = some (some (.ref a)) → i = j
theorem SlS.mono {Fm H H' : Hp} {σ : St} {ρ : Rho} (h : SlS Fm H σ ρ) (s : Same H H') : SlS Fm H' σ ρ := ⟨h.fm.trans s, h.sl.mono s, h.own, h.apart⟩
def rdO (X : Cx) (Fm : Hp) (r : R Out) (D : Ends) : Prop :=
  match r with
  | .ok (.nx ρ) => ∀ σ H, SlS Fm H σ ρ → D.nx σ H
  | .ok (.rt d) => ∀ v H, Same Fm H → Rp H d v → D.rt v H
  | .ok (.bk ρ) => ∀ σ H, SlS Fm H σ ρ → D.bk σ H
  | .ok (.ct ρ) => ∀ σ H, SlS Fm H σ ρ → D.ct σ H
  | .ex c => Xw X c
  | .no => False
def rdS (X : Cx) (Fm : Hp) (g : Fs) : TS := fun D σ H => ∃ ρ, SlS Fm H σ ρ ∧ rdO X Fm (g ρ) D
def EvS (X : Cx) (st : Stmt) (g : Fs) : Prop := ∀ Fm, PS X st (rdS X Fm g)
structure Z.EvS (X : Cx) (st : Stmt) (g : Fs) : Prop where
  un : D2.EvS X st g
def EvSs (X : Cx) (st : List Stmt) (g : Fs) : Prop := ∀ Fm, PSs X st (rdS X Fm g)
structure Z.EvSs (X : Cx) (st : List Stmt) (g : Fs) : Prop where
  un : D2.EvSs X st g
theorem PS.imp {X : Cx} {e : Stmt} {t t' : TS} (h : PS X e t) (i : ∀ D σ H, t' D σ H → t D σ H) : PS X e t' := fun pins s σ H D I q => h pins s σ H D I (i D σ H q)
theorem PSs.imp {X : Cx} {e : List Stmt} {t t' : TS} (h : PSs X e t) (i : ∀ D σ H, t' D σ H → t D σ H) : PSs X e t' := fun pins s σ H D I q => h pins s σ H D I (i D σ H q)
section
variable {X : Cx} {Fm : Hp} {σ : St} {H : Hp} {D : Ends}
theorem bind_s {P : Hp → Hp → PyData → V → Prop} {f : Fe} {k : Rho → PyData → R Out} (h : rdS X Fm (fun ρ => f ρ >>= k ρ) D σ H) :
    rdE X P f σ H (fun v H1 => ∃ ρ d, SlS Fm H1 σ ρ ∧ Same H H1 ∧ P H H1 d v ∧ rdO X Fm (k ρ d) D) := by
  obtain ⟨ρ, sl, q⟩ := h
  refine ⟨ρ, sl.sl, ?_⟩
  dsimp only at q
  cases e : f ρ with
  | ok d => rw [e] at q; exact fun v H1 s p => ⟨ρ, d, sl.mono s, s, p, q⟩
  | ex c => rw [e] at q; exact q
  | no => rw [e] at q; exact q
theorem bind_st {f : Rho → R Bool} {k : Rho → Bool → R Out} (h : rdS X Fm (fun ρ => f ρ >>= k ρ) D σ H) : rdT X f σ H (fun b H1 => ∃ ρ, SlS Fm H1 σ ρ ∧ Same H H1 ∧ rdO X Fm (k ρ b) D) := by
  obtain ⟨ρ, sl, q⟩ := h
  refine ⟨ρ, sl.sl, ?_⟩
  dsimp only at q
  cases e : f ρ with
  | ok d => rw [e] at q; exact fun H1 s => ⟨ρ, sl.mono s, s, q⟩
  | ex c => rw [e] at q; exact q
  | no => rw [e] at q; exact q
end
def sSkip : Fs := fun ρ => .ok (.nx ρ)
/-- g, then h -/
def thenO (h : Fs) : Out → R Out
  | .nx ρ => h ρ
  | o => .ok o
def sSeq (g h : Fs) : Fs := fun ρ => g ρ >>= thenO h
def sIf (t : Rho → R Bool) (g h : Fs) : Fs := fun ρ => t ρ >>= fun b => if b = true then g ρ else h ρ
def sRet (f : Fe) : Fs := fun ρ => f ρ >>= fun d => .ok (.rt d)
def sRetN : Fs := fun _ => .ok (.rt .none)
def sDrop (f : Fe) : Fs := fun ρ => f ρ >>= fun _ => .ok (.nx ρ)
def sBreak : Fs := fun ρ => .ok (.bk ρ)
def sCont : Fs := fun ρ => .ok (.ct ρ)
def sSet (i : Nat) (f : Fe) : Fs := fun ρ => f ρ >>= fun d => .ok (.nx (ρ.set i (.val d)))
def sOwn (i : Nat) (f : Fe) : Fs := fun ρ => f ρ >>= fun d => .ok (.nx (ρ.set i (.own d)))
section
variable {X : Cx} {nl : Nat} {G : List Str} {st : Stmt} {sts : List Stmt} {g h : Fs} {f : Fe} {e : Expr} {pos pos' : Pos} {x : Str}
theorem es_nil : EvSs X [] sSkip := fun Fm => PSs.imp pss_nil fun D σ H ⟨ρ, sl, q⟩ => q σ H sl
theorem Z.es_nil  : Z.EvSs X [] sSkip :=
  ⟨D2.es_nil⟩
theorem es_cons (h1 : EvS X st g) (h2 : EvSs X sts h) : EvSs X (st :: sts) (sSeq g h) := fun Fm => by
  refine PSs.imp (pss_cons (h1 Fm) (h2 Fm)) fun D σ H ⟨ρ, sl, q⟩ => ⟨ρ, sl, ?_⟩
  unfold sSeq at q
  cases e : g ρ with
  | ex c => rw [e] at q; exact q
  | no => rw [e] at q; exact q
  | ok o =>
    rw [e] at q
    cases o with
    | nx ρ' => exact fun σ' H' s' => ⟨ρ', s', q⟩
    | rt d => exact q
    | bk ρ' => exact q
    | ct ρ' => exact q
theorem Z.es_cons (h1 : Z.EvS X st g) (h2 : Z.EvSs X sts h) : Z.EvSs X (st :: sts) (sSeq g h) :=
  ⟨D2.es_cons h1.un h2.un⟩
theorem es_one (h1 : EvS X st g) : EvSs X [st] g := fun Fm => pss_one (h1 Fm)
theorem Z.es_one (h1 : Z.EvS X st g) : Z.EvSs X [st] g :=
  ⟨D2.es_one h1.un⟩
theorem es_pass : EvS X (.Pass pos) sSkip := fun Fm => PS.imp ps_pass fun D σ H ⟨ρ, sl, q⟩ => q σ H sl
theorem Z.es_pass  : Z.EvS X (.Pass pos) sSkip :=
  ⟨D2.es_pass⟩
theorem es_break : EvS X (.Break pos) sBreak := fun Fm => PS.imp ps_break fun D σ H ⟨ρ, sl, q⟩ => q σ H sl
theorem Z.es_break  : Z.EvS X (.Break pos) sBreak :=
  ⟨D2.es_break⟩
theorem es_cont : EvS X (.Continue pos) sCont := fun Fm => PS.imp ps_continue fun D σ H ⟨ρ, sl, q⟩ => q σ H sl
theorem Z.es_cont  : Z.EvS X (.Continue pos) sCont :=
  ⟨D2.es_cont⟩
theorem es_drop (he : EvB X e f) (hs : swapsWith e none pos.line X.env = pure false := by rfl) : EvS X (.Expr e pos) (sDrop f) := fun Fm =>
  PS.imp (ps_expr he hs) fun D σ H h => (bind_s (P := PBp) (f := f) (k := fun ρ _ => .ok (.nx ρ)) h).post fun v H1 ⟨ρ, d, sl, _, _, q⟩ => q σ H1 sl
theorem Z.es_drop (he : Z.EvB X e f) (hs : swapsWith e none pos.line X.env = pure false := by rfl) : Z.EvS X (.Expr e pos) (sDrop f) :=
  ⟨D2.es_drop he.un hs⟩
theorem es_ret (he : EvE X e f) : EvS X (.Return (some e) pos) (sRet f) := fun Fm =>
  PS.imp (ps_ret he) fun D σ H h => (bind_s (P := PRp) (f := f) (k := fun _ d => .ok (.rt d)) h).post fun v H1 ⟨ρ, d, sl, _, p, q⟩ => q v H1 sl.fm p
theorem Z.es_ret (he : Z.EvE X e f) : Z.EvS X (.Return (some e) pos) (sRet f) :=
  ⟨D2.es_ret he.un⟩
theorem es_retN : EvS X (.Return none pos) sRetN := fun Fm => PS.imp ps_retN fun D σ H ⟨ρ, sl, q⟩ => q .non H sl.fm (by simp only [Rp])
theorem Z.es_retN  : Z.EvS X (.Return none pos) sRetN :=
  ⟨D2.es_retN⟩
theorem es_if {c : Expr} {a b : List Stmt} {t : Rho → R Bool} (hc : EvT X c t) (ha : EvSs X a g) (hb : EvSs X b h) : EvS X (.If c a b pos) (sIf t g h) := fun Fm =>
  PS.imp (ps_if hc (ha Fm) (hb Fm)) fun D σ H q => (bind_st (f := t) (k := fun ρ b => if b = true then g ρ else h ρ) q).post fun b H1 ⟨ρ, sl, _, q⟩ => by
    cases b with
    | true => exact ⟨ρ, sl, q⟩
    | false => exact ⟨ρ, sl, q⟩
theorem Z.es_if {c : Expr} {a b : List Stmt} {t : Rho → R Bool} (hc : Z.EvT X c t) (ha : Z.EvSs X a g) (hb : Z.EvSs X b h) : Z.EvS X (.If c a b pos) (sIf t g h) :=
  ⟨D2.es_if hc.un ha.un hb.un⟩
theorem Sl.set {H : Hp} {σ : St} {ρ : Rho} {c : Cell} {o : Option V} (h : Sl H σ ρ) (i : Nat) (hc : CellOk H c o) : Sl H (σ.set i o) (ρ.set i c) := by
  refine ⟨by rw [List.length_set, List.length_set]; exact h.1, fun j c' o' h1 h2 => ?_⟩
  rw [List.getElem?_set] at h1 h2
  by_cases hij : i = j
  · rw [if_pos hij] at h1 h2
    by_cases hi : i < ρ.length
    · rw [if_pos hi] at h1
      rw [if_pos (by rw [h.1]; exact hi)] at h2
      cases h1; cases h2; exact hc
    · rw [if_neg hi] at h1; cases h1
  · rw [if_neg hij] at h1 h2
    exact h.2 j c' o' h1 h2
theorem get_set_own {ρ : Rho} {i j : Nat} {c : Cell} {d : PyData} (hc : ∀ e, c ≠ .own e) (h : (ρ.set i c)[j]? = some (.own d)) : i ≠ j ∧ ρ[j]? = some (.own d) := by
  rw [List.getElem?_set] at h
  by_cases hij : i = j
  · rw [if_pos hij] at h
    split at h
    · exact absurd (Option.some.inj h) (hc d)
    · cases h
  · rw [if_neg hij] at h; exact ⟨hij, h⟩
theorem SlS.set {Fm H : Hp} {σ : St} {ρ : Rho} {c : Cell} {o : Option V} (h : SlS Fm H σ ρ) (i : Nat) (hn : ∀ e, c ≠ .own e) (hc : CellOk H c o) : SlS Fm H (σ.set i o) (ρ.set i c) := by
  refine ⟨h.fm, h.sl.set i hc, fun j d a h1 h2 => ?_, fun j k d e a h1 h2 h3 h4 => ?_⟩
  · obtain ⟨ne, h1⟩ := get_set_own hn h1
    rw [List.getElem?_set, if_neg ne] at h2
    exact h.own j d a h1 h2
  · obtain ⟨ne, h1⟩ := get_set_own hn h1
    obtain ⟨ne', h2⟩ := get_set_own hn h2
    rw [List.getElem?_set, if_neg ne] at h3
    rw [List.getElem?_set, if_neg ne'] at h4
    exact h.apart j k d e a h1 h2 h3 h4
theorem orp_ref {H : Hp} {d : PyData} {v : V} (h : ORp H d v) : ∃ a o, v = .ref a ∧ H a = some o := by
  cases d <;> simp only [ORp] at h
  · obtain ⟨a, vs, e, ha, _⟩ := h; exact ⟨a, _, e, ha⟩
  · obtain ⟨a, vs, e, ha, _⟩ := h; exact ⟨a, _, e, ha⟩
theorem SlS.setOwn {Fm H0 H : Hp} {σ : St} {ρ : Rho} {d : PyData} {v : V} (h0 : SlS Fm H0 σ ρ) (h : SlS Fm H σ ρ) (hs : Same H0 H) (i : Nat) (hn : NRp H0 H d v) : SlS Fm H (σ.set i (some v)) (ρ.set i (.own d)) := by
  obtain ⟨p, a, rfl, ha⟩ := hn
  have old : ∀ (j : Nat) (e : PyData) (b : Addr), i ≠ j → (ρ.set i (.own d))[j]? = some (.own e) → (σ.set i (some (.ref a)))[j]? = some (some (.ref b)) → ρ[j]? = some (.own e) ∧ σ[j]? = some (some (.ref b)) := fun j e b ne h1 h2 => by
    rw [List.getElem?_set, if_neg ne] at h1 h2
    exact ⟨h1, h2⟩
  have notA : ∀ (j : Nat) (e : PyData), ρ[j]? = some (.own e) → σ[j]? = some (some (.ref a)) → False := fun j e h1 h2 => by
    obtain ⟨u, e1, q⟩ := h0.sl.2 j _ _ h1 h2
    cases e1
    obtain ⟨b, o, e2, hb⟩ := orp_ref q
    cases e2
    rw [ha] at hb; cases hb
  have here : ∀ (b : Addr), (σ.set i (some (.ref a)))[i]? = some (some (.ref b)) → b = a := fun b h2 => by
    rw [List.getElem?_set, if_pos rfl] at h2
    split at h2
    · cases h2; rfl
    · cases h2
  refine ⟨h.fm, h.sl.set i ⟨_, rfl, p⟩, fun j e b h1 h2 => ?_, fun j k e f b h1 h2 h3 h4 => ?_⟩
  · by_cases hij : i = j
    · subst hij
      rw [here b h2]
      exact (h0.fm).free ha
    · obtain ⟨h1, h2⟩ := old j e b hij h1 h2
      exact h.own j e b h1 h2
  · by_cases hij : i = j
    · subst hij
      have eb := here b h3
      by_cases hik : i = k
      · exact hik
      · obtain ⟨h2, h4⟩ := old k f b hik h2 h4
        rw [eb] at h4
        exact (notA k f h2 h4).elim
    · obtain ⟨h1, h3⟩ := old j e b hij h1 h3
      by_cases hik : i = k
      · subst hik
        have eb := here b h4
        rw [eb] at h3
        exact (notA j e h1 h3).elim
      · obtain ⟨h2, h4⟩ := old k f b hik h2 h4
        exact h.apart j k e f b h1 h2 h3 h4
theorem es_set (T : Tb X nl G) (i : Nat) (hN : (X.N.take nl)[i]? = some x) (he : EvE X e f) (hs : swapsWith e (some (.Name x pos')) pos.line X.env = pure false := by rfl) : EvS X (.Assign [.Name x pos'] e pos) (sSet i f) := fun Fm => by
  have hm := T.loc x (List.mem_of_getElem? hN)
  have hi : X.N[i]? = some x := by
    rw [List.getElem?_take] at hN
    split at hN
    · exact hN
    · cases hN
  exact PS.imp (ps_set T.nd hi hm.1 he hs hm.2) fun D σ H h => (bind_s (P := PRp) (f := f) (k := fun ρ d => .ok (.nx (ρ.set i (.val d)))) h).post fun v H1 ⟨ρ, d, sl, _, p, q⟩ =>
    q _ H1 (sl.set i (fun e z => by cases z) ⟨v, rfl, p⟩)
theorem Z.es_set (T : Tb X nl G) (i : Nat) (hN : (X.N.take nl)[i]? = some x) (he : Z.EvE X e f) (hs : swapsWith e (some (.Name x pos')) pos.line X.env = pure false := by rfl) : Z.EvS X (.Assign [.Name x pos'] e pos) (sSet i f) :=
  ⟨D2.es_set T i hN he.un hs⟩
theorem es_own (T : Tb X nl G) (i : Nat) (hN : (X.N.take nl)[i]? = some x) (he : EvN X e f) (hs : swapsWith e (some (.Name x pos')) pos.line X.env = pure false := by rfl) : EvS X (.Assign [.Name x pos'] e pos) (sOwn i f) := fun Fm => by
  have hm := T.loc x (List.mem_of_getElem? hN)
  have hi : X.N[i]? = some x := by
    rw [List.getElem?_take] at hN
    split at hN
    · exact hN
    · cases hN
  refine PS.imp (ps_set T.nd hi hm.1 he hs hm.2) fun D σ H h => ?_
  obtain ⟨ρ0, sl0, q0⟩ := h
  refine ⟨ρ0, sl0.sl, ?_⟩
  unfold sOwn at q0
  cases ef : f ρ0 with
  | ex c => rw [ef] at q0; exact q0
  | no => rw [ef] at q0; exact q0
  | ok d =>
    rw [ef] at q0
    exact fun v H1 s p => q0 _ H1 (SlS.setOwn sl0 (sl0.mono s) s i p)
theorem Z.es_own (T : Tb X nl G) (i : Nat) (hN : (X.N.take nl)[i]? = some x) (he : Z.EvN X e f) (hs : swapsWith e (some (.Name x pos')) pos.line X.env = pure false := by rfl) : Z.EvS X (.Assign [.Name x pos'] e pos) (sOwn i f) :=
  ⟨D2.es_own T i hN he.un hs⟩
end

/-! ### what a loop walks, as data -/
/-- J yields what stands for ds while G holds -/
structure ItD (J : It) (Gd : Hp → Prop) (ds : List PyData) : Prop where
  go : ∀ i H, Gd H → i < ds.length → J.go i H
  yld : ∀ i H x H' d, Gd H → ds[i]? = some d → J.yld i H x H' → Same H H' ∧ Rp H' d x
  stop : ∀ i H, Gd H → ds.length ≤ i → J.stop i H
/-- Gd holds while tuples, frozen things and the things of B stay -/
def Sta (H0 : Hp) (B : Addr → Prop) (Gd : Hp → Prop) : Prop := ∀ H, Kp H0 H → (∀ b o, B b → H0 b = some o → H b = some o) → Gd H
def rdI (X : Cx) (f : Rho → R (List PyData)) : TI := fun σ H Rk => ∃ ρ, Sl H σ ρ ∧ match f ρ with
  | .ok ds => ∀ J H', Same H H' → (∃ Gd, ItD J Gd ds ∧ Sta H' (fun _ => False) Gd) → Rk J H'
  | .ex c => Xw X c
  | .no => False
/-- iter yields f, for the target tg -/
def EvI (X : Cx) (tg iter : Expr) (f : Rho → R (List PyData)) : Prop := PI X tg iter (rdI X f)
structure Z.EvI (X : Cx) (tg iter : Expr) (f : Rho → R (List PyData)) : Prop where
  un : D2.EvI X tg iter f
/-- a target takes a datum -/
def rdG (X : Cx) (b : PyData → Rho → Option Rho) : TG := fun v σ H Q => ∃ ρ d, Sl H σ ρ ∧ Rp H d v ∧ match b d ρ with
  | some ρ' => ∀ σ', Sl H σ' ρ' → (∀ (i : Nat) (e : PyData), ρ'[i]? = some (.own e) → ρ[i]? = some (.own e) ∧ σ'[i]? = σ[i]?) → Q σ' H
  | none => False
def EvG (X : Cx) (tg : Expr) (b : PyData → Rho → Option Rho) : Prop := PG X tg (rdG X b)
structure Z.EvG (X : Cx) (tg : Expr) (b : PyData → Rho → Option Rho) : Prop where
  un : D2.EvG X tg b
def bName (i : Nat) : PyData → Rho → Option Rho := fun d ρ => some (ρ.set i (.val d))
theorem PG.imp {X : Cx} {e : Expr} {t t' : TG} (h : PG X e t) (i : ∀ v σ H Q, t' v σ H Q → t v σ H Q) : PG X e t' := fun pins s σ H v u Q I r q => h pins s σ H v u Q I r (i v σ H Q q)
theorem PI.imp {X : Cx} {tg e : Expr} {t t' : TI} (h : PI X tg e t) (i : ∀ σ H Q, t' σ H Q → t σ H Q) : PI X tg e t' := fun pins s σ H Q I q => h pins s σ H Q I (i σ H Q q)
section
variable {X : Cx} {nl : Nat} {G : List Str} {x : Str} {pos : Pos}
theorem Tb.nm (T : Tb X nl G) {i : Nat} (hN : (X.N.take nl)[i]? = some x) : X.N[i]? = some x ∧ Loc X.env.scope x ∧ (X.fn x = true ∨ X.env.scope.names.lookup x = some .local) := by
  have hm := T.loc x (List.mem_of_getElem? hN)
  have hi : X.N[i]? = some x := by
    rw [List.getElem?_take] at hN
    split at hN
    · exact hN
    · cases hN
  exact ⟨hi, hm⟩
theorem eg_name (T : Tb X nl G) (i : Nat) (hN : (X.N.take nl)[i]? = some x) : EvG X (.Name x pos) (bName i) := by
  obtain ⟨hi, h1, h2⟩ := T.nm hN
  refine PG.imp (pg_name T.nd hi h1 h2) fun v σ H Q ⟨ρ, d, sl, p, q⟩ => ?_
  refine q _ (sl.set i ⟨v, rfl, p⟩) fun j e h => ?_
  obtain ⟨ne, h⟩ := get_set_own (fun e z => by cases z) h
  exact ⟨h, by rw [List.getElem?_set, if_neg ne]⟩
theorem Z.eg_name (T : Tb X nl G) (i : Nat) (hN : (X.N.take nl)[i]? = some x) : Z.EvG X (.Name x pos) (bName i) :=
  ⟨D2.eg_name T i hN⟩
end
/-- the turns -/
def forR (b : PyData → Rho → Option Rho) (g : Fs) : List PyData → Fs
  | [], ρ => .ok (.nx ρ)
  | d :: ds, ρ => match b d ρ with
    | none => .no
    | some ρ1 => g ρ1 >>= fun o => match o with
      | .nx ρ2 => forR b g ds ρ2
      | .ct ρ2 => forR b g ds ρ2
      | .bk ρ2 => .ok (.nx ρ2)
      | .rt r => .ok (.rt r)
def sFor (it : Rho → R (List PyData)) (b : PyData → Rho → Option Rho) (g : Fs) : Fs := fun ρ => it ρ >>= fun ds => forR b g ds ρ
/-- what is stable of H, and Fm -/
def stab (Fm H : Hp) : Hp := fun b => match H b with
  | some (.tup xs) => some (.tup xs)
  | some (.frz o u) => some (.frz o u)
  | _ => Fm b
theorem stab_same {Fm H : Hp} (h : Same Fm H) : Same (stab Fm H) H := fun b o e => by
  unfold stab at e
  split at e
  · rename_i q; rw [q]; exact e
  · rename_i q; rw [q]; exact e
  · exact h b o e
theorem stab_kp {Fm H : Hp} : Kp H (stab Fm H) := ⟨fun b xs e => by unfold stab; rw [e], fun b o u e => by unfold stab; rw [e]⟩
theorem stab_fm {Fm H : Hp} (h : Same Fm H) : Same Fm (stab Fm H) := fun b o e => by
  have := h b o e
  unfold stab
  split
  · rename_i q; rw [this] at q; exact q.symm
  · rename_i q; rw [this] at q; exact q.symm
  · exact e
theorem SlS.stab {Fm H : Hp} {σ : St} {ρ : Rho} (h : SlS Fm H σ ρ) : SlS (stab Fm H) H σ ρ := by
  refine ⟨stab_same h.fm, h.sl, fun i d a h1 h2 => ?_, h.apart⟩
  have f := h.own i d a h1 h2
  obtain ⟨u, e1, q⟩ := h.sl.2 i _ _ h1 h2
  cases e1
  unfold D2.stab
  cases d <;> simp only [ORp] at q
  · obtain ⟨b, vs, e, hb, _⟩ := q; cases e; rw [hb]; exact f
  · obtain ⟨b, vs, e, hb, _⟩ := q; cases e; rw [hb]; exact f
theorem SlS.unstab {Fm F H : Hp} {σ : St} {ρ : Rho} (hF : Same Fm F) (h : SlS F H σ ρ) : SlS Fm H σ ρ := ⟨hF.trans h.fm, h.sl, fun i d a h1 h2 => hF.free (h.own i d a h1 h2), h.apart⟩
theorem es_for {X : Cx} {tg iter : Expr} {body : List Stmt} {it : Rho → R (List PyData)} {b : PyData → Rho → Option Rho} {g : Fs} {pos : Pos} (hp : PassesOwn (model X.prog X.w) X.A X.env X.xe) (hc : X.calm = true) (hi : EvI X tg iter it) (hg : EvG X tg b)
    (hb : EvSs X body g) (hs : ∀ x, foldedSetIterable iter X.env x = pure x := by intro _; rfl) : EvS X (.For tg iter body [] pos) (sFor it b g) := fun Fm => by
  intro pins s σ H D I h
  obtain ⟨ρ, sl, q⟩ := h
  unfold sFor at q
  -- the frame: what is stable at the loop's start is only known behind the iterator's making: the body is taken at every frame
  refine ps_for (wi := rdI X it) (g := rdG X b) (tb := fun D' σ' H' => ∃ F, rdS X F g D' σ' H') hp hc hi hg (fun pins' s' σ' H' D' I' ⟨F, q'⟩ => hb F pins' s' σ' H' D' I' q') hs pins s σ H D I ?_
  refine ⟨ρ, sl.sl, ?_⟩
  cases ei : it ρ with
  | ex c => rw [ei] at q; exact q
  | no => rw [ei] at q; exact q
  | ok ds =>
    rw [ei] at q
    intro J H1 s1 ⟨Gd, idt, sta⟩
    have sl1 := sl.mono s1
    let F := stab Fm H1
    have hF : Same Fm F := stab_fm sl1.fm
    -- the word: so many items are taken, and the rest gives what the whole gives
    refine ⟨fun i m σ' H' => m = ds.length - i ∧ i ≤ ds.length ∧ ∃ ρ', SlS F H' σ' ρ' ∧ rdO X Fm (forR b g (ds.drop i) ρ') D, ⟨ds.length, by simp, Nat.zero_le _, ρ, sl1.stab, by simpa using q⟩, ?_⟩
    rintro i m σ2 H2 ⟨rfl, hi', ρ2, sl2, q2⟩
    have gd : Gd H2 := sta H2 (Kp.trans stab_kp (Kp.of sl2.fm)) fun _ _ z => z.elim
    by_cases hlt : i < ds.length
    · refine .inr ⟨idt.go i H2 gd hlt, fun σ' H' => i + 1 ≤ ds.length ∧ ∃ ρ', SlS F H' σ' ρ' ∧ rdO X Fm (forR b g (ds.drop (i + 1)) ρ') D, fun σ' H' ⟨z, p⟩ => ⟨ds.length - (i + 1), by omega, rfl, z, p⟩, fun x H3 y => ?_⟩
      obtain ⟨d, hd⟩ : ∃ d, ds[i]? = some d := ⟨ds[i], List.getElem?_eq_getElem hlt⟩
      obtain ⟨s3, p3⟩ := idt.yld i H2 x H3 d gd hd y
      have hdrop : ds.drop i = d :: ds.drop (i + 1) := by
        rw [List.drop_eq_getElem_cons hlt]
        congr 1
        exact Option.some.inj ((List.getElem?_eq_getElem hlt).symm.trans hd)
      rw [hdrop] at q2
      unfold forR at q2
      have sl3 := sl2.mono s3
      refine ⟨ρ2, d, sl3.sl, p3, ?_⟩
      cases eb : b d ρ2 with
      | none => rw [eb] at q2; exact q2
      | some ρ3 =>
        rw [eb] at q2
        intro σ4 sl4 hown
        refine ⟨F, ρ3, ⟨sl3.fm, sl4, fun j e a h1 h2 => ?_, fun j k e f a h1 h2 h3 h4 => ?_⟩, ?_⟩
        · obtain ⟨z1, z2⟩ := hown j e h1
          exact sl3.own j e a z1 (by rw [← z2]; exact h2)
        · obtain ⟨z1, z2⟩ := hown j e h1
          obtain ⟨z3, z4⟩ := hown k f h2
          exact sl3.apart j k e f a z1 z3 (by rw [← z2]; exact h3) (by rw [← z4]; exact h4)
        · have q3 : rdO X Fm (g ρ3 >>= fun o => match o with
            | .nx ρ2 => forR b g (ds.drop (i + 1)) ρ2
            | .ct ρ2 => forR b g (ds.drop (i + 1)) ρ2
            | .bk ρ2 => .ok (.nx ρ2)
            | .rt r => .ok (.rt r)) D := q2
          cases eg : g ρ3 with
          | ex c => rw [eg] at q3; exact q3
          | no => rw [eg] at q3; exact q3
          | ok o =>
            rw [eg] at q3
            cases o with
            | nx ρ4 => exact fun σ' H' s' => ⟨hlt, ρ4, s', q3⟩
            | ct ρ4 => exact fun σ' H' s' => ⟨hlt, ρ4, s', q3⟩
            | bk ρ4 => exact fun σ' H' s' => q3 σ' H' (s'.unstab hF)
            | rt r => exact fun v H' s' p' => q3 v H' (hF.trans s') p'
    · have e : i = ds.length := by omega
      subst e
      refine .inl ⟨idt.stop _ H2 gd (Nat.le_refl _), ?_⟩
      rw [List.drop_length] at q2
      exact q2 σ2 H2 (sl2.unstab hF)

theorem Z.es_for {X : Cx} {tg iter : Expr} {body : List Stmt} {it : Rho → R (List PyData)} {b : PyData → Rho → Option Rho} {g : Fs} {pos : Pos} (hp : PassesOwn (model X.prog X.w) X.A X.env X.xe) (hc : X.calm = true) (hi : Z.EvI X tg iter it) (hg : Z.EvG X tg b) (hb : Z.EvSs X body g) (hs : ∀ x, foldedSetIterable iter X.env x = pure x := by intro _; rfl) : Z.EvS X (.For tg iter body [] pos) (sFor it b g) :=
  ⟨D2.es_for hp hc hi.un hg.un hb.un hs⟩
/-! ### defs -/
def fnR (n : Nat) (g : Fs) : List PyData → R PyData := fun ds => g (ds.map Cell.val ++ List.replicate (n - ds.length) .non) >>= fun o => match o with
  | .rt d => .ok d
  | .nx _ => .ok .none
  | _ => .no
def spD (F : List PyData → R PyData) (n : Nat) : Sp := fun vs H Q E => ∃ ds, RpA H ds vs ∧ ds.length = n ∧ match F ds with
  | .ok d => ∀ v H', Same H H' → Rp H' d v → Q v H'
  | _ => False
theorem start_sl {H : Hp} {N : List Str} : ∀ {ds : List PyData} {vs : List V}, RpA H ds vs → Sl H (L2.start N vs) (ds.map Cell.val ++ List.replicate (N.length - ds.length) .non) := fun {ds vs} r => by
  have hl := r.length
  refine ⟨by unfold L2.start; rw [List.length_append, List.length_append, List.length_map, List.length_map, List.length_replicate, List.length_replicate, hl], fun i c o h1 h2 => ?_⟩
  by_cases hi : i < ds.length
  · rw [List.getElem?_append_left (by simpa using hi), List.getElem?_map] at h1
    cases e : ds[i]? with
    | none => rw [e] at h1; cases h1
    | some d =>
      rw [e] at h1
      cases h1
      obtain ⟨v, e1, p⟩ := r.get e
      unfold L2.start at h2
      rw [List.getElem?_append_left (by rw [List.length_map, hl]; exact hi), List.getElem?_map, e1] at h2
      cases h2
      exact ⟨v, rfl, p⟩
  · rw [List.getElem?_append_right (by simpa using hi), List.getElem?_replicate] at h1
    split at h1
    · cases h1; exact True.intro
    · cases h1
theorem fn_data {P : Program} {w : World} {K : PySem.W.Frag} {mg : Str → Option Value} {base : Heap} {x qual : Str} {st : Stmt} {f : Addr} {fd : FuncData} {N ps : List Str} {k : Nat} {g : Fs} (F : Fun K x qual st f fd) (S : FnScope N ps (defScope st))
    (body : ∀ (cdv : Value) (A : Around) (outer : List Env) (s : Shared) (H : Hp) (E : XK), Room k (A.deeper (envOfC qual (defScope st) s.heap.objs.size f cdv)) →
      EvSs (cxOf CX0 P w K mg base N qual (defScope st) f cdv A outer s H E).nox (defBody st) g) : FnOk P w K mg base CX0 (k + 1) f fd ps (spD (fnR N.length g) ps.length) := by
  refine F.ok S (fun vs H Q E ⟨ds, r, hl, _⟩ => by rw [r.length]; exact hl) fun cdv A outer s H vs Q E hr h => ?_
  obtain ⟨ds, r, hl, q⟩ := h
  refine ⟨_, body cdv A outer s H E hr H, _, ⟨Same.refl _, start_sl r, fun i d a h1 h2 => ?_, fun i j d e a h1 h2 h3 h4 => ?_⟩, ?_⟩
  · exfalso
    by_cases hi : i < ds.length
    · rw [List.getElem?_append_left (by simpa using hi), List.getElem?_map] at h1
      cases e : ds[i]? with
      | none => rw [e] at h1; cases h1
      | some d => rw [e] at h1; cases h1
    · rw [List.getElem?_append_right (by simpa using hi), List.getElem?_replicate] at h1
      split at h1
      · cases h1
      · cases h1
  · exfalso
    by_cases hi : i < ds.length
    · rw [List.getElem?_append_left (by simpa using hi), List.getElem?_map] at h1
      cases e : ds[i]? with
      | none => rw [e] at h1; cases h1
      | some d => rw [e] at h1; cases h1
    · rw [List.getElem?_append_right (by simpa using hi), List.getElem?_replicate] at h1
      split at h1
      · cases h1
      · cases h1
  · unfold fnR at q
    cases eg : g (ds.map Cell.val ++ List.replicate (N.length - ds.length) .non) with
    | ex c => rw [eg] at q; exact q.elim
    | no => rw [eg] at q; exact q.elim
    | ok o =>
      rw [eg] at q
      cases o with
      | rt d => exact fun v H' s' p => q v H' s' p
      | nx ρ => exact fun σ' H' s' => q .non H' s'.fm (by simp only [Rp])
      | bk ρ => exact q.elim
      | ct ρ => exact q.elim
/-! ### a call of a def -/
def eCall (F : List PyData → R PyData) (fs : Rho → R (List PyData)) : Fe := fun ρ => fs ρ >>= F
theorem ev_call {X : Cx} {k n : Nat} {f : Addr} {fd : FuncData} {ps : List Str} {F : List PyData → R PyData} {x : Str} {p pos : Pos} {e : Expr} {es : List Expr} {fs : Rho → R (List PyData)} {nl : Nat} {G : List Str}
    (C : FnOk X.prog X.w X.K X.mg X.base CX0 k f fd ps (spD F n)) (hr : Room k X.A) (T : Tb X nl G) (j : Nat) (hG : G[j]? = some x) (hm : X.mg x = some (.ref f)) (hk : PySem.W.keepIn X.K (.ref f) = true) (hb : Binds X.K fd ps []) (ha : EvA X (e :: es) fs)
    (hlen : (e :: es).length = n) (hfs : ∀ ρ ds, fs ρ = .ok ds → ds.length = n)
    (he : (e :: es).all notStar = true := by rfl) : EvE X (.Call (.Name x p) (e :: es) [] pos) (eCall F fs) := by
  rw [List.all_cons, Bool.and_eq_true] at he
  have g := T.gl x (List.mem_of_getElem? hG)
  refine PE.imp (pe_call C hr g.1 hm hk hb .nil pass0 ha g.2.1 (star_cons he.1) (star_any he.2)) fun σ H Q ⟨ρ, sl, q⟩ => ?_
  refine ⟨ρ, sl, ?_⟩
  unfold eCall at q
  cases e1 : fs ρ with
  | ex c => rw [e1] at q; exact q
  | no => rw [e1] at q; exact q
  | ok ds =>
    rw [e1] at q
    intro vs H1 s1 r1
    rw [List.append_nil]
    refine ⟨ds, ra_iff.mp r1, hfs ρ ds e1, ?_⟩
    have q' : rdR X PRp (F ds) H Q := q
    cases e2 : F ds with
    | ok d => rw [e2] at q'; exact fun v H' s' p' => q' v H' (s1.trans s') p'
    | ex c => rw [e2] at q'; exact q'
    | no => rw [e2] at q'; exact q'
theorem Z.ev_call {X : Cx} {k n : Nat} {f : Addr} {fd : FuncData} {ps : List Str} {F : List PyData → R PyData} {x : Str} {p pos : Pos} {e : Expr} {es : List Expr} {fs : Rho → R (List PyData)} {nl : Nat} {G : List Str} (C : FnOk X.prog X.w X.K X.mg X.base CX0 k f fd ps (spD F n)) (hr : Room k X.A) (T : Tb X nl G) (j : Nat) (hG : G[j]? = some x) (hm : X.mg x = some (.ref f)) (hk : PySem.W.keepIn X.K (.ref f) = true) (hb : Binds X.K fd ps []) (ha : Z.EvA X (e :: es) fs) (hlen : (e :: es).length = n) (hfs : ∀ ρ ds, fs ρ = .ok ds → ds.length = n) (he : (e :: es).all notStar = true := by rfl) : Z.EvE X (.Call (.Name x p) (e :: es) [] pos) (eCall F fs) :=
  ⟨D2.ev_call C hr T j hG hm hk hb ha.un hlen hfs he⟩
theorem aNil_len : ∀ ρ ds, aNil ρ = .ok ds → ds.length = 0 := fun ρ ds e => by cases e; rfl
theorem aCons_len {f : Fe} {g : Rho → R (List PyData)} {n : Nat} (h : ∀ ρ ds, g ρ = .ok ds → ds.length = n) : ∀ ρ ds, aCons f g ρ = .ok ds → ds.length = n + 1 := fun ρ ds e => by
  unfold aCons at e
  cases e1 : f ρ with
  | ex c => rw [e1] at e; cases e
  | no => rw [e1] at e; cases e
  | ok d =>
    rw [e1] at e
    cases e2 : g ρ with
    | ex c => rw [e2] at e; cases e
    | no => rw [e2] at e; cases e
    | ok ds' => rw [e2] at e; cases e; rw [List.length_cons, h ρ ds' e2]
end D2
set_option Elab.async false
set_option linter.all false
set_option maxRecDepth 100000
set_option maxHeartbeats 4000000
namespace D2
open PySem PySem.Spec PyProof.Rows L2

/-! ### a comprehension -/
theorem closure_of {scope : Scope} {env : Env} (h : ∀ x ∈ scope.names, x.2 = .free → ∃ c, env.cells.lookup x.1 = some c) :
    ∃ cl, closureFor scope env = pure cl ∧ (∀ x c, cl.lookup x = some c → env.cells.lookup x = some c) ∧ ∀ x ∈ scope.names, x.2 = .free → ∃ c, cl.lookup x.1 = some c := by
  suffices gen : ∀ (names : List (Str × NameKind)) (acc : List (Str × Addr)), (∀ x ∈ names, x.2 = .free → ∃ c, env.cells.lookup x.1 = some c) → (∀ x c, acc.lookup x = some c → env.cells.lookup x = some c) →
      ∃ cl, (forIn names acc fun x r => if (x.snd == NameKind.free) = true then do let a ← cellOf env x.fst; pure (ForInStep.yield ((x.fst, a) :: r)) else pure (ForInStep.yield r) : Sem (List (Str × Addr))) = pure cl ∧
        (∀ x c, cl.lookup x = some c → env.cells.lookup x = some c) ∧ (∀ x c, acc.lookup x = some c → ∃ c', cl.lookup x = some c') ∧ ∀ x ∈ names, x.2 = .free → ∃ c, cl.lookup x.1 = some c by
    obtain ⟨cl, h1, h2, _, h4⟩ := gen scope.names [] h fun x c e => by simp at e
    refine ⟨cl, ?_, h2, h4⟩
    simp only [closureFor]
    rw [h1]
    rfl
  intro names
  induction names with
  | nil => intro acc _ ha; exact ⟨acc, rfl, ha, fun x c e => ⟨c, e⟩, fun x hx => by cases hx⟩
  | cons y r ih =>
    intro acc hn ha
    obtain ⟨n, k⟩ := y
    by_cases hk : k = .free
    · subst hk
      obtain ⟨c, hc⟩ := hn (n, .free) List.mem_cons_self rfl
      obtain ⟨cl, e1, e2, e3, e4⟩ := ih ((n, c) :: acc) (fun x hx => hn x (List.mem_cons_of_mem _ hx)) (fun x c' e => by
        rw [List.lookup_cons] at e
        split at e
        · rename_i q
          have : x = n := by simpa using q
          subst this; cases e; exact hc
        · exact ha x c' e)
      refine ⟨cl, ?_, e2, fun x c' e => ?_, fun x hx hf => ?_⟩
      · rw [List.forIn_cons]
        have : cellOf env n = pure c := by unfold cellOf; rw [hc]
        simp only [beq_self_eq_true, if_true, this, pure_bind]
        exact e1
      · by_cases hx : x = n
        · subst hx; exact e3 x c (by rw [List.lookup_cons]; simp)
        · have hb : (x == n) = false := by simpa using hx
          exact e3 x c' (by rw [List.lookup_cons, hb]; exact e)
      · rcases List.mem_cons.mp hx with rfl | hx
        · exact e3 n c (by rw [List.lookup_cons]; simp)
        · exact e4 x hx hf
    · obtain ⟨cl, e1, e2, e3, e4⟩ := ih acc (fun x hx => hn x (List.mem_cons_of_mem _ hx)) ha
      refine ⟨cl, ?_, e2, e3, fun x hx hf => ?_⟩
      · rw [List.forIn_cons]
        have : (k == NameKind.free) = false := by simpa using hk
        simp only [this, Bool.false_eq_true, if_false, pure_bind]
        exact e1
      · rcases List.mem_cons.mp hx with rfl | hx
        · exact absurd hf hk
        · exact e4 x hx hf
/-- a name's kind behind the relabelling -/
def reK (env : Env) (p : Str × NameKind) : NameKind := if (p.2 == .free && env.scope.kind == .function && env.kindOf p.1 == some .cell) = true then .cell else p.2
theorem relabel_names (scope : Scope) (env : Env) : (relabel scope env).names = scope.names.map fun p => (p.1, reK env p) := by
  unfold relabel
  refine List.map_congr_left fun p _ => ?_
  obtain ⟨n, k⟩ := p
  unfold reK
  dsimp only
  split <;> rfl
theorem lookup_mapv (g : Str × NameKind → NameKind) (x : Str) : ∀ l : List (Str × NameKind), (l.map fun p => (p.1, g p)).lookup x = (l.lookup x).map fun k => g (x, k)
  | [] => rfl
  | (n, k) :: r => by
    rw [List.map_cons]
    cases hx : x == n with
    | true =>
      have e : x = n := by simpa using hx
      subst e
      simp
    | false =>
      have ne : ¬ x = n := by simpa using hx
      simp only [List.lookup_cons, hx]
      exact lookup_mapv g x r
theorem relabel_at (scope : Scope) (env : Env) (x : Str) : (relabel scope env).names.lookup x = (scope.names.lookup x).map fun k => reK env (x, k) := by
  rw [relabel_names]; exact lookup_mapv _ _ _
theorem relabel_lookup {scope : Scope} {env : Env} {x : Str} {k : NameKind} (h : scope.names.lookup x = some k) (hk : k ≠ .free) : (relabel scope env).names.lookup x = some k := by
  rw [relabel_at, h]
  have : (k == NameKind.free) = false := by simpa using hk
  simp only [reK, this, Bool.false_and, Bool.false_eq_true, if_false, Option.map_some]
theorem relabel_free {scope : Scope} {env : Env} {x : Str} (h : scope.names.lookup x = some .free) : (relabel scope env).names.lookup x = some .free ∨ (relabel scope env).names.lookup x = some .cell := by
  rw [relabel_at, h]
  unfold reK
  dsimp only [Option.map_some]
  split
  · exact .inr rfl
  · exact .inl rfl
theorem relabel_inv {scope : Scope} {env : Env} {x : Str} (hc : ∀ y ∈ scope.names, y.2 ≠ .cell) (h : (relabel scope env).names.lookup x = some .free ∨ (relabel scope env).names.lookup x = some .cell) : (x, NameKind.free) ∈ scope.names := by
  cases e : scope.names.lookup x with
  | none =>
    rw [relabel_at, e] at h
    rcases h with h | h <;> cases h
  | some k =>
    by_cases hk : k = .free
    · subst hk; exact PySem.mem_of_lookup e
    · exfalso
      have := relabel_lookup (env := env) e hk
      rw [this] at h
      rcases h with h | h
      · cases h; exact hk rfl
      · cases h; exact hc _ (PySem.mem_of_lookup e) rfl

/-- the context of a comprehension's block -/
def cxComp (X : Cx) (N : List Str) (scope : Scope) (cl : List (Str × Addr)) (C : Addr) (s : Shared) (H : Hp) (fp : List Addr) : Cx :=
  { X with N := N, s₀ := s, H₀ := H, env := compEnvC scope cl C X.env, outer := X.stack, stack := X.stack, ex := fp, fn := fun _ => false, pn := [], xe := fun _ _ => False }
/-- what is to be looked up of a comprehension's scope: its own names, the captured ones (fr: their places outside), the global ones -/
def CompCk (sc : Scope) (N : List Str) (own : Nat) (G : List Str) (oN : List Str) (fr : List Nat) : Prop :=
  sc.kind = .function ∧ (∀ y ∈ sc.names, y.2 ≠ .cell) ∧ (∀ y ∈ sc.names, y.2 = .local → sc.names.lookup y.1 = some .local) ∧ N.Nodup ∧ (∀ x ∈ N.take own, sc.names.lookup x = some .local) ∧ (∀ x ∈ N.drop own, sc.names.lookup x = some .free) ∧
  (∀ x ∈ N, (x == ("__debug__" : Str)) = false ∧ (x == ("__classdict__" : Str)) = false) ∧ (∀ x ∈ G, sc.names.lookup x = some .globalImplicit ∧ (x == ("__debug__" : Str)) = false ∧ x ≠ ("__name__" : Str)) ∧
  own ≤ N.length ∧ (N.drop own).map some = fr.map fun i => oN[i]?
instance {sc : Scope} {N : List Str} {own : Nat} {G oN : List Str} {fr : List Nat} : Decidable (CompCk sc N own G oN fr) := by unfold CompCk; infer_instance
theorem comp_tb {X : Cx} {nl : Nat} {G0 : List Str} (T : Tb X nl G0) {sc : Scope} {N : List Str} {own : Nat} {G oN : List Str} {fr : List Nat} (ck : CompCk sc N own G oN fr) (cl : List (Str × Addr)) (C : Addr) (s : Shared) (H : Hp) (fp : List Addr) :
    Tb (cxComp X N sc cl C s H fp) own G := by
  obtain ⟨_, _, _, nd, l, f, db, g, _, _⟩ := ck
  refine ⟨T.hu, T.calm, nd, fun x hx => ?_, fun x hx => ?_, fun x hx => ?_⟩
  · refine ⟨?_, db x hx⟩
    have hx' : x ∈ N.take own ++ N.drop own := by rw [List.take_append_drop]; exact hx
    rcases List.mem_append.mp hx' with z | z
    · exact .inl (relabel_lookup (l x z) (by decide))
    · rcases relabel_free (env := X.env) (f x z) with q | q
      · exact .inr (.inr q)
      · exact .inr (.inl q)
  · have q := relabel_lookup (env := X.env) (l x hx) (by decide)
    exact ⟨.inl q, .inr q⟩
  · obtain ⟨g1, g2, g3⟩ := g x hx
    exact ⟨relabel_lookup (env := X.env) g1 (by decide), g2, g3⟩
/-- the tests of a comprehension -/
def PCT (X : Cx) (ifs : List Expr) (t : TT) : Prop :=
  ∀ (pins : List (Addr × Obj)) (s : Shared) (σ : St) (H : Hp) (Q : Bool → Hp → Prop), Inv X pins σ H s → t σ H Q → wpAny (model X.prog X.w) X.A (forIn ifs true fun c r => if r = true then do let ok ← isTrue c X.env (eval c X.env); pure (ForInStep.yield ok) else pure (ForInStep.yield r))
    (TP X pins σ Q) X.xe s
def EvC (X : Cx) (ifs : List Expr) (t : Rho → R Bool) : Prop := PCT X ifs (rdT X t)
structure Z.EvC (X : Cx) (ifs : List Expr) (t : Rho → R Bool) : Prop where
  un : D2.EvC X ifs t
theorem ec_nil {X : Cx} : EvC X [] (fun _ => .ok true) := fun pins s σ H Q I ⟨ρ, sl, q⟩ => wpAny_tests_nil ⟨H, I, q H (Same.refl _)⟩
theorem Z.ec_nil {X : Cx} : Z.EvC X [] (fun _ => .ok true) :=
  ⟨D2.ec_nil⟩
theorem ec_one {X : Cx} {c : Expr} {t : Rho → R Bool} (h : EvT X c t) : EvC X [c] t := fun pins s σ H Q I q => wpAny_tests_one (h pins s σ H Q I q)
theorem Z.ec_one {X : Cx} {c : Expr} {t : Rho → R Bool} (h : Z.EvT X c t) : Z.EvC X [c] t :=
  ⟨D2.ec_one h.un⟩
/-- the items of a comprehension -/
def compR (b : PyData → Rho → Option Rho) (t : Rho → R Bool) (f : Fe) (ρ : Rho) : List PyData → R (List PyData)
  | [] => .ok []
  | d :: ds => match b d ρ with
    | none => .no
    | some ρ1 => t ρ1 >>= fun k => if k = true then f ρ1 >>= fun x => compR b t f ρ ds >>= fun xs => .ok (x :: xs) else compR b t f ρ ds
def compRho (own : Nat) (fr : List Nat) (ρ : Rho) : Rho := List.replicate own .non ++ fr.map fun i => ρ.getD i .non
def eComp (it : Rho → R (List PyData)) (own : Nat) (fr : List Nat) (b : PyData → Rho → Option Rho) (t : Rho → R Bool) (f : Fe) : Fe := fun ρ =>
  it ρ >>= fun ds => if ds.length ≤ sizeLine then match compR b t f (compRho own fr ρ) ds with
    | .ok xs => .ok (.list xs)
    | _ => .no
  else .no
def compSt (own : Nat) (fr : List Nat) (σ : St) : St := List.replicate own none ++ fr.map fun i => (σ[i]?).join
theorem comp_sl {H : Hp} {σ : St} {ρ : Rho} (h : Sl H σ ρ) (own : Nat) (fr : List Nat) (hin : ∀ i ∈ fr, i < ρ.length) : Sl H (compSt own fr σ) (compRho own fr ρ) := by
  refine ⟨by simp [compSt, compRho], fun i c o h1 h2 => ?_⟩
  unfold compRho at h1
  unfold compSt at h2
  by_cases hi : i < own
  · rw [List.getElem?_append_left (by simpa using hi), List.getElem?_replicate, if_pos hi] at h1
    cases h1; exact True.intro
  · rw [List.getElem?_append_right (by simpa using hi), List.getElem?_map, List.length_replicate] at h1 h2
    cases e : fr[i - own]? with
    | none => rw [e] at h1; cases h1
    | some j =>
      rw [e] at h1 h2
      have hj := hin j (List.mem_of_getElem? e)
      have hj' : j < σ.length := by rw [h.1]; exact hj
      cases h1; cases h2
      refine h.2 j _ _ ?_ ?_
      · show ρ[j]? = some (ρ.getD j .non)
        rw [List.getD_eq_getElem?_getD, List.getElem?_eq_getElem hj]; rfl
      · show σ[j]? = some ((σ[j]?).join)
        rw [List.getElem?_eq_getElem hj']; rfl

section
variable {X : Cx} {pins : List (Addr × Obj)} {σ : St} {H : Hp} {s : Shared} {nl : Nat} {G0 : List Str} {sc : Scope} {N : List Str} {own : Nat} {G : List Str} {fr : List Nat} {cl : List (Str × Addr)} {fp : List Addr} {a C : Addr} {h4 : Heap} {t4 : Nat} {m : Str → Option Value}
/-- the block's first state: the list at a, the block's names at C -/
theorem inv_comp (I : Inv X pins σ H s) (ck : CompCk sc N own G X.N fr) (hf : ∀ b ∈ fp, FpOk X pins H b) (hob : ∀ b ∈ fp, b < s.heap.objs.size) (hcl1 : ∀ x c, cl.lookup x = some c → X.env.cells.lookup x = some c) (hcl2 : ∀ x ∈ sc.names, x.2 = .free → ∃ c, cl.lookup x.1 = some c)
    (vis : ∀ x ∈ X.N, Vis X.env.scope x) (hout : ∀ y ∈ sc.names, y.2 = .free → X.env.kindOf y.1 = some .cell ∨ X.env.kindOf y.1 = some .free)
    (ha : s.heap.objs.size ≤ a) (hC : s.heap.objs.size ≤ C) (hac : a ≠ C) (keep : ∀ b o, s.heap.get? b = some o → h4.get? b = some o) (hl : h4.get? a = some { cls := .type "list", data := .seq #[] 0 }) (hn : h4.Ns C m) :
    Inv (cxComp X N sc cl C s H fp) [] (compSt own fr σ) (upd H a (.lst [])) { s with heap := h4, toks := t4 } := by
  obtain ⟨ck1, ck2, ck3, nd, l, f, db, g, ol, ofr⟩ := ck
  have hHa : H a = none := I.hok.fresh ha
  have hHC : H C = none := I.hok.fresh hC
  have lt : ∀ {b : Addr} {o : Obj}, s.heap.get? b = some o → b < s.heap.objs.size := fun e => Heap.lt_size e
  have cellLt : ∀ x c, cl.lookup x = some c → c < s.heap.objs.size := fun x c e => by
    obtain ⟨v, q⟩ := I.cell x c (hcl1 x c e)
    exact q.lt
  refine ⟨⟨I.ok.mod, ck1, I.ok.glob, I.ok.blt, hC, fun x y c h1 h2 => I.ok.inj x y c (hcl1 x c h1) (hcl1 y c h2), fun x hx => ?_, fun x c hx => (Bool.false_ne_true hx).elim, I.ok.hd, I.ok.frames, .inl rfl, fun b hb => ⟨?_, fun x c e => ?_⟩, I.bs, Nat.le_trans I.ok.bsz I.sz, fun b o e hb => ?_, fun b hb hs => ?_, I.stack, I.stkFree⟩,
    rfl, I.bare, Un.laid keep ha hHa, ⟨m, hn, fun i x v h1 h2 h3 => ?_⟩, fun x c e => ?_, ?_, fun x c e => ?_, fun p hp => ?_, ?_, ?_⟩
  · have q := relabel_inv (env := X.env) ck2 (show (relabel sc X.env).names.lookup x = some .free ∨ (relabel sc X.env).names.lookup x = some .cell from hx.elim .inr .inl)
    exact hcl2 _ q rfl
  · exact Nat.ne_of_lt (Nat.lt_of_lt_of_le (hob b hb) hC)
  · exact (hf b hb).2.2.2.2.1 x c (hcl1 x c e)
  · rcases (hf b hb).2.2.2.1 with z | z
    · exact I.ok.noex b o e z
    · exact absurd (Nat.lt_of_lt_of_le (Heap.lt_size e) I.ok.bsz) (Nat.not_lt.mpr z)
  · rcases List.mem_cons.mp (I.stkSub b hs) with z | z
    · exact (hf b hb).2.1 z
    · exact (hf b hb).2.2.1 z
  · -- a captured name
    have hi : ¬ i < own := fun hi => by
      unfold compSt at h2
      rw [List.getElem?_append_left (by simpa using hi), List.getElem?_replicate, if_pos hi] at h2
      cases h2
    unfold compSt at h2
    rw [List.getElem?_append_right (by simpa using hi), List.getElem?_map, List.length_replicate] at h2
    cases e : fr[i - own]? with
    | none => rw [e] at h2; cases h2
    | some j =>
      rw [e] at h2
      have h2' : (σ[j]?).join = some v := Option.some.inj h2
      have hσ : σ[j]? = some (some v) := by
        cases q : σ[j]? with
        | none => rw [q] at h2'; cases h2'
        | some o => rw [q] at h2'; exact congrArg some h2'
      have hx : (N.drop own)[i - own]? = some x := by
        rw [List.getElem?_drop]
        have : own + (i - own) = i := by omega
        rw [this]; exact h1
      have hj : X.N[j]? = some x := by
        have q := congrArg (fun l => l[i - own]?) ofr
        simp only [List.getElem?_map, hx, e, Option.map_some] at q
        exact (Option.some.inj q).symm
      have hfree := f x (List.mem_of_getElem? hx)
      obtain ⟨c, hc⟩ := hcl2 _ (PySem.mem_of_lookup hfree) rfl
      have hXc := hcl1 x c hc
      obtain ⟨m0, hn0, hl0⟩ := I.loc
      obtain ⟨u, ru, lk⟩ := hl0 j x v hj hσ (vis x (List.mem_of_getElem? hj))
      have ko := hout _ (PySem.mem_of_lookup hfree) rfl
      refine ⟨u, ru, .inr ⟨(relabel_free (env := X.env) hfree).symm, c, hc, ?_⟩⟩
      rcases lk with ⟨k1, _⟩ | ⟨_, c', e1, ob, q1, q2⟩
      · exfalso
        rcases ko with k | k <;> (rw [k] at k1; cases k1)
      · rw [hXc] at e1
        cases e1
        exact ⟨ob, keep _ _ q1, q2⟩
  · obtain ⟨v, o, q, d⟩ := I.cell x c (hcl1 x c e)
    exact ⟨v, o, keep _ _ q, d⟩
  · show upd H a (.lst []) C = none
    rw [upd_ne (Ne.symm hac)]; exact hHC
  · have q := I.freeC x c (hcl1 x c e)
    show upd H a (.lst []) c = none
    rw [upd_ne (Nat.ne_of_lt (Nat.lt_of_lt_of_le (cellLt x c e) ha))]; exact q
  · exact absurd (show p ∈ ([] : List (Addr × Obj)) from hp) (by simp)
  · exact I.hok.laid keep ha ⟨Nat.zero_le _, [], 0, .nil, hl⟩
  · show (compSt own fr σ).length = N.length
    have q := congrArg List.length ofr
    rw [List.length_map, List.length_map, List.length_drop] at q
    unfold compSt
    rw [List.length_append, List.length_replicate, List.length_map]
    omega
end
/-- the cells that b leaves as they are -/
def Fits (ρ0 ρ1 : Rho) : Prop := ρ1.length = ρ0.length ∧ ∀ (i : Nat) (c : Cell), ρ0[i]? = some c → c = .non ∨ ρ1[i]? = some c
theorem Sl.unfit {H : Hp} {σ : St} {ρ0 ρ1 : Rho} (h : Sl H σ ρ1) (f : Fits ρ0 ρ1) : Sl H σ ρ0 := by
  refine ⟨h.1.trans f.1, fun i c o h1 h2 => ?_⟩
  rcases f.2 i c h1 with rfl | q
  · exact True.intro
  · exact h.2 i c o q h2
def OwnIn (H0 : Hp) (σ : St) (ρ : Rho) : Prop := ∀ (i : Nat) (e : PyData), ρ[i]? = some (.own e) → ∃ v, σ[i]? = some (some v) ∧ ORp H0 e v
theorem comp_loop {X : Cx} {J : It} {tn : Nat → Heap → Prop} {it a : Addr} {fp : List Addr} {tg iter elt : Expr} {ifs : List Expr} {scope : Scope} {pos : Pos} {b : PyData → Rho → Option Rho} {t : Rho → R Bool} {f : Fe} {ds xs : List PyData} {Gd : Hp → Prop} {H0 : Hp} {ρ0 : Rho}
    {Rk : Result → Shared → Prop} (T : Turn X.prog X.w X.K tg J fp it tn) (calm : X.calm = true) (hfp : ∀ H : Hp, (∀ b ∈ fp, H b = none) → ∀ b ∈ fp, FpOk X [] H b) (hxe : X.xe = fun _ _ => False) (hg : EvG X tg b) (ht : EvC X ifs t) (hf : EvE X elt f)
    (idt : ItD J Gd ds) (sta : Sta H0 (fun _ => False) Gd) (hsz : ds.length ≤ sizeLine) (ha0 : H0 a = none) (hb0 : ∀ d ρ1, b d ρ0 = some ρ1 → Fits ρ0 ρ1)
    (fin : ∀ s' σ' H' vs, Inv X [] σ' H' s' → Same H0 H' → H' a = some (.lst vs) → RpA H' xs vs → Rk (.ok .next) s') :
    ∀ {s : Shared} {σ : St} {H : Hp} {rest : List PyData}, Inv X [] σ H s → tn 0 s.heap → (∀ b ∈ fp, H b = none) → Same H0 H → H a = some (.lst []) → compR b t f ρ0 ds = .ok xs → Sl H σ ρ0 → OwnIn H0 σ ρ0 →
      codeAny (model X.prog X.w) X.A (.compLoop (.ListComp elt [⟨tg, iter, ifs, 0⟩] scope pos) 0 (.ref it) (.ref a) X.env) Rk s := by
  intro s σ H rest I st fr s0 hla hc sl ow
  refine codeAny_loop rfl (fun n s => ∃ i acc rest σ H vs, n = ds.length - i ∧ i ≤ ds.length ∧ acc.length ≤ i ∧ Inv X [] σ H s ∧ tn i s.heap ∧ (∀ b ∈ fp, H b = none) ∧ Same H0 H ∧ H a = some (.lst vs) ∧ RpA H acc vs ∧ compR b t f ρ0 (ds.drop i) = .ok rest ∧
    acc ++ rest = xs ∧ Sl H σ ρ0 ∧ OwnIn H0 σ ρ0) (fun n s hI => ?_) ds.length ⟨0, [], xs, σ, H, [], by simp, Nat.zero_le _, Nat.le_refl _, I, st, fr, s0, hla, RpA.nil, by simpa using hc, by simp, sl, ow⟩
  clear I st fr s0 hla hc sl ow
  obtain ⟨i, acc, rest, σ, H, vs, rfl, hi, hal, I, st, fr, s0, hla, ra, hc, hxs, sl, ow⟩ := hI
  show wpAny _ X.A ((compTurn (.ListComp elt [⟨tg, iter, ifs, 0⟩] scope pos) 0 (.ref it) (.ref a) X.env).onRaise (fun x => do noteFrame x X.env; theTreesLotGoes x)) _ _ s
  refine wpAny_noted ?_
  rw [compTurn_list]
  have gd : Gd H := sta H (Kp.of s0) fun _ _ z => z.elim
  have noex : ∀ {α : Type} {m : Sem α} {Q Q' : α → Shared → Prop} {E : Value → Shared → Prop} {s : Shared}, wpAny (model X.prog X.w) X.A m Q X.xe s → (∀ v s, Q v s → Q' v s) → wpAny (model X.prog X.w) X.A m Q' E s := fun h k => by
    rw [hxe] at h
    exact wpAny_mono h k fun _ _ z => z.elim
  by_cases hlt : i < ds.length
  · obtain ⟨d, hd⟩ : ∃ d, ds[i]? = some d := ⟨ds[i], List.getElem?_eq_getElem hlt⟩
    have hdrop : ds.drop i = d :: ds.drop (i + 1) := by
      rw [List.drop_eq_getElem_cons hlt]
      congr 1
      exact Option.some.inj ((List.getElem?_eq_getElem hlt).symm.trans hd)
    rw [hdrop] at hc
    unfold compR at hc
    refine wpAny_bind (wpAny_standAt (wpAny_bind (thn (T.item X rfl rfl rfl calm i [] s σ H _ I (hfp H fr) st (idt.go i H gd hlt)) fun r s1 ⟨u, hr, h1⟩ => ?_)))
    subst hr
    refine wpAny_bind (thn h1 fun _ s2 ⟨x, H2, I2, r2, y2, st2, fr2⟩ => ?_)
    obtain ⟨s02, p2⟩ := idt.yld i H x H2 d gd hd y2
    have I2' := I2.pinned (hfp H2 fr2) (T.obj _ _ st2)
    have back : ∀ {σ' : St} {H' : Hp} {s' : Shared}, Inv X ([] ++ pinsAt fp s2.heap) σ' H' s' → Inv X [] σ' H' s' ∧ tn (i + 1) s'.heap ∧ ∀ b ∈ fp, H' b = none := fun {σ' H' s'} J' =>
      ⟨J'.unpinned, T.keep _ _ _ st2 fun b hb o e => (J'.pin (b, o) (List.mem_append_right _ (List.mem_append_right _ (mem_pinsAt hb e)))).1, fun b hb => by
        obtain ⟨o, e, _⟩ := T.obj _ _ st2 b hb
        exact (J'.pin (b, o) (List.mem_append_right _ (List.mem_append_right _ (mem_pinsAt hb e)))).2.1⟩
    cases eb : b d ρ0 with
    | none => rw [eb] at hc; cases hc
    | some ρ1 =>
      rw [eb] at hc
      dsimp only at hc
      have hfit := hb0 d ρ1 eb
      refine wpAny_bind (noex (hg _ s2 σ H2 x u (fun σ' H' => H' = H2 ∧ Sl H2 σ' ρ1 ∧ ∀ (i : Nat) (e : PyData), ρ1[i]? = some (.own e) → ρ0[i]? = some (.own e) ∧ σ'[i]? = σ[i]?) I2' r2 ⟨ρ0, d, sl.mono s02, p2, by rw [eb]; exact fun σ' sl' w' => ⟨rfl, sl', w'⟩⟩) fun _ s3 ⟨σ3, H3, I3, e3, sl3, w3⟩ => ?_)
      subst e3
      have ow3 : OwnIn H0 σ3 ρ0 := fun j e h => by
        obtain ⟨v, z1, z2⟩ := ow j e h
        rcases hfit.2 j _ h with z | z
        · cases z
        · exact ⟨v, by rw [(w3 j e z).2]; exact z1, z2⟩
      cases et : t ρ1 with
      | ex c => rw [et] at hc; cases hc
      | no => rw [et] at hc; cases hc
      | ok k =>
        rw [et] at hc
        refine wpAny_bind (noex (ht _ s3 σ3 H3 (fun b' H' => b' = k ∧ Same H3 H') I3 ⟨ρ1, sl3, by rw [et]; exact fun H' s' => ⟨rfl, s'⟩⟩) fun ok s4 ⟨H4, I4, e4, s34⟩ => ?_)
        subst e4
        have s04 := (s0.trans s02).trans s34
        have hla4 : H4 a = some (.lst vs) := s34 _ _ (s02 _ _ hla)
        have ra4 : RpA H4 acc vs := (ra.mono s02).mono s34
        cases ok with
        | false =>
          obtain ⟨J1, J2, J3⟩ := back I4
          have hc' : compR b t f ρ0 (ds.drop (i + 1)) = .ok rest := hc
          exact wpAny_pure ⟨rfl, ds.length - (i + 1), by omega, i + 1, acc, rest, σ3, H4, vs, rfl, hlt, by omega, J1, J2, J3, s04, hla4, ra4, hc', hxs, (sl3.unfit hfit).mono s34, ow3⟩
        | true =>
          have hc' : (f ρ1 >>= fun x => compR b t f ρ0 (ds.drop (i + 1)) >>= fun xs => .ok (x :: xs)) = .ok rest := hc
          cases ef : f ρ1 with
          | ex c => rw [ef] at hc'; cases hc'
          | no => rw [ef] at hc'; cases hc'
          | ok y =>
            rw [ef] at hc'
            cases er : compR b t f ρ0 (ds.drop (i + 1)) with
            | ex c => rw [R.ok_bind, er] at hc'; cases hc'
            | no => rw [R.ok_bind, er] at hc'; cases hc'
            | ok rest' =>
              rw [R.ok_bind, er] at hc'
              have hr : y :: rest' = rest := by cases hc'; rfl
              refine wpAny_bind (wpAny_bind (noex (hf _ s4 σ3 H4 (fun v H' => Same H4 H' ∧ Rp H' y v) I4 ⟨ρ1, sl3.mono s34, by rw [ef]; exact fun v H' s' p' => ⟨s', p'⟩⟩) fun yv s5 ⟨v5, H5, I5, r5, s45, p5⟩ => ?_))
              have hla5 : H5 a = some (.lst vs) := s45 _ _ hla4
              have hlen : vs.length < sizeLine := by
                rw [ra.length]; omega
              refine wpAny_bind (noex (mt_append _ s5 σ3 H5 (.ref a) [v5] (.ref a) [yv] (fun _ H' => H' = upd H5 a (.lst (vs ++ [v5]))) I5 rfl (.cons r5 .nil) ⟨a, vs, v5, rfl, rfl, hla5, hlen, rfl⟩) fun _ s6 ⟨v6, H6, I6, r6, e6⟩ => ?_)
              subst e6
              obtain ⟨J1, J2, J3⟩ := back I6
              have kp : Kp H5 (upd H5 a (.lst (vs ++ [v5]))) := kp_upd hla5 (.inl ⟨_, rfl⟩)
              have s06 : Same H0 (upd H5 a (.lst (vs ++ [v5]))) := fun b o e => by
                rw [upd_ne (ne_of_none e ha0)]; exact (s04.trans s45) b o e
              refine wpAny_pure (wpAny_pure ⟨rfl, ds.length - (i + 1), by omega, i + 1, acc ++ [y], rest', σ3, _, vs ++ [v5], rfl, hlt, by rw [List.length_append, List.length_singleton]; omega, J1, J2, J3, s06, upd_same, ?_, er, by rw [List.append_assoc, List.singleton_append, hr]; exact hxs, ?_, ow3⟩)
              · exact RpA.append (RpA.kp kp _ _ (ra4.mono s45)) (RpA.cons (Rp.kp kp _ _ p5) RpA.nil)
              · have sl5 : Sl H5 σ3 ρ0 := ((sl3.unfit hfit).mono s34).mono s45
                refine ⟨sl5.1, fun j c o h1 h2 => ?_⟩
                cases c with
                | non => exact True.intro
                | val d' =>
                  obtain ⟨v', z1, z2⟩ := sl5.2 j _ o h1 h2
                  exact ⟨v', z1, Rp.kp kp _ _ z2⟩
                | own e' =>
                  obtain ⟨v', z1, z2⟩ := ow3 j e' h1
                  rw [z1] at h2
                  cases h2
                  exact ⟨v', rfl, z2.mono s06⟩
  · have e : i = ds.length := by omega
    subst e
    rw [List.drop_length] at hc
    have hr : rest = [] := by cases hc; rfl
    subst hr
    rw [List.append_nil] at hxs
    subst hxs
    refine wpAny_bind (wpAny_standAt (wpAny_bind (thn (T.done X rfl rfl rfl calm _ [] s σ H _ I (hfp H fr) st (idt.stop _ H gd (Nat.le_refl _))) fun r s1 ⟨hr, I1⟩ => ?_)))
    subst hr
    exact wpAny_pure (fin s1 σ H vs I1 s0 hla ra)
theorem Un.butNew {fs ex : List Addr} {H H' : Hp} {h h1 h2 : Heap} {C : Addr} (u : Un fs ex H H' h h1) (hC : h.objs.size ≤ C) (sb : ∀ b o, b ≠ C → h1.get? b = some o → h2.get? b = some o) : Un fs ex H H' h h2 := by
  have ne : ∀ {b : Addr} {o : Obj}, h.get? b = some o → b ≠ C := fun e => Nat.ne_of_lt (Nat.lt_of_lt_of_le (Heap.lt_size e) hC)
  refine ⟨fun b o e n h1 h2 => sb b o (ne e) (u.keep b o e n h1 h2), fun b o e n h1 h2 => ?_, u.free, fun b o e h => ?_, u.tups, u.frzs, u.tbls⟩
  · obtain ⟨sl, q⟩ := u.slot b o e n h1 h2
    exact ⟨sl, sb b _ (ne e) q⟩
  · obtain ⟨o', q⟩ := u.there b o e h
    exact ⟨o', sb b _ (ne e) q⟩
theorem HOk.but {P : Program} {w : World} {H : Hp} {h1 h2 : Heap} {C : Addr} (ok : HOk P w H h1) (hC : H C = none) (sb : ∀ b o, b ≠ C → h1.get? b = some o → h2.get? b = some o) : HOk P w H h2 := fun a o e =>
  (ok a o e).stay (fun b u hb q => sb b u (by
    rcases hb with rfl | hb
    · exact ne_of_none e hC
    · exact ne_of_none hb hC) q) (fun _ q => q) fun _ _ q => q
/-- a comprehension that comes to its end, whatever is done with the list -/
theorem comp_gen {X : Cx} {tg iter elt : Expr} {ifs : List Expr} {sc : Scope} {pos pos' : Pos} {it : Rho → R (List PyData)} {b : PyData → Rho → Option Rho} {t : Rho → R Bool} {f : Fe} {N : List Str} {own : Nat} {G G0 : List Str} {fr : List Nat} {nl : Nat}
    (T : Tb X nl G0) (ck : CompCk sc N own G X.N fr) (hout : ∀ y ∈ sc.names, y.2 = .free → X.env.kindOf y.1 = some .cell ∨ X.env.kindOf y.1 = some .free) (hi : EvI X tg iter it)
    (hb0 : ∀ ρ d ρ1, b d (compRho own fr ρ) = some ρ1 → Fits (compRho own fr ρ) ρ1)
    (hbody : ∀ cl C s H fp, Tb (cxComp X N sc cl C s H fp) own G → EvG (cxComp X N sc cl C s H fp) tg b ∧ EvC (cxComp X N sc cl C s H fp) ifs t ∧ EvE (cxComp X N sc cl C s H fp) elt f)
    (hs : ∀ x, foldedSetIterable iter X.env x = pure x) {use : Option (Value → Sem Unit)} {Qc : Value → Shared → Prop} {pins : List (Addr × Obj)} {s : Shared} {σ : St} {H : Hp} (I : Inv X pins σ H s) {ρ : Rho} {ds xs : List PyData} (sl : Sl H σ ρ) (ei : it ρ = .ok ds)
    (hsz : ds.length ≤ sizeLine) (ec : compR b t f (compRho own fr ρ) ds = .ok xs)
    (fin : ∀ (a C : Addr) (H' : Hp) (s' : Shared) (m : Str → Option Value) (vs : List V), Inv X pins σ H' s' → FpOk X pins H' C → s'.heap.Ns C m → Same H H' → H a = none → H' a = some (.lst vs) → RpA H' xs vs → compPost (model X.prog X.w) X.A X.xe use Qc (.ref a) C (.ok .next) s') :
    wpAny (model X.prog X.w) X.A (comprehension (.ListComp elt [⟨tg, iter, ifs, 0⟩] sc pos) sc X.env pos' (newList []) false (eval iter X.env) use) Qc X.xe s := by
  obtain ⟨cl, hcl, hcl1, hcl2⟩ := closure_of (scope := sc) (env := X.env) fun x hx hf => I.ok.has _ (hout x hx hf)
  have ck' := ck
  obtain ⟨ck1, ck2, ck3, _, _, _, _, _, _, ofr⟩ := ck'
  have hin : ∀ i ∈ fr, i < ρ.length := fun i hi => by
    have e1 : ρ.length = X.N.length := by rw [← sl.1]; exact I.len
    rw [e1]
    obtain ⟨k, hk⟩ := List.getElem?_of_mem hi
    have q := congrArg (fun l => l[k]?) ofr
    simp only [List.getElem?_map, hk, Option.map_some] at q
    cases z : (N.drop own)[k]? with
    | none => rw [z] at q; cases q
    | some y =>
      rw [z] at q
      have q' : some y = X.N[i]? := Option.some.inj q
      exact (List.getElem?_eq_some_iff.mp q'.symm).1
  refine wpAny_comprehension_free (use := use) rfl hs hcl ck1 ck3 ?_
  refine thn (hi pins s σ H (fun J H1 => Same H H1 ∧ ∃ Gd, ItD J Gd ds ∧ Sta H1 (fun _ => False) Gd) I ⟨ρ, sl, by rw [ei]; exact fun J H1 s1 z => ⟨s1, z⟩⟩) fun xv s1 h1 => thn h1 fun itv s2 h2 => ?_
  obtain ⟨itA, fp, tn, J, H2, e, I2, T2, st2, f2, s02, Gd, idt, sta⟩ := h2
  subst e
  refine wpAny_newObj_type (wpAny_newFunctionEnv ck2 (by intro y hy; simp at hy) (fun h₁ hns₁ hsb₁ => ?_) ck1)
  dsimp only at hns₁ hsb₁ ⊢
  generalize hHp : s2.heap.push { cls := .type "list", dict := none, data := .seq ([] : List Value).toArray } = Hp2 at hns₁ hsb₁ ⊢
  have hC : Hp2.objs.size = s2.heap.objs.size + 1 := by rw [← hHp, Heap.size_push]
  have hDC : s2.heap.objs.size ≠ Hp2.objs.size := by rw [hC]; exact Nat.ne_of_lt (Nat.lt_succ_self _)
  have hCle : s2.heap.objs.size ≤ Hp2.objs.size := by rw [hC]; exact Nat.le_succ _
  have below : ∀ b, b < s2.heap.objs.size → b ≠ Hp2.objs.size := fun b hb => by rw [hC]; exact Nat.ne_of_lt (Nat.lt_succ_of_lt hb)
  have old : ∀ b o, s2.heap.get? b = some o → h₁.get? b = some o := fun b o e => hsb₁.extBut b o (below b (Heap.lt_size e)) (Heap.get?_push_of_some _ (hHp ▸ Heap.get?_push_of_some _ e))
  have hacc : h₁.get? s2.heap.objs.size = some { cls := .type "list", dict := none, data := .seq ([] : List Value).toArray } := hsb₁.extBut _ _ hDC (Heap.get?_push_of_some _ (hHp ▸ Heap.get?_push_size _ rfl))
  have hob : ∀ b ∈ fp, b < s2.heap.objs.size := fun b hb => by
    obtain ⟨o, e, _⟩ := T2.obj _ _ st2 b hb
    exact Heap.lt_size e
  have sl2 : Sl H2 σ ρ := sl.mono s02
  have IC : Inv (cxComp X N sc cl Hp2.objs.size s2 H2 fp) [] (compSt own fr σ) (upd H2 s2.heap.objs.size (.lst [])) { s2 with heap := h₁, toks := s2.toks + ([] : List (Str × Value)).length } :=
    inv_comp I2 ck f2 hob hcl1 hcl2 (fun x hx => (T.vis x hx).1) hout (Nat.le_refl _) hCle hDC old hacc hns₁
  obtain ⟨hg, ht, hf⟩ := hbody cl Hp2.objs.size s2 H2 fp (comp_tb T ck cl Hp2.objs.size s2 H2 fp)
  have ha0 : H2 s2.heap.objs.size = none := I2.hok.fresh (Nat.le_refl _)
  have hfp : ∀ H' : Hp, (∀ b ∈ fp, H' b = none) → ∀ b ∈ fp, FpOk (cxComp X N sc cl Hp2.objs.size s2 H2 fp) [] H' b := fun H' hn b hb =>
    ⟨hn b hb, below b (hob b hb), fun z => by
      rcases List.mem_cons.mp (I2.stkSub b z) with y | y
      · exact (f2 b hb).2.1 y
      · exact (f2 b hb).2.2.1 y, .inl hb, fun x c e => (f2 b hb).2.2.2.2.1 x c (hcl1 x c e), fun p hp => absurd (show p ∈ ([] : List (Addr × Obj)) from hp) (by simp)⟩
  have st3 : tn 0 h₁ := T2.keep _ _ _ st2 fun b _ o e => old b o e
  have slC : Sl H2 (compSt own fr σ) (compRho own fr ρ) := comp_sl sl2 own fr hin
  have fin' : ∀ s' σ' H' vs, Inv (cxComp X N sc cl Hp2.objs.size s2 H2 fp) [] σ' H' s' → Same H2 H' → H' s2.heap.objs.size = some (.lst vs) → RpA H' xs vs →
      compPost (model X.prog X.w) X.A X.xe use Qc (.ref s2.heap.objs.size) Hp2.objs.size (.ok .next) s' := fun s' σ' H' vs J' s2' hv rv => by
    obtain ⟨m, hn, _⟩ := J'.loc
    exact fin _ _ H' s' m vs (I2.call' (s' := s') (ch := fp) J'.os J'.base J'.hok J'.bare (fun b hb => ⟨(f2 b hb).2.2.2.1, (f2 b hb).2.1, (f2 b hb).2.2.2.2.1, (f2 b hb).2.2.2.2.2⟩)) (I2.fpOk hCle J'.free) hn (s02.trans s2') (s02.free ha0) hv rv
  have loop := comp_loop (X := cxComp X N sc cl Hp2.objs.size s2 H2 fp) (iter := iter) (scope := sc) (pos := pos) (rest := []) T2 T.calm hfp rfl hg ht hf idt sta hsz ha0 (fun d ρ1 e => hb0 ρ d ρ1 e) fin' IC st3 (fun b hb => by
      show upd H2 s2.heap.objs.size (.lst []) b = none
      rw [upd_ne (Nat.ne_of_lt (hob b hb))]; exact (f2 b hb).1) (same_up ha0 _) upd_same ec (slC.mono (same_up ha0 _)) (fun i e h => by
      obtain ⟨o, z1, v, rfl, z2⟩ := slC.at h
      exact ⟨v, z1, z2⟩)
  exact codeAny_compStart_list loop (T2.self _ 0 _ _ _ st3 loop)
theorem evn_comp {X : Cx} {tg iter elt : Expr} {ifs : List Expr} {sc : Scope} {pos : Pos} {it : Rho → R (List PyData)} {b : PyData → Rho → Option Rho} {t : Rho → R Bool} {f : Fe} {N : List Str} {own : Nat} {G G0 : List Str} {fr : List Nat} {nl : Nat}
    (T : Tb X nl G0) (ck : CompCk sc N own G X.N fr) (hout : ∀ y ∈ sc.names, y.2 = .free → X.env.kindOf y.1 = some .cell ∨ X.env.kindOf y.1 = some .free) (hi : EvI X tg iter it)
    (hb0 : ∀ ρ d ρ1, b d (compRho own fr ρ) = some ρ1 → Fits (compRho own fr ρ) ρ1)
    (hbody : ∀ cl C s H fp, Tb (cxComp X N sc cl C s H fp) own G → EvG (cxComp X N sc cl C s H fp) tg b ∧ EvC (cxComp X N sc cl C s H fp) ifs t ∧ EvE (cxComp X N sc cl C s H fp) elt f)
    (hs : ∀ x, foldedSetIterable iter X.env x = pure x := by intro _; rfl) : EvN X (.ListComp elt [⟨tg, iter, ifs, 0⟩] sc pos) (eComp it own fr b t f) := by
  intro pins s σ H Q I h
  obtain ⟨ρ, sl, q⟩ := h
  unfold eComp at q
  rw [eval_ListComp]
  cases ei : it ρ with
  | ex c => rw [ei] at q; exact q.elim
  | no => rw [ei] at q; exact q.elim
  | ok ds =>
    rw [ei, R.ok_bind] at q
    split at q
    · rename_i hsz
      cases ec : compR b t f (compRho own fr ρ) ds with
      | ex c => rw [ec] at q; exact q.elim
      | no => rw [ec] at q; exact q.elim
      | ok xs =>
        rw [ec] at q
        refine comp_gen (use := none) T ck hout hi hb0 hbody hs I sl ei hsz ec fun a C H' s' m vs I' fC hn s2' ha hv rv => ?_
        obtain ⟨f0, f1, f2, f3, f4, f5⟩ := fC
        refine ⟨m, hn, fun h' sb => ⟨.ref a, H', I'.turned (t' := s'.toks) (fun b o hb e => sb.extBut b o hb e) f0 f1 f3 f4 f5, rfl, ?_⟩⟩
        refine q _ H' s2' ⟨?_, _, rfl, ha⟩
        simp only [ORp]
        exact ⟨_, vs, rfl, hv, rv⟩
    · exact q.elim
theorem Z.evn_comp {X : Cx} {tg iter elt : Expr} {ifs : List Expr} {sc : Scope} {pos : Pos} {it : Rho → R (List PyData)} {b : PyData → Rho → Option Rho} {t : Rho → R Bool} {f : Fe} {N : List Str} {own : Nat} {G G0 : List Str} {fr : List Nat} {nl : Nat} (T : Tb X nl G0) (ck : CompCk sc N own G X.N fr) (hout : ∀ y ∈ sc.names, y.2 = .free → X.env.kindOf y.1 = some .cell ∨ X.env.kindOf y.1 = some .free) (hi : Z.EvI X tg iter it) (hb0 : ∀ ρ d ρ1, b d (compRho own fr ρ) = some ρ1 → Fits (compRho own fr ρ) ρ1) (hbody : ∀ cl C s H fp, Tb (cxComp X N sc cl C s H fp) own G → Z.EvG (cxComp X N sc cl C s H fp) tg b ∧ Z.EvC (cxComp X N sc cl C s H fp) ifs t ∧ Z.EvE (cxComp X N sc cl C s H fp) elt f) (hs : ∀ x, foldedSetIterable iter X.env x = pure x := by intro _; rfl) : Z.EvN X (.ListComp elt [⟨tg, iter, ifs, 0⟩] sc pos) (eComp it own fr b t f) :=
  ⟨D2.evn_comp T ck hout hi.un hb0 (fun cl C s H fp T => let ⟨q1, q2, q3⟩ := hbody cl C s H fp T; ⟨q1.un, q2.un, q3.un⟩) hs⟩
/-- name = [.. for ..], a plain local name: stored ahead of the block's end -/
theorem es_comp {X : Cx} {tg iter elt : Expr} {ifs : List Expr} {sc : Scope} {pos py spos : Pos} {it : Rho → R (List PyData)} {b : PyData → Rho → Option Rho} {t : Rho → R Bool} {f : Fe} {N : List Str} {own : Nat} {G G0 : List Str} {fr : List Nat} {nl : Nat} {y : Str} {i : Nat}
    (T : Tb X nl G0) (ck : CompCk sc N own G X.N fr) (hout : ∀ y ∈ sc.names, y.2 = .free → X.env.kindOf y.1 = some .cell ∨ X.env.kindOf y.1 = some .free) (hi : EvI X tg iter it)
    (hb0 : ∀ ρ d ρ1, b d (compRho own fr ρ) = some ρ1 → Fits (compRho own fr ρ) ρ1)
    (hbody : ∀ cl C s H fp, Tb (cxComp X N sc cl C s H fp) own G → EvG (cxComp X N sc cl C s H fp) tg b ∧ EvC (cxComp X N sc cl C s H fp) ifs t ∧ EvE (cxComp X N sc cl C s H fp) elt f)
    (hN : (X.N.take nl)[i]? = some y) (hsw : swapsWith (.ListComp elt [⟨tg, iter, ifs, 0⟩] sc pos) (some (.Name y py)) spos.line X.env = pure true)
    (hs : ∀ x, foldedSetIterable iter X.env x = pure x := by intro _; rfl) : EvS X (.Assign [.Name y py] (.ListComp elt [⟨tg, iter, ifs, 0⟩] sc pos) spos) (sOwn i (eComp it own fr b t f)) := fun Fm => by
  intro pins s σ H D I h
  obtain ⟨ρ, sl, q⟩ := h
  unfold sOwn eComp at q
  obtain ⟨hNi, hl, hf⟩ := T.nm hN
  cases ei : it ρ with
  | ex c => rw [ei] at q; exact q.elim
  | no => rw [ei] at q; exact q.elim
  | ok ds =>
    rw [ei, R.ok_bind] at q
    by_cases hsz : ds.length ≤ sizeLine
    · rw [if_pos hsz] at q
      cases ec : compR b t f (compRho own fr ρ) ds with
      | ex c => rw [ec] at q; exact q.elim
      | no => rw [ec] at q; exact q.elim
      | ok xs =>
        rw [ec] at q
        rw [exec_Assign_Name_used _ _ _ _ hsw]
        refine wpAny_bind (wpAny_standAt (wpAny_bind ?_))
        show wpAny _ X.A (do let _ ← comprehension (.ListComp elt [⟨tg, iter, ifs, 0⟩] sc pos) sc X.env _ (newList []) false (eval iter X.env) (some (assign (.Name y py) X.env))) _ _ s
        refine wpAny_bind (thn (comp_gen (use := some (assign (.Name y py) X.env)) (Qc := fun _ s' => SP X pins D .next s') T ck hout hi hb0 hbody hs I sl.sl ei hsz ec fun a C H' s' m vs I' fC hn s2' ha hv rv => ?_) fun _ s' hq => wpAny_pure (wpAny_pure hq))
        obtain ⟨f0, f1, f2, f3, f4, f5⟩ := fC
        show wpAny _ X.A (assign (.Name y py) X.env (.ref a)) _ _ _
        refine wpAny_assign_Name (store_ok2 I' T.nd hNi hl (v := .ref a) rfl (fun s'' I'' k => ?_) hf)
        have sls : SlS Fm H' (σ.set i (some (.ref a))) (ρ.set i (.own (.list xs))) := SlS.setOwn sl (sl.mono s2') s2' i ⟨by simp only [ORp]; exact ⟨a, vs, rfl, hv, rv⟩, a, rfl, ha⟩
        refine ⟨m, ?_, fun h' sb => ⟨_, H', I''.turned (t' := s''.toks) (fun b o hb e => sb.extBut b o hb e) f0 f1 f3 f4 f5, q _ H' sls⟩⟩
        obtain ⟨a', sb', ha'⟩ := k
        refine hn.sameBut sb' ?_
        rcases ha' with rfl | ha'
        · exact f1
        · exact Ne.symm (f4 y a' ha')
    · rw [if_neg hsz] at q; exact q.elim
theorem Z.es_comp {X : Cx} {tg iter elt : Expr} {ifs : List Expr} {sc : Scope} {pos py spos : Pos} {it : Rho → R (List PyData)} {b : PyData → Rho → Option Rho} {t : Rho → R Bool} {f : Fe} {N : List Str} {own : Nat} {G G0 : List Str} {fr : List Nat} {nl : Nat} {y : Str} {i : Nat} (T : Tb X nl G0) (ck : CompCk sc N own G X.N fr) (hout : ∀ y ∈ sc.names, y.2 = .free → X.env.kindOf y.1 = some .cell ∨ X.env.kindOf y.1 = some .free) (hi : Z.EvI X tg iter it) (hb0 : ∀ ρ d ρ1, b d (compRho own fr ρ) = some ρ1 → Fits (compRho own fr ρ) ρ1) (hbody : ∀ cl C s H fp, Tb (cxComp X N sc cl C s H fp) own G → Z.EvG (cxComp X N sc cl C s H fp) tg b ∧ Z.EvC (cxComp X N sc cl C s H fp) ifs t ∧ Z.EvE (cxComp X N sc cl C s H fp) elt f) (hN : (X.N.take nl)[i]? = some y) (hsw : swapsWith (.ListComp elt [⟨tg, iter, ifs, 0⟩] sc pos) (some (.Name y py)) spos.line X.env = pure true) (hs : ∀ x, foldedSetIterable iter X.env x = pure x := by intro _; rfl) : Z.EvS X (.Assign [.Name y py] (.ListComp elt [⟨tg, iter, ifs, 0⟩] sc pos) spos) (sOwn i (eComp it own fr b t f)) :=
  ⟨D2.es_comp T ck hout hi.un hb0 (fun cl C s H fp T => let ⟨q1, q2, q3⟩ := hbody cl C s H fp T; ⟨q1.un, q2.un, q3.un⟩) hN hsw hs⟩
/-! ### what is bound as new may be data from now on -/
theorem SlS.freeze {Fm H : Hp} {σ : St} {ρ : Rho} {i : Nat} {d : PyData} {a : Addr} {u : HO} {o : Obj} (h : SlS Fm H σ ρ) (h1 : ρ[i]? = some (.own d)) (h2 : σ[i]? = some (some (.ref a))) (hu : H a = some u) (hm : (∃ xs, u = .lst xs) ∨ ∃ ks, u = .dK ks)
    (hr : Rp (upd H a (.frz o u)) d (.ref a)) : SlS Fm (upd H a (.frz o u)) σ (ρ.set i (.val d)) := by
  have hFa := h.own i d a h1 h2
  have kp : Kp H (upd H a (.frz o u)) := kp_upd hu hm
  refine ⟨fun b x e => ?_, ⟨by rw [List.length_set]; exact h.sl.1, fun j c w' e1 e2 => ?_⟩, fun j e b e1 e2 => ?_, fun j k e f b e1 e2 e3 e4 => ?_⟩
  · rw [upd_ne (ne_of_none e hFa)]; exact h.fm b x e
  · rw [List.getElem?_set] at e1
    by_cases hij : i = j
    · subst hij
      rw [if_pos rfl] at e1
      split at e1
      · cases e1
        rw [h2] at e2
        cases e2
        exact ⟨_, rfl, hr⟩
      · cases e1
    · rw [if_neg hij] at e1
      have q := h.sl.2 j c w' e1 e2
      cases c with
      | non => exact True.intro
      | val d' => obtain ⟨v, z1, z2⟩ := q; exact ⟨v, z1, Rp.kp kp _ _ z2⟩
      | own d' =>
        obtain ⟨v, z1, z2⟩ := q
        subst z1
        obtain ⟨b, ob, rfl, hb⟩ := orp_ref z2
        have nb : b ≠ a := fun z => hij (by subst z; exact h.apart i j d d' b h1 e1 h2 e2)
        refine ⟨_, rfl, ?_⟩
        cases d' <;> simp only [ORp] at z2 ⊢
        · obtain ⟨b', vs, e, hb', r⟩ := z2
          cases e
          exact ⟨b, vs, rfl, by rw [upd_ne nb]; exact hb', RpA.kp kp _ _ r⟩
        · obtain ⟨b', vs, e, hb', r⟩ := z2
          cases e
          exact ⟨b, vs, rfl, by rw [upd_ne nb]; exact hb', RpK.kp kp _ _ r⟩
  · obtain ⟨ne, e1⟩ := get_set_own (fun e z => by cases z) e1
    exact h.own j e b e1 e2
  · obtain ⟨ne, e1⟩ := get_set_own (fun e z => by cases z) e1
    obtain ⟨ne', e2⟩ := get_set_own (fun e z => by cases z) e2
    exact h.apart j k e f b e1 e2 e3 e4
theorem fz_at {X : Cx} {pins : List (Addr × Obj)} {s : Shared} {Fm H : Hp} {σ : St} {ρ : Rho} {i : Nat} {d : PyData} (I : Inv X pins σ H s) (h : SlS Fm H σ ρ) (h1 : ρ[i]? = some (.own d)) :
    ∃ H' v, Inv X pins σ H' s ∧ SlS Fm H' σ (ρ.set i (.val d)) ∧ σ[i]? = some (some v) ∧ Rp H' d v := by
  obtain ⟨w', h2, v, rfl, q⟩ := h.sl.at h1
  cases d <;> simp only [ORp] at q
  · rename_i ds
    obtain ⟨a, vs, rfl, ha, r⟩ := q
    obtain ⟨o, J⟩ := inv_freeze I ha (.inl ⟨_, rfl⟩)
    have hr : Rp (upd H a (.frz o (.lst vs))) (.list ds) (.ref a) := by
      simp only [Rp]
      exact ⟨a, o, vs, rfl, upd_same, RpA.kp (kp_upd ha (.inl ⟨_, rfl⟩)) _ _ r⟩
    exact ⟨_, _, J, h.freeze h1 h2 ha (.inl ⟨_, rfl⟩) hr, h2, hr⟩
  · rename_i ds
    obtain ⟨a, vs, rfl, ha, r⟩ := q
    obtain ⟨o, J⟩ := inv_freeze I ha (.inr ⟨_, rfl⟩)
    have hr : Rp (upd H a (.frz o (.dK vs))) (.dict ds) (.ref a) := by
      simp only [Rp]
      exact ⟨a, o, vs, rfl, upd_same, RpK.kp (kp_upd ha (.inr ⟨_, rfl⟩)) _ _ r⟩
    exact ⟨_, _, J, h.freeze h1 h2 ha (.inr ⟨_, rfl⟩) hr, h2, hr⟩
theorem EvS.fz {X : Cx} {st : Stmt} {i : Nat} {f : Fe} (h : EvS X st (sOwn i f)) (hi : i < X.N.length) : EvS X st (sSet i f) := fun Fm => by
  intro pins s σ H D I ⟨ρ, sl, q⟩
  unfold sSet at q
  cases ef : f ρ with
  | ex c => rw [ef] at q; exact q.elim
  | no => rw [ef] at q; exact q.elim
  | ok d =>
    rw [ef] at q
    have hr : rdS X Fm (sOwn i f) { nx := fun σ' H' => SlS Fm H' σ' (ρ.set i (.own d)), rt := fun _ _ => False } σ H := ⟨ρ, sl, by unfold sOwn; rw [ef]; exact fun σ' H' s' => s'⟩
    refine thn (h Fm pins s σ H _ I hr) fun fl s' z => ?_
    cases fl with
    | next =>
      obtain ⟨σ', H', I', sls⟩ := z
      have hi' : i < ρ.length := by rw [← sl.sl.1, I.len]; exact hi
      obtain ⟨H2, v, I2, sl2, _, _⟩ := fz_at I' sls (i := i) (d := d) (by rw [List.getElem?_set, if_pos rfl, if_pos hi'])
      rw [List.set_set] at sl2
      exact ⟨σ', H2, I2, q σ' H2 sl2⟩
    | brk => obtain ⟨_, _, _, z⟩ := z; exact z.elim
    | cont => obtain ⟨_, _, _, z⟩ := z; exact z.elim
    | ret u => obtain ⟨_, _, _, _, _, z⟩ := z; exact z.elim
theorem Z.EvS.fz {X : Cx} {st : Stmt} {i : Nat} {f : Fe} (h : Z.EvS X st (sOwn i f)) (hi : i < X.N.length) : Z.EvS X st (sSet i f) :=
  ⟨D2.EvS.fz h.un hi⟩
/-- return of a name that may be changed: data from now on -/
def sRetO (i : Nat) : Fs := fun ρ => match ρ[i]? with
  | some (.own d) => .ok (.rt d)
  | some (.val d) => .ok (.rt d)
  | _ => .no
theorem es_retO {X : Cx} {nl : Nat} {G : List Str} {x : Str} {p pos : Pos} (T : Tb X nl G) (i : Nat) (hN : X.N[i]? = some x) : EvS X (.Return (some (.Name x p)) pos) (sRetO i) := fun Fm => by
  intro pins s σ H D I ⟨ρ, sl, q⟩
  have hm := T.vis x (List.mem_of_getElem? hN)
  unfold sRetO at q
  split at q
  · rename_i d e
    obtain ⟨H2, v, I2, sl2, h2, r⟩ := fz_at I sl e
    exact ps_ret (pe_var hN hm.1 hm.2.1 hm.2.2) pins s σ H2 D I2 ⟨v, h2, q v H2 sl2.fm r⟩
  · rename_i d e
    obtain ⟨o, h1, v, rfl, h2⟩ := sl.sl.at e
    exact ps_ret (pe_var hN hm.1 hm.2.1 hm.2.2) pins s σ H D I ⟨v, h1, q v H sl.fm h2⟩
  · exact q.elim
theorem Z.es_retO {X : Cx} {nl : Nat} {G : List Str} {x : Str} {p pos : Pos} (T : Tb X nl G) (i : Nat) (hN : X.N[i]? = some x) : Z.EvS X (.Return (some (.Name x p)) pos) (sRetO i) :=
  ⟨D2.es_retO T i hN⟩
/-- the same, all looks at closed things -/
theorem evn_compD {X : Cx} {tg iter elt : Expr} {ifs : List Expr} {sc : Scope} {pos : Pos} {it : Rho → R (List PyData)} {b : PyData → Rho → Option Rho} {t : Rho → R Bool} {f : Fe} {N : List Str} {own : Nat} {G G0 : List Str} {fr : List Nat} {nl : Nat}
    (T : Tb X nl G0) {oN : List Str} {on : List (Str × NameKind)} (hoN : X.N = oN) (hon : X.env.scope.names = on)
    (ck : CompCk sc N own G oN fr ∧ ∀ y ∈ sc.names, y.2 = .free → on.lookup y.1 = some .cell ∨ on.lookup y.1 = some .free) (hi : EvI X tg iter it)
    (hb0 : ∀ ρ d ρ1, b d (compRho own fr ρ) = some ρ1 → Fits (compRho own fr ρ) ρ1)
    (hbody : ∀ cl C s H fp, Tb (cxComp X N sc cl C s H fp) own G → EvG (cxComp X N sc cl C s H fp) tg b ∧ EvC (cxComp X N sc cl C s H fp) ifs t ∧ EvE (cxComp X N sc cl C s H fp) elt f)
    (hs : ∀ x, foldedSetIterable iter X.env x = pure x := by intro _; rfl) : EvN X (.ListComp elt [⟨tg, iter, ifs, 0⟩] sc pos) (eComp it own fr b t f) :=
  evn_comp T (by rw [hoN]; exact ck.1) (fun y hy hf => by unfold Env.kindOf; rw [hon]; exact ck.2 y hy hf) hi hb0 hbody hs
theorem Z.evn_compD {X : Cx} {tg iter elt : Expr} {ifs : List Expr} {sc : Scope} {pos : Pos} {it : Rho → R (List PyData)} {b : PyData → Rho → Option Rho} {t : Rho → R Bool} {f : Fe} {N : List Str} {own : Nat} {G G0 : List Str} {fr : List Nat} {nl : Nat} (T : Tb X nl G0) {oN : List Str} {on : List (Str × NameKind)} (hoN : X.N = oN) (hon : X.env.scope.names = on) (ck : CompCk sc N own G oN fr ∧ ∀ y ∈ sc.names, y.2 = .free → on.lookup y.1 = some .cell ∨ on.lookup y.1 = some .free) (hi : Z.EvI X tg iter it) (hb0 : ∀ ρ d ρ1, b d (compRho own fr ρ) = some ρ1 → Fits (compRho own fr ρ) ρ1) (hbody : ∀ cl C s H fp, Tb (cxComp X N sc cl C s H fp) own G → Z.EvG (cxComp X N sc cl C s H fp) tg b ∧ Z.EvC (cxComp X N sc cl C s H fp) ifs t ∧ Z.EvE (cxComp X N sc cl C s H fp) elt f) (hs : ∀ x, foldedSetIterable iter X.env x = pure x := by intro _; rfl) : Z.EvN X (.ListComp elt [⟨tg, iter, ifs, 0⟩] sc pos) (eComp it own fr b t f) :=
  ⟨D2.evn_compD T hoN hon ck hi.un hb0 (fun cl C s H fp T => let ⟨q1, q2, q3⟩ := hbody cl C s H fp T; ⟨q1.un, q2.un, q3.un⟩) hs⟩
theorem es_ownC {X : Cx} {tg iter elt : Expr} {ifs : List Expr} {sc : Scope} {pos py spos : Pos} {it : Rho → R (List PyData)} {b : PyData → Rho → Option Rho} {t : Rho → R Bool} {f : Fe} {N : List Str} {own : Nat} {G G0 : List Str} {fr : List Nat} {nl : Nat} {y : Str} (i : Nat)
    (hN : (X.N.take nl)[i]? = some y) (T : Tb X nl G0) {oN : List Str} {on : List (Str × NameKind)} (hoN : X.N = oN) (hon : X.env.scope.names = on)
    (ck : CompCk sc N own G oN fr ∧ ∀ y ∈ sc.names, y.2 = .free → on.lookup y.1 = some .cell ∨ on.lookup y.1 = some .free) (hi : EvI X tg iter it)
    (hb0 : ∀ ρ d ρ1, b d (compRho own fr ρ) = some ρ1 → Fits (compRho own fr ρ) ρ1)
    (hbody : ∀ cl C s H fp, Tb (cxComp X N sc cl C s H fp) own G → EvG (cxComp X N sc cl C s H fp) tg b ∧ EvC (cxComp X N sc cl C s H fp) ifs t ∧ EvE (cxComp X N sc cl C s H fp) elt f)
    (hsw : swapsWith (.ListComp elt [⟨tg, iter, ifs, 0⟩] sc pos) (some (.Name y py)) spos.line X.env = pure true := by rfl)
    (hs : ∀ x, foldedSetIterable iter X.env x = pure x := by intro _; rfl) : EvS X (.Assign [.Name y py] (.ListComp elt [⟨tg, iter, ifs, 0⟩] sc pos) spos) (sOwn i (eComp it own fr b t f)) :=
  es_comp T (by rw [hoN]; exact ck.1) (fun y hy hf => by unfold Env.kindOf; rw [hon]; exact ck.2 y hy hf) hi hb0 hbody hN hsw hs
theorem Z.es_ownC {X : Cx} {tg iter elt : Expr} {ifs : List Expr} {sc : Scope} {pos py spos : Pos} {it : Rho → R (List PyData)} {b : PyData → Rho → Option Rho} {t : Rho → R Bool} {f : Fe} {N : List Str} {own : Nat} {G G0 : List Str} {fr : List Nat} {nl : Nat} {y : Str} (i : Nat) (hN : (X.N.take nl)[i]? = some y) (T : Tb X nl G0) {oN : List Str} {on : List (Str × NameKind)} (hoN : X.N = oN) (hon : X.env.scope.names = on) (ck : CompCk sc N own G oN fr ∧ ∀ y ∈ sc.names, y.2 = .free → on.lookup y.1 = some .cell ∨ on.lookup y.1 = some .free) (hi : Z.EvI X tg iter it) (hb0 : ∀ ρ d ρ1, b d (compRho own fr ρ) = some ρ1 → Fits (compRho own fr ρ) ρ1) (hbody : ∀ cl C s H fp, Tb (cxComp X N sc cl C s H fp) own G → Z.EvG (cxComp X N sc cl C s H fp) tg b ∧ Z.EvC (cxComp X N sc cl C s H fp) ifs t ∧ Z.EvE (cxComp X N sc cl C s H fp) elt f) (hsw : swapsWith (.ListComp elt [⟨tg, iter, ifs, 0⟩] sc pos) (some (.Name y py)) spos.line X.env = pure true := by rfl) (hs : ∀ x, foldedSetIterable iter X.env x = pure x := by intro _; rfl) : Z.EvS X (.Assign [.Name y py] (.ListComp elt [⟨tg, iter, ifs, 0⟩] sc pos) spos) (sOwn i (eComp it own fr b t f)) :=
  ⟨D2.es_ownC i hN T hoN hon ck hi.un hb0 (fun cl C s H fp T => let ⟨q1, q2, q3⟩ := hbody cl C s H fp T; ⟨q1.un, q2.un, q3.un⟩) hsw hs⟩
theorem fits_name {own : Nat} {fr : List Nat} {i : Nat} (h : i < own) : ∀ ρ d ρ1, bName i d (compRho own fr ρ) = some ρ1 → Fits (compRho own fr ρ) ρ1 := fun ρ d ρ1 e => by
  have e' : ρ1 = (compRho own fr ρ).set i (.val d) := (Option.some.inj e).symm
  subst e'
  refine ⟨by rw [List.length_set], fun j c hj => ?_⟩
  by_cases hij : i = j
  · subst hij
    left
    unfold compRho at hj
    rw [List.getElem?_append_left (by simpa using h), List.getElem?_replicate, if_pos h] at hj
    exact (Option.some.inj hj).symm
  · right
    rw [List.getElem?_set, if_neg hij]; exact hj
/-- a def's scope -/
def DefCk (sc : Scope) (N G : List Str) : Prop :=
  N.Nodup ∧ (∀ x ∈ N, (sc.names.lookup x = some .local ∨ sc.names.lookup x = some .cell) ∧ (x == ("__debug__" : Str)) = false ∧ (x == ("__classdict__" : Str)) = false) ∧ ∀ x ∈ G, sc.names.lookup x = some .globalImplicit ∧ (x == ("__debug__" : Str)) = false ∧ x ≠ ("__name__" : Str)
instance {sc : Scope} {N G : List Str} : Decidable (DefCk sc N G) := by unfold DefCk; infer_instance
theorem def_tb {P : Program} {w : World} {K : PySem.W.Frag} {mg : Str → Option Value} {base : Heap} {N : List Str} {qual : Str} {sc : Scope} {f : Addr} {cdv : Value} {A : Around} {outer : List Env} {s : Shared} {H : Hp} {E : XK} {G : List Str} {k : Nat}
    (hr : Room k (A.deeper (envOfC qual sc s.heap.objs.size f cdv))) (ck : DefCk sc N G) : Tb (cxOf CX0 P w K mg base N qual sc f cdv A outer s H E).nox N.length G := by
  obtain ⟨nd, l, g⟩ := ck
  refine ⟨hr.units, rfl, nd, fun x hx => ⟨?_, (l x hx).2⟩, fun x hx => ⟨?_, .inl rfl⟩, fun x hx => ?_⟩
  · rcases (l x hx).1 with q | q
    · exact .inl q
    · exact .inr (.inl q)
  · exact (l x (List.mem_of_mem_take hx)).1
  · exact g x hx
end D2
set_option Elab.async false
set_option linter.all false
set_option maxRecDepth 100000
set_option maxHeartbeats 4000000
namespace D2
open PySem PySem.Spec PyProof.Rows L2

/-! ### one-place operations -/
section
variable {X : Cx} {a b c : Expr} {fa fb fc : Fe} {pos : Pos}
def Serves1 (X : Cx) (P : Hp → Hp → PyData → V → Prop) (r : V → Hp → VK → Prop) (g : PyData → R PyData) : Prop := ∀ H x dx Q, BRp H dx x → rdR X P (g dx) H Q → r x H Q
theorem one1 {P : Hp → Hp → PyData → V → Prop} {r : V → Hp → VK → Prop} {g : PyData → R PyData} (hP : Dn P) (hg : Serves1 X P r g) (σ : St) (H : Hp) (Q : VK) (h : rdE X P (e1 g fa) σ H Q) : tUn r (rdE X PBp fa) σ H Q :=
  (bind_e (P := PBp) (k := fun _ x => g x) (tgt_r (X := X) hP Q) h).post fun v H1 ⟨_, d1, _, _, p1, q1⟩ => hg H1 v d1 Q p1 q1
def dNeg : PyData → R PyData
  | .int i => .ok (.int (-i))
  | _ => .no
theorem sv_neg : Serves1 X PRp (rU fun i => .int (-i)) dNeg := fun H x dx Q hx q => by
  unfold dNeg at q
  split at q
  · exact ⟨_, brp_int hx, q _ H (Same.refl _) rp_int⟩
  · exact q.elim
theorem ev_neg (ha : EvB X a fa) : EvE X (.UnaryOp .USub a pos) (e1 dNeg fa) := PE.imp (pe_un un_neg ha) (one1 dn_r sv_neg)

theorem Z.ev_neg (ha : Z.EvB X a fa) : Z.EvE X (.UnaryOp .USub a pos) (e1 dNeg fa) :=
  ⟨D2.ev_neg ha.un⟩
/-! ### a op b op c -/
def eChain (g g' : PyData → PyData → R PyData) (fa fb fc : Fe) : Fe := fun ρ => fa ρ >>= fun x => fb ρ >>= fun y => g x y >>= fun d => asB d >>= fun k => if k = true then fc ρ >>= fun z => g' y z else .ok (.bool false)
theorem chain_rd {r r' : R2} {g g' : PyData → PyData → R PyData} (hg : Serves2 X PRp r g) (hg' : Serves2 X PRp r' g') (σ : St) (H : Hp) (Q : VK) (h : rdE X PRp (eChain g g' fa fb fc) σ H Q) :
    tChain r r' (rdE X PBp fa) (rdE X PBp fb) (rdE X PBp fc) σ H Q :=
  (bind_e (P := PBp) (k := fun ρ x => fb ρ >>= fun y => g x y >>= fun d => asB d >>= fun k => if k = true then fc ρ >>= fun z => g' y z else .ok (.bool false)) (tgt_r (X := X) dn_r Q) h).post fun v H1 ⟨ρ1, d1, sl1, _, p1, q1⟩ =>
    (bind_e (P := PBp) (f := fb) (k := fun ρ y => g d1 y >>= fun d => asB d >>= fun k => if k = true then fc ρ >>= fun z => g' y z else .ok (.bool false)) (tgt_r (X := X) dn_r Q) ⟨ρ1, sl1, q1⟩).post fun u H2 ⟨ρ2, d2, sl2, s2, p2, q2⟩ => by
      refine hg H2 v u d1 d2 _ (BRp.mono p1 s2) p2 ?_
      cases e : g d1 d2 with
      | ex c => rw [e] at q2; exact q2
      | no => rw [e] at q2; exact q2
      | ok d =>
        rw [e] at q2
        intro w' H3 s3 p3
        have q3 : rdR X PRp (asB d >>= fun k => if k = true then fc ρ2 >>= fun z => g' d2 z else .ok (.bool false)) H2 Q := q2
        cases d with
        | bool k =>
          have e3 : w' = .bl k := by simpa only [Rp] using p3
          refine ⟨k, e3, ?_⟩
          cases k with
          | false => exact q3 _ H3 s3 rp_bool
          | true =>
            have q4 : rdR X PRp (fc ρ2 >>= fun z => g' d2 z) H2 Q := q3
            exact (bind_e (P := PBp) (f := fc) (k := fun _ z => g' d2 z) (tgt_r (X := X) dn_r Q) ⟨ρ2, sl2.mono s3, (tgt_r (X := X) dn_r Q).mono _ _ _ q4 s3⟩).post fun z H4 ⟨_, d4, _, s4, p4, q5⟩ => hg' H4 u z d2 d4 Q (BRp.mono p2 (s3.trans s4)) p4 q5
        | none => exact q3.elim
        | int i => exact q3.elim
        | str i => exact q3.elim
        | list i => exact q3.elim
        | tuple i => exact q3.elim
        | dict i => exact q3.elim
theorem ev_chain {op op' : CmpOp} {r r' : R2} {g g' : PyData → PyData → R PyData} (ho : OpR X (compareOp op) r) (hg : Serves2 X PRp r g) (ho' : OpR X (compareOp op') r') (hg' : Serves2 X PRp r' g') (ha : EvB X a fa) (hb : EvB X b fb) (hc : EvB X c fc)
    (hm : lastMarks [op, op'] [b, c] = false := by with_unfolding_all rfl) : EvE X (.Compare a [op, op'] [b, c] pos) (eChain g g' fa fb fc) := PE.imp (pe_chain ho ho' ha hb hc hm) (chain_rd hg hg')
theorem Z.ev_chain {op op' : CmpOp} {r r' : R2} {g g' : PyData → PyData → R PyData} (ho : OpR X (compareOp op) r) (hg : Serves2 X PRp r g) (ho' : OpR X (compareOp op') r') (hg' : Serves2 X PRp r' g') (ha : Z.EvB X a fa) (hb : Z.EvB X b fb) (hc : Z.EvB X c fc) (hm : lastMarks [op, op'] [b, c] = false := by with_unfolding_all rfl) : Z.EvE X (.Compare a [op, op'] [b, c] pos) (eChain g g' fa fb fc) :=
  ⟨D2.ev_chain ho hg ho' hg' ha.un hb.un hc.un hm⟩
theorem evt_chain {op op' : CmpOp} {r r' : R2} {g g' : PyData → PyData → R PyData} (ho : OpR X (compareOp op) r) (hg : Serves2 X PRp r g) (ho' : OpR X (compareOp op') r') (hg' : Serves2 X PRp r' g') (ha : EvB X a fa) (hb : EvB X b fb) (hc : EvB X c fc)
    (hm : lastMarks [op, op'] [b, c] = false := by with_unfolding_all rfl) : EvT X (.Compare a [op, op'] [b, c] pos) (tE (eChain g g' fa fb fc)) :=
  PT.imp (pt_chain ho ho' ha hb hc hm) fun σ H Q h => chain_rd hg hg' σ H _ (rd_test h)

theorem Z.evt_chain {op op' : CmpOp} {r r' : R2} {g g' : PyData → PyData → R PyData} (ho : OpR X (compareOp op) r) (hg : Serves2 X PRp r g) (ho' : OpR X (compareOp op') r') (hg' : Serves2 X PRp r' g') (ha : Z.EvB X a fa) (hb : Z.EvB X b fb) (hc : Z.EvB X c fc) (hm : lastMarks [op, op'] [b, c] = false := by with_unfolding_all rfl) : Z.EvT X (.Compare a [op, op'] [b, c] pos) (tE (eChain g g' fa fb fc)) :=
  ⟨D2.evt_chain ho hg ho' hg' ha.un hb.un hc.un hm⟩
/-! ### displays -/
variable {es : List Expr} {fs : Rho → R (List PyData)}
def eTup (fs : Rho → R (List PyData)) : Fe := fun ρ => fs ρ >>= fun ds => if ds.length ≤ sizeLine then .ok (.tuple ds) else .no
def eLst (fs : Rho → R (List PyData)) : Fe := fun ρ => fs ρ >>= fun ds => if ds.length ≤ sizeLine then .ok (.list ds) else .no
theorem ev_tup {x1} (h : EvA X es fs) : EvE X (.Tuple es x1 pos) (eTup fs) :=
  PE.imp (pe_tup h) fun σ H Q q => (bind_a (I := Rp) (f := fs) (k := fun _ ds => if ds.length ≤ sizeLine then .ok (.tuple ds) else .no) (tgt_r (X := X) dn_r Q) q).post fun vs H1 ⟨_, ds, _, _, p, q1⟩ => by
    have p := ra_iff.mp p
    split at q1
    · rename_i hz
      exact ⟨by rw [p.length]; exact hz, fun a ha => q1 _ _ (same_up ha _) (rp_new_tup ha p)⟩
    · exact q1.elim
theorem Z.ev_tup {x1} (h : Z.EvA X es fs) : Z.EvE X (.Tuple es x1 pos) (eTup fs) :=
  ⟨D2.ev_tup h.un⟩
theorem evn_lst (h : EvA X es fs) : EvN X (.List es pos) (eLst fs) :=
  PE.imp (pe_lst h) fun σ H Q q => (bind_a (I := Rp) (f := fs) (k := fun _ ds => if ds.length ≤ sizeLine then .ok (.list ds) else .no) (tgt_r (X := X) dn_n Q) q).post fun vs H1 ⟨_, ds, _, _, p, q1⟩ => by
    have p := ra_iff.mp p
    split at q1
    · rename_i hz
      exact ⟨by rw [p.length]; exact hz, fun a ha => q1 _ _ (same_up ha _) (nrp_new_lst ha p)⟩
    · exact q1.elim
theorem Z.evn_lst (h : Z.EvA X es fs) : Z.EvN X (.List es pos) (eLst fs) :=
  ⟨D2.evn_lst h.un⟩
theorem evn_dict0 : EvN X (.Dict [] [] pos) (eC (.dict [])) :=
  PE.imp pe_dnewK fun σ H Q ⟨ρ, sl, q⟩ p hp => q _ _ (same_up hp _) ⟨by simp only [ORp]; exact ⟨p, [], rfl, upd_same, by simp only [RpK]⟩, p, rfl, hp⟩

theorem Z.evn_dict0  : Z.EvN X (.Dict [] [] pos) (eC (.dict [])) :=
  ⟨D2.evn_dict0⟩
/-! ### items -/
def dIx : PyData → PyData → R PyData
  | .list ds, .int i => match atI ds i with
    | some d => .ok d
    | none => .no
  | .tuple ds, .int i => match atI ds i with
    | some d => .ok d
    | none => .no
  | _, _ => .no
theorem RpA.atI {H : Hp} {ds : List PyData} {vs : List V} {i : Int} {d : PyData} (r : RpA H ds vs) (e : L2.atI ds i = some d) : ∃ v, L2.atI vs i = some v ∧ Rp H d v := by
  unfold L2.atI at e ⊢
  rw [r.length]
  cases h : ixN ds.length i with
  | none => rw [h] at e; cases e
  | some j =>
    rw [h] at e
    obtain ⟨v, e1, p⟩ := r.get (show ds[j]? = some d from e)
    exact ⟨v, e1, p⟩
theorem sv_ix : Serves2 X PRp (fun x y H Q => rIxL X.K x y H Q ∨ rIxT X.K x y H Q) dIx := fun H x y dx dy Q hx hy q => by
  unfold dIx at q
  split at q
  · rename_i ds i
    split at q
    · rename_i d e
      obtain ⟨a, vs, rfl, hq, r⟩ := brp_list (K := X.K) hx
      obtain ⟨v, e1, p⟩ := r.atI e
      exact .inl ⟨a, vs, i, v, rfl, brp_int hy, hq, e1, q v H (Same.refl _) p⟩
    · exact q.elim
  · rename_i ds i
    split at q
    · rename_i d e
      obtain ⟨a, vs, rfl, hq, r⟩ := brp_tuple hx
      obtain ⟨v, e1, p⟩ := r.atI e
      exact .inr ⟨a, vs, i, v, rfl, brp_int hy, SqT.of hq, e1, q v H (Same.refl _) p⟩
    · exact q.elim
  · exact q.elim
theorem ev_ix (hu : X.A.units + 64 < cLine) (ha : EvB X a fa) (hb : EvB X b fb) (hs : PlainIx b) : EvE X (.Subscript a b pos) (e2 dIx fa fb) := PE.imp (pe_ix (ix_list.or ix_tup) ha hb hs) (two dn_r sv_ix)

theorem Z.ev_ix (hu : X.A.units + 64 < cLine) (ha : Z.EvB X a fa) (hb : Z.EvB X b fb) (hs : PlainIx b) : Z.EvE X (.Subscript a b pos) (e2 dIx fa fb) :=
  ⟨D2.ev_ix hu ha.un hb.un hs⟩
/-! ### built-ins -/
variable {nl : Nat} {G : List Str} {x : Str} {p : Pos}
def ServesN (X : Cx) (P : Hp → Hp → PyData → V → Prop) (r : List V → Hp → VK → Prop) (g : List PyData → R PyData) : Prop := ∀ H xs ds Q, RA BRp H ds xs → rdR X P (g ds) H Q → r xs H Q
theorem callN {P : Hp → Hp → PyData → V → Prop} {r : List V → Hp → VK → Prop} {g : List PyData → R PyData} (hP : Dn P) (hg : ServesN X P r g) (σ : St) (H : Hp) (Q : VK) (h : rdE X P (fun ρ => fs ρ >>= g) σ H Q) : tCB r (rdA X BRp fs) σ H Q :=
  (bind_a (I := BRp) (k := fun _ => g) (tgt_r (X := X) hP Q) h).post fun vs H1 ⟨_, ds, _, _, p1, q1⟩ => hg H1 vs ds Q p1 q1
/-- one argument -/
def one (g : PyData → R PyData) : List PyData → R PyData
  | [d] => g d
  | _ => .no
def two2 (g : PyData → PyData → R PyData) : List PyData → R PyData
  | [d, e] => g d e
  | _ => .no
theorem one_eq (g : PyData → R PyData) (fa : Fe) : (fun ρ => aCons fa aNil ρ >>= one g) = e1 g fa := by
  funext ρ
  unfold aCons aNil e1
  cases fa ρ <;> rfl
theorem two_eq (g : PyData → PyData → R PyData) (fa fb : Fe) : (fun ρ => aCons fa (aCons fb aNil) ρ >>= two2 g) = e2 g fa fb := by
  funext ρ
  unfold aCons aNil e2
  cases fa ρ with
  | ok a => cases fb ρ <;> rfl
  | ex c => rfl
  | no => rfl
theorem sv_one {P : Hp → Hp → PyData → V → Prop} {r : List V → Hp → VK → Prop} {g : PyData → R PyData} (h : ∀ H x d Q, BRp H d x → rdR X P (g d) H Q → r [x] H Q) : ServesN X P r (one g) := fun H xs ds Q ra q => by
  unfold one at q
  split at q
  · rename_i d
    simp only [RA] at ra
    obtain ⟨v, r', e, p, e2⟩ := ra
    subst e2; subst e
    exact h H v d Q p q
  · exact q.elim
theorem sv_two {P : Hp → Hp → PyData → V → Prop} {r : List V → Hp → VK → Prop} {g : PyData → PyData → R PyData} (h : ∀ H x y d e Q, BRp H d x → BRp H e y → rdR X P (g d e) H Q → r [x, y] H Q) : ServesN X P r (two2 g) := fun H xs ds Q ra q => by
  unfold two2 at q
  split at q
  · rename_i d e
    simp only [RA] at ra
    obtain ⟨v, r', e1, p, v', r'', e2, p', e3⟩ := ra
    subst e3; subst e2; subst e1
    exact h H v v' d e Q p p' q
  · exact q.elim
section
variable {P : Hp → Hp → PyData → V → Prop} {r : List V → Hp → VK → Prop} {g : PyData → R PyData} {g2 : PyData → PyData → R PyData} {id ty : String}
theorem blt1 (T : Tb X nl G) (j : Nat) (hG : G[j]? = some x) (hm : X.mg x = none) (hP : Dn P) (hv : bootBuiltins x = some (.builtin id)) (hc : CallR X (.builtin id) r) (hg : ∀ H x d Q, BRp H d x → rdR X P (g d) H Q → r [x] H Q) (ha : EvB X a fa)
    (he : notStar a = true := by rfl) : PE X (.Call (.Name x p) [a] [] pos) (rdE X P (e1 g fa)) := by
  have q := T.gl x (List.mem_of_getElem? hG)
  rw [← one_eq]
  exact PE.imp (pe_callB hc q.1 hm hv (eb_cons ha eb_nil he) q.2.2 q.2.1 (star_cons he)) (callN hP (sv_one hg))
theorem typ1 (T : Tb X nl G) (j : Nat) (hG : G[j]? = some x) (hm : X.mg x = none) (hP : Dn P) (hv : bootBuiltins x = some (.type ty)) (hc : CallR X (.type ty) r) (hg : ∀ H x d Q, BRp H d x → rdR X P (g d) H Q → r [x] H Q) (ha : EvB X a fa)
    (he : notStar a = true := by rfl) : PE X (.Call (.Name x p) [a] [] pos) (rdE X P (e1 g fa)) := by
  have q := T.gl x (List.mem_of_getElem? hG)
  rw [← one_eq]
  exact PE.imp (pe_callTy hc q.1 hm hv (eb_cons ha eb_nil he) q.2.2 q.2.1 (star_cons he)) (callN hP (sv_one hg))
theorem blt2 (T : Tb X nl G) (j : Nat) (hG : G[j]? = some x) (hm : X.mg x = none) (hP : Dn P) (hv : bootBuiltins x = some (.builtin id)) (hc : CallR X (.builtin id) r) (hg : ∀ H x y d e Q, BRp H d x → BRp H e y → rdR X P (g2 d e) H Q → r [x, y] H Q) (ha : EvB X a fa) (hb : EvB X b fb)
    (he : notStar a = true := by rfl) (he2 : notStar b = true := by rfl) : PE X (.Call (.Name x p) [a, b] [] pos) (rdE X P (e2 g2 fa fb)) := by
  have q := T.gl x (List.mem_of_getElem? hG)
  rw [← two_eq]
  exact PE.imp (pe_callB hc q.1 hm hv (eb_cons ha (eb_cons hb eb_nil he2) he) q.2.2 q.2.1 (star_cons he) (star_any (by rw [List.all_cons, he2]; rfl))) (callN hP (sv_two hg))
end
end
end D2
set_option Elab.async false
set_option linter.all false
set_option maxRecDepth 100000
set_option maxHeartbeats 4000000
namespace D2
open PySem PySem.Spec PyProof.Rows L2

/-! ### a tuple times an int -/
theorem noFill_tuple_mul : fillsNumberSlot (.type "tuple") "mul" = pure false :=
  PySem.fillsNumberSlot_seq (id := "tuple.__mul__") (r := some (.builtin "tuple.__rmul__")) F.slot_tuple_mul.lookup (by decide +kernel) F.slot_tuple_rmul.lookup (by decide +kernel)
theorem repeat_tuple : seqRepeat? (.type "tuple") = pure (some (.builtin "tuple.__mul__")) := by
  unfold seqRepeat?
  rw [PySem.seqSlot_of (T := "tuple") (name := "__mul__") (id := "tuple.__mul__") F.slot_tuple_mul.lookup (by decide +kernel), PySem.seqSlot_of (T := "tuple") (name := "__rmul__") (id := "tuple.__rmul__") F.slot_tuple_rmul.lookup (by decide +kernel)]
  rfl
theorem int_rmul_tuple (a : Int) (t : Tok) (l : Addr) (items : Array Value) (n : Nat) (dd : Option Addr) (sl : Array (Option Value)) :
    Meets (Builtin.«int.__rmul__» ⟨[.int a t, .ref l], []⟩) (fun _ R s => s.heap.get? l = some { cls := .type "tuple", dict := dd, data := .seq items n, slots := sl } ∧ R (.ok (.ret Value.notImplemented)) s) :=
  .of_wp fun prog w A R s h => by obtain ⟨hp, g, d, tk, os⟩ := s; obtain ⟨hl, h⟩ := h; wp_walk; exact ⟨_, rfl, h⟩
theorem tuple_mulW (l : Addr) (items : Array Value) (n : Nat) (dd : Option Addr) (sl : Array (Option Value)) (x : Int) (u : Tok) (h1 : 2 ≤ x) (h2 : x < 2 ^ 63) (h0 : ¬ items.isEmpty = true) (hc1 : ¬ (items.size : Int) * x > (2 ^ 63 - 1) / 8) (hbig : Builtin.Tuple.tupleTooMany ((items.size : Int) * x) = false) (hsz : ¬ (List.foldl (fun x1 x2 => x1 ++ x2) #[] (List.replicate x.toNat items)).size > sizeLine) :
    Meets (Builtin.«tuple.__mul__» ⟨[.ref l, .int x u], []⟩) (fun _ R s => s.heap.get? l = some { cls := .type "tuple", dict := dd, data := .seq items n, slots := sl } ∧ R (.ok (.ret (Value.ref s.heap.objs.size))) { s with heap := s.heap.push { cls := Value.type "tuple", data := Data.seq (List.foldl (fun x1 x2 => x1 ++ x2) #[] (List.replicate x.toNat items)) }, toks := s.toks }) :=
  .of_wp fun prog w A R s h => by
    obtain ⟨hp, g, d, tk, os⟩ := s; obtain ⟨hl, h⟩ := h
    have f1 := AutoSeq1.idx_int; have f2 := AutoSeq1.sub_tuple_tuple; have f3 := AutoSeq1.sub_list_list; have f4 := AutoSeq1.sub_tuple_list; have f5 := AutoSeq1.sub_list_tuple
    have e0 : (decide (x < -2 ^ 63) || decide (x ≥ 2 ^ 63)) = false := by
      rw [decide_eq_false (by omega), decide_eq_false (by omega)]; rfl
    have e1 : (items.isEmpty || x == 1) = false := by
      have : (x == 1) = false := by simp; omega
      rw [this, Bool.or_false]; exact Bool.eq_false_iff.mpr h0
    have e2 : (decide (x ≤ 0) || items.isEmpty) = false := by
      rw [decide_eq_false (by omega), Bool.false_or]; exact Bool.eq_false_iff.mpr h0
    have e3 : decide ((items.size : Int) * x > (2 ^ 63 - 1) / 8) = false := decide_eq_false hc1
    have e4 : Builtin.Tuple.tupleTooMany ((items.size : Int) * x) = false := hbig
    wp_walk using wpAny_loadPart' hl
    refine wpAny_ite_false (decide_eq_false (by rw [e0]; exact Bool.false_ne_true)) ?_
    wp_walk using wpAny_loadPart' hl
    refine wpAny_ite_false (decide_eq_false (by rw [e1]; exact Bool.false_ne_true)) ?_
    wp_walk using wpAny_loadPart' hl
    refine wpAny_ite_false (decide_eq_false (by rw [e2]; exact Bool.false_ne_true)) ?_
    wp_walk using wpAny_loadPart' hl
    refine wpAny_ite_false e3 ?_
    wp_walk using wpAny_loadPart' hl
    exact ⟨_, rfl, h⟩

section
variable {X : Cx} {a b c : Expr} {fa fb fc : Fe} {pos : Pos} {nl : Nat} {G : List Str} {x : Str} {p : Pos}
def rRepT (K : PySem.W.Frag) : R2 := fun x y H Q => ∃ l k xs, x = .ref l ∧ y = .int k ∧ SqT K H l xs ∧ xs ≠ [] ∧ 2 ≤ k ∧ k < 2 ^ 63 ∧ xs.length * k.toNat ≤ sizeLine ∧ ∀ p, H p = none → Q (.ref p) (upd H p (.tup (List.replicate k.toNat xs).flatten))
theorem op_repT : OpR X (binaryOp .Mult) (rRepT X.K) := by
  intro pins s σ H x y v u Q I rx ry h
  obtain ⟨l, k, xs, rfl, rfl, hH, hne, h1, h2, hz, q⟩ := h
  cases rx
  obtain ⟨t, rfl⟩ := ry
  obtain ⟨its, r, pl, hz0⟩ := I.tuple hH
  obtain ⟨⟨cls, dd, data, sl⟩, e, hc, n, hd⟩ := id pl
  simp only at hc hd
  subst hc hd
  have hl := r.length
  have hnew : List.foldl (fun x1 x2 => x1 ++ x2) #[] (List.replicate k.toNat its.toArray) = (List.replicate k.toNat its).flatten.toArray := by
    have := foldl_rep its k.toNat []
    rw [List.nil_append] at this
    exact this
  have hlen : (List.replicate k.toNat its).flatten.length ≤ sizeLine := by rw [len_rep, ← hl, Nat.mul_comm]; exact hz
  have hprod : (its.length : Int) * k ≤ (sizeLine : Int) := by
    have h3 : ((its.length * k.toNat : Nat) : Int) ≤ (sizeLine : Int) := by rw [← hl]; exact Int.ofNat_le.mpr hz
    have h4 : ((k.toNat : Nat) : Int) = k := Int.toNat_of_nonneg (by omega)
    rw [Int.natCast_mul, h4] at h3
    exact h3
  have hcap : ¬ (its.toArray.size : Int) * k > (2 ^ 63 - 1) / 8 := by
    rw [List.size_toArray]
    have hs : sizeLine = 16777216 := sizeLine_eq
    omega
  have hbig : Builtin.Tuple.tupleTooMany ((its.toArray.size : Int) * k) = false := by
    unfold Builtin.Tuple.tupleTooMany
    rw [List.size_toArray]
    exact decide_eq_false (by omega)
  refine wpAny_binaryOp_repeat_ref (T := "tuple") (U := "int") (by decide) ⟨_, e, rfl⟩ (fun s' => typeIs_int s' k t) noFill_tuple_mul F.fills_int_mul F.slot_int_rmul repeat_tuple F.slot_int_index.lookup
    (call_meets F.slot_int_rmul (typeIs_int s k t) F.entry_int_rmul (F.args_int_rmul_2 _ _) (int_rmul_tuple k t l its.toArray n dd sl)
      ⟨e, rfl, ⟨_, e, rfl⟩, call_meets F.slot_tuple_mul ⟨_, e, rfl⟩ F.entry_tuple_mul (F.args_tuple_mul_2 _ _) (tuple_mulW l its.toArray n dd sl k t h1 h2 (by
        intro z
        apply hne
        have : its = [] := by simpa using z
        rw [this] at hl
        exact List.length_eq_zero_iff.mp hl) hcap hbig (by rw [hnew, List.size_toArray]; omega)) ⟨e, ?_⟩⟩)
  rw [hnew]
  refine ⟨.ref s.heap.objs.size, _, I.laid (t' := s.toks) (o := .tup (List.replicate k.toNat xs).flatten) (fun b ob q => Heap.get?_push_of_some _ q) (Nat.le_refl _) ?_, rfl, q _ (I.hok.fresh (Nat.le_refl _))⟩
  exact ⟨by rw [len_rep, Nat.mul_comm]; exact hz, _, r.rep k.toNat, IsTup.new _ _⟩
/-- a product -/
def dMul : PyData → PyData → R PyData
  | .int i, .int j => if (-(2 ^ 64) < i ∧ i < 2 ^ 64) ∨ (-(2 ^ 64) < j ∧ j < 2 ^ 64) then .ok (.int (i * j)) else .no
  | .tuple xs, .int k => if xs ≠ [] ∧ 2 ≤ k ∧ k < 2 ^ 63 ∧ xs.length * k.toNat ≤ sizeLine then .ok (.tuple (List.replicate k.toNat xs).flatten) else .no
  | _, _ => .no
theorem sv_mul : Serves2 X PRp (fun x y H Q => rI CMul (fun i j => .int (i * j)) x y H Q ∨ rRepT X.K x y H Q) dMul := fun H x y dx dy Q hx hy q => by
  cases dx with
  | int i =>
    cases dy with
    | int j =>
      simp only [dMul] at q
      split at q
      · rename_i h; exact .inl ⟨_, _, brp_int hx, brp_int hy, h, q _ H (Same.refl _) rp_int⟩
      · exact q.elim
    | _ => exact q.elim
  | tuple xs =>
    cases dy with
    | int k =>
      simp only [dMul] at q
      split at q
      · rename_i h
        obtain ⟨a, vs, rfl, ha, r⟩ := brp_tuple hx
        have hl := r.length
        refine .inr ⟨a, k, vs, rfl, brp_int hy, SqT.of ha, fun z => h.1 ?_, h.2.1, h.2.2.1, by rw [hl]; exact h.2.2.2, fun p hp => q _ _ (same_up hp _) (rp_new_tup hp (r.rep _))⟩
        rw [z] at hl
        exact List.length_eq_zero_iff.mp hl.symm
      · exact q.elim
    | _ => exact q.elim
  | _ => exact q.elim
theorem ev_mul (ha : EvB X a fa) (hb : EvB X b fb) : EvE X (.BinOp a .Mult b pos) (e2 dMul fa fb) := ev_bin dn_r (op_mul.or op_repT) sv_mul ha hb

theorem Z.ev_mul (ha : Z.EvB X a fa) (hb : Z.EvB X b fb) : Z.EvE X (.BinOp a .Mult b pos) (e2 dMul fa fb) :=
  ⟨D2.ev_mul ha.un hb.un⟩
/-! ### a sum of texts, tuples, lists -/
theorem op_addS : OpR X (binaryOp .Add) (fun x y H Q => ∃ i j, x = .str i ∧ y = .str j ∧ i.length + j.length ≤ sizeLine ∧ Q (.str (i ++ j)) H) := by
  intro pins s σ H x y v u Q I rx ry h
  obtain ⟨i, j, rfl, rfl, hz, q⟩ := h
  obtain ⟨t, rfl⟩ := rx
  obtain ⟨t', rfl⟩ := ry
  exact PyProof.Rows.add_str (fun t' tk => ⟨.str (i ++ j), H, I.tok _, ⟨_, rfl⟩, q⟩) hz
def rCatT0 (K : PySem.W.Frag) : R2 := fun x y H Q => ∃ a b ys, x = .ref a ∧ y = .ref b ∧ SqT K H a [] ∧ SqT K H b ys ∧ Q (.ref b) H
theorem op_catT0 : OpR X (binaryOp .Add) (rCatT0 X.K) := by
  intro pins s σ H x y v u Q I rx ry h
  obtain ⟨a, b, ys, rfl, rfl, ha, hb, q⟩ := h
  cases rx
  cases ry
  obtain ⟨its, r1, p1, _⟩ := I.tuple ha
  obtain ⟨its2, r2, p2, _⟩ := I.tuple hb
  cases r1
  obtain ⟨⟨cls, dd, data, sl⟩, ho, hc, n, hd⟩ := id p1
  obtain ⟨⟨cls2, dd2, data2, sl2⟩, ho2, hc2, n2, hd2⟩ := id p2
  simp only at hc hd hc2 hd2
  subst hc hd hc2 hd2
  exact concat_meets ⟨_, ho, rfl⟩ ⟨_, ho2, rfl⟩ noFill_tuple_add seq_tuple_add PySem.F.slot_tuple_add PySem.F.entry_tuple_add (PySem.F.args_tuple_add_2 _ _)
    (tuple_addW0 a b _ its2.toArray n n2 dd dd2 sl sl2 (by rfl)) ⟨ho, ho2, ⟨.ref b, H, I, rfl, q⟩⟩
def rCatL (K : PySem.W.Frag) : R2 := fun x y H Q => ∃ l b xs zs, x = .ref l ∧ y = .ref b ∧ Rd H l (.lst xs) ∧ Rd H b (.lst zs) ∧ xs.length + zs.length ≤ sizeLine ∧ ∀ p, H p = none → Q (.ref p) (upd H p (.lst (xs ++ zs)))
theorem op_catL : OpR X (binaryOp .Add) (rCatL X.K) := by
  intro pins s σ H x y v u Q I rx ry h
  obtain ⟨l, b, xs, zs, rfl, rfl, hH, hB, hz, q⟩ := h
  cases rx
  cases ry
  obtain ⟨z, its, n, r, e⟩ := hH.ok I.hok
  obtain ⟨z2, its2, n2, r2, e2⟩ := hB.ok I.hok
  have hl := r.length
  have hl2 := r2.length
  refine PySem.P.add_list e e2 ?_ (by rw [List.size_toArray, List.size_toArray]; omega)
  have ea : its.toArray ++ its2.toArray = (its ++ its2).toArray := by simp
  rw [ea]
  exact ⟨.ref _, _, I.lnew (t' := s.toks) (r.append r2) (by rw [List.length_append]; omega), rfl, q _ I.fresh⟩
def dAdd : PyData → PyData → R PyData
  | .int i, .int j => .ok (.int (i + j))
  | .str x, .str y => if x.length + y.length ≤ sizeLine then .ok (.str (x ++ y)) else .no
  | .tuple xs, .tuple ys => if xs.length + ys.length ≤ sizeLine then .ok (.tuple (xs ++ ys)) else .no
  | .list xs, .list ys => if xs.length + ys.length ≤ sizeLine then .ok (.list (xs ++ ys)) else .no
  | _, _ => .no
theorem brp_lst {H : Hp} {ds : List PyData} {x : V} (h : BRp H (.list ds) x) : ∃ a vs, x = .ref a ∧ Rd H a (.lst vs) ∧ RpA H ds vs := by
  rcases h with h | h
  · simp only [Rp] at h
    obtain ⟨a, o, vs, e, ha, r⟩ := h
    exact ⟨a, vs, e, .inr ⟨o, ha⟩, r⟩
  · simp only [ORp] at h
    obtain ⟨a, vs, e, ha, r⟩ := h
    exact ⟨a, vs, e, .inl ha, r⟩
theorem sv_add : Serves2 X PFp (fun x y H Q => rI0 (fun i j => .int (i + j)) x y H Q ∨ (∃ i j, x = .str i ∧ y = .str j ∧ i.length + j.length ≤ sizeLine ∧ Q (.str (i ++ j)) H) ∨ rCatT X.K x y H Q ∨ rCatT0 X.K x y H Q ∨ rCatL X.K x y H Q) dAdd := fun H x y dx dy Q hx hy q => by
  cases dx with
  | int i =>
    cases dy with
    | int j => exact .inl ⟨_, _, brp_int hx, brp_int hy, q _ H (Same.refl _) (.inl rp_int)⟩
    | _ => exact q.elim
  | str i =>
    cases dy with
    | str j =>
      simp only [dAdd] at q
      split at q
      · rename_i h; exact .inr (.inl ⟨_, _, brp_str hx, brp_str hy, h, q _ H (Same.refl _) (.inl rp_str)⟩)
      · exact q.elim
    | _ => exact q.elim
  | tuple xs =>
    cases dy with
    | tuple ys =>
      simp only [dAdd] at q
      split at q
      · rename_i h
        have hx' := hx
        obtain ⟨a, vs, rfl, ha, r⟩ := brp_tuple hx
        obtain ⟨b, us, rfl, hb, r2⟩ := brp_tuple hy
        cases xs with
        | nil =>
          have := r.nil_inv
          subst this
          refine .inr (.inr (.inr (.inl ⟨a, b, us, rfl, rfl, SqT.of ha, SqT.of hb, q _ H (Same.refl _) (.inl ?_)⟩)))
          simp only [Rp, List.nil_append]
          exact ⟨b, us, rfl, hb, r2⟩
        | cons d ds =>
          refine .inr (.inr (.inl ⟨a, b, vs, us, rfl, rfl, SqT.of ha, SqT.of hb, fun z => ?_, by rw [r.length, r2.length]; exact h, fun z => ?_, fun _ p hp => q _ _ (same_up hp _) (.inl (rp_new_tup hp (r.append r2)))⟩))
          · rw [z] at r
            obtain ⟨_, _, e, _⟩ := r.cons_inv
            cases e
          · have hy0 : ys = [] := by
              have := r2.length
              rw [z] at this
              exact List.length_eq_zero_iff.mp this.symm
            refine q _ H (Same.refl _) (.inl ?_)
            rw [hy0, List.append_nil]
            simp only [Rp]
            exact ⟨a, vs, rfl, ha, r⟩
      · exact q.elim
    | _ => exact q.elim
  | list xs =>
    cases dy with
    | list ys =>
      simp only [dAdd] at q
      split at q
      · rename_i h
        obtain ⟨a, vs, rfl, ha, r⟩ := brp_lst hx
        obtain ⟨b, us, rfl, hb, r2⟩ := brp_lst hy
        exact .inr (.inr (.inr (.inr ⟨a, b, vs, us, rfl, rfl, ha, hb, by rw [r.length, r2.length]; exact h, fun p hp => q _ _ (same_up hp _) (.inr (nrp_new_lst hp (r.append r2)))⟩)))
      · exact q.elim
    | _ => exact q.elim
  | _ => exact q.elim
theorem ev_add (ha : EvB X a fa) (hb : EvB X b fb) : EvE X (.BinOp a .Add b pos) (e2 dAdd fa fb) :=
  EvF.e (ev_bin dn_f (op_add.or (op_addS.or (op_catT.or (op_catT0.or op_catL)))) sv_add ha hb)
theorem Z.ev_add (ha : Z.EvB X a fa) (hb : Z.EvB X b fb) : Z.EvE X (.BinOp a .Add b pos) (e2 dAdd fa fb) :=
  ⟨D2.ev_add ha.un hb.un⟩
end
end D2
set_option Elab.async false
set_option linter.all false
set_option maxRecDepth 100000
set_option maxHeartbeats 4000000
namespace D2
open PySem PySem.Spec PyProof.Rows L2

section
variable {prog : Program} {w : World} {A : Around} {E : Value → Shared → Prop} {s : Shared}
/-- t[lo:hi], the whole of it: t itself -/
theorem getItem_tuple_whole {t sl : Addr} {items : Array Value} {vl vu : Value} {lo hi : Option Int} {Q : Value → Shared → Prop} (ht : IsTup s.heap t items) (hs : s.heap.IsSliceOf sl vl vu .none) (pl : IsPart vl lo) (pu : IsPart vu hi)
    (hw : HT.sIx items.size 0 lo = 0 ∧ HT.sIx items.size items.size hi = items.size) (h : Q (.ref t) s) : wpAny (model prog w) A (getItem (.ref t) (.ref sl)) Q E s := by
  obtain ⟨os, hos, hcs, hds⟩ := id hs
  have hTs : s.TypeIs (.ref sl) "slice" := ⟨os, hos, hcs⟩
  unfold getItem
  try with_reducible refine wpAny_holding ?_
  first | refine wpAny_bind (wpAny_pure ?_) | skip
  refine wpAny_bind (wpAny_sequenceKey ht.typeIs (by decide) ?_)
  refine wpAny_bind (wpAny_callSpecial?_slot (name := Str.ofString "__getitem__") ht.typeIs PyProof.Rows.slot_tuple_getitem
    (wpAny_call_entry PyProof.Rows.slot_tuple_getitem ht.typeIs entry_tuple_getitem ?_ (args_tuple_getitem _ _)))
  show wpAny _ _ (Builtin.Tuple.tupleItemsOf (.ref t) >>= _) _ _ s
  refine wpAny_bind (tupleItemsOf_ ht ?_)
  refine wpAny_bind (wpAny_typeOf hTs ?_)
  rw [if_pos (by decide)]
  refine wpAny_bind (HT.sliceApplied_gen hs pl pu ?_)
  have hyes : (((HT.sIx items.size 0 lo : Nat) : Int) == 0 && (1 : Int) == 1 && (HT.sIx items.size items.size hi - HT.sIx items.size 0 lo) == items.size) = true := by
    rw [hw.1, hw.2]; simp
  show wpAny _ _ (if (((HT.sIx items.size 0 lo : Nat) : Int) == 0 && (1 : Int) == 1 && (HT.sIx items.size items.size hi - HT.sIx items.size 0 lo) == items.size) = true then _ else _) _ _ s
  rw [if_pos hyes]
  refine wpAny_bind (m := Builtin.Tuple.tupleIsExact _) ?_
  unfold Builtin.Tuple.tupleIsExact
  refine wpAny_bind (wpAny_typeOf ht.typeIs (wpAny_pure ?_))
  show wpAny _ _ (if (Value.type "tuple" == Value.type "tuple") = true then _ else _) _ _ s
  rw [if_pos (by decide)]
  refine wpAny_bind (wpAny_rule ?_)
  first
    | exact wpAny_pure ⟨_, rfl, wpAny_pure h⟩
    | exact wpAny_bind (wpAny_pure (wpAny_pure ⟨_, rfl, wpAny_pure h⟩))
theorem places_rev (n : Nat) : Builtin.Slice.slicePlaces ((n : Int) - 1) (-1) (-1) = n := by
  unfold Builtin.Slice.slicePlaces
  simp only [show ¬ (-1 : Int) > 0 by decide, if_false, Int.neg_neg, Int.ediv_one]
  split <;> omega
theorem sliceApplied_rev {sl : Addr} {n : Nat} {t : Tok} {Q : Int × Int × Nat → Shared → Prop} (hs : s.heap.IsSliceOf sl .none .none (.int (-1) t)) (h : Q ((n : Int) - 1, -1, n) s) :
    wpAny (model prog w) A (Builtin.Slice.sliceApplied (.ref sl) (pure (n : Int))) Q E s := by
  obtain ⟨os, hos, hcs, hds⟩ := id hs
  unfold Builtin.Slice.sliceApplied Builtin.Slice.sliceFields
  refine wpAny_bind (wpAny_bind (wpAny_field hos hds (x := .none) rfl (wpAny_bind (wpAny_field hos hds (x := .none) rfl (wpAny_bind (wpAny_field hos hds (x := .int (-1) t) rfl (wpAny_pure ?_)))))))
  refine wpAny_bind (slicePart_int ?_)
  show wpAny _ _ (if ((-1 : Int) == 0) = true then _ else _) _ _ s
  rw [if_neg (by decide)]
  refine wpAny_bind (slicePart_none (wpAny_bind (slicePart_none (wpAny_bind (wpAny_pure ?_)))))
  show wpAny _ _ (match Builtin.Slice.sliceAdjust none none (-1) (n : Int) with | (lo, hi) => pure (lo, (-1 : Int), Builtin.Slice.slicePlaces lo hi (-1))) _ _ s
  have e : Builtin.Slice.sliceAdjust none none (-1) (n : Int) = ((n : Int) - 1, -1) := by
    unfold Builtin.Slice.sliceAdjust
    simp
  rw [e]
  show wpAny _ _ (pure ((n : Int) - 1, (-1 : Int), Builtin.Slice.slicePlaces ((n : Int) - 1) (-1) (-1))) _ _ s
  rw [places_rev]
  exact wpAny_pure h
theorem pick_rev (xs : Array Value) : ((List.range xs.size).filterMap fun (m : Nat) => xs[((xs.size : Int) - 1 + (m : Int) * (-1)).toNat]?).toArray = xs.toList.reverse.toArray := by
  congr 1
  apply List.ext_getElem?
  intro i
  have key : ∀ k, k ≤ xs.size → (List.range k).filterMap (fun (m : Nat) => xs[((xs.size : Int) - 1 + (m : Int) * (-1)).toNat]?) = (xs.toList.reverse).take k := by
    intro k
    induction k with
    | zero => intro _; simp
    | succ k ih =>
      intro hk
      rw [List.range_succ, List.filterMap_append, ih (by omega), List.take_add_one]
      congr 1
      have e1 : ((xs.size : Int) - 1 + (k : Int) * (-1)).toNat = xs.size - 1 - k := by omega
      have h1 : xs.size - 1 - k < xs.size := by omega
      have h2 : k < xs.toList.length := by rw [Array.length_toList]; omega
      rw [List.filterMap_cons, e1, Array.getElem?_eq_getElem h1, List.filterMap_nil, List.getElem?_reverse h2, Array.length_toList, Array.getElem?_toList, Array.getElem?_eq_getElem h1]
      rfl
  rw [key xs.size (Nat.le_refl _), List.take_of_length_le (by simp)]
/-- t[::-1] -/
theorem getItem_tuple_rev {t sl : Addr} {items : Array Value} {tk : Tok} {Q : Value → Shared → Prop} (ht : IsTup s.heap t items) (hs : s.heap.IsSliceOf sl .none .none (.int (-1) tk))
    (h : Q (.ref s.heap.objs.size) { s with heap := s.heap.push { cls := .type "tuple", data := .seq items.toList.reverse.toArray } }) (hsz : items.size ≤ sizeLine) : wpAny (model prog w) A (getItem (.ref t) (.ref sl)) Q E s := by
  have hok : sizeOk (.seq items.toList.reverse.toArray) := by
    show items.toList.reverse.toArray.size ≤ sizeLine
    simpa using hsz
  obtain ⟨os, hos, hcs, hds⟩ := id hs
  have hTs : s.TypeIs (.ref sl) "slice" := ⟨os, hos, hcs⟩
  unfold getItem
  try with_reducible refine wpAny_holding ?_
  first | refine wpAny_bind (wpAny_pure ?_) | skip
  refine wpAny_bind (wpAny_sequenceKey ht.typeIs (by decide) ?_)
  refine wpAny_bind (wpAny_callSpecial?_slot (name := Str.ofString "__getitem__") ht.typeIs PyProof.Rows.slot_tuple_getitem
    (wpAny_call_entry PyProof.Rows.slot_tuple_getitem ht.typeIs entry_tuple_getitem ?_ (args_tuple_getitem _ _)))
  show wpAny _ _ (Builtin.Tuple.tupleItemsOf (.ref t) >>= _) _ _ s
  refine wpAny_bind (tupleItemsOf_ ht ?_)
  refine wpAny_bind (wpAny_typeOf hTs ?_)
  rw [if_pos (by decide)]
  refine wpAny_bind (sliceApplied_rev hs ?_)
  show wpAny _ _ (if (((items.size : Int) - 1) == 0 && (-1 : Int) == 1 && items.size == items.size) = true then _ else _) _ _ s
  rw [if_neg (by simp), pick_rev]
  first
    | exact wpAny_bind (m := Builtin.Tuple.tupleExact _) (wpAny_newObj_type (wpAny_pure ⟨_, rfl, wpAny_pure h⟩) hok)
    | exact wpAny_bind (m := Builtin.Tuple.tupleExact _) (wpAny_newObj_type (wpAny_bind (wpAny_pure (wpAny_pure ⟨_, rfl, wpAny_pure h⟩))) hok)
    | exact wpAny_bind (wpAny_bind (m := Builtin.Tuple.tupleExact _) (wpAny_newObj_type (wpAny_pure (wpAny_pure ⟨_, rfl, wpAny_pure h⟩)) hok))
    | exact wpAny_bind (wpAny_bind (m := Builtin.Tuple.tupleExact _) (wpAny_newObj_type (wpAny_pure ⟨_, rfl, wpAny_pure h⟩) hok))
end
section
variable {X : Cx} {a b c : Expr} {fa fb fc : Fe} {pos p2 : Pos} {nl : Nat} {G : List Str} {x : Str} {p : Pos}
/-! ### slices -/
def cutD (xs : List PyData) (lo hi : Option Int) : List PyData := (xs.drop (HT.sIx xs.length 0 lo)).take (HT.sIx xs.length xs.length hi - HT.sIx xs.length 0 lo)
theorem RpA.cut {H : Hp} {ds : List PyData} {vs : List V} (r : RpA H ds vs) (lo hi : Option Int) : RpA H (cutD ds lo hi) (cutV vs lo hi) := by
  unfold cutD cutV
  rw [r.length]
  exact (r.drop _).take _
def rSlW (K : PySem.W.Frag) : V → Option Int → Option Int → Hp → VK → Prop := fun x lo hi H Q => ∃ a xs, x = .ref a ∧ SqT K H a xs ∧ (HT.sIx xs.length 0 lo = 0 ∧ HT.sIx xs.length xs.length hi = xs.length) ∧ Q (.ref a) H
theorem sl_whole : SlR X (rSlW X.K) := by
  intro pins s σ H x v vl vu lo hi sl Q I rx hs pl pu h
  obtain ⟨a, xs, rfl, hx, hw, q⟩ := h
  cases rx
  obtain ⟨its, r, ht, hz⟩ := I.tuple hx
  have hlen : its.toArray.size = xs.length := by rw [List.size_toArray]; exact r.length.symm
  refine ⟨"tuple", _, PyProof.Rows.slot_tuple_getitem.lookup, ht.typeIs, ?_⟩
  exact getItem_tuple_whole ht hs pl pu (by rw [hlen]; exact hw) ⟨.ref a, H, I, rfl, q⟩
def dSl : PyData → Option Int → Option Int → R PyData
  | .tuple xs, lo, hi => .ok (.tuple (cutD xs lo hi))
  | .list xs, lo, hi => .ok (.list (cutD xs lo hi))
  | _, _, _ => .no
abbrev Fo := Rho → R (Option Int)
def oNone : Fo := fun _ => .ok none
def asI : PyData → R Int
  | .int i => .ok i
  | _ => .no
def oSome (f : Fe) : Fo := fun ρ => f ρ >>= fun d => asI d >>= fun i => .ok (some i)
def rdPO (X : Cx) (f : Fo) : TO := fun σ H Q => ∃ ρ, Sl H σ ρ ∧ match f ρ with
  | .ok o => ∀ H', Same H H' → Q o H'
  | .ex c => Xw X c
  | .no => False
def EvO (X : Cx) (e : Option Expr) (f : Fo) : Prop := PO X e (rdPO X f)
structure Z.EvO (X : Cx) (e : Option Expr) (f : Fo) : Prop where
  un : D2.EvO X e f
theorem eo_none : EvO X none oNone := fun pins s σ H Q I ⟨ρ, sl, q⟩ => po_none pins s σ H Q I (q H (Same.refl _))
theorem Z.eo_none  : Z.EvO X none oNone :=
  ⟨D2.eo_none⟩
theorem tgt_o (Q : Option Int → Hp → Prop) : Tgt X (fun (r : R (Option Int)) H => match r with | .ok b => ∀ H', Same H H' → Q b H' | .ex c => Xw X c | .no => False) where
  mono := fun r H H' h s => by
    cases r with
    | ok d => exact fun H2 s2 => h H2 (s.trans s2)
    | ex c => exact h
    | no => exact h
  ex := fun c H h => h
  no := fun H h => h
theorem eo_some {e : Expr} {f : Fe} (h : EvE X e f) : EvO X (some e) (oSome f) := fun pins s σ H Q I q =>
  po_some h pins s σ H Q I ((bind_e (P := PRp) (f := f) (k := fun _ d => asI d >>= fun i => .ok (some i)) (tgt_o (X := X) Q) q).post fun v H1 ⟨_, d, _, _, p, q1⟩ => by
    cases d with
    | int i =>
      have e1 : v = .int i := by simpa only [Rp] using p
      exact ⟨i, e1, q1 H1 (Same.refl _)⟩
    | _ => exact q1.elim)
theorem Z.eo_some {e : Expr} {f : Fe} (h : Z.EvE X e f) : Z.EvO X (some e) (oSome f) :=
  ⟨D2.eo_some h.un⟩
def eSl (f : Fe) (lo hi : Fo) : Fe := fun ρ => f ρ >>= fun d => lo ρ >>= fun l => hi ρ >>= fun u => dSl d l u
theorem bind_o {β : Type} {Tg : R β → Hp → Prop} {σ : St} {H : Hp} (t : Tgt X Tg) {f : Fo} {k : Rho → Option Int → R β} (h : ∃ ρ, Sl H σ ρ ∧ Tg (f ρ >>= k ρ) H) : rdPO X f σ H (fun o H1 => ∃ ρ, Sl H1 σ ρ ∧ Same H H1 ∧ Tg (k ρ o) H1) := by
  obtain ⟨ρ, sl, q⟩ := h
  refine ⟨ρ, sl, ?_⟩
  cases e : f ρ with
  | ok d => rw [e] at q; exact fun H1 s => ⟨ρ, sl.mono s, s, t.mono _ _ _ q s⟩
  | ex c => rw [e] at q; exact t.ex _ _ q
  | no => rw [e] at q; exact (t.no _ q).elim
theorem rdPO.post {f : Fo} {σ : St} {H : Hp} {Q Q' : Option Int → Hp → Prop} (h : rdPO X f σ H Q) (i : ∀ b H', Q b H' → Q' b H') : rdPO X f σ H Q' := by
  obtain ⟨ρ, sl, q⟩ := h
  refine ⟨ρ, sl, ?_⟩
  cases e : f ρ with
  | ok d => rw [e] at q; exact fun H' s => i _ _ (q H' s)
  | ex c => rw [e] at q; exact q
  | no => rw [e] at q; exact q
theorem ev_slice {lo hi : Option Expr} {fl fh : Fo} (ha : EvB X a fa) (hl : EvO X lo fl) (hu : EvO X hi fh) : EvE X (.Subscript a (.Slice lo hi none p2) pos) (eSl fa fl fh) := by
  refine EvF.e (PE.imp (pe_slice (sl_whole.or (sl_tup.or sl_list)) ha hl hu) fun σ H Q h => ?_)
  refine (bind_e (P := PBp) (f := fa) (k := fun ρ d => fl ρ >>= fun l => fh ρ >>= fun u => dSl d l u) (tgt_r (X := X) dn_f Q) h).post fun v H1 ⟨ρ1, d1, sl1, _, p1, q1⟩ => ?_
  refine (bind_o (f := fl) (k := fun ρ l => fh ρ >>= fun u => dSl d1 l u) (tgt_r (X := X) dn_f Q) ⟨ρ1, sl1, q1⟩).post fun l H2 ⟨ρ2, sl2, s2, q2⟩ => ?_
  refine (bind_o (f := fh) (k := fun ρ u => dSl d1 l u) (tgt_r (X := X) dn_f Q) ⟨ρ2, sl2, q2⟩).post fun u H3 ⟨ρ3, sl3, s3, q3⟩ => ?_
  have p3 : BRp H3 d1 v := BRp.mono (BRp.mono p1 s2) s3
  cases d1 with
  | tuple xs =>
    obtain ⟨a', vs, rfl, ha', r⟩ := brp_tuple p3
    have hlen := r.length
    by_cases hw : HT.sIx vs.length 0 l = 0 ∧ HT.sIx vs.length vs.length u = vs.length
    · refine .inl ⟨a', vs, rfl, SqT.of ha', hw, q3 _ H3 (Same.refl _) (.inl ?_)⟩
      have e : cutD xs l u = xs := by
        unfold cutD
        rw [← hlen, hw.1, hw.2]
        simp [hlen]
      rw [e]
      simp only [Rp]
      exact ⟨a', vs, rfl, ha', r⟩
    · exact .inr (.inl ⟨a', vs, rfl, SqT.of ha', hw, fun p hp => q3 _ _ (same_up hp _) (.inl (rp_new_tup hp (r.cut l u)))⟩)
  | list xs =>
    obtain ⟨a', vs, rfl, ha', r⟩ := brp_list (K := X.K) p3
    exact .inr (.inr ⟨a', vs, rfl, ha', fun p hp => q3 _ _ (same_up hp _) (.inr (nrp_new_lst hp (r.cut l u)))⟩)
  | _ => exact q3.elim
theorem Z.ev_slice {lo hi : Option Expr} {fl fh : Fo} (ha : Z.EvB X a fa) (hl : Z.EvO X lo fl) (hu : Z.EvO X hi fh) : Z.EvE X (.Subscript a (.Slice lo hi none p2) pos) (eSl fa fl fh) :=
  ⟨D2.ev_slice ha.un hl.un hu.un⟩
/-- t[::-1] -/
def dRev : PyData → R PyData
  | .tuple xs => .ok (.tuple xs.reverse)
  | _ => .no
theorem ev_rev {j : Nat} {q1 q2 : Pos} (ha : EvB X a fa) : EvE X (.Subscript a (.Slice none none (some (.UnaryOp .USub (.Constant (.int 1) j q1) q2)) p2) pos) (e1 dRev fa) := by
  intro pins s σ H Q I h
  refine Subscript_ (thn (ha pins s σ H _ I (bind_e (P := PBp) (f := fa) (k := fun _ d => dRev d) (tgt_r (X := X) dn_r Q) h)) fun v s1 ⟨x, H1, I1, r1, ρ1, d1, sl1, _, p1, q1'⟩ => ?_)
  refine wpAny_Slice ?_
  rw [evalPart_none]
  refine wpAny_pure (wpAny_pure ?_)
  rw [evalPart_some]
  refine UnaryOp_ (wpAny_Constant_int (neg_int ?_))
  cases d1 with
  | tuple xs =>
    obtain ⟨a', vs, rfl, ha', r⟩ := brp_tuple p1
    cases r1
    have I2 : Inv X pins σ H1 { s1 with heap := s1.heap.push { cls := .type "slice", data := .fields #[.none, .none, .int (-1) (s1.toks + 1)] }, toks := s1.toks + 1 + 1 } := I1.kept fun b ob q => Heap.get?_push_of_some _ q
    obtain ⟨its, rv, ht, hz⟩ := I2.tuple (SqT.of (K := X.K) ha')
    have hlen : its.toArray.size = vs.length := by rw [List.size_toArray]; exact rv.length.symm
    refine tail_any (ops := [.ref a', .ref s1.heap.objs.size]) ht.typeIs PyProof.Rows.slot_tuple_getitem.lookup ?_ (by with_unfolding_all rfl)
    refine getItem_tuple_rev ht ⟨_, Heap.get?_push_size _ rfl, rfl, rfl⟩ ?_ (by rw [hlen]; exact hz)
    refine ⟨.ref _, _, I2.laid (t' := s1.toks + 1 + 1) (o := .tup vs.reverse) (fun b ob q => Heap.get?_push_of_some _ q) (Nat.le_refl _) ?_, rfl, q1' _ _ (same_up (I2.hok.fresh (Nat.le_refl _)) _) (rp_new_tup (I2.hok.fresh (Nat.le_refl _)) r.reverse)⟩
    exact ⟨by rw [List.length_reverse]; exact hz, _, rv.reverse, IsTup.new _ _⟩
  | _ => exact q1'.elim
theorem Z.ev_rev {j : Nat} {q1 q2 : Pos} (ha : Z.EvB X a fa) : Z.EvE X (.Subscript a (.Slice none none (some (.UnaryOp .USub (.Constant (.int 1) j q1) q2)) p2) pos) (e1 dRev fa) :=
  ⟨D2.ev_rev ha.un⟩
end
end D2
set_option Elab.async false
set_option linter.all false
set_option maxRecDepth 100000
set_option maxHeartbeats 4000000
namespace D2
open PySem PySem.Spec PyProof.Rows L2
section
variable {X : Cx} {a b c : Expr} {fa fb fc : Fe} {pos p2 : Pos} {nl : Nat} {G : List Str} {x : Str} {p : Pos}
/-! ### len, int, str, min, max, tuple, list -/
theorem call_lenR : CallR X (.builtin "len") (fun xs H Q => ∃ a kvs, xs = [V.ref a] ∧ Rd H a (.dK kvs) ∧ Q (.int kvs.length) H) := by
  intro pins s σ H xs us Q I r h
  obtain ⟨a, kvs, rfl, ha, q⟩ := h
  obtain ⟨u, rfl, ru⟩ := vals1 r
  cases ru
  exact d_len I ha fun t s' I' => ⟨.int kvs.length, H, I', ⟨t, rfl⟩, q⟩
theorem RpK.length {H : Hp} : ∀ {kvs : List (PyData × PyData)} {ks : List (Key × V)}, RpK H kvs ks → ks.length = kvs.length
  | [], ks, h => by simp only [RpK] at h; rw [h]; rfl
  | kd :: kvs, ks, h => by
    simp only [RpK] at h
    obtain ⟨x, v, r, rfl, _, t⟩ := h
    rw [List.length_cons, List.length_cons, RpK.length t]
def dLen : PyData → R PyData
  | .list ds => .ok (.int ds.length)
  | .tuple ds => .ok (.int ds.length)
  | .dict kvs => .ok (.int kvs.length)
  | .str y => if y.length ≤ sizeLine then .ok (.int y.length) else .no
  | _ => .no
theorem ev_len (T : Tb X nl G) (j : Nat) (hG : G[j]? = some ("len" : Str)) (hm : X.mg "len" = none) (ha : EvB X a fa) (he : notStar a = true := by rfl) : EvE X (.Call (.Name "len" p) [a] [] pos) (e1 dLen fa) := by
  refine blt1 T j hG hm dn_r PySem.boot_len (call_len_seq.or (call_len_str.or call_lenR)) (fun H x d Q hx q => ?_) ha he
  cases d with
  | list ds =>
    obtain ⟨a', vs, rfl, h, r⟩ := brp_list (K := X.K) hx
    exact .inl ⟨a', vs, rfl, .inl h, by rw [r.length]; exact q _ H (Same.refl _) rp_int⟩
  | tuple ds =>
    obtain ⟨a', vs, rfl, h, r⟩ := brp_tuple hx
    exact .inl ⟨a', vs, rfl, .inr (SqT.of h), by rw [r.length]; exact q _ H (Same.refl _) rp_int⟩
  | dict kvs =>
    obtain ⟨a', vs, rfl, h, r⟩ := brp_dict hx
    exact .inr (.inr ⟨a', vs, rfl, h, by rw [r.length]; exact q _ H (Same.refl _) rp_int⟩)
  | str y =>
    simp only [dLen] at q
    split at q
    · rename_i hz; exact .inr (.inl ⟨y, by rw [brp_str hx], hz, q _ H (Same.refl _) rp_int⟩)
    · exact q.elim
  | _ => exact q.elim
theorem Z.ev_len (T : Tb X nl G) (j : Nat) (hG : G[j]? = some ("len" : Str)) (hm : X.mg "len" = none) (ha : Z.EvB X a fa) (he : notStar a = true := by rfl) : Z.EvE X (.Call (.Name "len" p) [a] [] pos) (e1 dLen fa) :=
  ⟨D2.ev_len T j hG hm ha.un he⟩
def dInt : PyData → R PyData
  | .int i => .ok (.int i)
  | .bool k => .ok (.int (if k then 1 else 0))
  | _ => .no
theorem ev_int1 (T : Tb X nl G) (j : Nat) (hG : G[j]? = some ("int" : Str)) (hm : X.mg "int" = none) (ha : EvB X a fa) (he : notStar a = true := by rfl) : EvE X (.Call (.Name "int" p) [a] [] pos) (e1 dInt fa) := by
  refine typ1 T j hG hm dn_r PyProof.Rows.boot_int call_int1 (fun H x d Q hx q => ?_) ha he
  cases d with
  | int i => exact .inl ⟨i, by rw [brp_int hx], q _ H (Same.refl _) rp_int⟩
  | bool k => exact .inr ⟨k, by rw [brp_bool hx], q _ H (Same.refl _) rp_int⟩
  | _ => exact q.elim
theorem Z.ev_int1 (T : Tb X nl G) (j : Nat) (hG : G[j]? = some ("int" : Str)) (hm : X.mg "int" = none) (ha : Z.EvB X a fa) (he : notStar a = true := by rfl) : Z.EvE X (.Call (.Name "int" p) [a] [] pos) (e1 dInt fa) :=
  ⟨D2.ev_int1 T j hG hm ha.un he⟩
def dStr : PyData → R PyData
  | .int i => if i.natAbs.log2 < 1920 then .ok (.str (toString i)) else .no
  | _ => .no
theorem ev_str1 (T : Tb X nl G) (j : Nat) (hG : G[j]? = some ("str" : Str)) (hm : X.mg "str" = none) (ha : EvB X a fa) (he : notStar a = true := by rfl) : EvE X (.Call (.Name "str" p) [a] [] pos) (e1 dStr fa) := by
  refine typ1 T j hG hm dn_r PyProof.Rows.boot_str call_str_int (fun H x d Q hx q => ?_) ha he
  cases d with
  | int i =>
    simp only [dStr] at q
    split at q
    · rename_i hz; exact ⟨i, by rw [brp_int hx], hz, q _ H (Same.refl _) rp_str⟩
    · exact q.elim
  | _ => exact q.elim
theorem Z.ev_str1 (T : Tb X nl G) (j : Nat) (hG : G[j]? = some ("str" : Str)) (hm : X.mg "str" = none) (ha : Z.EvB X a fa) (he : notStar a = true := by rfl) : Z.EvE X (.Call (.Name "str" p) [a] [] pos) (e1 dStr fa) :=
  ⟨D2.ev_str1 T j hG hm ha.un he⟩
def dMin : PyData → PyData → R PyData
  | .int i, .int j => .ok (.int (if j < i then j else i))
  | _, _ => .no
def dMax : PyData → PyData → R PyData
  | .int i, .int j => .ok (.int (if j > i then j else i))
  | _, _ => .no
theorem ev_min (T : Tb X nl G) (j : Nat) (hG : G[j]? = some ("min" : Str)) (hm : X.mg "min" = none) (ha : EvB X a fa) (hb : EvB X b fb) (he : notStar a = true := by rfl) (he2 : notStar b = true := by rfl) :
    EvE X (.Call (.Name "min" p) [a, b] [] pos) (e2 dMin fa fb) := by
  refine blt2 T j hG hm dn_r PyProof.Rows.boot_min (call_min2 T.calm) (fun H x y d e Q hx hy q => ?_) ha hb he he2
  cases d with
  | int i =>
    cases e with
    | int j => exact ⟨i, j, by rw [brp_int hx, brp_int hy], q _ H (Same.refl _) rp_int⟩
    | _ => exact q.elim
  | _ => exact q.elim
theorem Z.ev_min (T : Tb X nl G) (j : Nat) (hG : G[j]? = some ("min" : Str)) (hm : X.mg "min" = none) (ha : Z.EvB X a fa) (hb : Z.EvB X b fb) (he : notStar a = true := by rfl) (he2 : notStar b = true := by rfl) : Z.EvE X (.Call (.Name "min" p) [a, b] [] pos) (e2 dMin fa fb) :=
  ⟨D2.ev_min T j hG hm ha.un hb.un he he2⟩
theorem ev_max (T : Tb X nl G) (j : Nat) (hG : G[j]? = some ("max" : Str)) (hm : X.mg "max" = none) (ha : EvB X a fa) (hb : EvB X b fb) (he : notStar a = true := by rfl) (he2 : notStar b = true := by rfl) :
    EvE X (.Call (.Name "max" p) [a, b] [] pos) (e2 dMax fa fb) := by
  refine blt2 T j hG hm dn_r PyProof.Rows.boot_max (call_max2 T.calm) (fun H x y d e Q hx hy q => ?_) ha hb he he2
  cases d with
  | int i =>
    cases e with
    | int j => exact ⟨i, j, by rw [brp_int hx, brp_int hy], q _ H (Same.refl _) rp_int⟩
    | _ => exact q.elim
  | _ => exact q.elim
theorem Z.ev_max (T : Tb X nl G) (j : Nat) (hG : G[j]? = some ("max" : Str)) (hm : X.mg "max" = none) (ha : Z.EvB X a fa) (hb : Z.EvB X b fb) (he : notStar a = true := by rfl) (he2 : notStar b = true := by rfl) : Z.EvE X (.Call (.Name "max" p) [a, b] [] pos) (e2 dMax fa fb) :=
  ⟨D2.ev_max T j hG hm ha.un hb.un he he2⟩
def dTuple : PyData → R PyData
  | .list ds => .ok (.tuple ds)
  | .tuple ds => .ok (.tuple ds)
  | _ => .no
theorem ev_tuple (T : Tb X nl G) (j : Nat) (hG : G[j]? = some ("tuple" : Str)) (hm : X.mg "tuple" = none) (ha : EvB X a fa) (he : notStar a = true := by rfl) : EvE X (.Call (.Name "tuple" p) [a] [] pos) (e1 dTuple fa) := by
  refine typ1 T j hG hm dn_r PyProof.Rows.boot_tuple call_tuple_of (fun H x d Q hx q => ?_) ha he
  cases d with
  | list ds =>
    obtain ⟨a', vs, rfl, h, r⟩ := brp_list (K := X.K) hx
    exact ⟨a', vs, rfl, .inl ⟨h, fun l hl => q _ _ (same_up hl _) (rp_new_tup hl r)⟩⟩
  | tuple ds =>
    obtain ⟨a', vs, rfl, h, r⟩ := brp_tuple hx
    exact ⟨a', vs, rfl, .inr ⟨SqT.of h, q _ H (Same.refl _) (by simp only [Rp]; exact ⟨a', vs, rfl, h, r⟩)⟩⟩
  | _ => exact q.elim
theorem Z.ev_tuple (T : Tb X nl G) (j : Nat) (hG : G[j]? = some ("tuple" : Str)) (hm : X.mg "tuple" = none) (ha : Z.EvB X a fa) (he : notStar a = true := by rfl) : Z.EvE X (.Call (.Name "tuple" p) [a] [] pos) (e1 dTuple fa) :=
  ⟨D2.ev_tuple T j hG hm ha.un he⟩
def dList : PyData → R PyData
  | .list ds => .ok (.list ds)
  | .tuple ds => .ok (.list ds)
  | _ => .no
theorem evn_list (T : Tb X nl G) (j : Nat) (hG : G[j]? = some ("list" : Str)) (hm : X.mg "list" = none) (ha : EvB X a fa) (he : notStar a = true := by rfl) : EvN X (.Call (.Name "list" p) [a] [] pos) (e1 dList fa) := by
  refine typ1 T j hG hm dn_n PyProof.Rows.boot_list call_list_of (fun H x d Q hx q => ?_) ha he
  cases d with
  | list ds =>
    obtain ⟨a', vs, rfl, h, r⟩ := brp_list (K := X.K) hx
    exact ⟨a', vs, rfl, .inl h, fun l hl => q _ _ (same_up hl _) (nrp_new_lst hl r)⟩
  | tuple ds =>
    obtain ⟨a', vs, rfl, h, r⟩ := brp_tuple hx
    exact ⟨a', vs, rfl, .inr (SqT.of h), fun l hl => q _ _ (same_up hl _) (nrp_new_lst hl r)⟩
  | _ => exact q.elim
theorem Z.evn_list (T : Tb X nl G) (j : Nat) (hG : G[j]? = some ("list" : Str)) (hm : X.mg "list" = none) (ha : Z.EvB X a fa) (he : notStar a = true := by rfl) : Z.EvN X (.Call (.Name "list" p) [a] [] pos) (e1 dList fa) :=
  ⟨D2.evn_list T j hG hm ha.un he⟩
/-! ### isinstance -/
inductive Ty where
  | int | bool | str | list | tuple
def Ty.nm : Ty → String
  | .int => "int"
  | .bool => "bool"
  | .str => "str"
  | .list => "list"
  | .tuple => "tuple"
def isi : Ty → PyData → Bool
  | .int, .int _ => true
  | .int, .bool _ => true
  | .bool, .bool _ => true
  | .str, .str _ => true
  | .list, .list _ => true
  | .tuple, .tuple _ => true
  | _, _ => false
def dIsi (T : Ty) : PyData → R PyData
  | .dict _ => .no
  | d => .ok (.bool (isi T d))
theorem call_isi : CallR X (.builtin "isinstance") (fun xs H Q => ∃ x t T k, xs = [x, .ty T] ∧ TyOf X.K H x t ∧ PySem.W.kitOne X.K t (.type T) = some k ∧ Q (.bl k) H) := by
  intro pins s σ H xs us Q I r h
  obtain ⟨x, t, T, k, rfl, ty, e, q⟩ := h
  obtain ⟨u, w', rfl, rx, ry⟩ := vals2 r
  cases ry
  exact isinst_ok I rx ty e fun tk => ⟨.bl k, H, I.tok tk, rfl, q⟩
theorem ty_of {K : PySem.W.Frag} {H : Hp} {d : PyData} {v : V} (h : BRp H d v) : (∃ kvs, d = .dict kvs) ∨ ∃ t, TyOf K H v t ∧ ∀ T : Ty, PySem.W.kitOne K t (.type T.nm) = some (isi T d) := by
  cases d with
  | none => rw [brp_none h]; exact .inr ⟨_, .non, fun T => by cases T <;> rfl⟩
  | bool k => rw [brp_bool h]; exact .inr ⟨_, .bl k, fun T => by cases T <;> rfl⟩
  | int i => rw [brp_int h]; exact .inr ⟨_, .int i, fun T => by cases T <;> rfl⟩
  | str y => rw [brp_str h]; exact .inr ⟨_, .str y, fun T => by cases T <;> rfl⟩
  | tuple ds => obtain ⟨a, vs, rfl, ha, _⟩ := brp_tuple h; exact .inr ⟨_, .tup ha, fun T => by cases T <;> rfl⟩
  | list ds =>
    obtain ⟨a, vs, rfl, ha, _⟩ := brp_lst h
    rcases ha with ha | ⟨o, ha⟩
    · exact .inr ⟨_, .lst ha, fun T => by cases T <;> rfl⟩
    · exact .inr ⟨_, .frz ha, fun T => by cases T <;> rfl⟩
  | dict kvs => exact .inl ⟨kvs, rfl⟩
theorem ev_isi (ty : Ty) {y : Str} {py : Pos} (T : Tb X nl G) (j : Nat) (hG : G[j]? = some ("isinstance" : Str)) (hm : X.mg "isinstance" = none) (hy : bootBuiltins y = some (.type ty.nm)) (T' : Tb X nl G) (j' : Nat) (hG' : G[j']? = some y) (hm' : X.mg y = none) (ha : EvB X a fa)
    (he : notStar a = true := by rfl) : EvE X (.Call (.Name "isinstance" p) [a, .Name y py] [] pos) (e1 (dIsi ty) fa) := by
  have g := T.gl _ (List.mem_of_getElem? hG)
  have g' := T.gl _ (List.mem_of_getElem? hG')
  have hp : PE X (.Name y py) (tC (.ty ty.nm)) := pe_bltn g'.1 hm' hy rfl g'.2.2 g'.2.1
  refine PE.imp (pe_callB call_isi g.1 hm PyProof.Rows.boot_isinstance (pa_cons ha (pa_cons hp pa_nil) (star_cons he)) g.2.2 g.2.1 (star_cons he)) fun σ H Q h => ?_
  refine (bind_e (P := PBp) (f := fa) (k := fun _ d => dIsi ty d) (tgt_r (X := X) dn_r Q) h).post fun v H1 ⟨_, d, _, _, p1, q1⟩ => ?_
  show ∃ x t T k, _ ∧ _ ∧ _ ∧ _
  rcases ty_of (K := X.K) p1 with ⟨kvs, rfl⟩ | ⟨t, ht, hk⟩
  · exact q1.elim
  · refine ⟨v, t, ty.nm, isi ty d, rfl, ht, hk ty, ?_⟩
    cases d with
    | dict kvs => exact q1.elim
    | _ => exact q1 _ H1 (Same.refl _) rp_bool
theorem Z.ev_isi (ty : Ty) {y : Str} {py : Pos} (T : Tb X nl G) (j : Nat) (hG : G[j]? = some ("isinstance" : Str)) (hm : X.mg "isinstance" = none) (hy : bootBuiltins y = some (.type ty.nm)) (T' : Tb X nl G) (j' : Nat) (hG' : G[j']? = some y) (hm' : X.mg y = none) (ha : Z.EvB X a fa) (he : notStar a = true := by rfl) : Z.EvE X (.Call (.Name "isinstance" p) [a, .Name y py] [] pos) (e1 (dIsi ty) fa) :=
  ⟨D2.ev_isi ty T j hG hm hy T' j' hG' hm' ha.un he⟩
theorem ev_isi_int {py : Pos} (T : Tb X nl G) (j : Nat) (hG : G[j]? = some ("isinstance" : Str)) (hm : X.mg "isinstance" = none) (T' : Tb X nl G) (j' : Nat) (hG' : G[j']? = some ("int" : Str)) (hm' : X.mg "int" = none) (ha : EvB X a fa)
    (he : notStar a = true := by rfl) : EvE X (.Call (.Name "isinstance" p) [a, .Name "int" py] [] pos) (e1 (dIsi .int) fa) := ev_isi .int T j hG hm PyProof.Rows.boot_int T' j' hG' hm' ha he
theorem Z.ev_isi_int {py : Pos} (T : Tb X nl G) (j : Nat) (hG : G[j]? = some ("isinstance" : Str)) (hm : X.mg "isinstance" = none) (T' : Tb X nl G) (j' : Nat) (hG' : G[j']? = some ("int" : Str)) (hm' : X.mg "int" = none) (ha : Z.EvB X a fa) (he : notStar a = true := by rfl) : Z.EvE X (.Call (.Name "isinstance" p) [a, .Name "int" py] [] pos) (e1 (dIsi .int) fa) :=
  ⟨D2.ev_isi_int T j hG hm T' j' hG' hm' ha.un he⟩
theorem ev_isi_bool {py : Pos} (T : Tb X nl G) (j : Nat) (hG : G[j]? = some ("isinstance" : Str)) (hm : X.mg "isinstance" = none) (T' : Tb X nl G) (j' : Nat) (hG' : G[j']? = some ("bool" : Str)) (hm' : X.mg "bool" = none) (ha : EvB X a fa)
    (he : notStar a = true := by rfl) : EvE X (.Call (.Name "isinstance" p) [a, .Name "bool" py] [] pos) (e1 (dIsi .bool) fa) := ev_isi .bool T j hG hm PyProof.Rows.boot_bool T' j' hG' hm' ha he
theorem Z.ev_isi_bool {py : Pos} (T : Tb X nl G) (j : Nat) (hG : G[j]? = some ("isinstance" : Str)) (hm : X.mg "isinstance" = none) (T' : Tb X nl G) (j' : Nat) (hG' : G[j']? = some ("bool" : Str)) (hm' : X.mg "bool" = none) (ha : Z.EvB X a fa) (he : notStar a = true := by rfl) : Z.EvE X (.Call (.Name "isinstance" p) [a, .Name "bool" py] [] pos) (e1 (dIsi .bool) fa) :=
  ⟨D2.ev_isi_bool T j hG hm T' j' hG' hm' ha.un he⟩
theorem ev_isi_str {py : Pos} (T : Tb X nl G) (j : Nat) (hG : G[j]? = some ("isinstance" : Str)) (hm : X.mg "isinstance" = none) (T' : Tb X nl G) (j' : Nat) (hG' : G[j']? = some ("str" : Str)) (hm' : X.mg "str" = none) (ha : EvB X a fa)
    (he : notStar a = true := by rfl) : EvE X (.Call (.Name "isinstance" p) [a, .Name "str" py] [] pos) (e1 (dIsi .str) fa) := ev_isi .str T j hG hm PyProof.Rows.boot_str T' j' hG' hm' ha he
theorem Z.ev_isi_str {py : Pos} (T : Tb X nl G) (j : Nat) (hG : G[j]? = some ("isinstance" : Str)) (hm : X.mg "isinstance" = none) (T' : Tb X nl G) (j' : Nat) (hG' : G[j']? = some ("str" : Str)) (hm' : X.mg "str" = none) (ha : Z.EvB X a fa) (he : notStar a = true := by rfl) : Z.EvE X (.Call (.Name "isinstance" p) [a, .Name "str" py] [] pos) (e1 (dIsi .str) fa) :=
  ⟨D2.ev_isi_str T j hG hm T' j' hG' hm' ha.un he⟩
theorem ev_isi_tuple {py : Pos} (T : Tb X nl G) (j : Nat) (hG : G[j]? = some ("isinstance" : Str)) (hm : X.mg "isinstance" = none) (T' : Tb X nl G) (j' : Nat) (hG' : G[j']? = some ("tuple" : Str)) (hm' : X.mg "tuple" = none) (ha : EvB X a fa)
    (he : notStar a = true := by rfl) : EvE X (.Call (.Name "isinstance" p) [a, .Name "tuple" py] [] pos) (e1 (dIsi .tuple) fa) := ev_isi .tuple T j hG hm PyProof.Rows.boot_tuple T' j' hG' hm' ha he
theorem Z.ev_isi_tuple {py : Pos} (T : Tb X nl G) (j : Nat) (hG : G[j]? = some ("isinstance" : Str)) (hm : X.mg "isinstance" = none) (T' : Tb X nl G) (j' : Nat) (hG' : G[j']? = some ("tuple" : Str)) (hm' : X.mg "tuple" = none) (ha : Z.EvB X a fa) (he : notStar a = true := by rfl) : Z.EvE X (.Call (.Name "isinstance" p) [a, .Name "tuple" py] [] pos) (e1 (dIsi .tuple) fa) :=
  ⟨D2.ev_isi_tuple T j hG hm T' j' hG' hm' ha.un he⟩
/-! ### all -/
def allB : List PyData → Option Bool
  | [] => some true
  | .bool k :: ds => (allB ds).map fun r => k && r
  | _ => none
def dAll : PyData → R PyData
  | .list ds => match allB ds with
    | some k => .ok (.bool k)
    | none => .no
  | _ => .no
end
/-! ### what is walked -/
section
variable {X : Cx} {tg a b c : Expr} {fa fb fc : Fe} {pos p2 : Pos} {nl : Nat} {G : List Str} {x : Str} {p : Pos} {fs : Rho → R (List PyData)} {es : List Expr}
def seqD : PyData → R (List PyData)
  | .list ds => .ok ds
  | .tuple ds => .ok ds
  | _ => .no
def iSeq (f : Fe) : Rho → R (List PyData) := fun ρ => f ρ >>= seqD
theorem itd_list {K : PySem.W.Frag} {a : Addr} {ds : List PyData} : ItD (Itl K a) (fun H => ∃ o vs, H a = some (.frz o (.lst vs)) ∧ RpA H ds vs) ds where
  go := fun i H ⟨o, vs, h, r⟩ hi => by
    have hl := r.length
    exact ⟨vs, vs[i], .inl (.inr ⟨o, h⟩), List.getElem?_eq_getElem (by omega)⟩
  yld := fun i H x H' d ⟨o, vs, h, r⟩ hd ⟨e, y⟩ => by
    subst e
    obtain ⟨v, e1, p⟩ := r.get hd
    have := y vs (.inl (.inr ⟨o, h⟩))
    rw [e1] at this
    cases this
    exact ⟨Same.refl _, p⟩
  stop := fun i H ⟨o, vs, h, r⟩ hi => ⟨vs, .inl (.inr ⟨o, h⟩), by rw [r.length]; exact hi⟩
theorem itd_tup {K : PySem.W.Frag} {a : Addr} {ds : List PyData} : ItD (Itt K a) (fun H => ∃ vs, H a = some (.tup vs) ∧ RpA H ds vs) ds where
  go := fun i H ⟨vs, h, r⟩ hi => by
    have hl := r.length
    exact ⟨vs, vs[i], SqT.of h, List.getElem?_eq_getElem (by omega)⟩
  yld := fun i H x H' d ⟨vs, h, r⟩ hd ⟨e, y⟩ => by
    subst e
    obtain ⟨v, e1, p⟩ := r.get hd
    have := y vs (SqT.of h)
    rw [e1] at this
    cases this
    exact ⟨Same.refl _, p⟩
  stop := fun i H ⟨vs, h, r⟩ hi => ⟨vs, SqT.of h, by rw [r.length]; exact hi⟩
def iSq (K : PySem.W.Frag) (tl : TE) : TI := fun σ H R => tl σ H fun x H1 => ∃ a, x = .ref a ∧ ((∃ xs, SqL K H1 a xs ∧ R (Itl K a) H1) ∨ ∃ xs, SqT K H1 a xs ∧ R (Itt K a) H1)
theorem pi_sq {l : Expr} {tl : TE} (hl : PE X l tl) : PI X tg l (iSq X.K tl) := by
  intro pins s σ H R I h
  refine thn (hl pins s σ H _ I h) fun v s1 ⟨x, H1, I1, r1, q1⟩ => ?_
  obtain ⟨a, e, q⟩ := q1
  subst e
  cases r1
  rcases q with ⟨xs, hq, q⟩ | ⟨xs, hq, q⟩
  · obtain ⟨its, rv, p, hz⟩ := I1.list hq
    refine wpAny_pyIter_list p.isList ?_
    refine ⟨s1.heap.objs.size, [s1.heap.objs.size], _, _, H1, rfl, I1.kept (t' := s1.toks) fun b o e => Heap.get?_push_of_some _ e, turn_list a _, ⟨_, Heap.get?_push_size _ rfl, rfl, rfl⟩, fun b hb => ?_, q⟩
    have e : b = s1.heap.objs.size := by simpa using hb
    subst e
    exact I1.fpOk (Nat.le_refl _) (I1.hok.fresh (Nat.le_refl _))
  · obtain ⟨its, rv, p, hz⟩ := I1.tuple hq
    refine wpAny_pyIter_tuple (show s1.heap.IsTuple a its.toArray from p) ?_
    refine ⟨s1.heap.objs.size, [s1.heap.objs.size], _, _, H1, rfl, I1.kept (t' := s1.toks) fun b o e => Heap.get?_push_of_some _ e, turn_tuple a _, ⟨_, Heap.get?_push_size _ rfl, rfl, rfl⟩, fun b hb => ?_, q⟩
    have e : b = s1.heap.objs.size := by simpa using hb
    subst e
    exact I1.fpOk (Nat.le_refl _) (I1.hok.fresh (Nat.le_refl _))
theorem tgt_i (Rk : It → Hp → Prop) : Tgt X (fun (r : R (List PyData)) H => match r with | .ok ds => ∀ J H', Same H H' → (∃ Gd, ItD J Gd ds ∧ Sta H' (fun _ => False) Gd) → Rk J H' | .ex c => Xw X c | .no => False) where
  mono := fun r H H' h s => by
    cases r with
    | ok d => exact fun J H2 s2 => h J H2 (s.trans s2)
    | ex c => exact h
    | no => exact h
  ex := fun c H h => h
  no := fun H h => h
theorem ei_seq (ha : EvE X a fa) : EvI X tg a (iSeq fa) :=
  PI.imp (pi_sq ha) fun σ H Rk h => (bind_e (P := PRp) (f := fa) (k := fun _ => seqD) (tgt_i (X := X) Rk) h).post fun v H1 ⟨_, d, _, _, p1, q1⟩ => by
    cases d with
    | list ds =>
      simp only [Rp] at p1
      obtain ⟨a', o, vs, rfl, h, r⟩ := p1
      exact ⟨a', rfl, .inl ⟨vs, .inl (.inr ⟨o, h⟩), q1 _ H1 (Same.refl _) ⟨_, itd_list, fun H2 k _ => ⟨o, vs, k.2 _ _ _ h, RpA.kp k _ _ r⟩⟩⟩⟩
    | tuple ds =>
      simp only [Rp] at p1
      obtain ⟨a', vs, rfl, h, r⟩ := p1
      exact ⟨a', rfl, .inr ⟨vs, SqT.of h, q1 _ H1 (Same.refl _) ⟨_, itd_tup, fun H2 k _ => ⟨vs, k.1 _ _ h, RpA.kp k _ _ r⟩⟩⟩⟩
    | _ => exact q1.elim
theorem Z.ei_seq (ha : Z.EvE X a fa) : Z.EvI X tg a (iSeq fa) :=
  ⟨D2.ei_seq ha.un⟩
/-! ### range -/
def rangeI (lo : Int) (n : Nat) : List PyData := (List.range n).map fun (k : Nat) => .int (lo + k)
def rngD : List PyData → R (List PyData)
  | [.int j] => if -(2 ^ 62) ≤ j ∧ j < 2 ^ 62 then .ok (rangeI 0 j.toNat) else .no
  | [.int i, .int j] => if -(2 ^ 62) ≤ i ∧ i < 2 ^ 62 ∧ -(2 ^ 62) ≤ j ∧ j < 2 ^ 62 then .ok (rangeI i (j - i).toNat) else .no
  | _ => .no
def iRange (fs : Rho → R (List PyData)) : Rho → R (List PyData) := fun ρ => fs ρ >>= rngD
theorem itd_range {lo : Int} {n : Nat} : ItD (Itr lo n) (fun _ => True) (rangeI lo n) where
  go := fun i H _ hi => by
    show i < n
    simpa [rangeI] using hi
  yld := fun i H x H' d _ hd ⟨e, y⟩ => by
    subst e
    subst y
    refine ⟨Same.refl _, ?_⟩
    unfold rangeI at hd
    rw [List.getElem?_map] at hd
    cases h : (List.range n)[i]? with
    | none => rw [h] at hd; cases hd
    | some k =>
      rw [h] at hd
      have hk : k = i := by
        rw [List.getElem?_range] at h
        · exact (Option.some.inj h).symm
        · have := (List.getElem?_eq_some_iff.mp h).1
          simpa using this
      subst hk
      cases hd
      exact rp_int
  stop := fun i H _ hi => by
    show n ≤ i
    simpa [rangeI] using hi
theorem ei_range1 (T : Tb X nl G) (j : Nat) (hG : G[j]? = some ("range" : Str)) (hm : X.mg "range" = none) (ha : EvA X [a] fs) (hl : ∀ ρ ds, fs ρ = .ok ds → ds.length = 1) (hs : notStar a = true := by rfl) : EvI X tg (.Call (.Name "range" p) [a] [] pos) (iRange fs) :=
  PI.imp (pi_range1 (T.gl _ (List.mem_of_getElem? hG)).1 hm ha (star_cons hs)) fun σ H Rk ⟨ρ, sl, q⟩ => by
    refine ⟨ρ, sl, ?_⟩
    dsimp only [iRange] at q
    cases e : fs ρ with
    | ex c => rw [e] at q; exact q
    | no => rw [e] at q; exact q
    | ok ds =>
      rw [e] at q
      have hlen := hl ρ ds e
      intro vs H1 s1 r1
      match ds, hlen with
      | [d], _ =>
        simp only [RA] at r1
        obtain ⟨v, r', rfl, p1, rfl⟩ := r1
        cases d with
        | int j =>
          have ev : v = .int j := by simpa only [Rp] using p1
          subst ev
          by_cases hz : -(2 ^ 62) ≤ j ∧ j < 2 ^ 62
          · have e2 : rngD [.int j] = .ok (rangeI 0 j.toNat) := if_pos hz
            rw [R.ok_bind, e2] at q
            exact ⟨j, rfl, hz.1, hz.2, q _ H1 s1 ⟨_, itd_range, fun _ _ _ => True.intro⟩⟩
          · have e2 : rngD [.int j] = .no := if_neg hz
            rw [R.ok_bind, e2] at q
            exact q.elim
        | _ => exact q.elim
theorem Z.ei_range1 (T : Tb X nl G) (j : Nat) (hG : G[j]? = some ("range" : Str)) (hm : X.mg "range" = none) (ha : Z.EvA X [a] fs) (hl : ∀ ρ ds, fs ρ = .ok ds → ds.length = 1) (hs : notStar a = true := by rfl) : Z.EvI X tg (.Call (.Name "range" p) [a] [] pos) (iRange fs) :=
  ⟨D2.ei_range1 T j hG hm ha.un hl hs⟩
end
end D2
set_option Elab.async false
set_option linter.all false
set_option maxRecDepth 100000
set_option maxHeartbeats 4000000
namespace D2
open PySem PySem.Spec PyProof.Rows L2
/-! ### a sort of ints -/
def insI (x : Int) : List Int → List Int
  | [] => [x]
  | y :: r => if x ≤ y then x :: y :: r else y :: insI x r
def sortI : List Int → List Int
  | [] => []
  | x :: r => insI x (sortI r)
theorem insI_perm (x : Int) : ∀ l, (insI x l).Perm (x :: l)
  | [] => List.Perm.refl _
  | y :: r => by
    unfold insI
    split
    · exact List.Perm.refl _
    · exact ((insI_perm x r).cons y).trans (List.Perm.swap x y r)
theorem sortI_perm : ∀ l, (sortI l).Perm l
  | [] => List.Perm.refl _
  | x :: r => (insI_perm x (sortI r)).trans ((sortI_perm r).cons x)
theorem insI_sorted (x : Int) : ∀ l, l.Pairwise (· ≤ ·) → (insI x l).Pairwise (· ≤ ·)
  | [], _ => by unfold insI; exact List.pairwise_singleton _ _
  | y :: r, h => by
    have h' := List.pairwise_cons.mp h
    unfold insI
    split
    · rename_i hxy
      refine List.pairwise_cons.mpr ⟨fun z hz => ?_, h⟩
      rcases List.mem_cons.mp hz with rfl | hz
      · exact hxy
      · exact Int.le_trans hxy (h'.1 z hz)
    · rename_i hxy
      refine List.pairwise_cons.mpr ⟨fun z hz => ?_, insI_sorted x r h'.2⟩
      rcases List.mem_cons.mp ((insI_perm x r).mem_iff.mp hz) with rfl | hz
      · omega
      · exact h'.1 z hz
theorem sortI_sorted : ∀ l, (sortI l).Pairwise (· ≤ ·)
  | [] => List.Pairwise.nil
  | x :: r => insI_sorted x _ (sortI_sorted r)
theorem sortI_of {a b : List Int} (hp : a.Perm b) (hs : a.Pairwise (· ≤ ·)) : a = sortI b := PySem.W.ksm_same (hp.trans (sortI_perm b).symm) hs (sortI_sorted b)
theorem IntsAre.ofVals : ∀ {vs : List Value} {ns : List Int}, IntsAre vs ns → Vals (ns.map V.int) vs := fun h => vals_ints h
section
variable {prog : Program} {w : World} {A : Around} {E : Value → Shared → Prop} {s : Shared}
/-- sorted(d) of a dict whose keys are ints -/
theorem sorted_dict {d : Addr} {kvs : List (Key × Value)} {ns : List Int} {Q : Value → Shared → Prop} (hh : A.handled = none) (lo : (d == sysModules) = false) (hd : s.heap.DictOf (mixKind prog w) d kvs) (hk : kvs.map (·.1) = ns.map Sum.inl) (h64 : ns.length < 64)
    (h : ∀ (D : Addr) (h' : Heap) (tk : Nat) (vs : List Value) (e : Nat), s.heap.get? D = none → (∀ b o, s.heap.get? b = some o → h'.get? b = some o) → h'.get? D = some (seqObj "list" vs.toArray e) → IntsAre vs (sortI ns) → Q (.ref D) { s with heap := h', toks := tk }) :
    wpAny (model prog w) A (call (.builtin "sorted") [.ref d]) Q E s := by
  obtain ⟨ep, hat⟩ := hd.dictAt
  have hlen : kvs.length = ns.length := by have := congrArg List.length hk; simpa using this
  have hn : kvs.length ≤ sizeLine := by rw [sizeLine_eq]; omega
  refine Calls.call_function_entry kind_sorted plain_sorted entry_sorted (args_sorted1 _) ?_
  unfold Builtin.«sorted»
  refine wpAny_bind (m := checkCount "sorted" 1 1 _) (wpAny_pure ?_)
  refine wpAny_bind (PySem.W.kdu_collect (A := A.in1) (PySem.W.kdl_dict (knd := mixKind prog w) (kvs := kvs) (ep := ep) lo) hh hat hn fun h1 tk acc hk1 hacc => ?_)
  have hl : acc.toList.length = kvs.length := by rw [Array.length_toList]; exact hacc.1
  have hI : IntsAre acc.toList ns := by
    have key : ∀ (l : List Value) (ms : List Int) (k : Nat), l.length = ms.length → (∀ (j : Nat) (v : Value), l[j]? = some v → ∃ n : Int, ms[j]? = some n ∧ ∃ t, v = Value.int n t) → IntsAre l ms := by
      intro l
      induction l with
      | nil => intro ms k e _; have : ms = [] := List.length_eq_zero_iff.mp e.symm; subst this; exact .nil
      | cons v r ih =>
        intro ms k e hv
        cases ms with
        | nil => cases e
        | cons n ms =>
          obtain ⟨n', e1, t, rfl⟩ := hv 0 v rfl
          have : n = n' := Option.some.inj e1
          subst this
          exact .cons n t (ih ms (k + 1) (by simpa using e) fun j u hu => hv (j + 1) u (by simpa using hu))
    refine key acc.toList ns 0 (by rw [hl, hlen]) fun j v hv => ?_
    obtain ⟨κ, x, hx, his⟩ := hacc.2 j v (by rw [← Array.getElem?_toList]; exact hv)
    have e1 : (kvs.map (·.1))[j]? = some κ := by rw [List.getElem?_map, hx]; rfl
    rw [hk, List.getElem?_map] at e1
    cases e2 : ns[j]? with
    | none => rw [e2] at e1; cases e1
    | some n =>
      rw [e2] at e1
      have e3 : Sum.inl n = κ := Option.some.inj e1
      subst e3
      rcases keyIs_shape (show keyIs (Sum.inl n) v = true from his) with ⟨i, t, e4, e5⟩ | ⟨y, t, e4, _⟩
      · cases e4; exact ⟨n, rfl, t, e5⟩
      · cases e4
  refine wpAny_bind (wpAny_newList ?_ (by rw [hl]; exact hn))
  have hoL : (h1.push (seqObj "list" acc.toList.toArray 0)).get? h1.objs.size = some (seqObj "list" acc.toList.toArray 0) := Heap.get?_push_size _ rfl
  show wpAny _ _ _ _ _ { s with heap := h1.push (seqObj "list" acc.toList.toArray 0), toks := tk }
  refine wpAny_bind (wpAny_holding (wpAny_call_entry slot_list_sort ⟨_, hoL, rfl⟩ entry_list_sort (list_sort_tree hoL hI (by rw [hl, hlen]; exact h64) fun out ns' a1 a2 a3 => ⟨_, rfl, ?_⟩) (args_list_sort _)))
  refine wpAny_pure ⟨_, rfl, ?_⟩
  obtain ⟨e, he⟩ := sortedHeap_at (out := out) hoL
  have hsz : s.heap.get? h1.objs.size = none := by
    cases q : s.heap.get? h1.objs.size with
    | none => rfl
    | some o => exact absurd (Heap.lt_size (hk1 _ _ q)) (Nat.lt_irrefl _)
  refine h h1.objs.size _ tk out.toList e hsz (fun b o q => ?_) he (by rw [sortI_of a2 a3] at a1; exact a1)
  have q1 := hk1 b o q
  have hlt : b < h1.objs.size := Heap.lt_size q1
  show (sortedHeap (h1.push (seqObj "list" acc.toList.toArray 0)) h1.objs.size acc.toList out).get? b = some o
  rw [sortedHeap_old (Nat.ne_of_lt hlt) (by rw [size_push']; exact Nat.lt_succ_of_lt hlt)]
  exact Heap.get?_push_of_some _ q1
end
theorem un_laid {fs ex : List Addr} {H : Hp} {h h' : Heap} {a : Addr} {o : HO} (k : ∀ b u, h.get? b = some u → h'.get? b = some u) (hg : h.get? a = none) (hn : H a = none) : Un fs ex H (upd H a o) h h' := by
  have ne : ∀ {b : Addr} {u : Obj}, h.get? b = some u → b ≠ a := fun e z => by subst z; rw [hg] at e; cases e
  exact ⟨fun b u q _ _ _ => k b u q, fun b u q _ _ _ => ⟨u.slots, k b u q⟩, fun b u q n _ => by rw [upd_ne (ne q)]; exact n, fun b u q _ => ⟨u, k b u q⟩, fun b xs q => by rw [upd_ne (ne_of_none q hn)]; exact q, fun b u xs q => by rw [upd_ne (ne_of_none q hn)]; exact q,
    fun b ps q => ⟨#[], by rw [upd_ne (ne_of_none q hn), q]; simp⟩⟩
theorem inv_laid {X : Cx} {pins : List (Addr × Obj)} {σ : St} {H : Hp} {s : Shared} {h' : Heap} {a : Addr} {o : HO} {t' : Nat} (I : Inv X pins σ H s) (k : ∀ b u, s.heap.get? b = some u → h'.get? b = some u) (hg : s.heap.get? a = none) (hn : H a = none)
    (new : ObjOk X.prog X.w (upd H a o) h' a o) : Inv X pins σ (upd H a o) { s with heap := h', toks := t' } := by
  refine I.un (un_laid k hg hn) fun b u e => ?_
  by_cases hb : b = a
  · subst hb; rw [upd_same] at e; cases e; exact new
  · rw [upd_ne hb] at e
    exact (I.hok b u e).stay (fun c v _ q => k c v q) (fun c q => by rw [upd_ne (ne_of_none q hn)]; exact q) fun c xs q => by rw [upd_ne (ne_of_none q hn)]; exact q
theorem tracked_there {X : Cx} {pins : List (Addr × Obj)} {σ : St} {H : Hp} {s : Shared} {a : Addr} (I : Inv X pins σ H s) (hg : s.heap.get? a = none) (ha : ∀ o, H a = some o → ∃ u, s.heap.get? a = some u) : H a = none := by
  cases q : H a with
  | none => rfl
  | some o => obtain ⟨u, e⟩ := ha o q; rw [hg] at e; cases e
section
variable {P : Program} {w : World} {H : Hp} {h : Heap} {a : Addr}
theorem ObjOk.get : ∀ {o : HO}, ObjOk P w H h a o → ∃ u, h.get? a = some u
  | .lst xs, x => by obtain ⟨_, _, _, _, e⟩ := x; exact ⟨_, e⟩
  | .tup xs, x => by obtain ⟨_, _, _, o, e, _⟩ := x; exact ⟨_, e⟩
  | .dK kvs, x => by obtain ⟨_, _, _, _, o, _, _, e, _⟩ := x; exact ⟨_, e⟩
  | .dT kvs, x => by obtain ⟨_, _, _, _, o, _, _, e, _⟩ := x; exact ⟨_, e⟩
  | .set S n, x => by obtain ⟨o, _, _, _, e, _⟩ := x; exact ⟨_, e⟩
  | .ins C dx fs, x => by obtain ⟨_, _, _, e, _⟩ := x; exact ⟨_, e⟩
  | .own y, x => by obtain ⟨_, e⟩ := x; exact ⟨_, e⟩
  | .xd fs, x => by obtain ⟨_, ⟨_, _, _, e, _⟩, _⟩ := x; exact ⟨_, e⟩
  | .rng lo hi, x => by obtain ⟨_, _, _, e⟩ := x; exact ⟨_, e⟩
  | .frz ob u, x => by obtain ⟨e, _⟩ := x; exact ⟨_, e⟩
  | .tbl ps, x => ⟨_, (show h.get? a = some _ from x)⟩
  | .met f y, x => ⟨_, (show h.get? a = some _ from x)⟩
  | .ext φ, x => by obtain ⟨_, ⟨_, e⟩, _⟩ := x; exact ⟨_, e⟩
end
theorem inv_none {X : Cx} {pins : List (Addr × Obj)} {σ : St} {H : Hp} {s : Shared} {a : Addr} (I : Inv X pins σ H s) (hg : s.heap.get? a = none) : H a = none := by
  cases q : H a with
  | none => rfl
  | some o => obtain ⟨u, e⟩ := ObjOk.get (I.hok a o q); rw [hg] at e; cases e
section
variable {X : Cx} {a b c : Expr} {fa fb fc : Fe} {pos p2 : Pos} {nl : Nat} {G : List Str} {x : Str} {p : Pos}
/-! ### sorted -/
def intsOf : List PyData → Option (List Int)
  | [] => some []
  | .int i :: ds => (intsOf ds).map fun r => i :: r
  | _ => none
theorem intsOf_map : ∀ {ds : List PyData} {ns : List Int}, intsOf ds = some ns → ds = ns.map PyData.int
  | [], ns, h => by cases h; rfl
  | d :: ds, ns, h => by
    cases d with
    | int i =>
      simp only [intsOf] at h
      cases e : intsOf ds with
      | none => rw [e] at h; cases h
      | some r =>
        rw [e] at h
        cases h
        rw [List.map_cons, intsOf_map e]
    | _ => cases h
theorem intsOf_ints : ∀ ns : List Int, intsOf (ns.map PyData.int) = some ns
  | [] => rfl
  | n :: ns => by simp only [List.map_cons, intsOf, intsOf_ints ns, Option.map_some]
def dSorted : PyData → R PyData
  | .list ds => match intsOf ds with
    | some ns => if ns.length < 64 then .ok (.list ((sortI ns).map PyData.int)) else .no
    | none => .no
  | .dict kvs => match intsOf (kvs.map (·.1)) with
    | some ns => if ns.length < 64 then .ok (.list ((sortI ns).map PyData.int)) else .no
    | none => .no
  | _ => .no
def rSortL (K : PySem.W.Frag) : List V → Hp → VK → Prop := fun xs H Q => ∃ p ns, xs = [.ref p] ∧ SqL K H p (ns.map V.int) ∧ ns.length < 64 ∧ ∀ l, H l = none → Q (.ref l) (upd H l (.lst ((sortI ns).map V.int)))
def rSortD : List V → Hp → VK → Prop := fun xs H Q => ∃ p ks ns, xs = [.ref p] ∧ Rd H p (.dK ks) ∧ ks.map (·.1) = ns.map Sum.inl ∧ ns.length < 64 ∧ ∀ l, H l = none → Q (.ref l) (upd H l (.lst ((sortI ns).map V.int)))
theorem sortI_len (ns : List Int) : (sortI ns).length = ns.length := (sortI_perm ns).length_eq
theorem call_sortL : CallR X (.builtin "sorted") (rSortL X.K) := by
  intro pins s σ H xs us Q I r h
  obtain ⟨p, ns, rfl, hq, h64, q⟩ := h
  obtain ⟨u, rfl, rx⟩ := vals1 r
  cases rx
  obtain ⟨its, rv, pl, hz⟩ := I.list hq
  have hI : IntsAre its ns := intsAre_of rv
  have hl := IntsAre.length hI
  refine sorted_ints pl.isList hI (by omega) fun out ns' a1 a2 a3 => ?_
  rw [sortI_of a2 a3] at a1
  obtain ⟨e, he⟩ := sortedAll_at s.heap its out
  refine ⟨.ref (s.heap.objs.size + 1), _, I.laid (t' := s.toks) (o := .lst ((sortI ns).map V.int)) (fun b o e => sortedAll_old e) (Nat.le_succ _) ⟨?_, out.toList, e, vals_ints a1, by simpa [seqObj] using he⟩, rfl, q _ (I.hok.fresh (Nat.le_succ _))⟩
  rw [List.length_map, sortI_len, sizeLine_eq]; omega
theorem call_sortD (hc : X.calm = true) : CallR X (.builtin "sorted") rSortD := by
  intro pins s σ H xs us Q I r h
  obtain ⟨p, ks, ns, rfl, hq, hk, h64, q⟩ := h
  obtain ⟨u, rfl, rx⟩ := vals1 r
  cases rx
  obtain ⟨hz, hlo, vs, kv, hd⟩ := dk_rd I.hok hq
  refine sorted_dict (I.ok.hd hc) hlo hd (by rw [← kv.keys]; exact hk) h64 fun D h' tk vs' e hg kp hD hI => ?_
  have hn := inv_none I hg
  refine ⟨.ref D, _, inv_laid (t' := tk) (o := .lst ((sortI ns).map V.int)) I kp hg hn ⟨?_, vs', e, vals_ints hI, by simpa [seqObj] using hD⟩, rfl, q _ hn⟩
  rw [List.length_map, sortI_len, sizeLine_eq]; omega
theorem rpA_ints : ∀ {H : Hp} {ns : List Int} {vs : List V}, RpA H (ns.map PyData.int) vs → vs = ns.map V.int
  | H, [], vs, r => by rw [List.map_nil] at r; rw [r.nil_inv]; rfl
  | H, n :: ns, vs, r => by
    rw [List.map_cons] at r
    obtain ⟨v, r', rfl, p, t⟩ := r.cons_inv
    have : v = .int n := by simpa only [Rp] using p
    rw [this, rpA_ints t]; rfl
theorem rpK_keys : ∀ {H : Hp} {kvs : List (PyData × PyData)} {ks : List (Key × V)}, RpK H kvs ks → kvs.map (·.1) = ks.map fun k => keyD k.1
  | H, [], ks, r => by simp only [RpK] at r; rw [r]; rfl
  | H, (k, d) :: kvs, ks, r => by
    simp only [RpK, RpP] at r
    obtain ⟨x, v, r', rfl, ⟨e, _⟩, t⟩ := r
    rw [List.map_cons, List.map_cons, rpK_keys t, e]
theorem keys_ints : ∀ {ks : List (Key × V)} {ns : List Int}, (ks.map fun k => keyD k.1) = ns.map PyData.int → ks.map (·.1) = ns.map Sum.inl
  | [], [], _ => rfl
  | [], _ :: _, h => by cases h
  | _ :: _, [], h => by cases h
  | (k, v) :: ks, n :: ns, h => by
    rw [List.map_cons, List.map_cons] at h
    injection h with h1 h2
    rw [List.map_cons, List.map_cons, keys_ints h2]
    cases k with
    | inl i => simp only [keyD] at h1; cases h1; rfl
    | inr y => simp only [keyD] at h1; cases h1
theorem evn_sorted (T : Tb X nl G) (j : Nat) (hG : G[j]? = some ("sorted" : Str)) (hm : X.mg "sorted" = none) (ha : EvB X a fa) (he : notStar a = true := by rfl) : EvN X (.Call (.Name "sorted" p) [a] [] pos) (e1 dSorted fa) := by
  refine blt1 T j hG hm dn_n PyProof.Rows.boot_sorted (call_sortL.or (call_sortD T.calm)) (fun H x d Q hx q => ?_) ha he
  cases d with
  | list ds =>
    simp only [dSorted] at q
    cases ei : intsOf ds with
    | none => rw [ei] at q; exact q.elim
    | some ns =>
      rw [ei] at q
      dsimp only at q
      by_cases h64 : ns.length < 64
      · rw [if_pos h64] at q
        obtain ⟨a', vs, rfl, h, r⟩ := brp_list (K := X.K) hx
        rw [intsOf_map ei] at r
        rw [rpA_ints r] at h
        exact .inl ⟨a', ns, rfl, h, h64, fun l hl => q _ _ (same_up hl _) (nrp_new_lst hl (RpA.ints _))⟩
      · rw [if_neg h64] at q; exact q.elim
  | dict kvs =>
    simp only [dSorted] at q
    cases ei : intsOf (kvs.map (·.1)) with
    | none => rw [ei] at q; exact q.elim
    | some ns =>
      rw [ei] at q
      dsimp only at q
      by_cases h64 : ns.length < 64
      · rw [if_pos h64] at q
        obtain ⟨a', ks, rfl, h, r⟩ := brp_dict hx
        have hk := keys_ints ((rpK_keys r).symm.trans (intsOf_map ei))
        exact .inr ⟨a', ks, ns, rfl, h, hk, h64, fun l hl => q _ _ (same_up hl _) (nrp_new_lst hl (RpA.ints _))⟩
      · rw [if_neg h64] at q; exact q.elim
  | _ => exact q.elim
theorem Z.evn_sorted (T : Tb X nl G) (j : Nat) (hG : G[j]? = some ("sorted" : Str)) (hm : X.mg "sorted" = none) (ha : Z.EvB X a fa) (he : notStar a = true := by rfl) : Z.EvN X (.Call (.Name "sorted" p) [a] [] pos) (e1 dSorted fa) :=
  ⟨D2.evn_sorted T j hG hm ha.un he⟩
/-! ### all -/
theorem call_allB (hc : X.calm = true) : CallR X (.builtin "all") (fun xs H Q => ∃ (p : Addr) (bs : List Bool), xs = [.ref p] ∧ SqL X.K H p (bs.map V.bl) ∧ Q (.bl (bs.all id)) H) := by
  intro pins s σ H xs us Q I r h
  obtain ⟨p, bs, rfl, hq, q⟩ := h
  obtain ⟨u, rfl, rx⟩ := vals1 r
  cases rx
  obtain ⟨its, rv, pl, hz⟩ := I.list hq
  have hh : X.A.in1.handled = none := I.ok.hd hc
  have hlt : p ≠ s.heap.objs.size := by obtain ⟨o, e, _⟩ := pl.isList; exact Nat.ne_of_lt (Heap.lt_size e)
  have hits : its = bs.map Value.bool := by
    have key : ∀ (bs : List Bool) (us : List Value), Vals (bs.map V.bl) us → us = bs.map Value.bool := by
      intro bs
      induction bs with
      | nil => intro us r; cases r; rfl
      | cons k bs ih => intro us r; rw [List.map_cons] at r; cases r with | cons r1 r2 => rw [ih _ r2]; cases r1; rfl
    exact key bs its rv
  refine call_all_walk (wpAny_pyIter_list pl.isList ?_)
  refine ⟨s.heap.objs.size, _, _, its.toArray.size, _, _, fun i => (bs[i]?).getD true, rfl, Walks.list hh s.heap.objs.size p hlt its.toArray, ⟨⟨_, Heap.get?_push_size _ rfl, rfl, rfl⟩, ?_⟩, fun i v s' Q' E' hv hQ' => ?_, fun h' tk kp => ?_⟩
  · obtain ⟨o, e, r'⟩ := pl.isList
    exact ⟨o, Heap.get?_push_of_some _ e, r'⟩
  · have hv' : its[i]? = some v := by simpa using hv
    rw [hits, List.getElem?_map] at hv'
    cases e : bs[i]? with
    | none => rw [e] at hv'; cases hv'
    | some k =>
      rw [e] at hv'
      cases hv'
      dsimp only at hQ'
      rw [e] at hQ'
      exact wpAny_truthy_bool hQ'
  · have e : ((List.range its.toArray.size).all fun i => (bs[i]?).getD true) = bs.all id := by
      rw [List.size_toArray, hits, List.length_map]
      have key : ∀ (l : List Bool), ((List.range l.length).all fun i => (l[i]?).getD true) = l.all id := by
        intro l
        induction l with
        | nil => rfl
        | cons k l ih =>
          rw [List.length_cons, List.range_succ_eq_map, List.all_cons, List.all_map, List.all_cons, ← ih]
          rfl
      exact key bs
    rw [e]
    refine ⟨.bl (bs.all id), H, I.kept (t' := tk) fun b o g => kp b o (fun z => ?_) (Heap.get?_push_of_some _ g), rfl, q⟩
    rw [List.mem_singleton.mp z] at g
    exact absurd (Heap.lt_size g) (Nat.lt_irrefl _)
theorem allB_map : ∀ {ds : List PyData} {k : Bool}, allB ds = some k → ∃ bs : List Bool, ds = bs.map PyData.bool ∧ k = bs.all id
  | [], k, h => by cases h; exact ⟨[], rfl, rfl⟩
  | d :: ds, k, h => by
    cases d with
    | bool j =>
      simp only [allB] at h
      cases e : allB ds with
      | none => rw [e] at h; cases h
      | some r =>
        rw [e] at h
        cases h
        obtain ⟨bs, e1, e2⟩ := allB_map e
        exact ⟨j :: bs, by rw [e1]; rfl, by rw [e2]; rfl⟩
    | _ => cases h
theorem rpA_bools : ∀ {H : Hp} {ns : List Bool} {vs : List V}, RpA H (ns.map PyData.bool) vs → vs = ns.map V.bl
  | H, [], vs, r => by rw [List.map_nil] at r; rw [r.nil_inv]; rfl
  | H, n :: ns, vs, r => by
    rw [List.map_cons] at r
    obtain ⟨v, r', rfl, p, t⟩ := r.cons_inv
    have : v = .bl n := by simpa only [Rp] using p
    rw [this, rpA_bools t]; rfl
theorem ev_all (T : Tb X nl G) (j : Nat) (hG : G[j]? = some ("all" : Str)) (hm : X.mg "all" = none) (ha : EvB X a fa) (he : notStar a = true := by rfl) : EvE X (.Call (.Name "all" p) [a] [] pos) (e1 dAll fa) := by
  refine blt1 T j hG hm dn_r PyProof.Rows.boot_all (call_allB T.calm) (fun H x d Q hx q => ?_) ha he
  cases d with
  | list ds =>
    simp only [dAll] at q
    cases ei : allB ds with
    | none => rw [ei] at q; exact q.elim
    | some k =>
      rw [ei] at q
      obtain ⟨bs, e1, e2⟩ := allB_map ei
      obtain ⟨a', vs, rfl, h, r⟩ := brp_list (K := X.K) hx
      rw [e1] at r
      rw [rpA_bools r] at h
      refine ⟨a', bs, rfl, h, ?_⟩
      rw [← e2]
      exact q _ H (Same.refl _) rp_bool
  | _ => exact q.elim
theorem Z.ev_all (T : Tb X nl G) (j : Nat) (hG : G[j]? = some ("all" : Str)) (hm : X.mg "all" = none) (ha : Z.EvB X a fa) (he : notStar a = true := by rfl) : Z.EvE X (.Call (.Name "all" p) [a] [] pos) (e1 dAll fa) :=
  ⟨D2.ev_all T j hG hm ha.un he⟩
end
/-! ### a dict that is filled, a list that grows -/
section
variable {X : Cx} {a b c : Expr} {fa fb fc : Fe} {pos p2 : Pos} {nl : Nat} {G : List Str} {x : Str} {p : Pos}
def keyOf : PyData → Option Key
  | .int i => some (.inl i)
  | .str y => some (.inr y)
  | _ => none
def keyEq : PyData → PyData → Bool
  | .int i, .int j => decide (i = j)
  | .str i, .str j => decide (i = j)
  | _, _ => false
/-- in its place, or at the end -/
def putD (kvs : List (PyData × PyData)) (k v : PyData) : List (PyData × PyData) :=
  if (kvs.any fun kv => keyEq kv.1 k) = true then kvs.map (fun kv => if keyEq kv.1 k = true then (kv.1, v) else kv) else kvs ++ [(k, v)]
theorem keyEq_key (κ κ' : Key) : keyEq (keyD κ) (keyD κ') = decide (κ = κ') := by
  cases κ with
  | inl i =>
    cases κ' with
    | inl j => simp [keyD, keyEq]
    | inr j => simp [keyD, keyEq]
  | inr i =>
    cases κ' with
    | inl j => simp [keyD, keyEq]
    | inr j => simp [keyD, keyEq]
theorem RpK.cons {H : Hp} {k d : PyData} {kvs : List (PyData × PyData)} {κ : Key} {v : V} {ks : List (Key × V)} (e : k = keyD κ) (h : Rp H d v) (t : RpK H kvs ks) : RpK H ((k, d) :: kvs) ((κ, v) :: ks) := by
  simp only [RpK, RpP]; exact ⟨κ, v, ks, rfl, ⟨e, h⟩, t⟩
theorem RpK.cons_inv {H : Hp} {k d : PyData} {kvs : List (PyData × PyData)} {ks : List (Key × V)} (h : RpK H ((k, d) :: kvs) ks) : ∃ κ v r, ks = (κ, v) :: r ∧ k = keyD κ ∧ Rp H d v ∧ RpK H kvs r := by
  simp only [RpK, RpP] at h
  obtain ⟨κ, v, r, e, ⟨e1, p⟩, t⟩ := h
  exact ⟨κ, v, r, e, e1, p, t⟩
theorem RpK.nil_inv {H : Hp} {ks : List (Key × V)} (h : RpK H [] ks) : ks = [] := by simpa only [RpK] using h
theorem RpK.any {H : Hp} (κ : Key) : ∀ {kvs : List (PyData × PyData)} {ks : List (Key × V)}, RpK H kvs ks → (kvs.any fun kv => keyEq kv.1 (keyD κ)) = ks.any fun kv => decide (kv.1 = κ)
  | [], ks, h => by rw [h.nil_inv]; rfl
  | (k, d) :: kvs, ks, h => by
    obtain ⟨κ', v, r, rfl, rfl, p, t⟩ := h.cons_inv
    rw [List.any_cons, List.any_cons, RpK.any κ t, keyEq_key]
theorem RpK.repl {H : Hp} (κ : Key) {d : PyData} {v : V} (hv : Rp H d v) : ∀ {kvs : List (PyData × PyData)} {ks : List (Key × V)}, RpK H kvs ks →
    RpK H (kvs.map fun kv => if keyEq kv.1 (keyD κ) = true then (kv.1, d) else kv) (ks.map fun kv => if kv.1 = κ then (kv.1, v) else kv)
  | [], ks, h => by rw [h.nil_inv]; simp only [List.map_nil, RpK]
  | (k, d') :: kvs, ks, h => by
    obtain ⟨κ', v', r, rfl, rfl, p, t⟩ := h.cons_inv
    rw [List.map_cons, List.map_cons]
    dsimp only
    rw [keyEq_key]
    by_cases e : κ' = κ
    · rw [if_pos (decide_eq_true e), if_pos e]; exact RpK.cons rfl hv (RpK.repl κ hv t)
    · rw [if_neg (by rw [decide_eq_false e]; exact Bool.false_ne_true), if_neg e]; exact RpK.cons rfl p (RpK.repl κ hv t)
theorem RpK.snoc {H : Hp} {κ : Key} {d : PyData} {v : V} (hv : Rp H d v) : ∀ {kvs : List (PyData × PyData)} {ks : List (Key × V)}, RpK H kvs ks → RpK H (kvs ++ [(keyD κ, d)]) (ks ++ [(κ, v)])
  | [], ks, h => by rw [h.nil_inv]; exact RpK.cons rfl hv (by simp only [RpK])
  | (k, d') :: kvs, ks, h => by
    obtain ⟨κ', v', r, rfl, rfl, p, t⟩ := h.cons_inv
    exact RpK.cons rfl p (RpK.snoc hv t)
theorem RpK.put {H : Hp} (κ : Key) {d : PyData} {v : V} (hv : Rp H d v) {kvs : List (PyData × PyData)} {ks : List (Key × V)} (h : RpK H kvs ks) : RpK H (putD kvs (keyD κ) d) (putK ks κ v) := by
  unfold putD putK
  rw [h.any κ]
  split
  · exact h.repl κ hv
  · exact h.snoc hv
/-- an own thing is changed: all else stays -/
theorem SlS.change {Fm H : Hp} {σ : St} {ρ : Rho} {i : Nat} {d d' : PyData} {a : Addr} {u u' : HO} (h : SlS Fm H σ ρ) (h1 : ρ[i]? = some (.own d)) (h2 : σ[i]? = some (some (.ref a))) (hu : H a = some u) (hm : (∃ xs, u = .lst xs) ∨ ∃ ks, u = .dK ks)
    (hr : ORp (upd H a u') d' (.ref a)) : SlS Fm (upd H a u') σ (ρ.set i (.own d')) := by
  have hFa := h.own i d a h1 h2
  have kp : Kp H (upd H a u') := kp_upd hu hm
  have at_i : ∀ (j : Nat) (e : PyData), (ρ.set i (.own d'))[j]? = some (.own e) → ∃ e0, ρ[j]? = some (.own e0) := fun j e q => by
    rw [List.getElem?_set] at q
    by_cases hij : i = j
    · subst hij; exact ⟨d, h1⟩
    · rw [if_neg hij] at q; exact ⟨e, q⟩
  refine ⟨fun b x e => ?_, ⟨by rw [List.length_set]; exact h.sl.1, fun j c w' e1 e2 => ?_⟩, fun j e b e1 e2 => ?_, fun j k e f b e1 e2 e3 e4 => ?_⟩
  · rw [upd_ne (ne_of_none e hFa)]; exact h.fm b x e
  · rw [List.getElem?_set] at e1
    by_cases hij : i = j
    · subst hij
      rw [if_pos rfl] at e1
      split at e1
      · cases e1
        rw [h2] at e2
        cases e2
        exact ⟨_, rfl, hr⟩
      · cases e1
    · rw [if_neg hij] at e1
      have q := h.sl.2 j c w' e1 e2
      cases c with
      | non => exact True.intro
      | val d1 => obtain ⟨v, z1, z2⟩ := q; exact ⟨v, z1, Rp.kp kp _ _ z2⟩
      | own d1 =>
        obtain ⟨v, z1, z2⟩ := q
        subst z1
        obtain ⟨b, ob, rfl, hb⟩ := orp_ref z2
        have nb : b ≠ a := fun z => hij (by subst z; exact h.apart i j d d1 b h1 e1 h2 e2)
        refine ⟨_, rfl, ?_⟩
        cases d1 <;> simp only [ORp] at z2 ⊢
        · obtain ⟨b', vs, e, hb', r⟩ := z2
          cases e
          exact ⟨b, vs, rfl, by rw [upd_ne nb]; exact hb', RpA.kp kp _ _ r⟩
        · obtain ⟨b', vs, e, hb', r⟩ := z2
          cases e
          exact ⟨b, vs, rfl, by rw [upd_ne nb]; exact hb', RpK.kp kp _ _ r⟩
  · obtain ⟨e0, q⟩ := at_i j e e1
    exact h.own j e0 b q e2
  · obtain ⟨e0, q⟩ := at_i j e e1
    obtain ⟨f0, q'⟩ := at_i k f e2
    exact h.apart j k e0 f0 b q q' e3 e4
/-- x[k] = v, x an own dict -/
def sPut (i : Nat) (fk fv : Fe) : Fs := fun ρ => fv ρ >>= fun v => fk ρ >>= fun k => match ρ[i]? with
  | some (.own (.dict kvs)) => match keyOf k with
    | some _ => if kvs.length < sizeLine then .ok (.nx (ρ.set i (.own (.dict (putD kvs k v))))) else .no
    | none => .no
  | _ => .no
theorem keyOf_key {k : PyData} {κ : Key} (h : keyOf k = some κ) : k = keyD κ := by
  cases k <;> simp only [keyOf] at h <;> cases h <;> rfl
theorem rp_key {H : Hp} {κ : Key} {y : V} (h : Rp H (keyD κ) y) : y = kV κ := by
  cases κ <;> simp only [keyD, Rp] at h <;> exact h
theorem es_put {k v : Expr} {fk fv : Fe} {q1 q2 q3 : Pos} (T : Tb X nl G) (n : Nat) (hN : X.N[n]? = some x) (hk : EvE X k fk) (hv : EvE X v fv) (hs : swapsWith v (some (.Subscript (.Name x q1) k q2)) q3.line X.env = pure false := by rfl) :
    EvS X (.Assign [.Subscript (.Name x q1) k q2] v q3) (sPut n fk fv) := fun Fm => by
  have hm := T.vis x (List.mem_of_getElem? hN)
  refine PS.imp (ps_dput (by have := T.hu; omega) (pe_var hN hm.1 hm.2.1 hm.2.2) hk hv hs) fun D σ H h => ?_
  refine (bind_s (P := PRp) (f := fv) (k := fun ρ v => fk ρ >>= fun k => match ρ[n]? with
    | some (.own (.dict kvs)) => match keyOf k with
      | some _ => if kvs.length < sizeLine then .ok (.nx (ρ.set n (.own (.dict (putD kvs k v))))) else .no
      | none => .no
    | _ => .no) h).post fun vv H1 ⟨ρ1, dv, sl1, _, p1, q1⟩ => ?_
  have sl0 : rdS X Fm (fun ρ => fk ρ >>= fun k => match ρ[n]? with
    | some (.own (.dict kvs)) => match keyOf k with
      | some _ => if kvs.length < sizeLine then .ok (.nx (ρ.set n (.own (.dict (putD kvs k dv))))) else .no
      | none => .no
    | _ => .no) D σ H1 := ⟨ρ1, sl1, q1⟩
  cases e : ρ1[n]? with
  | none =>
    exfalso
    rw [e] at q1
    cases e2 : fk ρ1 with
    | ok _ => rw [e2] at q1; exact q1
    | ex _ => rw [e2] at q1; exact q1
    | no => rw [e2] at q1; exact q1
  | some c =>
    rw [e] at q1
    cases c with
    | own d =>
      cases d with
      | dict kvs =>
        obtain ⟨o, h2, w', rfl, p2⟩ := sl1.sl.at e
        simp only [ORp] at p2
        obtain ⟨a', ks, rfl, ha, r⟩ := p2
        refine ⟨.ref a', h2, ?_⟩
        refine ⟨ρ1, sl1.sl, ?_⟩
        cases e2 : fk ρ1 with
        | ex _ => rw [e2] at q1; exact q1
        | no => rw [e2] at q1; exact q1
        | ok kd =>
          rw [e2, R.ok_bind] at q1
          intro yv H3 s3 p3
          dsimp only at q1
          cases e3 : keyOf kd with
          | none => rw [e3] at q1; exact q1.elim
          | some κ =>
            rw [e3] at q1
            dsimp only at q1
            by_cases hz : kvs.length < sizeLine
            · rw [if_pos hz] at q1
              have ek := keyOf_key e3
              subst ek
              have ey := rp_key p3
              subst ey
              have ha3 := s3 _ _ ha
              have r3 : RpK H3 kvs ks := RpK.kp (Kp.of s3) _ _ r
              refine ⟨a', _, rfl, DPut.k ha3 (by rw [r3.length]; exact hz), q1 _ _ ((sl1.mono s3).change e h2 ha3 (.inr ⟨_, rfl⟩) ?_)⟩
              simp only [ORp]
              exact ⟨a', _, rfl, upd_same, RpK.kp (kp_upd ha3 (.inr ⟨_, rfl⟩)) _ _ (RpK.put κ (p1.mono s3) r3)⟩
            · rw [if_neg hz] at q1; exact q1.elim
      | _ =>
        exfalso
        cases e2 : fk ρ1 with
        | ok _ => rw [e2] at q1; exact q1
        | ex _ => rw [e2] at q1; exact q1
        | no => rw [e2] at q1; exact q1
    | _ =>
      exfalso
      cases e2 : fk ρ1 with
      | ok _ => rw [e2] at q1; exact q1
      | ex _ => rw [e2] at q1; exact q1
      | no => rw [e2] at q1; exact q1
theorem Z.es_put {k v : Expr} {fk fv : Fe} {q1 q2 q3 : Pos} (T : Tb X nl G) (n : Nat) (hN : X.N[n]? = some x) (hk : Z.EvE X k fk) (hv : Z.EvE X v fv) (hs : swapsWith v (some (.Subscript (.Name x q1) k q2)) q3.line X.env = pure false := by rfl) : Z.EvS X (.Assign [.Subscript (.Name x q1) k q2] v q3) (sPut n fk fv) :=
  ⟨D2.es_put T n hN hk.un hv.un hs⟩
/-- x.append(e), x an own list -/
def sAppend (i : Nat) (f : Fe) : Fs := fun ρ => f ρ >>= fun d => match ρ[i]? with
  | some (.own (.list ds)) => if ds.length < sizeLine then .ok (.nx (ρ.set i (.own (.list (ds ++ [d]))))) else .no
  | _ => .no
end
end D2
set_option Elab.async false
set_option linter.all false
set_option maxRecDepth 100000
set_option maxHeartbeats 4000000
namespace D2
open PySem PySem.Spec PyProof.Rows L2
/-! ### an iterator over a list or a tuple -/
section
variable {prog : Program} {w : World} {A : Around} {E : Value → Shared → Prop} {s : Shared}
theorem nextOf_tup {it t : Addr} {i : Nat} {items : Array Value} {x : Value} {Q : Value → Shared → Prop} (hit : s.heap.IsTupleIter it t i) (ht : s.heap.IsTuple t items) (hx : items[i]? = some x)
    (hQ : ∀ h', h'.IsTupleIter it t (i + 1) → Heap.SameBut it s.heap h' → Q x { s with heap := h' }) : wpAny (model prog w) A (Builtin.SmallTypes.nextOf (.ref it)) Q E s := by
  obtain ⟨ob, hob, hcl, hdt⟩ := id hit
  obtain ⟨ot, hot, _, nt, hdtt⟩ := ht
  unfold Builtin.SmallTypes.nextOf
  refine wpAny_bind (wpAny_callSpecial?_slot (name := Str.ofString "__next__") hit.typeIs F.slot_tuple_iterator_next (wpAny_call_entry F.slot_tuple_iterator_next hit.typeIs F.entry_tuple_iterator_next ?_ (F.args_tuple_iterator_next_1 _)))
  show wpAny _ _ (field (Value.ref it) 0 >>= _) _ _ s
  refine wpAny_bind (wpAny_field hob hdt (x := Value.ref t) rfl ?_)
  show wpAny _ _ (if (Value.ref t == Value.none) = true then _ else _) _ _ s
  rw [if_neg (by intro z; cases z)]
  show wpAny _ _ (field (Value.ref it) 1 >>= _) _ _ s
  refine wpAny_bind (wpAny_field hob hdt (x := Value.int i 0) rfl ?_)
  show wpAny _ _ (seqItems? (Value.ref t) >>= _) _ _ s
  refine wpAny_bind (wpAny_seqItems hot hdtt ?_)
  simp only [hx, Int.toNat_natCast]
  refine wpAny_bind (wpAny_setField hob hdt (by simp) (wpAny_pure ⟨x, rfl, wpAny_pure (hQ _ ⟨_, Heap.get?_update_self _ hob (Obj.isFreed_of_fields (Obj.data_mapFields hdt _)), (Obj.cls_mapFields ..).trans hcl, ?_⟩ (Heap.SameBut.update ..))⟩))
  rw [Obj.data_mapFields hdt]
  simp [rawInt]
theorem nextOf_tup_end {it t : Addr} {i : Nat} {items : Array Value} {Q : Value → Shared → Prop} (hh : A.handled = none) (hit : s.heap.IsTupleIter it t i) (ht : s.heap.IsTuple t items) (hx : items[i]? = none)
    (hE : ∀ h' e, Heap.ExtBut it s.heap h' → (∃ o, h'.get? e = some o ∧ o.cls = .type "StopIteration") → E (.ref e) { s with heap := h' }) : wpAny (model prog w) A (Builtin.SmallTypes.nextOf (.ref it)) Q E s := by
  obtain ⟨ob, hob, hcl, hdt⟩ := id hit
  obtain ⟨ot, hot, _, nt, hdtt⟩ := ht
  unfold Builtin.SmallTypes.nextOf
  refine wpAny_bind (wpAny_callSpecial?_slot (name := Str.ofString "__next__") hit.typeIs F.slot_tuple_iterator_next (wpAny_call_entry F.slot_tuple_iterator_next hit.typeIs F.entry_tuple_iterator_next ?_ (F.args_tuple_iterator_next_1 _)))
  show wpAny _ _ (field (Value.ref it) 0 >>= _) _ _ s
  refine wpAny_bind (wpAny_field hob hdt (x := Value.ref t) rfl ?_)
  show wpAny _ _ (if (Value.ref t == Value.none) = true then _ else _) _ _ s
  rw [if_neg (by intro z; cases z)]
  show wpAny _ _ (field (Value.ref it) 1 >>= _) _ _ s
  refine wpAny_bind (wpAny_field hob hdt (x := Value.int i 0) rfl ?_)
  show wpAny _ _ (seqItems? (Value.ref t) >>= _) _ _ s
  refine wpAny_bind (wpAny_seqItems hot hdtt ?_)
  simp only [hx, Int.toNat_natCast]
  refine wpAny_bind (wpAny_rule (wpAny_bind (wpAny_setField hob hdt (by simp) ?_)))
  show wpAny _ _ (newExc (Value.type "StopIteration") [] >>= _) _ _ _
  refine wpAny_bind ?_
  simp only [newTuple, newExc]
  refine wpAny_bind (wpAny_newObj_type ?_ (by size_fits))
  refine wpAny_bind (m := firstArgMember _ _) (wpAny_of_eq (a := Value.none) (by first | rfl | (simp only [firstArgMember]; rfl)) ?_)
  refine wpAny_newObj_type ?_ (by size_fits)
  simp only [raiseNew]
  refine wpAny_bind (wpAny_handled ?_)
  first | rw [show A.in1.handled = none from hh] | rw [hh]
  exact wpAny_bind (wpAny_pure (wpAny_throw (hE _ _ (((Heap.SameBut.update ..).extBut.push _).push _) ⟨_, Heap.get?_push_size _ rfl, rfl⟩)))
end
/-- i walks the list or tuple l, at place k -/
def ItS (h : Heap) (i l : Addr) (k : Nat) (xs : Array Value) : Prop := (h.IsListIter i l k ∧ h.IsList l xs) ∨ (h.IsTupleIter i l k ∧ h.IsTuple l xs)
section
variable {h h' : Heap} {i l : Addr} {k : Nat} {xs : Array Value}
theorem ItS.keep (x : ItS h i l k xs) (hi : ∀ o, h.get? i = some o → h'.get? i = some o) (hl : ∀ o, h.get? l = some o → h'.get? l = some o) : ItS h' i l k xs := by
  rcases x with ⟨⟨o, e, r⟩, ⟨o', e', r'⟩⟩ | ⟨⟨o, e, r⟩, ⟨o', e', r'⟩⟩
  · exact .inl ⟨⟨o, hi _ e, r⟩, ⟨o', hl _ e', r'⟩⟩
  · exact .inr ⟨⟨o, hi _ e, r⟩, ⟨o', hl _ e', r'⟩⟩
theorem ItS.there (x : ItS h i l k xs) : (∃ o, h.get? i = some o ∧ ∀ v, o.data ≠ .cell v) ∧ ∃ o, h.get? l = some o := by
  rcases x with ⟨⟨o, e, c, d⟩, ⟨o', e', r'⟩⟩ | ⟨⟨o, e, c, d⟩, ⟨o', e', r'⟩⟩
  · exact ⟨⟨o, e, fun v z => by rw [d] at z; cases z⟩, ⟨o', e'⟩⟩
  · exact ⟨⟨o, e, fun v z => by rw [d] at z; cases z⟩, ⟨o', e'⟩⟩
end
section
variable {prog : Program} {w : World} {A : Around} {E : Value → Shared → Prop} {s : Shared} {i l : Addr} {k : Nat} {xs : Array Value}
theorem nextS {x : Value} {Q : Value → Shared → Prop} (it : ItS s.heap i l k xs) (hne : l ≠ i) (hx : xs[k]? = some x) (hQ : ∀ h', ItS h' i l (k + 1) xs → Heap.SameBut i s.heap h' → Q x { s with heap := h' }) :
    wpAny (model prog w) A (Builtin.SmallTypes.nextOf (.ref i)) Q E s := by
  rcases it with ⟨h1, h2⟩ | ⟨h1, h2⟩
  · exact wpAny_nextOf_list_item h1 h2 hx fun h' a b => hQ h' (.inl ⟨a, h2.extBut b.extBut hne⟩) b
  · exact nextOf_tup h1 h2 hx fun h' a b => hQ h' (.inr ⟨a, h2.extBut b.extBut hne⟩) b
theorem nextS_end {Q : Value → Shared → Prop} (hh : A.handled = none) (it : ItS s.heap i l k xs) (hx : xs[k]? = none)
    (hE : ∀ h' e, Heap.ExtBut i s.heap h' → (∃ o, h'.get? e = some o ∧ o.cls = .type "StopIteration") → E (.ref e) { s with heap := h' }) : wpAny (model prog w) A (Builtin.SmallTypes.nextOf (.ref i)) Q E s := by
  rcases it with ⟨h1, h2⟩ | ⟨h1, h2⟩
  · exact wpAny_nextOf_list_end hh h1 h2 hx hE
  · exact nextOf_tup_end hh h1 h2 hx hE
/-- a list or a tuple -/
def SqAt (h : Heap) (l : Addr) (xs : Array Value) : Prop := h.IsList l xs ∨ h.IsTuple l xs
theorem iterS {Q : Value → Shared → Prop} (hl : SqAt s.heap l xs) (hQ : ∀ o, (∀ v, o.data ≠ .cell v) → ItS (s.heap.push o) s.heap.objs.size l 0 xs → Q (.ref s.heap.objs.size) { s with heap := s.heap.push o }) : wpAny (model prog w) A (pyIter (.ref l)) Q E s := by
  rcases hl with hl | hl
  · refine wpAny_pyIter_list hl (hQ _ (fun v z => by cases z) (.inl ⟨⟨_, Heap.get?_push_size _ rfl, rfl, rfl⟩, ?_⟩))
    obtain ⟨o, e, r⟩ := hl
    exact ⟨o, Heap.get?_push_of_some _ e, r⟩
  · refine wpAny_pyIter_tuple hl (hQ _ (fun v z => by cases z) (.inr ⟨⟨_, Heap.get?_push_size _ rfl, rfl, rfl⟩, ?_⟩))
    obtain ⟨o, e, r⟩ := hl
    exact ⟨o, Heap.get?_push_of_some _ e, r⟩
end
end D2
set_option Elab.async false
set_option linter.all false
set_option maxRecDepth 100000
set_option maxHeartbeats 4000000
namespace D2
open PySem PySem.Spec PyProof.Rows L2
/-! ### zip of two -/
structure ZA (z p q i j l m : Addr) : Prop where
  pz : p ≠ z
  qz : q ≠ z
  iz : i ≠ z
  jz : j ≠ z
  pq : p ≠ q
  pi : p ≠ i
  pj : p ≠ j
  qi : q ≠ i
  qj : q ≠ j
  ij : i ≠ j
  lz : l ≠ z
  lq : l ≠ q
  li : l ≠ i
  lj : l ≠ j
  mz : m ≠ z
  mq : m ≠ q
  mi : m ≠ i
  mj : m ≠ j
/-- the zip at z: its iterators' pair at p, its own pair at q -/
structure ZSt (h : Heap) (z p q i j l m : Addr) (f0 : Value) (k : Nat) (xs ys : Array Value) : Prop where
  zz : IsZip h z p q f0
  pp : IsPair h p (.ref i) (.ref j)
  qq : ∃ a b, IsPair h q a b
  ii : ItS h i l k xs
  jj : ItS h j m k ys
section
variable {prog : Program} {w : World} {A : Around} {E : Value → Shared → Prop} {s : Shared} {z p q i j l m : Addr} {k : Nat} {xs ys : Array Value}
theorem zip_item {x y : Value} {Q : Value → Shared → Prop} (D : ZA z p q i j l m) (S : ZSt s.heap z p q i j l m .none k xs ys) (hx : xs[k]? = some x) (hy : ys[k]? = some y)
    (hQ : ∀ h', ZSt h' z p q i j l m (rawInt s.heap.objs.size) (k + 1) xs ys → IsPair h' s.heap.objs.size x y → (∀ c o, c ≠ z → c ≠ q → c ≠ i → c ≠ j → s.heap.get? c = some o → h'.get? c = some o) → Q (.ref s.heap.objs.size) { s with heap := h' }) :
    wpAny (model prog w) A (Builtin.«zip.__next__» ⟨[.ref z], []⟩) (fun fin s' => ∃ v, fin = .done (.ret v) ∧ Q v s') E s := by
  obtain ⟨hz, hp, ⟨a, b, hq⟩, hi, hj⟩ := S
  show wpAny _ _ (field (Value.ref z) 2 >>= _) _ _ _
  refine wpAny_bind (wpAny_field hz rfl (x := Value.bool false) rfl ?_)
  show wpAny _ _ (field (Value.ref z) 3 >>= _) _ _ _
  refine wpAny_bind (wpAny_field hz rfl (x := Value.ref p) rfl ?_)
  refine wpAny_bind (wpAny_seqItems hp rfl ?_)
  show wpAny _ _ (Builtin.SmallTypes.ownedTupleIsFree (Value.ref z) >>= _) _ _ _
  refine wpAny_bind ?_
  unfold Builtin.SmallTypes.ownedTupleIsFree
  refine wpAny_bind (wpAny_field hz rfl (x := Value.none) rfl (wpAny_pure ?_))
  simp only [if_true]
  refine wpAny_bind (wpAny_rule ?_)
  refine wpAny_bind (wpAny_field hz rfl (x := Value.ref q) rfl ?_)
  refine wpAny_bind (wpAny_setField_rec hz (by simp) fun g1 z1 s1 => ?_)
  replace z1 : IsZip g1 z p q .ellipsis := z1
  refine wpAny_bind ?_
  simp only [List.zipIdx_cons, List.zipIdx_nil, List.forIn_cons, List.forIn_nil]
  refine wpAny_bind (wpAny_bind (wpAny_onRaise ?_))
  show wpAny _ _ (Builtin.SmallTypes.nextOf (Value.ref i) >>= _) _ _ _
  have hi1 : ItS g1 i l k xs := hi.keep (fun o e => s1.extBut _ _ D.iz e) fun o e => s1.extBut _ _ D.lz e
  refine wpAny_bind (nextS hi1 D.li hx fun g2 i2 s2 => wpAny_pure ?_)
  have q2 : IsPair g2 q a b := s2.extBut _ _ D.qi (s1.extBut _ _ D.qz hq)
  refine wpAny_bind (wpAny_seqItems q2 rfl ?_)
  refine wpAny_bind (wpAny_updateSeq_pair q2 fun g3 q3 s3 => ?_)
  replace q3 : IsPair g3 q x b := q3
  refine wpAny_bind (wpAny_letGo (wpAny_pure ?_))
  refine wpAny_bind (wpAny_bind (wpAny_onRaise ?_))
  show wpAny _ _ (Builtin.SmallTypes.nextOf (Value.ref j) >>= _) _ _ _
  have hj3 : ItS g3 j m k ys := hj.keep (fun o e => s3.extBut _ _ D.qj.symm (s2.extBut _ _ D.ij.symm (s1.extBut _ _ D.jz e))) fun o e => s3.extBut _ _ D.mq (s2.extBut _ _ D.mi (s1.extBut _ _ D.mz e))
  refine wpAny_bind (nextS hj3 D.mj hy fun g4 j4 s4 => wpAny_pure ?_)
  have q4 : IsPair g4 q x b := s4.extBut _ _ D.qj q3
  refine wpAny_bind (wpAny_seqItems q4 rfl ?_)
  refine wpAny_bind (wpAny_updateSeq_pair q4 fun g5 q5 s5 => ?_)
  replace q5 : IsPair g5 q x y := q5
  refine wpAny_bind (wpAny_letGo (wpAny_pure (wpAny_pure ?_)))
  refine wpAny_bind (wpAny_seqItems q5 rfl ?_)
  refine wpAny_bind (wpAny_newTuple ?_)
  have hsz : g5.objs.size = s.heap.objs.size := by rw [s5.1, s4.1, s3.1, s2.1, s1.1]
  have z5 : IsZip g5 z p q .ellipsis := s5.extBut _ _ D.qz.symm (s4.extBut _ _ D.jz.symm (s3.extBut _ _ D.qz.symm (s2.extBut _ _ D.iz.symm z1)))
  have k5 : ∀ c o, c ≠ z → c ≠ q → c ≠ i → c ≠ j → s.heap.get? c = some o → g5.get? c = some o := fun c o c1 c2 c3 c4 e => s5.extBut _ _ c2 (s4.extBut _ _ c4 (s3.extBut _ _ c2 (s2.extBut _ _ c3 (s1.extBut _ _ c1 e))))
  have i5 : ItS g5 i l (k + 1) xs := i2.keep (fun o e => s5.extBut _ _ D.qi.symm (s4.extBut _ _ D.ij (s3.extBut _ _ D.qi.symm e))) fun o e => s5.extBut _ _ D.lq (s4.extBut _ _ D.lj (s3.extBut _ _ D.lq e))
  have j5 : ItS g5 j m (k + 1) ys := j4.keep (fun o e => s5.extBut _ _ D.qj.symm e) fun o e => s5.extBut _ _ D.mq e
  have zlt : z < g5.objs.size := Heap.lt_size z5
  show wpAny _ _ (Builtin.SmallTypes.ownedTupleHandOut (Value.ref z) (Value.ref g5.objs.size) >>= _) _ _ _
  refine wpAny_bind ?_
  unfold Builtin.SmallTypes.ownedTupleHandOut
  have z6 : IsZip (g5.push { cls := .type "tuple", data := .seq #[x, y] }) z p q .ellipsis := Heap.get?_push_of_some _ z5
  refine wpAny_bind (wpAny_setField_rec z6 (by simp) fun g7 z7 s7 => ?_)
  replace z7 : IsZip g7 z p q (rawInt g5.objs.size) := z7
  refine wpAny_setField_rec z7 (by simp) fun g8 z8 s8 => ?_
  replace z8 : IsZip g8 z p q (rawInt g5.objs.size) := z8
  have up : ∀ c o, c ≠ z → g5.get? c = some o → g8.get? c = some o := fun c o c1 e => s8.extBut _ _ c1 (s7.extBut _ _ c1 (Heap.get?_push_of_some _ e))
  have t8 : IsPair g8 g5.objs.size x y := s8.extBut _ _ (Nat.ne_of_gt zlt) (s7.extBut _ _ (Nat.ne_of_gt zlt) (Heap.get?_push_size _ rfl))
  rw [hsz] at z8 t8
  refine wpAny_pure ⟨_, rfl, ?_⟩
  show Q (.ref g5.objs.size) _
  rw [hsz]
  exact hQ g8 ⟨z8, up _ _ D.pz (k5 _ _ D.pz D.pq D.pi D.pj hp), ⟨x, y, up _ _ D.qz q5⟩, i5.keep (fun o e => up _ _ D.iz e) fun o e => up _ _ D.lz e, j5.keep (fun o e => up _ _ D.jz e) fun o e => up _ _ D.mz e⟩ t8 fun c o c1 c2 c3 c4 e => up c o c1 (k5 c o c1 c2 c3 c4 e)
theorem zip_end {Q : PySem.Fin → Shared → Prop} (hh : A.handled = none) (D : ZA z p q i j l m) (S : ZSt s.heap z p q i j l m .none k xs ys) (hend : xs[k]? = none ∨ ys[k]? = none)
    (hE : ∀ h' e, (∀ c o, c ≠ z → c ≠ q → c ≠ i → c ≠ j → s.heap.get? c = some o → h'.get? c = some o) → (∃ o, h'.get? e = some o ∧ o.cls = .type "StopIteration") → E (.ref e) { s with heap := h' }) :
    wpAny (model prog w) A (Builtin.«zip.__next__» ⟨[.ref z], []⟩) Q E s := by
  obtain ⟨hz, hp, ⟨a, b, hq⟩, hi, hj⟩ := S
  show wpAny _ _ (field (Value.ref z) 2 >>= _) _ _ _
  refine wpAny_bind (wpAny_field hz rfl (x := Value.bool false) rfl ?_)
  show wpAny _ _ (field (Value.ref z) 3 >>= _) _ _ _
  refine wpAny_bind (wpAny_field hz rfl (x := Value.ref p) rfl ?_)
  refine wpAny_bind (wpAny_seqItems hp rfl ?_)
  show wpAny _ _ (Builtin.SmallTypes.ownedTupleIsFree (Value.ref z) >>= _) _ _ _
  refine wpAny_bind ?_
  unfold Builtin.SmallTypes.ownedTupleIsFree
  refine wpAny_bind (wpAny_field hz rfl (x := Value.none) rfl (wpAny_pure ?_))
  simp only [if_true]
  refine wpAny_bind (wpAny_rule ?_)
  refine wpAny_bind (wpAny_field hz rfl (x := Value.ref q) rfl ?_)
  refine wpAny_bind (wpAny_setField_rec hz (by simp) fun g1 z1 s1 => ?_)
  replace z1 : IsZip g1 z p q .ellipsis := z1
  refine wpAny_bind ?_
  simp only [List.zipIdx_cons, List.zipIdx_nil, List.forIn_cons, List.forIn_nil]
  refine wpAny_bind (wpAny_bind (wpAny_onRaise ?_))
  show wpAny _ _ (Builtin.SmallTypes.nextOf (Value.ref i) >>= _) _ _ _
  have hi1 : ItS g1 i l k xs := hi.keep (fun o e => s1.extBut _ _ D.iz e) fun o e => s1.extBut _ _ D.lz e
  cases hx : xs[k]? with
  | none =>
    refine wpAny_bind (nextS_end hh hi1 hx fun g2 e s2 he => ?_)
    obtain ⟨oe, hoe, hce⟩ := he
    have z2 : IsZip g2 z p q .ellipsis := s2 _ _ D.iz.symm z1
    have hez : e ≠ z := fun t => by subst t; rw [z2] at hoe; cases hoe; simp at hce
    exact wpAny_setField_rec z2 (by simp) fun g3 _ s3 => hE g3 e (fun c o c1 _ c3 _ t => s3.extBut _ _ c1 (s2 _ _ c3 (s1.extBut _ _ c1 t))) ⟨oe, s3.extBut _ _ hez hoe, hce⟩
  | some x =>
    have hy : ys[k]? = none := by rcases hend with t | t; rw [hx] at t; cases t; exact t
    refine wpAny_bind (nextS hi1 D.li hx fun g2 i2 s2 => wpAny_pure ?_)
    have q2 : IsPair g2 q a b := s2.extBut _ _ D.qi (s1.extBut _ _ D.qz hq)
    refine wpAny_bind (wpAny_seqItems q2 rfl ?_)
    refine wpAny_bind (wpAny_updateSeq_pair q2 fun g3 q3 s3 => ?_)
    refine wpAny_bind (wpAny_letGo (wpAny_pure ?_))
    refine wpAny_bind (wpAny_bind (wpAny_onRaise ?_))
    show wpAny _ _ (Builtin.SmallTypes.nextOf (Value.ref j) >>= _) _ _ _
    have hj3 : ItS g3 j m k ys := hj.keep (fun o e => s3.extBut _ _ D.qj.symm (s2.extBut _ _ D.ij.symm (s1.extBut _ _ D.jz e))) fun o e => s3.extBut _ _ D.mq (s2.extBut _ _ D.mi (s1.extBut _ _ D.mz e))
    refine wpAny_bind (nextS_end hh hj3 hy fun g4 e s4 he => ?_)
    obtain ⟨oe, hoe, hce⟩ := he
    have z4 : IsZip g4 z p q .ellipsis := s4 _ _ D.jz.symm (s3.extBut _ _ D.qz.symm (s2.extBut _ _ D.iz.symm z1))
    have hez : e ≠ z := fun t => by subst t; rw [z4] at hoe; cases hoe; simp at hce
    exact wpAny_setField_rec z4 (by simp) fun g5 _ s5 => hE g5 e (fun c o c1 c2 c3 c4 t => s5.extBut _ _ c1 (s4 _ _ c4 (s3.extBut _ _ c2 (s2.extBut _ _ c3 (s1.extBut _ _ c1 t))))) ⟨oe, s5.extBut _ _ hez hoe, hce⟩
theorem zip_pyNext {x y : Value} {Q : Option Value → Shared → Prop} (D : ZA z p q i j l m) (S : ZSt s.heap z p q i j l m .none k xs ys) (hx : xs[k]? = some x) (hy : ys[k]? = some y)
    (hQ : ∀ h', ZSt h' z p q i j l m (rawInt s.heap.objs.size) (k + 1) xs ys → IsPair h' s.heap.objs.size x y → (∀ c o, c ≠ z → c ≠ q → c ≠ i → c ≠ j → s.heap.get? c = some o → h'.get? c = some o) → Q (some (.ref s.heap.objs.size)) { s with heap := h' }) :
    wpAny (model prog w) A (pyNext (.ref z)) Q E s := by
  have hT : s.TypeIs (.ref z) "zip" := ⟨_, S.zz, rfl⟩
  unfold pyNext
  exact wpAny_bind (wpAny_attempt (wpAny_callSpecial?_slot (name := Str.ofString "__next__") hT F.slot_zip_next (wpAny_call_entry F.slot_zip_next hT F.entry_zip_next (zip_item D S hx hy fun h' a b c => wpAny_pure (hQ h' a b c)) (F.args_zip_next_1 _))))
theorem zip_pyEnd {Q : Option Value → Shared → Prop} (hh : A.handled = none) (D : ZA z p q i j l m) (S : ZSt s.heap z p q i j l m .none k xs ys) (hend : xs[k]? = none ∨ ys[k]? = none)
    (hQ : ∀ h', (∀ c o, c ≠ z → c ≠ q → c ≠ i → c ≠ j → s.heap.get? c = some o → h'.get? c = some o) → Q none { s with heap := h' }) : wpAny (model prog w) A (pyNext (.ref z)) Q E s := by
  have hT : s.TypeIs (.ref z) "zip" := ⟨_, S.zz, rfl⟩
  unfold pyNext
  refine wpAny_bind (wpAny_attempt (wpAny_callSpecial?_slot (name := Str.ofString "__next__") hT F.slot_zip_next (wpAny_call_entry F.slot_zip_next hT F.entry_zip_next (zip_end hh D S hend fun h' e hk he => ?_) (F.args_zip_next_1 _))))
  obtain ⟨o, ho, hc⟩ := he
  exact wpAny_bind (wpAny_isInstance (T := "StopIteration") (b := true) ⟨o, ho, hc⟩ isSubtype_stop (wpAny_pure (hQ _ hk)))
/-- zip(a, b) -/
theorem zip_new (l m : Addr) (xs ys : Array Value) : Meets (Builtin.«zip.__new__» ⟨[.type "zip", .ref l, .ref m], []⟩) (fun _ R s => SqAt s.heap l xs ∧ SqAt s.heap m ys ∧
    ∀ h', h'.objs.size = s.heap.objs.size + 5 → ZSt h' (s.heap.objs.size + 4) (s.heap.objs.size + 2) (s.heap.objs.size + 3) s.heap.objs.size (s.heap.objs.size + 1) l m .none 0 xs ys → (∀ c o, s.heap.get? c = some o → h'.get? c = some o) →
      R (.ok (.ret (.ref (s.heap.objs.size + 4)))) { s with heap := h' }) :=
  .of_wp fun prog w A R s h => by
    obtain ⟨hp, g, d, tk, os⟩ := s; obtain ⟨h1, h2, h⟩ := h
    have hsub := sub_zip
    have fin : ∀ (oi oj : Obj), ItS (hp.push oi) hp.objs.size l 0 xs → ItS ((hp.push oi).push oj) (hp.push oi).objs.size m 0 ys →
        R (.ok (.ret (.ref ((((hp.push oi).push oj).push { cls := .type "tuple", data := .seq #[.ref hp.objs.size, .ref (hp.push oi).objs.size] }).push { cls := .type "tuple", data := .seq #[.none, .none] }).objs.size)))
          ⟨((((hp.push oi).push oj).push { cls := .type "tuple", data := .seq #[.ref hp.objs.size, .ref (hp.push oi).objs.size] }).push { cls := .type "tuple", data := .seq #[.none, .none] }).push { cls := .type "zip", data := .fields #[.none, .bool false, .bool false, .ref ((hp.push oi).push oj).objs.size, .ref (((hp.push oi).push oj).push { cls := .type "tuple", data := .seq #[.ref hp.objs.size, .ref (hp.push oi).objs.size] }).objs.size] }, g, d, tk, os⟩ := fun oi oj hi hj => by
      have e1 : (hp.push oi).objs.size = hp.objs.size + 1 := Heap.size_push ..
      have e2 : ((hp.push oi).push oj).objs.size = hp.objs.size + 2 := by rw [Heap.size_push, e1]
      have e3 : (((hp.push oi).push oj).push { cls := .type "tuple", data := .seq #[.ref hp.objs.size, .ref (hp.push oi).objs.size] }).objs.size = hp.objs.size + 3 := by rw [Heap.size_push, e2]
      have e4 : ((((hp.push oi).push oj).push { cls := .type "tuple", data := .seq #[.ref hp.objs.size, .ref (hp.push oi).objs.size] }).push { cls := .type "tuple", data := .seq #[.none, .none] }).objs.size = hp.objs.size + 4 := by rw [Heap.size_push, e3]
      rw [e4, e3, e2]
      rw [e1] at hj ⊢
      have kk : ∀ (c : Addr) (o a b c' : Obj), ((hp.push oi).push oj).get? c = some o → (((((hp.push oi).push oj).push a).push b).push c').get? c = some o := fun c o a b c' e => Heap.get?_push_of_some _ (Heap.get?_push_of_some _ (Heap.get?_push_of_some _ e))
      refine h _ (by rw [Heap.size_push, Heap.size_push, Heap.size_push, e2]) ⟨?_, ?_, ⟨.none, .none, ?_⟩, ?_, ?_⟩ fun c o e => kk _ _ _ _ _ (Heap.get?_push_of_some _ (Heap.get?_push_of_some _ e))
      · have : hp.objs.size + 4 = ((((hp.push oi).push oj).push { cls := .type "tuple", data := .seq #[.ref hp.objs.size, .ref (hp.objs.size + 1)] }).push { cls := .type "tuple", data := .seq #[.none, .none] }).objs.size := by rw [Heap.size_push, Heap.size_push, e2]
        show Heap.get? _ (hp.objs.size + 4) = _
        rw [this]
        exact Heap.get?_push_size _ rfl
      · refine Heap.get?_push_of_some _ (Heap.get?_push_of_some _ ?_)
        show Heap.get? _ (hp.objs.size + 2) = _
        rw [← e2]
        exact Heap.get?_push_size _ rfl
      · refine Heap.get?_push_of_some _ ?_
        have : hp.objs.size + 3 = (((hp.push oi).push oj).push { cls := .type "tuple", data := .seq #[.ref hp.objs.size, .ref (hp.objs.size + 1)] }).objs.size := by rw [Heap.size_push, e2]
        show Heap.get? _ (hp.objs.size + 3) = _
        rw [this]
        exact Heap.get?_push_size _ rfl
      · exact hi.keep (fun o e => kk _ _ _ _ _ (Heap.get?_push_of_some _ e)) fun o e => kk _ _ _ _ _ (Heap.get?_push_of_some _ e)
      · exact hj.keep (fun o e => kk _ _ _ _ _ e) fun o e => kk _ _ _ _ _ e
    rcases h1 with h1 | h1 <;> rcases h2 with h2 | h2
    · have l1 : Heap.IsList (Shared.heap ⟨hp, g, d, tk, os⟩) l xs := h1
      have l2 : Heap.IsList (Shared.heap ⟨hp.push { cls := .type "list_iterator", data := .fields #[.ref l, .int 0 0] }, g, d, tk, os⟩) m ys := Heap.IsList.push h2 _
      wp_walk using wpAny_pyIter_list l1, wpAny_pyIter_list l2
      exact ⟨_, rfl, fin _ _ (.inl ⟨⟨_, Heap.get?_push_size _ rfl, rfl, rfl⟩, Heap.IsList.push h1 _⟩) (.inl ⟨⟨_, Heap.get?_push_size _ rfl, rfl, rfl⟩, Heap.IsList.push l2 _⟩)⟩
    · have l1 : Heap.IsList (Shared.heap ⟨hp, g, d, tk, os⟩) l xs := h1
      have l2 : Heap.IsTuple (Shared.heap ⟨hp.push { cls := .type "list_iterator", data := .fields #[.ref l, .int 0 0] }, g, d, tk, os⟩) m ys := Heap.IsTuple.push h2 _
      wp_walk using wpAny_pyIter_list l1, wpAny_pyIter_tuple l2
      exact ⟨_, rfl, fin _ _ (.inl ⟨⟨_, Heap.get?_push_size _ rfl, rfl, rfl⟩, Heap.IsList.push h1 _⟩) (.inr ⟨⟨_, Heap.get?_push_size _ rfl, rfl, rfl⟩, Heap.IsTuple.push l2 _⟩)⟩
    · have l1 : Heap.IsTuple (Shared.heap ⟨hp, g, d, tk, os⟩) l xs := h1
      have l2 : Heap.IsList (Shared.heap ⟨hp.push { cls := .type "tuple_iterator", data := .fields #[.ref l, .int 0 0] }, g, d, tk, os⟩) m ys := Heap.IsList.push h2 _
      wp_walk using wpAny_pyIter_tuple l1, wpAny_pyIter_list l2
      exact ⟨_, rfl, fin _ _ (.inr ⟨⟨_, Heap.get?_push_size _ rfl, rfl, rfl⟩, Heap.IsTuple.push h1 _⟩) (.inl ⟨⟨_, Heap.get?_push_size _ rfl, rfl, rfl⟩, Heap.IsList.push l2 _⟩)⟩
    · have l1 : Heap.IsTuple (Shared.heap ⟨hp, g, d, tk, os⟩) l xs := h1
      have l2 : Heap.IsTuple (Shared.heap ⟨hp.push { cls := .type "tuple_iterator", data := .fields #[.ref l, .int 0 0] }, g, d, tk, os⟩) m ys := Heap.IsTuple.push h2 _
      wp_walk using wpAny_pyIter_tuple l1, wpAny_pyIter_tuple l2
      exact ⟨_, rfl, fin _ _ (.inr ⟨⟨_, Heap.get?_push_size _ rfl, rfl, rfl⟩, Heap.IsTuple.push h1 _⟩) (.inr ⟨⟨_, Heap.get?_push_size _ rfl, rfl, rfl⟩, Heap.IsTuple.push l2 _⟩)⟩
theorem call_zip {Q : Value → Shared → Prop} {l m : Addr} (h1 : SqAt s.heap l xs) (h2 : SqAt s.heap m ys)
    (h : ∀ h', h'.objs.size = s.heap.objs.size + 5 → ZSt h' (s.heap.objs.size + 4) (s.heap.objs.size + 2) (s.heap.objs.size + 3) s.heap.objs.size (s.heap.objs.size + 1) l m .none 0 xs ys → (∀ c o, s.heap.get? c = some o → h'.get? c = some o) →
      Q (.ref (s.heap.objs.size + 4)) { s with heap := h' }) : wpAny (model prog w) A (call (.type "zip") [.ref l, .ref m]) Q E s := by
  refine callType_new F.called_zip (by decide) (F.typeCall_zip_2 _ _) (F.newCall_zip_2 _ _) (fun obj => F.args_object_init_3 obj _ _) F.entry_zip_new (zip_new l m xs ys) ⟨h1, h2, fun h' e S k => ?_⟩
  exact ⟨⟨_, S.zz, rfl⟩, h h' e S k⟩
end
end D2
set_option Elab.async false
set_option linter.all false
set_option maxRecDepth 100000
set_option maxHeartbeats 4000000
namespace D2
open PySem PySem.Spec PyProof.Rows L2
/-! ### iterators of several objects -/
section
variable {X : Cx} {pins : List (Addr × Obj)} {σ : St} {H : Hp} {s : Shared} {h' : Heap}
theorem inv_turnedS {t' : Nat} {fp : List Addr} (I : Inv X pins σ H s) (k : ∀ b o, b ∉ fp → s.heap.get? b = some o → h'.get? b = some o) (hf : ∀ b ∈ fp, FpOk X pins H b) : Inv X pins σ H { s with heap := h', toks := t' } := by
  have away : ∀ b u, H b = some u → b ∉ fp := fun b u e z => by rw [(hf b z).1] at e; cases e
  have frame : X.env.locals ∉ fp := fun z => (hf _ z).2.1 rfl
  refine I.step (g' := s.gens) (d' := s.drawn) (ch := fp) (fun b hb => ⟨(hf b hb).2.2.2.1, (hf b hb).2.1, (hf b hb).2.2.2.2.1, (hf b hb).2.2.2.2.2⟩) (fun b o _ _ hc e _ => k b o hc e) (fun b o _ _ hc e _ => ⟨o.slots, k b o hc e⟩) (fun _ _ _ _ n => n)
    (fun b o hc e => ⟨o, k b o hc e⟩) (fun _ _ e => e) (fun _ _ _ e => e) (fun b ps e => ⟨#[], by rw [e]; simp⟩) (fun m ⟨o, es, ep, ho, r⟩ => ⟨o, es, ep, k _ o frame ho, r⟩) (fun b u e => ?_) I.bare
  refine (I.hok b u e).stay (fun c v hc q => k c v ?_ q) (fun _ q => q) fun _ _ q => q
  rcases hc with z | z
  · rw [z]; exact away b u e
  · exact away c _ z
theorem push_old {h : Heap} {o o' : Obj} {b : Addr} (hb : b ≠ h.objs.size) (e : (h.push o).get? b = some o') : h.get? b = some o' := by
  unfold Heap.get? Heap.push at e
  unfold Heap.get?
  simp only [Array.getElem?_push] at e
  rw [if_neg hb] at e
  exact e
/-- the iterators turned, a new pair told -/
theorem inv_out {t' : Nat} {fp : List Addr} {u1 u2 : Value} {v1 v2 : V} (I : Inv X pins σ H s) (hf : ∀ b ∈ fp, FpOk X pins H b) (hob : ∀ b ∈ fp, b < s.heap.objs.size) (ht : IsPair h' s.heap.objs.size u1 u2) (k : ∀ b o, b ∉ fp → s.heap.get? b = some o → h'.get? b = some o)
    (r1 : RelV v1 u1) (r2 : RelV v2 u2) : Inv X pins σ (upd H s.heap.objs.size (.tup [v1, v2])) { s with heap := h', toks := t' } := by
  have I1 : Inv X pins σ (upd H s.heap.objs.size (.tup [v1, v2])) { s with heap := s.heap.push { cls := .type "tuple", data := .seq #[u1, u2] }, toks := s.toks } :=
    I.laid (fun b u e => Heap.get?_push_of_some _ e) (Nat.le_refl _) ⟨by show 2 ≤ sizeLine; decide, [u1, u2], .cons r1 (.cons r2 .nil), _, Heap.get?_push_size _ rfl, rfl, _, rfl⟩
  refine inv_turnedS (fp := fp) (s := { s with heap := s.heap.push { cls := .type "tuple", data := .seq #[u1, u2] }, toks := s.toks }) I1 (fun b o hb e => ?_) fun b hb => ?_
  · by_cases hz : b = s.heap.objs.size
    · subst hz
      have e' : (s.heap.push { cls := .type "tuple", data := .seq #[u1, u2] }).get? s.heap.objs.size = some o := e
      rw [Heap.get?_push_size _ rfl] at e'
      cases e'
      exact ht
    · exact k b o hb (push_old hz e)
  · obtain ⟨f0, f1, f2, f3, f4, f5⟩ := hf b hb
    exact ⟨by rw [upd_ne (Nat.ne_of_lt (hob b hb))]; exact f0, f1, f2, f3, f4, f5⟩
end
/-- a tuple (true) or a list (false) -/
def SqB (K : PySem.W.Frag) (H : Hp) (a : Addr) (xs : List V) : Bool → Prop
  | true => SqT K H a xs
  | false => SqL K H a xs
def IterB (h : Heap) (i l : Addr) (k : Nat) : Bool → Prop
  | true => h.IsTupleIter i l k
  | false => h.IsListIter i l k
theorem IterB.keep {h h' : Heap} {i l : Addr} {k : Nat} {b : Bool} (x : IterB h i l k b) (hi : ∀ o, h.get? i = some o → h'.get? i = some o) : IterB h' i l k b := by
  cases b
  · obtain ⟨o, e, r⟩ := x; exact ⟨o, hi _ e, r⟩
  · obtain ⟨o, e, r⟩ := x; exact ⟨o, hi _ e, r⟩
theorem IterB.there {h : Heap} {i l : Addr} {k : Nat} {b : Bool} (x : IterB h i l k b) : ∃ o, h.get? i = some o ∧ ∀ v, o.data ≠ .cell v := by
  cases b
  · obtain ⟨o, e, c, d⟩ := x; exact ⟨o, e, fun v z => by rw [d] at z; cases z⟩
  · obtain ⟨o, e, c, d⟩ := x; exact ⟨o, e, fun v z => by rw [d] at z; cases z⟩
section
variable {X : Cx} {pins : List (Addr × Obj)} {σ : St} {H : Hp} {s : Shared}
theorem inv_sq {a : Addr} {xs : List V} {b : Bool} (I : Inv X pins σ H s) (h : SqB X.K H a xs b) : ∃ its : List Value, Vals xs its ∧ SqAt s.heap a its.toArray ∧ ∀ (i : Addr) (k : Nat), IterB s.heap i a k b → ItS s.heap i a k its.toArray := by
  cases b
  · obtain ⟨its, rv, p, _⟩ := I.list h
    exact ⟨its, rv, .inl p.isList, fun i k z => .inl ⟨z, p.isList⟩⟩
  · obtain ⟨its, rv, p, _⟩ := I.tuple h
    exact ⟨its, rv, .inr p, fun i k z => .inr ⟨z, p⟩⟩
theorem inv_sq_inj {a : Addr} {xs ys : List V} {b : Bool} (I : Inv X pins σ H s) (h : SqB X.K H a xs b) (h' : SqB X.K H a ys b) : ys = xs := by
  cases b
  · exact I.list_inj h' h
  · exact I.tuple_inj h' h
theorem ItS.toB {h : Heap} {i l : Addr} {k : Nat} {xs : Array Value} {b : Bool} (hl : ∀ ys, (b = true → ¬ h.IsList l ys) ∧ (b = false → ¬ h.IsTuple l ys)) (x : ItS h i l k xs) : IterB h i l k b := by
  cases b
  · rcases x with ⟨z, w⟩ | ⟨z, w⟩
    · exact z
    · exact absurd w ((hl xs).2 rfl)
  · rcases x with ⟨z, w⟩ | ⟨z, w⟩
    · exact absurd w ((hl xs).1 rfl)
    · exact z
theorem list_tuple {h : Heap} {l : Addr} {xs ys : Array Value} (a : h.IsList l xs) (b : h.IsTuple l ys) : False := by
  obtain ⟨o, e, c, _⟩ := a
  obtain ⟨o', e', c', _⟩ := b
  rw [e] at e'; cases e'
  rw [c] at c'
  injection c' with z
  exact absurd z (by decide)
theorem inv_kind {a : Addr} {xs : List V} {b : Bool} (I : Inv X pins σ H s) (h : SqB X.K H a xs b) {h' : Heap} (kp : ∀ c o, s.heap.get? c = some o → h'.get? c = some o) : ∀ ys, (b = true → ¬ h'.IsList a ys) ∧ (b = false → ¬ h'.IsTuple a ys) := fun ys => by
  cases b
  · obtain ⟨its, rv, p, _⟩ := I.list h
    refine ⟨fun z => (by cases z), fun _ w => ?_⟩
    obtain ⟨o, e, r⟩ := p.isList
    exact list_tuple (h := h') (xs := its.toArray) ⟨o, kp _ _ e, r⟩ w
  · obtain ⟨its, rv, p, _⟩ := I.tuple h
    refine ⟨fun _ w => ?_, fun z => by cases z⟩
    obtain ⟨o, e, r⟩ := p
    exact list_tuple (h := h') w ⟨o, kp _ _ e, r⟩
end
/-! ### zip, walked by pairs -/
def ItZ (K : PySem.W.Frag) (l m : Addr) (b c : Bool) : It :=
  ⟨fun i H => ∃ xs ys x y, SqB K H l xs b ∧ SqB K H m ys c ∧ xs[i]? = some x ∧ ys[i]? = some y,
   fun i H v H' => ∃ a x y, H a = none ∧ v = .ref a ∧ H' = upd H a (.tup [x, y]) ∧ (∀ xs, SqB K H l xs b → xs[i]? = some x) ∧ ∀ ys, SqB K H m ys c → ys[i]? = some y,
   fun i H => ∃ xs ys, SqB K H l xs b ∧ SqB K H m ys c ∧ (xs.length ≤ i ∨ ys.length ≤ i)⟩
structure ZTn (z p q i j l m : Addr) (b c : Bool) (k : Nat) (h : Heap) : Prop where
  zz : IsZip h z p q .none
  pp : IsPair h p (.ref i) (.ref j)
  qq : ∃ a b, IsPair h q a b
  ii : IterB h i l k b
  jj : IterB h j m k c
theorem turn_zip {P : Program} {w : World} {K : PySem.W.Frag} {elts : List Expr} {x1} {pos : Pos} {z p q i j l m : Addr} {b c : Bool} (D : ZA z p q i j l m) : Turn P w K (.Tuple elts x1 pos) (ItZ K l m b c) [z, p, q, i, j] z (ZTn z p q i j l m b c) where
  mem := by simp
  obj := fun k h st a ha => by
    simp only [List.mem_cons, List.not_mem_nil, or_false] at ha
    rcases ha with rfl | rfl | rfl | rfl | rfl
    · exact ⟨_, st.zz, fun v e => by cases e⟩
    · exact ⟨_, st.pp, fun v e => by cases e⟩
    · obtain ⟨_, _, e⟩ := st.qq; exact ⟨_, e, fun v e => by cases e⟩
    · exact st.ii.there
    · exact st.jj.there
  keep := fun k h h' st kp => ⟨kp z (by simp) _ st.zz, kp p (by simp) _ st.pp, let ⟨a, b, e⟩ := st.qq; ⟨a, b, kp q (by simp) _ e⟩, st.ii.keep fun o e => kp i (by simp) o e, st.jj.keep fun o e => kp j (by simp) o e⟩
  item := by
    intro X hP hw hK hc k pins s σ H E I hf st hg
    subst hP hw hK
    obtain ⟨xs, ys, x, y, h1, h2, hx, hy⟩ := hg
    obtain ⟨its, rv, _, p1⟩ := inv_sq I h1
    obtain ⟨jts, rw', _, p2⟩ := inv_sq I h2
    obtain ⟨u, hu, ru⟩ := rv.get hx
    obtain ⟨v, hv, ry⟩ := rw'.get hy
    have S : ZSt s.heap z p q i j l m .none k its.toArray jts.toArray := ⟨st.zz, st.pp, st.qq, p1 _ _ st.ii, p2 _ _ st.jj⟩
    refine zip_pyNext D S (x := u) (y := v) (by simpa using hu) (by simpa using hv) fun h' S' hp kp => ⟨_, rfl, ?_⟩
    have zlt : z < s.heap.objs.size := Heap.lt_size st.zz
    refine wpAny_letOwnedTupleGo_zip (s := { s with heap := h' }) S'.zz fun h2' hz2 sb => ?_
    have up : ∀ a o, a ≠ z → h'.get? a = some o → h2'.get? a = some o := fun a o ha e => sb.extBut a o ha e
    have hob : ∀ a ∈ [z, p, q, i, j], a < s.heap.objs.size := fun a ha => by
      simp only [List.mem_cons, List.not_mem_nil, or_false] at ha
      rcases ha with rfl | rfl | rfl | rfl | rfl
      · exact Heap.lt_size st.zz
      · exact Heap.lt_size st.pp
      · obtain ⟨_, _, e⟩ := st.qq; exact Heap.lt_size e
      · obtain ⟨o, e, _⟩ := st.ii.there; exact Heap.lt_size e
      · obtain ⟨o, e, _⟩ := st.jj.there; exact Heap.lt_size e
    have hn : H s.heap.objs.size = none := I.hok.fresh (Nat.le_refl _)
    refine ⟨.ref s.heap.objs.size, _, inv_out (s := s) (t' := s.toks) (fp := [z, p, q, i, j]) (h' := h2') (u1 := u) (u2 := v) (v1 := x) (v2 := y) I hf hob (up _ _ (Nat.ne_of_gt zlt) hp) (fun a o ha e => ?_) ru ry, rfl, ⟨_, x, y, hn, rfl, rfl, fun zs hz => by rw [inv_sq_inj I h1 hz]; exact hx, fun zs hz => by rw [inv_sq_inj I h2 hz]; exact hy⟩, ?_, fun a ha => ?_⟩
    · simp only [List.mem_cons, List.not_mem_nil, or_false, not_or] at ha
      exact up a o ha.1 (kp a o ha.1 ha.2.2.1 ha.2.2.2.1 ha.2.2.2.2 e)
    · have i2 : IterB h' i l (k + 1) b := by
        refine S'.ii.toB fun ys => ?_
        cases hb : b
        · subst hb
          refine ⟨fun z => (by cases z), fun _ w => ?_⟩
          obtain ⟨_, _, pl, _⟩ := I.list h1
          obtain ⟨o, e, r⟩ := pl.isList
          exact list_tuple (h := h') (xs := _) ⟨o, kp _ _ D.lz D.lq D.li D.lj e, r⟩ w
        · subst hb
          refine ⟨fun _ w => ?_, fun z => by cases z⟩
          obtain ⟨_, _, pl, _⟩ := I.tuple h1
          obtain ⟨o, e, r⟩ := pl
          exact list_tuple (h := h') w ⟨o, kp _ _ D.lz D.lq D.li D.lj e, r⟩
      have j2 : IterB h' j m (k + 1) c := by
        refine S'.jj.toB fun ys => ?_
        cases hb : c
        · subst hb
          refine ⟨fun z => (by cases z), fun _ w => ?_⟩
          obtain ⟨_, _, pl, _⟩ := I.list h2
          obtain ⟨o, e, r⟩ := pl.isList
          exact list_tuple (h := h') (xs := _) ⟨o, kp _ _ D.mz D.mq D.mi D.mj e, r⟩ w
        · subst hb
          refine ⟨fun _ w => ?_, fun z => by cases z⟩
          obtain ⟨_, _, pl, _⟩ := I.tuple h2
          obtain ⟨o, e, r⟩ := pl
          exact list_tuple (h := h') w ⟨o, kp _ _ D.mz D.mq D.mi D.mj e, r⟩
      exact ⟨hz2, up _ _ D.pz S'.pp, let ⟨a, b, e⟩ := S'.qq; ⟨a, b, up _ _ D.qz e⟩, i2.keep fun o e => up _ _ D.iz e, j2.keep fun o e => up _ _ D.jz e⟩
    · rw [upd_ne (Nat.ne_of_lt (hob a ha))]; exact (hf a ha).1
  done := by
    intro X hP hw hK hc k pins s σ H E I hf st hg
    subst hP hw hK
    obtain ⟨xs, ys, h1, h2, hl⟩ := hg
    obtain ⟨its, rv, _, p1⟩ := inv_sq I h1
    obtain ⟨jts, rw', _, p2⟩ := inv_sq I h2
    have S : ZSt s.heap z p q i j l m .none k its.toArray jts.toArray := ⟨st.zz, st.pp, st.qq, p1 _ _ st.ii, p2 _ _ st.jj⟩
    have e1 := rv.length
    have e2 := rw'.length
    refine zip_pyEnd (I.ok.hd hc) D S ?_ fun h' kp => ⟨rfl, inv_turnedS (t' := s.toks) (fp := [z, p, q, i, j]) I (fun a o ha e => ?_) hf⟩
    · rcases hl with hl | hl
      · left; simp; omega
      · right; simp; omega
    · simp only [List.mem_cons, List.not_mem_nil, or_false, not_or] at ha
      exact kp a o ha.1 ha.2.2.1 ha.2.2.2.1 ha.2.2.2.2 e
  self := fun _ _ _ _ _ st h => wpAny_pyIter_zip st.zz h
end D2
set_option Elab.async false
set_option linter.all false
set_option maxRecDepth 100000
set_option maxHeartbeats 4000000
namespace D2
open PySem PySem.Spec PyProof.Rows L2
/-! ### zip as data -/
def SqD (H : Hp) (a : Addr) (ds : List PyData) : Bool → Prop
  | true => ∃ vs, H a = some (.tup vs) ∧ RpA H ds vs
  | false => ∃ o vs, H a = some (.frz o (.lst vs)) ∧ RpA H ds vs
theorem SqD.sq {K : PySem.W.Frag} {H : Hp} {a : Addr} {ds : List PyData} {b : Bool} (h : SqD H a ds b) : ∃ vs, SqB K H a vs b ∧ RpA H ds vs := by
  cases b
  · obtain ⟨o, vs, e, r⟩ := h; exact ⟨vs, .inl (.inr ⟨o, e⟩), r⟩
  · obtain ⟨vs, e, r⟩ := h; exact ⟨vs, SqT.of e, r⟩
theorem SqD.kp {H H' : Hp} {a : Addr} {ds : List PyData} {b : Bool} (h : SqD H a ds b) (k : Kp H H') : SqD H' a ds b := by
  cases b
  · obtain ⟨o, vs, e, r⟩ := h; exact ⟨o, vs, k.2 _ _ _ e, RpA.kp k _ _ r⟩
  · obtain ⟨vs, e, r⟩ := h; exact ⟨vs, k.1 _ _ e, RpA.kp k _ _ r⟩
def pairD (p : PyData × PyData) : PyData := .tuple [p.1, p.2]
def zipD (xs ys : List PyData) : List PyData := (xs.zip ys).map pairD
theorem zipD_get {xs ys : List PyData} {i : Nat} {d : PyData} (h : (zipD xs ys)[i]? = some d) : ∃ x y, xs[i]? = some x ∧ ys[i]? = some y ∧ d = .tuple [x, y] := by
  unfold zipD at h
  rw [List.getElem?_map] at h
  cases e : (xs.zip ys)[i]? with
  | none => rw [e] at h; cases h
  | some p =>
    rw [e] at h
    obtain ⟨h1, h2⟩ := List.getElem?_zip_eq_some.mp e
    exact ⟨p.1, p.2, h1, h2, (Option.some.inj h).symm⟩
theorem zipD_len (xs ys : List PyData) : (zipD xs ys).length = min xs.length ys.length := by unfold zipD; simp
theorem itd_zip {K : PySem.W.Frag} {l m : Addr} {b c : Bool} {xs ys : List PyData} : ItD (ItZ K l m b c) (fun H => SqD H l xs b ∧ SqD H m ys c) (zipD xs ys) where
  go := fun i H ⟨h1, h2⟩ hi => by
    rw [zipD_len] at hi
    obtain ⟨vs, s1, r1⟩ := h1.sq (K := K)
    obtain ⟨us, s2, r2⟩ := h2.sq (K := K)
    obtain ⟨x, hx, _⟩ := r1.get (List.getElem?_eq_getElem (show i < xs.length by omega))
    obtain ⟨y, hy, _⟩ := r2.get (List.getElem?_eq_getElem (show i < ys.length by omega))
    exact ⟨vs, us, x, y, s1, s2, hx, hy⟩
  yld := fun i H v H' d ⟨h1, h2⟩ hd h => by
    obtain ⟨a, x, y, ha, rfl, rfl, k1, k2⟩ := h
    obtain ⟨vs, s1, r1⟩ := h1.sq (K := K)
    obtain ⟨us, s2, r2⟩ := h2.sq (K := K)
    obtain ⟨dx, dy, e1, e2, rfl⟩ := zipD_get hd
    obtain ⟨x', hx, px⟩ := r1.get e1
    obtain ⟨y', hy, py⟩ := r2.get e2
    have q1 := k1 vs s1
    have q2 := k2 us s2
    rw [hx] at q1; rw [hy] at q2
    cases q1; cases q2
    exact ⟨same_up ha _, rp_new_tup ha (RpA.cons px (RpA.cons py RpA.nil))⟩
  stop := fun i H ⟨h1, h2⟩ hi => by
    rw [zipD_len] at hi
    obtain ⟨vs, s1, r1⟩ := h1.sq (K := K)
    obtain ⟨us, s2, r2⟩ := h2.sq (K := K)
    have l1 := r1.length
    have l2 := r2.length
    exact ⟨vs, us, s1, s2, by omega⟩
theorem za_new {n l m : Nat} (hl : l < n) (hm : m < n) : ZA (n + 4) (n + 2) (n + 3) n (n + 1) l m := by
  refine ⟨?_, ?_, ?_, ?_, ?_, ?_, ?_, ?_, ?_, ?_, ?_, ?_, ?_, ?_, ?_, ?_, ?_, ?_⟩ <;> (intro z; have z' : (_ : Nat) = _ := z; omega)
section
variable {X : Cx} {elts : List Expr} {x1 : Nat} {tp : Pos} {a b : Expr} {fa fb : Fe} {pos p : Pos} {nl : Nat} {G : List Str} {fs : Rho → R (List PyData)}
def iZp (K : PySem.W.Frag) (ta : TA) : TI := fun σ H R => ta σ H fun vs H1 => ∃ l m xs ys b c, vs = [.ref l, .ref m] ∧ SqB K H1 l xs b ∧ SqB K H1 m ys c ∧ R (ItZ K l m b c) H1
theorem pi_zip {ta : TA} (hg : Gl X "zip") (hm : X.mg "zip" = none) (ha : PA X [a, b] ta) (hs : starEach [a, b] X.env = [(false, eval a X.env), (false, eval b X.env)]) (hs2 : starEach [b] X.env = [(false, eval b X.env)]) :
    PI X (.Tuple elts x1 tp) (.Call (.Name "zip" p) [a, b] [] pos) (iZp X.K ta) := by
  intro pins s σ H R I h
  refine Call_ (ld_blt I hg hm boot_zip (PyProof.Rows.callWith_type1 (thn (ha pos pins s σ H _ I h) fun us s1 ⟨vs, H1, I1, r1, q1⟩ => ?_) (by rw [hs, hs2]) (by rw [hs2]; rfl)))
  obtain ⟨l, m, xs, ys, b, c, e, h1, h2, q⟩ := q1
  subst e
  obtain ⟨u, v, rfl, ru, rv⟩ := vals2 r1
  cases ru
  cases rv
  obtain ⟨its, w1, p1, g1⟩ := inv_sq I1 h1
  obtain ⟨jts, w2, p2, g2⟩ := inv_sq I1 h2
  have ll : l < s1.heap.objs.size := by rcases p1 with ⟨o, e, _⟩ | ⟨o, e, _⟩ <;> exact Heap.lt_size e
  have lm : m < s1.heap.objs.size := by rcases p2 with ⟨o, e, _⟩ | ⟨o, e, _⟩ <;> exact Heap.lt_size e
  refine call_zip p1 p2 fun h' hz S kp => wpAny_pyIter_zip S.zz ?_
  have D := za_new ll lm
  have I2 : Inv X pins σ H1 { s1 with heap := h' } := I1.kept (t' := s1.toks) kp
  have i2 : IterB h' s1.heap.objs.size l 0 b := S.ii.toB (inv_kind I1 h1 kp)
  have j2 : IterB h' (s1.heap.objs.size + 1) m 0 c := S.jj.toB (inv_kind I1 h2 kp)
  refine ⟨_, [s1.heap.objs.size + 4, s1.heap.objs.size + 2, s1.heap.objs.size + 3, s1.heap.objs.size, s1.heap.objs.size + 1], _, _, H1, rfl, I2, turn_zip (b := b) (c := c) D, ⟨S.zz, S.pp, S.qq, i2, j2⟩, fun a ha => ?_, q⟩
  have hle : s1.heap.objs.size ≤ a := by
    simp only [List.mem_cons, List.not_mem_nil, or_false] at ha
    rcases ha with rfl | rfl | rfl | rfl | rfl
    · exact Nat.le_add_right _ 4
    · exact Nat.le_add_right _ 2
    · exact Nat.le_add_right _ 3
    · exact Nat.le_refl _
    · exact Nat.le_add_right _ 1
  exact I1.fpOk hle (I1.hok.fresh hle)
def iZip (fa fb : Fe) : Rho → R (List PyData) := fun ρ => fa ρ >>= fun x => fb ρ >>= fun y => seqD x >>= fun xs => seqD y >>= fun ys => .ok (zipD xs ys)
theorem rp_seq {H : Hp} {d : PyData} {v : V} {ds : List PyData} (h : Rp H d v) (e : seqD d = .ok ds) : ∃ a b, v = .ref a ∧ SqD H a ds b := by
  cases d with
  | list xs =>
    cases e
    simp only [Rp] at h
    obtain ⟨a, o, vs, rfl, h, r⟩ := h
    exact ⟨a, false, rfl, o, vs, h, r⟩
  | tuple xs =>
    cases e
    simp only [Rp] at h
    obtain ⟨a, vs, rfl, h, r⟩ := h
    exact ⟨a, true, rfl, vs, h, r⟩
  | _ => cases e
theorem ei_zip (T : Tb X nl G) (j : Nat) (hG : G[j]? = some ("zip" : Str)) (hm : X.mg "zip" = none) (ha : EvE X a fa) (hb : EvE X b fb) (h1 : notStar a = true := by rfl) (h2 : notStar b = true := by rfl) :
    EvI X (.Tuple elts x1 tp) (.Call (.Name "zip" p) [a, b] [] pos) (iZip fa fb) := by
  have g := T.gl _ (List.mem_of_getElem? hG)
  refine PI.imp (pi_zip g.1 hm (ea_cons ha (ea_cons hb ea_nil h2) h1) (by rw [star_cons h1, star_cons h2]; rfl) (by rw [star_cons h2]; rfl)) fun σ H Rk h => ?_
  obtain ⟨ρ, sl, q⟩ := h
  unfold iZip at q
  refine ⟨ρ, sl, ?_⟩
  unfold aCons aNil
  cases e1 : fa ρ with
  | ex c => rw [e1] at q; exact q
  | no => rw [e1] at q; exact q
  | ok x =>
    rw [e1] at q
    simp only [R.ok_bind] at q ⊢
    cases e2 : fb ρ with
    | ex c => rw [e2] at q; exact q
    | no => rw [e2] at q; exact q
    | ok y =>
      rw [e2] at q
      simp only [R.ok_bind] at q ⊢
      cases e3 : seqD x with
      | ex c => rw [e3] at q; exact q.elim
      | no => rw [e3] at q; exact q.elim
      | ok xs =>
        rw [e3] at q
        simp only [R.ok_bind] at q
        cases e4 : seqD y with
        | ex c => rw [e4] at q; exact q.elim
        | no => rw [e4] at q; exact q.elim
        | ok ys =>
          rw [e4] at q
          simp only [R.ok_bind] at q
          intro vs H1 s1 ra
          simp only [RA] at ra
          obtain ⟨v, r', rfl, p1, v', r'', rfl, p2, rfl⟩ := ra
          obtain ⟨l, b1, rfl, d1⟩ := rp_seq p1 e3
          obtain ⟨m, b2, rfl, d2⟩ := rp_seq p2 e4
          obtain ⟨us, u1, _⟩ := d1.sq (K := X.K)
          obtain ⟨ws, u2, _⟩ := d2.sq (K := X.K)
          exact ⟨l, m, us, ws, b1, b2, rfl, u1, u2, q _ H1 s1 ⟨_, itd_zip, fun H2 k _ => ⟨d1.kp k, d2.kp k⟩⟩⟩
theorem Z.ei_zip (T : Tb X nl G) (j : Nat) (hG : G[j]? = some ("zip" : Str)) (hm : X.mg "zip" = none) (ha : Z.EvE X a fa) (hb : Z.EvE X b fb) (h1 : notStar a = true := by rfl) (h2 : notStar b = true := by rfl) : Z.EvI X (.Tuple elts x1 tp) (.Call (.Name "zip" p) [a, b] [] pos) (iZip fa fb) :=
  ⟨D2.ei_zip T j hG hm ha.un hb.un h1 h2⟩
end
/-! ### two names at once -/
def bPair (i j : Nat) : PyData → Rho → Option Rho
  | .tuple [x, y], ρ => some ((ρ.set i (.val x)).set j (.val y))
  | _, _ => none
section
variable {X : Cx} {nl : Nat} {G : List Str} {x y : Str} {k : Nat} {p1 p2 pos : Pos}
theorem eg_pair (T : Tb X nl G) (i j : Nat) (hi : (X.N.take nl)[i]? = some x) (hj : (X.N.take nl)[j]? = some y) : EvG X (.Tuple [.Name x p1, .Name y p2] k pos) (bPair i j) := by
  obtain ⟨i1, i2, i3⟩ := T.nm hi
  obtain ⟨j1, j2, j3⟩ := T.nm hj
  refine PG.imp (pg_tup T.calm (pgs_cons (pg_name T.nd i1 i2 i3) (pgs_cons (pg_name T.nd j1 j2 j3) pgs_nil))) fun v σ H Q ⟨ρ, d, sl, p, q⟩ => ?_
  unfold bPair at q
  split at q
  · rename_i e
    split at e
    · rename_i ρ0 dx dy
      cases e
      simp only [Rp] at p
      obtain ⟨a, vs, rfl, ha, r⟩ := p
      obtain ⟨u, r1, rfl, pu, r⟩ := r.cons_inv
      obtain ⟨w, r2, rfl, pw, r⟩ := r.cons_inv
      rw [r.nil_inv] at ha
      refine ⟨a, [u, w], rfl, SqT.of ha, rfl, u, [w], rfl, w, [], rfl, rfl, ?_⟩
      refine q _ (Sl.set (c := .val dy) (o := some w) (Sl.set (c := .val dx) (o := some u) sl i ⟨u, rfl, pu⟩) j ⟨w, rfl, pw⟩) fun n e h => ?_
      obtain ⟨n1, h⟩ := get_set_own (fun e z => by cases z) h
      obtain ⟨n2, h⟩ := get_set_own (fun e z => by cases z) h
      exact ⟨h, by rw [List.getElem?_set, if_neg n1, List.getElem?_set, if_neg n2]⟩
    · cases e
  · exact q.elim
theorem Z.eg_pair (T : Tb X nl G) (i j : Nat) (hi : (X.N.take nl)[i]? = some x) (hj : (X.N.take nl)[j]? = some y) : Z.EvG X (.Tuple [.Name x p1, .Name y p2] k pos) (bPair i j) :=
  ⟨D2.eg_pair T i j hi hj⟩
end
theorem fits_pair {own : Nat} {fr : List Nat} {i j : Nat} (hi : i < own) (hj : j < own) : ∀ ρ d ρ1, bPair i j d (compRho own fr ρ) = some ρ1 → Fits (compRho own fr ρ) ρ1 := fun ρ d ρ1 e => by
  unfold bPair at e
  split at e
  · rename_i x y _
    cases e
    refine ⟨by rw [List.length_set, List.length_set], fun n c hn => ?_⟩
    have at_own : n < own → c = .non := fun h => by
      unfold compRho at hn
      rw [List.getElem?_append_left (by simpa using h), List.getElem?_replicate, if_pos h] at hn
      exact (Option.some.inj hn).symm
    by_cases h1 : j = n
    · exact .inl (at_own (by omega))
    · by_cases h2 : i = n
      · exact .inl (at_own (by omega))
      · exact .inr (by rw [List.getElem?_set, if_neg h1, List.getElem?_set, if_neg h2]; exact hn)
  · cases e
end D2
set_option Elab.async false
set_option linter.all false
set_option maxRecDepth 100000
set_option maxHeartbeats 4000000
namespace D2
open PySem PySem.Spec PyProof.Rows L2
open AutoSeq1 (wpAny_loadPart')
/-! ### enumerate of one -/
/-- the enumerate at e: so many told, its iterator at i -/
abbrev IsEn (h : Heap) (e i : Addr) (k : Int) (f0 old : Value) : Prop := h.get? e = some { cls := .type "enumerate", dict := none, data := .fields #[f0, .bool false, .ref i, rawInt k, .none, old], slots := #[] }
section
variable {prog : Program} {w : World} {A : Around} {E : Value → Shared → Prop} {s : Shared} {e i l : Addr} {k : Nat} {xs : Array Value}
theorem enum_item {x old : Value} {Q : Value → Shared → Prop} (he : IsEn s.heap e i k .none old) (it : ItS s.heap i l k xs) (hli : l ≠ i) (hle : l ≠ e) (hei : e ≠ i) (hx : xs[k]? = some x)
    (hQ : ∀ h' old', IsEn h' e i ((k : Int) + 1) (rawInt s.heap.objs.size) old' → ItS h' i l (k + 1) xs → IsPair h' s.heap.objs.size (.int k s.toks) x → (∀ c o, c ≠ e → c ≠ i → s.heap.get? c = some o → h'.get? c = some o) → Q (.ref s.heap.objs.size) { s with heap := h', toks := s.toks + 1 }) :
    wpAny (model prog w) A (Builtin.«enumerate.__next__» ⟨[.ref e], []⟩) (fun fin s' => ∃ v, fin = .done (.ret v) ∧ Q v s') E s := by
  obtain ⟨hp, g, d, tk, os⟩ := s
  show wpAny _ _ (field (Value.ref e) 2 >>= _) _ _ _
  refine wpAny_bind (wpAny_field he rfl (x := Value.ref i) rfl ?_)
  refine wpAny_bind (nextS it hli hx fun g1 i1 s1 => ?_)
  replace s1 : Heap.SameBut i hp g1 := s1
  have e1 : IsEn g1 e i k .none old := (s1.2 e hei).trans he
  show wpAny _ _ (field (Value.ref e) 3 >>= _) _ _ (Shared.mk g1 g d tk os)
  refine wpAny_bind (wpAny_field e1 rfl (x := rawInt (k : Int)) rfl ?_)
  show wpAny _ _ (field (Value.ref e) 4 >>= _) _ _ (Shared.mk g1 g d tk os)
  refine wpAny_bind (wpAny_field e1 rfl (x := Value.none) rfl ?_)
  show wpAny _ _ (mkInt (k : Int) >>= _) _ _ (Shared.mk g1 g d tk os)
  refine wpAny_bind (wpAny_mkInt ?_)
  show wpAny _ _ (setField (Value.ref e) 3 (rawInt ((k : Int) + 1)) >>= _) _ _ (Shared.mk g1 g d (tk + 1) os)
  refine wpAny_bind (wpAny_setField_rec e1 (by simp) fun g2 e2 s2 => ?_)
  replace s2 : Heap.SameBut e g1 g2 := s2
  replace e2 : IsEn g2 e i ((k : Int) + 1) .none old := e2
  show wpAny _ _ (setField (Value.ref e) 4 Value.none >>= _) _ _ (Shared.mk g2 g d (tk + 1) os)
  refine wpAny_bind (wpAny_setField_rec e2 (by simp) fun g3 e3 s3 => ?_)
  replace s3 : Heap.SameBut e g2 g3 := s3
  replace e3 : IsEn g3 e i ((k : Int) + 1) .none old := e3
  show wpAny _ _ (newTuple [Value.int k tk, x] >>= _) _ _ (Shared.mk g3 g d (tk + 1) os)
  refine wpAny_bind (wpAny_newTuple ?_)
  have hsz : g3.objs.size = hp.objs.size := by rw [s3.1, s2.1, s1.1]
  have elt : e < g3.objs.size := Heap.lt_size e3
  have e4 : IsEn (g3.push { cls := .type "tuple", data := .seq #[.int k tk, x] }) e i ((k : Int) + 1) .none old := Heap.get?_push_of_some _ e3
  have t4 : IsPair (g3.push { cls := .type "tuple", data := .seq #[.int k tk, x] }) g3.objs.size (.int k tk) x := Heap.get?_push_size _ rfl
  have i3 : ItS g3 i l (k + 1) xs := i1.keep (fun o q => s3.extBut _ _ hei.symm (s2.extBut _ _ hei.symm q)) fun o q => s3.extBut _ _ hle (s2.extBut _ _ hle q)
  have k3 : ∀ c o, c ≠ e → c ≠ i → hp.get? c = some o → g3.get? c = some o := fun c o c1 c2 q => s3.extBut _ _ c1 (s2.extBut _ _ c1 (s1.extBut _ _ c2 q))
  show wpAny _ _ (Builtin.SmallTypes.ownedTupleIsFree (Value.ref e) >>= _) _ _ (Shared.mk (g3.push { cls := .type "tuple", data := .seq #[.int k tk, x] }) g d (tk + 1) os)
  refine wpAny_bind ?_
  unfold Builtin.SmallTypes.ownedTupleIsFree
  refine wpAny_bind (wpAny_field e4 rfl (x := Value.none) rfl (wpAny_pure ?_))
  simp only [if_true]
  refine wpAny_bind (wpAny_rule ?_)
  refine wpAny_bind (wpAny_field e4 rfl (x := old) rfl ?_)
  refine wpAny_bind (wpAny_setField_rec e4 (by simp) fun g5 e5 s5 => ?_)
  replace s5 : Heap.SameBut e (g3.push { cls := .type "tuple", data := .seq #[.int k tk, x] }) g5 := s5
  replace e5 : IsEn g5 e i ((k : Int) + 1) .none x := e5
  show wpAny _ _ (Builtin.SmallTypes.ownedTupleHandOut (Value.ref e) (Value.ref g3.objs.size) >>= _) _ _ (Shared.mk g5 g d (tk + 1) os)
  refine wpAny_bind ?_
  unfold Builtin.SmallTypes.ownedTupleHandOut
  refine wpAny_bind (wpAny_setField_rec e5 (by simp) fun g6 e6 s6 => ?_)
  replace s6 : Heap.SameBut e g5 g6 := s6
  replace e6 : IsEn g6 e i ((k : Int) + 1) (rawInt g3.objs.size) x := e6
  refine wpAny_setField_rec e6 (by simp) fun g7 e7 s7 => ?_
  replace s7 : Heap.SameBut e g6 g7 := s7
  replace e7 : IsEn g7 e i ((k : Int) + 1) (rawInt g3.objs.size) x := e7
  have up : ∀ c o, c ≠ e → g3.get? c = some o → g7.get? c = some o := fun c o c1 q => s7.extBut _ _ c1 (s6.extBut _ _ c1 (s5.extBut _ _ c1 (Heap.get?_push_of_some _ q)))
  have t7 : IsPair g7 g3.objs.size (.int k tk) x := s7.extBut _ _ (Nat.ne_of_gt elt) (s6.extBut _ _ (Nat.ne_of_gt elt) (s5.extBut _ _ (Nat.ne_of_gt elt) t4))
  rw [hsz] at e7 t7
  refine wpAny_bind (wpAny_letGo (wpAny_pure ⟨_, rfl, ?_⟩))
  show Q (.ref g3.objs.size) _
  rw [hsz]
  exact hQ g7 x e7 (i3.keep (fun o q => up _ _ hei.symm q) fun o q => up _ _ hle q) t7 fun c o c1 c2 q => up c o c1 (k3 c o c1 c2 q)
theorem enum_next {x old : Value} {Q : Option Value → Shared → Prop} (he : IsEn s.heap e i k .none old) (it : ItS s.heap i l k xs) (hli : l ≠ i) (hle : l ≠ e) (hei : e ≠ i) (hx : xs[k]? = some x)
    (hQ : ∀ h' old', IsEn h' e i ((k : Int) + 1) (rawInt s.heap.objs.size) old' → ItS h' i l (k + 1) xs → IsPair h' s.heap.objs.size (.int k s.toks) x → (∀ c o, c ≠ e → c ≠ i → s.heap.get? c = some o → h'.get? c = some o) → Q (some (.ref s.heap.objs.size)) { s with heap := h', toks := s.toks + 1 }) :
    wpAny (model prog w) A (pyNext (.ref e)) Q E s := by
  have hT : s.TypeIs (.ref e) "enumerate" := ⟨_, he, rfl⟩
  unfold pyNext
  exact wpAny_bind (wpAny_attempt (wpAny_callSpecial?_slot (name := Str.ofString "__next__") hT F.slot_enumerate_next (wpAny_call_entry F.slot_enumerate_next hT F.entry_enumerate_next (enum_item he it hli hle hei hx fun h' o a b c d => wpAny_pure (hQ h' o a b c d)) (F.args_enumerate_next_1 _))))
theorem enum_end {old : Value} {Q : Option Value → Shared → Prop} (hh : A.handled = none) (he : IsEn s.heap e i k .none old) (it : ItS s.heap i l k xs) (hx : xs[k]? = none) (hQ : ∀ h', (∀ c o, c ≠ i → s.heap.get? c = some o → h'.get? c = some o) → Q none { s with heap := h' }) :
    wpAny (model prog w) A (pyNext (.ref e)) Q E s := by
  have hT : s.TypeIs (.ref e) "enumerate" := ⟨_, he, rfl⟩
  unfold pyNext
  refine wpAny_bind (wpAny_attempt (wpAny_callSpecial?_slot (name := Str.ofString "__next__") hT F.slot_enumerate_next (wpAny_call_entry F.slot_enumerate_next hT F.entry_enumerate_next ?_ (F.args_enumerate_next_1 _))))
  show wpAny _ _ (field (Value.ref e) 2 >>= _) _ _ _
  refine wpAny_bind (wpAny_field he rfl (x := Value.ref i) rfl ?_)
  refine wpAny_bind (nextS_end hh it hx fun h' x k1 ⟨o, ho, hc⟩ => ?_)
  exact wpAny_bind (wpAny_isInstance (T := "StopIteration") (b := true) ⟨o, ho, hc⟩ isSubtype_stop (wpAny_pure (hQ _ fun c o c1 q => k1 c o c1 q)))
theorem enum_new (l : Addr) (xs : Array Value) : Meets (Builtin.«enumerate.__new__» ⟨[.type "enumerate", .ref l], []⟩) (fun _ R s => SqAt s.heap l xs ∧
    ∀ h', IsEn h' (s.heap.objs.size + 1) s.heap.objs.size 0 .none .none → ItS h' s.heap.objs.size l 0 xs → (∀ c o, s.heap.get? c = some o → h'.get? c = some o) → R (.ok (.ret (.ref (s.heap.objs.size + 1)))) { s with heap := h' }) :=
  .of_wp fun prog w A R s h => by
    obtain ⟨hp, g, d, tk, os⟩ := s
    obtain ⟨h1, h⟩ := h
    have hsub := sub_enumerate
    have fin : ∀ oi : Obj, ItS (hp.push oi) hp.objs.size l 0 xs → R (.ok (.ret (.ref (hp.push oi).objs.size))) ⟨(hp.push oi).push { cls := .type "enumerate", data := .fields #[.none, .bool false, .ref hp.objs.size, rawInt 0, .none, .none] }, g, d, tk, os⟩ := fun oi hi => by
      have e1 : (hp.push oi).objs.size = hp.objs.size + 1 := Heap.size_push ..
      rw [e1]
      refine h _ ?_ (hi.keep (fun o q => Heap.get?_push_of_some _ q) fun o q => Heap.get?_push_of_some _ q) fun c o q => Heap.get?_push_of_some _ (Heap.get?_push_of_some _ q)
      show Heap.get? _ (hp.objs.size + 1) = _
      rw [← e1]
      exact Heap.get?_push_size _ rfl
    rcases h1 with h1 | h1
    · have l1 : Heap.IsList (Shared.heap ⟨hp, g, d, tk, os⟩) l xs := h1
      obtain ⟨o, ho, _, _, _⟩ := id h1
      have ho' : (Shared.heap ⟨hp, g, d, tk, os⟩).get? l = some o := ho
      wp_walk using wpAny_loadPart' ho'
      refine wpAny_stack_any fun st => wpAny_pure ?_
      split
      · rename_i c _ _ _ _ _
        cases (c == Value.type "enumerate")
        · wp_walk using wpAny_loadPart' ho', wpAny_pyIter_list l1
          exact ⟨_, rfl, fin _ (.inl ⟨⟨_, Heap.get?_push_size _ rfl, rfl, rfl⟩, Heap.IsList.push h1 _⟩)⟩
        · wp_walk using wpAny_loadPart' ho', wpAny_pyIter_list l1
          exact ⟨_, rfl, fin _ (.inl ⟨⟨_, Heap.get?_push_size _ rfl, rfl, rfl⟩, Heap.IsList.push h1 _⟩)⟩
      · wp_walk using wpAny_loadPart' ho', wpAny_pyIter_list l1
        exact ⟨_, rfl, fin _ (.inl ⟨⟨_, Heap.get?_push_size _ rfl, rfl, rfl⟩, Heap.IsList.push h1 _⟩)⟩
    · have l1 : Heap.IsTuple (Shared.heap ⟨hp, g, d, tk, os⟩) l xs := h1
      obtain ⟨o, ho, _, _, _⟩ := id h1
      have ho' : (Shared.heap ⟨hp, g, d, tk, os⟩).get? l = some o := ho
      wp_walk using wpAny_loadPart' ho'
      refine wpAny_stack_any fun st => wpAny_pure ?_
      split
      · rename_i c _ _ _ _ _
        cases (c == Value.type "enumerate")
        · wp_walk using wpAny_loadPart' ho', wpAny_pyIter_tuple l1
          exact ⟨_, rfl, fin _ (.inr ⟨⟨_, Heap.get?_push_size _ rfl, rfl, rfl⟩, Heap.IsTuple.push h1 _⟩)⟩
        · wp_walk using wpAny_loadPart' ho', wpAny_pyIter_tuple l1
          exact ⟨_, rfl, fin _ (.inr ⟨⟨_, Heap.get?_push_size _ rfl, rfl, rfl⟩, Heap.IsTuple.push h1 _⟩)⟩
      · wp_walk using wpAny_loadPart' ho', wpAny_pyIter_tuple l1
        exact ⟨_, rfl, fin _ (.inr ⟨⟨_, Heap.get?_push_size _ rfl, rfl, rfl⟩, Heap.IsTuple.push h1 _⟩)⟩
theorem call_enum {Q : Value → Shared → Prop} {l : Addr} (h1 : SqAt s.heap l xs)
    (h : ∀ h', IsEn h' (s.heap.objs.size + 1) s.heap.objs.size 0 .none .none → ItS h' s.heap.objs.size l 0 xs → (∀ c o, s.heap.get? c = some o → h'.get? c = some o) → Q (.ref (s.heap.objs.size + 1)) { s with heap := h' }) :
    wpAny (model prog w) A (call (.type "enumerate") [.ref l]) Q E s := by
  refine callType_new F.called_enumerate (by decide) (F.typeCall_enumerate_1 _) (F.newCall_enumerate_1 _) (fun obj => F.args_object_init_2 obj _) F.entry_enumerate_new (enum_new l xs) ⟨h1, fun h' e S k => ?_⟩
  exact ⟨⟨_, e, rfl⟩, h h' e S k⟩
end
end D2
set_option Elab.async false
set_option linter.all false
set_option maxRecDepth 100000
set_option maxHeartbeats 4000000
namespace D2
open PySem PySem.Spec PyProof.Rows L2
/-! ### enumerate, walked by pairs -/
def ItE (K : PySem.W.Frag) (l : Addr) (b : Bool) : It :=
  ⟨fun i H => ∃ xs x, SqB K H l xs b ∧ xs[i]? = some x, fun i H v H' => ∃ a x, H a = none ∧ v = .ref a ∧ H' = upd H a (.tup [.int i, x]) ∧ ∀ xs, SqB K H l xs b → xs[i]? = some x, fun i H => ∃ xs, SqB K H l xs b ∧ xs.length ≤ i⟩
structure ETn (e i l : Addr) (b : Bool) (k : Nat) (h : Heap) : Prop where
  ee : ∃ old, IsEn h e i k .none old
  ii : IterB h i l k b
theorem turn_enum {P : Program} {w : World} {K : PySem.W.Frag} {elts : List Expr} {x1} {pos : Pos} {e i l : Addr} {b : Bool} (hei : e ≠ i) (hle : l ≠ e) (hli : l ≠ i) : Turn P w K (.Tuple elts x1 pos) (ItE K l b) [e, i] e (ETn e i l b) where
  mem := by simp
  obj := fun k h st a ha => by
    simp only [List.mem_cons, List.not_mem_nil, or_false] at ha
    rcases ha with rfl | rfl
    · obtain ⟨_, q⟩ := st.ee; exact ⟨_, q, fun v e => by cases e⟩
    · exact st.ii.there
  keep := fun k h h' st kp => ⟨let ⟨o, q⟩ := st.ee; ⟨o, kp e (by simp) _ q⟩, st.ii.keep fun o q => kp i (by simp) o q⟩
  item := by
    intro X hP hw hK hc k pins s σ H E I hf st hg
    subst hP hw hK
    obtain ⟨xs, x, h1, hx⟩ := hg
    obtain ⟨its, rv, _, p1⟩ := inv_sq I h1
    obtain ⟨u, hu, ru⟩ := rv.get hx
    obtain ⟨old, he⟩ := st.ee
    refine enum_next he (p1 _ _ st.ii) hli hle hei (x := u) (by simpa using hu) fun h' old' e' i' hp kp => ⟨_, rfl, ?_⟩
    have elt : e < s.heap.objs.size := Heap.lt_size he
    have hob : ∀ a ∈ [e, i], a < s.heap.objs.size := fun a ha => by
      simp only [List.mem_cons, List.not_mem_nil, or_false] at ha
      rcases ha with rfl | rfl
      · exact elt
      · obtain ⟨o, q, _⟩ := st.ii.there; exact Heap.lt_size q
    have hn : H s.heap.objs.size = none := I.hok.fresh (Nat.le_refl _)
    refine wpAny_letOwnedTupleGo_enum (s := { s with heap := h', toks := s.toks + 1 }) e' fun h2' e2 sb => ?_
    have up : ∀ a o, a ≠ e → h'.get? a = some o → h2'.get? a = some o := fun a o ha q => sb.extBut a o ha q
    refine ⟨.ref s.heap.objs.size, _, inv_out (s := s) (t' := s.toks + 1) (fp := [e, i]) (h' := h2') (u1 := .int k s.toks) (u2 := u) (v1 := .int k) (v2 := x) I hf hob (up _ _ (Nat.ne_of_gt elt) hp) (fun a o ha q => ?_) ⟨_, rfl⟩ ru, rfl, ⟨_, x, hn, rfl, rfl, fun zs hz => by rw [inv_sq_inj I h1 hz]; exact hx⟩, ?_, fun a ha => ?_⟩
    · simp only [List.mem_cons, List.not_mem_nil, or_false, not_or] at ha
      exact up a o ha.1 (kp a o ha.1 ha.2 q)
    · have i2 : IterB h' i l (k + 1) b := by
        refine i'.toB fun ys => ?_
        cases hb : b
        · subst hb
          refine ⟨fun z => (by cases z), fun _ w => ?_⟩
          obtain ⟨_, _, pl, _⟩ := I.list h1
          obtain ⟨o, q, r⟩ := pl.isList
          exact list_tuple (h := h') (xs := _) ⟨o, kp _ _ hle hli q, r⟩ w
        · subst hb
          refine ⟨fun _ w => ?_, fun z => by cases z⟩
          obtain ⟨_, _, pl, _⟩ := I.tuple h1
          obtain ⟨o, q, r⟩ := pl
          exact list_tuple (h := h') w ⟨o, kp _ _ hle hli q, r⟩
      exact ⟨⟨_, by have q : IsEn h2' e i ((k : Int) + 1) .none old' := e2; simpa using q⟩, i2.keep fun o q => up _ _ hei.symm q⟩
    · rw [upd_ne (Nat.ne_of_lt (hob a ha))]; exact (hf a ha).1
  done := by
    intro X hP hw hK hc k pins s σ H E I hf st hg
    subst hP hw hK
    obtain ⟨xs, h1, hl⟩ := hg
    obtain ⟨its, rv, _, p1⟩ := inv_sq I h1
    obtain ⟨old, he⟩ := st.ee
    have e1 := rv.length
    refine enum_end (I.ok.hd hc) he (p1 _ _ st.ii) (by simp; omega) fun h' kp => ⟨rfl, inv_turnedS (t' := s.toks) (fp := [e, i]) I (fun a o ha q => ?_) hf⟩
    simp only [List.mem_cons, List.not_mem_nil, or_false, not_or] at ha
    exact kp a o ha.2 q
  self := fun _ _ _ _ _ st h => let ⟨_, q⟩ := st.ee; wpAny_pyIter_enum q h
def enumD : Nat → List PyData → List PyData
  | _, [] => []
  | k, d :: ds => .tuple [.int k, d] :: enumD (k + 1) ds
theorem enumD_len : ∀ (k : Nat) (ds : List PyData), (enumD k ds).length = ds.length
  | _, [] => rfl
  | k, d :: ds => by unfold enumD; rw [List.length_cons, List.length_cons, enumD_len]
theorem enumD_get : ∀ {k : Nat} {ds : List PyData} {i : Nat} {d : PyData}, (enumD k ds)[i]? = some d → ∃ x, ds[i]? = some x ∧ d = .tuple [.int ((k + i : Nat) : Int), x]
  | k, [], i, d, h => by unfold enumD at h; simp at h
  | k, x :: ds, 0, d, h => by
    unfold enumD at h
    simp at h
    exact ⟨x, rfl, by rw [← h]; simp⟩
  | k, x :: ds, i + 1, d, h => by
    unfold enumD at h
    rw [List.getElem?_cons_succ] at h
    obtain ⟨y, h1, h2⟩ := enumD_get h
    refine ⟨y, by simpa using h1, ?_⟩
    rw [h2]
    have : k + 1 + i = k + (i + 1) := by omega
    rw [this]
theorem itd_enum {K : PySem.W.Frag} {l : Addr} {b : Bool} {xs : List PyData} : ItD (ItE K l b) (fun H => SqD H l xs b) (enumD 0 xs) where
  go := fun i H h1 hi => by
    rw [enumD_len] at hi
    obtain ⟨vs, s1, r1⟩ := h1.sq (K := K)
    obtain ⟨x, hx, _⟩ := r1.get (List.getElem?_eq_getElem hi)
    exact ⟨vs, x, s1, hx⟩
  yld := fun i H v H' d h1 hd h => by
    obtain ⟨a, x, ha, rfl, rfl, k1⟩ := h
    obtain ⟨vs, s1, r1⟩ := h1.sq (K := K)
    obtain ⟨dx, e1, rfl⟩ := enumD_get hd
    obtain ⟨x', hx, px⟩ := r1.get e1
    have q1 := k1 vs s1
    rw [hx] at q1
    cases q1
    refine ⟨same_up ha _, rp_new_tup ha (RpA.cons ?_ (RpA.cons px RpA.nil))⟩
    rw [Nat.zero_add]
    exact rp_int
  stop := fun i H h1 hi => by
    rw [enumD_len] at hi
    obtain ⟨vs, s1, r1⟩ := h1.sq (K := K)
    have l1 := r1.length
    exact ⟨vs, s1, by omega⟩
section
variable {X : Cx} {elts : List Expr} {x1 : Nat} {tp : Pos} {a b : Expr} {fa fb : Fe} {pos p : Pos} {nl : Nat} {G : List Str} {fs : Rho → R (List PyData)}
def iEn (K : PySem.W.Frag) (ta : TA) : TI := fun σ H R => ta σ H fun vs H1 => ∃ l xs b, vs = [.ref l] ∧ SqB K H1 l xs b ∧ R (ItE K l b) H1
theorem pi_enum {ta : TA} (hg : Gl X "enumerate") (hm : X.mg "enumerate" = none) (ha : PA X [a] ta) (hs : starEach [a] X.env = [(false, eval a X.env)]) : PI X (.Tuple elts x1 tp) (.Call (.Name "enumerate" p) [a] [] pos) (iEn X.K ta) := by
  intro pins s σ H R I h
  refine Call_ (ld_blt I hg hm boot_enumerate (PyProof.Rows.callWith_type1 (thn (ha pos pins s σ H _ I h) fun us s1 ⟨vs, H1, I1, r1, q1⟩ => ?_) hs rfl))
  obtain ⟨l, xs, b, e, h1, q⟩ := q1
  subst e
  obtain ⟨u, rfl, ru⟩ := vals1 r1
  cases ru
  obtain ⟨its, w1, p1, g1⟩ := inv_sq I1 h1
  have ll : l < s1.heap.objs.size := by rcases p1 with ⟨o, e, _⟩ | ⟨o, e, _⟩ <;> exact Heap.lt_size e
  refine call_enum p1 fun h' hz S kp => wpAny_pyIter_enum hz ?_
  have I2 : Inv X pins σ H1 { s1 with heap := h' } := I1.kept (t' := s1.toks) kp
  have i2 : IterB h' s1.heap.objs.size l 0 b := S.toB (inv_kind I1 h1 kp)
  refine ⟨_, [s1.heap.objs.size + 1, s1.heap.objs.size], _, _, H1, rfl, I2, turn_enum (b := b) (Nat.ne_of_gt (Nat.lt_succ_self _)) (Nat.ne_of_lt (Nat.lt_succ_of_lt ll)) (Nat.ne_of_lt ll), ⟨⟨_, hz⟩, i2⟩, fun a ha => ?_, q⟩
  have hle : s1.heap.objs.size ≤ a := by
    simp only [List.mem_cons, List.not_mem_nil, or_false] at ha
    rcases ha with rfl | rfl
    · exact Nat.le_add_right _ 1
    · exact Nat.le_refl _
  exact I1.fpOk hle (I1.hok.fresh hle)
def iEnum (fa : Fe) : Rho → R (List PyData) := fun ρ => fa ρ >>= fun x => seqD x >>= fun xs => .ok (enumD 0 xs)
theorem ei_enum (T : Tb X nl G) (j : Nat) (hG : G[j]? = some ("enumerate" : Str)) (hm : X.mg "enumerate" = none) (ha : EvE X a fa) (h1 : notStar a = true := by rfl) : EvI X (.Tuple elts x1 tp) (.Call (.Name "enumerate" p) [a] [] pos) (iEnum fa) := by
  have g := T.gl _ (List.mem_of_getElem? hG)
  refine PI.imp (pi_enum g.1 hm (ea_cons ha ea_nil h1) (by rw [star_cons h1]; rfl)) fun σ H Rk h => ?_
  obtain ⟨ρ, sl, q⟩ := h
  unfold iEnum at q
  refine ⟨ρ, sl, ?_⟩
  unfold aCons aNil
  cases e1 : fa ρ with
  | ex c => rw [e1] at q; exact q
  | no => rw [e1] at q; exact q
  | ok x =>
    rw [e1] at q
    simp only [R.ok_bind] at q ⊢
    cases e3 : seqD x with
    | ex c => rw [e3] at q; exact q.elim
    | no => rw [e3] at q; exact q.elim
    | ok xs =>
      rw [e3] at q
      simp only [R.ok_bind] at q
      intro vs H1 s1 ra
      simp only [RA] at ra
      obtain ⟨v, r', rfl, p1, rfl⟩ := ra
      obtain ⟨l, b1, rfl, d1⟩ := rp_seq p1 e3
      obtain ⟨us, u1, _⟩ := d1.sq (K := X.K)
      exact ⟨l, us, b1, rfl, u1, q _ H1 s1 ⟨_, itd_enum, fun H2 k _ => d1.kp k⟩⟩
theorem Z.ei_enum (T : Tb X nl G) (j : Nat) (hG : G[j]? = some ("enumerate" : Str)) (hm : X.mg "enumerate" = none) (ha : Z.EvE X a fa) (h1 : notStar a = true := by rfl) : Z.EvI X (.Tuple elts x1 tp) (.Call (.Name "enumerate" p) [a] [] pos) (iEnum fa) :=
  ⟨D2.ei_enum T j hG hm ha.un h1⟩
end
end D2
set_option Elab.async false
set_option linter.all false
set_option maxRecDepth 100000
set_option maxHeartbeats 4000000
namespace D2
open PySem PySem.Spec PyProof.Rows L2
section
variable {X : Cx} {nl : Nat} {G : List Str} {x : Str} {e : Expr} {f : Fe} {q1 q2 q3 q4 : Pos}
/-- name.append(e) of an own list -/
theorem es_append (T : Tb X nl G) (n : Nat) (hN : X.N[n]? = some x) (he : EvE X e f) (hst : notStar e = true := by rfl) (hline : (q2.endLine == q3.line) = true := by rfl)
    (hs : swapsWith (.Call (.Attribute (.Name x q1) "append" q2) [e] [] q3) none q4.line X.env = pure false := by rfl)
    (hbase : attributeBase (.Name x q1) "append" X.env (eval (.Name x q1) X.env) = eval (.Name x q1) X.env := by rfl) : EvS X (.Expr (.Call (.Attribute (.Name x q1) "append" q2) [e] [] q3) q4) (sAppend n f) := fun Fm => by
  have hm := T.vis x (List.mem_of_getElem? hN)
  have sc : starEach [e] X.env = (false, eval e X.env) :: starEach [] X.env := star_cons hst
  refine PS.imp (ps_expr (pe_bm PySem.F.plainAttrs_list PySem.F.slot_list_append PySem.F.type_list_append mt_append (pe_var hN hm.1 hm.2.1 hm.2.2) (ea_cons he ea_nil hst) hbase (by rw [sc]; rfl) hline sc rfl) hs) fun D σ H h => ?_
  obtain ⟨ρ, sl, q⟩ := h
  unfold sAppend at q
  cases ef : f ρ with
  | ex c => rw [ef] at q; exact q.elim
  | no => rw [ef] at q; exact q.elim
  | ok d =>
    rw [ef, R.ok_bind] at q
    cases er : ρ[n]? with
    | none => rw [er] at q; exact q.elim
    | some c =>
      rw [er] at q
      cases c with
      | non => exact q.elim
      | val d' => exact q.elim
      | own d' =>
        cases d' with
        | list ds =>
          dsimp only at q
          by_cases hz : ds.length < sizeLine
          · rw [if_pos hz] at q
            obtain ⟨o, h2, w', rfl, p2⟩ := sl.sl.at er
            simp only [ORp] at p2
            obtain ⟨a', vs, rfl, ha, r⟩ := p2
            refine ⟨.ref a', h2, .inl ⟨rfl, _, SqL.of ha⟩, ρ, sl.sl, ?_⟩
            unfold aCons aNil
            rw [ef]
            intro us H1 s1 ra
            simp only [RA] at ra
            obtain ⟨v, r', rfl, p1, rfl⟩ := ra
            have ha1 := s1 _ _ ha
            refine ⟨a', vs, v, rfl, rfl, ha1, by rw [r.length]; exact hz, q _ _ ((sl.mono s1).change er h2 ha1 (.inl ⟨_, rfl⟩) ?_)⟩
            simp only [ORp]
            exact ⟨a', _, rfl, upd_same, RpA.kp (kp_upd ha1 (.inl ⟨_, rfl⟩)) _ _ (RpA.append (r.mono s1) (RpA.cons p1 RpA.nil))⟩
          · rw [if_neg hz] at q; exact q.elim
        | _ => exact q.elim
theorem Z.es_append (T : Tb X nl G) (n : Nat) (hN : X.N[n]? = some x) (he : Z.EvE X e f) (hst : notStar e = true := by rfl) (hline : (q2.endLine == q3.line) = true := by rfl) (hs : swapsWith (.Call (.Attribute (.Name x q1) "append" q2) [e] [] q3) none q4.line X.env = pure false := by rfl) (hbase : attributeBase (.Name x q1) "append" X.env (eval (.Name x q1) X.env) = eval (.Name x q1) X.env := by rfl) : Z.EvS X (.Expr (.Call (.Attribute (.Name x q1) "append" q2) [e] [] q3) q4) (sAppend n f) :=
  ⟨D2.es_append T n hN he.un hst hline hs hbase⟩
end
end D2
set_option Elab.async false
set_option linter.all false
set_option maxRecDepth 100000
set_option maxHeartbeats 4000000
namespace D2
open PySem PySem.Spec PyProof.Rows L2
theorem Z.fn_data {P : Program} {w : World} {K : PySem.W.Frag} {mg : Str → Option Value} {base : Heap} {x qual : Str} {st : Stmt} {f : Addr} {fd : FuncData} {N ps : List Str} {k : Nat} {g : Fs} (F : Fun K x qual st f fd) (S : FnScope N ps (defScope st))
    (body : ∀ (cdv : Value) (A : Around) (outer : List Env) (s : Shared) (H : Hp) (E : XK), Room k (A.deeper (envOfC qual (defScope st) s.heap.objs.size f cdv)) →
      Z.EvSs (cxOf CX0 P w K mg base N qual (defScope st) f cdv A outer s H E).nox (defBody st) g) : FnOk P w K mg base CX0 (k + 1) f fd ps (spD (fnR N.length g) ps.length) :=
  D2.fn_data F S fun cdv A outer s H E hr => (body cdv A outer s H E hr).un
/-- nothing can be asked -/
def none_left {P : Program} {w : World} {K : PySem.W.Frag} {mg : Str → Option Value} {base : Heap} {f : Addr} {fd : FuncData} {ps : List Str} {n k : Nat} : FnOk P w K mg base CX0 k f fd ps (spD (fun _ => .no) n) :=
  have no : ∀ vs H Q E, ¬ spD (fun _ => .no) n vs H Q E := fun vs H Q E ⟨ds, _, _, z⟩ => z
  ⟨fun vs H Q E h => absurd h (no vs H Q E), fun A outer s H args us vs Q E _ _ _ _ h => absurd h (no vs H Q E)⟩
/-- no list stands in the module -/
def noLists (K : PySem.W.Frag) : Bool := K.all fun p => match p.2.cls with
  | .type n => !(n == "list")
  | _ => true
theorem lookup_mem {α β : Type} [BEq α] {a : α} {o : β} : ∀ {K : List (α × β)}, K.lookup a = some o → ∃ p ∈ K, p.2 = o
  | [], e => by cases e
  | (b, x) :: r, e => by
    rw [List.lookup_cons] at e
    split at e
    · cases e; exact ⟨_, List.mem_cons_self, rfl⟩
    · obtain ⟨p, h1, h2⟩ := lookup_mem e
      exact ⟨p, List.mem_cons_of_mem _ h1, h2⟩
theorem noLists_at {K : PySem.W.Frag} (h : noLists K = true) {a : Addr} {o : Obj} (e : K.lookup a = some o) (c : o.cls = .type "list") : False := by
  obtain ⟨p, m, rfl⟩ := lookup_mem e
  have q := List.all_eq_true.mp h _ m
  simp only [c] at q
  simp at q
def lawOk (F : List PyData → R PyData) : Prop := ∀ ns : List Int, ns.length ≤ 63 → F [.list (ns.map .int)] = .ok (.bool true)
theorem walk {l : PySem.W.OpenLaw} {q : Program} {loose : List Str} {XP : (Str → Option Value) → Heap → Prop} {YP : World → Heap → Prop} {d : DefRec} {K : Params → PySem.W.Frag} {k : Nat} {x : Str} {F : List PyData → R PyData} (hn : l.most = some 63) (hdf : d.params.defaults = [])
    (hr : Room k callerA) (hY : ∀ (w : World) (h : Heap), YP w h → (K w.params).In h) (hF : lawOk F)
    (G : ∀ (w : World) (mg : Str → Option Value) (fa : Addr) (h : Heap), (K w.params).In h → h.Ns mainGlobals mg → mg d.name = some (.ref fa) →
      noLists (K w.params) = true ∧ ∃ fd : FuncData, (∀ (s : Shared) (u : Value), BindsTo s fd ⟨[u], []⟩ [(x, u)]) ∧ ∀ base : Heap, (K w.params).In base → base.Ns mainGlobals mg → FnOk l.prog w (K w.params) mg base CX0 k fa fd [x] (spD F 1)) :
    PySem.W.WalkO q loose XP YP l.row.toRowW d [] (fun f vs => PySem.call f vs) := by
  refine Att.attach_call hn hdf fun w s₀ s₁ mg mb fa o pm cd doc a vs ns G0 Y ho hd hcd hmg hobj hints hlen hg => ?_
  have KX := hY w _ Y
  obtain ⟨nl, fd, hb, hG⟩ := G w mg fa _ KX G0.T.g hmg
  refine L2.law_call (sp := spD F 1) KX G0.T.g G0.T.b G0.T.builtins G0.T.nolimit hg hobj hints (Nat.le_trans hlen (by decide)) hr hG hb (fun H hO hS => ?_) fun H e s' z => z
  refine ⟨[.list (ns.map .int)], RpA.cons ?_ RpA.nil, rfl, ?_⟩
  · rcases hS with (h | ⟨o, h⟩) | ⟨o, its, n, h, c, _⟩
    · rcases hO a with z | ⟨o, xs, z⟩
      · rw [z] at h; cases h
      · rw [z] at h; cases h
    · simp only [Rp]
      exact ⟨a, o, _, rfl, h, RpA.ints ns⟩
    · exact (noLists_at nl h c).elim
  · rw [hF ns hlen]
    intro v H' _ r
    simpa only [Rp] using r
end D2
set_option Elab.async false
set_option linter.all false
set_option maxRecDepth 100000
set_option maxHeartbeats 4000000
/-! The meaning, to be reckoned with: one row a combinator. -/
namespace D2
open PySem PySem.Spec PyProof.Rows L2

@[simp] theorem R.ite_bind {α β : Type} {c : Prop} [Decidable c] (x y : R α) (k : α → R β) : ((if c then x else y) >>= k) = if c then x >>= k else y >>= k := by
  by_cases h : c
  · rw [if_pos h, if_pos h]
  · rw [if_neg h, if_neg h]
theorem R.bind_assoc {α β γ : Type} (x : R α) (k : α → R β) (h : β → R γ) : ((x >>= k) >>= h) = (x >>= fun a => k a >>= h) := by cases x <;> rfl
def retR : Out → R PyData
  | .rt d => .ok d
  | .nx _ => .ok .none
  | _ => .no
theorem fnR_eq (n : Nat) (g : Fs) (ds : List PyData) : fnR n g ds = (g (ds.map Cell.val ++ List.replicate (n - ds.length) .non) >>= retR) := by
  unfold fnR
  congr 1
@[simp] theorem retR_rt (d : PyData) : retR (.rt d) = .ok d := (rfl)
@[simp] theorem retR_nx (r : Rho) : retR (.nx r) = .ok .none := (rfl)
section
variable (f g h : Fe) (ρ : Rho) (i j : Nat) (t u : Rho → R Bool) (a b : Fs) (fs : Rho → R (List PyData)) (F : List PyData → R PyData) (d e : PyData)
@[simp] theorem eC_eq : eC d ρ = .ok d := (rfl)
theorem eVar_eq : eVar i ρ = match ρ[i]? with
  | some (.val d) => .ok d
  | _ => .no := rfl
theorem eVarB_eq : eVarB i ρ = match ρ[i]? with
  | some (.val d) => .ok d
  | some (.own d) => .ok d
  | _ => .no := rfl
@[simp] theorem eVar_0 : eVar 0 (.val d :: ρ) = .ok d := (rfl)
@[simp] theorem eVar_s (c : Cell) : eVar (i + 1) (c :: ρ) = eVar i ρ := (rfl)
@[simp] theorem eVarB_0 : eVarB 0 (.val d :: ρ) = .ok d := (rfl)
@[simp] theorem eVarB_o : eVarB 0 (.own d :: ρ) = .ok d := (rfl)
@[simp] theorem eVarB_s (c : Cell) : eVarB (i + 1) (c :: ρ) = eVarB i ρ := (rfl)
@[simp] theorem e1_eq (k : PyData → R PyData) : e1 k f ρ = (f ρ >>= fun x => k x) := (rfl)
@[simp] theorem e2_eq (k : PyData → PyData → R PyData) : e2 k f g ρ = (f ρ >>= fun x => g ρ >>= fun y => k x y) := (rfl)
@[simp] theorem tE_eq : tE f ρ = (f ρ >>= asB) := (rfl)
@[simp] theorem asB_b (k : Bool) : asB (.bool k) = .ok k := (rfl)
@[simp] theorem tAndR_eq : tAndR t u ρ = (t ρ >>= fun k => if k = true then u ρ else .ok false) := (rfl)
@[simp] theorem tOrR_eq : tOrR t u ρ = (t ρ >>= fun k => if k = true then .ok true else u ρ) := (rfl)
@[simp] theorem tNotR_eq : tNotR t ρ = (t ρ >>= fun k => .ok (!k)) := (rfl)
@[simp] theorem eAnd_eq : eAnd f g ρ = (f ρ >>= fun d => asB d >>= fun k => if k = true then g ρ else .ok (.bool false)) := (rfl)
@[simp] theorem eOr_eq : eOr f g ρ = (f ρ >>= fun d => asB d >>= fun k => if k = true then .ok (.bool true) else g ρ) := (rfl)
@[simp] theorem eNot_eq : eNot f ρ = (f ρ >>= fun d => asB d >>= fun k => .ok (.bool (!k))) := (rfl)
@[simp] theorem eIf_eq : eIf t f g ρ = (t ρ >>= fun k => if k = true then f ρ else g ρ) := (rfl)
@[simp] theorem aNil_eq : aNil ρ = .ok [] := (rfl)
@[simp] theorem aCons_eq : aCons f fs ρ = (f ρ >>= fun d => fs ρ >>= fun ds => .ok (d :: ds)) := (rfl)
@[simp] theorem eCall_eq : eCall F fs ρ = (fs ρ >>= F) := (rfl)
@[simp] theorem eChain_eq (p q : PyData → PyData → R PyData) : eChain p q f g h ρ = (f ρ >>= fun x => g ρ >>= fun y => p x y >>= fun d => asB d >>= fun k => if k = true then h ρ >>= fun z => q y z else .ok (.bool false)) := (rfl)
@[simp] theorem eTup_eq : eTup fs ρ = (fs ρ >>= fun ds => if ds.length ≤ sizeLine then .ok (.tuple ds) else .no) := (rfl)
@[simp] theorem eLst_eq : eLst fs ρ = (fs ρ >>= fun ds => if ds.length ≤ sizeLine then .ok (.list ds) else .no) := (rfl)
@[simp] theorem oNone_eq : oNone ρ = .ok none := (rfl)
@[simp] theorem oSome_eq : oSome f ρ = (f ρ >>= fun d => asI d >>= fun i => .ok (some i)) := (rfl)
@[simp] theorem asI_i (k : Int) : asI (.int k) = .ok k := (rfl)
@[simp] theorem eSl_eq (lo hi : Fo) : eSl f lo hi ρ = (f ρ >>= fun d => lo ρ >>= fun l => hi ρ >>= fun u => dSl d l u) := (rfl)
@[simp] theorem sSkip_eq : sSkip ρ = .ok (.nx ρ) := (rfl)
@[simp] theorem sSeq_eq : sSeq a b ρ = (a ρ >>= thenO b) := (rfl)
@[simp] theorem thenO_nx : thenO b (.nx ρ) = b ρ := (rfl)
@[simp] theorem thenO_rt : thenO b (.rt d) = .ok (.rt d) := (rfl)
@[simp] theorem thenO_bk : thenO b (.bk ρ) = .ok (.bk ρ) := (rfl)
@[simp] theorem thenO_ct : thenO b (.ct ρ) = .ok (.ct ρ) := (rfl)
@[simp] theorem sIf_eq : sIf t a b ρ = (t ρ >>= fun k => if k = true then a ρ else b ρ) := (rfl)
@[simp] theorem sRet_eq : sRet f ρ = (f ρ >>= fun d => .ok (.rt d)) := (rfl)
@[simp] theorem sRetN_eq : sRetN ρ = .ok (.rt .none) := (rfl)
@[simp] theorem sDrop_eq : sDrop f ρ = (f ρ >>= fun _ => .ok (.nx ρ)) := (rfl)
@[simp] theorem sBreak_eq : sBreak ρ = .ok (.bk ρ) := (rfl)
@[simp] theorem sCont_eq : sCont ρ = .ok (.ct ρ) := (rfl)
@[simp] theorem sSet_eq : sSet i f ρ = (f ρ >>= fun d => .ok (.nx (ρ.set i (.val d)))) := (rfl)
@[simp] theorem sOwn_eq : sOwn i f ρ = (f ρ >>= fun d => .ok (.nx (ρ.set i (.own d)))) := (rfl)
@[simp] theorem iSeq_eq : iSeq f ρ = (f ρ >>= seqD) := (rfl)
@[simp] theorem iRange_eq : iRange fs ρ = (fs ρ >>= rngD) := (rfl)
@[simp] theorem seqD_t (ds : List PyData) : seqD (.tuple ds) = .ok ds := (rfl)
@[simp] theorem seqD_l (ds : List PyData) : seqD (.list ds) = .ok ds := (rfl)
@[simp] theorem bName_eq : bName i d ρ = some (ρ.set i (.val d)) := (rfl)
theorem sFor_eq (it : Rho → R (List PyData)) (bb : PyData → Rho → Option Rho) : sFor it bb a ρ = (it ρ >>= fun ds => forR bb a ds ρ) := rfl
@[simp] theorem forR_nil (bb : PyData → Rho → Option Rho) : forR bb a [] ρ = .ok (.nx ρ) := by unfold forR; rfl
/-- what a turn's end does -/
def turnO (k : Rho → R Out) : Out → R Out
  | .nx ρ => k ρ
  | .ct ρ => k ρ
  | .bk ρ => .ok (.nx ρ)
  | .rt r => .ok (.rt r)
@[simp] theorem turnO_nx (k : Rho → R Out) : turnO k (.nx ρ) = k ρ := (rfl)
@[simp] theorem turnO_ct (k : Rho → R Out) : turnO k (.ct ρ) = k ρ := (rfl)
@[simp] theorem turnO_bk (k : Rho → R Out) : turnO k (.bk ρ) = .ok (.nx ρ) := (rfl)
@[simp] theorem turnO_rt (k : Rho → R Out) : turnO k (.rt d) = .ok (.rt d) := (rfl)
theorem forR_cons (i : Nat) (ds : List PyData) : forR (bName i) a (d :: ds) ρ = (a (ρ.set i (.val d)) >>= turnO (forR (bName i) a ds)) := by
  rw [forR]
  show (a (ρ.set i (.val d)) >>= _) = _
  congr 1
theorem forR_pair (i j : Nat) (x y : PyData) (ds : List PyData) : forR (bPair i j) a (.tuple [x, y] :: ds) ρ = (a ((ρ.set i (.val x)).set j (.val y)) >>= turnO (forR (bPair i j) a ds)) := by
  rw [forR]
  show (a ((ρ.set i (.val x)).set j (.val y)) >>= _) = _
  congr 1
theorem seq_nx {a b : Fs} {ρ ρ' : Rho} (h : a ρ = .ok (.nx ρ')) : sSeq a b ρ = b ρ' := by rw [sSeq_eq, h]; rfl
theorem seq_rt {a b : Fs} {ρ : Rho} {d : PyData} (h : a ρ = .ok (.rt d)) : sSeq a b ρ = .ok (.rt d) := by rw [sSeq_eq, h]; rfl
theorem fn_rt {n : Nat} {g : Fs} {ds : List PyData} {d : PyData} (h : g (ds.map Cell.val ++ List.replicate (n - ds.length) .non) = .ok (.rt d)) : fnR n g ds = .ok d := by rw [fnR_eq, h]; rfl
theorem compR_nil (bb : PyData → Rho → Option Rho) : compR bb t f ρ [] = .ok [] := by unfold compR; rfl
theorem compR_cons (i : Nat) (ds : List PyData) : compR (bName i) t f ρ (d :: ds) = (t (ρ.set i (.val d)) >>= fun k => if k = true then f (ρ.set i (.val d)) >>= fun x => compR (bName i) t f ρ ds >>= fun xs => .ok (x :: xs) else compR (bName i) t f ρ ds) := by
  rw [compR]; rfl
theorem compR_pair (i j : Nat) (x y : PyData) (ds : List PyData) : compR (bPair i j) t f ρ (.tuple [x, y] :: ds) = (t ((ρ.set i (.val x)).set j (.val y)) >>= fun k => if k = true then f ((ρ.set i (.val x)).set j (.val y)) >>= fun x => compR (bPair i j) t f ρ ds >>= fun xs => .ok (x :: xs) else compR (bPair i j) t f ρ ds) := by
  rw [compR]; rfl
/-- over zipped rows, all taken -/
theorem compR_zip (i j : Nat) (G : PyData → PyData → PyData) : ∀ (xs ys : List PyData), (∀ p ∈ xs.zip ys, f ((ρ.set i (.val p.1)).set j (.val p.2)) = .ok (G p.1 p.2)) → compR (bPair i j) (fun _ => .ok true) f ρ (zipD xs ys) = .ok (List.zipWith G xs ys)
  | [], ys, _ => by unfold zipD; simp [compR_nil]
  | x :: xs, [], _ => by unfold zipD; simp [compR_nil]
  | x :: xs, y :: ys, hh => by
    have e : zipD (x :: xs) (y :: ys) = .tuple [x, y] :: zipD xs ys := rfl
    rw [e, compR_pair, hh (x, y) (by simp), compR_zip i j G xs ys fun p hp => hh p (by simp only [List.zip_cons_cons]; exact List.mem_cons_of_mem _ hp)]
    rfl
@[simp] theorem iZip_eq : iZip f g ρ = (f ρ >>= fun x => g ρ >>= fun y => seqD x >>= fun xs => seqD y >>= fun ys => .ok (zipD xs ys)) := (rfl)
@[simp] theorem iEnum_eq : iEnum f ρ = (f ρ >>= fun x => seqD x >>= fun xs => .ok (enumD 0 xs)) := (rfl)
theorem sAppend_o {ρ : Rho} {i : Nat} {ds : List PyData} (f : Fe) (h : ρ[i]? = some (.own (.list ds))) (hz : ds.length < sizeLine) : sAppend i f ρ = (f ρ >>= fun d => .ok (.nx (ρ.set i (.own (.list (ds ++ [d])))))) := by
  unfold sAppend
  congr 1
  funext d
  rw [h]
  exact if_pos hz
def lstR : R (List PyData) → R PyData
  | .ok xs => .ok (.list xs)
  | _ => .no
@[simp] theorem lstR_ok (xs : List PyData) : lstR (.ok xs) = .ok (.list xs) := (rfl)
theorem eComp_eq (it : Rho → R (List PyData)) (own : Nat) (fr : List Nat) (bb : PyData → Rho → Option Rho) : eComp it own fr bb t f ρ = (it ρ >>= fun ds => if ds.length ≤ sizeLine then lstR (compR bb t f (compRho own fr ρ) ds) else .no) := by
  unfold eComp
  congr 1
/-- an item for each, all taken -/
theorem compR_map (i : Nat) (G : PyData → PyData) : ∀ (ds : List PyData), (∀ d ∈ ds, f (ρ.set i (.val d)) = .ok (G d)) → compR (bName i) (fun _ => .ok true) f ρ ds = .ok (ds.map G)
  | [], _ => compR_nil ..
  | d :: ds, hh => by
    rw [compR_cons, hh d List.mem_cons_self, compR_map i G ds fun x hx => hh x (List.mem_cons_of_mem _ hx)]
    rfl
/-- an item for each that the test takes -/
theorem compR_filter (i : Nat) (p : PyData → Bool) (G : PyData → PyData) : ∀ (ds : List PyData), (∀ d ∈ ds, t (ρ.set i (.val d)) = .ok (p d)) → (∀ d ∈ ds, p d = true → f (ρ.set i (.val d)) = .ok (G d)) → compR (bName i) t f ρ ds = .ok ((ds.filter p).map G)
  | [], _, _ => compR_nil ..
  | d :: ds, hh, hg => by
    rw [compR_cons, hh d List.mem_cons_self, compR_filter i p G ds (fun x hx => hh x (List.mem_cons_of_mem _ hx)) fun x hx => hg x (List.mem_cons_of_mem _ hx)]
    cases hp : p d with
    | true => rw [List.filter_cons_of_pos hp, R.ok_bind, if_pos rfl, hg d List.mem_cons_self hp]; rfl
    | false => rw [List.filter_cons_of_neg (by rw [hp]; simp)]; rfl
end
section
variable (i j : Int) (xs ys : List PyData)
@[simp] theorem dNeg_i : dNeg (.int i) = .ok (.int (-i)) := (rfl)
@[simp] theorem dAdd_i : dAdd (.int i) (.int j) = .ok (.int (i + j)) := (rfl)
@[simp] theorem dAdd_t : dAdd (.tuple xs) (.tuple ys) = if xs.length + ys.length ≤ sizeLine then .ok (.tuple (xs ++ ys)) else .no := (rfl)
@[simp] theorem dAdd_l : dAdd (.list xs) (.list ys) = if xs.length + ys.length ≤ sizeLine then .ok (.list (xs ++ ys)) else .no := (rfl)
@[simp] theorem dSub_i : dSub (.int i) (.int j) = .ok (.int (i - j)) := (rfl)
@[simp] theorem dMod_i : dMod (.int i) (.int j) = if 0 < j then .ok (.int (i % j)) else .no := (rfl)
@[simp] theorem dDiv_i : dDiv (.int i) (.int j) = if 0 < j ∧ j < 1073741824 then .ok (.int (i / j)) else .no := (rfl)
theorem dMul_i : dMul (.int i) (.int j) = if (-(2 ^ 64) < i ∧ i < 2 ^ 64) ∨ (-(2 ^ 64) < j ∧ j < 2 ^ 64) then .ok (.int (i * j)) else .no := rfl
theorem dMul_l {i j : Int} (h1 : -(2 ^ 64) < i) (h2 : i < 2 ^ 64) : dMul (.int i) (.int j) = .ok (.int (i * j)) := by rw [dMul_i, if_pos (.inl ⟨h1, h2⟩)]
theorem dMul_r {i j : Int} (h1 : -(2 ^ 64) < j) (h2 : j < 2 ^ 64) : dMul (.int i) (.int j) = .ok (.int (i * j)) := by rw [dMul_i, if_pos (.inr ⟨h1, h2⟩)]
@[simp] theorem dCmp_i (p : Int → Int → Bool) : dCmp p (.int i) (.int j) = .ok (.bool (p i j)) := (rfl)
@[simp] theorem dMin_i : dMin (.int i) (.int j) = .ok (.int (if j < i then j else i)) := (rfl)
@[simp] theorem dMax_i : dMax (.int i) (.int j) = .ok (.int (if j > i then j else i)) := (rfl)
@[simp] theorem dLen_t : dLen (.tuple xs) = .ok (.int xs.length) := (rfl)
@[simp] theorem dLen_l : dLen (.list xs) = .ok (.int xs.length) := (rfl)
@[simp] theorem dTuple_l : dTuple (.list xs) = .ok (.tuple xs) := (rfl)
@[simp] theorem dTuple_t : dTuple (.tuple xs) = .ok (.tuple xs) := (rfl)
@[simp] theorem dList_l : dList (.list xs) = .ok (.list xs) := (rfl)
@[simp] theorem dList_t : dList (.tuple xs) = .ok (.list xs) := (rfl)
@[simp] theorem dInt_i : dInt (.int i) = .ok (.int i) := (rfl)
@[simp] theorem dInt_b (k : Bool) : dInt (.bool k) = .ok (.int (if k then 1 else 0)) := (rfl)
@[simp] theorem dSl_t (lo hi : Option Int) : dSl (.tuple xs) lo hi = .ok (.tuple (cutD xs lo hi)) := (rfl)
@[simp] theorem dSl_l (lo hi : Option Int) : dSl (.list xs) lo hi = .ok (.list (cutD xs lo hi)) := (rfl)
@[simp] theorem dRev_t : dRev (.tuple xs) = .ok (.tuple xs.reverse) := (rfl)
theorem dIsi_ok (T : Ty) {d : PyData} (h : ∀ k, d ≠ .dict k) : dIsi T d = .ok (.bool (isi T d)) := by
  cases d with
  | dict k => exact absurd rfl (h k)
  | _ => rfl
theorem atI_nat {α : Type} {xs : List α} {i : Int} (h0 : 0 ≤ i) (h1 : i < xs.length) : L2.atI xs i = some (xs[i.toNat]'(by omega)) := by
  unfold L2.atI ixN
  rw [if_pos h0, if_pos h1]
  exact List.getElem?_eq_getElem (by omega)
theorem dIx_t {xs : List PyData} {i : Int} (h0 : 0 ≤ i) (h1 : i < xs.length) : dIx (.tuple xs) (.int i) = .ok (xs[i.toNat]'(by omega)) := by
  show (match L2.atI xs i with | some d => R.ok d | none => .no) = _
  rw [atI_nat h0 h1]
theorem dIx_l {xs : List PyData} {i : Int} (h0 : 0 ≤ i) (h1 : i < xs.length) : dIx (.list xs) (.int i) = .ok (xs[i.toNat]'(by omega)) := by
  show (match L2.atI xs i with | some d => R.ok d | none => .no) = _
  rw [atI_nat h0 h1]
theorem eqv_int : PyData.eqv (.int i) (.int j) = decide (i = j) := by
  simp only [PyData.eqv]
  by_cases h : i = j
  · subst h; simp
  · simp [h]
theorem dEq_i : dEq (.int i) (.int j) = .ok (.bool (decide (i = j))) := by
  unfold dEq
  rw [if_pos (by rfl), eqv_int]
theorem dNe_i : dNe (.int i) (.int j) = .ok (.bool (!decide (i = j))) := by
  unfold dNe
  rw [if_pos (by rfl), eqv_int]
end
end D2
set_option Elab.async false
set_option linter.all false
set_option maxRecDepth 100000
set_option maxHeartbeats 4000000
namespace G
open PySem PySem.Spec PyProof.Rows L2 D2
def isI : PyData → Bool
  | .int _ => true
  | _ => false
def noD : PyData → Prop
  | .dict _ => False
  | _ => True
def btw (d : PyData) (lo hi : Int) : Bool := match d with
  | .int i => decide (lo ≤ i) && decide (i ≤ hi)
  | _ => false
/-- rising numbers from l on, below c -/
def rise (c : Int) : Int → List PyData → Bool
  | _, [] => true
  | l, d :: r => match d with
    | .int i => (decide (l ≤ i) && decide (i < c)) && rise c (i + 1) r
    | _ => false
/-- some places of so many -/
@[simp] def someB (c : Int) : PyData → Bool
  | .tuple ds => rise c 0 ds
  | _ => false
abbrev Good (d : PyData) : Prop := d.canLay0 = true
theorem Good.noD {d : PyData} (h : Good d) : noD d := by
  cases d <;> first | trivial | (simp [Good, PyData.canLay0] at h)
theorem goodAll : ∀ {ds : List PyData}, PyData.canLayAll0 ds = true → ∀ x ∈ ds, Good x
  | [], _, x, hx => by cases hx
  | d :: ds, h, x, hx => by
    have h' : d.canLay0 = true ∧ PyData.canLayAll0 ds = true := by simpa [PyData.canLayAll0] using h
    rcases List.mem_cons.mp hx with rfl | hx
    · exact h'.1
    · exact goodAll h'.2 x hx
theorem all_good : ∀ {ds : List PyData}, (∀ x ∈ ds, Good x) → PyData.canLayAll0 ds = true
  | [], _ => by simp [PyData.canLayAll0]
  | d :: ds, h => by
    have h1 := h d List.mem_cons_self
    have h2 := all_good fun x hx => h x (List.mem_cons_of_mem _ hx)
    simp only [PyData.canLayAll0, Bool.and_eq_true]
    exact ⟨h1, h2⟩
theorem good_tuple {ds : List PyData} : Good (.tuple ds) ↔ ∀ x ∈ ds, Good x := by
  constructor
  · intro h; exact goodAll (by simpa [Good, PyData.canLay0] using h)
  · intro h; simp only [Good, PyData.canLay0]; exact all_good h
theorem good_list {ds : List PyData} : Good (.list ds) ↔ ∀ x ∈ ds, Good x := by
  constructor
  · intro h; exact goodAll (by simpa [Good, PyData.canLay0] using h)
  · intro h; simp only [Good, PyData.canLay0]; exact all_good h
theorem good_int (i : Int) : Good (.int i) := by simp [Good, PyData.canLay0]
theorem good_none : Good .none := by simp [Good, PyData.canLay0]
theorem good_bool (b : Bool) : Good (.bool b) := by simp [Good, PyData.canLay0]
theorem rise_len (c : Int) : ∀ (ds : List PyData) (l : Int), rise c l ds = true → ds = [] ∨ l + (ds.length : Int) ≤ c
  | [], l, _ => .inl rfl
  | d :: ds, l, h => by
    right
    cases d with
    | int i =>
      simp only [rise, Bool.and_eq_true, decide_eq_true_eq] at h
      obtain ⟨⟨h1, h2⟩, h3⟩ := h
      rcases rise_len c ds (i + 1) h3 with rfl | z
      · simp; omega
      · rw [List.length_cons]; omega
    | _ => cases h
def goalsB (c : Int) : PyData → Bool
  | .tuple ds => rise c 0 ds && !ds.isEmpty
  | _ => false
def placeB (c : Int) : PyData → Bool
  | .tuple [w, m, g, s] => btw w 0 1 && (btw m 0 12 && (btw g (-20) 20 && goalsB c s))
  | _ => false
def groundB : PyData → Bool
  | .tuple ds => (decide (1 ≤ ds.length) && decide (ds.length ≤ 24)) && ds.all (placeB ds.length)
  | _ => false
theorem allB_eq (p : PyData → Bool) : ∀ ds : List PyData, D2.allB (ds.map fun d => .bool (p d)) = some (ds.all p)
  | [] => rfl
  | d :: ds => by
    simp only [List.map_cons, D2.allB, allB_eq p ds, List.all_cons, Option.map_some]
theorem small25 {n : Nat} (h : n ≤ 1000) : n ≤ sizeLine := Nat.le_trans h (by decide)
theorem eq_empty {xs : List PyData} (hg : ∀ x ∈ xs, Good x) : dEq (.list xs) (.list []) = .ok (.bool xs.isEmpty) := by
  unfold dEq
  have ho : eqOk (.list xs) (.list []) = true := by
    unfold eqOk
    have h1 : (PyData.list xs).canLay0 = true := good_list.mpr hg
    rw [h1]
    simp [PyData.canLay0, PyData.canLayAll0, PyData.depth, PyData.depthAll]
  rw [if_pos ho]
  cases xs <;> simp [PyData.eqv, PyData.eqvAll]
theorem filter_none {α : Type} (p : α → Bool) : ∀ xs : List α, (xs.filter fun x => !p x).isEmpty = xs.all p
  | [] => rfl
  | x :: xs => by
    cases hp : p x with
    | true => rw [List.filter_cons_of_neg (by rw [hp]; simp), List.all_cons, hp, filter_none p xs]; rfl
    | false => rw [List.filter_cons_of_pos (by rw [hp]; rfl), List.all_cons, hp]; rfl
abbrev scr (ns : List Int) : PyData := .list (ns.map .int)
theorem dMul_c {i j : Int} (h : (-(2 ^ 64) < i ∧ i < 2 ^ 64) ∨ (-(2 ^ 64) < j ∧ j < 2 ^ 64)) : dMul (.int i) (.int j) = .ok (.int (i * j)) := by rw [dMul_i, if_pos h]
/-- the keys that were put -/
structure Keys (c : Int) (n : Nat) (kvs : List (PyData × PyData)) : Prop where
  ex : ∃ ns : List Int, kvs.map (·.1) = ns.map PyData.int ∧ (∀ x ∈ ns, 0 ≤ x ∧ x < c) ∧ ns.length ≤ n ∧ (n = 0 ∨ ns ≠ []) ∧ ns.Nodup
theorem keyEq_ii (i j : Int) : keyEq (.int i) (.int j) = decide (i = j) := rfl
theorem Keys.put {c : Int} {n : Nat} {kvs : List (PyData × PyData)} (h : Keys c n kvs) {k : Int} (h0 : 0 ≤ k) (h1 : k < c) (v : PyData) : Keys c (n + 1) (putD kvs (.int k) v) := by
  obtain ⟨ns, e, hb, hl, hn, nd⟩ := h.ex
  have hany : (kvs.any fun kv => keyEq kv.1 (.int k)) = ns.any fun i => decide (i = k) := by
    have : (kvs.any fun kv => keyEq kv.1 (.int k)) = (kvs.map (·.1)).any fun d => keyEq d (.int k) := by rw [List.any_map]; rfl
    rw [this, e, List.any_map]; rfl
  unfold putD
  rw [hany]
  by_cases hm : k ∈ ns
  · have ha : (ns.any fun i => decide (i = k)) = true := by simp; exact hm
    rw [if_pos ha]
    refine ⟨ns, ?_, hb, by omega, .inr (by intro z; rw [z] at hm; cases hm), nd⟩
    rw [← e, List.map_map]
    apply List.map_congr_left
    intro kv _
    show (if keyEq kv.1 (.int k) = true then (kv.1, v) else kv).1 = kv.1
    split <;> rfl
  · have ha : ¬ (ns.any fun i => decide (i = k)) = true := by simp; exact hm
    rw [if_neg ha]
    refine ⟨ns ++ [k], by rw [List.map_append, List.map_append, e]; rfl, fun x hx => ?_, by simp; omega, .inr (by simp), ?_⟩
    · rcases List.mem_append.mp hx with z | z
      · exact hb x z
      · simp at z; subst z; exact ⟨h0, h1⟩
    · rw [List.nodup_append]
      refine ⟨nd, by simp, fun a hma b hb' => ?_⟩
      simp at hb'
      subst hb'
      rintro rfl
      exact hm hma
theorem Keys.len {c : Int} {n : Nat} {kvs : List (PyData × PyData)} (h : Keys c n kvs) : kvs.length ≤ n := by
  obtain ⟨ns, e, _, hl, _⟩ := h.ex
  have := congrArg List.length e
  simp at this
  omega
theorem rangeI_ints (lo : Int) (n : Nat) : ∀ d ∈ rangeI lo n, ∃ k, d = .int k := fun d hd => by
  unfold rangeI at hd
  obtain ⟨k, _, rfl⟩ := List.mem_map.mp hd
  exact ⟨_, rfl⟩
theorem rangeI_len (lo : Int) (n : Nat) : (rangeI lo n).length = n := by unfold rangeI; simp
theorem compR_ex (f : Fe) (ρ : Rho) (i : Nat) (P : PyData → Prop) : ∀ ds : List PyData, (∀ d ∈ ds, ∃ x, f (ρ.set i (.val d)) = .ok x ∧ P x) → ∃ xs, compR (bName i) (fun _ => .ok true) f ρ ds = .ok xs ∧ xs.length = ds.length ∧ ∀ x ∈ xs, P x
  | [], _ => ⟨[], compR_nil .., rfl, by simp⟩
  | d :: ds, h => by
    obtain ⟨x, h1, h2⟩ := h d List.mem_cons_self
    obtain ⟨xs, h3, h4, h5⟩ := compR_ex f ρ i P ds fun d hd => h d (List.mem_cons_of_mem _ hd)
    refine ⟨x :: xs, ?_, by simp [h4], fun y hy => ?_⟩
    · rw [compR_cons, h1, h3]; rfl
    · rcases List.mem_cons.mp hy with rfl | hy
      · exact h2
      · exact h5 y hy
theorem dIx_mem {xs : List PyData} {i : Int} (h0 : 0 ≤ i) (h1 : i < xs.length) : ∃ x ∈ xs, dIx (.list xs) (.int i) = .ok x := ⟨_, List.getElem_mem _, dIx_l h0 h1⟩
theorem cut_sub {ds : List PyData} {lo hi : Option Int} : ∀ x ∈ D2.cutD ds lo hi, x ∈ ds := fun x hx => List.mem_of_mem_drop (List.mem_of_mem_take hx)
theorem cut_len (ds : List PyData) (lo hi : Option Int) : (D2.cutD ds lo hi).length ≤ ds.length := by
  unfold D2.cutD
  rw [List.length_take, List.length_drop]
  omega
theorem str_good {i : Int} (h1 : -20 ≤ i) (h2 : i ≤ 24) : Good (.str (toString i)) := by
  have : ∀ k : Fin 45, (PyData.str (toString ((k : Int) - 20))).canLay0 = true := by decide +kernel
  have q := this ⟨(i + 20).toNat, by omega⟩
  have e : (((⟨(i + 20).toNat, by omega⟩ : Fin 45) : Nat) : Int) - 20 = i := by simp; omega
  rw [e] at q
  exact q
theorem ne_empty {x : PyData} (hg : Good x) : dNe x (.tuple []) = .ok (.bool (match x with | .tuple [] => false | _ => true)) := by
  unfold dNe
  have ho : eqOk x (.tuple []) = true := by
    unfold eqOk
    have h1 : x.canLay0 = true := hg
    rw [h1]
    simp [PyData.canLay0, PyData.canLayAll0, PyData.depth, PyData.depthAll]
    omega
  rw [if_pos ho]
  cases x with
  | tuple ds => cases ds <;> simp [PyData.eqv, PyData.eqvAll]
  | dict k => exact hg.noD.elim
  | _ => simp [PyData.eqv]
/-- ints -20 to 24, None, and short tuples of such -/
inductive Nice : PyData → Prop
  | int (i : Int) (h1 : -20 ≤ i) (h2 : i ≤ 24) : Nice (.int i)
  | none : Nice .none
  | tuple (ds : List PyData) (h : ds.length ≤ 100) (ha : ∀ x ∈ ds, Nice x) : Nice (.tuple ds)
theorem Nice.good {d : PyData} (h : Nice d) : Good d := by
  induction h with
  | int i => exact good_int i
  | none => exact good_none
  | tuple ds _ _ ih => exact good_tuple.mpr ih
/-- a place, its parts -/
structure P4 where
  w : Int
  m : Int
  g : Int
  ns : List Int
def P4.d (p : P4) : PyData := .tuple [.int p.w, .int p.m, .int p.g, .tuple (p.ns.map .int)]
structure Pl (c hi : Int) (p : P4) : Prop where
  w0 : 0 ≤ p.w
  w1 : p.w ≤ 1
  m0 : 0 ≤ p.m
  m1 : p.m ≤ hi
  g0 : -20 ≤ p.g
  g1 : p.g ≤ 20
  ne : p.ns ≠ []
  so : p.ns.Pairwise (· < ·)
  inn : ∀ x ∈ p.ns, 0 ≤ x ∧ x < c
theorem rising_len : ∀ (ns : List Int) (l c : Int), ns.Pairwise (· < ·) → (∀ x ∈ ns, l ≤ x ∧ x < c) → ns = [] ∨ l + (ns.length : Int) ≤ c
  | [], _, _, _, _ => .inl rfl
  | x :: r, l, c, hp, hb => by
    right
    obtain ⟨h1, h2⟩ := List.pairwise_cons.mp hp
    have hx := hb x List.mem_cons_self
    rcases rising_len r (x + 1) c h2 (fun y hy => ⟨by have := h1 y hy; omega, (hb y (List.mem_cons_of_mem _ hy)).2⟩) with rfl | z
    · simp; omega
    · rw [List.length_cons]; omega
theorem Pl.len {c hi : Int} {p : P4} (h : Pl c hi p) : (p.ns.length : Int) ≤ c := by
  rcases rising_len p.ns 0 c h.so h.inn with z | z
  · exact absurd z h.ne
  · omega
theorem Pl.nice {c hi : Int} {p : P4} (h : Pl c hi p) (hc : c ≤ 24) (hh : hi ≤ 12) : Nice p.d := by
  have hl := h.len
  refine .tuple _ (by simp) fun x hx => ?_
  simp at hx
  rcases hx with rfl | rfl | rfl | rfl
  · exact .int _ (by have := h.w0; omega) (by have := h.w1; omega)
  · exact .int _ (by have := h.m0; omega) (by have := h.m1; omega)
  · exact .int _ (by have := h.g0; omega) (by have := h.g1; omega)
  · refine .tuple _ (by simp; omega) fun x hx => ?_
    obtain ⟨i, hi, rfl⟩ := List.mem_map.mp hx
    have := h.inn i hi
    exact .int _ (by omega) (by omega)
/-- places of a ground of so many -/
abbrev gD (ps : List P4) : PyData := .tuple (ps.map P4.d)
theorem strict_of {ns : List Int} (h : ns.Pairwise (· ≤ ·)) (nd : ns.Nodup) : ns.Pairwise (· < ·) := by
  have := h.and nd
  exact this.imp fun ⟨a, b⟩ => by omega
theorem rise_of (c : Int) : ∀ (ns : List Int) (l : Int), ns.Pairwise (· < ·) → (∀ x ∈ ns, l ≤ x ∧ x < c) → rise c l (ns.map .int) = true
  | [], _, _, _ => rfl
  | x :: r, l, hp, hb => by
    obtain ⟨h1, h2⟩ := List.pairwise_cons.mp hp
    have hx := hb x List.mem_cons_self
    simp only [List.map_cons, rise, Bool.and_eq_true, decide_eq_true_eq]
    exact ⟨⟨hx.1, hx.2⟩, rise_of c r (x + 1) h2 fun y hy => ⟨by have := h1 y hy; omega, (hb y (List.mem_cons_of_mem _ hy)).2⟩⟩
end G
set_option Elab.async false
set_option linter.all false
set_option maxRecDepth 100000
set_option maxHeartbeats 4000000
namespace G
open PySem PySem.Spec PyProof.Rows L2 D2
def M_law_cell_at : Fs :=
  (sSeq (sIf (tE (e2 (dCmp pLt) (eVar 1) (e1 dLen (eVar 0)))) (sRet (e2 dIx (eVar 0) (eVar 1))) sSkip) (sRet (eC (.int 0))))
def F_law_cell_at : List PyData → R PyData := fnR 2 (M_law_cell_at)
def M_law_mixed (F_law_cell_at : List PyData → R PyData) : Fs :=
  (sSeq (sSet 2 (e2 dMod (e2 dMul (e2 dAdd (e2 dAdd (eCall F_law_cell_at (aCons (eVar 0) (aCons (eVar 1) aNil))) (e2 dMul (eC (.int 7919)) (eVar 1))) (eC (.int 1))) (eC (.int 48271))) (eC (.int 2147483647)))) (sRet (e2 dMod (e2 dAdd (e2 dAdd (e2 dMul (eVar 2) (eVar 2)) (e2 dMul (eC (.int 7)) (eVar 2))) (eVar 1)) (eC (.int 2147483629)))))
def F_law_mixed : List PyData → R PyData := fnR 3 (M_law_mixed F_law_cell_at)
def M_law_drawn : Fs :=
  (sSeq (sSet 2 (e2 dMod (e2 dMul (e2 dAdd (e2 dAdd (eVar 0) (e2 dMul (eC (.int 104729)) (eVar 1))) (eC (.int 17))) (eC (.int 69621))) (eC (.int 2147483647)))) (sRet (e2 dMod (e2 dAdd (e2 dAdd (e2 dMul (eVar 2) (eVar 2)) (e2 dMul (eC (.int 3)) (eVar 2))) (eVar 1)) (eC (.int 2147483629)))))
def F_law_drawn : List PyData → R PyData := fnR 3 (M_law_drawn)
def M_law_goals (F_law_drawn : List PyData → R PyData) : Fs :=
  (sSeq (sOwn 2 (eC (.dict []))) (sSeq (sFor (iRange (aCons (e2 dAdd (e2 dAdd (eC (.int 1)) (e2 dMod (eVar 0) (eC (.int 3)))) (e2 dMul (eC (.int 20)) (e1 dInt (e2 (dEq) (e2 dMod (e2 dDiv (eVar 0) (eC (.int 3))) (eC (.int 29))) (eC (.int 7)))))) aNil)) (bName 3) (sPut 2 (e2 dMod (eCall F_law_drawn (aCons (eVar 0) (aCons (eVar 3) aNil))) (eVar 1)) (eC (.bool true)))) (sRet (e1 dTuple (e1 dSorted (eVarB 2))))))
def F_law_goals : List PyData → R PyData := fnR 4 (M_law_goals F_law_drawn)
def M_law_place (F_law_drawn : List PyData → R PyData) (F_law_goals : List PyData → R PyData) : Fs :=
  (sSeq (sSet 3 (e2 dSub (e2 dMod (e2 dDiv (eVar 0) (eC (.int 26))) (eC (.int 9))) (eC (.int 4)))) (sSeq (sIf (tE (e2 (dEq) (e2 dMod (e2 dDiv (eVar 0) (eC (.int 234))) (eC (.int 11))) (eC (.int 3)))) (sSet 3 (e2 dSub (e2 dMod (e2 dDiv (eVar 0) (eC (.int 26))) (eC (.int 41))) (eC (.int 20)))) sSkip) (sRet (eTup (aCons (e2 dMod (eVar 0) (eC (.int 2))) (aCons (e2 dMod (e2 dDiv (eVar 0) (eC (.int 2))) (e2 dAdd (eVar 2) (eC (.int 1)))) (aCons (eVar 3) (aCons (eCall F_law_goals (aCons (eCall F_law_drawn (aCons (eVar 0) (aCons (eC (.int 9)) aNil))) (aCons (eVar 1) aNil))) aNil))))))))
def F_law_place : List PyData → R PyData := fnR 4 (M_law_place F_law_drawn F_law_goals)
def M_law_ground (F_law_mixed : List PyData → R PyData) (F_law_place : List PyData → R PyData) : Fs :=
  (sSeq (sSet 2 (eCall F_law_mixed (aCons (eVar 0) (aCons (eC (.int 0)) aNil)))) (sSeq (sSet 3 (e2 dAdd (eC (.int 1)) (e2 dMod (eVar 2) (e2 dMin (eVar 1) (e2 dMax (eC (.int 4)) (e1 dLen (eVar 0))))))) (sSeq (sSet 4 (e2 dIx (eLst (aCons (eC (.int 1)) (aCons (eC (.int 2)) (aCons (eC (.int 3)) (aCons (eC (.int 5)) (aCons (eC (.int 12)) (aCons (eC (.int 12)) aNil))))))) (e2 dMod (e2 dDiv (eVar 2) (eC (.int 24))) (eC (.int 6))))) (sRet (e1 dTuple (eComp (iRange (aCons (eVar 3) aNil)) 1 [0, 3, 4] (bName 0) (fun _ => .ok true) (eCall F_law_place (aCons (eCall F_law_mixed (aCons (eVar 1) (aCons (e2 dAdd (eC (.int 3)) (eVar 0)) aNil))) (aCons (eVar 2) (aCons (eVar 3) aNil))))))))))
def F_law_ground : List PyData → R PyData := fnR 5 (M_law_ground F_law_mixed F_law_place)
def M_law_moves (F_law_drawn : List PyData → R PyData) : Fs :=
  (sSeq (sOwn 2 (eLst aNil)) (sSeq (sFor (iEnum (eVar 0)) (bPair 3 4) (sSeq (sSet 5 (eCall F_law_drawn (aCons (eVar 1) (aCons (eVar 3) aNil)))) (sIf (tE (e2 (dEq) (e2 dMod (eVar 5) (eC (.int 6))) (eC (.int 0)))) (sAppend 2 (eC .none)) (sAppend 2 (e2 dIx (e2 dIx (eVar 4) (eC (.int 3))) (e2 dMod (e2 dDiv (eVar 5) (eC (.int 6))) (e1 dLen (e2 dIx (eVar 4) (eC (.int 3)))))))))) (sRet (e1 dTuple (eVarB 2)))))
def F_law_moves : List PyData → R PyData := fnR 6 (M_law_moves F_law_drawn)
def M_law_moves_good : Fs :=
  (sSeq (sIf (tOrR (tNotR (tE (e1 (dIsi .tuple) (eVar 0)))) (tE (e2 (dNe) (e1 dLen (eVar 0)) (e1 dLen (eVar 1))))) (sRet (eC (.bool false))) sSkip) (sSeq (sFor (iZip (eVar 0) (eVar 1)) (bPair 2 3) (sSeq (sIf (tOrR (tE (e1 (dIsi .bool) (eVar 2))) (tAndR (tE (e2 (dNotN) (eVar 2) (eC .none))) (tNotR (tE (e1 (dIsi .int) (eVar 2)))))) (sRet (eC (.bool false))) sSkip) (sIf (tAndR (tE (e2 (dNotN) (eVar 2) (eC .none))) (tE (e2 (dIn true) (eVar 2) (e2 dIx (eVar 3) (eC (.int 3)))))) (sRet (eC (.bool false))) sSkip))) (sRet (eC (.bool true)))))
def F_law_moves_good : List PyData → R PyData := fnR 4 (M_law_moves_good)
def M_law_rising : Fs :=
  (sSeq (sIf (tNotR (tE (e1 (dIsi .tuple) (eVar 0)))) (sRet (eC (.bool false))) sSkip) (sSeq (sSet 2 (e1 dNeg (eC (.int 1)))) (sSeq (sFor (iSeq (eVar 0)) (bName 3) (sSeq (sIf (tOrR (tNotR (tE (e1 (dIsi .int) (eVar 3)))) (tOrR (tE (e1 (dIsi .bool) (eVar 3))) (tNotR (tE (eChain (dCmp pLt) (dCmp pLt) (eVar 2) (eVar 3) (eVar 1)))))) (sRet (eC (.bool false))) sSkip) (sSet 2 (eVar 3)))) (sRet (eC (.bool true))))))
def F_law_rising : List PyData → R PyData := fnR 4 (M_law_rising)
def M_law_same : Fs :=
  (sRet (eAnd (e1 (dIsi .bool) (eVar 0)) (e2 (dEq) (eVar 0) (eVar 1))))
def F_law_same : List PyData → R PyData := fnR 2 (M_law_same)
def M_law_some (F_law_drawn : List PyData → R PyData) : Fs :=
  (sSeq (sSet 2 (e2 dMod (eVar 0) (eC (.int 5)))) (sRet (e1 dTuple (eComp (iRange (aCons (eVar 1) aNil)) 1 [2, 0] (bName 0) (tOrR (tE (e2 (dEq) (eVar 1) (eC (.int 4)))) (tE (e2 (dCmp pLt) (e2 dMod (eCall F_law_drawn (aCons (eVar 2) (aCons (eVar 0) aNil))) (eC (.int 4))) (eVar 1)))) (eVar 0)))))
def F_law_some : List PyData → R PyData := fnR 3 (M_law_some F_law_drawn)
def M_law_odd : Fs :=
  (sSeq (sSet 1 (eLst (aCons (e1 dNeg (eC (.int 1))) (aCons (eC (.int 0)) (aCons (eC (.int 1)) (aCons (eC (.int 2)) (aCons (eC (.int 12)) (aCons (eC (.int 13)) (aCons (eC (.int 20)) (aCons (eC (.int 21)) (aCons (e1 dNeg (eC (.int 20))) (aCons (e1 dNeg (eC (.int 21))) (aCons (eC (.int 24)) (aCons (eC (.int 25)) (aCons (eC (.bool true)) (aCons (eC (.bool false)) (aCons (eC .none) (aCons (eC (.str (PySem.Str.ofString ""))) (aCons (eC (.str (PySem.Str.ofString "a"))) (aCons (eTup aNil) (aCons (eLst aNil) (aCons (eTup (aCons (eC (.int 0)) aNil)) (aCons (eTup (aCons (eC (.int 1)) (aCons (eC (.int 0)) aNil))) (aCons (eTup (aCons (eC (.int 0)) (aCons (eC (.int 0)) aNil))) aNil)))))))))))))))))))))))) (sRet (e2 dIx (eVar 1) (e2 dMod (eVar 0) (eC (.int 22))))))
def F_law_odd : List PyData → R PyData := fnR 2 (M_law_odd)
def M_law_spoilt (F_law_odd : List PyData → R PyData) (F_law_spoilt : List PyData → R PyData) : Fs :=
  (sSeq (sIf (tAndR (tE (e2 (dCmp pGt) (eVar 2) (eC (.int 0)))) (tAndR (tE (e1 (dIsi .tuple) (eVar 0))) (tAndR (tE (e2 (dCmp pGt) (e1 dLen (eVar 0)) (eC (.int 0)))) (tE (e2 (dCmp pGt) (e2 dMod (eVar 1) (eC (.int 6))) (eC (.int 0))))))) (sSeq (sSet 3 (e2 dMod (e2 dDiv (eVar 1) (eC (.int 6))) (e1 dLen (eVar 0)))) (sSeq (sSet 4 (eCall F_law_spoilt (aCons (e2 dIx (eVar 0) (eVar 3)) (aCons (e2 dDiv (e2 dDiv (eVar 1) (eC (.int 6))) (e1 dLen (eVar 0))) (aCons (e2 dSub (eVar 2) (eC (.int 1))) aNil))))) (sRet (e2 dAdd (e2 dAdd (eSl (eVar 0) oNone (oSome (eVar 3))) (eTup (aCons (eVar 4) aNil))) (eSl (eVar 0) (oSome (e2 dAdd (eVar 3) (eC (.int 1)))) oNone))))) sSkip) (sSeq (sIf (tAndR (tE (e1 (dIsi .tuple) (eVar 0))) (tAndR (tE (e2 (dCmp pGt) (e1 dLen (eVar 0)) (eC (.int 0)))) (tE (e2 (dEq) (e2 dMod (e2 dDiv (eVar 1) (eC (.int 6))) (eC (.int 2))) (eC (.int 0)))))) (sRet (e2 dIx (eLst (aCons (e1 dList (eVar 0)) (aCons (eSl (eVar 0) oNone (oSome (e1 dNeg (eC (.int 1))))) (aCons (e2 dAdd (eVar 0) (eSl (eVar 0) (oSome (e1 dNeg (eC (.int 1)))) oNone)) (aCons (eSl (eVar 0) (oSome (eC (.int 1))) oNone) (aCons (e1 dRev (eVar 0)) (aCons (e2 dMul (eVar 0) (eC (.int 2))) aNil))))))) (e2 dMod (e2 dDiv (eVar 1) (eC (.int 12))) (eC (.int 6))))) sSkip) (sSeq (sIf (tAndR (tE (e1 (dIsi .int) (eVar 0))) (tE (e2 (dEq) (e2 dMod (e2 dDiv (eVar 1) (eC (.int 6))) (eC (.int 2))) (eC (.int 0))))) (sRet (e2 dIx (eLst (aCons (e1 dStr (eVar 0)) (aCons (e1 dNeg (eVar 0)) (aCons (e2 dMul (eVar 0) (eC (.int 1001))) (aCons (e2 (dEq) (eVar 0) (eC (.int 1))) (aCons (e2 dAdd (eVar 0) (eC (.int 1))) aNil)))))) (e2 dMod (e2 dDiv (eVar 1) (eC (.int 12))) (eC (.int 5))))) sSkip) (sRet (eCall F_law_odd (aCons (e2 dDiv (eVar 1) (eC (.int 6))) aNil))))))
def F_law_spoilt : Nat → List PyData → R PyData
  | 0 => fun _ => .no
  | k + 1 => fnR 5 (M_law_spoilt F_law_odd (F_law_spoilt k))
def M_is_whole : Fs :=
  (sRet (eAnd (e1 (dIsi .int) (eVar 0)) (eNot (e1 (dIsi .bool) (eVar 0)))))
def F_is_whole : List PyData → R PyData := fnR 1 (M_is_whole)
def M_is_move (F_is_whole : List PyData → R PyData) : Fs :=
  (sRet (eOr (e2 (dIsN) (eVar 0) (eC .none)) (eAnd (eCall F_is_whole (aCons (eVar 0) aNil)) (e2 (dIn false) (eVar 0) (e2 dIx (eVar 1) (eC (.int 3)))))))
def F_is_move : List PyData → R PyData := fnR 2 (M_is_move F_is_whole)
def M_are_moves (F_is_move : List PyData → R PyData) : Fs :=
  (sSeq (sIf (tOrR (tNotR (tE (e1 (dIsi .tuple) (eVar 0)))) (tE (e2 (dNe) (e1 dLen (eVar 0)) (e1 dLen (eVar 1))))) (sRet (eC (.bool false))) sSkip) (sRet (e1 dAll (eComp (iZip (eVar 0) (eVar 1)) 2 [] (bPair 0 1) (fun _ => .ok true) (eCall F_is_move (aCons (eVar 0) (aCons (eVar 1) aNil)))))))
def F_are_moves : List PyData → R PyData := fnR 2 (M_are_moves F_is_move)
def M_is_between (F_is_whole : List PyData → R PyData) : Fs :=
  (sRet (eAnd (eCall F_is_whole (aCons (eVar 0) aNil)) (eChain (dCmp pLe) (dCmp pLe) (eVar 1) (eVar 0) (eVar 2))))
def F_is_between : List PyData → R PyData := fnR 3 (M_is_between F_is_whole)
def M_are_some (F_is_between : List PyData → R PyData) : Fs :=
  (sSeq (sIf (tNotR (tE (e1 (dIsi .tuple) (eVar 0)))) (sRet (eC (.bool false))) sSkip) (sSeq (sSet 2 (eC (.int 0))) (sSeq (sFor (iSeq (eVar 0)) (bName 3) (sSeq (sIf (tNotR (tE (eCall F_is_between (aCons (eVar 3) (aCons (eVar 2) (aCons (e2 dSub (eVar 1) (eC (.int 1))) aNil)))))) (sRet (eC (.bool false))) sSkip) (sSet 2 (e2 dAdd (eVar 3) (eC (.int 1)))))) (sRet (eC (.bool true))))))
def F_are_some : List PyData → R PyData := fnR 4 (M_are_some F_is_between)
def M_law (F_law_ground : List PyData → R PyData) (F_law_mixed : List PyData → R PyData) (F_law_moves : List PyData → R PyData) (F_law_moves_good : List PyData → R PyData) (F_law_rising : List PyData → R PyData) (F_law_same : List PyData → R PyData) (F_law_some : List PyData → R PyData) (F_law_spoilt : List PyData → R PyData) (F_are_moves : List PyData → R PyData) (F_are_some : List PyData → R PyData) : Fs :=
  (sSeq (sSet 1 (eCall F_law_ground (aCons (eVar 0) (aCons (eC (.int 24)) aNil)))) (sSeq (sSet 2 (eCall F_law_some (aCons (eCall F_law_mixed (aCons (eVar 0) (aCons (eC (.int 1)) aNil))) (aCons (e1 dLen (eVar 1)) aNil)))) (sSeq (sSet 3 (eCall F_law_moves (aCons (eVar 1) (aCons (eCall F_law_mixed (aCons (eVar 0) (aCons (eC (.int 2)) aNil))) aNil)))) (sSeq (sIf (tE (e2 (dEq) (e2 dMod (eCall F_law_mixed (aCons (eVar 0) (aCons (eC (.int 3)) aNil))) (eC (.int 2))) (eC (.int 1)))) (sSet 2 (eCall F_law_spoilt (aCons (eVar 2) (aCons (eCall F_law_mixed (aCons (eVar 0) (aCons (eC (.int 4)) aNil))) (aCons (e2 dMod (e2 dDiv (eCall F_law_mixed (aCons (eVar 0) (aCons (eC (.int 3)) aNil))) (eC (.int 2))) (eC (.int 3))) aNil))))) sSkip) (sSeq (sIf (tE (e2 (dEq) (e2 dMod (eCall F_law_mixed (aCons (eVar 0) (aCons (eC (.int 5)) aNil))) (eC (.int 2))) (eC (.int 1)))) (sSet 3 (eCall F_law_spoilt (aCons (eVar 3) (aCons (eCall F_law_mixed (aCons (eVar 0) (aCons (eC (.int 6)) aNil))) (aCons (e2 dMod (e2 dDiv (eCall F_law_mixed (aCons (eVar 0) (aCons (eC (.int 5)) aNil))) (eC (.int 2))) (eC (.int 3))) aNil))))) sSkip) (sSeq (sSet 4 (e2 dAdd (eC (.int 1)) (e2 dMod (e2 dAdd (e2 dAdd (e1 dLen (eVar 1)) (e2 dMod (eCall F_law_mixed (aCons (eVar 0) (aCons (eC (.int 7)) aNil))) (eC (.int 3)))) (eC (.int 22))) (eC (.int 24))))) (sRet (eAnd (eCall F_law_same (aCons (eCall F_are_some (aCons (eVar 2) (aCons (eVar 4) aNil))) (aCons (eCall F_law_rising (aCons (eVar 2) (aCons (eVar 4) aNil))) aNil))) (eCall F_law_same (aCons (eCall F_are_moves (aCons (eVar 3) (aCons (eVar 1) aNil))) (aCons (eCall F_law_moves_good (aCons (eVar 3) (aCons (eVar 1) aNil))) aNil)))))))))))
def F_law : List PyData → R PyData := fnR 5 (M_law F_law_ground F_law_mixed F_law_moves F_law_moves_good F_law_rising F_law_same F_law_some (F_law_spoilt 8) F_are_moves F_are_some)
end G
set_option Elab.async false
set_option linter.all false
set_option maxRecDepth 100000
set_option maxHeartbeats 4000000
namespace G
open PySem PySem.Spec PyProof.Rows L2 D2
theorem cell_eq (ns : List Int) {k : Int} (hk : 0 ≤ k) : ∃ v, F_law_cell_at [scr ns, .int k] = .ok (.int v) := by
  unfold F_law_cell_at M_law_cell_at
  by_cases h : k < ns.length
  · refine ⟨ns[k.toNat]'(by omega), ?_⟩
    have hx := dIx_l (xs := ns.map PyData.int) (i := k) hk (by simpa using h)
    rw [fnR_eq]
    simp [h, hx]
  · refine ⟨0, ?_⟩
    rw [fnR_eq]
    simp [h]
theorem mixed_eq (ns : List Int) {k : Int} (hk : 0 ≤ k) : ∃ v, F_law_mixed [scr ns, .int k] = .ok (.int v) ∧ 0 ≤ v ∧ v < 2147483629 := by
  obtain ⟨c, hc⟩ := cell_eq ns hk
  unfold F_law_mixed M_law_mixed
  have m1 : dMul (.int 7919) (.int k) = .ok (.int (7919 * k)) := dMul_c (.inl (by omega))
  have m2 : dMul (.int (c + 7919 * k + 1)) (.int 48271) = .ok (.int ((c + 7919 * k + 1) * 48271)) := dMul_c (.inr (by omega))
  generalize hd : (c + 7919 * k + 1) * 48271 % 2147483647 = d
  have hd0 : 0 ≤ d := by omega
  have hd1 : d < 2147483647 := by omega
  have m3 : dMul (.int d) (.int d) = .ok (.int (d * d)) := dMul_c (.inl (by omega))
  have m4 : dMul (.int 7) (.int d) = .ok (.int (7 * d)) := dMul_c (.inl (by omega))
  refine ⟨(d * d + 7 * d + k) % 2147483629, ?_, by omega, by omega⟩
  rw [fnR_eq]
  simp [hc, m1, m2, hd, m3, m4, List.replicate]
theorem drawn_eq (n k : Int) : ∃ v, F_law_drawn [.int n, .int k] = .ok (.int v) ∧ 0 ≤ v ∧ v < 2147483629 := by
  unfold F_law_drawn M_law_drawn
  have m1 : dMul (.int 104729) (.int k) = .ok (.int (104729 * k)) := dMul_c (.inl (by omega))
  have m2 : dMul (.int (n + 104729 * k + 17)) (.int 69621) = .ok (.int ((n + 104729 * k + 17) * 69621)) := dMul_c (.inr (by omega))
  generalize hd : (n + 104729 * k + 17) * 69621 % 2147483647 = d
  have hd0 : 0 ≤ d := by omega
  have hd1 : d < 2147483647 := by omega
  have m3 : dMul (.int d) (.int d) = .ok (.int (d * d)) := dMul_c (.inl (by omega))
  have m4 : dMul (.int 3) (.int d) = .ok (.int (3 * d)) := dMul_c (.inl (by omega))
  refine ⟨(d * d + 3 * d + k) % 2147483629, ?_, by omega, by omega⟩
  rw [fnR_eq]
  simp [m1, m2, hd, m3, m4, List.replicate]
theorem goals_loop (n c : Int) (hc : 1 ≤ c) : ∀ (ds : List PyData) (m : Nat) (kvs : List (PyData × PyData)) (x : Cell), Keys c m kvs → (∀ d ∈ ds, ∃ k, d = .int k) → m + ds.length ≤ 1000 →
    ∃ kvs' x', Keys c (m + ds.length) kvs' ∧ forR (bName 3) (sPut 2 (e2 dMod (eCall F_law_drawn (aCons (eVar 0) (aCons (eVar 3) aNil))) (eVar 1)) (eC (.bool true))) ds [.val (.int n), .val (.int c), .own (.dict kvs), x]
      = .ok (.nx [.val (.int n), .val (.int c), .own (.dict kvs'), x'])
  | [], m, kvs, x, hk, _, _ => ⟨kvs, x, hk, by rw [forR_nil]⟩
  | d :: ds, m, kvs, x, hk, hi, hl => by
    obtain ⟨k, rfl⟩ := hi d List.mem_cons_self
    obtain ⟨v, hv, v0, v1⟩ := drawn_eq n k
    have hk' := hk.put (k := v % c) (Int.emod_nonneg _ (by omega)) (Int.emod_lt_of_pos _ (by omega)) (.bool true)
    obtain ⟨kvs', x', h1, h2⟩ := goals_loop n c hc ds (m + 1) _ (.val (.int k)) hk' (fun d hd => hi d (List.mem_cons_of_mem _ hd)) (by simp at hl; omega)
    refine ⟨kvs', x', by rw [List.length_cons]; simpa [Nat.add_comm, Nat.add_left_comm, Nat.add_assoc] using h1, ?_⟩
    have hlen := hk.len
    have hsz : kvs.length < sizeLine := Nat.lt_of_le_of_lt (show kvs.length ≤ 1000 by simp at hl; omega) (by decide)
    have hc' : 0 < c := by omega
    rw [forR_cons, ← h2]
    simp [sPut, hv, hc', keyOf, hsz]
theorem lgoals_eq {n c : Int} (hn : 0 ≤ n) (hc : 1 ≤ c) : ∃ ns : List Int, F_law_goals [.int n, .int c] = .ok (.tuple (ns.map .int)) ∧ (∀ x ∈ ns, 0 ≤ x ∧ x < c) ∧ ns ≠ [] ∧ ns.Pairwise (· < ·) := by
  unfold F_law_goals M_law_goals
  have m1 : ∀ k : Int, dMul (.int 20) (.int k) = .ok (.int (20 * k)) := fun k => dMul_c (.inl (by omega))
  generalize hN : (1 + n % 3 + 20 * (if n / 3 % 29 = 7 then 1 else 0) : Int) = N
  have hN0 : 1 ≤ N := by split at hN <;> omega
  have hN1 : N ≤ 23 := by split at hN <;> omega
  obtain ⟨kvs, x, hk, hf⟩ := goals_loop n c hc (rangeI 0 N.toNat) 0 [] .non ⟨[], rfl, by simp, by simp, .inl rfl, by simp⟩ (rangeI_ints _ _) (by rw [rangeI_len]; omega)
  obtain ⟨ns, e, hb, hl, hz, nd⟩ := hk.ex
  rw [rangeI_len] at hl hz
  have hi : intsOf (kvs.map (·.1)) = some ns := by rw [e, intsOf_ints]
  have hs : dSorted (.dict kvs) = .ok (.list ((sortI ns).map PyData.int)) := by
    show (match intsOf (kvs.map (·.1)) with | some ns => if ns.length < 64 then R.ok (PyData.list ((sortI ns).map PyData.int)) else .no | none => .no) = _
    rw [hi]
    exact if_pos (by omega)
  have hr : -(2 ^ 62) ≤ N ∧ N < 2 ^ 62 := by omega
  refine ⟨sortI ns, ?_, fun x hx => hb x ((sortI_perm ns).mem_iff.mp hx), ?_, strict_of (sortI_sorted ns) ((sortI_perm ns).nodup_iff.mpr nd)⟩
  · rw [fnR_eq]
    have hg : rngD [.int N] = .ok (rangeI 0 N.toNat) := by
      show (if -(2 ^ 62) ≤ N ∧ N < 2 ^ 62 then R.ok (rangeI 0 N.toNat) else .no) = _
      rw [if_pos hr]
    simp [sFor_eq, dEq_i, m1, List.replicate, hN, hg, hf, hs]
  · intro z
    have := (sortI_perm ns).length_eq
    rw [z] at this
    rcases hz with q | q
    · omega
    · exact q (List.eq_nil_of_length_eq_zero this.symm)
theorem lplace_mk {n c h : Int} (hn : 0 ≤ n) (hc : 1 ≤ c) (h0 : 0 ≤ h) : ∃ p : P4, F_law_place [.int n, .int c, .int h] = .ok p.d ∧ Pl c h p := by
  obtain ⟨v, hv, v0, v1⟩ := drawn_eq n 9
  obtain ⟨ns, hg, hb, hne, hso⟩ := lgoals_eq (n := v) (c := c) v0 hc
  unfold F_law_place M_law_place
  have hh : 0 < h + 1 := by omega
  have s4 : 4 ≤ sizeLine := by decide
  have a1 := Int.emod_nonneg (n / 2) (show h + 1 ≠ 0 by omega)
  have a2 := Int.emod_lt_of_pos (n / 2) hh
  by_cases hq : n / 234 % 11 = 3
  · refine ⟨⟨n % 2, n / 2 % (h + 1), n / 26 % 41 - 20, ns⟩, ?_, ⟨by dsimp only; omega, by dsimp only; omega, a1, by dsimp only; omega, by dsimp only; omega, by dsimp only; omega, hne, hso, hb⟩⟩
    rw [fnR_eq]
    simp [hh, dEq_i, hq, hv, hg, s4, P4.d]
  · refine ⟨⟨n % 2, n / 2 % (h + 1), n / 26 % 9 - 4, ns⟩, ?_, ⟨by dsimp only; omega, by dsimp only; omega, a1, by dsimp only; omega, by dsimp only; omega, by dsimp only; omega, hne, hso, hb⟩⟩
    rw [fnR_eq]
    simp [hh, dEq_i, hq, hv, hg, s4, P4.d]
theorem compR_ps (f : Fe) (ρ : Rho) (i : Nat) (P : P4 → Prop) : ∀ ds : List PyData, (∀ d ∈ ds, ∃ p : P4, f (ρ.set i (.val d)) = .ok p.d ∧ P p) → ∃ ps : List P4, compR (bName i) (fun _ => .ok true) f ρ ds = .ok (ps.map P4.d) ∧ ps.length = ds.length ∧ ∀ p ∈ ps, P p
  | [], _ => ⟨[], compR_nil .., rfl, by simp⟩
  | d :: ds, h => by
    obtain ⟨x, h1, h2⟩ := h d List.mem_cons_self
    obtain ⟨xs, h3, h4, h5⟩ := compR_ps f ρ i P ds fun d hd => h d (List.mem_cons_of_mem _ hd)
    refine ⟨x :: xs, ?_, by simp [h4], fun y hy => ?_⟩
    · rw [compR_cons, h1, h3]; rfl
    · rcases List.mem_cons.mp hy with rfl | hy
      · exact h2
      · exact h5 y hy
theorem lground_mk (ns : List Int) {most : Int} (hm0 : 1 ≤ most) (hm1 : most ≤ 24) : ∃ (ps : List P4) (hi : Int), F_law_ground [scr ns, .int most] = .ok (gD ps) ∧ (∀ p ∈ ps, Pl ps.length hi p) ∧ 1 ≤ ps.length ∧ (ps.length : Int) ≤ most ∧ 0 ≤ hi ∧ hi ≤ 12 := by
  obtain ⟨v, hv, v0, v1⟩ := mixed_eq ns (k := 0) (by omega)
  unfold F_law_ground M_law_ground
  generalize hm : (if (if (ns.length : Int) > 4 then (ns.length : Int) else 4) < most then (if (ns.length : Int) > 4 then (ns.length : Int) else 4) else most) = m
  have m0 : 0 < m := by split at hm <;> split at hm <;> omega
  have m1 : m ≤ most := by split at hm <;> split at hm <;> omega
  generalize hc : 1 + v % m = c
  have c0 : 1 ≤ c := by have := Int.emod_nonneg v (show m ≠ 0 by omega); omega
  have c1 : c ≤ most := by have := Int.emod_lt_of_pos v m0; omega
  have hix : ∃ h, dIx (.list [.int 1, .int 2, .int 3, .int 5, .int 12, .int 12]) (.int (v / 24 % 6)) = .ok (.int h) ∧ 0 ≤ h ∧ h ≤ 12 := by
    obtain ⟨x, hx, e⟩ := dIx_mem (xs := [.int 1, .int 2, .int 3, .int 5, .int 12, .int 12]) (i := v / 24 % 6) (by omega) (by simp; omega)
    rw [e]
    simp at hx
    rcases hx with rfl | rfl | rfl | rfl | rfl <;> exact ⟨_, rfl, by decide, by decide⟩
  obtain ⟨h, hh, h0, h1⟩ := hix
  have s6 : 6 ≤ sizeLine := by decide
  have hr : rngD [.int c] = .ok (rangeI 0 c.toNat) := by
    show (if -(2 ^ 62) ≤ c ∧ c < 2 ^ 62 then R.ok (rangeI 0 c.toNat) else .no) = _
    rw [if_pos (by omega)]
  obtain ⟨xs, e1, e2, e3⟩ := compR_ps (eCall F_law_place (aCons (eCall F_law_mixed (aCons (eVar 1) (aCons (e2 dAdd (eC (.int 3)) (eVar 0)) aNil))) (aCons (eVar 2) (aCons (eVar 3) aNil)))) (compRho 1 [0, 3, 4] [.val (scr ns), .val (.int most), .val (.int v), .val (.int c), .val (.int h)]) 0 (Pl c h) (rangeI 0 c.toNat) fun d hd => by
    unfold rangeI at hd
    obtain ⟨k, _, rfl⟩ := List.mem_map.mp hd
    obtain ⟨w, hw, w0, w1⟩ := mixed_eq ns (k := 3 + (0 + (k : Int))) (by omega)
    obtain ⟨d, hd1, hd2⟩ := lplace_mk (n := w) (c := c) (h := h) w0 c0 h0
    refine ⟨d, ?_, hd2⟩
    simp at hw
    simp [compRho, List.replicate, hw, hd1]
  rw [rangeI_len] at e2
  have ec : (xs.length : Int) = c := by omega
  refine ⟨xs, h, ?_, by rw [ec]; exact e3, by omega, by omega, h0, h1⟩
  rw [fnR_eq]
  simp [hv, hm, m0, hc, s6, hh, List.replicate, eComp_eq, hr, rangeI_len, small25 (show c.toNat ≤ 1000 by omega), e1]
end G
set_option Elab.async false
set_option linter.all false
set_option maxRecDepth 100000
set_option maxHeartbeats 4000000
namespace G
open PySem PySem.Spec PyProof.Rows L2 D2
theorem odd_eq (n : Int) : ∃ d, F_law_odd [.int n] = .ok d ∧ Good d := by
  unfold F_law_odd M_law_odd
  have s22 : 22 ≤ sizeLine := by decide
  have s0 : 0 ≤ sizeLine := by decide
  have s1 : 1 ≤ sizeLine := by decide
  have s2 : 2 ≤ sizeLine := by decide
  obtain ⟨x, hx, e⟩ := dIx_mem (xs := [.int (-1), .int 0, .int 1, .int 2, .int 12, .int 13, .int 20, .int 21, .int (-20), .int (-21), .int 24, .int 25, .bool true, .bool false, .none, .str (PySem.Str.ofString ""), .str (PySem.Str.ofString "a"), .tuple [], .list [], .tuple [.int 0], .tuple [.int 1, .int 0], .tuple [.int 0, .int 0]]) (i := n % 22) (by omega) (by simp; omega)
  refine ⟨x, ?_, ?_⟩
  · rw [fnR_eq]
    simp [List.replicate, s22, s0, s1, s2, e]
  · clear e
    revert x
    intro x hx
    have : ∀ y ∈ [PyData.int (-1), .int 0, .int 1, .int 2, .int 12, .int 13, .int 20, .int 21, .int (-20), .int (-21), .int 24, .int 25, .bool true, .bool false, .none, .str (PySem.Str.ofString ""), .str (PySem.Str.ofString "a"), .tuple [], .list [], .tuple [.int 0], .tuple [.int 1, .int 0], .tuple [.int 0, .int 0]], y.canLay0 = true := by
      decide +kernel
    exact this x hx
theorem spoilt_int (F : List PyData → R PyData) {i n deep : Int} (h1 : -20 ≤ i) (h2 : i ≤ 24) (hn : 0 ≤ n) : ∃ d', fnR 5 (M_law_spoilt F_law_odd F) [.int i, .int n, .int deep] = .ok d' ∧ Good d' := by
  unfold M_law_spoilt
  obtain ⟨o, ho, hog⟩ := odd_eq (n / 6)
  have s5 : 5 ≤ sizeLine := by decide
  have hs : dStr (.int i) = .ok (.str (toString i)) := by
    show (if i.natAbs.log2 < 1920 then R.ok (PyData.str (toString i)) else .no) = _
    rw [if_pos]
    exact Nat.lt_of_le_of_lt (Nat.log2_le_self _) (by omega)
  have m1 : dMul (.int i) (.int 1001) = .ok (.int (i * 1001)) := dMul_c (.inr (by omega))
  have hS := str_good h1 h2
  generalize PyData.str (toString i) = S at hs hS
  by_cases hq : n / 6 % 2 = 0
  · obtain ⟨x, hx, e⟩ := dIx_mem (xs := [S, .int (-i), .int (i * 1001), .bool (decide (i = 1)), .int (i + 1)]) (i := n / 12 % 5) (by omega) (by simp; omega)
    refine ⟨x, ?_, ?_⟩
    · rw [fnR_eq]
      by_cases hd : 0 < deep <;> simp [hd, dIsi, isi, dEq_i, hq, hs, m1, s5, e]
    · simp at hx
      rcases hx with rfl | rfl | rfl | rfl | rfl
      · exact hS
      · exact good_int _
      · exact good_int _
      · exact good_bool _
      · exact good_int _
  · refine ⟨o, ?_, hog⟩
    rw [fnR_eq]
    by_cases hd : 0 < deep <;> simp [hd, dIsi, isi, dEq_i, hq, ho]
theorem spoilt_none (F : List PyData → R PyData) {n deep : Int} (hn : 0 ≤ n) : ∃ d', fnR 5 (M_law_spoilt F_law_odd F) [.none, .int n, .int deep] = .ok d' ∧ Good d' := by
  unfold M_law_spoilt
  obtain ⟨o, ho, hog⟩ := odd_eq (n / 6)
  refine ⟨o, ?_, hog⟩
  rw [fnR_eq]
  by_cases hd : 0 < deep <;> simp [hd, dIsi, isi, ho]
theorem spoilt_flat (F : List PyData → R PyData) {ds : List PyData} {n deep : Int} (hN : Nice (.tuple ds)) (hn : 0 ≤ n) (hA : ¬ (0 < deep ∧ ds ≠ [] ∧ 0 < n % 6)) : ∃ d', fnR 5 (M_law_spoilt F_law_odd F) [.tuple ds, .int n, .int deep] = .ok d' ∧ Good d' := by
  unfold M_law_spoilt
  obtain ⟨o, ho, hog⟩ := odd_eq (n / 6)
  have s6 : 6 ≤ sizeLine := by decide
  have hg := good_tuple.mp hN.good
  have hlen : ds.length ≤ 100 := by cases hN; assumption
  by_cases he : ds = []
  · subst he
    refine ⟨o, ?_, hog⟩
    rw [fnR_eq]
    by_cases hd : 0 < deep <;> simp [hd, dIsi, isi, ho]
  · have hp : (0 : Int) < ds.length := by
      cases ds with
      | nil => exact absurd rfl he
      | cons a r => simp
    have hq0 : 0 < ds.length := by omega
    have hA' : ¬ (0 < deep ∧ 0 < n % 6) := fun z => hA ⟨z.1, he, z.2⟩
    by_cases hq : n / 6 % 2 = 0
    · have c1 := cut_len ds none (some (-1))
      have c2 := cut_len ds (some (-1)) none
      have c3 := cut_len ds (some 1) none
      have l1 : ds.length + (D2.cutD ds (some (-1)) none).length ≤ sizeLine := small25 (by omega)
      have hm : dMul (.tuple ds) (.int 2) = .ok (.tuple (ds ++ ds)) := by
        show (if ds ≠ [] ∧ 2 ≤ (2 : Int) ∧ (2 : Int) < 2 ^ 63 ∧ ds.length * (2 : Int).toNat ≤ sizeLine then R.ok (PyData.tuple (List.replicate (2 : Int).toNat ds).flatten) else .no) = _
        rw [if_pos ⟨he, by omega, by omega, small25 (by show ds.length * 2 ≤ 1000; omega)⟩]
        simp [List.replicate]
      obtain ⟨x, hx, e⟩ := dIx_mem (xs := [.list ds, .tuple (D2.cutD ds none (some (-1))), .tuple (ds ++ D2.cutD ds (some (-1)) none), .tuple (D2.cutD ds (some 1) none), .tuple ds.reverse, .tuple (ds ++ ds)]) (i := n / 12 % 6) (by omega) (by simp; omega)
      refine ⟨x, ?_, ?_⟩
      · rw [fnR_eq]
        by_cases hd : 0 < deep
        · have h6 : ¬ 0 < n % 6 := fun z => hA' ⟨hd, z⟩
          simp [hd, dIsi, isi, dEq_i, hp, hq0, h6, hq, l1, hm, s6, e]
        · simp [hd, dIsi, isi, dEq_i, hp, hq0, hq, l1, hm, s6, e]
      · simp at hx
        rcases hx with rfl | rfl | rfl | rfl | rfl | rfl
        · exact good_list.mpr hg
        · exact good_tuple.mpr fun x hx => hg x (cut_sub x hx)
        · refine good_tuple.mpr fun x hx => ?_
          rcases List.mem_append.mp hx with z | z
          · exact hg x z
          · exact hg x (cut_sub x z)
        · exact good_tuple.mpr fun x hx => hg x (cut_sub x hx)
        · exact good_tuple.mpr fun x hx => hg x (List.mem_reverse.mp hx)
        · refine good_tuple.mpr fun x hx => ?_
          rcases List.mem_append.mp hx with z | z
          · exact hg x z
          · exact hg x z
    · refine ⟨o, ?_, hog⟩
      rw [fnR_eq]
      by_cases hd : 0 < deep
      · have h6 : ¬ 0 < n % 6 := fun z => hA' ⟨hd, z⟩
        simp [hd, dIsi, isi, dEq_i, hp, hq0, h6, hq, ho]
      · simp [hd, dIsi, isi, dEq_i, hp, hq0, hq, ho]
theorem spoilt_eq : ∀ (k : Nat) (d : PyData) (n deep : Int), Nice d → 0 ≤ n → deep ≤ k → ∃ d', F_law_spoilt (k + 1) [d, .int n, .int deep] = .ok d' ∧ Good d' := by
  intro k
  induction k with
  | zero =>
    intro d n deep hd hn hk
    cases hd with
    | int i h1 h2 => exact spoilt_int _ h1 h2 hn
    | none => exact spoilt_none _ hn
    | tuple ds hl ha => exact spoilt_flat _ (.tuple ds hl ha) hn fun z => by omega
  | succ k ih =>
    intro d n deep hd hn hk
    cases hd with
    | int i h1 h2 => exact spoilt_int _ h1 h2 hn
    | none => exact spoilt_none _ hn
    | tuple ds hl ha =>
      by_cases hA : 0 < deep ∧ ds ≠ [] ∧ 0 < n % 6
      · obtain ⟨h1, h2, h3⟩ := hA
        have hp : (0 : Int) < ds.length := by
          cases ds with
          | nil => exact absurd rfl h2
          | cons a r => simp
        have hq0 : 0 < ds.length := by omega
        have hb : (ds.length : Int) < 1073741824 := by omega
        have a0 := Int.emod_nonneg (n / 6) (show (ds.length : Int) ≠ 0 by omega)
        have a1 := Int.emod_lt_of_pos (n / 6) hp
        have hix := dIx_t a0 a1
        have hmem : ds[(n / 6 % (ds.length : Int)).toNat]'(by omega) ∈ ds := List.getElem_mem _
        obtain ⟨p, hp1, hp2⟩ := ih _ (n / 6 / ds.length) (deep - 1) (ha _ hmem) (Int.ediv_nonneg (by omega) (by omega)) (by omega)
        have hg : ∀ x ∈ ds, Good x := fun x hx => (ha x hx).good
        have s1 : 1 ≤ sizeLine := by decide
        have c1 := cut_len ds none (some (n / 6 % ds.length))
        have c2 := cut_len ds (some (n / 6 % ds.length + 1)) none
        have l1 : (D2.cutD ds none (some (n / 6 % ds.length))).length + 1 ≤ sizeLine := small25 (by omega)
        have l2 : (D2.cutD ds none (some (n / 6 % ds.length))).length + ((D2.cutD ds (some (n / 6 % ds.length + 1)) none).length + 1) ≤ sizeLine := small25 (by omega)
        refine ⟨.tuple (D2.cutD ds none (some (n / 6 % ds.length)) ++ p :: D2.cutD ds (some (n / 6 % ds.length + 1)) none), ?_, ?_⟩
        · show fnR 5 (M_law_spoilt F_law_odd (F_law_spoilt (k + 1))) _ = _
          unfold M_law_spoilt
          rw [fnR_eq]
          simp [h1, dIsi, isi, hp, hq0, h3, hb, hix, hp1, s1, l1, l2, List.replicate, Nat.add_comm, Nat.add_left_comm, Nat.add_assoc]
          rw [if_pos (by omega), if_pos (by omega)]
        · refine good_tuple.mpr fun x hx => ?_
          rcases List.mem_append.mp hx with z | z
          · exact hg x (cut_sub x z)
          · rcases List.mem_cons.mp z with rfl | z
            · exact hp2
            · exact hg x (cut_sub x z)
      · exact spoilt_flat _ (.tuple ds hl ha) hn hA
end G
set_option Elab.async false
set_option linter.all false
set_option maxRecDepth 100000
set_option maxHeartbeats 4000000
namespace G
open PySem PySem.Spec PyProof.Rows L2 D2
theorem whole_eq {d : PyData} (h : noD d) : F_is_whole [d] = .ok (.bool (isI d)) := by
  cases d <;> first | rfl | cases h
theorem between_eq {d : PyData} (h : noD d) (lo hi : Int) : F_is_between [d, .int lo, .int hi] = .ok (.bool (btw d lo hi)) := by
  unfold F_is_between M_is_between
  rw [fnR_eq]
  cases d with
  | int i =>
    by_cases h1 : lo ≤ i <;> by_cases h2 : i ≤ hi <;> simp [whole_eq h, isI, h1, h2, btw]
  | dict k => cases h
  | _ => simp [whole_eq h, isI, btw]
theorem some_loop (t : PyData) (c : Int) : ∀ (ds : List PyData) (l : Int) (x : Cell), (∀ d ∈ ds, noD d) →
    ∃ ρ, forR (bName 3) (sSeq (sIf (tNotR (tE (eCall F_is_between (aCons (eVar 3) (aCons (eVar 2) (aCons (e2 dSub (eVar 1) (eC (.int 1))) aNil)))))) (sRet (eC (.bool false))) sSkip) (sSet 2 (e2 dAdd (eVar 3) (eC (.int 1))))) ds
      [.val t, .val (.int c), .val (.int l), x] = if rise c l ds = true then .ok (.nx ρ) else .ok (.rt (.bool false))
  | [], l, x, _ => ⟨_, by rw [forR_nil]; rfl⟩
  | d :: ds, l, x, h => by
    have hd := h d List.mem_cons_self
    cases hb : btw d l (c - 1) with
    | false =>
      refine ⟨[], ?_⟩
      have hr : rise c l (d :: ds) = false := by
        cases d with
        | int i =>
          simp only [btw] at hb
          simp only [rise]
          rcases (Bool.and_eq_false_iff.mp hb) with z | z
          · rw [z]; rfl
          · have : decide (i < c) = false := by simp at z ⊢; omega
            rw [this]; simp
        | _ => rfl
      rw [forR_cons, hr]
      simp [between_eq hd, hb]
    | true =>
      cases d with
      | int i =>
        simp only [btw, Bool.and_eq_true, decide_eq_true_eq] at hb
        obtain ⟨ρ, e⟩ := some_loop t c ds (i + 1) (.val (.int i)) fun d hd => h d (List.mem_cons_of_mem _ hd)
        refine ⟨ρ, ?_⟩
        have hr : rise c l (.int i :: ds) = rise c (i + 1) ds := by
          simp only [rise]
          rw [decide_eq_true hb.1, decide_eq_true (show i < c by omega)]; simp
        have hb' : btw (.int i) l (c - 1) = true := by simp [btw]; omega
        rw [forR_cons, hr, ← e]
        simp [between_eq hd, hb']
      | _ => cases hb
theorem are_some_eq {d : PyData} (c : Int) (h : ∀ ds, d = .tuple ds → ∀ x ∈ ds, noD x) (hd : noD d) : F_are_some [d, .int c] = .ok (.bool (someB c d)) := by
  unfold F_are_some M_are_some
  rw [fnR_eq]
  cases d with
  | tuple ds =>
    obtain ⟨ρ, e⟩ := some_loop (.tuple ds) c ds 0 .non (h ds rfl)
    simp [dIsi, isi, sFor_eq, List.replicate]
    rw [e]
    cases rise c 0 ds <;> simp
  | dict k => cases hd
  | _ => simp [dIsi, isi, List.replicate]
end G
set_option Elab.async false
set_option linter.all false
set_option maxRecDepth 100000
set_option maxHeartbeats 4000000
namespace G
open PySem PySem.Spec PyProof.Rows L2 D2
theorem rise_loop (t : PyData) (c : Int) : ∀ (ds : List PyData) (l : Int) (x : Cell), (∀ d ∈ ds, noD d) →
    ∃ ρ, forR (bName 3) (sSeq (sIf (tOrR (tNotR (tE (e1 (dIsi .int) (eVar 3)))) (tOrR (tE (e1 (dIsi .bool) (eVar 3))) (tNotR (tE (eChain (dCmp pLt) (dCmp pLt) (eVar 2) (eVar 3) (eVar 1)))))) (sRet (eC (.bool false))) sSkip) (sSet 2 (eVar 3))) ds
      [.val t, .val (.int c), .val (.int l), x] = if rise c (l + 1) ds = true then .ok (.nx ρ) else .ok (.rt (.bool false))
  | [], l, x, _ => ⟨_, by rw [forR_nil]; rfl⟩
  | d :: ds, l, x, h => by
    have hd := h d List.mem_cons_self
    cases d with
    | int i =>
      obtain ⟨ρ, e⟩ := rise_loop t c ds i (.val (.int i)) fun d hd => h d (List.mem_cons_of_mem _ hd)
      refine ⟨ρ, ?_⟩
      rw [forR_cons]
      by_cases h1 : l < i
      · by_cases h2 : i < c
        · have hr : rise c (l + 1) (.int i :: ds) = rise c (i + 1) ds := by
            simp only [rise]
            rw [decide_eq_true (show l + 1 ≤ i by omega), decide_eq_true h2]; simp
          rw [hr, ← e]
          simp [dIsi, isi, h1, h2]
        · have hr : rise c (l + 1) (.int i :: ds) = false := by
            simp only [rise]
            rw [decide_eq_false h2]; simp
          rw [hr]
          simp [dIsi, isi, h1, h2]
      · have hr : rise c (l + 1) (.int i :: ds) = false := by
          simp only [rise]
          rw [decide_eq_false (show ¬ l + 1 ≤ i by omega)]; simp
        rw [hr]
        simp [dIsi, isi, h1]
    | dict k => exact hd.elim
    | _ => exact ⟨[], by rw [forR_cons]; simp [dIsi, isi, rise]⟩
theorem rising_eq {d : PyData} (c : Int) (hg : Good d) : F_law_rising [d, .int c] = .ok (.bool (someB c d)) := by
  unfold F_law_rising M_law_rising
  rw [fnR_eq]
  cases d with
  | tuple ds =>
    obtain ⟨ρ, e⟩ := rise_loop (.tuple ds) c ds (-1) .non fun x hx => (good_tuple.mp hg x hx).noD
    simp [dIsi, isi, sFor_eq, List.replicate]
    rw [e]
    show ((if rise c 0 ds = true then _ else _) >>= _ >>= _) = _
    cases rise c 0 ds <;> simp
  | dict k => exact hg.noD.elim
  | _ => simp [dIsi, isi, List.replicate]
end G
set_option Elab.async false
set_option linter.all false
set_option maxRecDepth 100000
set_option maxHeartbeats 4000000
namespace G
open PySem PySem.Spec PyProof.Rows L2 D2
theorem same_eq (a b : Bool) : F_law_same [.bool a, .bool b] = .ok (.bool (a == b)) := by
  cases a <;> cases b <;> rfl
end G
set_option Elab.async false
set_option linter.all false
set_option maxRecDepth 100000
set_option maxHeartbeats 4000000
namespace G
open PySem PySem.Spec PyProof.Rows L2 D2
theorem some_mk {n c : Int} (hc0 : 0 ≤ c) (hc1 : c ≤ 24) : ∃ d, F_law_some [.int n, .int c] = .ok d ∧ Nice d := by
  have hr : rngD [.int c] = .ok (rangeI 0 c.toNat) := by
    show (if -(2 ^ 62) ≤ c ∧ c < 2 ^ 62 then R.ok (rangeI 0 c.toNat) else .no) = _
    rw [if_pos (by omega)]
  have hx : ∀ k : Int, ∃ v, F_law_drawn [.int n, .int k] = .ok (.int v) := fun k => let ⟨v, h, _⟩ := drawn_eq n k; ⟨v, h⟩
  obtain ⟨dr, hdr⟩ : ∃ dr : Int → Int, ∀ k, F_law_drawn [.int n, .int k] = .ok (.int (dr k)) := ⟨fun k => (hx k).choose, fun k => (hx k).choose_spec⟩
  have hcmp := compR_filter (eVar 0) (compRho 1 [2, 0] [.val (.int n), .val (.int c), .val (.int (n % 5))]) (tOrR (tE (e2 (dEq) (eVar 1) (eC (.int 4)))) (tE (e2 (dCmp pLt) (e2 dMod (eCall F_law_drawn (aCons (eVar 2) (aCons (eVar 0) aNil))) (eC (.int 4))) (eVar 1)))) 0
    (fun d => match d with | .int k => decide (n % 5 = 4) || decide (dr k % 4 < n % 5) | _ => false) id (rangeI 0 c.toNat) (fun d hd => by
      obtain ⟨k, rfl⟩ := rangeI_ints _ _ d hd
      by_cases h4 : n % 5 = 4 <;> simp [compRho, List.replicate, dEq_i, hdr, h4]) fun d hd _ => by simp [compRho, List.replicate]
  rw [List.map_id] at hcmp
  generalize hL : (rangeI 0 c.toNat).filter _ = L at hcmp
  refine ⟨.tuple L, ?_, ?_⟩
  · unfold F_law_some M_law_some
    rw [fnR_eq]
    simp [List.replicate, eComp_eq, hr, rangeI_len, small25 (show c.toNat ≤ 1000 by omega), hcmp]
  · refine .tuple _ ?_ fun x hx => ?_
    · rw [← hL]
      refine Nat.le_trans (List.length_filter_le ..) ?_
      rw [rangeI_len]; omega
    · rw [← hL] at hx
      have hm := (List.mem_filter.mp hx).1
      unfold rangeI at hm
      obtain ⟨k, hk, rfl⟩ := List.mem_map.mp hm
      have := List.mem_range.mp hk
      exact .int _ (by omega) (by omega)
theorem ix3 (p : P4) : dIx p.d (.int 3) = .ok (.tuple (p.ns.map .int)) := rfl
theorem moves_loop (t : PyData) (n : Int) {c hi : Int} (hc : c ≤ 24) : ∀ (ps : List P4) (k : Nat) (acc : List PyData) (x y z : Cell), (∀ p ∈ ps, Pl c hi p) → (∀ d ∈ acc, Nice d) → acc.length + ps.length ≤ 100 →
    ∃ acc' x' y' z', (∀ d ∈ acc', Nice d) ∧ acc'.length = acc.length + ps.length ∧
      forR (bPair 3 4) (sSeq (sSet 5 (eCall F_law_drawn (aCons (eVar 1) (aCons (eVar 3) aNil)))) (sIf (tE (e2 (dEq) (e2 dMod (eVar 5) (eC (.int 6))) (eC (.int 0)))) (sAppend 2 (eC .none)) (sAppend 2 (e2 dIx (e2 dIx (eVar 4) (eC (.int 3))) (e2 dMod (e2 dDiv (eVar 5) (eC (.int 6))) (e1 dLen (e2 dIx (eVar 4) (eC (.int 3))))))))) (enumD k (ps.map P4.d)) [.val t, .val (.int n), .own (.list acc), x, y, z]
        = .ok (.nx [.val t, .val (.int n), .own (.list acc'), x', y', z'])
  | [], k, acc, x, y, z, _, ha, _ => ⟨acc, x, y, z, ha, rfl, by unfold enumD; rw [List.map_nil]; exact forR_nil ..⟩
  | p :: ps, k, acc, x, y, z, hp, ha, hl => by
    obtain ⟨v, hv, v0, v1⟩ := drawn_eq n k
    have P := hp p List.mem_cons_self
    have hlen := P.len
    have hpos : 0 < (p.ns.length : Int) := by
      have := P.ne
      cases h : p.ns with
      | nil => exact absurd h this
      | cons a r => simp
    have hz : acc.length < sizeLine := Nat.lt_of_lt_of_le (show acc.length < 1000 by simp at hl; omega) (by decide)
    rw [List.length_cons] at hl
    by_cases h6 : v % 6 = 0
    · obtain ⟨acc', x', y', z', h1, h2, h3⟩ := moves_loop t n hc ps (k + 1) (acc ++ [.none]) (.val (.int k)) (.val p.d) (.val (.int v)) (fun q hq => hp q (List.mem_cons_of_mem _ hq)) (fun d hd => by
        rcases List.mem_append.mp hd with z | z
        · exact ha d z
        · simp at z; subst z; exact .none) (by simp; omega)
      refine ⟨acc', x', y', z', h1, by simp at h2 ⊢; omega, ?_⟩
      have e : enumD k ((p :: ps).map P4.d) = .tuple [.int k, p.d] :: enumD (k + 1) (ps.map P4.d) := rfl
      rw [e, forR_pair, ← h3]
      simp [hv, dEq_i, h6, sAppend, hz]
    · have a0 := Int.emod_nonneg (v / 6) (show (p.ns.length : Int) ≠ 0 by omega)
      have a1 := Int.emod_lt_of_pos (v / 6) hpos
      have hix := dIx_t (xs := p.ns.map PyData.int) (i := v / 6 % (p.ns.length : Int)) a0 (by simpa using a1)
      simp only [List.getElem_map] at hix
      have hm : p.ns[(v / 6 % (p.ns.length : Int)).toNat]'(by omega) ∈ p.ns := List.getElem_mem _
      have hb := P.inn _ hm
      generalize p.ns[(v / 6 % (p.ns.length : Int)).toNat]'(by omega) = i at hix hb hm
      obtain ⟨acc', x', y', z', h1, h2, h3⟩ := moves_loop t n hc ps (k + 1) (acc ++ [.int i]) (.val (.int k)) (.val p.d) (.val (.int v)) (fun q hq => hp q (List.mem_cons_of_mem _ hq)) (fun d hd => by
        rcases List.mem_append.mp hd with z | z
        · exact ha d z
        · simp at z; subst z; exact .int _ (by omega) (by omega)) (by simp; omega)
      refine ⟨acc', x', y', z', h1, by simp at h2 ⊢; omega, ?_⟩
      have e : enumD k ((p :: ps).map P4.d) = .tuple [.int k, p.d] :: enumD (k + 1) (ps.map P4.d) := rfl
      have hpn : 0 < p.ns.length := by omega
      rw [e, forR_pair, ← h3]
      simp [hv, dEq_i, h6, sAppend, hz, ix3, hpos, hpn, hix]
theorem moves_mk {ps : List P4} {n hi : Int} (hp : ∀ p ∈ ps, Pl ps.length hi p) (hl : ps.length ≤ 24) : ∃ d, F_law_moves [gD ps, .int n] = .ok d ∧ Nice d := by
  obtain ⟨acc, x, y, z, h1, h2, h3⟩ := moves_loop (gD ps) n (c := ps.length) (by omega) ps 0 [] .non .non .non hp (by simp) (by simp; omega)
  refine ⟨.tuple acc, ?_, .tuple _ (by simp at h2; omega) h1⟩
  unfold F_law_moves M_law_moves
  rw [fnR_eq]
  simp [List.replicate, sFor_eq, h3]
/-- a move of a place with these goals -/
def mvB (ns : List Int) : PyData → Bool
  | .none => true
  | .int i => ns.any fun j => decide (j = i)
  | _ => false
theorem depth_ints : ∀ ns : List Int, PyData.depthAll (ns.map .int) = 0
  | [] => by simp [PyData.depthAll]
  | n :: ns => by simp [PyData.depthAll, PyData.depth, depth_ints ns]
theorem good_ints (ns : List Int) : PyData.canLayAll0 (ns.map .int) = true := all_good fun x hx => by
  obtain ⟨i, _, rfl⟩ := List.mem_map.mp hx
  exact good_int i
theorem in_ints (ns : List Int) (i : Int) (neg : Bool) : dIn neg (.int i) (.tuple (ns.map .int)) = .ok (.bool (if neg then !(ns.any fun j => decide (j = i)) else ns.any fun j => decide (j = i))) := by
  have ho : inOk (ns.map .int) (.int i) = true := by
    unfold inOk
    rw [good_ints, depth_ints]
    simp [PyData.canLay0]
  have ha : ((ns.map PyData.int).any fun y => PyData.eqv y (.int i)) = ns.any fun j => decide (j = i) := by
    rw [List.any_map]
    congr 1
  show (if inOk (ns.map .int) (.int i) = true then R.ok (PyData.bool _) else .no) = _
  rw [if_pos ho, ha]
theorem is_move_eq {d : PyData} (hg : Good d) (p : P4) : F_is_move [d, p.d] = .ok (.bool (mvB p.ns d)) := by
  unfold F_is_move M_is_move
  rw [fnR_eq]
  have hw := whole_eq hg.noD
  cases d with
  | none => simp [dIsN, isNoneD, mvB]
  | int i => simp [dIsN, isNoneD, mvB, hw, isI, ix3, in_ints]
  | dict k => exact hg.noD.elim
  | _ => simp [dIsN, isNoneD, mvB, hw, isI]
theorem moves_comp (x y : Cell) : ∀ (ds : List PyData) (ps : List P4), (∀ d ∈ ds, Good d) → compR (bPair 0 1) (fun _ => .ok true) (eCall F_is_move (aCons (eVar 0) (aCons (eVar 1) aNil))) [x, y] (zipD ds (ps.map P4.d)) = .ok ((ds.zip ps).map fun q => .bool (mvB q.2.ns q.1))
  | [], ps, _ => by unfold zipD; simp [compR_nil]
  | d :: ds, [], _ => by unfold zipD; simp [compR_nil]
  | d :: ds, p :: ps, h => by
    have e : zipD (d :: ds) ((p :: ps).map P4.d) = .tuple [d, p.d] :: zipD ds (ps.map P4.d) := rfl
    rw [e, compR_pair, moves_comp x y ds ps fun z hz => h z (List.mem_cons_of_mem _ hz)]
    simp [is_move_eq (h d List.mem_cons_self) p]
def movesB (ps : List P4) : PyData → Bool
  | .tuple ds => decide (ds.length = ps.length) && (ds.zip ps).all fun q => mvB q.2.ns q.1
  | _ => false
theorem all_map {α : Type} (p : α → Bool) : ∀ l : List α, D2.allB (l.map fun a => .bool (p a)) = some (l.all p)
  | [] => rfl
  | a :: l => by simp only [List.map_cons, D2.allB, all_map p l, List.all_cons, Option.map_some]
theorem are_moves_eq {d : PyData} (hg : Good d) {ps : List P4} (hl : ps.length ≤ 24) : F_are_moves [d, gD ps] = .ok (.bool (movesB ps d)) := by
  unfold F_are_moves M_are_moves
  rw [fnR_eq]
  cases d with
  | tuple ds =>
    have h := good_tuple.mp hg
    by_cases hq : ds.length = ps.length
    · have hs : (zipD ds (ps.map P4.d)).length ≤ sizeLine := by rw [zipD_len]; exact small25 (by omega)
      have hc := moves_comp .non .non ds ps h
      simp [dIsi, isi, dNe_i, hq, eComp_eq, hs, compRho, List.replicate, hc, dAll, all_map, movesB]
    · have hq' : ¬ ((ds.length : Int) = (ps.length : Int)) := by omega
      simp [dIsi, isi, dNe_i, hq', hq, movesB]
  | dict k => exact hg.noD.elim
  | _ => simp [dIsi, isi, movesB]
theorem good_loop (s t : PyData) : ∀ (ds : List PyData) (ps : List P4) (x y : Cell), (∀ d ∈ ds, Good d) → ∃ ρ,
    forR (bPair 2 3) (sSeq (sIf (tOrR (tE (e1 (dIsi .bool) (eVar 2))) (tAndR (tE (e2 (dNotN) (eVar 2) (eC .none))) (tNotR (tE (e1 (dIsi .int) (eVar 2)))))) (sRet (eC (.bool false))) sSkip) (sIf (tAndR (tE (e2 (dNotN) (eVar 2) (eC .none))) (tE (e2 (dIn true) (eVar 2) (e2 dIx (eVar 3) (eC (.int 3)))))) (sRet (eC (.bool false))) sSkip)) (zipD ds (ps.map P4.d)) [.val s, .val t, x, y]
      = if ((ds.zip ps).all fun q => mvB q.2.ns q.1) = true then .ok (.nx ρ) else .ok (.rt (.bool false))
  | [], ps, x, y, _ => ⟨[.val s, .val t, x, y], by unfold zipD; simp⟩
  | d :: ds, [], x, y, _ => ⟨[.val s, .val t, x, y], by unfold zipD; simp⟩
  | d :: ds, p :: ps, x, y, h => by
    have hg := h d List.mem_cons_self
    obtain ⟨ρ, e1⟩ := good_loop s t ds ps (.val d) (.val p.d) fun z hz => h z (List.mem_cons_of_mem _ hz)
    refine ⟨ρ, ?_⟩
    have e : zipD (d :: ds) ((p :: ps).map P4.d) = .tuple [d, p.d] :: zipD ds (ps.map P4.d) := rfl
    rw [e, forR_pair, List.zip_cons_cons, List.all_cons]
    cases d with
    | none =>
      rw [show mvB p.ns .none = true from rfl, Bool.true_and, ← e1]
      simp [dIsi, isi, dNotN, isNoneD]
    | int i =>
      cases hm : (p.ns.any fun j => decide (j = i)) with
      | true =>
        rw [show mvB p.ns (.int i) = true from hm, Bool.true_and, ← e1]
        simp [dIsi, isi, dNotN, isNoneD, ix3, in_ints, hm]
      | false =>
        rw [show mvB p.ns (.int i) = false from hm, Bool.false_and]
        simp [dIsi, isi, dNotN, isNoneD, ix3, in_ints, hm]
    | dict k => exact hg.noD.elim
    | _ =>
      rw [show mvB p.ns _ = false from rfl, Bool.false_and]
      simp [dIsi, isi, dNotN, isNoneD]
theorem moves_good_eq {d : PyData} (hg : Good d) {ps : List P4} : F_law_moves_good [d, gD ps] = .ok (.bool (movesB ps d)) := by
  unfold F_law_moves_good M_law_moves_good
  rw [fnR_eq]
  cases d with
  | tuple ds =>
    have h := good_tuple.mp hg
    by_cases hq : ds.length = ps.length
    · obtain ⟨ρ, e⟩ := good_loop (.tuple ds) (gD ps) ds ps .non .non h
      simp [dIsi, isi, dNe_i, hq, sFor_eq, List.replicate]
      rw [e]
      cases hb : ((ds.zip ps).all fun q => mvB q.2.ns q.1) <;> simp [movesB, hq, hb]
    · have hq' : ¬ ((ds.length : Int) = (ps.length : Int)) := by omega
      simp [dIsi, isi, dNe_i, hq', hq, movesB]
  | dict k => exact hg.noD.elim
  | _ => simp [dIsi, isi, movesB]
theorem law_true : lawOk F_law := by
  intro ns hl
  obtain ⟨ps, hi, hg, hP, hl0, hl1, h0, h1⟩ := lground_mk ns (most := 24) (by omega) (by omega)
  have hl2 : ps.length ≤ 24 := by omega
  obtain ⟨v1, hv1, a1, b1⟩ := mixed_eq ns (k := 1) (by omega)
  obtain ⟨v2, hv2, a2, b2⟩ := mixed_eq ns (k := 2) (by omega)
  obtain ⟨v3, hv3, a3, b3⟩ := mixed_eq ns (k := 3) (by omega)
  obtain ⟨v4, hv4, a4, b4⟩ := mixed_eq ns (k := 4) (by omega)
  obtain ⟨v5, hv5, a5, b5⟩ := mixed_eq ns (k := 5) (by omega)
  obtain ⟨v6, hv6, a6, b6⟩ := mixed_eq ns (k := 6) (by omega)
  obtain ⟨v7, hv7, a7, b7⟩ := mixed_eq ns (k := 7) (by omega)
  obtain ⟨so, hso, nso⟩ := some_mk (n := v1) (c := ps.length) (by omega) (by omega)
  obtain ⟨mo, hmo, nmo⟩ := moves_mk (n := v2) hP hl2
  obtain ⟨so', hso', gso'⟩ := spoilt_eq 7 so v4 (v3 / 2 % 3) nso a4 (by omega)
  obtain ⟨mo', hmo', gmo'⟩ := spoilt_eq 7 mo v6 (v5 / 2 % 3) nmo a6 (by omega)
  have fin : ∀ (s m : PyData) (c : Int), Good s → Good m → (sRet (eAnd (eCall F_law_same (aCons (eCall F_are_some (aCons (eVar 2) (aCons (eVar 4) aNil))) (aCons (eCall F_law_rising (aCons (eVar 2) (aCons (eVar 4) aNil))) aNil))) (eCall F_law_same (aCons (eCall F_are_moves (aCons (eVar 3) (aCons (eVar 1) aNil))) (aCons (eCall F_law_moves_good (aCons (eVar 3) (aCons (eVar 1) aNil))) aNil))))) [.val (scr ns), .val (gD ps), .val s, .val m, .val (.int c)] = .ok (.rt (.bool true)) := fun s m c gs gm => by
    simp [rising_eq c gs, are_some_eq c (fun ds e x hx => ((good_tuple.mp (e ▸ gs)) x hx).noD) gs.noD, are_moves_eq gm hl2, moves_good_eq gm, same_eq]
  refine fn_rt ?_
  show M_law F_law_ground F_law_mixed F_law_moves F_law_moves_good F_law_rising F_law_same F_law_some (F_law_spoilt 8) F_are_moves F_are_some [.val (scr ns), .non, .non, .non, .non] = _
  unfold M_law
  rw [seq_nx (ρ' := [.val (scr ns), .val (gD ps), .non, .non, .non]) (by simp [hg])]
  rw [seq_nx (ρ' := [.val (scr ns), .val (gD ps), .val so, .non, .non]) (by simp [hv1, hso])]
  rw [seq_nx (ρ' := [.val (scr ns), .val (gD ps), .val so, .val mo, .non]) (by simp [hv2, hmo])]
  rw [seq_nx (ρ' := [.val (scr ns), .val (gD ps), .val (if v3 % 2 = 1 then so' else so), .val mo, .non]) (by by_cases q : v3 % 2 = 1 <;> simp [hv3, dEq_i, q, hv4, hso'])]
  have gs : Good (if v3 % 2 = 1 then so' else so) := by
    split
    · exact gso'
    · exact nso.good
  generalize (if v3 % 2 = 1 then so' else so) = s at gs
  rw [seq_nx (ρ' := [.val (scr ns), .val (gD ps), .val s, .val (if v5 % 2 = 1 then mo' else mo), .non]) (by by_cases q : v5 % 2 = 1 <;> simp [hv5, dEq_i, q, hv6, hmo'])]
  have gm : Good (if v5 % 2 = 1 then mo' else mo) := by
    split
    · exact gmo'
    · exact nmo.good
  generalize (if v5 % 2 = 1 then mo' else mo) = m at gm
  rw [seq_nx (ρ' := [.val (scr ns), .val (gD ps), .val s, .val m, .val (.int (1 + ((ps.length : Int) + v7 % 3 + 22) % 24))]) (by simp [hv7])]
  exact fin s m _ gs gm
end G
set_option Elab.async false
set_option linter.all false
set_option maxRecDepth 100000
set_option maxHeartbeats 4000000
namespace G
open PySem PySem.Spec PyProof.Rows L2 D2
def bodyL : List Stmt := PySem.Challenge.pw_duelground_k02_some_places_and_moves.main.body
abbrev top (i : Nat) : Stmt := bodyL.getD i (.Pass ⟨0, 0, 0, 0⟩)
abbrev s_law_cell_at : Stmt := top 8
abbrev s_law_mixed : Stmt := top 9
abbrev s_law_drawn : Stmt := top 10
abbrev s_law_goals : Stmt := top 11
abbrev s_law_place : Stmt := top 12
abbrev s_law_ground : Stmt := top 13
abbrev s_law_moves : Stmt := top 19
abbrev s_law_moves_good : Stmt := top 16
abbrev s_law_rising : Stmt := top 15
abbrev s_law_same : Stmt := top 20
abbrev s_law_some : Stmt := top 14
abbrev s_law_odd : Stmt := top 17
abbrev s_law_spoilt : Stmt := top 18
abbrev s_is_whole : Stmt := top 2
abbrev s_is_move : Stmt := top 5
abbrev s_are_moves : Stmt := top 6
abbrev s_is_between : Stmt := top 3
abbrev s_are_some : Stmt := top 4
abbrev s_law : Stmt := top 21
theorem S_law_cell_at : FnScope ["_law_script", "_law_k"] ["_law_script", "_law_k"] (defScope s_law_cell_at) := ⟨rfl, rfl, rfl, by decide +kernel, rfl, by decide +kernel, by decide +kernel⟩
theorem D_law_cell_at {P : Program} {w : World} {K : PySem.W.Frag} {mg : Str → Option Value} {base : Heap} {f : Addr} {fd : FuncData} {k : Nat} (W_law_cell_at : Fun K "_law_cell_at" "_law_cell_at" s_law_cell_at f fd) (b_len : mg "len" = none) :
    FnOk P w K mg base CX0 (k + 1) f fd ["_law_script", "_law_k"] (spD (fnR 2 (M_law_cell_at)) 2) := by
  refine Z.fn_data W_law_cell_at S_law_cell_at fun cdv A outer s H E hr => ?_
  have T := def_tb (cdv := cdv) (f := f) (P := P) (w := w) (K := K) (mg := mg) (base := base) (A := A) (outer := outer) (s := s) (H := H) (E := E) (qual := "_law_cell_at") (sc := defScope s_law_cell_at) (N := ["_law_script", "_law_k"]) (G := ["len"]) hr (by decide +kernel)
  exact (Z.es_cons (Z.es_if (Z.evt_lt (Z.EvE.b (Z.ev_name T 1 rfl)) (Z.EvE.b (Z.ev_len T 0 rfl b_len (Z.EvE.b (Z.ev_name T 0 rfl))))) (Z.es_one (Z.es_ret (Z.ev_ix T.hu (Z.EvE.b (Z.ev_name T 0 rfl)) (Z.EvE.b (Z.ev_name T 1 rfl)) (fun _ _ => rfl)))) Z.es_nil)
      (Z.es_one (Z.es_ret Z.ev_int)))
theorem S_law_mixed : FnScope ["_law_script", "_law_k", "_law_drawn_here"] ["_law_script", "_law_k"] (defScope s_law_mixed) := ⟨rfl, rfl, rfl, by decide +kernel, rfl, by decide +kernel, by decide +kernel⟩
theorem D_law_mixed {P : Program} {w : World} {K : PySem.W.Frag} {mg : Str → Option Value} {base : Heap} {f : Addr} {fd : FuncData} {k : Nat} (W_law_mixed : Fun K "_law_mixed" "_law_mixed" s_law_mixed f fd) {f_law_cell_at : Addr} {d_law_cell_at : FuncData} {F_law_cell_at : List PyData → R PyData} (C_law_cell_at : FnOk P w K mg base CX0 k f_law_cell_at d_law_cell_at ["_law_script", "_law_k"] (spD F_law_cell_at 2)) (m_law_cell_at : mg "_law_cell_at" = some (.ref f_law_cell_at)) (K_law_cell_at : PySem.W.keepIn K (.ref f_law_cell_at) = true) (B_law_cell_at : Binds K d_law_cell_at ["_law_script", "_law_k"] []) :
    FnOk P w K mg base CX0 (k + 1) f fd ["_law_script", "_law_k"] (spD (fnR 3 (M_law_mixed F_law_cell_at)) 2) := by
  refine Z.fn_data W_law_mixed S_law_mixed fun cdv A outer s H E hr => ?_
  have T := def_tb (cdv := cdv) (f := f) (P := P) (w := w) (K := K) (mg := mg) (base := base) (A := A) (outer := outer) (s := s) (H := H) (E := E) (qual := "_law_mixed") (sc := defScope s_law_mixed) (N := ["_law_script", "_law_k", "_law_drawn_here"]) (G := ["_law_cell_at"]) hr (by decide +kernel)
  have hr_law_cell_at := hr
  exact (Z.es_cons (Z.es_set T 2 rfl (Z.ev_mod (Z.EvE.b (Z.ev_mul (Z.EvE.b (Z.ev_add (Z.EvE.b (Z.ev_add (Z.EvE.b (Z.ev_call C_law_cell_at hr_law_cell_at T 0 rfl m_law_cell_at K_law_cell_at B_law_cell_at (Z.ea_cons (Z.ev_name T 0 rfl) (Z.ea_cons (Z.ev_name T 1 rfl) Z.ea_nil)) rfl (aCons_len (aCons_len aNil_len)))) (Z.EvE.b (Z.ev_mul (Z.EvE.b Z.ev_int) (Z.EvE.b (Z.ev_name T 1 rfl)))))) (Z.EvE.b Z.ev_int))) (Z.EvE.b Z.ev_int))) (Z.EvE.b Z.ev_int)))
      (Z.es_one (Z.es_ret (Z.ev_mod (Z.EvE.b (Z.ev_add (Z.EvE.b (Z.ev_add (Z.EvE.b (Z.ev_mul (Z.EvE.b (Z.ev_name T 2 rfl)) (Z.EvE.b (Z.ev_name T 2 rfl)))) (Z.EvE.b (Z.ev_mul (Z.EvE.b Z.ev_int) (Z.EvE.b (Z.ev_name T 2 rfl)))))) (Z.EvE.b (Z.ev_name T 1 rfl)))) (Z.EvE.b Z.ev_int)))))
theorem S_law_drawn : FnScope ["_law_number", "_law_k", "_law_drawn_here"] ["_law_number", "_law_k"] (defScope s_law_drawn) := ⟨rfl, rfl, rfl, by decide +kernel, rfl, by decide +kernel, by decide +kernel⟩
theorem D_law_drawn {P : Program} {w : World} {K : PySem.W.Frag} {mg : Str → Option Value} {base : Heap} {f : Addr} {fd : FuncData} {k : Nat} (W_law_drawn : Fun K "_law_drawn" "_law_drawn" s_law_drawn f fd) :
    FnOk P w K mg base CX0 (k + 1) f fd ["_law_number", "_law_k"] (spD (fnR 3 (M_law_drawn)) 2) := by
  refine Z.fn_data W_law_drawn S_law_drawn fun cdv A outer s H E hr => ?_
  have T := def_tb (cdv := cdv) (f := f) (P := P) (w := w) (K := K) (mg := mg) (base := base) (A := A) (outer := outer) (s := s) (H := H) (E := E) (qual := "_law_drawn") (sc := defScope s_law_drawn) (N := ["_law_number", "_law_k", "_law_drawn_here"]) (G := []) hr (by decide +kernel)
  exact (Z.es_cons (Z.es_set T 2 rfl (Z.ev_mod (Z.EvE.b (Z.ev_mul (Z.EvE.b (Z.ev_add (Z.EvE.b (Z.ev_add (Z.EvE.b (Z.ev_name T 0 rfl)) (Z.EvE.b (Z.ev_mul (Z.EvE.b Z.ev_int) (Z.EvE.b (Z.ev_name T 1 rfl)))))) (Z.EvE.b Z.ev_int))) (Z.EvE.b Z.ev_int))) (Z.EvE.b Z.ev_int)))
      (Z.es_one (Z.es_ret (Z.ev_mod (Z.EvE.b (Z.ev_add (Z.EvE.b (Z.ev_add (Z.EvE.b (Z.ev_mul (Z.EvE.b (Z.ev_name T 2 rfl)) (Z.EvE.b (Z.ev_name T 2 rfl)))) (Z.EvE.b (Z.ev_mul (Z.EvE.b Z.ev_int) (Z.EvE.b (Z.ev_name T 2 rfl)))))) (Z.EvE.b (Z.ev_name T 1 rfl)))) (Z.EvE.b Z.ev_int)))))
theorem S_law_goals : FnScope ["_law_number", "_law_count", "_law_found", "_law_k"] ["_law_number", "_law_count"] (defScope s_law_goals) := ⟨rfl, rfl, rfl, by decide +kernel, rfl, by decide +kernel, by decide +kernel⟩
theorem D_law_goals {P : Program} {w : World} {K : PySem.W.Frag} {mg : Str → Option Value} {base : Heap} {f : Addr} {fd : FuncData} {k : Nat} (W_law_goals : Fun K "_law_goals" "_law_goals" s_law_goals f fd) {f_law_drawn : Addr} {d_law_drawn : FuncData} {F_law_drawn : List PyData → R PyData} (C_law_drawn : FnOk P w K mg base CX0 k f_law_drawn d_law_drawn ["_law_number", "_law_k"] (spD F_law_drawn 2)) (m_law_drawn : mg "_law_drawn" = some (.ref f_law_drawn)) (K_law_drawn : PySem.W.keepIn K (.ref f_law_drawn) = true) (B_law_drawn : Binds K d_law_drawn ["_law_number", "_law_k"] []) (b_int : mg "int" = none) (b_range : mg "range" = none) (b_sorted : mg "sorted" = none) (b_tuple : mg "tuple" = none) :
    FnOk P w K mg base CX0 (k + 1) f fd ["_law_number", "_law_count"] (spD (fnR 4 (M_law_goals F_law_drawn)) 2) := by
  refine Z.fn_data W_law_goals S_law_goals fun cdv A outer s H E hr => ?_
  have T := def_tb (cdv := cdv) (f := f) (P := P) (w := w) (K := K) (mg := mg) (base := base) (A := A) (outer := outer) (s := s) (H := H) (E := E) (qual := "_law_goals") (sc := defScope s_law_goals) (N := ["_law_number", "_law_count", "_law_found", "_law_k"]) (G := ["range", "int", "_law_drawn", "tuple", "sorted"]) hr (by decide +kernel)
  have hr_law_drawn := hr
  exact (Z.es_cons (Z.es_own T 2 rfl Z.evn_dict0)
      (Z.es_cons (Z.es_for PassesOwn.never T.calm (Z.ei_range1 T 0 rfl b_range (Z.ea_cons (Z.ev_add (Z.EvE.b (Z.ev_add (Z.EvE.b Z.ev_int) (Z.EvE.b (Z.ev_mod (Z.EvE.b (Z.ev_name T 0 rfl)) (Z.EvE.b Z.ev_int))))) (Z.EvE.b (Z.ev_mul (Z.EvE.b Z.ev_int) (Z.EvE.b (Z.ev_int1 T 1 rfl b_int (Z.EvE.b (Z.ev_eq T.hu (Z.EvE.b (Z.ev_mod (Z.EvE.b (Z.ev_div (Z.EvE.b (Z.ev_name T 0 rfl)) (Z.EvE.b Z.ev_int))) (Z.EvE.b Z.ev_int))) (Z.EvE.b Z.ev_int)))))))) Z.ea_nil) (aCons_len aNil_len)) (Z.eg_name T 3 rfl) (Z.es_one (Z.es_put T 2 rfl (Z.ev_mod (Z.EvE.b (Z.ev_call C_law_drawn hr_law_drawn T 2 rfl m_law_drawn K_law_drawn B_law_drawn (Z.ea_cons (Z.ev_name T 0 rfl) (Z.ea_cons (Z.ev_name T 3 rfl) Z.ea_nil)) rfl (aCons_len (aCons_len aNil_len)))) (Z.EvE.b (Z.ev_name T 1 rfl))) Z.ev_bool)))
      (Z.es_one (Z.es_ret (Z.ev_tuple T 3 rfl b_tuple (Z.EvN.b (Z.evn_sorted T 4 rfl b_sorted (Z.evb_name T 2 rfl))))))))
theorem S_law_place : FnScope ["_law_number", "_law_count", "_law_high", "_law_gain"] ["_law_number", "_law_count", "_law_high"] (defScope s_law_place) := ⟨rfl, rfl, rfl, by decide +kernel, rfl, by decide +kernel, by decide +kernel⟩
theorem D_law_place {P : Program} {w : World} {K : PySem.W.Frag} {mg : Str → Option Value} {base : Heap} {f : Addr} {fd : FuncData} {k : Nat} (W_law_place : Fun K "_law_place" "_law_place" s_law_place f fd) {f_law_drawn : Addr} {d_law_drawn : FuncData} {F_law_drawn : List PyData → R PyData} (C_law_drawn : FnOk P w K mg base CX0 k f_law_drawn d_law_drawn ["_law_number", "_law_k"] (spD F_law_drawn 2)) (m_law_drawn : mg "_law_drawn" = some (.ref f_law_drawn)) (K_law_drawn : PySem.W.keepIn K (.ref f_law_drawn) = true) (B_law_drawn : Binds K d_law_drawn ["_law_number", "_law_k"] []) {f_law_goals : Addr} {d_law_goals : FuncData} {F_law_goals : List PyData → R PyData} (C_law_goals : FnOk P w K mg base CX0 k f_law_goals d_law_goals ["_law_number", "_law_count"] (spD F_law_goals 2)) (m_law_goals : mg "_law_goals" = some (.ref f_law_goals)) (K_law_goals : PySem.W.keepIn K (.ref f_law_goals) = true) (B_law_goals : Binds K d_law_goals ["_law_number", "_law_count"] []) :
    FnOk P w K mg base CX0 (k + 1) f fd ["_law_number", "_law_count", "_law_high"] (spD (fnR 4 (M_law_place F_law_drawn F_law_goals)) 3) := by
  refine Z.fn_data W_law_place S_law_place fun cdv A outer s H E hr => ?_
  have T := def_tb (cdv := cdv) (f := f) (P := P) (w := w) (K := K) (mg := mg) (base := base) (A := A) (outer := outer) (s := s) (H := H) (E := E) (qual := "_law_place") (sc := defScope s_law_place) (N := ["_law_number", "_law_count", "_law_high", "_law_gain"]) (G := ["_law_goals", "_law_drawn"]) hr (by decide +kernel)
  have hr_law_drawn := hr
  have hr_law_goals := hr
  exact (Z.es_cons (Z.es_set T 3 rfl (Z.ev_sub (Z.EvE.b (Z.ev_mod (Z.EvE.b (Z.ev_div (Z.EvE.b (Z.ev_name T 0 rfl)) (Z.EvE.b Z.ev_int))) (Z.EvE.b Z.ev_int))) (Z.EvE.b Z.ev_int)))
      (Z.es_cons (Z.es_if (Z.evt_eq T.hu (Z.EvE.b (Z.ev_mod (Z.EvE.b (Z.ev_div (Z.EvE.b (Z.ev_name T 0 rfl)) (Z.EvE.b Z.ev_int))) (Z.EvE.b Z.ev_int))) (Z.EvE.b Z.ev_int)) (Z.es_one (Z.es_set T 3 rfl (Z.ev_sub (Z.EvE.b (Z.ev_mod (Z.EvE.b (Z.ev_div (Z.EvE.b (Z.ev_name T 0 rfl)) (Z.EvE.b Z.ev_int))) (Z.EvE.b Z.ev_int))) (Z.EvE.b Z.ev_int)))) Z.es_nil)
      (Z.es_one (Z.es_ret (Z.ev_tup (Z.ea_cons (Z.ev_mod (Z.EvE.b (Z.ev_name T 0 rfl)) (Z.EvE.b Z.ev_int)) (Z.ea_cons (Z.ev_mod (Z.EvE.b (Z.ev_div (Z.EvE.b (Z.ev_name T 0 rfl)) (Z.EvE.b Z.ev_int))) (Z.EvE.b (Z.ev_add (Z.EvE.b (Z.ev_name T 2 rfl)) (Z.EvE.b Z.ev_int)))) (Z.ea_cons (Z.ev_name T 3 rfl) (Z.ea_cons (Z.ev_call C_law_goals hr_law_goals T 0 rfl m_law_goals K_law_goals B_law_goals (Z.ea_cons (Z.ev_call C_law_drawn hr_law_drawn T 1 rfl m_law_drawn K_law_drawn B_law_drawn (Z.ea_cons (Z.ev_name T 0 rfl) (Z.ea_cons Z.ev_int Z.ea_nil)) rfl (aCons_len (aCons_len aNil_len))) (Z.ea_cons (Z.ev_name T 1 rfl) Z.ea_nil)) rfl (aCons_len (aCons_len aNil_len))) Z.ea_nil)))))))))
theorem S_law_ground : FnScope ["_law_script", "_law_most", "_law_number", "_law_count", "_law_high"] ["_law_script", "_law_most"] (defScope s_law_ground) := ⟨rfl, rfl, rfl, by decide +kernel, rfl, by decide +kernel, by decide +kernel⟩
theorem D_law_ground {P : Program} {w : World} {K : PySem.W.Frag} {mg : Str → Option Value} {base : Heap} {f : Addr} {fd : FuncData} {k : Nat} (W_law_ground : Fun K "_law_ground" "_law_ground" s_law_ground f fd) {f_law_mixed : Addr} {d_law_mixed : FuncData} {F_law_mixed : List PyData → R PyData} (C_law_mixed : FnOk P w K mg base CX0 k f_law_mixed d_law_mixed ["_law_script", "_law_k"] (spD F_law_mixed 2)) (m_law_mixed : mg "_law_mixed" = some (.ref f_law_mixed)) (K_law_mixed : PySem.W.keepIn K (.ref f_law_mixed) = true) (B_law_mixed : Binds K d_law_mixed ["_law_script", "_law_k"] []) {f_law_place : Addr} {d_law_place : FuncData} {F_law_place : List PyData → R PyData} (C_law_place : FnOk P w K mg base CX0 k f_law_place d_law_place ["_law_number", "_law_count", "_law_high"] (spD F_law_place 3)) (m_law_place : mg "_law_place" = some (.ref f_law_place)) (K_law_place : PySem.W.keepIn K (.ref f_law_place) = true) (B_law_place : Binds K d_law_place ["_law_number", "_law_count", "_law_high"] []) (b_len : mg "len" = none) (b_max : mg "max" = none) (b_min : mg "min" = none) (b_range : mg "range" = none) (b_tuple : mg "tuple" = none) :
    FnOk P w K mg base CX0 (k + 1) f fd ["_law_script", "_law_most"] (spD (fnR 5 (M_law_ground F_law_mixed F_law_place)) 2) := by
  refine Z.fn_data W_law_ground S_law_ground fun cdv A outer s H E hr => ?_
  have T := def_tb (cdv := cdv) (f := f) (P := P) (w := w) (K := K) (mg := mg) (base := base) (A := A) (outer := outer) (s := s) (H := H) (E := E) (qual := "_law_ground") (sc := defScope s_law_ground) (N := ["_law_script", "_law_most", "_law_number", "_law_count", "_law_high"]) (G := ["_law_mixed", "min", "max", "len", "tuple", "range"]) hr (by decide +kernel)
  have hr_law_mixed := hr
  have hr_law_place := hr
  exact (Z.es_cons (Z.es_set T 2 rfl (Z.ev_call C_law_mixed hr_law_mixed T 0 rfl m_law_mixed K_law_mixed B_law_mixed (Z.ea_cons (Z.ev_name T 0 rfl) (Z.ea_cons Z.ev_int Z.ea_nil)) rfl (aCons_len (aCons_len aNil_len))))
      (Z.es_cons (Z.es_set T 3 rfl (Z.ev_add (Z.EvE.b Z.ev_int) (Z.EvE.b (Z.ev_mod (Z.EvE.b (Z.ev_name T 2 rfl)) (Z.EvE.b (Z.ev_min T 1 rfl b_min (Z.EvE.b (Z.ev_name T 1 rfl)) (Z.EvE.b (Z.ev_max T 2 rfl b_max (Z.EvE.b Z.ev_int) (Z.EvE.b (Z.ev_len T 3 rfl b_len (Z.EvE.b (Z.ev_name T 0 rfl))))))))))))
      (Z.es_cons (Z.es_set T 4 rfl (Z.ev_ix T.hu (Z.EvN.b (Z.evn_lst (Z.ea_cons Z.ev_int (Z.ea_cons Z.ev_int (Z.ea_cons Z.ev_int (Z.ea_cons Z.ev_int (Z.ea_cons Z.ev_int (Z.ea_cons Z.ev_int Z.ea_nil)))))))) (Z.EvE.b (Z.ev_mod (Z.EvE.b (Z.ev_div (Z.EvE.b (Z.ev_name T 2 rfl)) (Z.EvE.b Z.ev_int))) (Z.EvE.b Z.ev_int))) (fun _ _ => rfl)))
      (Z.es_one (Z.es_ret (Z.ev_tuple T 4 rfl b_tuple (Z.EvN.b (Z.evn_compD (N := ["_law_k", "_law_script", "_law_count", "_law_high"]) (own := 1) (G := ["_law_place", "_law_mixed"]) (fr := [0, 3, 4]) T rfl rfl (oN := ["_law_script", "_law_most", "_law_number", "_law_count", "_law_high"]) (on := (defScope s_law_ground).names) (by decide +kernel) (Z.ei_range1 T 5 rfl b_range (Z.ea_cons (Z.ev_name T 3 rfl) Z.ea_nil) (aCons_len aNil_len)) (fits_name (by decide)) (fun cl C s' H' fp T => ⟨(Z.eg_name T 0 rfl), Z.ec_nil, (Z.ev_call C_law_place hr_law_place T 0 rfl m_law_place K_law_place B_law_place (Z.ea_cons (Z.ev_call C_law_mixed hr_law_mixed T 1 rfl m_law_mixed K_law_mixed B_law_mixed (Z.ea_cons (Z.ev_name T 1 rfl) (Z.ea_cons (Z.ev_add (Z.EvE.b Z.ev_int) (Z.EvE.b (Z.ev_name T 0 rfl))) Z.ea_nil)) rfl (aCons_len (aCons_len aNil_len))) (Z.ea_cons (Z.ev_name T 2 rfl) (Z.ea_cons (Z.ev_name T 3 rfl) Z.ea_nil))) rfl (aCons_len (aCons_len (aCons_len aNil_len))))⟩)))))))))
theorem S_law_moves : FnScope ["_law_ground_here", "_law_number", "_law_found", "_law_k", "_law_place_here", "_law_drawn_here"] ["_law_ground_here", "_law_number"] (defScope s_law_moves) := ⟨rfl, rfl, rfl, by decide +kernel, rfl, by decide +kernel, by decide +kernel⟩
theorem D_law_moves {P : Program} {w : World} {K : PySem.W.Frag} {mg : Str → Option Value} {base : Heap} {f : Addr} {fd : FuncData} {k : Nat} (W_law_moves : Fun K "_law_moves" "_law_moves" s_law_moves f fd) {f_law_drawn : Addr} {d_law_drawn : FuncData} {F_law_drawn : List PyData → R PyData} (C_law_drawn : FnOk P w K mg base CX0 k f_law_drawn d_law_drawn ["_law_number", "_law_k"] (spD F_law_drawn 2)) (m_law_drawn : mg "_law_drawn" = some (.ref f_law_drawn)) (K_law_drawn : PySem.W.keepIn K (.ref f_law_drawn) = true) (B_law_drawn : Binds K d_law_drawn ["_law_number", "_law_k"] []) (b_enumerate : mg "enumerate" = none) (b_len : mg "len" = none) (b_tuple : mg "tuple" = none) :
    FnOk P w K mg base CX0 (k + 1) f fd ["_law_ground_here", "_law_number"] (spD (fnR 6 (M_law_moves F_law_drawn)) 2) := by
  refine Z.fn_data W_law_moves S_law_moves fun cdv A outer s H E hr => ?_
  have T := def_tb (cdv := cdv) (f := f) (P := P) (w := w) (K := K) (mg := mg) (base := base) (A := A) (outer := outer) (s := s) (H := H) (E := E) (qual := "_law_moves") (sc := defScope s_law_moves) (N := ["_law_ground_here", "_law_number", "_law_found", "_law_k", "_law_place_here", "_law_drawn_here"]) (G := ["enumerate", "_law_drawn", "len", "tuple"]) hr (by decide +kernel)
  have hr_law_drawn := hr
  exact (Z.es_cons (Z.es_own T 2 rfl (Z.evn_lst Z.ea_nil))
      (Z.es_cons (Z.es_for PassesOwn.never T.calm (Z.ei_enum T 0 rfl b_enumerate (Z.ev_name T 0 rfl)) (Z.eg_pair T 3 4 rfl rfl) (Z.es_cons (Z.es_set T 5 rfl (Z.ev_call C_law_drawn hr_law_drawn T 1 rfl m_law_drawn K_law_drawn B_law_drawn (Z.ea_cons (Z.ev_name T 1 rfl) (Z.ea_cons (Z.ev_name T 3 rfl) Z.ea_nil)) rfl (aCons_len (aCons_len aNil_len))))
      (Z.es_one (Z.es_if (Z.evt_eq T.hu (Z.EvE.b (Z.ev_mod (Z.EvE.b (Z.ev_name T 5 rfl)) (Z.EvE.b Z.ev_int))) (Z.EvE.b Z.ev_int)) (Z.es_one (Z.es_append T 2 rfl Z.ev_none)) (Z.es_one (Z.es_append T 2 rfl (Z.ev_ix T.hu (Z.EvE.b (Z.ev_ix T.hu (Z.EvE.b (Z.ev_name T 4 rfl)) (Z.EvE.b Z.ev_int) (fun _ _ => rfl))) (Z.EvE.b (Z.ev_mod (Z.EvE.b (Z.ev_div (Z.EvE.b (Z.ev_name T 5 rfl)) (Z.EvE.b Z.ev_int))) (Z.EvE.b (Z.ev_len T 2 rfl b_len (Z.EvE.b (Z.ev_ix T.hu (Z.EvE.b (Z.ev_name T 4 rfl)) (Z.EvE.b Z.ev_int) (fun _ _ => rfl))))))) (fun _ _ => rfl))))))))
      (Z.es_one (Z.es_ret (Z.ev_tuple T 3 rfl b_tuple (Z.evb_name T 2 rfl))))))
theorem S_law_moves_good : FnScope ["_law_moves_here", "_law_ground_here", "_law_move", "_law_place_here"] ["_law_moves_here", "_law_ground_here"] (defScope s_law_moves_good) := ⟨rfl, rfl, rfl, by decide +kernel, rfl, by decide +kernel, by decide +kernel⟩
theorem D_law_moves_good {P : Program} {w : World} {K : PySem.W.Frag} {mg : Str → Option Value} {base : Heap} {f : Addr} {fd : FuncData} {k : Nat} (W_law_moves_good : Fun K "_law_moves_good" "_law_moves_good" s_law_moves_good f fd) (b_bool : mg "bool" = none) (b_int : mg "int" = none) (b_isinstance : mg "isinstance" = none) (b_len : mg "len" = none) (b_tuple : mg "tuple" = none) (b_zip : mg "zip" = none) :
    FnOk P w K mg base CX0 (k + 1) f fd ["_law_moves_here", "_law_ground_here"] (spD (fnR 4 (M_law_moves_good)) 2) := by
  refine Z.fn_data W_law_moves_good S_law_moves_good fun cdv A outer s H E hr => ?_
  have T := def_tb (cdv := cdv) (f := f) (P := P) (w := w) (K := K) (mg := mg) (base := base) (A := A) (outer := outer) (s := s) (H := H) (E := E) (qual := "_law_moves_good") (sc := defScope s_law_moves_good) (N := ["_law_moves_here", "_law_ground_here", "_law_move", "_law_place_here"]) (G := ["isinstance", "tuple", "len", "zip", "bool", "int"]) hr (by decide +kernel)
  exact (Z.es_cons (Z.es_if (Z.EvW.t (Z.evw_or (Z.evt_not (Z.evt_val (Z.ev_isi_tuple T 0 rfl b_isinstance T 1 rfl b_tuple (Z.EvE.b (Z.ev_name T 0 rfl))))) (Z.evw_or1 (Z.evt_ne T.hu (Z.EvE.b (Z.ev_len T 2 rfl b_len (Z.EvE.b (Z.ev_name T 0 rfl)))) (Z.EvE.b (Z.ev_len T 2 rfl b_len (Z.EvE.b (Z.ev_name T 1 rfl)))))))) (Z.es_one (Z.es_ret Z.ev_bool)) Z.es_nil)
      (Z.es_cons (Z.es_for PassesOwn.never T.calm (Z.ei_zip T 3 rfl b_zip (Z.ev_name T 0 rfl) (Z.ev_name T 1 rfl)) (Z.eg_pair T 2 3 rfl rfl) (Z.es_cons (Z.es_if (Z.EvW.t (Z.evw_or (Z.evt_val (Z.ev_isi_bool T 0 rfl b_isinstance T 4 rfl b_bool (Z.EvE.b (Z.ev_name T 2 rfl)))) (Z.evw_or1 (Z.EvW.t (Z.evw_and (Z.evt_notN (Z.EvE.b (Z.ev_name T 2 rfl)) (Z.EvE.b Z.ev_none)) (Z.evw_and1 (Z.evt_not (Z.evt_val (Z.ev_isi_int T 0 rfl b_isinstance T 5 rfl b_int (Z.EvE.b (Z.ev_name T 2 rfl))))))))))) (Z.es_one (Z.es_ret Z.ev_bool)) Z.es_nil)
      (Z.es_one (Z.es_if (Z.EvW.t (Z.evw_and (Z.evt_notN (Z.EvE.b (Z.ev_name T 2 rfl)) (Z.EvE.b Z.ev_none)) (Z.evw_and1 (Z.evt_notIn T.hu (Z.EvE.b (Z.ev_name T 2 rfl)) (Z.EvE.b (Z.ev_ix T.hu (Z.EvE.b (Z.ev_name T 3 rfl)) (Z.EvE.b Z.ev_int) (fun _ _ => rfl))) (by with_unfolding_all rfl))))) (Z.es_one (Z.es_ret Z.ev_bool)) Z.es_nil))))
      (Z.es_one (Z.es_ret Z.ev_bool))))
theorem S_law_rising : FnScope ["_law_found", "_law_count", "_law_last", "_law_part"] ["_law_found", "_law_count"] (defScope s_law_rising) := ⟨rfl, rfl, rfl, by decide +kernel, rfl, by decide +kernel, by decide +kernel⟩
theorem D_law_rising {P : Program} {w : World} {K : PySem.W.Frag} {mg : Str → Option Value} {base : Heap} {f : Addr} {fd : FuncData} {k : Nat} (W_law_rising : Fun K "_law_rising" "_law_rising" s_law_rising f fd) (b_bool : mg "bool" = none) (b_int : mg "int" = none) (b_isinstance : mg "isinstance" = none) (b_tuple : mg "tuple" = none) :
    FnOk P w K mg base CX0 (k + 1) f fd ["_law_found", "_law_count"] (spD (fnR 4 (M_law_rising)) 2) := by
  refine Z.fn_data W_law_rising S_law_rising fun cdv A outer s H E hr => ?_
  have T := def_tb (cdv := cdv) (f := f) (P := P) (w := w) (K := K) (mg := mg) (base := base) (A := A) (outer := outer) (s := s) (H := H) (E := E) (qual := "_law_rising") (sc := defScope s_law_rising) (N := ["_law_found", "_law_count", "_law_last", "_law_part"]) (G := ["isinstance", "tuple", "int", "bool"]) hr (by decide +kernel)
  exact (Z.es_cons (Z.es_if (Z.evt_not (Z.evt_val (Z.ev_isi_tuple T 0 rfl b_isinstance T 1 rfl b_tuple (Z.EvE.b (Z.ev_name T 0 rfl))))) (Z.es_one (Z.es_ret Z.ev_bool)) Z.es_nil)
      (Z.es_cons (Z.es_set T 2 rfl (Z.ev_neg (Z.EvE.b Z.ev_int)))
      (Z.es_cons (Z.es_for PassesOwn.never T.calm (Z.ei_seq (Z.ev_name T 0 rfl)) (Z.eg_name T 3 rfl) (Z.es_cons (Z.es_if (Z.EvW.t (Z.evw_or (Z.evt_not (Z.evt_val (Z.ev_isi_int T 0 rfl b_isinstance T 2 rfl b_int (Z.EvE.b (Z.ev_name T 3 rfl))))) (Z.evw_or (Z.evt_val (Z.ev_isi_bool T 0 rfl b_isinstance T 3 rfl b_bool (Z.EvE.b (Z.ev_name T 3 rfl)))) (Z.evw_or1 (Z.evt_not (Z.evt_chain op_lt sv_cmp op_lt sv_cmp (Z.EvE.b (Z.ev_name T 2 rfl)) (Z.EvE.b (Z.ev_name T 3 rfl)) (Z.EvE.b (Z.ev_name T 1 rfl)))))))) (Z.es_one (Z.es_ret Z.ev_bool)) Z.es_nil)
      (Z.es_one (Z.es_set T 2 rfl (Z.ev_name T 3 rfl)))))
      (Z.es_one (Z.es_ret Z.ev_bool)))))
theorem S_law_same : FnScope ["_law_found", "_law_due"] ["_law_found", "_law_due"] (defScope s_law_same) := ⟨rfl, rfl, rfl, by decide +kernel, rfl, by decide +kernel, by decide +kernel⟩
theorem D_law_same {P : Program} {w : World} {K : PySem.W.Frag} {mg : Str → Option Value} {base : Heap} {f : Addr} {fd : FuncData} {k : Nat} (W_law_same : Fun K "_law_same" "_law_same" s_law_same f fd) (b_bool : mg "bool" = none) (b_isinstance : mg "isinstance" = none) :
    FnOk P w K mg base CX0 (k + 1) f fd ["_law_found", "_law_due"] (spD (fnR 2 (M_law_same)) 2) := by
  refine Z.fn_data W_law_same S_law_same fun cdv A outer s H E hr => ?_
  have T := def_tb (cdv := cdv) (f := f) (P := P) (w := w) (K := K) (mg := mg) (base := base) (A := A) (outer := outer) (s := s) (H := H) (E := E) (qual := "_law_same") (sc := defScope s_law_same) (N := ["_law_found", "_law_due"]) (G := ["isinstance", "bool"]) hr (by decide +kernel)
  exact (Z.es_one (Z.es_ret (Z.ev_and (Z.ev_isi_bool T 0 rfl b_isinstance T 1 rfl b_bool (Z.EvE.b (Z.ev_name T 0 rfl))) (Z.ev_one (Z.ev_eq T.hu (Z.EvE.b (Z.ev_name T 0 rfl)) (Z.EvE.b (Z.ev_name T 1 rfl)))))))
theorem S_law_some : FnScope ["_law_number", "_law_count", "_law_kind"] ["_law_number", "_law_count"] (defScope s_law_some) := ⟨rfl, rfl, rfl, by decide +kernel, rfl, by decide +kernel, by decide +kernel⟩
theorem D_law_some {P : Program} {w : World} {K : PySem.W.Frag} {mg : Str → Option Value} {base : Heap} {f : Addr} {fd : FuncData} {k : Nat} (W_law_some : Fun K "_law_some" "_law_some" s_law_some f fd) {f_law_drawn : Addr} {d_law_drawn : FuncData} {F_law_drawn : List PyData → R PyData} (C_law_drawn : FnOk P w K mg base CX0 k f_law_drawn d_law_drawn ["_law_number", "_law_k"] (spD F_law_drawn 2)) (m_law_drawn : mg "_law_drawn" = some (.ref f_law_drawn)) (K_law_drawn : PySem.W.keepIn K (.ref f_law_drawn) = true) (B_law_drawn : Binds K d_law_drawn ["_law_number", "_law_k"] []) (b_range : mg "range" = none) (b_tuple : mg "tuple" = none) :
    FnOk P w K mg base CX0 (k + 1) f fd ["_law_number", "_law_count"] (spD (fnR 3 (M_law_some F_law_drawn)) 2) := by
  refine Z.fn_data W_law_some S_law_some fun cdv A outer s H E hr => ?_
  have T := def_tb (cdv := cdv) (f := f) (P := P) (w := w) (K := K) (mg := mg) (base := base) (A := A) (outer := outer) (s := s) (H := H) (E := E) (qual := "_law_some") (sc := defScope s_law_some) (N := ["_law_number", "_law_count", "_law_kind"]) (G := ["tuple", "range"]) hr (by decide +kernel)
  have hr_law_drawn := hr
  exact (Z.es_cons (Z.es_set T 2 rfl (Z.ev_mod (Z.EvE.b (Z.ev_name T 0 rfl)) (Z.EvE.b Z.ev_int)))
      (Z.es_one (Z.es_ret (Z.ev_tuple T 0 rfl b_tuple (Z.EvN.b (Z.evn_compD (N := ["_law_k", "_law_kind", "_law_number"]) (own := 1) (G := ["_law_drawn"]) (fr := [2, 0]) T rfl rfl (oN := ["_law_number", "_law_count", "_law_kind"]) (on := (defScope s_law_some).names) (by decide +kernel) (Z.ei_range1 T 1 rfl b_range (Z.ea_cons (Z.ev_name T 1 rfl) Z.ea_nil) (aCons_len aNil_len)) (fits_name (by decide)) (fun cl C s' H' fp T => ⟨(Z.eg_name T 0 rfl), (Z.ec_one (Z.EvW.t (Z.evw_or (Z.evt_eq T.hu (Z.EvE.b (Z.ev_name T 1 rfl)) (Z.EvE.b Z.ev_int)) (Z.evw_or1 (Z.evt_lt (Z.EvE.b (Z.ev_mod (Z.EvE.b (Z.ev_call C_law_drawn hr_law_drawn T 0 rfl m_law_drawn K_law_drawn B_law_drawn (Z.ea_cons (Z.ev_name T 2 rfl) (Z.ea_cons (Z.ev_name T 0 rfl) Z.ea_nil)) rfl (aCons_len (aCons_len aNil_len)))) (Z.EvE.b Z.ev_int))) (Z.EvE.b (Z.ev_name T 1 rfl))))))), (Z.ev_name T 0 rfl)⟩)))))))
theorem S_law_odd : FnScope ["_law_number", "_law_some_here"] ["_law_number"] (defScope s_law_odd) := ⟨rfl, rfl, rfl, by decide +kernel, rfl, by decide +kernel, by decide +kernel⟩
theorem D_law_odd {P : Program} {w : World} {K : PySem.W.Frag} {mg : Str → Option Value} {base : Heap} {f : Addr} {fd : FuncData} {k : Nat} (W_law_odd : Fun K "_law_odd" "_law_odd" s_law_odd f fd) :
    FnOk P w K mg base CX0 (k + 1) f fd ["_law_number"] (spD (fnR 2 (M_law_odd)) 1) := by
  refine Z.fn_data W_law_odd S_law_odd fun cdv A outer s H E hr => ?_
  have T := def_tb (cdv := cdv) (f := f) (P := P) (w := w) (K := K) (mg := mg) (base := base) (A := A) (outer := outer) (s := s) (H := H) (E := E) (qual := "_law_odd") (sc := defScope s_law_odd) (N := ["_law_number", "_law_some_here"]) (G := []) hr (by decide +kernel)
  exact (Z.es_cons (Z.es_set T 1 rfl (Z.EvN.e (Z.evn_lst (Z.ea_cons (Z.ev_neg (Z.EvE.b Z.ev_int)) (Z.ea_cons Z.ev_int (Z.ea_cons Z.ev_int (Z.ea_cons Z.ev_int (Z.ea_cons Z.ev_int (Z.ea_cons Z.ev_int (Z.ea_cons Z.ev_int (Z.ea_cons Z.ev_int (Z.ea_cons (Z.ev_neg (Z.EvE.b Z.ev_int)) (Z.ea_cons (Z.ev_neg (Z.EvE.b Z.ev_int)) (Z.ea_cons Z.ev_int (Z.ea_cons Z.ev_int (Z.ea_cons Z.ev_bool (Z.ea_cons Z.ev_bool (Z.ea_cons Z.ev_none (Z.ea_cons Z.ev_str (Z.ea_cons Z.ev_str (Z.ea_cons (Z.ev_tup Z.ea_nil) (Z.ea_cons (Z.EvN.e (Z.evn_lst Z.ea_nil)) (Z.ea_cons (Z.ev_tup (Z.ea_cons Z.ev_int Z.ea_nil)) (Z.ea_cons (Z.ev_tup (Z.ea_cons Z.ev_int (Z.ea_cons Z.ev_int Z.ea_nil))) (Z.ea_cons (Z.ev_tup (Z.ea_cons Z.ev_int (Z.ea_cons Z.ev_int Z.ea_nil))) Z.ea_nil)))))))))))))))))))))))))
      (Z.es_one (Z.es_ret (Z.ev_ix T.hu (Z.EvE.b (Z.ev_name T 1 rfl)) (Z.EvE.b (Z.ev_mod (Z.EvE.b (Z.ev_name T 0 rfl)) (Z.EvE.b Z.ev_int))) (fun _ _ => rfl)))))
theorem S_law_spoilt : FnScope ["_law_thing", "_law_number", "_law_deep", "_law_at", "_law_part"] ["_law_thing", "_law_number", "_law_deep"] (defScope s_law_spoilt) := ⟨rfl, rfl, rfl, by decide +kernel, rfl, by decide +kernel, by decide +kernel⟩
theorem D_law_spoilt {P : Program} {w : World} {K : PySem.W.Frag} {mg : Str → Option Value} {base : Heap} {f : Addr} {fd : FuncData} {k : Nat} (W_law_spoilt : Fun K "_law_spoilt" "_law_spoilt" s_law_spoilt f fd) {f_law_odd : Addr} {d_law_odd : FuncData} {F_law_odd : List PyData → R PyData} (C_law_odd : FnOk P w K mg base CX0 k f_law_odd d_law_odd ["_law_number"] (spD F_law_odd 1)) (m_law_odd : mg "_law_odd" = some (.ref f_law_odd)) (K_law_odd : PySem.W.keepIn K (.ref f_law_odd) = true) (B_law_odd : Binds K d_law_odd ["_law_number"] []) {f_law_spoilt : Addr} {d_law_spoilt : FuncData} {F_law_spoilt : List PyData → R PyData} (C_law_spoilt : FnOk P w K mg base CX0 k f_law_spoilt d_law_spoilt ["_law_thing", "_law_number", "_law_deep"] (spD F_law_spoilt 3)) (m_law_spoilt : mg "_law_spoilt" = some (.ref f_law_spoilt)) (K_law_spoilt : PySem.W.keepIn K (.ref f_law_spoilt) = true) (B_law_spoilt : Binds K d_law_spoilt ["_law_thing", "_law_number", "_law_deep"] []) (b_int : mg "int" = none) (b_isinstance : mg "isinstance" = none) (b_len : mg "len" = none) (b_list : mg "list" = none) (b_str : mg "str" = none) (b_tuple : mg "tuple" = none) :
    FnOk P w K mg base CX0 (k + 1) f fd ["_law_thing", "_law_number", "_law_deep"] (spD (fnR 5 (M_law_spoilt F_law_odd F_law_spoilt)) 3) := by
  refine Z.fn_data W_law_spoilt S_law_spoilt fun cdv A outer s H E hr => ?_
  have T := def_tb (cdv := cdv) (f := f) (P := P) (w := w) (K := K) (mg := mg) (base := base) (A := A) (outer := outer) (s := s) (H := H) (E := E) (qual := "_law_spoilt") (sc := defScope s_law_spoilt) (N := ["_law_thing", "_law_number", "_law_deep", "_law_at", "_law_part"]) (G := ["isinstance", "tuple", "len", "_law_spoilt", "list", "int", "str", "_law_odd"]) hr (by decide +kernel)
  have hr_law_odd := hr
  have hr_law_spoilt := hr
  exact (Z.es_cons (Z.es_if (Z.EvW.t (Z.evw_and (Z.evt_gt (Z.EvE.b (Z.ev_name T 2 rfl)) (Z.EvE.b Z.ev_int)) (Z.evw_and (Z.evt_val (Z.ev_isi_tuple T 0 rfl b_isinstance T 1 rfl b_tuple (Z.EvE.b (Z.ev_name T 0 rfl)))) (Z.evw_and (Z.evt_gt (Z.EvE.b (Z.ev_len T 2 rfl b_len (Z.EvE.b (Z.ev_name T 0 rfl)))) (Z.EvE.b Z.ev_int)) (Z.evw_and1 (Z.evt_gt (Z.EvE.b (Z.ev_mod (Z.EvE.b (Z.ev_name T 1 rfl)) (Z.EvE.b Z.ev_int))) (Z.EvE.b Z.ev_int))))))) (Z.es_cons (Z.es_set T 3 rfl (Z.ev_mod (Z.EvE.b (Z.ev_div (Z.EvE.b (Z.ev_name T 1 rfl)) (Z.EvE.b Z.ev_int))) (Z.EvE.b (Z.ev_len T 2 rfl b_len (Z.EvE.b (Z.ev_name T 0 rfl))))))
      (Z.es_cons (Z.es_set T 4 rfl (Z.ev_call C_law_spoilt hr_law_spoilt T 3 rfl m_law_spoilt K_law_spoilt B_law_spoilt (Z.ea_cons (Z.ev_ix T.hu (Z.EvE.b (Z.ev_name T 0 rfl)) (Z.EvE.b (Z.ev_name T 3 rfl)) (fun _ _ => rfl)) (Z.ea_cons (Z.ev_div (Z.EvE.b (Z.ev_div (Z.EvE.b (Z.ev_name T 1 rfl)) (Z.EvE.b Z.ev_int))) (Z.EvE.b (Z.ev_len T 2 rfl b_len (Z.EvE.b (Z.ev_name T 0 rfl))))) (Z.ea_cons (Z.ev_sub (Z.EvE.b (Z.ev_name T 2 rfl)) (Z.EvE.b Z.ev_int)) Z.ea_nil))) rfl (aCons_len (aCons_len (aCons_len aNil_len)))))
      (Z.es_one (Z.es_ret (Z.ev_add (Z.EvE.b (Z.ev_add (Z.EvE.b (Z.ev_slice (Z.EvE.b (Z.ev_name T 0 rfl)) Z.eo_none (Z.eo_some (Z.ev_name T 3 rfl)))) (Z.EvE.b (Z.ev_tup (Z.ea_cons (Z.ev_name T 4 rfl) Z.ea_nil))))) (Z.EvE.b (Z.ev_slice (Z.EvE.b (Z.ev_name T 0 rfl)) (Z.eo_some (Z.ev_add (Z.EvE.b (Z.ev_name T 3 rfl)) (Z.EvE.b Z.ev_int))) Z.eo_none))))))) Z.es_nil)
      (Z.es_cons (Z.es_if (Z.EvW.t (Z.evw_and (Z.evt_val (Z.ev_isi_tuple T 0 rfl b_isinstance T 1 rfl b_tuple (Z.EvE.b (Z.ev_name T 0 rfl)))) (Z.evw_and (Z.evt_gt (Z.EvE.b (Z.ev_len T 2 rfl b_len (Z.EvE.b (Z.ev_name T 0 rfl)))) (Z.EvE.b Z.ev_int)) (Z.evw_and1 (Z.evt_eq T.hu (Z.EvE.b (Z.ev_mod (Z.EvE.b (Z.ev_div (Z.EvE.b (Z.ev_name T 1 rfl)) (Z.EvE.b Z.ev_int))) (Z.EvE.b Z.ev_int))) (Z.EvE.b Z.ev_int)))))) (Z.es_one (Z.es_ret (Z.ev_ix T.hu (Z.EvN.b (Z.evn_lst (Z.ea_cons (Z.EvN.e (Z.evn_list T 4 rfl b_list (Z.EvE.b (Z.ev_name T 0 rfl)))) (Z.ea_cons (Z.ev_slice (Z.EvE.b (Z.ev_name T 0 rfl)) Z.eo_none (Z.eo_some (Z.ev_neg (Z.EvE.b Z.ev_int)))) (Z.ea_cons (Z.ev_add (Z.EvE.b (Z.ev_name T 0 rfl)) (Z.EvE.b (Z.ev_slice (Z.EvE.b (Z.ev_name T 0 rfl)) (Z.eo_some (Z.ev_neg (Z.EvE.b Z.ev_int))) Z.eo_none))) (Z.ea_cons (Z.ev_slice (Z.EvE.b (Z.ev_name T 0 rfl)) (Z.eo_some Z.ev_int) Z.eo_none) (Z.ea_cons (Z.ev_rev (Z.EvE.b (Z.ev_name T 0 rfl))) (Z.ea_cons (Z.ev_mul (Z.EvE.b (Z.ev_name T 0 rfl)) (Z.EvE.b Z.ev_int)) Z.ea_nil)))))))) (Z.EvE.b (Z.ev_mod (Z.EvE.b (Z.ev_div (Z.EvE.b (Z.ev_name T 1 rfl)) (Z.EvE.b Z.ev_int))) (Z.EvE.b Z.ev_int))) (fun _ _ => rfl)))) Z.es_nil)
      (Z.es_cons (Z.es_if (Z.EvW.t (Z.evw_and (Z.evt_val (Z.ev_isi_int T 0 rfl b_isinstance T 5 rfl b_int (Z.EvE.b (Z.ev_name T 0 rfl)))) (Z.evw_and1 (Z.evt_eq T.hu (Z.EvE.b (Z.ev_mod (Z.EvE.b (Z.ev_div (Z.EvE.b (Z.ev_name T 1 rfl)) (Z.EvE.b Z.ev_int))) (Z.EvE.b Z.ev_int))) (Z.EvE.b Z.ev_int))))) (Z.es_one (Z.es_ret (Z.ev_ix T.hu (Z.EvN.b (Z.evn_lst (Z.ea_cons (Z.ev_str1 T 6 rfl b_str (Z.EvE.b (Z.ev_name T 0 rfl))) (Z.ea_cons (Z.ev_neg (Z.EvE.b (Z.ev_name T 0 rfl))) (Z.ea_cons (Z.ev_mul (Z.EvE.b (Z.ev_name T 0 rfl)) (Z.EvE.b Z.ev_int)) (Z.ea_cons (Z.ev_eq T.hu (Z.EvE.b (Z.ev_name T 0 rfl)) (Z.EvE.b Z.ev_int)) (Z.ea_cons (Z.ev_add (Z.EvE.b (Z.ev_name T 0 rfl)) (Z.EvE.b Z.ev_int)) Z.ea_nil))))))) (Z.EvE.b (Z.ev_mod (Z.EvE.b (Z.ev_div (Z.EvE.b (Z.ev_name T 1 rfl)) (Z.EvE.b Z.ev_int))) (Z.EvE.b Z.ev_int))) (fun _ _ => rfl)))) Z.es_nil)
      (Z.es_one (Z.es_ret (Z.ev_call C_law_odd hr_law_odd T 7 rfl m_law_odd K_law_odd B_law_odd (Z.ea_cons (Z.ev_div (Z.EvE.b (Z.ev_name T 1 rfl)) (Z.EvE.b Z.ev_int)) Z.ea_nil) rfl (aCons_len aNil_len)))))))
theorem S_is_whole : FnScope ["thing"] ["thing"] (defScope s_is_whole) := ⟨rfl, rfl, rfl, by decide +kernel, rfl, by decide +kernel, by decide +kernel⟩
theorem D_is_whole {P : Program} {w : World} {K : PySem.W.Frag} {mg : Str → Option Value} {base : Heap} {f : Addr} {fd : FuncData} {k : Nat} (W_is_whole : Fun K "is_whole" "is_whole" s_is_whole f fd) (b_bool : mg "bool" = none) (b_int : mg "int" = none) (b_isinstance : mg "isinstance" = none) :
    FnOk P w K mg base CX0 (k + 1) f fd ["thing"] (spD (fnR 1 (M_is_whole)) 1) := by
  refine Z.fn_data W_is_whole S_is_whole fun cdv A outer s H E hr => ?_
  have T := def_tb (cdv := cdv) (f := f) (P := P) (w := w) (K := K) (mg := mg) (base := base) (A := A) (outer := outer) (s := s) (H := H) (E := E) (qual := "is_whole") (sc := defScope s_is_whole) (N := ["thing"]) (G := ["isinstance", "int", "bool"]) hr (by decide +kernel)
  exact (Z.es_one (Z.es_ret (Z.ev_and (Z.ev_isi_int T 0 rfl b_isinstance T 1 rfl b_int (Z.EvE.b (Z.ev_name T 0 rfl))) (Z.ev_one (Z.ev_not (Z.ev_isi_bool T 0 rfl b_isinstance T 2 rfl b_bool (Z.EvE.b (Z.ev_name T 0 rfl))))))))
theorem S_is_move : FnScope ["thing", "place"] ["thing", "place"] (defScope s_is_move) := ⟨rfl, rfl, rfl, by decide +kernel, rfl, by decide +kernel, by decide +kernel⟩
theorem D_is_move {P : Program} {w : World} {K : PySem.W.Frag} {mg : Str → Option Value} {base : Heap} {f : Addr} {fd : FuncData} {k : Nat} (W_is_move : Fun K "is_move" "is_move" s_is_move f fd) {f_is_whole : Addr} {d_is_whole : FuncData} {F_is_whole : List PyData → R PyData} (C_is_whole : FnOk P w K mg base CX0 k f_is_whole d_is_whole ["thing"] (spD F_is_whole 1)) (m_is_whole : mg "is_whole" = some (.ref f_is_whole)) (K_is_whole : PySem.W.keepIn K (.ref f_is_whole) = true) (B_is_whole : Binds K d_is_whole ["thing"] []) {t_GOALS : Tok} (g_GOALS : mg "GOALS" = some (.int 3 t_GOALS)) :
    FnOk P w K mg base CX0 (k + 1) f fd ["thing", "place"] (spD (fnR 2 (M_is_move F_is_whole)) 2) := by
  refine Z.fn_data W_is_move S_is_move fun cdv A outer s H E hr => ?_
  have T := def_tb (cdv := cdv) (f := f) (P := P) (w := w) (K := K) (mg := mg) (base := base) (A := A) (outer := outer) (s := s) (H := H) (E := E) (qual := "is_move") (sc := defScope s_is_move) (N := ["thing", "place"]) (G := ["is_whole", "GOALS"]) hr (by decide +kernel)
  have hr_is_whole := hr
  exact (Z.es_one (Z.es_ret (Z.ev_or (Z.ev_isN (Z.EvE.b (Z.ev_name T 0 rfl)) (Z.EvE.b Z.ev_none)) (Z.ev_one (Z.ev_and (Z.ev_call C_is_whole hr_is_whole T 0 rfl m_is_whole K_is_whole B_is_whole (Z.ea_cons (Z.ev_name T 0 rfl) Z.ea_nil) rfl (aCons_len aNil_len)) (Z.ev_one (Z.ev_in T.hu (Z.EvE.b (Z.ev_name T 0 rfl)) (Z.EvE.b (Z.ev_ix T.hu (Z.EvE.b (Z.ev_name T 1 rfl)) (Z.EvE.b (Z.ev_gint T 1 rfl g_GOALS)) (fun _ _ => rfl))) (by with_unfolding_all rfl))))))))
theorem S_are_moves : FnScope ["thing", "ground"] ["thing", "ground"] (defScope s_are_moves) := ⟨rfl, rfl, rfl, by decide +kernel, rfl, by decide +kernel, by decide +kernel⟩
theorem D_are_moves {P : Program} {w : World} {K : PySem.W.Frag} {mg : Str → Option Value} {base : Heap} {f : Addr} {fd : FuncData} {k : Nat} (W_are_moves : Fun K "are_moves" "are_moves" s_are_moves f fd) {f_is_move : Addr} {d_is_move : FuncData} {F_is_move : List PyData → R PyData} (C_is_move : FnOk P w K mg base CX0 k f_is_move d_is_move ["thing", "place"] (spD F_is_move 2)) (m_is_move : mg "is_move" = some (.ref f_is_move)) (K_is_move : PySem.W.keepIn K (.ref f_is_move) = true) (B_is_move : Binds K d_is_move ["thing", "place"] []) (b_all : mg "all" = none) (b_isinstance : mg "isinstance" = none) (b_len : mg "len" = none) (b_tuple : mg "tuple" = none) (b_zip : mg "zip" = none) :
    FnOk P w K mg base CX0 (k + 1) f fd ["thing", "ground"] (spD (fnR 2 (M_are_moves F_is_move)) 2) := by
  refine Z.fn_data W_are_moves S_are_moves fun cdv A outer s H E hr => ?_
  have T := def_tb (cdv := cdv) (f := f) (P := P) (w := w) (K := K) (mg := mg) (base := base) (A := A) (outer := outer) (s := s) (H := H) (E := E) (qual := "are_moves") (sc := defScope s_are_moves) (N := ["thing", "ground"]) (G := ["isinstance", "tuple", "len", "all", "zip"]) hr (by decide +kernel)
  have hr_is_move := hr
  exact (Z.es_cons (Z.es_if (Z.EvW.t (Z.evw_or (Z.evt_not (Z.evt_val (Z.ev_isi_tuple T 0 rfl b_isinstance T 1 rfl b_tuple (Z.EvE.b (Z.ev_name T 0 rfl))))) (Z.evw_or1 (Z.evt_ne T.hu (Z.EvE.b (Z.ev_len T 2 rfl b_len (Z.EvE.b (Z.ev_name T 0 rfl)))) (Z.EvE.b (Z.ev_len T 2 rfl b_len (Z.EvE.b (Z.ev_name T 1 rfl)))))))) (Z.es_one (Z.es_ret Z.ev_bool)) Z.es_nil)
      (Z.es_one (Z.es_ret (Z.ev_all T 3 rfl b_all (Z.EvN.b (Z.evn_compD (N := ["move", "place"]) (own := 2) (G := ["is_move"]) (fr := []) T rfl rfl (oN := ["thing", "ground"]) (on := (defScope s_are_moves).names) (by decide +kernel) (Z.ei_zip T 4 rfl b_zip (Z.ev_name T 0 rfl) (Z.ev_name T 1 rfl)) (fits_pair (by decide) (by decide)) (fun cl C s' H' fp T => ⟨(Z.eg_pair T 0 1 rfl rfl), Z.ec_nil, (Z.ev_call C_is_move hr_is_move T 0 rfl m_is_move K_is_move B_is_move (Z.ea_cons (Z.ev_name T 0 rfl) (Z.ea_cons (Z.ev_name T 1 rfl) Z.ea_nil)) rfl (aCons_len (aCons_len aNil_len)))⟩)))))))
theorem S_is_between : FnScope ["thing", "low", "high"] ["thing", "low", "high"] (defScope s_is_between) := ⟨rfl, rfl, rfl, by decide +kernel, rfl, by decide +kernel, by decide +kernel⟩
theorem D_is_between {P : Program} {w : World} {K : PySem.W.Frag} {mg : Str → Option Value} {base : Heap} {f : Addr} {fd : FuncData} {k : Nat} (W_is_between : Fun K "is_between" "is_between" s_is_between f fd) {f_is_whole : Addr} {d_is_whole : FuncData} {F_is_whole : List PyData → R PyData} (C_is_whole : FnOk P w K mg base CX0 k f_is_whole d_is_whole ["thing"] (spD F_is_whole 1)) (m_is_whole : mg "is_whole" = some (.ref f_is_whole)) (K_is_whole : PySem.W.keepIn K (.ref f_is_whole) = true) (B_is_whole : Binds K d_is_whole ["thing"] []) :
    FnOk P w K mg base CX0 (k + 1) f fd ["thing", "low", "high"] (spD (fnR 3 (M_is_between F_is_whole)) 3) := by
  refine Z.fn_data W_is_between S_is_between fun cdv A outer s H E hr => ?_
  have T := def_tb (cdv := cdv) (f := f) (P := P) (w := w) (K := K) (mg := mg) (base := base) (A := A) (outer := outer) (s := s) (H := H) (E := E) (qual := "is_between") (sc := defScope s_is_between) (N := ["thing", "low", "high"]) (G := ["is_whole"]) hr (by decide +kernel)
  have hr_is_whole := hr
  exact (Z.es_one (Z.es_ret (Z.ev_and (Z.ev_call C_is_whole hr_is_whole T 0 rfl m_is_whole K_is_whole B_is_whole (Z.ea_cons (Z.ev_name T 0 rfl) Z.ea_nil) rfl (aCons_len aNil_len)) (Z.ev_one (Z.ev_chain op_le sv_cmp op_le sv_cmp (Z.EvE.b (Z.ev_name T 1 rfl)) (Z.EvE.b (Z.ev_name T 0 rfl)) (Z.EvE.b (Z.ev_name T 2 rfl)))))))
theorem S_are_some : FnScope ["thing", "count", "least", "number"] ["thing", "count"] (defScope s_are_some) := ⟨rfl, rfl, rfl, by decide +kernel, rfl, by decide +kernel, by decide +kernel⟩
theorem D_are_some {P : Program} {w : World} {K : PySem.W.Frag} {mg : Str → Option Value} {base : Heap} {f : Addr} {fd : FuncData} {k : Nat} (W_are_some : Fun K "are_some" "are_some" s_are_some f fd) {f_is_between : Addr} {d_is_between : FuncData} {F_is_between : List PyData → R PyData} (C_is_between : FnOk P w K mg base CX0 k f_is_between d_is_between ["thing", "low", "high"] (spD F_is_between 3)) (m_is_between : mg "is_between" = some (.ref f_is_between)) (K_is_between : PySem.W.keepIn K (.ref f_is_between) = true) (B_is_between : Binds K d_is_between ["thing", "low", "high"] []) (b_isinstance : mg "isinstance" = none) (b_tuple : mg "tuple" = none) :
    FnOk P w K mg base CX0 (k + 1) f fd ["thing", "count"] (spD (fnR 4 (M_are_some F_is_between)) 2) := by
  refine Z.fn_data W_are_some S_are_some fun cdv A outer s H E hr => ?_
  have T := def_tb (cdv := cdv) (f := f) (P := P) (w := w) (K := K) (mg := mg) (base := base) (A := A) (outer := outer) (s := s) (H := H) (E := E) (qual := "are_some") (sc := defScope s_are_some) (N := ["thing", "count", "least", "number"]) (G := ["isinstance", "tuple", "is_between"]) hr (by decide +kernel)
  have hr_is_between := hr
  exact (Z.es_cons (Z.es_if (Z.evt_not (Z.evt_val (Z.ev_isi_tuple T 0 rfl b_isinstance T 1 rfl b_tuple (Z.EvE.b (Z.ev_name T 0 rfl))))) (Z.es_one (Z.es_ret Z.ev_bool)) Z.es_nil)
      (Z.es_cons (Z.es_set T 2 rfl Z.ev_int)
      (Z.es_cons (Z.es_for PassesOwn.never T.calm (Z.ei_seq (Z.ev_name T 0 rfl)) (Z.eg_name T 3 rfl) (Z.es_cons (Z.es_if (Z.evt_not (Z.evt_val (Z.ev_call C_is_between hr_is_between T 2 rfl m_is_between K_is_between B_is_between (Z.ea_cons (Z.ev_name T 3 rfl) (Z.ea_cons (Z.ev_name T 2 rfl) (Z.ea_cons (Z.ev_sub (Z.EvE.b (Z.ev_name T 1 rfl)) (Z.EvE.b Z.ev_int)) Z.ea_nil))) rfl (aCons_len (aCons_len (aCons_len aNil_len)))))) (Z.es_one (Z.es_ret Z.ev_bool)) Z.es_nil)
      (Z.es_one (Z.es_set T 2 rfl (Z.ev_add (Z.EvE.b (Z.ev_name T 3 rfl)) (Z.EvE.b Z.ev_int))))))
      (Z.es_one (Z.es_ret Z.ev_bool)))))
theorem S_law : FnScope ["_law_script", "_law_ground_here", "_law_some_here", "_law_moves_here", "_law_count"] ["_law_script"] (defScope s_law) := ⟨rfl, rfl, rfl, by decide +kernel, rfl, by decide +kernel, by decide +kernel⟩
theorem D_law {P : Program} {w : World} {K : PySem.W.Frag} {mg : Str → Option Value} {base : Heap} {f : Addr} {fd : FuncData} {k : Nat} (W_law : Fun K "law" "law" s_law f fd) {f_law_ground : Addr} {d_law_ground : FuncData} {F_law_ground : List PyData → R PyData} (C_law_ground : FnOk P w K mg base CX0 k f_law_ground d_law_ground ["_law_script", "_law_most"] (spD F_law_ground 2)) (m_law_ground : mg "_law_ground" = some (.ref f_law_ground)) (K_law_ground : PySem.W.keepIn K (.ref f_law_ground) = true) (B_law_ground : Binds K d_law_ground ["_law_script", "_law_most"] []) {f_law_mixed : Addr} {d_law_mixed : FuncData} {F_law_mixed : List PyData → R PyData} (C_law_mixed : FnOk P w K mg base CX0 k f_law_mixed d_law_mixed ["_law_script", "_law_k"] (spD F_law_mixed 2)) (m_law_mixed : mg "_law_mixed" = some (.ref f_law_mixed)) (K_law_mixed : PySem.W.keepIn K (.ref f_law_mixed) = true) (B_law_mixed : Binds K d_law_mixed ["_law_script", "_law_k"] []) {f_law_moves : Addr} {d_law_moves : FuncData} {F_law_moves : List PyData → R PyData} (C_law_moves : FnOk P w K mg base CX0 k f_law_moves d_law_moves ["_law_ground_here", "_law_number"] (spD F_law_moves 2)) (m_law_moves : mg "_law_moves" = some (.ref f_law_moves)) (K_law_moves : PySem.W.keepIn K (.ref f_law_moves) = true) (B_law_moves : Binds K d_law_moves ["_law_ground_here", "_law_number"] []) {f_law_moves_good : Addr} {d_law_moves_good : FuncData} {F_law_moves_good : List PyData → R PyData} (C_law_moves_good : FnOk P w K mg base CX0 k f_law_moves_good d_law_moves_good ["_law_moves_here", "_law_ground_here"] (spD F_law_moves_good 2)) (m_law_moves_good : mg "_law_moves_good" = some (.ref f_law_moves_good)) (K_law_moves_good : PySem.W.keepIn K (.ref f_law_moves_good) = true) (B_law_moves_good : Binds K d_law_moves_good ["_law_moves_here", "_law_ground_here"] []) {f_law_rising : Addr} {d_law_rising : FuncData} {F_law_rising : List PyData → R PyData} (C_law_rising : FnOk P w K mg base CX0 k f_law_rising d_law_rising ["_law_found", "_law_count"] (spD F_law_rising 2)) (m_law_rising : mg "_law_rising" = some (.ref f_law_rising)) (K_law_rising : PySem.W.keepIn K (.ref f_law_rising) = true) (B_law_rising : Binds K d_law_rising ["_law_found", "_law_count"] []) {f_law_same : Addr} {d_law_same : FuncData} {F_law_same : List PyData → R PyData} (C_law_same : FnOk P w K mg base CX0 k f_law_same d_law_same ["_law_found", "_law_due"] (spD F_law_same 2)) (m_law_same : mg "_law_same" = some (.ref f_law_same)) (K_law_same : PySem.W.keepIn K (.ref f_law_same) = true) (B_law_same : Binds K d_law_same ["_law_found", "_law_due"] []) {f_law_some : Addr} {d_law_some : FuncData} {F_law_some : List PyData → R PyData} (C_law_some : FnOk P w K mg base CX0 k f_law_some d_law_some ["_law_number", "_law_count"] (spD F_law_some 2)) (m_law_some : mg "_law_some" = some (.ref f_law_some)) (K_law_some : PySem.W.keepIn K (.ref f_law_some) = true) (B_law_some : Binds K d_law_some ["_law_number", "_law_count"] []) {f_law_spoilt : Addr} {d_law_spoilt : FuncData} {F_law_spoilt : List PyData → R PyData} (C_law_spoilt : FnOk P w K mg base CX0 k f_law_spoilt d_law_spoilt ["_law_thing", "_law_number", "_law_deep"] (spD F_law_spoilt 3)) (m_law_spoilt : mg "_law_spoilt" = some (.ref f_law_spoilt)) (K_law_spoilt : PySem.W.keepIn K (.ref f_law_spoilt) = true) (B_law_spoilt : Binds K d_law_spoilt ["_law_thing", "_law_number", "_law_deep"] []) {f_are_moves : Addr} {d_are_moves : FuncData} {F_are_moves : List PyData → R PyData} (C_are_moves : FnOk P w K mg base CX0 k f_are_moves d_are_moves ["thing", "ground"] (spD F_are_moves 2)) (m_are_moves : mg "are_moves" = some (.ref f_are_moves)) (K_are_moves : PySem.W.keepIn K (.ref f_are_moves) = true) (B_are_moves : Binds K d_are_moves ["thing", "ground"] []) {f_are_some : Addr} {d_are_some : FuncData} {F_are_some : List PyData → R PyData} (C_are_some : FnOk P w K mg base CX0 k f_are_some d_are_some ["thing", "count"] (spD F_are_some 2)) (m_are_some : mg "are_some" = some (.ref f_are_some)) (K_are_some : PySem.W.keepIn K (.ref f_are_some) = true) (B_are_some : Binds K d_are_some ["thing", "count"] []) (b_len : mg "len" = none) :
    FnOk P w K mg base CX0 (k + 1) f fd ["_law_script"] (spD (fnR 5 (M_law F_law_ground F_law_mixed F_law_moves F_law_moves_good F_law_rising F_law_same F_law_some F_law_spoilt F_are_moves F_are_some)) 1) := by
  refine Z.fn_data W_law S_law fun cdv A outer s H E hr => ?_
  have T := def_tb (cdv := cdv) (f := f) (P := P) (w := w) (K := K) (mg := mg) (base := base) (A := A) (outer := outer) (s := s) (H := H) (E := E) (qual := "law") (sc := defScope s_law) (N := ["_law_script", "_law_ground_here", "_law_some_here", "_law_moves_here", "_law_count"]) (G := ["_law_ground", "_law_some", "_law_mixed", "len", "_law_moves", "_law_spoilt", "_law_same", "are_some", "_law_rising", "are_moves", "_law_moves_good"]) hr (by decide +kernel)
  have hr_law_ground := hr
  have hr_law_mixed := hr
  have hr_law_moves := hr
  have hr_law_moves_good := hr
  have hr_law_rising := hr
  have hr_law_same := hr
  have hr_law_some := hr
  have hr_law_spoilt := hr
  have hr_are_moves := hr
  have hr_are_some := hr
  exact (Z.es_cons (Z.es_set T 1 rfl (Z.ev_call C_law_ground hr_law_ground T 0 rfl m_law_ground K_law_ground B_law_ground (Z.ea_cons (Z.ev_name T 0 rfl) (Z.ea_cons Z.ev_int Z.ea_nil)) rfl (aCons_len (aCons_len aNil_len))))
      (Z.es_cons (Z.es_set T 2 rfl (Z.ev_call C_law_some hr_law_some T 1 rfl m_law_some K_law_some B_law_some (Z.ea_cons (Z.ev_call C_law_mixed hr_law_mixed T 2 rfl m_law_mixed K_law_mixed B_law_mixed (Z.ea_cons (Z.ev_name T 0 rfl) (Z.ea_cons Z.ev_int Z.ea_nil)) rfl (aCons_len (aCons_len aNil_len))) (Z.ea_cons (Z.ev_len T 3 rfl b_len (Z.EvE.b (Z.ev_name T 1 rfl))) Z.ea_nil)) rfl (aCons_len (aCons_len aNil_len))))
      (Z.es_cons (Z.es_set T 3 rfl (Z.ev_call C_law_moves hr_law_moves T 4 rfl m_law_moves K_law_moves B_law_moves (Z.ea_cons (Z.ev_name T 1 rfl) (Z.ea_cons (Z.ev_call C_law_mixed hr_law_mixed T 2 rfl m_law_mixed K_law_mixed B_law_mixed (Z.ea_cons (Z.ev_name T 0 rfl) (Z.ea_cons Z.ev_int Z.ea_nil)) rfl (aCons_len (aCons_len aNil_len))) Z.ea_nil)) rfl (aCons_len (aCons_len aNil_len))))
      (Z.es_cons (Z.es_if (Z.evt_eq T.hu (Z.EvE.b (Z.ev_mod (Z.EvE.b (Z.ev_call C_law_mixed hr_law_mixed T 2 rfl m_law_mixed K_law_mixed B_law_mixed (Z.ea_cons (Z.ev_name T 0 rfl) (Z.ea_cons Z.ev_int Z.ea_nil)) rfl (aCons_len (aCons_len aNil_len)))) (Z.EvE.b Z.ev_int))) (Z.EvE.b Z.ev_int)) (Z.es_one (Z.es_set T 2 rfl (Z.ev_call C_law_spoilt hr_law_spoilt T 5 rfl m_law_spoilt K_law_spoilt B_law_spoilt (Z.ea_cons (Z.ev_name T 2 rfl) (Z.ea_cons (Z.ev_call C_law_mixed hr_law_mixed T 2 rfl m_law_mixed K_law_mixed B_law_mixed (Z.ea_cons (Z.ev_name T 0 rfl) (Z.ea_cons Z.ev_int Z.ea_nil)) rfl (aCons_len (aCons_len aNil_len))) (Z.ea_cons (Z.ev_mod (Z.EvE.b (Z.ev_div (Z.EvE.b (Z.ev_call C_law_mixed hr_law_mixed T 2 rfl m_law_mixed K_law_mixed B_law_mixed (Z.ea_cons (Z.ev_name T 0 rfl) (Z.ea_cons Z.ev_int Z.ea_nil)) rfl (aCons_len (aCons_len aNil_len)))) (Z.EvE.b Z.ev_int))) (Z.EvE.b Z.ev_int)) Z.ea_nil))) rfl (aCons_len (aCons_len (aCons_len aNil_len)))))) Z.es_nil)
      (Z.es_cons (Z.es_if (Z.evt_eq T.hu (Z.EvE.b (Z.ev_mod (Z.EvE.b (Z.ev_call C_law_mixed hr_law_mixed T 2 rfl m_law_mixed K_law_mixed B_law_mixed (Z.ea_cons (Z.ev_name T 0 rfl) (Z.ea_cons Z.ev_int Z.ea_nil)) rfl (aCons_len (aCons_len aNil_len)))) (Z.EvE.b Z.ev_int))) (Z.EvE.b Z.ev_int)) (Z.es_one (Z.es_set T 3 rfl (Z.ev_call C_law_spoilt hr_law_spoilt T 5 rfl m_law_spoilt K_law_spoilt B_law_spoilt (Z.ea_cons (Z.ev_name T 3 rfl) (Z.ea_cons (Z.ev_call C_law_mixed hr_law_mixed T 2 rfl m_law_mixed K_law_mixed B_law_mixed (Z.ea_cons (Z.ev_name T 0 rfl) (Z.ea_cons Z.ev_int Z.ea_nil)) rfl (aCons_len (aCons_len aNil_len))) (Z.ea_cons (Z.ev_mod (Z.EvE.b (Z.ev_div (Z.EvE.b (Z.ev_call C_law_mixed hr_law_mixed T 2 rfl m_law_mixed K_law_mixed B_law_mixed (Z.ea_cons (Z.ev_name T 0 rfl) (Z.ea_cons Z.ev_int Z.ea_nil)) rfl (aCons_len (aCons_len aNil_len)))) (Z.EvE.b Z.ev_int))) (Z.EvE.b Z.ev_int)) Z.ea_nil))) rfl (aCons_len (aCons_len (aCons_len aNil_len)))))) Z.es_nil)
      (Z.es_cons (Z.es_set T 4 rfl (Z.ev_add (Z.EvE.b Z.ev_int) (Z.EvE.b (Z.ev_mod (Z.EvE.b (Z.ev_add (Z.EvE.b (Z.ev_add (Z.EvE.b (Z.ev_len T 3 rfl b_len (Z.EvE.b (Z.ev_name T 1 rfl)))) (Z.EvE.b (Z.ev_mod (Z.EvE.b (Z.ev_call C_law_mixed hr_law_mixed T 2 rfl m_law_mixed K_law_mixed B_law_mixed (Z.ea_cons (Z.ev_name T 0 rfl) (Z.ea_cons Z.ev_int Z.ea_nil)) rfl (aCons_len (aCons_len aNil_len)))) (Z.EvE.b Z.ev_int))))) (Z.EvE.b Z.ev_int))) (Z.EvE.b Z.ev_int)))))
      (Z.es_one (Z.es_ret (Z.ev_and (Z.ev_call C_law_same hr_law_same T 6 rfl m_law_same K_law_same B_law_same (Z.ea_cons (Z.ev_call C_are_some hr_are_some T 7 rfl m_are_some K_are_some B_are_some (Z.ea_cons (Z.ev_name T 2 rfl) (Z.ea_cons (Z.ev_name T 4 rfl) Z.ea_nil)) rfl (aCons_len (aCons_len aNil_len))) (Z.ea_cons (Z.ev_call C_law_rising hr_law_rising T 8 rfl m_law_rising K_law_rising B_law_rising (Z.ea_cons (Z.ev_name T 2 rfl) (Z.ea_cons (Z.ev_name T 4 rfl) Z.ea_nil)) rfl (aCons_len (aCons_len aNil_len))) Z.ea_nil)) rfl (aCons_len (aCons_len aNil_len))) (Z.ev_one (Z.ev_call C_law_same hr_law_same T 6 rfl m_law_same K_law_same B_law_same (Z.ea_cons (Z.ev_call C_are_moves hr_are_moves T 9 rfl m_are_moves K_are_moves B_are_moves (Z.ea_cons (Z.ev_name T 3 rfl) (Z.ea_cons (Z.ev_name T 1 rfl) Z.ea_nil)) rfl (aCons_len (aCons_len aNil_len))) (Z.ea_cons (Z.ev_call C_law_moves_good hr_law_moves_good T 10 rfl m_law_moves_good K_law_moves_good B_law_moves_good (Z.ea_cons (Z.ev_name T 3 rfl) (Z.ea_cons (Z.ev_name T 1 rfl) Z.ea_nil)) rfl (aCons_len (aCons_len aNil_len))) Z.ea_nil)) rfl (aCons_len (aCons_len aNil_len)))))))))))))
end G
set_option Elab.async false
set_option linter.all false
set_option maxRecDepth 100000
set_option maxHeartbeats 4000000
namespace G
open PySem PySem.Spec PyProof.Rows L2 D2
theorem all_mk {l : PySem.W.OpenLaw} {w : World} {K : PySem.W.Frag} {h : Heap} {mg : Str → Option Value} {fa : Addr} (X : K.In h) (G : h.Ns mainGlobals mg) (hfa : mg "law" = some (.ref fa))
    {f0 : Addr} {od0 an0 : Option Addr} {sl0 : Array (Option Value)} {oc0 kV0 dc0 pm0 cd0 ct0 : Value}
    {f1 : Addr} {od1 an1 : Option Addr} {sl1 : Array (Option Value)} {oc1 kV1 dc1 pm1 cd1 ct1 : Value}
    {f2 : Addr} {od2 an2 : Option Addr} {sl2 : Array (Option Value)} {oc2 kV2 dc2 pm2 cd2 ct2 : Value}
    {f3 : Addr} {od3 an3 : Option Addr} {sl3 : Array (Option Value)} {oc3 kV3 dc3 pm3 cd3 ct3 : Value}
    {f4 : Addr} {od4 an4 : Option Addr} {sl4 : Array (Option Value)} {oc4 kV4 dc4 pm4 cd4 ct4 : Value}
    {f5 : Addr} {od5 an5 : Option Addr} {sl5 : Array (Option Value)} {oc5 kV5 dc5 pm5 cd5 ct5 : Value}
    {f6 : Addr} {od6 an6 : Option Addr} {sl6 : Array (Option Value)} {oc6 kV6 dc6 pm6 cd6 ct6 : Value}
    {f7 : Addr} {od7 an7 : Option Addr} {sl7 : Array (Option Value)} {oc7 kV7 dc7 pm7 cd7 ct7 : Value}
    {f8 : Addr} {od8 an8 : Option Addr} {sl8 : Array (Option Value)} {oc8 kV8 dc8 pm8 cd8 ct8 : Value}
    {f9 : Addr} {od9 an9 : Option Addr} {sl9 : Array (Option Value)} {oc9 kV9 dc9 pm9 cd9 ct9 : Value}
    {f10 : Addr} {od10 an10 : Option Addr} {sl10 : Array (Option Value)} {oc10 kV10 dc10 pm10 cd10 ct10 : Value}
    {f11 : Addr} {od11 an11 : Option Addr} {sl11 : Array (Option Value)} {oc11 kV11 dc11 pm11 cd11 ct11 : Value}
    {f12 : Addr} {od12 an12 : Option Addr} {sl12 : Array (Option Value)} {oc12 kV12 dc12 pm12 cd12 ct12 : Value}
    {f13 : Addr} {od13 an13 : Option Addr} {sl13 : Array (Option Value)} {oc13 kV13 dc13 pm13 cd13 ct13 : Value}
    {f14 : Addr} {od14 an14 : Option Addr} {sl14 : Array (Option Value)} {oc14 kV14 dc14 pm14 cd14 ct14 : Value}
    {f15 : Addr} {od15 an15 : Option Addr} {sl15 : Array (Option Value)} {oc15 kV15 dc15 pm15 cd15 ct15 : Value}
    {f16 : Addr} {od16 an16 : Option Addr} {sl16 : Array (Option Value)} {oc16 kV16 dc16 pm16 cd16 ct16 : Value}
    {f17 : Addr} {od17 an17 : Option Addr} {sl17 : Array (Option Value)} {oc17 kV17 dc17 pm17 cd17 ct17 : Value}
    {f18 : Addr} {od18 an18 : Option Addr} {sl18 : Array (Option Value)} {oc18 kV18 dc18 pm18 cd18 ct18 : Value}
    (a0 : PySem.W.nsIn K mainGlobals "_law_cell_at" = some (some (.ref f0))) (l0 : K.lookup f0 = some ⟨oc0, od0, .func (PySem.W.fnOf "_law_cell_at" "_law_cell_at" (defArgs s_law_cell_at) (defBody s_law_cell_at) (defScope s_law_cell_at) .none kV0 dc0 pm0 an0 cd0 ct0), sl0⟩) (c0 : PySem.W.codeIn K cd0 "_law_cell_at" = true) (k0 : PySem.W.keepIn K (.ref f0) = true)
    (a1 : PySem.W.nsIn K mainGlobals "_law_mixed" = some (some (.ref f1))) (l1 : K.lookup f1 = some ⟨oc1, od1, .func (PySem.W.fnOf "_law_mixed" "_law_mixed" (defArgs s_law_mixed) (defBody s_law_mixed) (defScope s_law_mixed) .none kV1 dc1 pm1 an1 cd1 ct1), sl1⟩) (c1 : PySem.W.codeIn K cd1 "_law_mixed" = true) (k1 : PySem.W.keepIn K (.ref f1) = true)
    (a2 : PySem.W.nsIn K mainGlobals "_law_drawn" = some (some (.ref f2))) (l2 : K.lookup f2 = some ⟨oc2, od2, .func (PySem.W.fnOf "_law_drawn" "_law_drawn" (defArgs s_law_drawn) (defBody s_law_drawn) (defScope s_law_drawn) .none kV2 dc2 pm2 an2 cd2 ct2), sl2⟩) (c2 : PySem.W.codeIn K cd2 "_law_drawn" = true) (k2 : PySem.W.keepIn K (.ref f2) = true)
    (a3 : PySem.W.nsIn K mainGlobals "_law_goals" = some (some (.ref f3))) (l3 : K.lookup f3 = some ⟨oc3, od3, .func (PySem.W.fnOf "_law_goals" "_law_goals" (defArgs s_law_goals) (defBody s_law_goals) (defScope s_law_goals) .none kV3 dc3 pm3 an3 cd3 ct3), sl3⟩) (c3 : PySem.W.codeIn K cd3 "_law_goals" = true) (k3 : PySem.W.keepIn K (.ref f3) = true)
    (a4 : PySem.W.nsIn K mainGlobals "_law_place" = some (some (.ref f4))) (l4 : K.lookup f4 = some ⟨oc4, od4, .func (PySem.W.fnOf "_law_place" "_law_place" (defArgs s_law_place) (defBody s_law_place) (defScope s_law_place) .none kV4 dc4 pm4 an4 cd4 ct4), sl4⟩) (c4 : PySem.W.codeIn K cd4 "_law_place" = true) (k4 : PySem.W.keepIn K (.ref f4) = true)
    (a5 : PySem.W.nsIn K mainGlobals "_law_ground" = some (some (.ref f5))) (l5 : K.lookup f5 = some ⟨oc5, od5, .func (PySem.W.fnOf "_law_ground" "_law_ground" (defArgs s_law_ground) (defBody s_law_ground) (defScope s_law_ground) .none kV5 dc5 pm5 an5 cd5 ct5), sl5⟩) (c5 : PySem.W.codeIn K cd5 "_law_ground" = true) (k5 : PySem.W.keepIn K (.ref f5) = true)
    (a6 : PySem.W.nsIn K mainGlobals "_law_moves" = some (some (.ref f6))) (l6 : K.lookup f6 = some ⟨oc6, od6, .func (PySem.W.fnOf "_law_moves" "_law_moves" (defArgs s_law_moves) (defBody s_law_moves) (defScope s_law_moves) .none kV6 dc6 pm6 an6 cd6 ct6), sl6⟩) (c6 : PySem.W.codeIn K cd6 "_law_moves" = true) (k6 : PySem.W.keepIn K (.ref f6) = true)
    (a7 : PySem.W.nsIn K mainGlobals "_law_moves_good" = some (some (.ref f7))) (l7 : K.lookup f7 = some ⟨oc7, od7, .func (PySem.W.fnOf "_law_moves_good" "_law_moves_good" (defArgs s_law_moves_good) (defBody s_law_moves_good) (defScope s_law_moves_good) .none kV7 dc7 pm7 an7 cd7 ct7), sl7⟩) (c7 : PySem.W.codeIn K cd7 "_law_moves_good" = true) (k7 : PySem.W.keepIn K (.ref f7) = true)
    (a8 : PySem.W.nsIn K mainGlobals "_law_rising" = some (some (.ref f8))) (l8 : K.lookup f8 = some ⟨oc8, od8, .func (PySem.W.fnOf "_law_rising" "_law_rising" (defArgs s_law_rising) (defBody s_law_rising) (defScope s_law_rising) .none kV8 dc8 pm8 an8 cd8 ct8), sl8⟩) (c8 : PySem.W.codeIn K cd8 "_law_rising" = true) (k8 : PySem.W.keepIn K (.ref f8) = true)
    (a9 : PySem.W.nsIn K mainGlobals "_law_same" = some (some (.ref f9))) (l9 : K.lookup f9 = some ⟨oc9, od9, .func (PySem.W.fnOf "_law_same" "_law_same" (defArgs s_law_same) (defBody s_law_same) (defScope s_law_same) .none kV9 dc9 pm9 an9 cd9 ct9), sl9⟩) (c9 : PySem.W.codeIn K cd9 "_law_same" = true) (k9 : PySem.W.keepIn K (.ref f9) = true)
    (a10 : PySem.W.nsIn K mainGlobals "_law_some" = some (some (.ref f10))) (l10 : K.lookup f10 = some ⟨oc10, od10, .func (PySem.W.fnOf "_law_some" "_law_some" (defArgs s_law_some) (defBody s_law_some) (defScope s_law_some) .none kV10 dc10 pm10 an10 cd10 ct10), sl10⟩) (c10 : PySem.W.codeIn K cd10 "_law_some" = true) (k10 : PySem.W.keepIn K (.ref f10) = true)
    (a11 : PySem.W.nsIn K mainGlobals "_law_odd" = some (some (.ref f11))) (l11 : K.lookup f11 = some ⟨oc11, od11, .func (PySem.W.fnOf "_law_odd" "_law_odd" (defArgs s_law_odd) (defBody s_law_odd) (defScope s_law_odd) .none kV11 dc11 pm11 an11 cd11 ct11), sl11⟩) (c11 : PySem.W.codeIn K cd11 "_law_odd" = true) (k11 : PySem.W.keepIn K (.ref f11) = true)
    (a12 : PySem.W.nsIn K mainGlobals "_law_spoilt" = some (some (.ref f12))) (l12 : K.lookup f12 = some ⟨oc12, od12, .func (PySem.W.fnOf "_law_spoilt" "_law_spoilt" (defArgs s_law_spoilt) (defBody s_law_spoilt) (defScope s_law_spoilt) .none kV12 dc12 pm12 an12 cd12 ct12), sl12⟩) (c12 : PySem.W.codeIn K cd12 "_law_spoilt" = true) (k12 : PySem.W.keepIn K (.ref f12) = true)
    (a13 : PySem.W.nsIn K mainGlobals "is_whole" = some (some (.ref f13))) (l13 : K.lookup f13 = some ⟨oc13, od13, .func (PySem.W.fnOf "is_whole" "is_whole" (defArgs s_is_whole) (defBody s_is_whole) (defScope s_is_whole) .none kV13 dc13 pm13 an13 cd13 ct13), sl13⟩) (c13 : PySem.W.codeIn K cd13 "is_whole" = true) (k13 : PySem.W.keepIn K (.ref f13) = true)
    (a14 : PySem.W.nsIn K mainGlobals "is_move" = some (some (.ref f14))) (l14 : K.lookup f14 = some ⟨oc14, od14, .func (PySem.W.fnOf "is_move" "is_move" (defArgs s_is_move) (defBody s_is_move) (defScope s_is_move) .none kV14 dc14 pm14 an14 cd14 ct14), sl14⟩) (c14 : PySem.W.codeIn K cd14 "is_move" = true) (k14 : PySem.W.keepIn K (.ref f14) = true)
    (a15 : PySem.W.nsIn K mainGlobals "are_moves" = some (some (.ref f15))) (l15 : K.lookup f15 = some ⟨oc15, od15, .func (PySem.W.fnOf "are_moves" "are_moves" (defArgs s_are_moves) (defBody s_are_moves) (defScope s_are_moves) .none kV15 dc15 pm15 an15 cd15 ct15), sl15⟩) (c15 : PySem.W.codeIn K cd15 "are_moves" = true) (k15 : PySem.W.keepIn K (.ref f15) = true)
    (a16 : PySem.W.nsIn K mainGlobals "is_between" = some (some (.ref f16))) (l16 : K.lookup f16 = some ⟨oc16, od16, .func (PySem.W.fnOf "is_between" "is_between" (defArgs s_is_between) (defBody s_is_between) (defScope s_is_between) .none kV16 dc16 pm16 an16 cd16 ct16), sl16⟩) (c16 : PySem.W.codeIn K cd16 "is_between" = true) (k16 : PySem.W.keepIn K (.ref f16) = true)
    (a17 : PySem.W.nsIn K mainGlobals "are_some" = some (some (.ref f17))) (l17 : K.lookup f17 = some ⟨oc17, od17, .func (PySem.W.fnOf "are_some" "are_some" (defArgs s_are_some) (defBody s_are_some) (defScope s_are_some) .none kV17 dc17 pm17 an17 cd17 ct17), sl17⟩) (c17 : PySem.W.codeIn K cd17 "are_some" = true) (k17 : PySem.W.keepIn K (.ref f17) = true)
    (a18 : PySem.W.nsIn K mainGlobals "law" = some (some (.ref f18))) (l18 : K.lookup f18 = some ⟨oc18, od18, .func (PySem.W.fnOf "law" "law" (defArgs s_law) (defBody s_law) (defScope s_law) .none kV18 dc18 pm18 an18 cd18 ct18), sl18⟩) (c18 : PySem.W.codeIn K cd18 "law" = true) (k18 : PySem.W.keepIn K (.ref f18) = true)
    {t0 : Tok} (qg0 : PySem.W.nsIn K mainGlobals "GOALS" = some (some (.int 3 t0)))
    (qz0 : PySem.W.nsIn K mainGlobals "all" = some none)
    (qz1 : PySem.W.nsIn K mainGlobals "bool" = some none)
    (qz2 : PySem.W.nsIn K mainGlobals "enumerate" = some none)
    (qz3 : PySem.W.nsIn K mainGlobals "int" = some none)
    (qz4 : PySem.W.nsIn K mainGlobals "isinstance" = some none)
    (qz5 : PySem.W.nsIn K mainGlobals "len" = some none)
    (qz6 : PySem.W.nsIn K mainGlobals "list" = some none)
    (qz7 : PySem.W.nsIn K mainGlobals "max" = some none)
    (qz8 : PySem.W.nsIn K mainGlobals "min" = some none)
    (qz9 : PySem.W.nsIn K mainGlobals "range" = some none)
    (qz10 : PySem.W.nsIn K mainGlobals "sorted" = some none)
    (qz11 : PySem.W.nsIn K mainGlobals "str" = some none)
    (qz12 : PySem.W.nsIn K mainGlobals "tuple" = some none)
    (qz13 : PySem.W.nsIn K mainGlobals "zip" = some none)
    (nl : noLists K = true) :
    noLists K = true ∧ ∃ fd : FuncData, (∀ (s : Shared) (v : Value), BindsTo s fd ⟨[v], []⟩ [("_law_script", v)]) ∧ ∀ base : Heap, K.In base → base.Ns mainGlobals mg → FnOk l.prog w K mg base CX0 11 fa fd ["_law_script"] (spD F_law 1) := by
  have e := hfa.symm.trans (PySem.W.mg_of X G a18)
  cases e
  have F0 := fun_mk (st := s_law_cell_at) l0 c0 k0
  have b0 := F0.binds (ps := ["_law_script", "_law_k"]) fun _ _ _ _ _ _ us hl => match us, hl with | [_, _], _ => rfl
  have m0 := PySem.W.mg_of X G a0
  have F1 := fun_mk (st := s_law_mixed) l1 c1 k1
  have b1 := F1.binds (ps := ["_law_script", "_law_k"]) fun _ _ _ _ _ _ us hl => match us, hl with | [_, _], _ => rfl
  have m1 := PySem.W.mg_of X G a1
  have F2 := fun_mk (st := s_law_drawn) l2 c2 k2
  have b2 := F2.binds (ps := ["_law_number", "_law_k"]) fun _ _ _ _ _ _ us hl => match us, hl with | [_, _], _ => rfl
  have m2 := PySem.W.mg_of X G a2
  have F3 := fun_mk (st := s_law_goals) l3 c3 k3
  have b3 := F3.binds (ps := ["_law_number", "_law_count"]) fun _ _ _ _ _ _ us hl => match us, hl with | [_, _], _ => rfl
  have m3 := PySem.W.mg_of X G a3
  have F4 := fun_mk (st := s_law_place) l4 c4 k4
  have b4 := F4.binds (ps := ["_law_number", "_law_count", "_law_high"]) fun _ _ _ _ _ _ us hl => match us, hl with | [_, _, _], _ => rfl
  have m4 := PySem.W.mg_of X G a4
  have F5 := fun_mk (st := s_law_ground) l5 c5 k5
  have b5 := F5.binds (ps := ["_law_script", "_law_most"]) fun _ _ _ _ _ _ us hl => match us, hl with | [_, _], _ => rfl
  have m5 := PySem.W.mg_of X G a5
  have F6 := fun_mk (st := s_law_moves) l6 c6 k6
  have b6 := F6.binds (ps := ["_law_ground_here", "_law_number"]) fun _ _ _ _ _ _ us hl => match us, hl with | [_, _], _ => rfl
  have m6 := PySem.W.mg_of X G a6
  have F7 := fun_mk (st := s_law_moves_good) l7 c7 k7
  have b7 := F7.binds (ps := ["_law_moves_here", "_law_ground_here"]) fun _ _ _ _ _ _ us hl => match us, hl with | [_, _], _ => rfl
  have m7 := PySem.W.mg_of X G a7
  have F8 := fun_mk (st := s_law_rising) l8 c8 k8
  have b8 := F8.binds (ps := ["_law_found", "_law_count"]) fun _ _ _ _ _ _ us hl => match us, hl with | [_, _], _ => rfl
  have m8 := PySem.W.mg_of X G a8
  have F9 := fun_mk (st := s_law_same) l9 c9 k9
  have b9 := F9.binds (ps := ["_law_found", "_law_due"]) fun _ _ _ _ _ _ us hl => match us, hl with | [_, _], _ => rfl
  have m9 := PySem.W.mg_of X G a9
  have F10 := fun_mk (st := s_law_some) l10 c10 k10
  have b10 := F10.binds (ps := ["_law_number", "_law_count"]) fun _ _ _ _ _ _ us hl => match us, hl with | [_, _], _ => rfl
  have m10 := PySem.W.mg_of X G a10
  have F11 := fun_mk (st := s_law_odd) l11 c11 k11
  have b11 := F11.binds (ps := ["_law_number"]) fun _ _ _ _ _ _ us hl => match us, hl with | [_], _ => rfl
  have m11 := PySem.W.mg_of X G a11
  have F12 := fun_mk (st := s_law_spoilt) l12 c12 k12
  have b12 := F12.binds (ps := ["_law_thing", "_law_number", "_law_deep"]) fun _ _ _ _ _ _ us hl => match us, hl with | [_, _, _], _ => rfl
  have m12 := PySem.W.mg_of X G a12
  have F13 := fun_mk (st := s_is_whole) l13 c13 k13
  have b13 := F13.binds (ps := ["thing"]) fun _ _ _ _ _ _ us hl => match us, hl with | [_], _ => rfl
  have m13 := PySem.W.mg_of X G a13
  have F14 := fun_mk (st := s_is_move) l14 c14 k14
  have b14 := F14.binds (ps := ["thing", "place"]) fun _ _ _ _ _ _ us hl => match us, hl with | [_, _], _ => rfl
  have m14 := PySem.W.mg_of X G a14
  have F15 := fun_mk (st := s_are_moves) l15 c15 k15
  have b15 := F15.binds (ps := ["thing", "ground"]) fun _ _ _ _ _ _ us hl => match us, hl with | [_, _], _ => rfl
  have m15 := PySem.W.mg_of X G a15
  have F16 := fun_mk (st := s_is_between) l16 c16 k16
  have b16 := F16.binds (ps := ["thing", "low", "high"]) fun _ _ _ _ _ _ us hl => match us, hl with | [_, _, _], _ => rfl
  have m16 := PySem.W.mg_of X G a16
  have F17 := fun_mk (st := s_are_some) l17 c17 k17
  have b17 := F17.binds (ps := ["thing", "count"]) fun _ _ _ _ _ _ us hl => match us, hl with | [_, _], _ => rfl
  have m17 := PySem.W.mg_of X G a17
  have F18 := fun_mk (st := s_law) l18 c18 k18
  have m18 := PySem.W.mg_of X G a18
  have h0 := PySem.W.mg_of X G qg0
  have y0 := PySem.W.mg_none_of X G qz0
  have y1 := PySem.W.mg_none_of X G qz1
  have y2 := PySem.W.mg_none_of X G qz2
  have y3 := PySem.W.mg_none_of X G qz3
  have y4 := PySem.W.mg_none_of X G qz4
  have y5 := PySem.W.mg_none_of X G qz5
  have y6 := PySem.W.mg_none_of X G qz6
  have y7 := PySem.W.mg_none_of X G qz7
  have y8 := PySem.W.mg_none_of X G qz8
  have y9 := PySem.W.mg_none_of X G qz9
  have y10 := PySem.W.mg_none_of X G qz10
  have y11 := PySem.W.mg_none_of X G qz11
  have y12 := PySem.W.mg_none_of X G qz12
  have y13 := PySem.W.mg_none_of X G qz13
  refine ⟨nl, PySem.W.fnOf "law" "law" (defArgs s_law) (defBody s_law) (defScope s_law) .none kV18 dc18 pm18 an18 cd18 ct18, fun s v => .of_eq rfl, fun base _ _ => ?_⟩
  have Q0 : FnOk l.prog w K mg base CX0 1 f0 _ ["_law_script", "_law_k"] (spD F_law_cell_at 2) := D_law_cell_at (k := 0) (W_law_cell_at := F0) (b_len := y5)
  have Q1 : FnOk l.prog w K mg base CX0 2 f1 _ ["_law_script", "_law_k"] (spD F_law_mixed 2) := D_law_mixed (k := 1) (W_law_mixed := F1) (C_law_cell_at := Q0.mono (by decide)) (m_law_cell_at := m0) (K_law_cell_at := k0) (B_law_cell_at := b0)
  have Q2 : FnOk l.prog w K mg base CX0 1 f2 _ ["_law_number", "_law_k"] (spD F_law_drawn 2) := D_law_drawn (k := 0) (W_law_drawn := F2)
  have Q3 : FnOk l.prog w K mg base CX0 2 f3 _ ["_law_number", "_law_count"] (spD F_law_goals 2) := D_law_goals (k := 1) (W_law_goals := F3) (C_law_drawn := Q2.mono (by decide)) (m_law_drawn := m2) (K_law_drawn := k2) (B_law_drawn := b2) (b_int := y3) (b_range := y9) (b_sorted := y10) (b_tuple := y12)
  have Q4 : FnOk l.prog w K mg base CX0 3 f4 _ ["_law_number", "_law_count", "_law_high"] (spD F_law_place 3) := D_law_place (k := 2) (W_law_place := F4) (C_law_drawn := Q2.mono (by decide)) (m_law_drawn := m2) (K_law_drawn := k2) (B_law_drawn := b2) (C_law_goals := Q3.mono (by decide)) (m_law_goals := m3) (K_law_goals := k3) (B_law_goals := b3)
  have Q5 : FnOk l.prog w K mg base CX0 4 f5 _ ["_law_script", "_law_most"] (spD F_law_ground 2) := D_law_ground (k := 3) (W_law_ground := F5) (C_law_mixed := Q1.mono (by decide)) (m_law_mixed := m1) (K_law_mixed := k1) (B_law_mixed := b1) (C_law_place := Q4.mono (by decide)) (m_law_place := m4) (K_law_place := k4) (B_law_place := b4) (b_len := y5) (b_max := y7) (b_min := y8) (b_range := y9) (b_tuple := y12)
  have Q6 : FnOk l.prog w K mg base CX0 2 f6 _ ["_law_ground_here", "_law_number"] (spD F_law_moves 2) := D_law_moves (k := 1) (W_law_moves := F6) (C_law_drawn := Q2.mono (by decide)) (m_law_drawn := m2) (K_law_drawn := k2) (B_law_drawn := b2) (b_enumerate := y2) (b_len := y5) (b_tuple := y12)
  have Q7 : FnOk l.prog w K mg base CX0 1 f7 _ ["_law_moves_here", "_law_ground_here"] (spD F_law_moves_good 2) := D_law_moves_good (k := 0) (W_law_moves_good := F7) (b_bool := y1) (b_int := y3) (b_isinstance := y4) (b_len := y5) (b_tuple := y12) (b_zip := y13)
  have Q8 : FnOk l.prog w K mg base CX0 1 f8 _ ["_law_found", "_law_count"] (spD F_law_rising 2) := D_law_rising (k := 0) (W_law_rising := F8) (b_bool := y1) (b_int := y3) (b_isinstance := y4) (b_tuple := y12)
  have Q9 : FnOk l.prog w K mg base CX0 1 f9 _ ["_law_found", "_law_due"] (spD F_law_same 2) := D_law_same (k := 0) (W_law_same := F9) (b_bool := y1) (b_isinstance := y4)
  have Q10 : FnOk l.prog w K mg base CX0 2 f10 _ ["_law_number", "_law_count"] (spD F_law_some 2) := D_law_some (k := 1) (W_law_some := F10) (C_law_drawn := Q2.mono (by decide)) (m_law_drawn := m2) (K_law_drawn := k2) (B_law_drawn := b2) (b_range := y9) (b_tuple := y12)
  have Q11 : FnOk l.prog w K mg base CX0 1 f11 _ ["_law_number"] (spD F_law_odd 1) := D_law_odd (k := 0) (W_law_odd := F11)
  have Q12 : ∀ n, n ≤ 8 → FnOk l.prog w K mg base CX0 (2 + n) f12 _ ["_law_thing", "_law_number", "_law_deep"] (spD (F_law_spoilt n) 3) := fun n => by
    induction n with
    | zero => exact fun _ => none_left
    | succ n ih => exact fun hn => D_law_spoilt (k := 2 + n) (W_law_spoilt := F12) (C_law_spoilt := ih (by omega)) (m_law_spoilt := m12) (K_law_spoilt := k12) (B_law_spoilt := b12) (C_law_odd := Q11.mono (by omega)) (m_law_odd := m11) (K_law_odd := k11) (B_law_odd := b11) (b_int := y3) (b_isinstance := y4) (b_len := y5) (b_list := y6) (b_str := y11) (b_tuple := y12)
  have Q12 := Q12 8 (Nat.le_refl _)
  have Q13 : FnOk l.prog w K mg base CX0 1 f13 _ ["thing"] (spD F_is_whole 1) := D_is_whole (k := 0) (W_is_whole := F13) (b_bool := y1) (b_int := y3) (b_isinstance := y4)
  have Q14 : FnOk l.prog w K mg base CX0 2 f14 _ ["thing", "place"] (spD F_is_move 2) := D_is_move (k := 1) (W_is_move := F14) (C_is_whole := Q13.mono (by decide)) (m_is_whole := m13) (K_is_whole := k13) (B_is_whole := b13) (g_GOALS := h0)
  have Q15 : FnOk l.prog w K mg base CX0 3 f15 _ ["thing", "ground"] (spD F_are_moves 2) := D_are_moves (k := 2) (W_are_moves := F15) (C_is_move := Q14.mono (by decide)) (m_is_move := m14) (K_is_move := k14) (B_is_move := b14) (b_all := y0) (b_isinstance := y4) (b_len := y5) (b_tuple := y12) (b_zip := y13)
  have Q16 : FnOk l.prog w K mg base CX0 2 f16 _ ["thing", "low", "high"] (spD F_is_between 3) := D_is_between (k := 1) (W_is_between := F16) (C_is_whole := Q13.mono (by decide)) (m_is_whole := m13) (K_is_whole := k13) (B_is_whole := b13)
  have Q17 : FnOk l.prog w K mg base CX0 3 f17 _ ["thing", "count"] (spD F_are_some 2) := D_are_some (k := 2) (W_are_some := F17) (C_is_between := Q16.mono (by decide)) (m_is_between := m16) (K_is_between := k16) (B_is_between := b16) (b_isinstance := y4) (b_tuple := y12)
  have Q18 : FnOk l.prog w K mg base CX0 11 fa _ ["_law_script"] (spD F_law 1) := D_law (k := 10) (W_law := F18) (C_law_ground := Q5.mono (by decide)) (m_law_ground := m5) (K_law_ground := k5) (B_law_ground := b5) (C_law_mixed := Q1.mono (by decide)) (m_law_mixed := m1) (K_law_mixed := k1) (B_law_mixed := b1) (C_law_moves := Q6.mono (by decide)) (m_law_moves := m6) (K_law_moves := k6) (B_law_moves := b6) (C_law_moves_good := Q7.mono (by decide)) (m_law_moves_good := m7) (K_law_moves_good := k7) (B_law_moves_good := b7) (C_law_rising := Q8.mono (by decide)) (m_law_rising := m8) (K_law_rising := k8) (B_law_rising := b8) (C_law_same := Q9.mono (by decide)) (m_law_same := m9) (K_law_same := k9) (B_law_same := b9) (C_law_some := Q10.mono (by decide)) (m_law_some := m10) (K_law_some := k10) (B_law_some := b10) (C_law_spoilt := Q12.mono (by decide)) (m_law_spoilt := m12) (K_law_spoilt := k12) (B_law_spoilt := b12) (C_are_moves := Q15.mono (by decide)) (m_are_moves := m15) (K_are_moves := k15) (B_are_moves := b15) (C_are_some := Q17.mono (by decide)) (m_are_some := m17) (K_are_some := k17) (B_are_some := b17) (b_len := y5)
  exact Q18
end G
set_option Elab.async false
set_option linter.all false
set_option maxRecDepth 100000
set_option maxHeartbeats 4000000
open PySem PySem.W PyProof.Rows
set_option maxRecDepth 100000 in
set_option maxHeartbeats 0 in
theorem PySem.Challenge.cw_duelground_k02_some_places_and_moves_holds : PySem.Challenge.rw_duelground_k02_some_places_and_moves.Holds := by
  w_on; o_law; k_head; (case hw => w_witness2)
  k_fill
  refine D2.walk (l := PySem.Challenge.rw_duelground_k02_some_places_and_moves) (k := 11) (x := "_law_script") (F := G.F_law) rfl rfl ⟨rfl, by decide, by decide⟩ (fun w h Y => PySem.W.kIn_of Y) G.law_true ?F
  case F =>
    intro w mg fa h KX GG hmg
    refine' G.all_mk KX GG hmg ?a0 ?l0 ?c0 ?k0 ?a1 ?l1 ?c1 ?k1 ?a2 ?l2 ?c2 ?k2 ?a3 ?l3 ?c3 ?k3 ?a4 ?l4 ?c4 ?k4 ?a5 ?l5 ?c5 ?k5 ?a6 ?l6 ?c6 ?k6 ?a7 ?l7 ?c7 ?k7 ?a8 ?l8 ?c8 ?k8 ?a9 ?l9 ?c9 ?k9 ?a10 ?l10 ?c10 ?k10 ?a11 ?l11 ?c11 ?k11 ?a12 ?l12 ?c12 ?k12 ?a13 ?l13 ?c13 ?k13 ?a14 ?l14 ?c14 ?k14 ?a15 ?l15 ?c15 ?k15 ?a16 ?l16 ?c16 ?k16 ?a17 ?l17 ?c17 ?k17 ?a18 ?l18 ?c18 ?k18 ?qg0 ?qz0 ?qz1 ?qz2 ?qz3 ?qz4 ?qz5 ?qz6 ?qz7 ?qz8 ?qz9 ?qz10 ?qz11 ?qz12 ?qz13 ?nl
    (case a0 => k_is)
    (case l0 => k_is)
    (case c0 => k_is)
    (case k0 => k_is)
    (case a1 => k_is)
    (case l1 => k_is)
    (case c1 => k_is)
    (case k1 => k_is)
    (case a2 => k_is)
    (case l2 => k_is)
    (case c2 => k_is)
    (case k2 => k_is)
    (case a3 => k_is)
    (case l3 => k_is)
    (case c3 => k_is)
    (case k3 => k_is)
    (case a4 => k_is)
    (case l4 => k_is)
    (case c4 => k_is)
    (case k4 => k_is)
    (case a5 => k_is)
    (case l5 => k_is)
    (case c5 => k_is)
    (case k5 => k_is)
    (case a6 => k_is)
    (case l6 => k_is)
    (case c6 => k_is)
    (case k6 => k_is)
    (case a7 => k_is)
    (case l7 => k_is)
    (case c7 => k_is)
    (case k7 => k_is)
    (case a8 => k_is)
    (case l8 => k_is)
    (case c8 => k_is)
    (case k8 => k_is)
    (case a9 => k_is)
    (case l9 => k_is)
    (case c9 => k_is)
    (case k9 => k_is)
    (case a10 => k_is)
    (case l10 => k_is)
    (case c10 => k_is)
    (case k10 => k_is)
    (case a11 => k_is)
    (case l11 => k_is)
    (case c11 => k_is)
    (case k11 => k_is)
    (case a12 => k_is)
    (case l12 => k_is)
    (case c12 => k_is)
    (case k12 => k_is)
    (case a13 => k_is)
    (case l13 => k_is)
    (case c13 => k_is)
    (case k13 => k_is)
    (case a14 => k_is)
    (case l14 => k_is)
    (case c14 => k_is)
    (case k14 => k_is)
    (case a15 => k_is)
    (case l15 => k_is)
    (case c15 => k_is)
    (case k15 => k_is)
    (case a16 => k_is)
    (case l16 => k_is)
    (case c16 => k_is)
    (case k16 => k_is)
    (case a17 => k_is)
    (case l17 => k_is)
    (case c17 => k_is)
    (case k17 => k_is)
    (case a18 => k_is)
    (case l18 => k_is)
    (case c18 => k_is)
    (case k18 => k_is)
    (case qg0 => k_is)
    (case qz0 => k_is)
    (case qz1 => k_is)
    (case qz2 => k_is)
    (case qz3 => k_is)
    (case qz4 => k_is)
    (case qz5 => k_is)
    (case qz6 => k_is)
    (case qz7 => k_is)
    (case qz8 => k_is)
    (case qz9 => k_is)
    (case qz10 => k_is)
    (case qz11 => k_is)
    (case qz12 => k_is)
    (case qz13 => k_is)
    (case nl => first | rfl | k_is | decide)

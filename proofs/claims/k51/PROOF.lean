import PyProof.Rows.All
import Wide.All
import OpenK.AllK
import Wide.FinOn
import Lean
import PyProof.EqAt
import PyProof.EqKinds
import PyProof.TupleCall
import PySem.Challenge.RW_duelground_k51_whole_plays
set_option Elab.async false
set_option linter.all false
set_option maxRecDepth 100000
namespace L2
open PySem PySem.Spec PyProof.Rows
abbrev cT := Sum Int Str
def n6 : cT → Value → Bool
  | .inl k, v => Value.isInt k v
  | .inr x, v => Value.isStrOf x v
def E9 (w : World) : cT → Int
  | .inl k => hashInt k
  | .inr x => hashStr w x
theorem cy : ∀ {k : cT} {v : Value}, n6 k v = true → (∃ i t, k = Sum.inl i ∧ v = Value.int i t) ∨ (∃ x t, k = Sum.inr x ∧ v = Value.str x t)
  | .inl i, v, h => by
    obtain ⟨t, e⟩ := Value.isInt_shape (k := i) (v := v) h
    exact .inl ⟨i, t, rfl, e⟩
  | .inr x, v, h => by
    obtain ⟨t, e⟩ := Value.isStrOf_shape (x := x) (v := v) h
    exact .inr ⟨x, t, rfl, e⟩
theorem wZ (i : Int) (t : Tok) : n6 (.inl i) (.int i t) = true := by simp [n6, Value.isInt]
theorem wu (x : Str) (t : Tok) : n6 (.inr x) (.str x t) = true := by simp [n6, Value.isStrOf]
theorem CC (a b : Int) : decide ((Sum.inl a : cT) = Sum.inl b) = (a == b) := by
  by_cases e : a = b
  · subst e; simp
  · have h : ¬ (Sum.inl a : cT) = Sum.inl b := fun q => e (Sum.inl.inj q)
    rw [decide_eq_false h]
    exact (beq_eq_false_iff_ne.mpr e).symm
theorem CB (a b : Str) : decide ((Sum.inr a : cT) = Sum.inr b) = decide (a = b) := by
  by_cases e : a = b
  · subst e; simp
  · have h : ¬ (Sum.inr a : cT) = Sum.inr b := fun q => e (Sum.inr.inj q)
    rw [decide_eq_false h, decide_eq_false e]
theorem B9 (a : Int) (b : Str) : decide ((Sum.inl a : cT) = Sum.inr b) = false := decide_eq_false (fun q => nomatch q)
theorem B7 (a : Str) (b : Int) : decide ((Sum.inr a : cT) = Sum.inl b) = false := decide_eq_false (fun q => nomatch q)
def cY (prog : Program) (w : World) : PySem.KeyKind prog w cT where
  is := n6
  hash := E9 w
  inj := fun v a b ha hb => by
    rcases cy ha with ⟨i, t, rfl, rfl⟩ | ⟨x, t, rfl, rfl⟩
    · rcases cy hb with ⟨j, u, rfl, e⟩ | ⟨y, u, rfl, e⟩
      · injection e with e1 _; rw [e1]
      · exact nomatch e
    · rcases cy hb with ⟨j, u, rfl, e⟩ | ⟨y, u, rfl, e⟩
      · exact nomatch e
      · injection e with e1 _; rw [e1]
  byValue := fun k v h => by
    rcases cy h with ⟨i, t, rfl, rfl⟩ | ⟨x, t, rfl, rfl⟩ <;> rfl
  pyHash := fun hv h => by
    rcases cy hv with ⟨i, t, rfl, rfl⟩ | ⟨x, t, rfl, rfl⟩
    · exact wpAny_pyHash_int h
    · exact wpAny_pyHash_str h
  eqBool := fun hu hv h => by
    rcases cy hu with ⟨i, t, rfl, rfl⟩ | ⟨x, t, rfl, rfl⟩
    · rcases cy hv with ⟨j, u, rfl, rfl⟩ | ⟨y, u, rfl, rfl⟩
      · rw [CC] at h; exact wpAny_eqBool_int h
      · rw [B9] at h; exact SeqAt.EqAt.int_str i t y u _ _ _ _ h
    · rcases cy hv with ⟨j, u, rfl, rfl⟩ | ⟨y, u, rfl, rfl⟩
      · rw [B7] at h; exact SeqAt.EqAt.str_int x t j u _ _ _ _ h
      · rw [CB] at h; exact wpAny_eqBool_str h
  «strs» := fun k x t v h => by
    rcases cy h with ⟨i, u, rfl, e⟩ | ⟨y, u, rfl, e⟩
    · exact nomatch e
    · injection e with e1 _
      subst e1
      cases v <;> rfl
theorem rT (prog : Program) (w : World) (i : Int) (t : Tok) : (cY prog w).is (.inl i) (.int i t) = true := wZ i t
theorem rz (prog : Program) (w : World) (x : Str) (t : Tok) : (cY prog w).is (.inr x) (.str x t) = true := wu x t
inductive V where
  | non | bl (b : Bool) | int (i : Int) | str (x : Str) | byt (b : Array UInt8) | flt (b : UInt64) | ref (a : Addr) | ty (n : String)
  deriving DecidableEq
def bA : V → Value → Prop
  | .non, u => u = Value.none
  | .bl b, u => u = Value.bool b
  | .int i, u => ∃ t, u = Value.int i t
  | .str x, u => ∃ t, u = Value.str x t
  | .byt b, u => ∃ t, u = Value.bytes b t
  | .flt b, u => ∃ t, u = Value.float b t
  | .ref a, u => u = Value.ref a
  | .ty n, u => u = Value.type n
abbrev bt : List V → List Value → Prop := Paired bA
theorem bt.length {xs : List V} {us : List Value} (r : bt xs us) : xs.length = us.length := Paired.length r
theorem bt.get : ∀ {xs : List V} {us : List Value} {i : Nat} {x : V}, bt xs us → xs[i]? = some x → ∃ u, us[i]? = some u ∧ bA x u
  | _, _, _, _, .nil, e => by simp at e
  | _, _, 0, _, .cons r _, e => by simp at e; subst e; exact ⟨_, rfl, r⟩
  | _, _, i + 1, x, .cons _ t, e => by
    obtain ⟨u, h1, h2⟩ := bt.get (i := i) (x := x) t (by simpa using e)
    exact ⟨u, by simpa using h1, h2⟩
theorem bt.set {x : V} {u : Value} (r : bA x u) : ∀ {xs : List V} {us : List Value} (i : Nat), bt xs us → bt (xs.set i x) (us.set i u)
  | _, _, _, .nil => .nil
  | _, _, 0, .cons _ t => .cons r t
  | _, _, i + 1, .cons q t => .cons q (bt.set r i t)
theorem bt.append : ∀ {xs ys : List V} {us ws : List Value}, bt xs us → bt ys ws → bt (xs ++ ys) (us ++ ws)
  | _, _, _, _, .nil, s => s
  | _, _, _, _, .cons r t, s => .cons r (bt.append t s)
theorem bt.take : ∀ {xs : List V} {us : List Value} (n : Nat), bt xs us → bt (xs.take n) (us.take n)
  | _, _, 0, _ => .nil
  | _, _, _ + 1, .nil => .nil
  | _, _, n + 1, .cons r t => .cons r (bt.take n t)
theorem bt.drop : ∀ {xs : List V} {us : List Value} (n : Nat), bt xs us → bt (xs.drop n) (us.drop n)
  | _, _, 0, r => r
  | _, _, _ + 1, .nil => .nil
  | _, _, n + 1, .cons _ t => bt.drop n t
def lN : Option V → Option Value → Prop
  | some v, some u => bA v u
  | none, none => True
  | _, _ => False
def KV {κ : Type} : List (κ × V) → List (κ × Value) → Prop := Paired fun (p : κ × V) (q : κ × Value) => p.1 = q.1 ∧ bA p.2 q.2
def kV : cT → V
  | .inl i => .int i
  | .inr x => .str x
inductive HO where
  /-- a list -/
  | lst (xs : List V)
  /-- a tuple (never changes) -/
  | tup (xs : List V)
  /-- a dict whose keys are ints and texts; one whose keys are tuples of ints and texts (the empty one is both) -/
  | dK (kvs : List (cT × V)) | dT (kvs : List (List cT × V))
  /-- a set of ints: its members, its size -/
  | set (S : Int → Bool) (n : Nat)
  /-- an instance of the class at C, its dict at dx, its attributes -/
  | ins (C dx : Addr) (fs : List (Str × V))
  /-- the dict of the instance at x -/
  | own (x : Addr)
  /-- the dict of an exception -/
  | xd (fs : List (Str × V))
  /-- a bound method, f of x -/
  | met (f x : Addr)
  /-- a range object lo, lo + 1, .. below hi -/
  | rng (lo hi : Int)
  /-- a thing that is known to the object (the script; a dict while a loop walks it): read, never written while it is so -/
  | frz (o : Obj) (u : HO)
  /-- a code object's table -/
  | tbl (ps : Array Value)
  /-- any other thing, by what is true of its one object (a def of one's own: SetO a S n := HO.ext fun h => ..) -/
  | ext (φ : Heap → Prop)
abbrev Hp := Addr → Option HO
def cm (H : Hp) (a : Addr) (o : HO) : Hp := fun b => if b = a then some o else H b
theorem bd {H : Hp} {a : Addr} {o : HO} : cm H a o a = some o := by unfold cm; rw [if_pos rfl]
theorem au {H : Hp} {a b : Addr} {o : HO} (h : b ≠ a) : cm H a o b = H b := by unfold cm; rw [if_neg h]
theorem DW {H : Hp} {a b : Addr} {o u : HO} (h : H a = some o) (h' : H b = some u) (d : o ≠ u) : a ≠ b := by
  intro e; subst e; rw [h] at h'; exact d (Option.some.inj h')
theorem aR {H : Hp} {a b : Addr} {o : HO} (h : H a = some o) (h' : H b = none) : a ≠ b := by
  intro e; subst e; rw [h] at h'; cases h'
section
variable (P : Program) (w : World)
def bR (H : Hp) (h : Heap) (a : Addr) : HO → Prop
  | .lst xs => xs.length ≤ sizeLine ∧ ∃ (its : List Value) (n : Nat), bt xs its ∧ h.get? a = some { cls := .type "list", data := .seq its.toArray n }
  | .tup xs => xs.length ≤ sizeLine ∧ ∃ its : List Value, bt xs its ∧ IsTup h a its.toArray
  | .dK kvs => kvs.length ≤ sizeLine ∧ (a == sysModules) = false ∧ ∃ vs, KV kvs vs ∧ h.DictOf (cY P w) a vs
  | .dT kvs => kvs.length ≤ sizeLine ∧ (a == sysModules) = false ∧ ∃ xs : List (List cT × Addr × Value),
      Paired (fun (p : List cT × V) (q : List cT × Addr × Value) => p.1 = q.1 ∧ H q.2.1 = some (.tup (p.1.map kV)) ∧ bA p.2 q.2.2) kvs xs ∧
      ∃ o es ep, h.get? a = some o ∧ o.ExactDict ∧ o.data = .dict es ep ∧ es.toList = xs.map (entryOfKey (tupleKind (cY P w))) ∧ (xs.map (·.1)).Nodup
  | .set S n => h.SetOf (intKind P w) a S n
  | .ins C dx fs => H dx = some (.own a) ∧ fs.length ≤ 1000 ∧ dx ≠ a ∧ h.get? a = some (PySem.W.instObj C dx) ∧
      ∃ mA, h.Ns1 dx mA ∧ (∀ f, lN (fs.lookup f) (mA f)) ∧ PySem.Within mA (fs.map (·.1))
  | .own _ => ∃ o, h.get? a = some o
  | .xd fs => ∃ mA, h.Ns1 a mA ∧ ∀ f, lN (fs.lookup f) (mA f)
  | .rng lo hi => ∃ t u v, h.get? a = some { cls := .type "range", data := .fields #[.int lo t, .int hi u, .int 1 v] }
  | .frz o u => h.get? a = some o ∧ bR H h a u
  | .tbl ps => h.get? a = some { cls := .none, data := .fields ps }
  | .met f x => h.get? a = some (PySem.W.methodObj (.ref f) (.ref x))
  | .ext φ => φ h ∧ (∃ o, h.get? a = some o) ∧ ∀ h1 h2 : Heap, φ h1 → (∀ o, h1.get? a = some o → h2.get? a = some o) → φ h2
def il (H : Hp) (h : Heap) : Prop := ∀ a o, H a = some o → bR P w H h a o
end
section
variable {P : Program} {w : World} {H H' : Hp} {h h' : Heap} {a : Addr} {o : HO}
theorem bR.lt (x : bR P w H h a o) : a < h.objs.size := by
  cases o with
  | lst xs => obtain ⟨_, _, _, _, e⟩ := x; exact Heap.lt_size e
  | tup xs => obtain ⟨_, _, _, p⟩ := x; exact p.lt
  | dK kvs => obtain ⟨_, _, _, _, o, _, _, e, _⟩ := x; exact Heap.lt_size e
  | dT kvs => obtain ⟨_, _, _, _, o, _, _, e, _⟩ := x; exact Heap.lt_size e
  | set S n => obtain ⟨o, _, _, _, e, _⟩ := x; exact Heap.lt_size e
  | ins C dx fs => obtain ⟨_, _, _, e, _⟩ := x; exact Heap.lt_size e
  | own y => obtain ⟨_, e⟩ := x; exact Heap.lt_size e
  | xd fs => obtain ⟨_, ⟨_, _, _, e, _⟩, _⟩ := x; exact Heap.lt_size e
  | rng lo hi => obtain ⟨_, _, _, e⟩ := x; exact Heap.lt_size e
  | frz ob u => obtain ⟨e, _⟩ := x; exact Heap.lt_size e
  | tbl ps => exact Heap.lt_size (show h.get? a = some _ from x)
  | met f y => exact Heap.lt_size (show h.get? a = some _ from x)
  | ext φ => obtain ⟨_, ⟨_, e⟩, _⟩ := x; exact Heap.lt_size e
theorem Paired.mapP {α β : Type} {F G : α → β → Prop} : ∀ {l₁ : List α} {l₂ : List β}, Paired F l₁ l₂ → (∀ a b, F a b → G a b) → Paired G l₁ l₂
  | _, _, .nil, _ => .nil
  | _, _, .cons r t, f => .cons (f _ _ r) (Paired.mapP t f)
theorem bR.stay (x : bR P w H h a o) (k : ∀ b u, (b = a ∨ H b = some (.own a)) → h.get? b = some u → h'.get? b = some u)
    (ho : ∀ b, H b = some (.own a) → H' b = some (.own a)) (ht : ∀ b xs, H b = some (.tup xs) → H' b = some (.tup xs)) : bR P w H' h' a o := by
  induction o with
  | lst xs => obtain ⟨z, its, n, r, e⟩ := x; exact ⟨z, its, n, r, k _ _ (.inl rfl) e⟩
  | tup xs => obtain ⟨z, its, r, ob, e, c⟩ := x; exact ⟨z, its, r, ob, k _ _ (.inl rfl) e, c⟩
  | dK kvs => obtain ⟨z, y, vs, r, ob, es, ep, e, c⟩ := x; exact ⟨z, y, vs, r, ob, es, ep, k _ _ (.inl rfl) e, c⟩
  | dT kvs =>
    obtain ⟨z, y, xs, r, ob, es, ep, e, c⟩ := x
    exact ⟨z, y, xs, Paired.mapP r fun p q z => ⟨z.1, ht _ _ z.2.1, z.2.2⟩, ob, es, ep, k _ _ (.inl rfl) e, c⟩
  | set S n => obtain ⟨ob, es, ep, t, e, c⟩ := x; exact ⟨ob, es, ep, t, k _ _ (.inl rfl) e, c⟩
  | ins C dx fs =>
    obtain ⟨d, z, ne, e, mA, ⟨od, es, ep, e2, c⟩, r⟩ := x
    exact ⟨ho _ d, z, ne, k _ _ (.inl rfl) e, mA, ⟨od, es, ep, k _ _ (.inr d) e2, c⟩, r⟩
  | own y => obtain ⟨ob, e⟩ := x; exact ⟨ob, k _ _ (.inl rfl) e⟩
  | xd fs => obtain ⟨mA, ⟨od, es, ep, e, c⟩, r⟩ := x; exact ⟨mA, ⟨od, es, ep, k _ _ (.inl rfl) e, c⟩, r⟩
  | rng lo hi => obtain ⟨t, u, v, e⟩ := x; exact ⟨t, u, v, k _ _ (.inl rfl) e⟩
  | frz ob u ih => obtain ⟨e, q⟩ := x; exact ⟨k _ _ (.inl rfl) e, ih q⟩
  | tbl ps =>
    have e : h.get? a = some { cls := .none, data := .fields ps } := x
    show h'.get? a = some { cls := .none, data := .fields ps }
    exact k a _ (.inl rfl) e
  | met f y =>
    have e : h.get? a = some (PySem.W.methodObj (.ref f) (.ref y)) := x
    show h'.get? a = some (PySem.W.methodObj (.ref f) (.ref y))
    exact k a _ (.inl rfl) e
  | ext φ => obtain ⟨p, ⟨o, e⟩, st⟩ := x; exact ⟨st _ _ p fun o q => k _ _ (.inl rfl) q, ⟨o, k _ _ (.inl rfl) e⟩, st⟩
theorem il.lt (x : il P w H h) (e : H a = some o) : a < h.objs.size := (x a o e).lt
theorem il.fresh (x : il P w H h) (e : h.objs.size ≤ a) : H a = none := by
  cases q : H a with
  | none => rfl
  | some u => exact absurd (Nat.lt_of_lt_of_le (x.lt q) e) (Nat.lt_irrefl _)
theorem il.kept (x : il P w H h) (k : ∀ b u, h.get? b = some u → h'.get? b = some u) : il P w H h' := fun a o e =>
  (x a o e).stay (fun b u _ q => k b u q) (fun _ q => q) fun _ _ q => q
theorem il.laid (x : il P w H h) (k : ∀ b u, h.get? b = some u → h'.get? b = some u) (hp : h.objs.size ≤ a) (new : bR P w (cm H a o) h' a o) : il P w (cm H a o) h' := fun b u e => by
  have hn := x.fresh hp
  by_cases hb : b = a
  · subst hb; rw [bd] at e; cases e; exact new
  · rw [au hb] at e
    exact (x b u e).stay (fun c v _ q => k c v q) (fun c q => by rw [au (aR q hn)]; exact q) fun c xs q => by rw [au (aR q hn)]; exact q
end
def Rd (H : Hp) (a : Addr) (u : HO) : Prop := H a = some u ∨ ∃ o, H a = some (.frz o u)
theorem Rd.ok {P : Program} {w : World} {H : Hp} {h : Heap} {a : Addr} {u : HO} (r : Rd H a u) (x : il P w H h) : bR P w H h a u := by
  rcases r with r | ⟨o, r⟩
  · exact x a u r
  · obtain ⟨_, q⟩ := x a _ r
    exact q
def Dh : Option HO → Prop
  | some (.lst _) => True
  | some (.dK _) => True
  | some (.dT _) => True
  | some (.set _ _) => True
  | some (.ins _ _ _) => True
  | some (.ext _) => True
  | _ => False
section
variable {P : Program} {w : World} {H : Hp} {h h' : Heap} {x e : Addr} {o' : HO}
theorem il.write (ok : il P w H h) (mu : Dh (H x)) (he : e = x ∨ H e = some (.own x)) (k : ∀ b u, b ≠ e → h.get? b = some u → h'.get? b = some u) (heo : ∃ u, h'.get? e = some u)
    (new : bR P w (cm H x o') h' x o') : il P w (cm H x o') h' := fun b u q => by
  have nown : ∀ c y, H c = some (.own y) → c ≠ x := fun c y r z => by subst z; rw [r] at mu; exact mu
  have ntup : ∀ c xs, H c = some (.tup xs) → c ≠ x := fun c xs r z => by subst z; rw [r] at mu; exact mu
  by_cases hb : b = x
  · subst hb; rw [bd] at q; cases q; exact new
  · rw [au hb] at q
    by_cases hbe : b = e
    · have q' : H b = some (.own x) := by
        rcases he with z | z
        · exact absurd (hbe.trans z) hb
        · rw [hbe]; exact z
      rw [q] at q'; cases q'
      obtain ⟨v, hv⟩ := heo
      exact ⟨v, by rw [hbe]; exact hv⟩
    · refine (ok b u q).stay (fun c v hc r => k c v ?_ r) (fun c r => by rw [au (nown c b r)]; exact r) fun c xs r => by rw [au (ntup c xs r)]; exact r
      rcases hc with rfl | hc
      · exact hbe
      · rintro rfl
        rcases he with z | z
        · exact nown c b hc z
        · rw [hc] at z; cases z; exact hb rfl
end
structure Un (fs ex : List Addr) (H H' : Hp) (h h' : Heap) : Prop where
  keep : ∀ b o, h.get? b = some o → H b = none → b ∉ fs → b ∉ ex → h'.get? b = some o
  slot : ∀ b o, h.get? b = some o → H b = none → b ∈ fs → b ∉ ex → ∃ sl, h'.get? b = some { o with slots := sl }
  free : ∀ b o, h.get? b = some o → H b = none → b ∉ ex → H' b = none
  there : ∀ b o, h.get? b = some o → b ∉ ex → ∃ o', h'.get? b = some o'
  tups : ∀ b xs, H b = some (.tup xs) → H' b = some (.tup xs)
  frzs : ∀ b o u, H b = some (.frz o u) → H' b = some (.frz o u)
  tbls : ∀ b ps, H b = some (.tbl ps) → ∃ more, H' b = some (.tbl (ps ++ more))
section
variable {fs fs' ex ex' : List Addr} {H H1 H2 : Hp} {h h1 h2 h' : Heap} {a x e : Addr} {o : HO}
theorem Un.any (u : Un fs ex H H1 h h1) {b : Addr} {ob : Obj} (q : h.get? b = some ob) (n : H b = none) (hx : b ∉ ex) : ∃ sl, h1.get? b = some { ob with slots := sl } := by
  by_cases hb : b ∈ fs
  · exact u.slot b ob q n hb hx
  · exact ⟨ob.slots, u.keep b ob q n hb hx⟩
theorem Un.kept (k : ∀ b u, h.get? b = some u → h'.get? b = some u) : Un fs ex H H h h' :=
  ⟨fun b ob q _ _ _ => k b ob q, fun b ob q _ _ _ => ⟨ob.slots, k b ob q⟩, fun _ _ _ n _ => n, fun b ob q _ => ⟨ob, k b ob q⟩, fun _ _ q => q, fun _ _ _ q => q, fun _ ps q => ⟨#[], by rw [q]; simp⟩⟩
theorem Un.refl : Un fs ex H H h h := Un.kept fun _ _ q => q
theorem Un.laid (k : ∀ b u, h.get? b = some u → h'.get? b = some u) (hp : h.objs.size ≤ a) (hn : H a = none) : Un fs ex H (cm H a o) h h' where
  keep := fun b u q _ _ _ => k b u q
  slot := fun b u q _ _ _ => ⟨u.slots, k b u q⟩
  free := fun b u q n _ => by rw [au (Nat.ne_of_lt (Nat.lt_of_lt_of_le (Heap.lt_size q) hp))]; exact n
  there := fun b u q _ => ⟨u, k b u q⟩
  tups := fun b xs q => by rw [au (aR q hn)]; exact q
  frzs := fun b u xs q => by rw [au (aR q hn)]; exact q
  tbls := fun b ps q => ⟨#[], by rw [au (aR q hn), q]; simp⟩
theorem Un.write (mu : Dh (H x)) (he : e = x ∨ H e = some (.own x)) (k : ∀ b u, b ≠ e → h.get? b = some u → h'.get? b = some u) (heo : ∃ u, h'.get? e = some u) : Un fs ex H (cm H x o) h h' := by
  have hx : ∀ b, H b = none → b ≠ x := fun b n z => by subst z; rw [n] at mu; exact mu
  have hb : ∀ b, H b = none → b ≠ e := fun b n z => by
    subst z
    rcases he with r | r
    · exact hx b n r
    · rw [n] at r; cases r
  have hm : ∀ b u, H b = some u → ¬ Dh (some u) → b ≠ x := fun b u q nm z => by subst z; rw [q] at mu; exact nm mu
  refine ⟨fun b u q n _ _ => k b u (hb b n) q, fun b u q n _ _ => ⟨u.slots, k b u (hb b n) q⟩, fun b u q n _ => by rw [au (hx b n)]; exact n, fun b u q _ => ?_,
    fun b xs q => by rw [au (hm b _ q fun z => z)]; exact q, fun b u xs q => by rw [au (hm b _ q fun z => z)]; exact q, fun b ps q => ⟨#[], by rw [au (hm b _ q fun z => z), q]; simp⟩⟩
  by_cases hbe : b = e
  · subst hbe; exact heo
  · exact ⟨u, k b u hbe q⟩
end
def Ev (h : Heap) (H : Hp) : List Addr := (List.range h.objs.size).filter fun a => (H a).isSome
def qW (h : Heap) (H : Hp) : Heap := PySem.W.hideAll h (Ev h H)
theorem wV (h : Heap) (H : Hp) : (qW h H).objs.size = h.objs.size := PySem.W.hideAll_size _ _
theorem xU {h : Heap} {H : Hp} {b : Addr} {o : Obj} (e : h.get? b = some o) (n : H b = none) : (qW h H).get? b = some o :=
  PySem.W.hideAll_get _ e fun hm => by
    have q : (H b).isSome = true := (List.mem_filter.mp hm).2
    rw [n] at q; simp at q
theorem AM {h : Heap} {H : Hp} {b : Addr} {o : Obj} (e : (qW h H).get? b = some o) : h.get? b = some o ∧ H b = none := by
  have e' : h.get? b = some o := PySem.W.of_hideAll (Ev h H) e
  refine ⟨e', ?_⟩
  cases q : H b with
  | none => rfl
  | some x =>
    have hm : b ∈ Ev h H := List.mem_filter.mpr ⟨List.mem_range.mpr (Heap.lt_size e'), by simp [q]⟩
    have z : (qW h H).get? b = none := PySem.W.hideAll_none (Ev h H) hm
    rw [z] at e; cases e
def Ao (g h : Heap) (L : Addr) : List (Addr × Obj) := (List.range h.objs.size).filterMap fun a => if a = L ∨ (g.get? a).isSome = true then none else (h.get? a).map fun o => (a, o)
def dg (g h : Heap) (L d : Addr) : List (Addr × Obj) := (Ao g h L).filter fun p => decide (p.1 ≠ d)
structure Mod (K : PySem.W.Frag) (mg : Str → Option Value) (base : Heap) : Prop where
  kin : K.In base
  glob : base.Ns mainGlobals mg
  blt : ∃ mb, base.Ns builtinsNs mb ∧ ∀ x : Str, x ≠ "__name__" → mb x = bootBuiltins x
  nolimit : base.NoLimit
structure Cx where
  prog : Program
  w : World
  K : PySem.W.Frag
  mg : Str → Option Value
  base : Heap
  A : Around
  N : List Str
  s₀ : Shared
  H₀ : Hp
  env : Env
  outer : List Env
  stack : List Env
  ex : List Addr
  fn : Str → Bool
  calm : Bool
  pn : List (Addr × Obj)
  xe : Value → Shared → Prop
def lJ (l : List Env) : List Addr := l.filterMap (·.frame)
abbrev Cx.fs (X : Cx) : List Addr := lJ X.outer
def CH (sc : Scope) (x : Str) : Prop := sc.names.lookup x = some .local ∨ sc.names.lookup x = some .cell ∨ sc.names.lookup x = some .free
def Ba (sc : Scope) (x : Str) : Prop := sc.names.lookup x = some .local ∨ sc.names.lookup x = some .cell
def EH (env : Env) (h : Heap) (m : Str → Option Value) (x : Str) (u : Value) : Prop :=
  (env.kindOf x = some .local ∧ m x = some u) ∨ ((env.kindOf x = some .cell ∨ env.kindOf x = some .free) ∧ ∃ c, env.cells.lookup x = some c ∧ h.IsCell c (some u))
structure Cx.Ok (X : Cx) : Prop where
  mod : Mod X.K X.mg X.base
  kind : X.env.scope.kind = .function
  glob : X.env.globals = mainGlobals
  blt : X.env.builtins = builtinsNs
  above : X.s₀.heap.objs.size ≤ X.env.locals
  inj : ∀ x y c, X.env.cells.lookup x = some c → X.env.cells.lookup y = some c → x = y
  has : ∀ x, (X.env.kindOf x = some .cell ∨ X.env.kindOf x = some .free) → ∃ c, X.env.cells.lookup x = some c
  cab : ∀ x c, X.fn x = true → X.env.cells.lookup x = some c → X.s₀.heap.objs.size ≤ c
  hd : X.calm = true → X.A.handled = none
  frames : X.A.frames = some X.stack
  stk : X.stack = X.outer ∨ (X.stack = X.env :: X.outer ∧ X.env.frame = some X.env.locals)
  exf : ∀ b ∈ X.ex, b ≠ X.env.locals ∧ ∀ x c, X.env.cells.lookup x = some c → c ≠ b
  bs : ∀ b o, X.base.get? b = some o → X.s₀.heap.get? b = some o ∧ X.H₀ b = none
  bsz : X.base.objs.size ≤ X.s₀.heap.objs.size
  noex : ∀ b o, X.base.get? b = some o → b ∉ X.ex
  exfs : ∀ b ∈ X.ex, b ∉ X.fs
  funs : X.s₀.heap.FunFrames X.base X.outer
  frf : ∀ b ∈ X.fs, X.H₀ b = none
structure aM (X : Cx) (pins : List (Addr × Obj)) (σ : List (Option V)) (H : Hp) (s : Shared) : Prop where
  ok : X.Ok
  os : s.os = X.s₀.os
  bare : AllBare s.gens
  base : Un X.fs X.ex X.H₀ H X.s₀.heap s.heap
  loc : ∃ m, s.heap.Ns X.env.locals m ∧ ∀ (i : Nat) (x : Str) (v : V), X.N[i]? = some x → σ[i]? = some (some v) → CH X.env.scope x → ∃ u, bA v u ∧ EH X.env s.heap m x u
  cell : ∀ x c, X.env.cells.lookup x = some c → ∃ v, s.heap.IsCell c v
  free : H X.env.locals = none
  freeC : ∀ x c, X.env.cells.lookup x = some c → H c = none
  pin : ∀ p ∈ X.pn ++ pins, s.heap.get? p.1 = some p.2 ∧ H p.1 = none ∧ p.1 ≠ X.env.locals ∧ p.1 ∉ X.fs ∧ ∀ v, p.2.data ≠ .cell v
  hok : il X.prog X.w H s.heap
  len : σ.length = X.N.length
section
variable {X : Cx} {pins : List (Addr × Obj)} {σ : List (Option V)} {H H' : Hp} {s : Shared} {h' : Heap}
theorem Cx.Ok.nofr (ok : X.Ok) {b : Addr} {o : Obj} (e : X.base.get? b = some o) : b ∉ X.fs := fun hb => by
  have := (ok.funs.mem hb).1
  rw [e] at this; cases this
theorem aM.bs (I : aM X pins σ H s) : ∀ b o, X.base.get? b = some o → s.heap.get? b = some o ∧ H b = none := fun b o e =>
  ⟨I.base.keep b o (I.ok.bs b o e).1 (I.ok.bs b o e).2 (I.ok.nofr e) (I.ok.noex b o e), I.base.free b o (I.ok.bs b o e).1 (I.ok.bs b o e).2 (I.ok.noex b o e)⟩
theorem aM.bk (I : aM X pins σ H s) : ∀ b o, X.base.get? b = some o → s.heap.get? b = some o := fun b o e => (I.bs b o e).1
theorem aM.mod (I : aM X pins σ H s) : Mod X.K X.mg X.base := I.ok.mod
theorem aM.kIn (I : aM X pins σ H s) : X.K.In s.heap := I.ok.mod.kin.keeps I.bk
theorem aM.lt (I : aM X pins σ H s) : X.env.locals < s.heap.objs.size := let ⟨_, hn, _⟩ := I.loc; hn.lt
theorem aM.sz (I : aM X pins σ H s) : X.s₀.heap.objs.size ≤ s.heap.objs.size := Nat.le_trans I.ok.above (Nat.le_of_lt I.lt)
theorem aM.nofs (I : aM X pins σ H s) {a : Addr} (h : s.heap.objs.size ≤ a) : a ∉ X.fs := fun hb => by
  obtain ⟨_, o, ho, _⟩ := I.ok.funs.mem hb
  exact absurd (Nat.lt_of_lt_of_le (Heap.lt_size ho) (Nat.le_trans I.sz h)) (Nat.lt_irrefl _)
theorem aM.cne (I : aM X pins σ H s) : ∀ x c, X.env.cells.lookup x = some c → c ≠ X.env.locals := fun x c e z => by
  obtain ⟨v, o, ho, hd⟩ := I.cell x c e
  obtain ⟨m, ⟨o', es, ep, ho', hd', _⟩, _⟩ := I.loc
  rw [z, ho'] at ho; cases ho; rw [hd'] at hd; cases hd
theorem aM.funs (I : aM X pins σ H s) : s.heap.FunFrames X.base X.outer := by
  have all : ∀ (l : List Env), (∀ b ∈ lJ l, b ∈ X.fs) → X.s₀.heap.FunFrames X.base l → s.heap.FunFrames X.base l := by
    intro l
    induction l with
    | nil => intro _ _; trivial
    | cons env r ih =>
      intro hs hl
      obtain ⟨hk, ⟨L, o, hf, hn, ho, hd⟩, hr⟩ := hl
      have hL : L ∈ X.fs := hs L (by unfold lJ; rw [List.filterMap_cons, hf]; exact List.mem_cons_self)
      obtain ⟨sl, e⟩ := I.base.slot L o ho (I.ok.frf L hL) hL fun z => I.ok.exfs L z hL
      exact ⟨hk, ⟨L, _, hf, hn, e, hd⟩, ih (fun b hb => hs b (by unfold lJ; rw [List.filterMap_cons, hf]; exact List.mem_cons_of_mem _ hb)) hr⟩
  exact all X.outer (fun _ hb => hb) I.ok.funs
theorem aM.stack (I : aM X pins σ H s) : s.heap.FunFrames X.base X.stack := by
  rcases I.ok.stk with e | ⟨e, hf⟩
  · rw [e]; exact I.funs
  · rw [e]
    obtain ⟨m, hn, _⟩ := I.loc
    refine .cons (by rw [I.ok.kind]; decide) hf hn ?_ I.funs
    exact Heap.get?_none_of_le (Nat.le_trans I.ok.bsz I.ok.above)
theorem aM.stkSub (I : aM X pins σ H s) : ∀ b ∈ lJ X.stack, b ∈ X.env.locals :: X.fs := fun b hb => by
  rcases I.ok.stk with e | ⟨e, hf⟩
  · rw [e] at hb; exact List.mem_cons_of_mem _ hb
  · rw [e] at hb
    unfold lJ at hb
    rw [List.filterMap_cons, hf] at hb
    exact hb
theorem aM.stkFree (I : aM X pins σ H s) : ∀ b ∈ lJ X.stack, H b = none := fun b hb => by
  rcases List.mem_cons.mp (I.stkSub b hb) with e | hb
  · rw [e]; exact I.free
  · obtain ⟨_, o, ho, _⟩ := I.ok.funs.mem hb
    exact I.base.free b o ho (I.ok.frf b hb) fun z => I.ok.exfs b z hb
theorem aM.step {g' : Array GenState} {t' : Nat} {d' : Drawn} {ch : List Addr} (I : aM X pins σ H s)
    (hch : ∀ b ∈ ch, (b ∈ X.ex ∨ X.s₀.heap.objs.size ≤ b) ∧ b ≠ X.env.locals ∧ (∀ x c, X.env.cells.lookup x = some c → c ≠ b) ∧ ∀ p ∈ X.pn ++ pins, p.1 ≠ b)
    (keep : ∀ b o, b ≠ X.env.locals → b ∉ X.fs → b ∉ ch → s.heap.get? b = some o → H b = none → h'.get? b = some o)
    (slot : ∀ b o, b ≠ X.env.locals → b ∈ X.fs → b ∉ ch → s.heap.get? b = some o → H b = none → ∃ sl, h'.get? b = some { o with slots := sl }) (free : ∀ b o, b ∉ ch → s.heap.get? b = some o → H b = none → H' b = none)
    (there : ∀ b o, b ∉ ch → s.heap.get? b = some o → ∃ o', h'.get? b = some o')
    (tups : ∀ b xs, H b = some (.tup xs) → H' b = some (.tup xs)) (frzs : ∀ b o u, H b = some (.frz o u) → H' b = some (.frz o u)) (tbls : ∀ b ps, H b = some (.tbl ps) → ∃ more, H' b = some (.tbl (ps ++ more)))
    (ns : ∀ m, s.heap.Ns X.env.locals m → h'.Ns X.env.locals m) (hok : il X.prog X.w H' h') (hg : AllBare g') :
    aM X pins σ H' { s with heap := h', gens := g', drawn := d', toks := t' } := by
  have neL : ∀ b o, X.s₀.heap.get? b = some o → b ≠ X.env.locals := fun b o e => Nat.ne_of_lt (Nat.lt_of_lt_of_le (Heap.lt_size e) I.ok.above)
  have neC : ∀ b o, X.s₀.heap.get? b = some o → b ∉ X.ex → b ∉ ch := fun b o e hx hb => by
    rcases (hch b hb).1 with z | z
    · exact hx z
    · exact absurd (Nat.lt_of_lt_of_le (Heap.lt_size e) z) (Nat.lt_irrefl _)
  have cellK : ∀ x c, X.env.cells.lookup x = some c → ∀ v, s.heap.IsCell c v → h'.IsCell c v := fun x c e v ⟨o, ho, hd⟩ => by
    have nch : c ∉ ch := fun z => (hch c z).2.2.1 x c e rfl
    by_cases hc : c ∈ X.fs
    · obtain ⟨sl, q⟩ := slot c o (I.cne x c e) hc nch ho (I.freeC x c e)
      exact ⟨_, q, hd⟩
    · exact ⟨o, keep c o (I.cne x c e) hc nch ho (I.freeC x c e), hd⟩
  refine ⟨I.ok, I.os, hg, ⟨fun b o e n hb hx => ?_, fun b o e n hb hx => ?_, fun b o e n hx => ?_, fun b o e hx => ?_, fun b xs e => tups b xs (I.base.tups b xs e), fun b o xs e => frzs b o xs (I.base.frzs b o xs e), fun b ps e => ?_⟩, ?_, fun x c e => ?_, ?_, fun x c e => ?_, fun p hp => ?_, hok, I.len⟩
  · exact keep b o (neL b o e) hb (neC b o e hx) (I.base.keep b o e n hb hx) (I.base.free b o e n hx)
  · obtain ⟨sl, e1⟩ := I.base.slot b o e n hb hx
    obtain ⟨sl', e2⟩ := slot b _ (neL b o e) hb (neC b o e hx) e1 (I.base.free b o e n hx)
    exact ⟨sl', e2⟩
  · obtain ⟨o', e1⟩ := I.base.there b o e hx
    exact free b o' (neC b o e hx) e1 (I.base.free b o e n hx)
  · obtain ⟨o', e1⟩ := I.base.there b o e hx
    exact there b o' (neC b o e hx) e1
  · obtain ⟨m1, e1⟩ := I.base.tbls b ps e
    obtain ⟨m2, e2⟩ := tbls b _ e1
    exact ⟨m1 ++ m2, by rw [e2, Array.append_assoc]⟩
  · obtain ⟨m, hn, hl⟩ := I.loc
    refine ⟨m, ns m hn, fun i x v e1 e2 e3 => ?_⟩
    obtain ⟨u, r, l⟩ := hl i x v e1 e2 e3
    refine ⟨u, r, ?_⟩
    rcases l with l | ⟨k, c, e, z⟩
    · exact .inl l
    · exact .inr ⟨k, c, e, cellK x c e _ z⟩
  · obtain ⟨v, z⟩ := I.cell x c e
    exact ⟨v, cellK x c e v z⟩
  · obtain ⟨m, ⟨o, _, _, ho, _⟩, _⟩ := I.loc
    exact free _ o (fun z => (hch _ z).2.1 rfl) ho I.free
  · obtain ⟨v, o, ho, hd⟩ := I.cell x c e
    exact free c o (fun z => (hch c z).2.2.1 x c e rfl) ho (I.freeC x c e)
  · obtain ⟨e, n, ne, nf, d⟩ := I.pin p hp
    have nch : p.1 ∉ ch := fun z => (hch p.1 z).2.2.2 p hp rfl
    exact ⟨keep p.1 p.2 ne nf nch e n, free p.1 p.2 nch e n, ne, nf, d⟩
theorem aM.un {t' : Nat} (I : aM X pins σ H s) (u : Un X.fs [] H H' s.heap h') (hok : il X.prog X.w H' h') : aM X pins σ H' { s with heap := h', toks := t' } := by
  obtain ⟨m, ⟨o, es, ep, ho, r⟩, _⟩ := id I.loc
  obtain ⟨sl, hL⟩ := u.any ho I.free (by simp)
  exact I.step (g' := s.gens) (d' := s.drawn) (ch := []) (fun _ z => nomatch z) (fun b o _ hb _ e n => u.keep b o e n hb (by simp)) (fun b o _ hb _ e n => u.slot b o e n hb (by simp)) (fun b o _ e n => u.free b o e n (by simp)) (fun b o _ e => u.there b o e (by simp)) u.tups u.frzs u.tbls (fun m' hm => by
    obtain ⟨o', es', ep', ho', r'⟩ := hm
    rw [ho] at ho'; cases ho'
    exact ⟨_, es', ep', hL, r'⟩) hok I.bare
theorem aM.call {g' : Array GenState} {t' : Nat} {d' : Drawn} {ch : List Addr} (I : aM X pins σ H s) (u : Un (lJ X.stack) ch H H' s.heap h') (hok : il X.prog X.w H' h') (hg : AllBare g')
    (hch : ∀ b ∈ ch, (b ∈ X.ex ∨ X.s₀.heap.objs.size ≤ b) ∧ b ≠ X.env.locals ∧ (∀ x c, X.env.cells.lookup x = some c → c ≠ b) ∧ ∀ p ∈ X.pn ++ pins, p.1 ≠ b) :
    aM X pins σ H' { s with heap := h', gens := g', drawn := d', toks := t' } := by
  obtain ⟨m, ⟨o, es, ep, ho, r⟩, _⟩ := id I.loc
  obtain ⟨sl, hL⟩ := u.any ho I.free fun z => (hch _ z).2.1 rfl
  exact I.step (ch := ch) hch (fun b o hL hb hc e n => u.keep b o e n (fun z => (List.mem_cons.mp (I.stkSub b z)).elim hL hb) hc) (fun b o _ _ hc e n => u.any e n hc) (fun b o hc e n => u.free b o e n hc) (fun b o hc e => u.there b o e hc) u.tups u.frzs u.tbls (fun m' hm => by
    obtain ⟨o', es', ep', ho', r'⟩ := hm
    rw [ho] at ho'; cases ho'
    exact ⟨_, es', ep', hL, r'⟩) hok hg
theorem aM.turned {t' : Nat} {it : Addr} (I : aM X pins σ H s) (k : ∀ b o, b ≠ it → s.heap.get? b = some o → h'.get? b = some o) (hn : H it = none) (hL : it ≠ X.env.locals)
    (h1 : it ∈ X.ex ∨ X.s₀.heap.objs.size ≤ it) (h2 : ∀ x c, X.env.cells.lookup x = some c → c ≠ it) (h3 : ∀ p ∈ X.pn ++ pins, p.1 ≠ it) : aM X pins σ H { s with heap := h', toks := t' } := by
  have nit : ∀ b u, H b = some u → b ≠ it := fun b u e z => by rw [z, hn] at e; cases e
  refine I.step (g' := s.gens) (d' := s.drawn) (ch := [it]) (fun b hb => ?_) (fun b o _ _ hc e _ => k b o (fun z => hc (by simp [z])) e) (fun b o _ _ hc e _ => ⟨o.slots, k b o (fun z => hc (by simp [z])) e⟩) (fun _ _ _ _ n => n)
    (fun b o hc e => ⟨o, k b o (fun z => hc (by simp [z])) e⟩) (fun _ _ e => e) (fun _ _ _ e => e) (fun b ps e => ⟨#[], by rw [e]; simp⟩) (fun m hm => ?_) (fun b u e => ?_) I.bare
  · have e : b = it := by simpa using hb
    subst e
    exact ⟨h1, hL, h2, h3⟩
  · obtain ⟨o, es, ep, ho, r⟩ := hm
    exact ⟨o, es, ep, k _ o (Ne.symm hL) ho, r⟩
  · refine (I.hok b u e).stay (fun c v hc q => k c v ?_ q) (fun _ q => q) fun _ _ q => q
    rcases hc with z | z
    · rw [z]; exact nit b u e
    · exact nit c _ z
theorem aM.tok (I : aM X pins σ H s) (t : Nat) : aM X pins σ H { s with toks := t } := I.un (h' := s.heap) (t' := t) Un.refl I.hok
theorem aM.kept {t' : Nat} (I : aM X pins σ H s) (k : ∀ b u, s.heap.get? b = some u → h'.get? b = some u) : aM X pins σ H { s with heap := h', toks := t' } := I.un (Un.kept k) (I.hok.kept k)
theorem aM.laid {a : Addr} {o : HO} {t' : Nat} (I : aM X pins σ H s) (k : ∀ b u, s.heap.get? b = some u → h'.get? b = some u) (hp : s.heap.objs.size ≤ a) (new : bR X.prog X.w (cm H a o) h' a o) :
    aM X pins σ (cm H a o) { s with heap := h', toks := t' } := I.un (Un.laid k hp (I.hok.fresh hp)) (I.hok.laid k hp new)
theorem aM.write {x e : Addr} {o : HO} {t' : Nat} (I : aM X pins σ H s) (mu : Dh (H x)) (he : e = x ∨ H e = some (.own x)) (k : ∀ b u, b ≠ e → s.heap.get? b = some u → h'.get? b = some u) (heo : ∃ u, h'.get? e = some u)
    (new : bR X.prog X.w (cm H x o) h' x o) : aM X pins σ (cm H x o) { s with heap := h', toks := t' } := I.un (Un.write mu he k heo) (I.hok.write mu he k heo new)
theorem aM.pins_of {pins' : List (Addr × Obj)} (I : aM X pins σ H s) (h : ∀ p ∈ pins', s.heap.get? p.1 = some p.2 ∧ H p.1 = none ∧ p.1 ≠ X.env.locals ∧ p.1 ∉ X.fs ∧ ∀ v, p.2.data ≠ .cell v) : aM X pins' σ H s :=
  ⟨I.ok, I.os, I.bare, I.base, I.loc, I.cell, I.free, I.freeC, fun p hp => (List.mem_append.mp hp).elim (fun z => I.pin p (List.mem_append_left _ z)) (h p), I.hok, I.len⟩
theorem rR {N : List Str} (hN : N.Nodup) {i j : Nat} {x : Str} (a : N[i]? = some x) (b : N[j]? = some x) : i = j := by
  obtain ⟨h1, e1⟩ := List.getElem?_eq_some_iff.mp a
  obtain ⟨h2, e2⟩ := List.getElem?_eq_some_iff.mp b
  exact (List.getElem_inj hN).mp (e1.trans e2.symm)
theorem pS {M : Model} {A : Around} {E : Value → Shared → Prop} {i : Nat} {x : Str} {v : V} {u : Value} {Q : Unit → Shared → Prop} (I : aM X pins σ H s) (hN : X.N.Nodup) (hi : X.N[i]? = some x) (hx : Ba X.env.scope x) (r : bA v u)
    (h : ∀ s', aM X pins (σ.set i (some v)) H s' → (∃ a, Heap.SameBut a s.heap s'.heap ∧ (a = X.env.locals ∨ X.env.cells.lookup x = some a)) → Q () s') (hf : X.fn x = true ∨ X.env.scope.names.lookup x = some .local := by first | exact .inl rfl | exact .inr rfl | assumption) : wpAny M A (storeName X.env x u) Q E s := by
  obtain ⟨m, hn, hl⟩ := id I.loc
  have hcls : (X.env.scope.kind == .class || (X.env.scope.kind == .module && X.env.locals != X.env.globals)) = false := by rw [I.ok.kind]; rfl
  have hiσ : i < σ.length := by rw [I.len]; exact (List.getElem?_eq_some_iff.mp hi).1
  have cne := I.cne
  have tracked : ∀ {a : Addr} {h' : Heap}, (∃ o, s.heap.get? a = some o ∧ H a = none) → Heap.SameBut a s.heap h' → il X.prog X.w H h' := fun {a h'} ha hs b ob e => by
    obtain ⟨_, _, hfree⟩ := ha
    refine (I.hok b ob e).stay (fun c w' hc q => (hs.2 c ?_).trans q) (fun _ q => q) fun _ _ q => q
    rintro rfl
    rcases hc with rfl | hc
    · rw [hfree] at e; cases e
    · rw [hfree] at hc; cases hc
  rcases hx with hk | hk
  · refine wpAny_storeName_local hk hn (fun h' hn' hs => ?_) hcls
    obtain ⟨oL, _, _, hoL, _⟩ := id hn
    refine h _ ⟨I.ok, I.os, I.bare, ⟨fun b o e n hb hx => ?_, fun b o e n hb hx => ?_, I.base.free, fun b o e hx => ?_, I.base.tups, I.base.frzs, I.base.tbls⟩, ⟨_, hn', fun j y v' e1 e2 e3 => ?_⟩, fun y c e => ?_, I.free, I.freeC, fun p hp => ?_, tracked ⟨oL, hoL, I.free⟩ hs, by simpa using I.len⟩ ⟨_, hs, .inl rfl⟩
    · exact (hs.2 b (Nat.ne_of_lt (Nat.lt_of_lt_of_le (Heap.lt_size e) I.ok.above))).trans (I.base.keep b o e n hb hx)
    · obtain ⟨sl, e1⟩ := I.base.slot b o e n hb hx
      exact ⟨sl, (hs.2 b (Nat.ne_of_lt (Nat.lt_of_lt_of_le (Heap.lt_size e) I.ok.above))).trans e1⟩
    · obtain ⟨o', e1⟩ := I.base.there b o e hx
      exact ⟨o', (hs.2 b (Nat.ne_of_lt (Nat.lt_of_lt_of_le (Heap.lt_size e) I.ok.above))).trans e1⟩
    · by_cases hj : j = i
      · subst hj
        rw [hi] at e1; cases e1
        rw [List.getElem?_set_self hiσ] at e2
        cases e2
        exact ⟨u, r, .inl ⟨hk, by simp⟩⟩
      · rw [List.getElem?_set_ne (Ne.symm hj)] at e2
        obtain ⟨u', r', q⟩ := hl j y v' e1 e2 e3
        refine ⟨u', r', ?_⟩
        rcases q with ⟨k, e⟩ | ⟨k, c, e, z⟩
        · refine .inl ⟨k, ?_⟩
          have : y ≠ x := fun e => hj (rR hN e1 (e ▸ hi))
          simp [this, e]
        · exact .inr ⟨k, c, e, z.sameBut hs (cne y c e)⟩
    · obtain ⟨w', z⟩ := I.cell y c e
      exact ⟨w', z.sameBut hs (cne y c e)⟩
    · obtain ⟨e, n, ne, nf, d⟩ := I.pin p hp
      exact ⟨(hs.2 p.1 ne).trans e, n, ne, nf, d⟩
  · have hfn : X.fn x = true := by
      rcases hf with z | z
      · exact z
      · rw [z] at hk; cases hk
    obtain ⟨c, hc⟩ := I.ok.has x (.inl hk)
    obtain ⟨w', z⟩ := I.cell x c hc
    refine wpAny_storeName_cell I.ok.kind hk hc z (fun h' hc' hs => ?_)
    obtain ⟨oc, hoc, hocd⟩ := id z
    refine h { s with heap := h' } ⟨I.ok, I.os, I.bare, ⟨fun b o e n hb hx => ?_, fun b o e n hb hx => ?_, I.base.free, fun b o e hx => ?_, I.base.tups, I.base.frzs, I.base.tbls⟩, ⟨m, hn.sameBut hs (Ne.symm (cne x c hc)), fun j y v' e1 e2 e3 => ?_⟩, fun y c' e => ?_, I.free, I.freeC, fun p hp => ?_, tracked ⟨oc, hoc, I.freeC x c hc⟩ hs, by simpa using I.len⟩ ⟨c, hs, .inr hc⟩
    · exact (hs.2 b (Nat.ne_of_lt (Nat.lt_of_lt_of_le (Heap.lt_size e) (I.ok.cab x c hfn hc)))).trans (I.base.keep b o e n hb hx)
    · obtain ⟨sl, e1⟩ := I.base.slot b o e n hb hx
      exact ⟨sl, (hs.2 b (Nat.ne_of_lt (Nat.lt_of_lt_of_le (Heap.lt_size e) (I.ok.cab x c hfn hc)))).trans e1⟩
    · obtain ⟨o', e1⟩ := I.base.there b o e hx
      exact ⟨o', (hs.2 b (Nat.ne_of_lt (Nat.lt_of_lt_of_le (Heap.lt_size e) (I.ok.cab x c hfn hc)))).trans e1⟩
    · by_cases hj : j = i
      · subst hj
        rw [hi] at e1; cases e1
        rw [List.getElem?_set_self hiσ] at e2
        cases e2
        exact ⟨u, r, .inr ⟨.inl hk, c, hc, hc'⟩⟩
      · rw [List.getElem?_set_ne (Ne.symm hj)] at e2
        obtain ⟨u', r', q⟩ := hl j y v' e1 e2 e3
        refine ⟨u', r', ?_⟩
        rcases q with q | ⟨k, c', e, z'⟩
        · exact .inl q
        · refine .inr ⟨k, c', e, z'.sameBut hs ?_⟩
          rintro rfl
          exact hj (rR hN e1 (I.ok.inj _ _ _ e hc ▸ hi))
    · by_cases hcc : c' = c
      · subst hcc; exact ⟨_, hc'⟩
      · obtain ⟨w2, z2⟩ := I.cell y c' e
        exact ⟨w2, z2.sameBut hs hcc⟩
    · obtain ⟨e, n, ne, nf, d⟩ := I.pin p hp
      refine ⟨(hs.2 p.1 ?_).trans e, n, ne, nf, d⟩
      intro q
      rw [q, hoc] at e
      have q' : oc = p.2 := Option.some.inj e
      exact d w' (by rw [← q']; exact hocd)
theorem oJ {M : Model} {A : Around} {E : Value → Shared → Prop} {i : Nat} {x : Str} {v : V} {u : Value} {Q : Unit → Shared → Prop} (I : aM X pins σ H s) (hN : X.N.Nodup) (hi : X.N[i]? = some x) (hx : Ba X.env.scope x) (r : bA v u)
    (h : ∀ s', aM X pins (σ.set i (some v)) H s' → Q () s') (hf : X.fn x = true ∨ X.env.scope.names.lookup x = some .local := by first | exact .inl rfl | exact .inr rfl | assumption) : wpAny M A (storeName X.env x u) Q E s :=
  pS I hN hi hx r (fun s' I' _ => h s' I') hf
theorem aM.call' {s' : Shared} {ch : List Addr} (I : aM X pins σ H s) (ho : s'.os = s.os) (u : Un (lJ X.stack) ch H H' s.heap s'.heap) (hok : il X.prog X.w H' s'.heap) (hg : AllBare s'.gens)
    (hch : ∀ b ∈ ch, (b ∈ X.ex ∨ X.s₀.heap.objs.size ≤ b) ∧ b ≠ X.env.locals ∧ (∀ x c, X.env.cells.lookup x = some c → c ≠ b) ∧ ∀ p ∈ X.pn ++ pins, p.1 ≠ b) : aM X pins σ H' s' := by
  obtain ⟨h', g', d', t', o'⟩ := s'
  have e : o' = s.os := ho
  subst e
  exact I.call (g' := g') (t' := t') (d' := d') u hok hg hch
end
abbrev XK := Value → Option Addr → Hp → Prop
abbrev St := List (Option V)
abbrev VK := V → Hp → Prop
abbrev TE := St → Hp → VK → Prop
abbrev TT := St → Hp → (Bool → Hp → Prop) → Prop
abbrev TA := St → Hp → (List V → Hp → Prop) → Prop
structure su where
  nx : St → Hp → Prop
  rt : VK
  bk : St → Hp → Prop := fun _ _ => False
  ct : St → Hp → Prop := fun _ _ => False
abbrev TS := su → St → Hp → Prop
def EP (X : Cx) (pins : List (Addr × Obj)) (σ : St) (Q : VK) (u : Value) (s' : Shared) : Prop := ∃ v H', aM X pins σ H' s' ∧ bA v u ∧ Q v H'
def TP (X : Cx) (pins : List (Addr × Obj)) (σ : St) (Q : Bool → Hp → Prop) (b : Bool) (s' : Shared) : Prop := ∃ H', aM X pins σ H' s' ∧ Q b H'
def AP (X : Cx) (pins : List (Addr × Obj)) (σ : St) (Q : List V → Hp → Prop) (us : List Value) (s' : Shared) : Prop := ∃ vs H', aM X pins σ H' s' ∧ bt vs us ∧ Q vs H'
def SP (X : Cx) (pins : List (Addr × Obj)) (D : su) (f : Flow) (s' : Shared) : Prop :=
  match f with
  | .next => ∃ σ' H', aM X pins σ' H' s' ∧ D.nx σ' H'
  | .brk => ∃ σ' H', aM X pins σ' H' s' ∧ D.bk σ' H'
  | .cont => ∃ σ' H', aM X pins σ' H' s' ∧ D.ct σ' H'
  | .ret u => ∃ v σ' H', aM X pins σ' H' s' ∧ bA v u ∧ D.rt v H'
def PE (X : Cx) (e : Expr) (t : TE) : Prop :=
  ∀ (pins : List (Addr × Obj)) (s : Shared) (σ : St) (H : Hp) (Q : VK), aM X pins σ H s → t σ H Q → wpAny (model X.prog X.w) X.A (eval e X.env) (EP X pins σ Q) X.xe s
def PT (X : Cx) (e : Expr) (t : TT) : Prop :=
  ∀ (pins : List (Addr × Obj)) (s : Shared) (σ : St) (H : Hp) (Q : Bool → Hp → Prop), aM X pins σ H s → t σ H Q → wpAny (model X.prog X.w) X.A (isTrue e X.env (eval e X.env)) (TP X pins σ Q) X.xe s
def PW (X : Cx) (e : Expr) (t : TT) : Prop :=
  ∀ (whole : Sem Value) (pins : List (Addr × Obj)) (s : Shared) (σ : St) (H : Hp) (Q : Bool → Hp → Prop), aM X pins σ H s → t σ H Q → wpAny (model X.prog X.w) X.A (isTrue e X.env whole) (TP X pins σ Q) X.xe s
theorem PW.pt {X : Cx} {e : Expr} {t : TT} (h : PW X e t) : PT X e t := h _
def PA (X : Cx) (es : List Expr) (t : TA) : Prop :=
  ∀ (pos : Pos) (pins : List (Addr × Obj)) (s : Shared) (σ : St) (H : Hp) (Q : List V → Hp → Prop), aM X pins σ H s → t σ H Q → wpAny (model X.prog X.w) X.A (spliced (backTo pos (starEach es X.env))) (AP X pins σ Q) X.xe s
def PS (X : Cx) (st : Stmt) (t : TS) : Prop :=
  ∀ (pins : List (Addr × Obj)) (s : Shared) (σ : St) (H : Hp) (D : su), aM X pins σ H s → t D σ H → wpAny (model X.prog X.w) X.A (exec st X.env) (SP X pins D) X.xe s
def rj (X : Cx) (st : List Stmt) (t : TS) : Prop :=
  ∀ (pins : List (Addr × Obj)) (s : Shared) (σ : St) (H : Hp) (D : su), aM X pins σ H s → t D σ H → wpAny (model X.prog X.w) X.A (execs st X.env) (SP X pins D) X.xe s
theorem cQ {α : Type} {t : Sem α} {Q Q' : α → Shared → Prop} {M : Model} {A : Around} {E : Value → Shared → Prop} {s : Shared} (h : wpAny M A t Q E s) (hQ : ∀ a s, Q a s → Q' a s) : wpAny M A t Q' E s := wpAny_mono h hQ fun _ _ x => x
section
variable {X : Cx}
theorem FL {a b : Expr} {ta tb : TE} (ha : PE X a ta) (hb : PE X b tb) {pins : List (Addr × Obj)} {s : Shared} {σ : St} {H : Hp} {R : V → V → Hp → Prop} (I : aM X pins σ H s) (h : ta σ H fun x H1 => tb σ H1 fun y H2 => R x y H2)
    {α : Type} {Q : α → Shared → Prop} {f : Value → Value → Sem α}
    (hf : ∀ v u s2 x y H2, aM X pins σ H2 s2 → bA x v → bA y u → R x y H2 → wpAny (model X.prog X.w) X.A (f v u) Q X.xe s2) :
    wpAny (model X.prog X.w) X.A (eval a X.env) (fun v s₁ => wpAny (model X.prog X.w) X.A (eval b X.env) (fun u s₂ => wpAny (model X.prog X.w) X.A (f v u) Q X.xe s₂) X.xe s₁) X.xe s := by
  refine cQ (ha pins s σ H _ I h) fun v s1 ⟨x, H1, I1, r1, q1⟩ => ?_
  refine cQ (hb pins s1 σ H1 _ I1 q1) fun u s2 ⟨y, H2, I2, r2, q2⟩ => ?_
  exact hf v u s2 x y H2 I2 r1 r2 q2
def DE (i : Nat) : TE := fun σ H Q => ∃ v, σ[i]? = some (some v) ∧ Q v H
def tC (v : V) : TE := fun _ H Q => Q v H
theorem mw {i : Nat} {x : Str} {pos : Pos} (hN : X.N[i]? = some x) (hv : CH X.env.scope x) (hd : (x == ("__debug__" : Str)) = false := by decide) (hcd : (x == ("__classdict__" : Str)) = false := by decide) : PE X (.Name x pos) (DE i) := by
  intro pins s σ H Q I h
  obtain ⟨v, e, h⟩ := h
  obtain ⟨m, hn, hl⟩ := I.loc
  obtain ⟨u, r, l⟩ := hl i x v hN e hv
  have fin : EP X pins σ Q u s := ⟨v, H, I, r, h⟩
  rcases l with ⟨hk, hm⟩ | ⟨hk, c, hc, hcell⟩
  · exact wpAny_Name (wpAny_loadName_local I.ok.kind hk hn hm fin) hd
  · rcases hk with hk | hk
    · exact wpAny_Name (wpAny_loadName_cell I.ok.kind hk hc hcell fin) hd
    · exact wpAny_Name (wpAny_loadName_free I.ok.kind hk hc hcell fin hcd) hd
theorem CD {i j pos} : PE X (.Constant (.int i) j pos) (tC (.int i)) := fun _ _ _ H _ I h => wpAny_Constant_int ⟨.int i, H, I.tok _, ⟨_, rfl⟩, h⟩
theorem DX {b j pos} : PE X (.Constant (.bool b) j pos) (tC (.bl b)) := fun _ _ _ H _ I h => Constant_bool ⟨.bl b, H, I, rfl, h⟩
theorem Cb {j pos} : PE X (.Constant .none j pos) (tC .non) := fun _ _ _ H _ I h => Constant_none ⟨.non, H, I, rfl, h⟩
theorem BS {x j pos} : PE X (.Constant (.str x) j pos) (tC (.str x)) := fun _ _ _ H _ I h => Calls.Constant_str ⟨.str x, H, I.tok _, ⟨_, rfl⟩, h⟩
def Gl (X : Cx) (x : Str) : Prop := X.env.kindOf x = some .globalImplicit
theorem nI {E : Value → Shared → Prop} {pins : List (Addr × Obj)} {s : Shared} {σ : St} {H : Hp} {x : Str} {u : Value} {pos : Pos} {Q : Value → Shared → Prop} (I : aM X pins σ H s) (hg : Gl X x) (hm : X.mg x = some u) (h : Q u s)
    (hd : (x == ("__debug__" : Str)) = false := by decide) : wpAny (model X.prog X.w) X.A (eval (.Name x pos) X.env) Q E s :=
  Calls.Name_function_global I.ok.kind hg (Calls.loadGlobal_global (by rw [I.ok.glob]; exact I.mod.glob.keeps I.bk) hm h) hd
theorem iT {E : Value → Shared → Prop} {pins : List (Addr × Obj)} {s : Shared} {σ : St} {H : Hp} {x : Str} {u : Value} {pos : Pos} {Q : Value → Shared → Prop} (I : aM X pins σ H s) (hg : Gl X x) (hm : X.mg x = none) (hv : bootBuiltins x = some u) (h : Q u s)
    (hn : x ≠ "__name__" := by decide) (hd : (x == ("__debug__" : Str)) = false := by decide) : wpAny (model X.prog X.w) X.A (eval (.Name x pos) X.env) Q E s := by
  obtain ⟨mb, h1, h2⟩ := I.mod.blt
  exact Calls.Name_function_global I.ok.kind hg (Calls.loadGlobal_builtin (by rw [I.ok.glob]; exact I.mod.glob.keeps I.bk) hm (by rw [I.ok.blt]; exact h1.keeps I.bk) ((h2 x hn).trans hv) h) hd
theorem zP {x : Str} {v : V} {u : Value} {pos : Pos} (hg : Gl X x) (hm : X.mg x = some u) (r : bA v u) (hd : (x == ("__debug__" : Str)) = false := by decide) : PE X (.Name x pos) (tC v) :=
  fun _ _ _ H _ I h => nI I hg hm ⟨v, H, I, r, h⟩ hd
theorem Aq {x : Str} {v : V} {u : Value} {pos : Pos} (hg : Gl X x) (hm : X.mg x = none) (hv : bootBuiltins x = some u) (r : bA v u) (hn : x ≠ "__name__" := by decide) (hd : (x == ("__debug__" : Str)) = false := by decide) : PE X (.Name x pos) (tC v) :=
  fun _ _ _ H _ I h => iT I hg hm hv ⟨v, H, I, r, h⟩ hn hd
variable {a b : Expr} {ta tb : TE} {pos : Pos}
def PC (X : Cx) (op : CmpOp) (a b : Expr) (t : TE) : Prop :=
  ∀ (pins : List (Addr × Obj)) (s : Shared) (σ : St) (H : Hp) (Q : VK), aM X pins σ H s → t σ H Q →
    wpAny (model X.prog X.w) X.A (eval a X.env) (fun v s₁ => wpAny (model X.prog X.w) X.A (eval b X.env) (fun u s₂ => wpAny (model X.prog X.w) X.A (compareOp op v u) (EP X pins σ Q) X.xe s₂) X.xe s₁) X.xe s
theorem xT (b : Expr) {op : CmpOp} (h : op ≠ .In) (h2 : op ≠ .NotIn) : behindInMarks op b = false := by
  have e1 : (op == CmpOp.In) = false := by cases op <;> first | rfl | exact absurd rfl h
  have e2 : (op == CmpOp.NotIn) = false := by cases op <;> first | rfl | exact absurd rfl h2
  cases b <;> simp [behindInMarks, e1, e2]
def tB (t : TE) : TT := fun σ H Q => t σ H fun x H1 => ∃ c, x = .bl c ∧ Q c H1
theorem EG {op : CmpOp} {t : TE} (h : PC X op a b t) (h1 : behindInMarks op b = false := by first | exact xT _ (by decide) (by decide) | rfl) : PT X (.Compare a [op] [b] pos) (tB t) := by
  intro pins s σ H Q I hw
  refine wpAny_isTrue_Compare1 (cQ (h pins s σ H _ I hw) fun v s1 h1 => cQ h1 fun u s2 h2 => cQ h2 fun c s3 ⟨x, H1, I1, r1, q1⟩ => ?_) h1
  obtain ⟨d, rfl, q⟩ := q1
  cases r1
  exact wpAny_truthy_bool ⟨H1, I1, q⟩
theorem BF {e : Expr} {t : TE} (h : PE X e t) (he : ∀ whole, isTrue e X.env whole = (do let v ← whole; standAt e.pos; holding [v] (truthy v)) := by intro _; rfl) : PT X e (tB t) := by
  intro pins s σ H Q I hw
  refine isTrue_plain (cQ (h pins s σ H _ I hw) fun v s1 ⟨x, H1, I1, r1, q1⟩ => ?_) (he _)
  obtain ⟨d, rfl, q⟩ := q1
  cases r1
  exact wpAny_truthy_bool ⟨H1, I1, q⟩
variable {tA tB' : TT} {dg : List Expr}
def Ez (t u : TT) : TT := fun σ H Q => t σ H fun c H1 => if c = true then u σ H1 Q else Q false H1
def FB (t u : TT) : TT := fun σ H Q => t σ H fun c H1 => if c = true then Q true H1 else u σ H1 Q
def Ff (t : TT) : TT := fun σ H Q => t σ H fun c H1 => Q (!c) H1
theorem pw_and1 (ha : PT X a tA) : PW X (.BoolOp .And [a] pos) tA := by
  intro wh pins s σ H Q I h
  refine isTrue_and (cQ (ha pins s σ H Q I h) fun c s1 e => ?_)
  cases c with
  | true => exact isTrue_and_nil e
  | false => exact e
theorem pw_or1 (ha : PT X a tA) : PW X (.BoolOp .Or [a] pos) tA := by
  intro wh pins s σ H Q I h
  refine isTrue_or (cQ (ha pins s σ H Q I h) fun c s1 e => ?_)
  cases c with
  | false => exact isTrue_or_nil e
  | true => exact e
theorem pw_and (ha : PT X a tA) (hb : PW X (.BoolOp .And (b :: dg) pos) tB') : PW X (.BoolOp .And (a :: b :: dg) pos) (Ez tA tB') := by
  intro wh pins s σ H Q I h
  refine isTrue_and (cQ (ha pins s σ H _ I h) fun c s1 ⟨H1, I1, q1⟩ => ?_)
  cases c with
  | true => exact hb wh pins s1 σ H1 Q I1 q1
  | false => exact ⟨H1, I1, q1⟩
theorem pw_or (ha : PT X a tA) (hb : PW X (.BoolOp .Or (b :: dg) pos) tB') : PW X (.BoolOp .Or (a :: b :: dg) pos) (FB tA tB') := by
  intro wh pins s σ H Q I h
  refine isTrue_or (cQ (ha pins s σ H _ I h) fun c s1 ⟨H1, I1, q1⟩ => ?_)
  cases c with
  | true => exact ⟨H1, I1, q1⟩
  | false => exact hb wh pins s1 σ H1 Q I1 q1
theorem BK (ha : PT X a tA) : PT X (.UnaryOp .Not a pos) (Ff tA) := by
  intro pins s σ H Q I h
  exact isTrue_not (ha pins s σ H (fun c H1 => Q (!c) H1) I h)
def Ec (ta tb : TE) : TE := fun σ H Q => ta σ H fun x H1 => ∃ c, x = .bl c ∧ if c = true then tb σ H1 Q else Q (.bl false) H1
def Fd (ta tb : TE) : TE := fun σ H Q => ta σ H fun x H1 => ∃ c, x = .bl c ∧ if c = true then Q (.bl true) H1 else tb σ H1 Q
def D3 (ta : TE) : TE := fun σ H Q => ta σ H fun x H1 => ∃ c, x = .bl c ∧ Q (.bl (!c)) H1
theorem B3 {op} {t : TE} (h : PE X a t) : PE X (.BoolOp op [a] pos) t := fun pins s σ H Q I hw => BoolOp_one (h pins s σ H Q I hw)
theorem BV (ha : PE X a ta) (hb : PE X (.BoolOp .And (b :: dg) pos) tb) : PE X (.BoolOp .And (a :: b :: dg) pos) (Ec ta tb) := by
  intro pins s σ H Q I h
  refine BoolOp_and (cQ (ha pins s σ H _ I h) fun v s1 ⟨x, H1, I1, r1, q1⟩ => ?_)
  obtain ⟨c, rfl, q1⟩ := q1
  cases r1
  refine wpAny_truthy_bool ?_
  cases c with
  | true => exact hb pins s1 σ H1 Q I1 q1
  | false => exact ⟨.bl false, H1, I1, rfl, q1⟩
theorem DV (ha : PE X a ta) (hb : PE X (.BoolOp .Or (b :: dg) pos) tb) : PE X (.BoolOp .Or (a :: b :: dg) pos) (Fd ta tb) := by
  intro pins s σ H Q I h
  refine BoolOp_or (cQ (ha pins s σ H _ I h) fun v s1 ⟨x, H1, I1, r1, q1⟩ => ?_)
  obtain ⟨c, rfl, q1⟩ := q1
  cases r1
  refine wpAny_truthy_bool ?_
  cases c with
  | false => exact hb pins s1 σ H1 Q I1 q1
  | true => exact ⟨.bl true, H1, I1, rfl, q1⟩
theorem CI (ha : PE X a ta) : PE X (.UnaryOp .Not a pos) (D3 ta) := by
  intro pins s σ H Q I h
  refine UnaryOp_ (cQ (ha pins s σ H _ I h) fun v s1 ⟨x, H1, I1, r1, q1⟩ => ?_)
  obtain ⟨c, rfl, q1⟩ := q1
  cases r1
  exact not_of (wpAny_truthy_bool ⟨.bl (!c), H1, I1, rfl, q1⟩)
def Fz (t : TT) (ta tb : TE) : TE := fun σ H Q => t σ H fun c H1 => if c = true then ta σ H1 Q else tb σ H1 Q
theorem ze {c : Expr} (hc : PT X c tA) (ha : PE X a ta) (hb : PE X b tb) : PE X (.IfExp c a b pos) (Fz tA ta tb) := by
  intro pins s σ H Q I h
  refine wpAny_IfExp (cQ (hc pins s σ H _ I h) fun d s1 ⟨H1, I1, q1⟩ => ?_)
  cases d with
  | true => exact ha pins s1 σ H1 Q I1 q1
  | false => exact hb pins s1 σ H1 Q I1 q1
end
def mX (K : PySem.W.Frag) (H : Hp) (a : Addr) (xs : List V) : Prop :=
  Rd H a (.lst xs) ∨
    ∃ (o : Obj) (its : Array Value) (n : Nat), K.lookup a = some o ∧ o.cls = .type "list" ∧ o.dict = none ∧ o.data = .seq its n ∧ its.size ≤ sizeLine ∧ bt xs its.toList
def eI (K : PySem.W.Frag) (H : Hp) (a : Addr) (xs : List V) : Prop :=
  Rd H a (.tup xs) ∨
    ∃ (o : Obj) (its : Array Value) (n : Nat), K.lookup a = some o ∧ o.cls = .type "tuple" ∧ o.data = .seq its n ∧ its.size ≤ sizeLine ∧ bt xs its.toList
def EV : Value → Option V
  | .none => some .non
  | .bool b => some (.bl b)
  | .int i _ => some (.int i)
  | .str x _ => some (.str x)
  | .bytes b _ => some (.byt b)
  | .float b _ => some (.flt b)
  | .ref a => some (.ref a)
  | .type n => some (.ty n)
  | _ => none
theorem bA.abs {x : V} {u : Value} (r : bA x u) : EV u = some x := by
  cases x with
  | non => cases r; rfl
  | bl _ => cases r; rfl
  | int _ => obtain ⟨t, rfl⟩ := r; rfl
  | str _ => obtain ⟨t, rfl⟩ := r; rfl
  | byt _ => obtain ⟨t, rfl⟩ := r; rfl
  | flt _ => obtain ⟨t, rfl⟩ := r; rfl
  | ref _ => cases r; rfl
  | ty _ => cases r; rfl
theorem bA.inj {x y : V} {u : Value} (r : bA x u) (q : bA y u) : x = y := Option.some.inj (r.abs.symm.trans q.abs)
theorem bt.inj : ∀ {xs ys : List V} {us : List Value}, bt xs us → bt ys us → xs = ys
  | _, _, _, .nil, .nil => rfl
  | _, _, _, .cons r t, .cons r' t' => by rw [r.inj r', bt.inj t t']
section
variable {X : Cx} {pins : List (Addr × Obj)} {σ : St} {H : Hp} {s : Shared} {a : Addr} {xs ys : List V}
theorem mX.of {K : PySem.W.Frag} (h : H a = some (.lst xs)) : mX K H a xs := .inl (.inl h)
theorem eI.of {K : PySem.W.Frag} (h : H a = some (.tup xs)) : eI K H a xs := .inl (.inl h)
theorem aM.list (I : aM X pins σ H s) (h : mX X.K H a xs) : ∃ its : List Value, bt xs its ∧ PlainL s.heap a its.toArray ∧ xs.length ≤ sizeLine := by
  rcases h with h | ⟨o, its, n, hk, hc, hd, hs, hz, r⟩
  · obtain ⟨z, its, n, r, e⟩ := h.ok I.hok
    exact ⟨its, r, ⟨_, n, e, rfl, rfl, rfl⟩, z⟩
  · refine ⟨its.toList, r, ⟨o, n, I.kIn a o hk, hc, hd, by simpa using hs⟩, ?_⟩
    have e := r.length
    simp only [Array.length_toList] at e
    omega
theorem aM.tuple (I : aM X pins σ H s) (h : eI X.K H a xs) : ∃ its : List Value, bt xs its ∧ IsTup s.heap a its.toArray ∧ xs.length ≤ sizeLine := by
  rcases h with h | ⟨o, its, n, hk, hc, hs, hz, r⟩
  · obtain ⟨z, its, r, p⟩ := h.ok I.hok
    exact ⟨its, r, p, z⟩
  · refine ⟨its.toList, r, ⟨o, I.kIn a o hk, hc, n, by simpa using hs⟩, ?_⟩
    have e := r.length
    simp only [Array.length_toList] at e
    omega
theorem aM.list_inj (I : aM X pins σ H s) (h : mX X.K H a xs) (h' : mX X.K H a ys) : xs = ys := by
  obtain ⟨its, r, ⟨o, n, e, _, _, d⟩, _⟩ := I.list h
  obtain ⟨its', r', ⟨o', n', e', _, _, d'⟩, _⟩ := I.list h'
  rw [e] at e'; cases e'
  rw [d] at d'
  injection d' with d1 _
  have : its = its' := by simpa using congrArg Array.toList d1
  subst this
  exact r.inj r'
theorem aM.tuple_inj (I : aM X pins σ H s) (h : eI X.K H a xs) (h' : eI X.K H a ys) : xs = ys := by
  obtain ⟨its, r, ⟨o, e, _, n, d⟩, _⟩ := I.tuple h
  obtain ⟨its', r', ⟨o', e', _, n', d'⟩, _⟩ := I.tuple h'
  rw [e] at e'; cases e'
  rw [d] at d'
  injection d' with d1 _
  have : its = its' := by simpa using congrArg Array.toList d1
  subst this
  exact r.inj r'
end
abbrev Cx.wish (X : Cx) (E : Value → Shared → Prop) : Cx := { X with xe := E }
abbrev Cx.nox (X : Cx) : Cx := X.wish fun _ _ => False
theorem Cx.Ok.wish {X : Cx} (ok : X.Ok) (E : Value → Shared → Prop) : (X.wish E).Ok :=
  ⟨ok.mod, ok.kind, ok.glob, ok.blt, ok.above, ok.inj, ok.has, ok.cab, ok.hd, ok.frames, ok.stk, ok.exf, ok.bs, ok.bsz, ok.noex, ok.exfs, ok.funs, ok.frf⟩
theorem Cx.Ok.unwish {X : Cx} {E : Value → Shared → Prop} (ok : (X.wish E).Ok) : X.Ok :=
  ⟨ok.mod, ok.kind, ok.glob, ok.blt, ok.above, ok.inj, ok.has, ok.cab, ok.hd, ok.frames, ok.stk, ok.exf, ok.bs, ok.bsz, ok.noex, ok.exfs, ok.funs, ok.frf⟩
section
variable {X : Cx} {pins : List (Addr × Obj)} {σ : St} {H : Hp} {s : Shared} {E : Value → Shared → Prop}
theorem aM.wish (I : aM X pins σ H s) (E : Value → Shared → Prop) : aM (X.wish E) pins σ H s := ⟨I.ok.wish E, I.os, I.bare, I.base, I.loc, I.cell, I.free, I.freeC, I.pin, I.hok, I.len⟩
theorem aM.unwish (I : aM (X.wish E) pins σ H s) : aM X pins σ H s := ⟨I.ok.unwish, I.os, I.bare, I.base, I.loc, I.cell, I.free, I.freeC, I.pin, I.hok, I.len⟩
theorem SP.unwish {D : su} {f : Flow} {s' : Shared} (h : SP (X.wish E) pins D f s') : SP X pins D f s' := by
  cases f with
  | next => obtain ⟨σ', H', I, q⟩ := h; exact ⟨σ', H', I.unwish, q⟩
  | brk => obtain ⟨σ', H', I, q⟩ := h; exact ⟨σ', H', I.unwish, q⟩
  | cont => obtain ⟨σ', H', I, q⟩ := h; exact ⟨σ', H', I.unwish, q⟩
  | ret u => obtain ⟨v, σ', H', I, r, q⟩ := h; exact ⟨v, σ', H', I.unwish, r, q⟩
theorem PE.nox {e : Expr} {t : TE} (h : PE X.nox e t) : PE X e t := fun pins s σ H Q I hw =>
  wpAny_mono (h pins s σ H Q (I.wish _) hw) (fun _ _ ⟨v, H', I', r, q⟩ => ⟨v, H', I'.unwish, r, q⟩) fun _ _ z => False.elim z
theorem PT.nox {e : Expr} {t : TT} (h : PT X.nox e t) : PT X e t := fun pins s σ H Q I hw =>
  wpAny_mono (h pins s σ H Q (I.wish _) hw) (fun _ _ ⟨H', I', q⟩ => ⟨H', I'.unwish, q⟩) fun _ _ z => False.elim z
theorem rj.nox {st : List Stmt} {t : TS} (h : rj X.nox st t) : rj X st t := fun pins s σ H D I hw =>
  wpAny_mono (h pins s σ H D (I.wish _) hw) (fun _ _ q => q.unwish) fun _ _ z => False.elim z
end
section
variable {X : Cx} {st : Stmt} {dg : List Stmt} {t u : TS} {e : Expr} {te : TE} {pos : Pos}
def D1 : TS := fun D σ H => D.nx σ H
def Fc (t u : TS) : TS := fun D σ H => t { D with nx := u D } σ H
theorem zD : rj X [] D1 := fun _ _ σ H _ I h => wpAny_execs_nil ⟨σ, H, I, h⟩
theorem oS (h1 : PS X st t) (h2 : rj X dg u) : rj X (st :: dg) (Fc t u) := by
  intro pins s σ H D I h
  refine wpAny_execs_cons (cQ (h1 pins s σ H { D with nx := u D } I h) fun f s1 q => ?_)
  cases f with
  | next =>
    obtain ⟨σ', H', I', q⟩ := q
    exact h2 pins s1 σ' H' D I' q
  | ret v => exact q
  | brk => exact q
  | cont => exact q
theorem vj (h1 : PS X st t) : rj X [st] t := by
  intro pins s σ H D I h
  refine wpAny_execs_cons (cQ (h1 pins s σ H D I h) fun f s1 q => ?_)
  cases f with
  | next => exact wpAny_execs_nil q
  | ret v => exact q
  | brk => exact q
  | cont => exact q
theorem aM.quiet {pins : List (Addr × Obj)} {σ : St} {H : Hp} {s : Shared} (I : aM X pins σ H s) : interactive X.env = false := by simp [interactive, I.ok.kind]
def DS (te : TE) : TS := fun D σ H => te σ H fun _ H1 => D.nx σ H1
theorem AE (he : PE X e te) (hs : swapsWith e none pos.line X.env = pure false := by rfl) : PS X (.Expr e pos) (DS te) := by
  intro pins s σ H D I h
  exact wpAny_Expr_any (cQ (he pins s σ H _ I h) fun v s1 ⟨x, H1, I1, r1, q1⟩ => ⟨σ, H1, I1, q1⟩) I.quiet hs
def Fg (te : TE) : TS := fun D σ H => te σ H D.rt
theorem Cy (he : PE X e te) : PS X (.Return (some e) pos) (Fg te) := by
  intro pins s σ H D I h
  exact wpAny_Return_some (cQ (he pins s σ H _ I h) fun v s1 ⟨x, H1, I1, r1, q1⟩ => ⟨x, σ, H1, I1, r1, q1⟩)
def EQ (c : TT) (t u : TS) : TS := fun D σ H => c σ H fun b H1 => if b = true then t D σ H1 else u D σ H1
theorem D8 {c : Expr} {a b : List Stmt} {tc : TT} (hc : PT X c tc) (ha : rj X a t) (hb : rj X b u) : PS X (.If c a b pos) (EQ tc t u) := by
  intro pins s σ H D I h
  refine wpAny_If (cQ (hc pins s σ H _ I h) fun d s1 ⟨H1, I1, q1⟩ => ?_)
  cases d with
  | true => exact ha pins s1 σ H1 D I1 q1
  | false => exact hb pins s1 σ H1 D I1 q1
end
abbrev TG := V → St → Hp → (St → Hp → Prop) → Prop
abbrev Bx := List V → St → Hp → (St → Hp → Prop) → Prop
def PG (X : Cx) (target : Expr) (t : TG) : Prop :=
  ∀ (pins : List (Addr × Obj)) (s : Shared) (σ : St) (H : Hp) (v : V) (u : Value) (Q : St → Hp → Prop), aM X pins σ H s → bA v u → t v σ H Q →
    wpAny (model X.prog X.w) X.A (assign target X.env u) (fun _ s' => ∃ σ' H', aM X pins σ' H' s' ∧ Q σ' H') X.xe s
def Eu (X : Cx) (ts : List Expr) (t : Bx) : Prop :=
  ∀ (pins : List (Addr × Obj)) (s : Shared) (σ : St) (H : Hp) (vs : List V) (us : List Value) (Q : St → Hp → Prop), aM X pins σ H s → bt vs us → t vs σ H Q →
    wpAny (model X.prog X.w) X.A (assignInOrder ((assignEach ts X.env).map (·.2)) us) (fun _ s' => ∃ σ' H', aM X pins σ' H' s' ∧ Q σ' H') X.xe s
abbrev BB := V → V → V → Hp → (Hp → Prop) → Prop
def Ed (X : Cx) (t : BB) : Prop :=
  ∀ (pins : List (Addr × Obj)) (s : Shared) (σ : St) (H : Hp) (o i v : V) (ov iv u : Value) (Q : Hp → Prop), aM X pins σ H s → bA o ov → bA i iv → bA v u → t o i v H Q →
    wpAny (model X.prog X.w) X.A (setItem ov iv u) (fun _ s' => ∃ H', aM X pins σ H' s' ∧ Q H') X.xe s
abbrev En := V → V → Hp → VK → Prop
def EC (X : Cx) (op : Operator) (t : En) : Prop :=
  ∀ (pins : List (Addr × Obj)) (s : Shared) (σ : St) (H : Hp) (x y : V) (v u : Value) (Q : VK), aM X pins σ H s → bA x v → bA y u → t x y H Q →
    wpAny (model X.prog X.w) X.A (inplaceOp op v u) (EP X pins σ Q) X.xe s
section
variable {X : Cx} {pos : Pos}
def A9 (i : Nat) : TG := fun v σ H Q => Q (σ.set i (some v)) H
theorem jM {i : Nat} {x : Str} (hN : X.N.Nodup) (hi : X.N[i]? = some x) (hx : Ba X.env.scope x) (hf : X.fn x = true ∨ X.env.scope.names.lookup x = some .local := by first | exact .inl rfl | exact .inr rfl | assumption) : PG X (.Name x pos) (A9 i) := by
  intro pins s σ H v u Q I r h
  exact wpAny_assign_Name (oJ I hN hi hx r (fun s' I' => ⟨_, H, I', h⟩) hf)
def EB : Bx := fun vs σ H Q => vs = [] ∧ Q σ H
def DO (t : TG) (u : Bx) : Bx := fun vs σ H Q => ∃ v r, vs = v :: r ∧ t v σ H fun σ' H' => u r σ' H' Q
theorem vQ : Eu X [] EB := by
  intro pins s σ H vs us Q I r h
  obtain ⟨e, h⟩ := h
  subst e
  cases r
  exact assignInOrder_nil ⟨σ, H, I, h⟩
theorem ji {e : Expr} {es : List Expr} {t : TG} {u : Bx} (h1 : PG X e t) (h2 : Eu X es u)
    (hs : (assignEach (e :: es) X.env).map (·.2) = assign e X.env :: (assignEach es X.env).map (·.2) := by rfl) : Eu X (e :: es) (DO t u) := by
  intro pins s σ H vs us Q I r h
  obtain ⟨v, vr, e1, h⟩ := h
  subst e1
  cases r with
  | cons r rr =>
    rw [hs]
    refine assignInOrder_cons (cQ (h1 pins s σ H _ _ _ I r h) fun _ s1 ⟨σ1, H1, I1, q1⟩ => ?_)
    exact h2 pins s1 σ1 H1 _ _ Q I1 rr q1
def Fa (K : PySem.W.Frag) (n : Nat) (t : Bx) : TG := fun v σ H Q => ∃ a xs, v = .ref a ∧ eI K H a xs ∧ xs.length = n ∧ t xs σ H Q
theorem yt {es : List Expr} {k : Nat} {t : Bx} {n : Nat} (hc : X.calm = true) (h : Eu X es t)
    (hn : (assignEach es X.env).length = n := by rfl) (hst : (assignEach es X.env).findIdx? (·.1) = none := by rfl) : PG X (.Tuple es k pos) (Fa X.K n t) := by
  intro pins s σ H v u Q I r hw
  obtain ⟨a, xs, e1, hq, hl, hw⟩ := hw
  subst e1
  cases r
  obtain ⟨its, rv, ht, hz⟩ := I.tuple hq
  refine assign_Tuple_tuple (I.ok.hd hc) ht (by simp [hn, ← hl, rv.length]) hst fun h' hx => ?_
  have I1 : aM X pins σ H { s with heap := h' } := I.kept (t' := s.toks) fun b o e => hx b o (Nat.ne_of_lt (Heap.lt_size e)) e
  exact h pins _ σ H xs _ Q I1 (by simpa using rv) hw
def EE (to ti : TE) (t : BB) : TG := fun v σ H Q => to σ H fun o H1 => ti σ H1 fun i H2 => t o i v H2 fun H3 => Q σ H3
theorem BN {o i : Expr} {to ti : TE} {t : BB} (ho : PE X o to) (hi : PE X i ti) (hs : Ed X t)
    (ha : ∀ v, assign (.Subscript o i pos) X.env v = (do
      let ov ← holding [v] (eval o X.env)
      let iv ← holding [v, ov] (eval i X.env)
      standAt pos
      holding [v, ov, iv] (setItem ov iv v)
      release [v, ov, iv] []) := by intro _; rfl) : PG X (.Subscript o i pos) (EE to ti t) := by
  intro pins s σ H v u Q I r h
  rw [ha]
  refine wpAny_bind (wpAny_holding (cQ (ho pins s σ H _ I h) fun ov s1 ⟨x, H1, I1, r1, q1⟩ => ?_))
  refine wpAny_bind (wpAny_holding (cQ (hi pins s1 σ H1 _ I1 q1) fun iv s2 ⟨y, H2, I2, r2, q2⟩ => ?_))
  refine wpAny_bind (wpAny_standAt (wpAny_bind (wpAny_holding (cQ (hs pins s2 σ H2 x y v ov iv u _ I2 r1 r2 r q2) fun _ s3 ⟨H3, I3, q3⟩ => ?_))))
  exact wpAny_release ⟨σ, H3, I3, q3⟩
def DL (te : TE) (g : TG) : TS := fun D σ H => te σ H fun x H1 => g x σ H1 D.nx
theorem yS {tg e : Expr} {te : TE} {g : TG} (he : PE X e te) (hg : PG X tg g) (hs : swapsWithSole [tg] e pos.line X.env = pure false := by rfl) (hw : swappedStores [tg] e X.env = pure none := by rfl)
    (h1 : (assignEach [tg] X.env).map (·.2) = [assign tg X.env] := by rfl) : PS X (.Assign [tg] e pos) (DL te g) := by
  intro pins s σ H D I h
  refine wpAny_Assign_stores (cQ (he pins s σ H _ I h) fun v s1 ⟨x, H1, I1, r1, q1⟩ => ?_) hs hw
  rw [h1]
  exact cQ (hg pins s1 σ H1 x v _ I1 r1 q1) fun _ s2 q => q
theorem zr {i : Nat} {x : Str} {e : Expr} {te : TE} {pos' : Pos} (hN : X.N.Nodup) (hi : X.N[i]? = some x) (hx : Ba X.env.scope x) (he : PE X e te) (hs : swapsWith e (some (.Name x pos')) pos.line X.env = pure false := by rfl) (hf : X.fn x = true ∨ X.env.scope.names.lookup x = some .local := by first | exact .inl rfl | exact .inr rfl | assumption) :
    PS X (.Assign [.Name x pos'] e pos) (DL te (A9 i)) := by
  intro pins s σ H D I h
  refine wpAny_Assign_Name (cQ (he pins s σ H _ I h) fun v s1 ⟨y, H1, I1, r1, q1⟩ => ?_) hs
  exact oJ I1 hN hi hx r1 (fun s2 I2 => ⟨_, H1, I2, q1⟩) hf
def ES (i : Nat) (te : TE) (ti : En) : TS := fun D σ H => ∃ x, σ[i]? = some (some x) ∧ te σ H fun y H1 => ti x y H1 fun z H2 => D.nx (σ.set i (some z)) H2
theorem CG {i : Nat} {x : Str} {e : Expr} {te : TE} {op : Operator} {ti : En} {pos' : Pos} (hN : X.N.Nodup) (hi : X.N[i]? = some x) (hx : Ba X.env.scope x) (he : PE X e te) (ho : EC X op ti) (hf : X.fn x = true ∨ X.env.scope.names.lookup x = some .local := by first | exact .inl rfl | exact .inr rfl | assumption) :
    PS X (.AugAssign (.Name x pos') op e pos) (ES i te ti) := by
  intro pins s σ H D I h
  obtain ⟨v, e1, h⟩ := h
  obtain ⟨m, hn, hl⟩ := I.loc
  have vis : CH X.env.scope x := by rcases hx with k | k; exact .inl k; exact .inr (.inl k)
  obtain ⟨u, r, l⟩ := hl i x v hi e1 vis
  refine wpAny_AugAssign_Name ?_
  have go : wpAny (model X.prog X.w) X.A (eval e X.env) (fun w s₂ => wpAny (model X.prog X.w) X.A (inplaceOp op u w) (fun r s₃ => wpAny (model X.prog X.w) X.A (storeName X.env x r) (fun _ => SP X pins D .next) X.xe s₃) X.xe s₂) X.xe s := by
    refine cQ (he pins s σ H _ I h) fun w s1 ⟨y, H1, I1, r1, q1⟩ => ?_
    refine cQ (ho pins s1 σ H1 v y u w _ I1 r r1 q1) fun z s2 ⟨zv, H2, I2, r2, q2⟩ => ?_
    exact oJ I2 hN hi hx r2 (fun s3 I3 => ⟨_, H2, I3, q2⟩) hf
  rcases l with ⟨hk, hm⟩ | ⟨hk, c, hc, hcell⟩
  · exact wpAny_loadName_local I.ok.kind hk hn hm go
  · rcases hk with hk | hk
    · exact wpAny_loadName_cell I.ok.kind hk hc hcell go
    · rcases hx with k | k
      · have : X.env.scope.names.lookup x = some .free := hk
        rw [k] at this; cases this
      · have : X.env.scope.names.lookup x = some .free := hk
        rw [k] at this; cases this
def Fh (f : Int → Int → Int) : En := fun x y H Q => ∃ i j, x = .int i ∧ y = .int j ∧ Q (.int (f i j)) H
theorem BP : EC X .Add (Fh fun i j => i + j) := by
  intro pins s σ H x y v u Q I r1 r2 h
  obtain ⟨i, j, e1, e2, q⟩ := h
  subst e1; subst e2
  obtain ⟨t, rfl⟩ := r1
  obtain ⟨t', rfl⟩ := r2
  exact iadd_int ⟨.int _, H, I.tok _, ⟨_, rfl⟩, q⟩
end
section
variable {X : Cx} {pos : Pos}
def Ch (c : TT) (tb : TS) : TS := fun D σ H => ∃ W : Nat → St → Hp → Prop, (∃ m, W m σ H) ∧ ∀ m σ H, W m σ H →
  c σ H fun b H1 => if b = true then ∃ N : St → Hp → Prop, (∀ σ' H', N σ' H' → ∃ m', m' < m ∧ W m' σ' H') ∧ tb { D with nx := N, ct := N, bk := D.nx } σ H1 else D.nx σ H1
theorem ym {c : Expr} {body : List Stmt} {tc : TT} {tb : TS} (hp : PassesOwn (model X.prog X.w) X.A X.env X.xe) (hc : PT X c tc) (hb : rj X body tb) : PS X (.While c body [] pos) (Ch tc tb) := by
  intro pins s σ H D I h
  obtain ⟨W, ⟨m0, w0⟩, turn⟩ := h
  refine wpAny_While (codeAny_whileLoop (fun n s' => ∃ σ' H', aM X pins σ' H' s' ∧ W n σ' H') ?_ m0 ⟨σ, H, I, w0⟩)
  rintro n s1 ⟨σ1, H1, I1, w1⟩
  refine wpAny_passesOwn hp (cQ (hc pins s1 σ1 H1 _ I1 (turn n σ1 H1 w1)) fun b s2 ⟨H2, I2, q2⟩ => ?_)
  cases b with
  | true =>
    obtain ⟨N, hN, q2⟩ := q2
    rw [if_pos rfl]
    refine wpAny_passesOwn hp (cQ (hb pins s2 σ1 H2 _ I2 q2) fun f s3 q3 => ?_)
    cases f with
    | next =>
      obtain ⟨σ3, H3, I3, n3⟩ := q3
      obtain ⟨m', hm, w3⟩ := hN σ3 H3 n3
      exact ⟨m', hm, σ3, H3, I3, w3⟩
    | cont =>
      obtain ⟨σ3, H3, I3, n3⟩ := q3
      obtain ⟨m', hm, w3⟩ := hN σ3 H3 n3
      exact ⟨m', hm, σ3, H3, I3, w3⟩
    | brk => exact q3
    | ret v => exact q3
  | false =>
    rw [if_neg Bool.false_ne_true]
    exact wpAny_execs_nil ⟨σ1, H2, I2, q2⟩
end
structure It where
  go : Nat → Hp → Prop
  yld : Nat → Hp → V → Hp → Prop
  stop : Nat → Hp → Prop
def mh (X : Cx) (pins : List (Addr × Obj)) (H : Hp) (b : Addr) : Prop :=
  H b = none ∧ b ≠ X.env.locals ∧ b ∉ X.fs ∧ (b ∈ X.ex ∨ X.s₀.heap.objs.size ≤ b) ∧ (∀ x c, X.env.cells.lookup x = some c → c ≠ b) ∧ ∀ p ∈ X.pn ++ pins, p.1 ≠ b
theorem aM.fpOk {X : Cx} {pins : List (Addr × Obj)} {σ : St} {H H' : Hp} {s : Shared} {b : Addr} (I : aM X pins σ H s) (hb : s.heap.objs.size ≤ b) (hn : H' b = none) : mh X pins H' b := by
  refine ⟨hn, Nat.ne_of_gt (Nat.lt_of_lt_of_le I.lt hb), I.nofs hb, .inr (Nat.le_trans I.sz hb), fun x c e z => ?_, fun p hp z => ?_⟩
  · obtain ⟨v, q⟩ := I.cell x c e
    exact absurd (Nat.lt_of_lt_of_le q.lt (by rw [z]; exact hb)) (Nat.lt_irrefl _)
  · exact absurd (Nat.lt_of_lt_of_le (Heap.lt_size (I.pin p hp).1) (by rw [z]; exact hb)) (Nat.lt_irrefl _)
structure sN (P : Program) (w : World) (K : PySem.W.Frag) (tg : Expr) (J : It) (fp : List Addr) (it : Addr) (tn : Nat → Heap → Prop) : Prop where
  mem : it ∈ fp
  obj : ∀ i h, tn i h → ∀ b ∈ fp, ∃ o, h.get? b = some o ∧ ∀ v, o.data ≠ .cell v
  keep : ∀ i h h', tn i h → (∀ b ∈ fp, ∀ o, h.get? b = some o → h'.get? b = some o) → tn i h'
  item : ∀ (X : Cx), X.prog = P → X.w = w → X.K = K → X.calm = true → ∀ (i : Nat) (pins : List (Addr × Obj)) (s : Shared) (σ : St) (H : Hp) (E : Value → Shared → Prop), aM X pins σ H s → (∀ b ∈ fp, mh X pins H b) → tn i s.heap → J.go i H →
    wpAny (model P w) X.A (pyNext (.ref it)) (fun r s1 => ∃ u, r = some u ∧
      wpAny (model P w) X.A (letOwnedTupleGo tg (.ref it) u) (fun _ s2 => ∃ x H', aM X pins σ H' s2 ∧ bA x u ∧ J.yld i H x H' ∧ tn (i + 1) s2.heap ∧ ∀ b ∈ fp, H' b = none) E s1) E s
  done : ∀ (X : Cx), X.prog = P → X.w = w → X.K = K → X.calm = true → ∀ (i : Nat) (pins : List (Addr × Obj)) (s : Shared) (σ : St) (H : Hp) (E : Value → Shared → Prop), aM X pins σ H s → (∀ b ∈ fp, mh X pins H b) → tn i s.heap → J.stop i H →
    wpAny (model P w) X.A (pyNext (.ref it)) (fun r s1 => r = none ∧ aM X pins σ H s1) E s
  self : ∀ (A : Around) (i : Nat) (s : Shared) (Q : Value → Shared → Prop) (E : Value → Shared → Prop), tn i s.heap → Q (.ref it) s → wpAny (model P w) A (pyIter (.ref it)) Q E s
abbrev TI := St → Hp → (It → Hp → Prop) → Prop
def Fp (X : Cx) (pins : List (Addr × Obj)) (σ : St) (tg : Expr) (R : It → Hp → Prop) (itv : Value) (s2 : Shared) : Prop :=
  ∃ (it : Addr) (fp : List Addr) (tn : Nat → Heap → Prop) (J : It) (H' : Hp), itv = .ref it ∧ aM X pins σ H' s2 ∧ sN X.prog X.w X.K tg J fp it tn ∧ tn 0 s2.heap ∧ (∀ b ∈ fp, mh X pins H' b) ∧ R J H'
def PI (X : Cx) (tg iter : Expr) (wi : TI) : Prop :=
  ∀ (pins : List (Addr × Obj)) (s : Shared) (σ : St) (H : Hp) (R : It → Hp → Prop), aM X pins σ H s → wi σ H R →
    wpAny (model X.prog X.w) X.A (eval iter X.env) (fun v s1 => wpAny (model X.prog X.w) X.A (pyIter v) (Fp X pins σ tg R) X.xe s1) X.xe s
theorem zm {M : Model} {A : Around} {E : Value → Shared → Prop} {s : Shared} {tg : Expr} {it : Addr} {u : Value} {o : Obj} {n : String} {vs : Array Value} {Q : Unit → Shared → Prop} (ho : s.heap.get? it = some o) (hc : o.cls = .type n) (hd : o.data = .fields vs)
    (hn : ["enumerate", "zip", "dict_itemiterator", "dict_reverseitemiterator", "odict_iterator", "itertools.zip_longest", "itertools.pairwise"].contains n = false) (hQ : Q () s) : wpAny M A (letOwnedTupleGo tg (.ref it) u) Q E s := by
  unfold letOwnedTupleGo
  cases tg <;> first
    | exact wpAny_pure hQ
    | (cases u <;> first
        | exact wpAny_pure hQ
        | (refine wpAny_bind (wpAny_load ho ?_)
           rw [hc, hd]
           show wpAny M A (if (["enumerate", "zip", "dict_itemiterator", "dict_reverseitemiterator", "odict_iterator", "itertools.zip_longest", "itertools.pairwise"].contains n && vs[0]? == some (rawInt _)) = true then _ else _) Q E s
           rw [if_neg (by intro h; rw [hn, Bool.false_and] at h; cases h)]
           exact wpAny_pure hQ))
def Fb (K : PySem.W.Frag) (a : Addr) : It :=
  ⟨fun i H => ∃ xs x, mX K H a xs ∧ xs[i]? = some x, fun i H x H' => H' = H ∧ ∀ xs, mX K H a xs → xs[i]? = some x, fun i H => ∃ xs, mX K H a xs ∧ xs.length ≤ i⟩
def EO (K : PySem.W.Frag) (a : Addr) : It :=
  ⟨fun i H => ∃ xs x, eI K H a xs ∧ xs[i]? = some x, fun i H x H' => H' = H ∧ ∀ xs, eI K H a xs → xs[i]? = some x, fun i H => ∃ xs, eI K H a xs ∧ xs.length ≤ i⟩
def Ep (lo : Int) (n : Nat) : It := ⟨fun i _ => i < n, fun i H x H' => H' = H ∧ x = .int (lo + i), fun i _ => n ≤ i⟩
theorem w6 {P : Program} {w : World} {K : PySem.W.Frag} {tg : Expr} (a it : Addr) : sN P w K tg (Fb K a) [it] it (fun i h => h.IsListIter it a i) where
  mem := by simp
  obj := fun i h st b hb => by
    have e : b = it := by simpa using hb
    subst e
    obtain ⟨o, e, c, d⟩ := st
    exact ⟨o, e, fun v z => by rw [d] at z; cases z⟩
  keep := fun i h h' st k => st.at fun o e => k it (by simp) o e
  item := by
    intro X hP hw hK hc i pins s σ H E I hf st hg
    subst hP hw hK
    obtain ⟨xs, x, hq, hx⟩ := hg
    obtain ⟨its, rv, p, hz⟩ := I.list hq
    obtain ⟨u, hu, ru⟩ := rv.get hx
    obtain ⟨f0, f1, f2, f3, f4, f5⟩ := hf it (by simp)
    refine wpAny_pyNext_list_item st p.isList (x := u) (by simpa using hu) fun h' st' sb => ?_
    have I1 : aM X pins σ H { s with heap := h' } := I.turned (t' := s.toks) (fun b o hb e => (sb.2 b hb).trans e) f0 f1 f3 f4 f5
    obtain ⟨o, e, c, d⟩ := id st'
    exact ⟨u, rfl, zm (s := { s with heap := h' }) e c d (by decide) ⟨x, H, I1, ru, ⟨rfl, fun ys hy => by rw [I.list_inj hy hq]; exact hx⟩, st', fun b hb => (hf b hb).1⟩⟩
  done := by
    intro X hP hw hK hc i pins s σ H E I hf st hg
    subst hP hw hK
    obtain ⟨xs, hq, hx⟩ := hg
    obtain ⟨its, rv, p, hz⟩ := I.list hq
    obtain ⟨f0, f1, f2, f3, f4, f5⟩ := hf it (by simp)
    have hl := rv.length
    exact wpAny_pyNext_list_end (I.ok.hd hc) st p.isList (by simp; omega) fun h' eb => ⟨rfl, I.turned (t' := s.toks) (fun b o hb e => eb b o hb e) f0 f1 f3 f4 f5⟩
  self := fun _ _ _ _ _ st h => wpAny_pyIter_listiter st h
theorem uw {P : Program} {w : World} {K : PySem.W.Frag} {tg : Expr} (a it : Addr) : sN P w K tg (EO K a) [it] it (fun i h => h.IsTupleIter it a i) where
  mem := by simp
  obj := fun i h st b hb => by
    have e : b = it := by simpa using hb
    subst e
    obtain ⟨o, e, c, d⟩ := st
    exact ⟨o, e, fun v z => by rw [d] at z; cases z⟩
  keep := fun i h h' st k => st.at fun o e => k it (by simp) o e
  item := by
    intro X hP hw hK hc i pins s σ H E I hf st hg
    subst hP hw hK
    obtain ⟨xs, x, hq, hx⟩ := hg
    obtain ⟨its, rv, p, hz⟩ := I.tuple hq
    obtain ⟨u, hu, ru⟩ := rv.get hx
    obtain ⟨f0, f1, f2, f3, f4, f5⟩ := hf it (by simp)
    refine wpAny_pyNext_tuple_item st (show s.heap.IsTuple a its.toArray from p) (x := u) (by simpa using hu) fun h' st' sb => ?_
    have I1 : aM X pins σ H { s with heap := h' } := I.turned (t' := s.toks) (fun b o hb e => (sb.2 b hb).trans e) f0 f1 f3 f4 f5
    obtain ⟨o, e, c, d⟩ := id st'
    exact ⟨u, rfl, zm (s := { s with heap := h' }) e c d (by decide) ⟨x, H, I1, ru, ⟨rfl, fun ys hy => by rw [I.tuple_inj hy hq]; exact hx⟩, st', fun b hb => (hf b hb).1⟩⟩
  done := by
    intro X hP hw hK hc i pins s σ H E I hf st hg
    subst hP hw hK
    obtain ⟨xs, hq, hx⟩ := hg
    obtain ⟨its, rv, p, hz⟩ := I.tuple hq
    obtain ⟨f0, f1, f2, f3, f4, f5⟩ := hf it (by simp)
    have hl := rv.length
    exact wpAny_pyNext_tuple_end (I.ok.hd hc) st (show s.heap.IsTuple a its.toArray from p) (by simp; omega) fun h' eb => ⟨rfl, I.turned (t' := s.toks) (fun b o hb e => eb b o hb e) f0 f1 f3 f4 f5⟩
  self := fun _ _ _ _ _ st h => wpAny_pyIter_tupleiter st h
theorem tz {P : Program} {w : World} {K : PySem.W.Frag} {tg : Expr} (it : Addr) (lo : Int) (n : Nat) : sN P w K tg (Ep lo n) [it] it (fun i h => IsRangeIter h it (lo + (i : Nat) * 1) ((n : Int) - (i : Nat)) 1) where
  mem := by simp
  obj := fun i h st b hb => by
    have e : b = it := by simpa using hb
    subst e
    exact ⟨_, st, fun v z => by
      have z' : Data.fields _ = Data.cell v := z
      cases z'⟩
  keep := fun i h h' st k => k it (by simp) _ st
  item := by
    intro X hP hw hK hc i pins s σ H E I hf st hg
    subst hP hw hK
    obtain ⟨f0, f1, f2, f3, f4, f5⟩ := hf it (by simp)
    have W := Walks.range (prog := X.prog) (w := X.w) (I.ok.hd hc) it lo 1 n
    refine W.item i s _ _ hg st fun v h' tk hv st' kk => ?_
    obtain ⟨t, rfl⟩ := hv
    have I1 : aM X pins σ H { s with heap := h', toks := tk } := I.turned (fun b o hb e => kk b o (by simpa using hb) e) f0 f1 f3 f4 f5
    refine ⟨_, rfl, zm (s := { s with heap := h', toks := tk }) (n := "range_iterator") st' rfl rfl (by decide) ⟨.int (lo + i), H, I1, ⟨t, ?_⟩, ⟨rfl, rfl⟩, st', fun b hb => (hf b hb).1⟩⟩
    rw [Int.mul_one]
  done := by
    intro X hP hw hK hc i pins s σ H E I hf st hg
    subst hP hw hK
    obtain ⟨f0, f1, f2, f3, f4, f5⟩ := hf it (by simp)
    exact wpAny_pyNext_range_end (I.ok.hd hc) st (by have : n ≤ i := hg; omega) fun h' eb => ⟨rfl, I.turned (t' := s.toks) (fun b o hb e => eb b o hb e) f0 f1 f3 f4 f5⟩
  self := fun _ _ _ _ _ st h => wpAny_pyIter_rangeiter st h
section
variable {X : Cx} {tg : Expr}
theorem xE {pins : List (Addr × Obj)} {σ : St} {H : Hp} {s : Shared} {R : It → Hp → Prop} {E : Value → Shared → Prop} {lo hi : Int} {t u v : Tok} {tk : Nat} (I : aM X pins σ H s) (h1 : -(2 ^ 62) ≤ lo) (h2 : lo < 2 ^ 62) (h3 : -(2 ^ 62) ≤ hi) (h4 : hi < 2 ^ 62)
    (q : R (Ep lo (hi - lo).toNat) H) : wpAny (model X.prog X.w) X.A (pyIter (.ref s.heap.objs.size)) (Fp X pins σ tg R) E { s with heap := s.heap.push { cls := .type "range", data := .fields #[.int lo t, .int hi u, .int 1 v] }, toks := tk } := by
  refine wpAny_pyIter_range (IsRange.new ..) (small_one h1 h2 h3 h4) ?_
  have I1 : aM X pins σ H { s with heap := s.heap.push { cls := .type "range", data := .fields #[.int lo t, .int hi u, .int 1 v] }, toks := tk } := I.kept fun b o e => Heap.get?_push_of_some _ e
  refine ⟨(s.heap.push { cls := .type "range", data := .fields #[.int lo t, .int hi u, .int 1 v] }).objs.size, [(s.heap.push { cls := .type "range", data := .fields #[.int lo t, .int hi u, .int 1 v] }).objs.size], _, _, H, rfl,
    I1.kept (t' := tk) fun b o e => Heap.get?_push_of_some _ e, tz _ lo (hi - lo).toNat, ?_, fun b hb => ?_, q⟩
  · have e1 : lo + ((0 : Nat) : Int) * 1 = lo := by simp
    have e2 : (((hi - lo).toNat : Nat) : Int) - ((0 : Nat) : Int) = Builtin.Range.rangeSize lo hi 1 := by rw [rangeSize_one]; split <;> omega
    show IsRangeIter _ _ (lo + ((0 : Nat) : Int) * 1) ((((hi - lo).toNat : Nat) : Int) - ((0 : Nat) : Int)) 1
    rw [e1, e2]
    exact Heap.get?_push_size _ rfl
  · have e : b = (s.heap.push { cls := .type "range", data := .fields #[.int lo t, .int hi u, .int 1 v] }).objs.size := by simpa using hb
    subst e
    exact I1.fpOk (Nat.le_refl _) (I1.hok.fresh (Nat.le_refl _))
def Dj (ta : TA) : TI := fun σ H R => ta σ H fun vs H1 => ∃ j : Int, vs = [.int j] ∧ -(2 ^ 62) ≤ j ∧ j < 2 ^ 62 ∧ R (Ep 0 j.toNat) H1
theorem wQ {a : Expr} {ta : TA} {p pos : Pos} (hg : Gl X "range") (hm : X.mg "range" = none) (ha : PA X [a] ta) (hs : starEach [a] X.env = [(false, eval a X.env)] := by rfl) : PI X tg (.Call (.Name "range" p) [a] [] pos) (Dj ta) := by
  intro pins s σ H R I h
  refine Call_ (iT I hg hm boot_range (PyProof.Rows.callWith_type1 (cQ (ha pos pins s σ H _ I h) fun us s1 ⟨vs, H1, I1, r1, q1⟩ => ?_) hs rfl))
  obtain ⟨j, e, q1, q2, q⟩ := q1
  subst e
  cases r1 with
  | cons r rr =>
    cases rr
    obtain ⟨t, rfl⟩ := r
    exact call_range_1 (xE I1 (by omega) (by omega) q1 q2 (by simpa using q))
def EU (wi : TI) (g : TG) (tb : TS) : TS := fun D σ H => wi σ H fun J H1 => ∃ W : Nat → Nat → St → Hp → Prop, (∃ m, W 0 m σ H1) ∧ ∀ i m σ H, W i m σ H →
  (J.stop i H ∧ D.nx σ H) ∨ (J.go i H ∧ ∃ N : St → Hp → Prop, (∀ σ' H', N σ' H' → ∃ m', m' < m ∧ W (i + 1) m' σ' H') ∧ ∀ x H', J.yld i H x H' → g x σ H' fun σ2 H2 => tb { D with nx := N, ct := N, bk := D.nx } σ2 H2)
def oo (fp : List Addr) (h : Heap) : List (Addr × Obj) := fp.filterMap fun b => (h.get? b).map fun o => (b, o)
theorem iQ {fp : List Addr} {h : Heap} {b : Addr} {o : Obj} (hb : b ∈ fp) (e : h.get? b = some o) : (b, o) ∈ oo fp h := List.mem_filterMap.mpr ⟨b, hb, by rw [e]; rfl⟩
theorem w4 {fp : List Addr} {h : Heap} {p : Addr × Obj} (hp : p ∈ oo fp h) : p.1 ∈ fp ∧ h.get? p.1 = some p.2 := by
  obtain ⟨b, hb, e⟩ := List.mem_filterMap.mp hp
  cases q : h.get? b with
  | none => rw [q] at e; cases e
  | some o =>
    rw [q] at e
    have e' : (b, o) = p := Option.some.inj e
    subst e'
    exact ⟨hb, q⟩
theorem aM.pinned {pins : List (Addr × Obj)} {σ : St} {H : Hp} {s : Shared} {fp : List Addr} (I : aM X pins σ H s) (hf : ∀ b ∈ fp, mh X pins H b) (ho : ∀ b ∈ fp, ∃ o, s.heap.get? b = some o ∧ ∀ v, o.data ≠ .cell v) : aM X (pins ++ oo fp s.heap) σ H s :=
  I.pins_of fun p hp => (List.mem_append.mp hp).elim (fun z => I.pin p (List.mem_append_right _ z)) fun z => by
    obtain ⟨hb, e⟩ := w4 z
    obtain ⟨f0, f1, f2, _⟩ := hf p.1 hb
    obtain ⟨o, e', d⟩ := ho p.1 hb
    rw [e] at e'; cases e'
    exact ⟨e, f0, f1, f2, d⟩
theorem aM.unpinned {pins pl : List (Addr × Obj)} {σ : St} {H : Hp} {s : Shared} (I : aM X (pins ++ pl) σ H s) : aM X pins σ H s := I.pins_of fun p hp => I.pin p (List.mem_append_right _ (List.mem_append_left _ hp))
theorem BR {iter : Expr} {body : List Stmt} {wi : TI} {g : TG} {tb : TS} {pos : Pos} (hp : PassesOwn (model X.prog X.w) X.A X.env X.xe) (hc : X.calm = true) (hi : PI X tg iter wi) (hg : PG X tg g) (hb : rj X body tb)
    (hs : ∀ x, foldedSetIterable iter X.env x = pure x := by intro _; rfl) : PS X (.For tg iter body [] pos) (EU wi g tb) := by
  intro pins s σ H D I h
  refine wpAny_For (cQ (hi pins s σ H _ I h) fun v s1 h1 => cQ h1 fun itv s2 h2 => ?_) hs
  obtain ⟨it, fp, tn, J, H2, e, I2, T, st2, f2, W, ⟨m0, w0⟩, turn⟩ := h2
  subst e
  -- what stays true of the iterator's objects through the loop
  have stat : ∀ {H' : Hp}, (∀ b ∈ fp, H' b = none) → ∀ b ∈ fp, mh X pins H' b := fun hn b hb => ⟨hn b hb, (f2 b hb).2⟩
  refine codeAny_forLoop_any (fun n s' => ∃ i σ' H', aM X pins σ' H' s' ∧ tn i s'.heap ∧ (∀ b ∈ fp, H' b = none) ∧ W i n σ' H') ?_ m0 ⟨0, σ, H2, I2, st2, fun b hb => (f2 b hb).1, w0⟩
  rintro n s3 ⟨i, σ3, H3, I3, st3, fr3, w3⟩
  rcases turn i n σ3 H3 w3 with ⟨stop, qn⟩ | ⟨go, N, hN, step⟩
  · refine wpAny_passesOwn hp (cQ (T.done X rfl rfl rfl hc i pins s3 σ3 H3 X.xe I3 (stat fr3) st3 stop) fun r s4 ⟨hr, I4⟩ => ?_)
    subst hr
    exact wpAny_execs_nil ⟨σ3, H3, I4, qn⟩
  · refine wpAny_passesOwn hp (cQ (T.item X rfl rfl rfl hc i pins s3 σ3 H3 X.xe I3 (stat fr3) st3 go) fun r s4 ⟨u, hr, h4⟩ => ?_)
    subst hr
    refine wpAny_passesOwn hp (cQ h4 fun _ s5 ⟨x, H5, I5, r5, y5, st5, fr5⟩ => ?_)
    have I5' := I5.pinned (stat fr5) (T.obj _ _ st5)
    refine wpAny_passesOwn hp (cQ (hg _ s5 σ3 H5 x u _ I5' r5 (step x H5 y5)) fun _ s6 ⟨σ6, H6, I6, q6⟩ => ?_)
    refine wpAny_passesOwn hp (cQ (hb _ s6 σ6 H6 _ I6 q6) fun f s7 q7 => ?_)
    have again : ∀ {σ7 : St} {H7 : Hp}, aM X (pins ++ oo fp s5.heap) σ7 H7 s7 → N σ7 H7 → ∃ m, m < n ∧ ∃ i σ' H', aM X pins σ' H' s7 ∧ tn i s7.heap ∧ (∀ b ∈ fp, H' b = none) ∧ W i m σ' H' := fun {σ7 H7} I7 n7 => by
      obtain ⟨m', hm, w7⟩ := hN σ7 H7 n7
      refine ⟨m', hm, i + 1, σ7, H7, I7.unpinned, T.keep _ _ _ st5 fun b hb o e => (I7.pin (b, o) (List.mem_append_right _ (List.mem_append_right _ (iQ hb e)))).1, fun b hb => ?_, w7⟩
      obtain ⟨o, e, d⟩ := T.obj _ _ st5 b hb
      exact (I7.pin (b, o) (List.mem_append_right _ (List.mem_append_right _ (iQ hb e)))).2.1
    cases f with
    | next => obtain ⟨σ7, H7, I7, n7⟩ := q7; exact again I7 n7
    | cont => obtain ⟨σ7, H7, I7, n7⟩ := q7; exact again I7 n7
    | brk => obtain ⟨σ7, H7, I7, q7⟩ := q7; exact ⟨σ7, H7, I7.unpinned, q7⟩
    | ret v => obtain ⟨x7, σ7, H7, I7, r7, q7⟩ := q7; exact ⟨x7, σ7, H7, I7.unpinned, r7, q7⟩
end
abbrev R2 := V → V → Hp → VK → Prop
def iZ (X : Cx) (f : Value → Value → Sem Value) (r : R2) : Prop :=
  ∀ (pins : List (Addr × Obj)) (s : Shared) (σ : St) (H : Hp) (x y : V) (v u : Value) (Q : VK), aM X pins σ H s → bA x v → bA y u → r x y H Q →
    wpAny (model X.prog X.w) X.A (f v u) (EP X pins σ Q) X.xe s
def dP (X : Cx) (f : Value) (r : List V → Hp → VK → Prop) : Prop :=
  ∀ (pins : List (Addr × Obj)) (s : Shared) (σ : St) (H : Hp) (xs : List V) (us : List Value) (Q : VK), aM X pins σ H s → bt xs us → r xs H Q →
    wpAny (model X.prog X.w) X.A (call f us) (EP X pins σ Q) X.xe s
def Dk (r : R2) (ta tb : TE) : TE := fun σ H Q => ta σ H fun x H1 => tb σ H1 fun y H2 => r x y H2 Q
def rI (C : Int → Int → Prop) (g : Int → Int → V) : R2 := fun x y H Q => ∃ i j, x = .int i ∧ y = .int j ∧ C i j ∧ Q (g i j) H
def zx (g : Int → Int → V) : R2 := fun x y H Q => ∃ i j, x = .int i ∧ y = .int j ∧ Q (g i j) H
section
variable {X : Cx} {a b c : Expr} {ta tb tc : TE} {pos : Pos}
theorem Ct (ha : PE X a ta) (hb : PE X b tb) {pins : List (Addr × Obj)} {s : Shared} {σ : St} {H : Hp} {R : V → V → Hp → Prop} (I : aM X pins σ H s)
    (h : ta σ H fun x H1 => tb σ H1 fun y H2 => R x y H2) {Q : Value → Shared → Prop} {f : Value → Value → Sem Value}
    (hf : ∀ v u s2 x y H2, aM X pins σ H2 s2 → bA x v → bA y u → R x y H2 → wpAny (model X.prog X.w) X.A (f v u) Q X.xe s2) :
    wpAny (model X.prog X.w) X.A (eval a X.env) (fun v s₁ => wpAny (model X.prog X.w) X.A (eval b X.env) (fun u s₂ => wpAny (model X.prog X.w) X.A (f v u) Q X.xe s₂) X.xe s₁) X.xe s := by
  refine cQ (ha pins s σ H _ I h) fun v s1 ⟨x, H1, I1, r1, q1⟩ => ?_
  refine cQ (hb pins s1 σ H1 _ I1 q1) fun u s2 ⟨y, H2, I2, r2, q2⟩ => ?_
  exact hf v u s2 x y H2 I2 r1 r2 q2
theorem D6 {op : Operator} {r : R2} (ho : iZ X (binaryOp op) r) (ha : PE X a ta) (hb : PE X b tb) : PE X (.BinOp a op b pos) (Dk r ta tb) := by
  intro pins s σ H Q I h
  exact wpAny_BinOp (Ct ha hb I h fun v u s2 x y H2 I2 rx ry q => ho pins s2 σ H2 x y v u Q I2 rx ry q)
theorem EK {f : Value → Value → Sem Value} {C : Int → Int → Prop} {g : Int → Int → Int}
    (rule : ∀ (i j : Int) (t u : Tok) (s : Shared) (Q : Value → Shared → Prop) (E : Value → Shared → Prop), C i j → Q (.int (g i j) s.toks) { s with toks := s.toks + 1 } → wpAny (model X.prog X.w) X.A (f (.int i t) (.int j u)) Q E s) :
    iZ X f (rI C fun i j => .int (g i j)) := by
  intro pins s σ H x y v u Q I rx ry h
  obtain ⟨i, j, rfl, rfl, hc, q⟩ := h
  obtain ⟨t, rfl⟩ := rx
  obtain ⟨t', rfl⟩ := ry
  exact rule i j t t' s _ _ hc ⟨.int (g i j), H, I.tok _, ⟨_, rfl⟩, q⟩
theorem Du {f : Value → Value → Sem Value} {g : Int → Int → Int}
    (rule : ∀ (i j : Int) (t u : Tok) (s : Shared) (Q : Value → Shared → Prop) (E : Value → Shared → Prop), Q (.int (g i j) s.toks) { s with toks := s.toks + 1 } → wpAny (model X.prog X.w) X.A (f (.int i t) (.int j u)) Q E s) :
    iZ X f (zx fun i j => .int (g i j)) := by
  intro pins s σ H x y v u Q I rx ry h
  obtain ⟨i, j, rfl, rfl, q⟩ := h
  obtain ⟨t, rfl⟩ := rx
  obtain ⟨t', rfl⟩ := ry
  exact rule i j t t' s _ _ ⟨.int (g i j), H, I.tok _, ⟨_, rfl⟩, q⟩
theorem Cr {f : Value → Value → Sem Value} {g : Int → Int → Bool}
    (rule : ∀ (i j : Int) (t u : Tok) (s : Shared) (Q : Value → Shared → Prop) (E : Value → Shared → Prop), Q (.bool (g i j)) s → wpAny (model X.prog X.w) X.A (f (.int i t) (.int j u)) Q E s) :
    iZ X f (zx fun i j => .bl (g i j)) := by
  intro pins s σ H x y v u Q I rx ry h
  obtain ⟨i, j, rfl, rfl, q⟩ := h
  obtain ⟨t, rfl⟩ := rx
  obtain ⟨t', rfl⟩ := ry
  exact rule i j t t' s _ _ ⟨.bl (g i j), H, I, rfl, q⟩
def Dm (i j : Int) : Prop := 0 < j ∧ j < 1073741824
def Am (i j : Int) : Prop := (-(2 ^ 64) < i ∧ i < 2 ^ 64) ∨ (-(2 ^ 64) < j ∧ j < 2 ^ 64)
theorem Am.ok {i j : Int} (h : Am i j) : IntMulOk i j := by
  rcases h with ⟨h1, h2⟩ | ⟨h1, h2⟩
  · exact .of_left (intBits_le_64 h1 h2)
  · exact .of_right (intBits_le_64 h1 h2)
theorem B5 : iZ X (binaryOp .Add) (zx fun i j => .int (i + j)) := Du fun _ _ _ _ _ _ _ q => add_int q
theorem Cm : iZ X (binaryOp .Sub) (zx fun i j => .int (i - j)) := Du fun _ _ _ _ _ _ _ q => sub_int q
theorem Co : iZ X (binaryOp .Mult) (rI Am fun i j => .int (i * j)) := EK fun _ _ _ _ _ _ _ hc q => mul_int q hc.ok
theorem zS : iZ X (binaryOp .FloorDiv) (rI Dm fun i j => .int (i / j)) := EK fun i j _ _ _ _ _ hc q => by
  have h1 : (0 : Int) < j := hc.1
  have h2 : j < 1073741824 := hc.2
  exact floordiv_int (by omega) (by rw [Int.fdiv_eq_ediv_of_nonneg i (by omega)]; exact q) (.inl (PyProof.noPylong_small (by omega)))
theorem B0 : iZ X (binaryOp .Mod) (rI (fun _ j => 0 < j) fun i j => .int (i % j)) := EK fun i j _ _ _ _ _ hc q => by
  have h1 : (0 : Int) < j := hc
  exact mod_int' (by omega) (by rw [Int.fmod_eq_emod_of_nonneg i (by omega)]; exact q)
end
section
variable {X : Cx} {a b c : Expr} {ta tb tc : TE} {pos : Pos}
theorem yq {pins : List (Addr × Obj)} {σ : St} {H : Hp} {s : Shared} {Q : VK} {k k' : Bool} (I : aM X pins σ H s) (q : Q (.bl k) H) (e : k = k') : EP X pins σ Q (.bool k') s := by
  subst e
  exact ⟨.bl k, H, I, rfl, q⟩
theorem Db : iZ X (compareOp .Lt) (zx fun i j => .bl (decide (i < j))) := Cr fun _ _ _ _ _ _ _ q => lt_int q
theorem Bh : iZ X (compareOp .LtE) (zx fun i j => .bl (decide (i ≤ j))) := Cr fun _ _ _ _ _ _ _ q => le_int q
theorem Bn : iZ X (compareOp .Gt) (zx fun i j => .bl (decide (j < i))) := Cr fun _ _ _ _ _ _ _ q => gt_int q
theorem xW : iZ X (compareOp .Is) (fun x y H Q => y = .non ∧ Q (.bl (decide (x = .non))) H) := by
  intro pins s σ H x y v u Q I rx ry h
  obtain ⟨rfl, q⟩ := h
  cases ry
  refine is_none_gen (yq I q ?_)
  cases x <;> first
    | (cases rx; rfl)
    | (obtain ⟨t, rfl⟩ := rx; rfl)
theorem zM : iZ X (compareOp .IsNot) (fun x y H Q => y = .non ∧ Q (.bl (!decide (x = .non))) H) := by
  intro pins s σ H x y v u Q I rx ry h
  obtain ⟨rfl, q⟩ := h
  cases ry
  refine isnot_none_gen (yq I q ?_)
  cases x <;> first
    | (cases rx; rfl)
    | (obtain ⟨t, rfl⟩ := rx; rfl)
theorem iZ.or {f : Value → Value → Sem Value} {r r' : R2} (h : iZ X f r) (h' : iZ X f r') : iZ X f (fun x y H Q => r x y H Q ∨ r' x y H Q) := by
  intro pins s σ H x y v u Q I rx ry q
  rcases q with q | q
  · exact h pins s σ H x y v u Q I rx ry q
  · exact h' pins s σ H x y v u Q I rx ry q
theorem iG (b : Expr) {op : CmpOp} (h : op ≠ .In := by decide) (h2 : op ≠ .NotIn := by decide) : behindInMarks op b = false := by
  have e1 : (op == CmpOp.In) = false := by cases op <;> first | rfl | exact absurd rfl h
  have e2 : (op == CmpOp.NotIn) = false := by cases op <;> first | rfl | exact absurd rfl h2
  cases b <;> simp [behindInMarks, e1, e2]
theorem AZ {op : CmpOp} {r : R2} (ho : iZ X (compareOp op) r) (ha : PE X a ta) (hb : PE X b tb) (hm : behindInMarks op b = false) : PE X (.Compare a [op] [b] pos) (Dk r ta tb) := by
  intro pins s σ H Q I h
  exact wpAny_Compare1 (Ct ha hb I h fun v u s2 x y H2 I2 rx ry q => ho pins s2 σ H2 x y v u Q I2 rx ry q) hm
def D7 (t : TE) : TT := fun σ H Q => t σ H fun x H' => ∃ k, x = .bl k ∧ Q k H'
theorem Ah {op : CmpOp} {r : R2} (ho : iZ X (compareOp op) r) (ha : PE X a ta) (hb : PE X b tb) (hm : behindInMarks op b = false) : PT X (.Compare a [op] [b] pos) (D7 (Dk r ta tb)) := by
  intro pins s σ H Q I h
  refine wpAny_isTrue_Compare1 (cQ (ha pins s σ H _ I h) fun v s1 ⟨x, H1, I1, r1, q1⟩ => cQ (hb pins s1 σ H1 _ I1 q1) fun u s2 ⟨y, H2, I2, r2, q2⟩ =>
    cQ (ho pins s2 σ H2 x y v u _ I2 r1 r2 q2) fun c s3 ⟨z, H3, I3, r3, k, e, q3⟩ => ?_) hm
  subst e
  cases r3
  exact wpAny_truthy_bool ⟨H3, I3, q3⟩
def xo (r r' : R2) (ta tb tc : TE) : TE := fun σ H Q => ta σ H fun x H1 => tb σ H1 fun y H2 => r x y H2 fun z H3 => ∃ k, z = .bl k ∧
  (if k = true then tc σ H3 fun w' H4 => r' y w' H4 Q else Q (.bl false) H3)
theorem yC {op op' : CmpOp} {r r' : R2} (ho : iZ X (compareOp op) r) (ho' : iZ X (compareOp op') r') (ha : PE X a ta) (hb : PE X b tb) (hc : PE X c tc)
    (hm : lastMarks [op, op'] [b, c] = false := by with_unfolding_all rfl) : PE X (.Compare a [op, op'] [b, c] pos) (xo r r' ta tb tc) := by
  intro pins s σ H Q I h
  refine Compare_chain (cQ (ha pins s σ H _ I h) fun v s1 ⟨x, H1, I1, r1, q1⟩ => chain_link (cQ (hb pins s1 σ H1 _ I1 q1) fun u s2 ⟨y, H2, I2, r2, q2⟩ =>
    cQ (ho pins s2 σ H2 x y v u _ I2 r1 r2 q2) fun d s3 ⟨z, H3, I3, r3, k, e, q3⟩ => ?_)) hm
  subst e
  cases r3
  refine wpAny_truthy_bool ?_
  cases k with
  | false => exact ite_ff ⟨.bl false, H3, I3, rfl, q3⟩
  | true => exact ite_tt (chain_last (cQ (hc pins s3 σ H3 _ I3 q3) fun w' s4 ⟨z', H4, I4, r4, q4⟩ => ho' pins s4 σ H4 y z' u w' Q I4 r2 r4 q4))
theorem mx : (sizeLine : Nat) < 2 ^ 63 := by rw [sizeLine_eq]; decide
theorem gy {x : V} {us : List Value} (r : bt [x] us) : ∃ u, us = [u] ∧ bA x u := by
  cases r with
  | cons r1 r2 => cases r2; exact ⟨_, rfl, r1⟩
theorem vM {x y : V} {us : List Value} (r : bt [x, y] us) : ∃ u w', us = [u, w'] ∧ bA x u ∧ bA y w' := by
  cases r with
  | cons r1 r2 =>
    cases r2 with
    | cons r3 r4 => cases r4; exact ⟨_, _, rfl, r1, r3⟩
theorem wa (hc : X.calm = true) : dP X (.builtin "max") (fun xs H Q => ∃ i j, xs = [.int i, .int j] ∧ Q (.int (if j > i then j else i)) H) := by
  intro pins s σ H xs us Q I r h
  obtain ⟨i, j, rfl, q⟩ := h
  obtain ⟨u, w', rfl, ⟨t, rfl⟩, ⟨t', rfl⟩⟩ := vM r
  refine max_two_ints (I.ok.hd hc) fun h' tk k => ⟨_, H, I.kept k, ?_, q⟩
  by_cases hj : j > i
  · rw [if_pos hj, if_pos hj]; exact ⟨_, rfl⟩
  · rw [if_neg hj, if_neg hj]; exact ⟨_, rfl⟩
theorem vV (hc : X.calm = true) : dP X (.builtin "min") (fun xs H Q => ∃ i j, xs = [.int i, .int j] ∧ Q (.int (if j < i then j else i)) H) := by
  intro pins s σ H xs us Q I r h
  obtain ⟨i, j, rfl, q⟩ := h
  obtain ⟨u, w', rfl, ⟨t, rfl⟩, ⟨t', rfl⟩⟩ := vM r
  refine min_two_ints (I.ok.hd hc) fun h' tk k => ⟨_, H, I.kept k, ?_, q⟩
  by_cases hj : j < i
  · rw [if_pos hj, if_pos hj]; exact ⟨_, rfl⟩
  · rw [if_neg hj, if_neg hj]; exact ⟨_, rfl⟩
theorem wd : dP X (.type "int") (fun xs H Q => (∃ i, xs = [.int i] ∧ Q (.int i) H) ∨ ∃ k, xs = [.bl k] ∧ Q (.int (if k then 1 else 0)) H) := by
  intro pins s σ H xs us Q I r h
  rcases h with ⟨i, rfl, q⟩ | ⟨k, rfl, q⟩
  · obtain ⟨u, rfl, t, rfl⟩ := gy r
    exact call_int_int ⟨.int i, H, I, ⟨_, rfl⟩, q⟩
  · obtain ⟨u, rfl, r1⟩ := gy r
    cases r1
    exact call_int_bool ⟨.int (if k then 1 else 0), H, I.tok _, ⟨_, rfl⟩, q⟩
end
structure wm (h : Heap) (x dx C : Addr) (mA : Str → Option Value) : Prop where
  obj : h.get? x = some (PySem.W.instObj C dx)
  ns : h.Ns1 dx mA
  ne : dx ≠ x
theorem wt {h : Heap} {dx : Addr} {mA : Str → Option Value} (n : h.Ns1 dx mA) : ∃ od, h.get? dx = some od ∧ ∀ name, PySem.W.lookIn name od = some (mA name) := by
  obtain ⟨o, es, ep, ho, hd, hk, _, hm⟩ := n
  refine ⟨o, ho, fun name => ?_⟩
  have e := hm name
  unfold nsFind findBy at e
  rw [← Array.find?_toList] at e
  unfold PySem.W.lookIn
  rw [hd]
  dsimp only
  split
  · rename_i y q
    rw [q] at e
    exact congrArg some e
  · rename_i q
    rw [q] at e
    have a : es.toList.any (·.refKey) = false := by
      rw [List.any_eq_false]
      intro y hy
      obtain ⟨z, t, hkey⟩ := hk y (Array.mem_toList_iff.mp hy)
      simp [DictEntry.refKey, hkey]
    have a' : ¬ es.toList.any (·.refKey) = true := by rw [a]; exact Bool.false_ne_true
    rw [if_neg a']
    exact congrArg some e
theorem wm.look {h : Heap} {x dx C : Addr} {mA : Str → Option Value} (I : wm h x dx C mA) : ∃ od, PySem.W.InstAt h x (PySem.W.instObj C dx) C (some od) ∧ ∀ name, PySem.W.lookIn name od = some (mA name) :=
  let ⟨od, ho, hl⟩ := wt I.ns
  ⟨od, ⟨I.obj, rfl, rfl, ho⟩, hl⟩
section
variable {prog : Program} {w : World} {A : Around} {E : Value → Shared → Prop} {s : Shared} {K : PySem.W.Frag} {x dx C f : Addr} {mA : Str → Option Value} {name : Str} {v : Value}
theorem AR {expr : Bool} {Q : Value → Shared → Prop} (X : K.In s.heap) (I : wm s.heap x dx C mA) (hg : PySem.W.plainGet K C name = true) (hh : PySem.W.hasDictIn K C = true)
    (ha : PySem.W.findIn K (.ref C) name = some none) (hv : mA name = some v) (hv' : PySem.W.handedIn v = true) (h : Q v { s with toks := s.toks + 1 }) :
    wpAny (model prog w) A (getAttr (.ref x) name expr) Q E s := by
  obtain ⟨od, J, hl⟩ := I.look
  exact PySem.W.get_value X J (PySem.W.plainGet_of hg).1 (PySem.W.findObj_own hh ha rfl (by rw [hl, hv])) hv' h
theorem AQ {ns : List Str} {Q : Unit → Shared → Prop} (X : K.In s.heap) (I : wm s.heap x dx C mA)
    (hs : PySem.W.findIn K (.ref C) "__setattr__" = some (some (.builtin "object.__setattr__"))) (hp : PySem.W.plainOver K C = true) (ht : PySem.W.takerIn K C name = some none) (hh : PySem.W.hasDictIn K C = true)
    (hw : PySem.Within mA ns) (hsz : ns.length ≤ sizeLine)
    (h : ∀ h', wm h' x dx C (fun y => if y = name then some v else mA y) → Heap.SameBut dx s.heap h' → Q () { s with heap := h', toks := s.toks + 2 }) :
    wpAny (model prog w) A (setAttr (.ref x) name v) Q E s := by
  obtain ⟨od, J, hl⟩ := I.look
  refine PySem.W.set_plain X J hs (PySem.W.osa_open (s := { s with toks := s.toks + 1 }) (r := none) X J hp ht fun b => ?_)
  obtain ⟨cd, hc, hd'⟩ := PySem.W.any_some hh
  have hx : s.heap.get? x = some ⟨.ref C, some dx, .plain, #[]⟩ := I.obj
  refine wpAny_bind (wpAny_pure (wpAny_bind (wpAny_bind (wpAny_loadPart hx (wpAny_bind (PySem.W.Looks.here (s := { s with toks := s.toks + 1 }) (PySem.W.looks_clsIn X hc) ?_))))))
  rw [hd']
  refine wpAny_pure (a := some dx) (wpAny_bind (wpAny_pure (wpAny_bind ?_)))
  refine wpAny_nsSet1 (s := { s with toks := s.toks + 1 }) I.ns fun h' hn2 hs2 => ?_
  obtain ⟨oD, esD, epD, hoD, hdD, hcD⟩ := hn2.count (PySem.Within.cons name v hw)
  refine wpAny_bind (wpAny_lookBehind hoD (by rw [hdD]; exact pastItsLine_dict (Nat.le_trans hcD (by rw [List.length_cons]; omega))) ?_)
  exact wpAny_pure (h _ ⟨(hs2.2 _ (Ne.symm I.ne)).trans I.obj, hn2, I.ne⟩ hs2)
theorem x8 {R : Result → Shared → Prop} {vs : List Value} {kw : List (Str × Value)} (X : K.In s.heap) (hm : PySem.W.makesIn K C = true)
    (hi : PySem.W.findIn K (.ref C) "__init__" = some (some (.ref f))) (hf : PySem.W.typeIn K (.ref f) = some (.type "function"))
    (h : codeAny (model prog w) (A.under (.builtin "type.__call__" ⟨.ref C :: vs, kw⟩)) (.call (.ref f) ⟨.ref (s.heap.objs.size + 1) :: vs, kw⟩) (PySem.W.InitBack (s.heap.objs.size + 1) R)
      { s with heap := (s.heap.push PySem.W.emptyDict).push (PySem.W.instObj C s.heap.objs.size) }) :
    codeAny (model prog w) A (.call (.ref C) ⟨vs, kw⟩) R s := by
  obtain ⟨hh, g, d, t, os⟩ := s
  exact PySem.W.make_core (PySem.W.makes_of X hm) (PySem.W.looks_findIn X hi) (fun self => PySem.W.bind_fn X self hf) (.inl rfl) h
end
def io (f : Str) (v : V) : List (Str × V) → List (Str × V)
  | [] => [(f, v)]
  | (g, x) :: r => if g = f then (g, v) :: r else (g, x) :: io f v r
theorem mF (f g : Str) (v : V) : ∀ fs : List (Str × V), (io f v fs).lookup g = if g = f then some v else fs.lookup g
  | [] => by
    show List.lookup g [(f, v)] = _
    by_cases h : g = f
    · have hb : (g == f) = true := beq_iff_eq.mpr h
      simp only [List.lookup, hb, if_pos h]
    · have hb : (g == f) = false := beq_eq_false_iff_ne.mpr h
      simp only [List.lookup, hb, if_neg h]
  | (k, x) :: r => by
    have ih := mF f g v r
    rw [show io f v ((k, x) :: r) = (if k = f then (k, v) :: r else (k, x) :: io f v r) from rfl]
    by_cases hk : k = f
    · rw [if_pos hk]
      by_cases h : g = k
      · have hb : (g == k) = true := beq_iff_eq.mpr h
        simp only [List.lookup, hb, if_pos (h.trans hk)]
      · have hb : (g == k) = false := beq_eq_false_iff_ne.mpr h
        simp only [List.lookup, hb, if_neg (fun e : g = f => h (e.trans hk.symm))]
    · rw [if_neg hk]
      by_cases h : g = k
      · have hb : (g == k) = true := beq_iff_eq.mpr h
        simp only [List.lookup, hb, if_neg (fun e : g = f => hk (h.symm.trans e))]
      · have hb : (g == k) = false := beq_eq_false_iff_ne.mpr h
        simp only [List.lookup, hb]
        exact ih
theorem l8 (f : Str) (v : V) : ∀ fs : List (Str × V), f ∈ (io f v fs).map (·.1) ∧ ∀ g, g ∈ fs.map (·.1) → g ∈ (io f v fs).map (·.1)
  | [] => ⟨by simp [io], fun g h => by simp at h⟩
  | (k, x) :: r => by
    obtain ⟨i1, i2⟩ := l8 f v r
    rw [show io f v ((k, x) :: r) = (if k = f then (k, v) :: r else (k, x) :: io f v r) from rfl]
    by_cases hk : k = f
    · rw [if_pos hk]
      subst hk
      exact ⟨by simp, fun g h => by simpa using h⟩
    · rw [if_neg hk]
      refine ⟨?_, fun g h => ?_⟩
      · rw [List.map_cons]
        exact List.mem_cons_of_mem _ i1
      · rw [List.map_cons] at h ⊢
        rcases List.mem_cons.mp h with e | e
        · exact List.mem_cons.mpr (.inl e)
        · exact List.mem_cons_of_mem _ (i2 g e)
theorem gT (f : Str) (v : V) : ∀ fs : List (Str × V), (io f v fs).length ≤ fs.length + 1
  | [] => by simp [io]
  | (k, x) :: r => by
    have ih := gT f v r
    rw [show io f v ((k, x) :: r) = (if k = f then (k, v) :: r else (k, x) :: io f v r) from rfl]
    by_cases hk : k = f
    · rw [if_pos hk, List.length_cons, List.length_cons]; omega
    · rw [if_neg hk, List.length_cons, List.length_cons]; omega
theorem lN.some_of {v : V} {o : Option Value} (r : lN (some v) o) : ∃ u, o = some u ∧ bA v u := by
  cases o with
  | none => exact (show False from r).elim
  | some u => exact ⟨u, rfl, r⟩
theorem xb {v : V} {u : Value} (r : bA v u) : PySem.W.handedIn u = true := by
  cases v with
  | non => cases (show u = Value.none from r); rfl
  | bl b => cases (show u = Value.bool b from r); rfl
  | int i => obtain ⟨t, e⟩ := (show ∃ t, u = Value.int i t from r); cases e; rfl
  | str x => obtain ⟨t, e⟩ := (show ∃ t, u = Value.str x t from r); cases e; rfl
  | byt b => obtain ⟨t, e⟩ := (show ∃ t, u = Value.bytes b t from r); cases e; rfl
  | flt b => obtain ⟨t, e⟩ := (show ∃ t, u = Value.float b t from r); cases e; rfl
  | ref a => cases (show u = Value.ref a from r); rfl
  | ty n => cases (show u = Value.type n from r); rfl
section
variable {P : Program} {w : World} {H H' : Hp} {h h' : Heap} {a C dx : Addr} {fs fs' : List (Str × V)}
theorem vk (hok : il P w H h) (e : H a = some (.ins C dx fs)) : ∃ mA, wm h a dx C mA ∧ (∀ f, lN (fs.lookup f) (mA f)) ∧ PySem.Within mA (fs.map (·.1)) ∧ fs.length ≤ 1000 ∧ H dx = some (.own a) := by
  obtain ⟨d, z, ne, ob, mA, n, r, q⟩ := (show bR P w H h a (.ins C dx fs) from hok a _ e)
  exact ⟨mA, ⟨ob, n, ne⟩, r, q, z, d⟩
end
structure wl (K : PySem.W.Frag) (C : Addr) : Prop where
  pg : PySem.W.plainGet K C Str.empty = true
  hd : PySem.W.hasDictIn K C = true
  po : PySem.W.plainOver K C = true
  sa : PySem.W.findIn K (.ref C) "__setattr__" = some (some (.builtin "object.__setattr__"))
theorem wl.get {K : PySem.W.Frag} {C : Addr} (c : wl K C) (f : Str) : PySem.W.plainGet K C f = true := c.pg
def dN (K : PySem.W.Frag) (C : Addr) (f : Str) : Prop := PySem.W.findIn K (.ref C) f = some none
theorem dN.taker {K : PySem.W.Frag} {C : Addr} {f : Str} (n : dN K C f) : PySem.W.takerIn K C f = some none := by
  unfold PySem.W.takerIn
  rw [show PySem.W.findIn K (.ref C) f = some none from n]
  rfl
section
variable {X : Cx} {pins : List (Addr × Obj)} {σ : St} {H : Hp} {s : Shared} {a C dx : Addr} {fs : List (Str × V)} {f : Str} {v : V} {A : Around} {E : Value → Shared → Prop}
theorem tW {y : V} {u : Value} {Q : Unit → Shared → Prop} (I : aM X pins σ H s) (e : H a = some (.ins C dx fs)) (c : wl X.K C) (n : dN X.K C f) (hl : fs.length < 1000) (ry : bA y u)
    (h : ∀ s', aM X pins σ (cm H a (.ins C dx (io f y fs))) s' → Q () s') : wpAny (model X.prog X.w) A (setAttr (.ref a) f u) Q E s := by
  obtain ⟨mA, O, r, wi, _, ho⟩ := vk I.hok e
  have hz : (fs.map (·.1)).length ≤ sizeLine := by rw [List.length_map, sizeLine_eq]; omega
  refine AQ I.kIn O c.sa c.po n.taker c.hd wi hz fun h' O' sb => h _ ?_
  have hd : ∃ o, h'.get? dx = some o := let ⟨o, _, _, e', _⟩ := O'.ns; ⟨o, e'⟩
  refine I.write (x := a) (e := dx) (by rw [e]; exact True.intro) (.inr ho) (fun b q hb z => (sb.2 b hb).trans z) hd ?_
  refine ⟨by rw [au O.ne]; exact ho, ?_, O.ne, O'.obj, _, O'.ns, fun g => ?_, fun g hg => ?_⟩
  · have := gT f y fs; omega
  · show lN ((io f y fs).lookup g) (if g = f then some u else mA g)
    rw [mF]
    by_cases q : g = f
    · rw [if_pos q, if_pos q]; exact ry
    · rw [if_neg q, if_neg q]; exact r g
  · by_cases q : g = f
    · rw [q]; exact (l8 f y fs).1
    · refine (l8 f y fs).2 g (wi g fun z => hg ?_)
      show (if g = f then some u else mA g) = none
      rw [if_neg q]; exact z
theorem aM.made (I : aM X pins σ H s) : aM X pins σ (cm (cm H s.heap.objs.size (.own (s.heap.objs.size + 1))) (s.heap.objs.size + 1) (.ins C s.heap.objs.size []))
    { s with heap := (s.heap.push PySem.W.emptyDict).push (PySem.W.instObj C s.heap.objs.size) } := by
  have e1 : (s.heap.push PySem.W.emptyDict).get? s.heap.objs.size = some PySem.W.emptyDict := Heap.get?_push_size s.heap rfl
  have e2 : ((s.heap.push PySem.W.emptyDict).push (PySem.W.instObj C s.heap.objs.size)).get? (s.heap.objs.size + 1) = some (PySem.W.instObj C s.heap.objs.size) := by
    have := Heap.get?_push_size (s.heap.push PySem.W.emptyDict) (o := PySem.W.instObj C s.heap.objs.size) rfl
    rwa [Heap.size_push] at this
  have e3 : (s.heap.push PySem.W.emptyDict).Ns s.heap.objs.size (fun _ => none) := ⟨PySem.W.emptyDict, #[], _, e1, rfl, (fun e he => absurd he (by simp)), fun _ => rfl⟩
  have I1 := I.laid (a := s.heap.objs.size) (o := .own (s.heap.objs.size + 1)) (h' := s.heap.push PySem.W.emptyDict) (t' := s.toks) (fun b u q => Heap.get?_push_of_some _ q) (Nat.le_refl _) ⟨_, e1⟩
  refine I1.laid (a := s.heap.objs.size + 1) (o := .ins C s.heap.objs.size []) (t' := s.toks) (fun b u q => Heap.get?_push_of_some _ q) (Nat.le_of_eq (Heap.size_push _ _)) ?_
  have ne : s.heap.objs.size ≠ s.heap.objs.size + 1 := Nat.ne_of_lt (Nat.lt_succ_self _)
  refine ⟨by rw [au ne, bd], Nat.zero_le _, ne, e2, fun _ => none, (Heap.Ns1.of_empty e3).at fun o q => Heap.get?_push_of_some _ q, fun _ => True.intro, fun y hy => absurd rfl hy⟩
theorem Az {prog : Program} {w : World} {env : Env} {e : Expr} {f : Str} {pos : Pos} {s : Shared} {Q : Value → Shared → Prop} (hb : attributeBase e f env (eval e env) = eval e env)
    (h : wpAny (model prog w) A (eval e env) (fun o s₁ => wpAny (model prog w) A (getAttr o f true) Q E s₁) E s) : wpAny (model prog w) A (eval (.Attribute e f pos) env) Q E s :=
  Attribute_any_ h (by rw [arm_eval_Attribute, hb])
end
def EI (K : PySem.W.Frag) (ta tv : TE) (f : Str) : TS := fun D σ H => tv σ H fun y H1 => ta σ H1 fun x H2 => ∃ a C dx fs, x = .ref a ∧ H2 a = some (.ins C dx fs) ∧ wl K C ∧ dN K C f ∧ fs.length < 1000 ∧
  D.nx σ (cm H2 a (.ins C dx (io f y fs)))
section
variable {X : Cx} {o e value : Expr} {f : Str} {pos pos' tpos : Pos} {ta tv : TE}
theorem tI (ha : PE X o ta) (hv : PE X value tv) (hs : swapsWith value (some (.Attribute o f pos')) pos.line X.env = pure false) : PS X (.Assign [.Attribute o f pos'] value pos) (EI X.K ta tv f) := by
  intro pins s σ H D I h
  refine plainObj_wpAny_Assign_Attribute (cQ (hv pins s σ H _ I h) fun u s1 ⟨y, H1, I1, ry, q⟩ => cQ (ha pins s1 σ H1 _ I1 q) fun ov s2 ⟨x, H2, I2, rx, a, C, dx, fs, ex, ea, c, n, l, q2⟩ => ?_) hs
  subst ex
  obtain rfl : ov = Value.ref a := rx
  exact tW I2 ea c n l ry fun s3 I3 => ⟨σ, _, I3, q2⟩
end
section
variable {X : Cx} {pins : List (Addr × Obj)} {σ : St} {H : Hp} {s : Shared} {A : Around} {E : Value → Shared → Prop} {Q : Value → Shared → Prop} {c : Value} {b : Bool}
inductive kU (K : PySem.W.Frag) (H : Hp) : V → Value → Prop where
  | non : kU K H .non (.type "NoneType")
  | bl (x : Bool) : kU K H (.bl x) (.type "bool")
  | int (i : Int) : kU K H (.int i) (.type "int")
  | str (x : Str) : kU K H (.str x) (.type "str")
  | flt (x : UInt64) : kU K H (.flt x) (.type "float")
  | lst {a : Addr} {xs : List V} (e : H a = some (.lst xs)) : kU K H (.ref a) (.type "list")
  | frz {a : Addr} {o : Obj} {xs : List V} (e : H a = some (.frz o (.lst xs))) : kU K H (.ref a) (.type "list")
  | tup {a : Addr} {xs : List V} (e : H a = some (.tup xs)) : kU K H (.ref a) (.type "tuple")
  | dK {a : Addr} {kvs : List (cT × V)} (e : H a = some (.dK kvs)) : kU K H (.ref a) (.type "dict")
  | dT {a : Addr} {kvs : List (List cT × V)} (e : H a = some (.dT kvs)) : kU K H (.ref a) (.type "dict")
  | ins {a C dx : Addr} {fs : List (Str × V)} (e : H a = some (.ins C dx fs)) (cl : wl K C) (ha : PySem.W.findIn K (.ref C) "__class__" = some (some (.builtin "object.__class__")))
      (hn : PySem.W.specialIn K (.builtin "object.__class__") "__get__" = some (some (.builtin "getset_descriptor.__get__"))) (htk : PySem.W.takesIn K (.builtin "object.__class__") = some true)
      (hm : PySem.W.mroIn K C (.type "object") = some true) : kU K H (.ref a) (.ref C)
theorem vW {x : V} {u t : Value} (I : aM X pins σ H s) (rx : bA x u) (ty : kU X.K H x t) (e : PySem.W.kitOne X.K t c = some b) (h : ∀ tk, Q (.bool b) { s with toks := tk }) :
    wpAny (model X.prog X.w) A (call (.builtin "isinstance") [u, c]) Q E s := by
  cases ty with
  | non => cases (show u = Value.none from rx); exact PySem.W.kia_one PySem.W.kitx_none I.kIn True.intro e (fun z => nomatch z) h
  | bl y => cases (show u = Value.bool y from rx); exact PySem.W.kia_one PySem.W.kitx_bool I.kIn True.intro e (fun z => nomatch z) h
  | int i => obtain ⟨t, q⟩ := (show ∃ t, u = Value.int i t from rx); cases q; exact PySem.W.kia_one PySem.W.kitx_int I.kIn True.intro e (fun z => nomatch z) h
  | str y => obtain ⟨t, q⟩ := (show ∃ t, u = Value.str y t from rx); cases q; exact PySem.W.kia_one PySem.W.kitx_str I.kIn True.intro e (fun z => nomatch z) h
  | flt y => obtain ⟨t, q⟩ := (show ∃ t, u = Value.float y t from rx); cases q; exact PySem.W.kia_one PySem.W.kitx_float I.kIn True.intro e (fun z => nomatch z) h
  | @lst a xs ea =>
    cases (show u = Value.ref a from rx)
    obtain ⟨_, _, n, _, h1⟩ := (show bR X.prog X.w H s.heap a (.lst xs) from I.hok a _ ea)
    exact PySem.W.kia_one PySem.W.kitx_list I.kIn ⟨_, h1, rfl⟩ e (fun z => nomatch z) h
  | @frz a ob xs ea =>
    cases (show u = Value.ref a from rx)
    obtain ⟨_, _, _, n, _, h1⟩ := (show bR X.prog X.w H s.heap a (.frz ob (.lst xs)) from I.hok a _ ea)
    exact PySem.W.kia_one PySem.W.kitx_list I.kIn ⟨_, h1, rfl⟩ e (fun z => nomatch z) h
  | @tup a xs ea =>
    cases (show u = Value.ref a from rx)
    obtain ⟨_, _, _, p⟩ := (show bR X.prog X.w H s.heap a (.tup xs) from I.hok a _ ea)
    obtain ⟨o, h1, h2, _⟩ := p
    exact PySem.W.kia_one PySem.W.kitx_tuple I.kIn ⟨o, h1, h2⟩ e (fun z => nomatch z) h
  | @dK a kvs ea =>
    cases (show u = Value.ref a from rx)
    obtain ⟨_, _, vs, _, p⟩ := (show bR X.prog X.w H s.heap a (.dK kvs) from I.hok a _ ea)
    obtain ⟨o, es, ep, h1, h2, _⟩ := p
    exact PySem.W.kia_one PySem.W.kitx_dict I.kIn ⟨o, h1, h2.1⟩ e (fun z => nomatch z) h
  | @dT a kvs ea =>
    cases (show u = Value.ref a from rx)
    obtain ⟨_, _, xs, _, o, es, ep, h1, h2, _⟩ := (show bR X.prog X.w H s.heap a (.dT kvs) from I.hok a _ ea)
    exact PySem.W.kia_one PySem.W.kitx_dict I.kIn ⟨o, h1, h2.1⟩ e (fun z => nomatch z) h
  | @ins a C dx fs ea cl ha hn htk hm =>
    cases (show u = Value.ref a from rx)
    obtain ⟨mA, O, _⟩ := vk I.hok ea
    obtain ⟨od, J, _⟩ := O.look
    exact PySem.W.kia_one (PySem.W.kitx_own (cl.get _) cl.hd ha hn htk hm) I.kIn J e (fun z => nomatch z) h
end
structure eJ (k : Nat) (A : Around) : Prop where
  hd : A.handled = none
  dp : A.depth + 3 * k + 5 < recursionLimit
  un : A.units + 16 * k + 200 < cLine
theorem eJ.mono {j k : Nat} {A : Around} (r : eJ k A) (h : j ≤ k) : eJ j A := ⟨r.hd, by have := r.dp; omega, by have := r.un; omega⟩
theorem eJ.deeper {k : Nat} {A : Around} (r : eJ (k + 1) A) (env : Env) : eJ k (A.deeper env) :=
  ⟨r.hd, by have := r.dp; show A.depth + 1 + 3 * k + 5 < _; omega, by have := r.un; show A.units + 3 + 16 * k + 200 < _; omega⟩
theorem tK {A : Around} {C : Addr} {us : List Value} {kw : List (Str × Value)} : (A.under (.builtin "type.__call__" ⟨.ref C :: us, kw⟩)).depth = A.depth + 1 := by
  first | rfl | simp [Around.under, Code.weight, Code.isCreation, Code.isGuard, Code.isCaller, Code.frames, Code.isFrame, guardIds]
theorem tU {A : Around} {C : Addr} {us : List Value} {kw : List (Str × Value)} : (A.under (.builtin "type.__call__" ⟨.ref C :: us, kw⟩)).units = A.units + 1 := by
  first | rfl | simp [Around.under, Code.cUnits, Code.frames, Code.isFrame]
theorem eJ.make {k : Nat} {A : Around} (r : eJ (k + 1) A) (C : Addr) (us : List Value) (kw : List (Str × Value)) : eJ k (A.under (.builtin "type.__call__" ⟨.ref C :: us, kw⟩)) :=
  ⟨r.hd, by have := r.dp; rw [tK]; omega, by have := r.un; rw [tU]; omega⟩
theorem eJ.depth {k : Nat} {A : Around} (r : eJ k A) : A.depth < recursionLimit := by have := r.dp; omega
theorem eJ.units {k : Nat} {A : Around} (r : eJ k A) : A.units + 64 < cLine := by have := r.un; omega
def E6 : TA := fun _ H Q => Q [] H
def DI (ta : TE) (tr : TA) : TA := fun σ H Q => ta σ H fun x H1 => tr σ H1 fun xs H2 => Q (x :: xs) H2
section
variable {X : Cx} {e : Expr} {es : List Expr} {te : TE} {t : TA} {pos : Pos}
theorem ya : PA X [] E6 := fun _ _ _ _ H Q I h => Calls.spliced_nil ⟨[], H, I, .nil, h⟩
theorem qZ (ha : PE X e te) (hr : PA X es t) (hs : starEach (e :: es) X.env = (false, eval e X.env) :: starEach es X.env := by rfl) : PA X (e :: es) (DI te t) := by
  intro pos pins s σ H Q I h
  rw [hs]
  show wpAny _ _ (spliced ((false, eval e X.env) :: backTo pos (starEach es X.env))) _ _ s
  refine Calls.spliced_cons (cQ (ha pins s σ H _ I h) fun u s1 ⟨x, H1, I1, r1, q1⟩ => ?_)
  exact cQ (hr pos pins s1 σ H1 _ I1 q1) fun us s2 ⟨xs, H2, I2, r2, q2⟩ => ⟨x :: xs, H2, I2, .cons r1 r2, q2⟩
def EN (t : TA) : TE := fun σ H Q => t σ H fun xs H1 => xs.length ≤ sizeLine ∧ ∀ p, H1 p = none → Q (.ref p) (cm H1 p (.tup xs))
def ET (t : TA) : TE := fun σ H Q => t σ H fun xs H1 => xs.length ≤ sizeLine ∧ ∀ p, H1 p = none → Q (.ref p) (cm H1 p (.lst xs))
theorem CN {x1} (h : PA X es t) : PE X (.Tuple es x1 pos) (EN t) := by
  intro pins s σ H Q I hq
  refine wpAny_Tuple_spliced (cQ (h pos pins s σ H _ I hq) fun us s1 ⟨xs, H1, I1, r, z, q⟩ => ⟨by rw [← r.length]; exact z, ?_⟩)
  have hf : H1 s1.heap.objs.size = none := I1.hok.fresh (Nat.le_refl _)
  refine ⟨.ref s1.heap.objs.size, cm H1 s1.heap.objs.size (.tup xs), I1.laid (t' := s1.toks) (fun b u e => Heap.get?_push_of_some _ e) (Nat.le_refl _) ?_, rfl, q _ hf⟩
  exact ⟨z, us, r, ⟨_, Heap.get?_push_size _ rfl, rfl, _, rfl⟩⟩
theorem CM (h : PA X es t) : PE X (.List es pos) (ET t) := by
  intro pins s σ H Q I hq
  refine wpAny_List_spliced (cQ (h pos pins s σ H _ I hq) fun us s1 ⟨xs, H1, I1, r, z, q⟩ => ⟨by rw [← r.length]; exact z, ?_⟩)
  have hf : H1 s1.heap.objs.size = none := I1.hok.fresh (Nat.le_refl _)
  refine ⟨.ref s1.heap.objs.size, cm H1 s1.heap.objs.size (.lst xs), I1.laid (t' := s1.toks) (fun b u e => Heap.get?_push_of_some _ e) (Nat.le_refl _) ?_, rfl, q _ hf⟩
  exact ⟨z, us, 0, r, Heap.get?_push_size _ rfl⟩
end
abbrev Sp := List V → Hp → VK → XK → Prop
abbrev xl := List Env → Hp → Shared → XK → Value → Shared → Prop
structure tq (P : Program) (w : World) (K : PySem.W.Frag) (mg : Str → Option Value) (base : Heap) (A : Around) (outer : List Env) (s : Shared) (H : Hp) : Prop where
  frames : A.frames = some outer
  mod : Mod K mg base
  bs : ∀ b o, base.get? b = some o → s.heap.get? b = some o ∧ H b = none
  bsz : base.objs.size ≤ s.heap.objs.size
  funs : s.heap.FunFrames base outer
  frf : ∀ b ∈ lJ outer, H b = none
  hok : il P w H s.heap
  bare : AllBare s.gens
def CE (outer : List Env) (P : Program) (w : World) (H : Hp) (s : Shared) (Q : VK) (u : Value) (s' : Shared) : Prop :=
  ∃ v H', s'.os = s.os ∧ AllBare s'.gens ∧ Un (lJ outer) [] H H' s.heap s'.heap ∧ il P w H' s'.heap ∧ bA v u ∧ Q v H'
def CR (CX : xl) (outer : List Env) (P : Program) (w : World) (H : Hp) (s : Shared) (Q : VK) (E : XK) (r : Result) (s' : Shared) : Prop :=
  match r with
  | .ok (.ret u) => CE outer P w H s Q u s'
  | .ok _ => False
  | .error e => CX outer H s E e s'
structure aY (P : Program) (w : World) (K : PySem.W.Frag) (mg : Str → Option Value) (base : Heap) (CX : xl) (k : Nat) (f : Addr) (fd : FuncData) (ps : List Str) (sp : Sp) : Prop where
  len : ∀ vs H Q E, sp vs H Q E → vs.length = ps.length
  run : ∀ (A : Around) (outer : List Env) (s : Shared) (H : Hp) (args : Args) (us : List Value) (vs : List V) (Q : VK) (E : XK), eJ k A → tq P w K mg base A outer s H → BindsTo s fd args (ps.zip us) → bt vs us → sp vs H Q E →
    codeAny (model P w) A (.call (.ref f) args) (CR CX outer P w H s Q E) s
theorem aY.mono {P : Program} {w : World} {K : PySem.W.Frag} {mg : Str → Option Value} {base : Heap} {CX : xl} {j k : Nat} {f : Addr} {fd : FuncData} {ps : List Str} {sp : Sp} (F : aY P w K mg base CX j f fd ps sp) (h : j ≤ k) :
    aY P w K mg base CX k f fd ps sp := ⟨F.len, fun A outer s H args us vs Q E hr => F.run A outer s H args us vs Q E (hr.mono h)⟩
theorem aY.imp {P : Program} {w : World} {K : PySem.W.Frag} {mg : Str → Option Value} {base : Heap} {CX : xl} {k : Nat} {f : Addr} {fd : FuncData} {ps : List Str} {sp sp' : Sp} (F : aY P w K mg base CX k f fd ps sp)
    (h : ∀ vs H Q E, sp' vs H Q E → sp vs H Q E) : aY P w K mg base CX k f fd ps sp' :=
  ⟨fun vs H Q E q => F.len vs H Q E (h _ _ _ _ q), fun A outer s H args us vs Q E hr he hb hv hs => F.run A outer s H args us vs Q E hr he hb hv (h _ _ _ _ hs)⟩
theorem tq.make {P : Program} {w : World} {K : PySem.W.Frag} {mg : Str → Option Value} {base : Heap} {A : Around} {outer : List Env} {s : Shared} {H : Hp} (e : tq P w K mg base A outer s H) (C : Addr) (us : List Value) (kw : List (Str × Value)) :
    tq P w K mg base (A.under (.builtin "type.__call__" ⟨.ref C :: us, kw⟩)) outer s H := ⟨by first | exact e.frames | (simpa [Around.under, Code.envs, Code.isFrame, pushEnvs] using e.frames), e.mod, e.bs, e.bsz, e.funs, e.frf, e.hok, e.bare⟩
section
variable {X : Cx} {pins : List (Addr × Obj)} {σ : St} {H : Hp} {s s' : Shared}
theorem aM.env0 (I : aM X pins σ H s) : tq X.prog X.w X.K X.mg X.base X.A X.stack s H :=
  ⟨I.ok.frames, I.ok.mod, I.bs, Nat.le_trans I.ok.bsz I.sz, I.stack, I.stkFree, I.hok, I.bare⟩
theorem aM.after {Q : VK} {u : Value} (I : aM X pins σ H s) (h : CE X.stack X.prog X.w H s Q u s') : EP X pins σ Q u s' := by
  obtain ⟨v, H', os, bare, un, hok, r, q⟩ := h
  obtain ⟨hh, g, d, t, os'⟩ := s'
  obtain rfl : os' = s.os := os
  exact ⟨v, H', I.call (h' := hh) (g' := g) (d' := d) (t' := t) (ch := []) un hok bare (fun b z => absurd z (by simp)), r, q⟩
end
def DR (sp : Sp) (dvs : List V) (E : XK) (t : TA) : TE := fun σ H Q => t σ H fun vs H1 => sp (vs ++ dvs) H1 Q E
def Dg (C : Addr) (sp : Sp) (dvs : List V) (E : XK) (t : TA) : TE := fun σ H Q => t σ H fun vs H1 => ∀ x dx, H1 x = none → H1 dx = none → dx ≠ x →
  sp (.ref x :: (vs ++ dvs)) (cm (cm H1 dx (.own x)) x (.ins C dx [])) (fun v H2 => v = .non ∧ Q (.ref x) H2) E
def i4 (K : PySem.W.Frag) (fd : FuncData) (ps : List Str) (ds : List Value) : Prop :=
  ∀ (s : Shared) (us : List Value), K.In s.heap → (us ++ ds).length = ps.length → BindsTo s fd ⟨us, []⟩ (ps.zip (us ++ ds))
theorem i4.all {K : PySem.W.Frag} {fd : FuncData} {ps : List Str} (h : ∀ us : List Value, us.length = ps.length → bindArgs fd ⟨us, []⟩ = pure (ps.zip us)) : i4 K fd ps [] := fun s us _ hl => by
  rw [List.append_nil] at hl ⊢
  exact .of_eq (h us hl)
def oF (CX : xl) (X : Cx) (E : XK) : Prop := ∀ (pins : List (Addr × Obj)) (σ : St) (H : Hp) (s : Shared) (e : Value) (s' : Shared), aM X pins σ H s → CX X.stack H s E e s' → X.xe e s'
section
variable {X : Cx} {CX : xl} {k : Nat} {f C : Addr} {fd : FuncData} {ps : List Str} {sp : Sp} {dvs : List V} {ds : List Value} {E : XK} {x m : Str} {p pos apos : Pos} {e o : Expr} {es : List Expr} {ta : TE} {t : TA}
theorem Bz {pins : List (Addr × Obj)} {σ : St} {H : Hp} {s : Shared} {Q : VK} {us : List Value} {vs : List V} (F : aY X.prog X.w X.K X.mg X.base CX k f fd ps sp) (hr : eJ k X.A) (hb : i4 X.K fd ps ds) (hd : bt dvs ds) (hx : oF CX X E)
    (I : aM X pins σ H s) (r : bt vs us) (h : sp (vs ++ dvs) H Q E) : wpAny (model X.prog X.w) X.A (call (.ref f) us) (EP X pins σ Q) X.xe s := by
  have r2 : bt (vs ++ dvs) (us ++ ds) := r.append hd
  have hl : (us ++ ds).length = ps.length := by rw [← r2.length]; exact F.len _ _ _ _ h
  refine wpAny_call (codeAny_mono (F.run X.A X.stack s H ⟨us, []⟩ (us ++ ds) (vs ++ dvs) Q E hr I.env0 (hb s us I.kIn hl) r2 h) fun r s' hq => ?_)
  cases r with
  | error e => exact hx pins σ H s e s' I hq
  | ok fl =>
    cases fl with
    | ret u => exact I.after hq
    | next => exact False.elim hq
    | brk => exact False.elim hq
    | cont => exact False.elim hq
theorem Ag (F : aY X.prog X.w X.K X.mg X.base CX k f fd ps sp) (hr : eJ k X.A) (hg : Gl X x) (hm : X.mg x = some (.ref f)) (hk : PySem.W.keepIn X.K (.ref f) = true) (hb : i4 X.K fd ps ds) (hd : bt dvs ds) (hx : oF CX X E)
    (ha : PA X (e :: es) t) (hdb : (x == ("__debug__" : Str)) = false := by decide) (he : starEach (e :: es) X.env = (false, eval e X.env) :: starEach es X.env := by rfl) (hpl : (backTo pos (starEach es X.env)).any (·.1) = false := by rfl) :
    PE X (.Call (.Name x p) (e :: es) [] pos) (DR sp dvs E t) := by
  intro pins s σ H Q I h
  refine wpAny_Call_Name_kw (nI I hg hm ?_ hdb)
  refine PySem.W.callWith_K (h₀ := X.base) I.ok.mod.kin hk (cQ (ha pos pins s σ H _ I h) fun us s1 ⟨vs, H1, I1, r, q⟩ => ⟨I1.kIn, ?_⟩) he hpl
  exact Bz F hr hb hd hx I1 r q
structure Mk (K : PySem.W.Frag) (C f : Addr) : Prop where
  makes : PySem.W.makesIn K C = true
  init : PySem.W.findIn K (.ref C) "__init__" = some (some (.ref f))
  fn : PySem.W.isFn K (.ref f) = true
  kp : PySem.W.keepIn K (.ref C) = true
theorem yZ {pins : List (Addr × Obj)} {σ : St} {H : Hp} {s : Shared} {Q : VK} {us : List Value} {vs : List V} (M : Mk X.K C f) (F : aY X.prog X.w X.K X.mg X.base CX k f fd ps sp) (hr : eJ (k + 1) X.A) (hb : i4 X.K fd ps ds) (hd : bt dvs ds)
    (hx : oF CX X E) (I : aM X pins σ H s) (r : bt vs us)
    (h : ∀ x dx, H x = none → H dx = none → dx ≠ x → sp (.ref x :: (vs ++ dvs)) (cm (cm H dx (.own x)) x (.ins C dx [])) (fun v H2 => v = .non ∧ Q (.ref x) H2) E) :
    wpAny (model X.prog X.w) X.A (call (.ref C) us) (EP X pins σ Q) X.xe s := by
  have hq := h (s.heap.objs.size + 1) s.heap.objs.size (I.hok.fresh (Nat.le_succ _)) (I.hok.fresh (Nat.le_refl _)) (Nat.ne_of_lt (Nat.lt_succ_self _))
  have I2 := aM.made (C := C) I
  have r2 : bt (V.ref (s.heap.objs.size + 1) :: (vs ++ dvs)) (Value.ref (s.heap.objs.size + 1) :: (us ++ ds)) := .cons rfl (r.append hd)
  have hl : (Value.ref (s.heap.objs.size + 1) :: us ++ ds).length = ps.length := by
    have e := r2.length
    rw [F.len _ _ _ _ hq] at e
    exact e.symm
  refine wpAny_call (x8 (f := f) I.kIn M.makes M.init (beq_iff_eq.mp M.fn) (codeAny_mono (F.run _ X.stack _ _ ⟨Value.ref (s.heap.objs.size + 1) :: us, []⟩ (Value.ref (s.heap.objs.size + 1) :: (us ++ ds)) _ _ E (hr.make C us [])
    (I2.env0.make C us []) (hb _ (Value.ref (s.heap.objs.size + 1) :: us) I2.kIn hl) r2 hq) fun r s' hq' => ?_))
  cases r with
  | error e => exact hx pins σ _ _ e s' I2 hq'
  | ok fl =>
    cases fl with
    | ret u =>
      obtain ⟨v, H', I3, rv, ev, q3⟩ := I2.after hq'
      subst ev
      exact ⟨rv, ⟨V.ref (s.heap.objs.size + 1), H', I3, rfl, q3⟩⟩
    | next => exact False.elim hq'
    | brk => exact False.elim hq'
    | cont => exact False.elim hq'
theorem AU (M : Mk X.K C f) (F : aY X.prog X.w X.K X.mg X.base CX k f fd ps sp) (hr : eJ (k + 1) X.A) (hg : Gl X x) (hm : X.mg x = some (.ref C)) (hb : i4 X.K fd ps ds) (hd : bt dvs ds) (hx : oF CX X E)
    (ha : PA X (e :: es) t) (hdb : (x == ("__debug__" : Str)) = false := by decide) (he : starEach (e :: es) X.env = (false, eval e X.env) :: starEach es X.env := by rfl) (hpl : (backTo pos (starEach es X.env)).any (·.1) = false := by rfl) :
    PE X (.Call (.Name x p) (e :: es) [] pos) (Dg C sp dvs E t) := by
  intro pins s σ H Q I h
  refine wpAny_Call_Name_kw (nI I hg hm ?_ hdb)
  refine PySem.W.callWith_K (h₀ := X.base) I.ok.mod.kin M.kp (cQ (ha pos pins s σ H _ I h) fun us s1 ⟨vs, H1, I1, r, q⟩ => ⟨I1.kIn, ?_⟩) he hpl
  exact yZ M F hr hb hd hx I1 r q
end
structure aQ (N P : List Str) (sc : Scope) : Prop where
  kind : sc.kind = .function
  co : sc.isCoroutine = false
  gen : sc.isGenerator = false
  nd : N.Nodup
  pre : N.take P.length = P
  par : ∀ x ∈ P, sc.names.lookup x = some .local ∨ sc.names.lookup x = some .cell
  nofree : ∀ y ∈ sc.names, y.2 ≠ .free
theorem pK {kindOf : Str → Option NameKind} {x : Str} : ∀ {binds : List (Str × Value)} {m : Str → Option Value}, (∀ v, (x, v) ∉ binds) → bindL kindOf binds m x = m x
  | [], _, _ => rfl
  | (n, v) :: r, m, h => by
    unfold bindL
    rw [pK fun w hw => h w (List.mem_cons_of_mem _ hw)]
    split
    · have : x ≠ n := by rintro rfl; exact h v List.mem_cons_self
      simp [this]
    · rfl
theorem pM {kindOf : Str → Option NameKind} {x : Str} : ∀ {binds : List (Str × Value)} {m : Str → Option Value}, (∀ v, (x, v) ∉ binds) → bindC kindOf binds m x = m x
  | [], _, _ => rfl
  | (n, v) :: r, m, h => by
    unfold bindC
    rw [pM fun w hw => h w (List.mem_cons_of_mem _ hw)]
    split
    · rfl
    · have : x ≠ n := by rintro rfl; exact h v List.mem_cons_self
      simp [this]
theorem pO {kindOf : Str → Option NameKind} {x : Str} {v : Value} : ∀ {P : List Str} {vs : List Value} {i : Nat} {m : Str → Option Value}, P.Nodup → P[i]? = some x → vs[i]? = some v → kindOf x = some .local →
    bindL kindOf (P.zip vs) m x = some v
  | [], _, _, _, _, h, _, _ => by simp at h
  | _ :: _, [], _, _, _, _, h, _ => by simp at h
  | p :: P, w :: vs, 0, m, nd, h1, h2, hk => by
    simp at h1 h2; subst h1; subst h2
    show bindL kindOf ((p, w) :: P.zip vs) m p = _
    unfold bindL
    rw [pK fun v hv => (List.nodup_cons.mp nd).1 (List.of_mem_zip hv).1, if_pos hk]
    simp
  | p :: P, w :: vs, i + 1, m, nd, h1, h2, hk => by
    show bindL kindOf ((p, w) :: P.zip vs) m x = _
    unfold bindL
    exact pO (i := i) (List.nodup_cons.mp nd).2 (by simpa using h1) (by simpa using h2) hk
theorem pT {kindOf : Str → Option NameKind} {x : Str} {v : Value} : ∀ {P : List Str} {vs : List Value} {i : Nat} {m : Str → Option Value}, P.Nodup → P[i]? = some x → vs[i]? = some v → kindOf x ≠ some .local →
    bindC kindOf (P.zip vs) m x = some v
  | [], _, _, _, _, h, _, _ => by simp at h
  | _ :: _, [], _, _, _, _, h, _ => by simp at h
  | p :: P, w :: vs, 0, m, nd, h1, h2, hk => by
    simp at h1 h2; subst h1; subst h2
    show bindC kindOf ((p, w) :: P.zip vs) m p = _
    unfold bindC
    rw [pM fun v hv => (List.nodup_cons.mp nd).1 (List.of_mem_zip hv).1, if_neg hk]
    simp
  | p :: P, w :: vs, i + 1, m, nd, h1, h2, hk => by
    show bindC kindOf ((p, w) :: P.zip vs) m x = _
    unfold bindC
    exact pT (i := i) (List.nodup_cons.mp nd).2 (by simpa using h1) (by simpa using h2) hk
def i8 (N : List Str) (vs : List V) : St := vs.map some ++ List.replicate (N.length - vs.length) none
def fT (CX : xl) (P : Program) (w : World) (K : PySem.W.Frag) (mg : Str → Option Value) (base : Heap) (N : List Str) (qual : Str) (scope : Scope) (f : Addr) (cd : Value) (A : Around) (outer : List Env) (s : Shared) (H : Hp) (E : XK) : Cx where
  prog := P
  w := w
  K := K
  mg := mg
  base := base
  A := A.deeper (envOfC qual scope s.heap.objs.size f cd)
  N := N
  s₀ := s
  H₀ := H
  env := envOfC qual scope s.heap.objs.size f cd
  outer := outer
  stack := envOfC qual scope s.heap.objs.size f cd :: outer
  ex := []
  calm := true
  fn := fun _ => true
  pn := []
  xe := fun e s' => wpAny (model P w) (A.deeper (envOfC qual scope s.heap.objs.size f cd)) (leaving (envOfC qual scope s.heap.objs.size f cd) e) (fun _ s'' => CX outer H s E e s'') (fun e' s'' => CX outer H s E e' s'') s'
theorem se {sc : Scope} {n : Nat} {x : Str} (h : sc.names.lookup x = some .cell) : ∃ c, (cellsFrom n sc.names []).lookup x = some c := by
  have q := PySem.W.cellsFrom_some sc.names n [] (.inl h)
  exact Option.isSome_iff_exists.mp q
theorem vZ {CX : xl} {P : Program} {w : World} {K : PySem.W.Frag} {mg : Str → Option Value} {base : Heap} {N ps : List Str} {qual : Str} {scope : Scope} {f : Addr} {cd : Value} {A : Around} {outer : List Env} {s s1 : Shared} {H : Hp} {E : XK} {us : List Value} {vs : List V}
    (S : aQ N ps scope) (hd : A.handled = none) (e0 : tq P w K mg base A outer s H) (hl : vs.length = ps.length) (r : bt vs us)
    (x : InCallC s s.heap.objs.size (bindL (envOfC qual scope s.heap.objs.size f cd).kindOf (ps.zip us) fun _ => none) (cellsFrom (s.heap.objs.size + 1) scope.names []) (bindC (envOfC qual scope s.heap.objs.size f cd).kindOf (ps.zip us) fun _ => none) s1) :
    aM (fT CX P w K mg base N qual scope f cd A outer s H E) [] (i8 N vs) H s1 := by
  have hpl : ps.length ≤ N.length := by have := congrArg List.length S.pre; rw [List.length_take] at this; omega
  obtain ⟨h1, tk, rfl, hk⟩ := x.done
  have noA : ∀ b : Addr, b ∉ (fT CX P w K mg base N qual scope f cd A outer s H E).ex := fun b z => absurd (show b ∈ ([] : List Addr) from z) (by simp)
  refine ⟨⟨e0.mod, S.kind, rfl, rfl, Nat.le_refl _, fun y z c h1 h2 => ?_, fun y hy => ?_, fun y c _ h => ?_, fun _ => hd, Around.frames_deeper e0.frames, .inr ⟨rfl, rfl⟩, fun b z => absurd z (noA b), e0.bs, e0.bsz, fun b _ _ => noA b, fun b z => absurd z (noA b), e0.funs, e0.frf⟩,
    rfl, e0.bare, Un.kept hk, ⟨_, x.toInCall.ns, fun i y v h1 h2 h3 => ?_⟩, fun y c h => ⟨_, x.cell y c h⟩, e0.hok.fresh (Nat.le_refl _), fun y c h => ?_, fun p hp => absurd (show p ∈ ([] : List (Addr × Obj)) from hp) (by simp), e0.hok.kept hk, ?_⟩
  · exact name_of_addr x.apart (PySem.mem_of_lookup h1) (PySem.mem_of_lookup h2)
  · have hy : scope.names.lookup y = some .cell ∨ scope.names.lookup y = some .free := hy
    rcases hy with hy | hy
    · exact se hy
    · exact absurd rfl (S.nofree _ (PySem.mem_of_lookup hy))
  · exact Nat.le_of_lt (x.above y c (PySem.mem_of_lookup h))
  · have hi : i < vs.length := by
      unfold i8 at h2
      by_cases hi : i < vs.length
      · exact hi
      · rw [List.getElem?_append_right (by simpa using hi)] at h2
        rw [List.getElem?_replicate] at h2
        split at h2 <;> cases h2
    have ha : vs[i]? = some v := by
      unfold i8 at h2
      rw [List.getElem?_append_left (by simpa using hi), List.getElem?_map] at h2
      cases e : vs[i]? with
      | none => rw [e] at h2; cases h2
      | some a => rw [e] at h2; cases h2; rfl
    obtain ⟨u, hu, rv⟩ := r.get ha
    have hp : ps[i]? = some y := by
      rw [← S.pre, List.getElem?_take_of_lt (by omega)]; exact h1
    have ndP : ps.Nodup := by rw [← S.pre]; exact S.nd.sublist (List.take_sublist _ _)
    refine ⟨u, rv, ?_⟩
    rcases S.par y (List.mem_of_getElem? hp) with k | k
    · exact .inl ⟨k, pO ndP hp hu k⟩
    · obtain ⟨c, e⟩ := se (n := s.heap.objs.size + 1) k
      refine .inr ⟨.inl k, c, e, ?_⟩
      have q := x.cell y c e
      rw [pT ndP hp hu (by show scope.names.lookup y ≠ _; rw [k]; decide)] at q
      exact q
  · exact e0.hok.fresh (Nat.le_of_lt (x.above y c (PySem.mem_of_lookup h)))
  · unfold i8
    show _ = N.length
    rw [List.length_append, List.length_map, List.length_replicate]
    omega
theorem zh {CX : xl} {P : Program} {w : World} {K : PySem.W.Frag} {mg : Str → Option Value} {base : Heap} {k : Nat} {f : Addr} {name qual : Str} {params : Arguments} {body : List Stmt} {scope : Scope} {dV kV doc pm cdv ct oc : Value} {an od : Option Addr}
    {osl : Array (Option Value)} {N ps : List Str} {sp : Sp} (lk : K.lookup f = some ⟨oc, od, .func (PySem.W.fnOf name qual params body scope dV kV doc pm an cdv ct), osl⟩) (hcd : PySem.W.codeIn K cdv qual = true) (S : aQ N ps scope)
    (len : ∀ vs H Q E, sp vs H Q E → vs.length = ps.length)
    (hbody : ∀ (A : Around) (outer : List Env) (s : Shared) (H : Hp) (vs : List V) (Q : VK) (E : XK), eJ k (A.deeper (envOfC qual scope s.heap.objs.size f cdv)) → sp vs H Q E →
      ∃ t, rj (fT CX P w K mg base N qual scope f cdv A outer s H E) body t ∧ t { nx := fun _ H' => Q .non H', rt := Q } (i8 N vs) H) :
    aY P w K mg base CX (k + 1) f (PySem.W.fnOf name qual params body scope dV kV doc pm an cdv ct) ps sp := by
  refine ⟨len, fun A outer s H args us vs Q E hr e0 hb r hsp => ?_⟩
  have hl := len _ _ _ _ hsp
  have KX : K.In s.heap := e0.mod.kin.keeps fun b o e => (e0.bs b o e).1
  have lim : s.heap.NoLimit := e0.mod.nolimit.keeps fun b o e => (e0.bs b o e).1
  have hkind : ∀ y ∈ ps.zip us, scope.names.lookup y.1 = some .local ∨ (scope.names.lookup y.1 = some .cell ∧ ((cellsFrom (s.heap.objs.size + 1) scope.names []).lookup y.1).isSome = true) := fun ⟨n, v⟩ hy => by
    rcases S.par n (List.of_mem_zip hy).1 with q | q
    · exact .inl q
    · exact .inr ⟨q, PySem.W.cellsFrom_some _ _ _ (.inl q)⟩
  refine codeAny_call_function hr.depth (KX _ _ lk) rfl S.co S.gen rfl (PySem.W.codeRec_of KX hcd) (hb _ _ _ _ ?_)
  refine wpAny_newFunctionEnv_cells S.kind hkind fun env he s1 x => ?_
  subst he
  refine ⟨lim.keeps x.toInCall.keep, codeAny_func ?_⟩
  obtain ⟨t, ht, hq⟩ := hbody A outer s H vs Q E (hr.deeper _) hsp
  have I : aM (fT CX P w K mg base N qual scope f cdv A outer s H E) [] (i8 N vs) H s1 := vZ S hr.hd e0 hl r x
  refine wpAny_mono (ht [] s1 (i8 N vs) H _ I hq) (fun fl s' hs => ?_) fun e s' hs => hs
  have fin : ∀ {σ' : St} {H' : Hp} {v : V} {u : Value}, aM (fT CX P w K mg base N qual scope f cdv A outer s H E) [] σ' H' s' → bA v u → Q v H' → CE outer P w H s Q u s' :=
    fun {σ' H' v u} J rv q => ⟨v, H', J.os, J.bare, J.base, J.hok, rv, q⟩
  cases fl with
  | ret u =>
    obtain ⟨v, σ', H', J, rv, q⟩ := hs
    exact fin J rv q
  | next =>
    obtain ⟨σ', H', J, q⟩ := hs
    exact fin (v := V.non) (u := Value.none) J rfl q
  | brk =>
    obtain ⟨_, _, _, q⟩ := hs
    exact False.elim q
  | cont =>
    obtain ⟨_, _, _, q⟩ := hs
    exact False.elim q
section
variable {X : Cx} {x : Str} {p pos : Pos} {e : Expr} {es : List Expr} {t : TA} {id T : String} {r : List V → Hp → VK → Prop}
def EA (r : List V → Hp → VK → Prop) (t : TA) : TE := fun σ H Q => t σ H fun vs H1 => r vs H1 Q
theorem oR (hc : dP X (.builtin id) r) (hg : Gl X x) (hm : X.mg x = none) (hv : bootBuiltins x = some (.builtin id)) (ha : PA X (e :: es) t) (hn : x ≠ "__name__" := by decide) (hdb : (x == ("__debug__" : Str)) = false := by decide)
    (he : starEach (e :: es) X.env = (false, eval e X.env) :: starEach es X.env := by rfl) (hpl : (backTo pos (starEach es X.env)).any (·.1) = false := by rfl) : PE X (.Call (.Name x p) (e :: es) [] pos) (EA r t) := by
  intro pins s σ H Q I h
  refine wpAny_Call_Name_kw (iT I hg hm hv ?_ hn hdb)
  exact PyProof.Rows.callWith_builtin1 (cQ (ha pos pins s σ H _ I h) fun us s1 ⟨vs, H1, I1, r1, q1⟩ => hc pins s1 σ H1 vs us Q I1 r1 q1) he hpl
theorem wI (hc : dP X (.type T) r) (hg : Gl X x) (hm : X.mg x = none) (hv : bootBuiltins x = some (.type T)) (ha : PA X (e :: es) t) (hn : x ≠ "__name__" := by decide) (hdb : (x == ("__debug__" : Str)) = false := by decide)
    (he : starEach (e :: es) X.env = (false, eval e X.env) :: starEach es X.env := by rfl) (hpl : (backTo pos (starEach es X.env)).any (·.1) = false := by rfl) : PE X (.Call (.Name x p) (e :: es) [] pos) (EA r t) := by
  intro pins s σ H Q I h
  refine wpAny_Call_Name_kw (iT I hg hm hv ?_ hn hdb)
  exact PyProof.Rows.callWith_type1 (cQ (ha pos pins s σ H _ I h) fun us s1 ⟨vs, H1, I1, r1, q1⟩ => hc pins s1 σ H1 vs us Q I1 r1 q1) he hpl
end
end L2
namespace HT
open PySem PyProof.Rows
section
open PySem.SeqAt
open PySem.AutoSeq1 (wpAny_loadPart')
open PySem.MeetsSeq PySem.MeetsSeq2 PySem.MeetsSeq3
end
section
variable {prog : Program} {w : World} {A : Around} {E : Value → Shared → Prop} {s : Shared}
theorem cat_tup {t b : Addr} {vs ws : List Value} {Q : Value → Shared → Prop} (ht : IsTup s.heap t vs.toArray) (hb : IsTup s.heap b ws.toArray) (hv : vs ≠ [])
    (h1 : ws = [] → Q (.ref t) s) (h2 : ws ≠ [] → Q (.ref s.heap.objs.size) { s with heap := s.heap.push { cls := .type "tuple", data := .seq (vs ++ ws).toArray } })
    (hsz : vs.length + ws.length ≤ sizeLine) : wpAny (model prog w) A (binaryOp .Add (.ref t) (.ref b)) Q E s := by
  obtain ⟨⟨cls, dd, data, sl⟩, ho, hc, n, hd⟩ := id ht
  obtain ⟨⟨cls2, dd2, data2, sl2⟩, ho2, hc2, n2, hd2⟩ := id hb
  simp only at hc hd hc2 hd2
  subst hc hd hc2 hd2
  have e : vs.toArray ++ ws.toArray = (vs ++ ws).toArray := by simp
  by_cases hw : ws = []
  · exact concat_meets ⟨_, ho, rfl⟩ ⟨_, ho2, rfl⟩ noFill_tuple_add seq_tuple_add PySem.F.slot_tuple_add PySem.F.entry_tuple_add (PySem.F.args_tuple_add_2 _ _)
      (tuple_addW1 t b vs.toArray ws.toArray n n2 dd dd2 sl sl2 (by simpa using hv) (by simp [hw])) ⟨ho, ho2, h1 hw⟩
  · refine concat_meets ⟨_, ho, rfl⟩ ⟨_, ho2, rfl⟩ noFill_tuple_add seq_tuple_add PySem.F.slot_tuple_add PySem.F.entry_tuple_add (PySem.F.args_tuple_add_2 _ _)
      (tuple_addW2 t b vs.toArray ws.toArray n n2 dd dd2 sl sl2 (by simpa using hv) (by simpa using hw) (by rw [List.size_toArray, List.size_toArray]; exact hsz)) ⟨ho, ho2, ?_⟩
    rw [e]
    exact h2 hw
def sIx (n d : Nat) : Option Int → Nat
  | none => d
  | some v => if v < 0 then (v + (n : Int)).toNat else min v.toNat n
theorem oM (n d : Nat) : sIx n d none = d := rfl
theorem qX (n d k : Nat) : sIx n d (some (k : Int)) = min k n := by
  show (if (k : Int) < 0 then ((k : Int) + (n : Int)).toNat else min (k : Int).toNat n) = min k n
  rw [if_neg (by omega), Int.toNat_natCast]
theorem B8 (n d : Nat) (hd : d ≤ n) (o : Option Int) : sIx n d o ≤ n := by
  cases o with
  | none => exact hd
  | some v =>
    show (if v < 0 then (v + (n : Int)).toNat else min v.toNat n) ≤ n
    by_cases hv : v < 0
    · rw [if_pos hv]; omega
    · rw [if_neg hv]; exact Nat.min_le_right _ _
theorem ve (v : Int) (n d : Nat) : (if v < 0 then max (v + (n : Int)) 0 else min v (n : Int)) = ((sIx n d (some v) : Nat) : Int) := by
  show (if v < 0 then max (v + (n : Int)) 0 else min v (n : Int)) = (((if v < 0 then (v + (n : Int)).toNat else min v.toNat n) : Nat) : Int)
  by_cases hv : v < 0
  · simp only [if_pos hv]; omega
  · simp only [if_neg hv]; omega
theorem ue (lo hi : Option Int) (n : Nat) : Builtin.Slice.sliceAdjust lo hi 1 (n : Int) = (((sIx n 0 lo : Nat) : Int), ((sIx n n hi : Nat) : Int)) := by
  have h1 : ¬ ((1 : Int) < 0) := by omega
  unfold Builtin.Slice.sliceAdjust
  simp only [h1, if_false]
  refine Prod.ext ?_ ?_
  · cases lo with
    | none => rfl
    | some v => exact ve v n 0
  · cases hi with
    | none => rfl
    | some v => exact ve v n n
theorem ub (i j : Nat) : Builtin.Slice.slicePlaces (i : Int) (j : Int) 1 = j - i := by
  unfold Builtin.Slice.slicePlaces
  have h1 : (1 : Int) > 0 := by omega
  simp only [h1, if_true, Int.ediv_one]
  split <;> omega
theorem nL {v : Value} {o : Option Int} {Q : Option Int → Shared → Prop} (p : IsPart v o) (h : Q o s) : wpAny (model prog w) A (Builtin.Slice.slicePartIndex v) Q E s := by
  cases p with
  | none => exact slicePart_none h
  | int i t => exact slicePart_int h
theorem sliceApplied_gen {sl : Addr} {vl vu : Value} {lo hi : Option Int} {n : Nat} {Q : Int × Int × Nat → Shared → Prop} (hs : s.heap.IsSliceOf sl vl vu .none) (pl : IsPart vl lo) (pu : IsPart vu hi)
    (h : Q (((sIx n 0 lo : Nat) : Int), 1, sIx n n hi - sIx n 0 lo) s) : wpAny (model prog w) A (Builtin.Slice.sliceApplied (.ref sl) (pure (n : Int))) Q E s := by
  obtain ⟨os, hos, hcs, hds⟩ := id hs
  unfold Builtin.Slice.sliceApplied Builtin.Slice.sliceFields
  refine wpAny_bind (wpAny_bind (wpAny_field hos hds (x := vl) rfl (wpAny_bind (wpAny_field hos hds (x := vu) rfl (wpAny_bind (wpAny_field hos hds (x := .none) rfl (wpAny_pure ?_)))))))
  refine wpAny_bind (slicePart_none ?_)
  show wpAny _ _ (if ((1 : Int) == 0) = true then _ else _) _ _ s
  rw [if_neg (by decide)]
  refine wpAny_bind (nL pl (wpAny_bind (nL pu (wpAny_bind (wpAny_pure ?_)))))
  show wpAny _ _ (match Builtin.Slice.sliceAdjust lo hi 1 (n : Int) with | (lo, hi) => pure (lo, (1 : Int), Builtin.Slice.slicePlaces lo hi 1)) _ _ s
  rw [ue lo hi n]
  show wpAny _ _ (pure (((sIx n 0 lo : Nat) : Int), (1 : Int), Builtin.Slice.slicePlaces ((sIx n 0 lo : Nat) : Int) ((sIx n n hi : Nat) : Int) 1)) _ _ s
  rw [ub]
  exact wpAny_pure h
theorem xn (xs : Array Value) (i k : Nat) : ((List.range k).filterMap fun (m : Nat) => xs[((i : Int) + (m : Int) * 1).toNat]?).toArray = ((xs.toList.drop i).take k).toArray := by
  have e : (fun (m : Nat) => xs[((i : Int) + (m : Int) * 1).toNat]?) = fun m => xs[i + m]? := by
    funext m
    have : ((i : Int) + (m : Int) * 1).toNat = i + m := by omega
    rw [this]
  rw [e]
  have := pick_run xs i k
  rw [List.filterMap_map] at this
  have e2 : ((fun x => xs[x]?) ∘ fun x => i + x) = fun m => xs[i + m]? := rfl
  rw [e2] at this
  rw [this]
theorem getItem_tuple_cut {t sl : Addr} {items : Array Value} {vl vu : Value} {lo hi : Option Int} {Q : Value → Shared → Prop} (ht : IsTup s.heap t items) (hs : s.heap.IsSliceOf sl vl vu .none) (pl : IsPart vl lo) (pu : IsPart vu hi)
    (hw : ¬ (sIx items.size 0 lo = 0 ∧ sIx items.size items.size hi = items.size))
    (h : Q (.ref s.heap.objs.size) { s with heap := s.heap.push { cls := .type "tuple", data := .seq ((items.toList.drop (sIx items.size 0 lo)).take (sIx items.size items.size hi - sIx items.size 0 lo)).toArray } })
    (hsz : items.size ≤ sizeLine) : wpAny (model prog w) A (getItem (.ref t) (.ref sl)) Q E s := by
  have htake : sizeOk (.seq ((items.toList.drop (sIx items.size 0 lo)).take (sIx items.size items.size hi - sIx items.size 0 lo)).toArray) := by
    show ((items.toList.drop (sIx items.size 0 lo)).take (sIx items.size items.size hi - sIx items.size 0 lo)).toArray.size ≤ sizeLine
    rw [List.size_toArray, List.length_take, List.length_drop, Array.length_toList]
    omega
  have hj : sIx items.size items.size hi ≤ items.size := B8 _ _ (Nat.le_refl _) hi
  obtain ⟨os, hos, hcs, hds⟩ := id hs
  have hTs : s.TypeIs (.ref sl) "slice" := ⟨os, hos, hcs⟩
  unfold getItem
  try with_reducible refine wpAny_holding ?_
  first | refine wpAny_bind (wpAny_pure ?_) | skip
  refine wpAny_bind (wpAny_sequenceKey ht.typeIs (by decide) ?_)
  refine wpAny_bind (wpAny_callSpecial?_slot (name := Str.ofString "__getitem__") ht.typeIs PyProof.Rows.slot_tuple_getitem
    (wpAny_call_entry PyProof.Rows.slot_tuple_getitem ht.typeIs entry_tuple_getitem ?_ (args_tuple_getitem _ _)))
  show wpAny _ _ (Builtin.Tuple.tupleItemsOf (.ref t) >>= _) _ _ s
  refine wpAny_bind (tupleItemsOf_ ht ?_)
  refine wpAny_bind (wpAny_typeOf hTs ?_)
  rw [if_pos (by decide)]
  refine wpAny_bind (sliceApplied_gen hs pl pu ?_)
  have hno : ¬ ((((sIx items.size 0 lo : Nat) : Int) == 0 && (1 : Int) == 1 && (sIx items.size items.size hi - sIx items.size 0 lo) == items.size) = true) := by
    intro q
    rw [Bool.and_eq_true, Bool.and_eq_true] at q
    have q1 : ((sIx items.size 0 lo : Nat) : Int) = 0 := eq_of_beq q.1.1
    have q2 : sIx items.size items.size hi - sIx items.size 0 lo = items.size := eq_of_beq q.2
    exact hw ⟨by omega, by omega⟩
  show wpAny _ _ (if (((sIx items.size 0 lo : Nat) : Int) == 0 && (1 : Int) == 1 && (sIx items.size items.size hi - sIx items.size 0 lo) == items.size) = true then _ else _) _ _ s
  rw [if_neg hno, xn]
  first
    | exact wpAny_bind (m := Builtin.Tuple.tupleExact _) (wpAny_newObj_type (wpAny_pure ⟨_, rfl, wpAny_pure h⟩) htake)
    | exact wpAny_bind (m := Builtin.Tuple.tupleExact _) (wpAny_newObj_type (wpAny_bind (wpAny_pure (wpAny_pure ⟨_, rfl, wpAny_pure h⟩))) htake)
    | exact wpAny_bind (wpAny_bind (m := Builtin.Tuple.tupleExact _) (wpAny_newObj_type (wpAny_pure (wpAny_pure ⟨_, rfl, wpAny_pure h⟩)) htake))
    | exact wpAny_bind (wpAny_bind (m := Builtin.Tuple.tupleExact _) (wpAny_newObj_type (wpAny_pure ⟨_, rfl, wpAny_pure h⟩) htake))
end
end HT
namespace L2
open PySem PySem.Spec PyProof.Rows
abbrev TO := St → Hp → (Option Int → Hp → Prop) → Prop
def PO (X : Cx) (e : Option Expr) (t : TO) : Prop :=
  ∀ (pins : List (Addr × Obj)) (s : Shared) (σ : St) (H : Hp) (Q : Option Int → Hp → Prop), aM X pins σ H s → t σ H Q →
    wpAny (model X.prog X.w) X.A (evalPart e X.env) (fun u s' => ∃ o H', aM X pins σ H' s' ∧ IsPart u o ∧ Q o H') X.xe s
def zN : TO := fun _ H Q => Q none H
def CW (t : TE) : TO := fun σ H Q => t σ H fun x H1 => ∃ i, x = .int i ∧ Q (some i) H1
theorem iS {ns : List Int} : ∀ {us : List Value}, bt (ns.map V.int) us → IntsAre us ns := by
  induction ns with
  | nil => intro us r; rw [List.map_nil] at r; cases r; exact .nil
  | cons n ns ih =>
    intro us r
    rw [List.map_cons] at r
    cases r with
    | cons r1 r2 =>
      obtain ⟨t, e⟩ := r1
      subst e
      exact .cons n t (ih r2)
section
variable {X : Cx} {e : Expr} {te : TE} {lo hi : Option Expr} {tl th : TO} {pos p2 : Pos}
theorem Ax : PO X none zN := by
  intro pins s σ H Q I h
  rw [evalPart_none]
  exact wpAny_pure ⟨none, H, I, .none, h⟩
theorem A5 (h : PE X e te) : PO X (some e) (CW te) := by
  intro pins s σ H Q I hw
  rw [evalPart_some]
  refine cQ (h pins s σ H _ I hw) fun u s1 ⟨x, H1, I1, r1, q1⟩ => ?_
  obtain ⟨i, rfl, q⟩ := q1
  obtain ⟨t, rfl⟩ := r1
  exact ⟨some i, H1, I1, .int i t, q⟩
def Af (X : Cx) (r : V → Option Int → Option Int → Hp → VK → Prop) : Prop :=
  ∀ (pins : List (Addr × Obj)) (s : Shared) (σ : St) (H : Hp) (x : V) (v vl vu : Value) (lo hi : Option Int) (sl : Addr) (Q : VK), aM X pins σ H s → bA x v → s.heap.IsSliceOf sl vl vu .none → IsPart vl lo → IsPart vu hi → r x lo hi H Q →
    ∃ T id, typeLookup (.type T) "__getitem__" = pure (some (.builtin id)) ∧ s.TypeIs v T ∧ wpAny (model X.prog X.w) X.A (getItem v (.ref sl)) (EP X pins σ Q) X.xe s
theorem Af.or {r r' : V → Option Int → Option Int → Hp → VK → Prop} (h : Af X r) (h' : Af X r') : Af X (fun x lo hi H Q => r x lo hi H Q ∨ r' x lo hi H Q) := by
  intro pins s σ H x v vl vu lo hi sl Q I rx hs pl pu q
  rcases q with q | q
  · exact h pins s σ H x v vl vu lo hi sl Q I rx hs pl pu q
  · exact h' pins s σ H x v vl vu lo hi sl Q I rx hs pl pu q
def FC (r : V → Option Int → Option Int → Hp → VK → Prop) (te : TE) (tl th : TO) : TE := fun σ H Q => te σ H fun x H1 => tl σ H1 fun l H2 => th σ H2 fun u H3 => r x l u H3 Q
theorem yM {r : V → Option Int → Option Int → Hp → VK → Prop} (hr : Af X r) (he : PE X e te) (hl : PO X lo tl) (hu : PO X hi th) : PE X (.Subscript e (.Slice lo hi none p2) pos) (FC r te tl th) := by
  intro pins s σ H Q I h
  refine Subscript_ (cQ (he pins s σ H _ I h) fun v s1 ⟨x, H1, I1, r1, q1⟩ => ?_)
  refine wpAny_Slice (cQ (hl pins s1 σ H1 _ I1 q1) fun vl s2 ⟨l, H2, I2, pl, q2⟩ => cQ (hu pins s2 σ H2 _ I2 q2) fun vu s3 ⟨u, H3, I3, pu, q3⟩ => ?_)
  rw [evalPart_none]
  refine wpAny_pure ?_
  have I4 : aM X pins σ H3 { s3 with heap := s3.heap.push { cls := .type "slice", data := .fields #[vl, vu, .none] } } := I3.kept (t' := s3.toks) fun b ob q => Heap.get?_push_of_some _ q
  obtain ⟨T, id, hT, ht, hg⟩ := hr pins { s3 with heap := s3.heap.push { cls := .type "slice", data := .fields #[vl, vu, .none] } } σ H3 x v vl vu l u s3.heap.objs.size Q I4 r1 (Heap.IsSliceOf.new ..) pl pu q3
  show wpAny (model X.prog X.w) X.A (subscriptTail e (.Slice lo hi none p2) v (.ref s3.heap.objs.size)) (EP X pins σ Q) X.xe { s3 with heap := s3.heap.push { cls := .type "slice", data := .fields #[vl, vu, .none] } }
  exact tail_any (ops := [.ref s3.heap.objs.size, v]) ht hT hg (by with_unfolding_all rfl)
def sT (xs : List V) (lo hi : Option Int) : List V := (xs.drop (HT.sIx xs.length 0 lo)).take (HT.sIx xs.length xs.length hi - HT.sIx xs.length 0 lo)
theorem mS (xs : List V) (lo hi : Option Int) : (sT xs lo hi).length ≤ xs.length := by
  unfold sT
  rw [List.length_take, List.length_drop]
  omega
def E5 (K : PySem.W.Frag) : V → Option Int → Option Int → Hp → VK → Prop := fun x lo hi H Q => ∃ a xs, x = .ref a ∧ eI K H a xs ∧
  ¬ (HT.sIx xs.length 0 lo = 0 ∧ HT.sIx xs.length xs.length hi = xs.length) ∧ ∀ p, H p = none → Q (.ref p) (cm H p (.tup (sT xs lo hi)))
theorem Bu : Af X (E5 X.K) := by
  intro pins s σ H x v vl vu lo hi sl Q I rx hs pl pu h
  obtain ⟨a, xs, rfl, hx, hw, q⟩ := h
  cases rx
  obtain ⟨its, r, ht, hz⟩ := I.tuple hx
  have hlen : its.toArray.size = xs.length := by rw [List.size_toArray]; exact r.length.symm
  refine ⟨"tuple", _, PyProof.Rows.slot_tuple_getitem.lookup, ht.typeIs, ?_⟩
  refine HT.getItem_tuple_cut ht hs pl pu (by rw [hlen]; exact hw) ?_ (by rw [hlen]; exact hz)
  rw [hlen]
  refine ⟨.ref s.heap.objs.size, _, I.laid (t' := s.toks) (o := .tup (sT xs lo hi)) (fun b ob q => Heap.get?_push_of_some _ q) (Nat.le_refl _) ?_, rfl, q _ (I.hok.fresh (Nat.le_refl _))⟩
  exact ⟨Nat.le_trans (mS xs lo hi) hz, _, (r.drop (HT.sIx xs.length 0 lo)).take (HT.sIx xs.length xs.length hi - HT.sIx xs.length 0 lo), IsTup.new _ _⟩
def Bk (K : PySem.W.Frag) : R2 := fun x y H Q => ∃ a b xs ys, x = .ref a ∧ y = .ref b ∧ eI K H a xs ∧ eI K H b ys ∧ xs ≠ [] ∧ xs.length + ys.length ≤ sizeLine ∧
  (ys = [] → Q (.ref a) H) ∧ (ys ≠ [] → ∀ p, H p = none → Q (.ref p) (cm H p (.tup (xs ++ ys))))
theorem bt.nil_iff {xs : List V} {us : List Value} (r : bt xs us) : us = [] ↔ xs = [] := by
  cases r with
  | nil => simp
  | cons _ _ => simp
theorem A0 : iZ X (binaryOp .Add) (Bk X.K) := by
  intro pins s σ H x y v u Q I rx ry h
  obtain ⟨a, b, xs, ys, rfl, rfl, ha, hb, hx, hz, q1, q2⟩ := h
  cases rx
  cases ry
  obtain ⟨its, r1, p1, _⟩ := I.tuple ha
  obtain ⟨its2, r2, p2, _⟩ := I.tuple hb
  refine HT.cat_tup p1 p2 (fun z => hx (r1.nil_iff.mp z)) (fun z => ⟨.ref a, H, I, rfl, q1 (r2.nil_iff.mp z)⟩) (fun z => ?_) (by rw [← r1.length, ← r2.length]; exact hz)
  refine ⟨.ref s.heap.objs.size, _, I.laid (t' := s.toks) (o := .tup (xs ++ ys)) (fun b ob q => Heap.get?_push_of_some _ q) (Nat.le_refl _) ?_, rfl, q2 (fun w => z (r2.nil_iff.mpr w)) _ (I.hok.fresh (Nat.le_refl _))⟩
  exact ⟨by rw [List.length_append]; exact hz, _, r1.append r2, IsTup.new _ _⟩
end
def vo (n : Nat) (i : Int) : Option Nat := if 0 ≤ i then (if i < n then some i.toNat else none) else if -(n : Int) ≤ i then some (i + n).toNat else none
def atI {α : Type} (xs : List α) (i : Int) : Option α := (vo xs.length i).bind fun j => xs[j]?
theorem vn {n : Nat} {i : Int} {j : Nat} (h : vo n i = some j) : seqIndex? i n = some j ∧ j < n ∧ -(n : Int) ≤ i ∧ i < n := by
  unfold vo at h
  by_cases h0 : 0 ≤ i
  · rw [if_pos h0] at h
    by_cases h1 : i < n
    · rw [if_pos h1] at h
      have e : i.toNat = j := Option.some.inj h
      exact ⟨by rw [seqIndex_of h0 h1, e], by omega, by omega, h1⟩
    · rw [if_neg h1] at h; cases h
  · rw [if_neg h0] at h
    by_cases h1 : -(n : Int) ≤ i
    · rw [if_pos h1] at h
      have e : (i + n).toNat = j := Option.some.inj h
      exact ⟨by rw [seqIndex_neg (by omega) h1, e], by omega, h1, by omega⟩
    · rw [if_neg h1] at h; cases h
theorem ql {α : Type} {xs : List α} {i : Int} {v : α} (h : atI xs i = some v) : ∃ j, seqIndex? i xs.length = some j ∧ xs[j]? = some v ∧ j < xs.length ∧ -(xs.length : Int) ≤ i ∧ i < xs.length := by
  unfold atI at h
  cases e : vo xs.length i with
  | none => rw [e] at h; cases h
  | some j =>
    rw [e] at h
    obtain ⟨h1, h2, h3, h4⟩ := vn e
    exact ⟨j, h1, h, h2, h3, h4⟩
theorem qE {α : Type} {xs : List α} {j : Nat} {v : α} (h : xs[j]? = some v) : atI xs (j : Int) = some v := by
  have hj : j < xs.length := (List.getElem?_eq_some_iff.mp h).1
  have e : vo xs.length (j : Int) = some j := by
    unfold vo
    rw [if_pos (by omega), if_pos (by omega)]; simp
  unfold atI; rw [e]; exact h
def rl (b : Expr) : Prop := ∀ o i, subscripted b false o i = operate [o, i] (getItem o i)
def At (X : Cx) (r : R2) : Prop :=
  ∀ (value slice : Expr) (pins : List (Addr × Obj)) (s : Shared) (σ : St) (H : Hp) (x y : V) (v u : Value) (Q : VK), aM X pins σ H s → bA x v → bA y u → r x y H Q →
    subscripted slice false v u = operate [v, u] (getItem v u) → wpAny (model X.prog X.w) X.A (subscriptTail value slice v u) (EP X pins σ Q) X.xe s
def Fi (X : Cx) (id : String) (r : V → List V → Hp → VK → Prop) : Prop :=
  ∀ (pins : List (Addr × Obj)) (s : Shared) (σ : St) (H : Hp) (x : V) (xs : List V) (v : Value) (us : List Value) (Q : VK), aM X pins σ H s → bA x v → bt xs us → r x xs H Q →
    wpAny (model X.prog X.w) X.A (call (.builtin id) (v :: us)) (EP X pins σ Q) X.xe s
section
variable {X : Cx} {a b : Expr} {ta tb : TE} {pos : Pos}
theorem At.or {r r' : R2} (h : At X r) (h' : At X r') : At X (fun x y H Q => r x y H Q ∨ r' x y H Q) := by
  intro value slice pins s σ H x y v u Q I rx ry q hs
  rcases q with q | q
  · exact h value slice pins s σ H x y v u Q I rx ry q hs
  · exact h' value slice pins s σ H x y v u Q I rx ry q hs
theorem D4 {r : R2} (hr : At X r) (ha : PE X a ta) (hb : PE X b tb) (hs : rl b) : PE X (.Subscript a b pos) (Dk r ta tb) := by
  intro pins s σ H Q I h
  exact Subscript_ (Ct ha hb I h fun v u s2 x y H2 I2 rx ry q => hr a b pins s2 σ H2 x y v u Q I2 rx ry q (hs _ _))
def DJ (K : PySem.W.Frag) : R2 := fun x y H Q => ∃ p xs i v, x = .ref p ∧ y = .int i ∧ mX K H p xs ∧ atI xs i = some v ∧ Q v H
def Ej (K : PySem.W.Frag) : R2 := fun x y H Q => ∃ p xs i v, x = .ref p ∧ y = .int i ∧ eI K H p xs ∧ atI xs i = some v ∧ Q v H
def Dp : R2 := fun x y H Q => ∃ z i c, x = .str z ∧ y = .int i ∧ z.length ≤ sizeLine ∧ atI z.cps.toList i = some c ∧ Q (.str ⟨#[c]⟩) H
theorem zL : At X (DJ X.K) := by
  intro value slice pins s σ H x y v u Q I rx ry h hs
  obtain ⟨p, xs, i, z, rfl, rfl, hq, he, q⟩ := h
  cases rx
  obtain ⟨t, rfl⟩ := ry
  obtain ⟨its, r, pl, hz⟩ := I.list hq
  obtain ⟨j, h1, h2, h3, h4, h5⟩ := ql he
  obtain ⟨w, ew, rw'⟩ := r.get h2
  have hl := r.length
  have hn := mx
  have fin : EP X pins σ Q w s := ⟨z, H, I, rw', q⟩
  by_cases h0 : 0 ≤ i
  · have hj : i.toNat = j := by
      rw [seqIndex_of h0 h5] at h1
      exact Option.some.inj h1
    exact item_listR pl.isList h0 (by omega) (by rw [hj]; simpa using ew) fin hs
  · have hj : (i + (its.toArray.size : Int)).toNat = j := by
      rw [seqIndex_neg (by omega) h4] at h1
      rw [List.size_toArray, ← hl]
      exact Option.some.inj h1
    exact subscriptTail_builtinR (x := w) pl.isList.typeIs slot_list_getitem.lookup
      (wpAny_getItem_list_neg (Q := fun r s' => r = w ∧ EP X pins σ Q r s') pl.isList (by omega) (by rw [List.size_toArray] <;> omega) (by omega) (by rw [hj]; simpa using ew) ⟨rfl, fin⟩) hs
theorem BX : At X (Ej X.K) := by
  intro value slice pins s σ H x y v u Q I rx ry h hs
  obtain ⟨p, xs, i, z, rfl, rfl, hq, he, q⟩ := h
  cases rx
  obtain ⟨t, rfl⟩ := ry
  obtain ⟨its, r, pl, hz⟩ := I.tuple hq
  obtain ⟨j, h1, h2, h3, h4, h5⟩ := ql he
  obtain ⟨w, ew, rw'⟩ := r.get h2
  have hl := r.length
  have hn := mx
  have fin : EP X pins σ Q w s := ⟨z, H, I, rw', q⟩
  exact subscriptTail_builtinR (x := w) pl.typeIs slot_tuple_getitem.lookup
    (getItem_tuple (j := j) (Q := fun r s' => r = w ∧ EP X pins σ Q r s') pl (by omega) (by omega) (by rw [List.size_toArray, ← hl]; exact h1) (by simpa using ew) ⟨rfl, fin⟩) hs
theorem CA : At X Dp := by
  intro value slice pins s σ H x y v u Q I rx ry h hs
  obtain ⟨z, i, c, rfl, rfl, hz, he, q⟩ := h
  obtain ⟨t, rfl⟩ := rx
  obtain ⟨t', rfl⟩ := ry
  obtain ⟨j, h1, h2, h3, h4, h5⟩ := ql he
  have hl : z.cps.toList.length = z.length := by simp [Str.length]
  rw [hl] at h1 h4 h5
  have hn := mx
  exact tail_any (typeIs_str s z t) slot_str_getitem.lookup (getItem_str (c := c) (by
    have e1 : decide (i < -(2 ^ 63 : Int)) = false := decide_eq_false (by omega)
    have e2 : decide (i ≥ 2 ^ 63) = false := decide_eq_false (by omega)
    rw [e1, e2, Bool.or_false]) (by rw [h1]; simpa using h2) ⟨.str ⟨#[c]⟩, H, I.tok _, ⟨_, rfl⟩, q⟩) hs
theorem ut (its : List Value) (n j : Nat) (u : Value) : Obj.mapSeq (·.setIfInBounds j u) { cls := .type "list", data := .seq its.toArray n } = { cls := .type "list", data := .seq (its.set j u).toArray n } := by
  simp [Obj.mapSeq]
theorem aM.lst {pins : List (Addr × Obj)} {σ : St} {H : Hp} {s : Shared} {p : Addr} {xs : List V} (I : aM X pins σ H s) (h : H p = some (.lst xs)) :
    ∃ (its : List Value) (n : Nat), bt xs its ∧ s.heap.get? p = some { cls := .type "list", data := .seq its.toArray n } ∧ xs.length ≤ sizeLine := by
  obtain ⟨z, its, n, r, e⟩ := I.hok p _ h
  exact ⟨its, n, r, e, z⟩
theorem aM.lstUpd {pins : List (Addr × Obj)} {σ : St} {H : Hp} {s : Shared} {p : Addr} {xs ys : List V} {its its' : List Value} {n n' : Nat} {f : Obj → Obj} (I : aM X pins σ H s) (h : H p = some (.lst xs))
    (ho : s.heap.get? p = some { cls := .type "list", data := .seq its.toArray n }) (hf : f { cls := .type "list", data := .seq its.toArray n } = { cls := .type "list", data := .seq its'.toArray n' }) (r : bt ys its') (hz : ys.length ≤ sizeLine) (t : Nat) :
    aM X pins σ (cm H p (.lst ys)) { s with heap := s.heap.update p f, toks := t } := by
  have e : (s.heap.update p f).get? p = some { cls := .type "list", data := .seq its'.toArray n' } := by
    rw [Heap.get?_update_self f ho (by rw [hf] <;> rfl), hf]
  refine I.write (x := p) (e := p) (by rw [h]; trivial) (.inl rfl) (fun b u hb q => (Heap.get?_update_other _ _ (Ne.symm hb)).trans q) ⟨_, e⟩ ?_
  exact ⟨hz, its', n', r, e⟩
def Dv : V → V → V → Hp → (Hp → Prop) → Prop := fun o i v H Q => ∃ p xs k j, o = .ref p ∧ i = .int k ∧ H p = some (.lst xs) ∧ vo xs.length k = some j ∧ Q (cm H p (.lst (xs.set j v)))
theorem xq : Ed X Dv := by
  intro pins s σ H o i v ov iv u Q I ro ri rv h
  obtain ⟨p, xs, k, j, rfl, rfl, hp, hj, q⟩ := h
  cases ro
  obtain ⟨t, rfl⟩ := ri
  obtain ⟨its, n, r, ho, hz⟩ := I.lst hp
  obtain ⟨h1, h2, h3, h4⟩ := vn hj
  have hl := r.length
  have hn := mx
  have I' : aM X pins σ (cm H p (.lst (xs.set j v))) { s with heap := s.heap.update p (Obj.mapSeq (·.setIfInBounds j u)) } :=
    I.lstUpd hp ho (ut its n j u) (r.set rv j) (by rw [List.length_set]; exact hz) s.toks
  by_cases h0 : 0 ≤ k
  · have hk : k.toNat = j := by
      rw [seqIndex_of h0 h4] at h1
      exact Option.some.inj h1
    exact PySem.W.ki_setAt ho h0 (by omega) (by rw [List.size_toArray, ← hl]; exact h4) (by rw [hk]; exact ⟨_, I', q⟩)
  · have hk : (k + (its.toArray.size : Int)).toNat = j := by
      rw [seqIndex_neg (by omega) h3] at h1
      rw [List.size_toArray, ← hl]
      exact Option.some.inj h1
    exact PySem.W.ki_setBack ho (by omega) (by rw [List.size_toArray, ← hl]; exact h3) (by omega) (by rw [hk]; exact ⟨_, I', q⟩)
theorem rb (lo hi : Option Int) (n : Nat) : (sliceBounds lo hi none n).1 = ((HT.sIx n 0 lo : Nat) : Int) ∧ (sliceBounds lo hi none n).2.1 = ((HT.sIx n n hi : Nat) : Int) ∧ (sliceBounds lo hi none n).2.2 = 1 := by
  refine ⟨?_, ?_, rfl⟩
  · cases lo with
    | none => simp [sliceBounds, HT.sIx]
    | some i =>
      simp only [sliceBounds, HT.sIx, Option.getD_none, show (1 : Int) > 0 by decide, if_true]
      by_cases h : i < 0
      · simp only [h, if_true] <;> omega
      · simp only [h, if_false] <;> omega
  · cases hi with
    | none => simp [sliceBounds, HT.sIx]
    | some i =>
      simp only [sliceBounds, HT.sIx, Option.getD_none, show (1 : Int) > 0 by decide, if_true]
      by_cases h : i < 0
      · simp only [h, if_true] <;> omega
      · simp only [h, if_false] <;> omega
theorem ph (its : List Value) (lo hi : Option Int) : slicePick its.toArray lo hi none = ((its.drop (HT.sIx its.length 0 lo)).take (HT.sIx its.length its.length hi - HT.sIx its.length 0 lo)).toArray := by
  obtain ⟨h1, h2, h3⟩ := rb lo hi its.toArray.size
  unfold slicePick
  rw [h1, h2, h3]
  simp only [sliceRange_one, pick_run, List.size_toArray] <;> rfl
def E1 (K : PySem.W.Frag) : V → Option Int → Option Int → Hp → VK → Prop := fun x lo hi H Q => ∃ a xs, x = .ref a ∧ mX K H a xs ∧ ∀ p, H p = none → Q (.ref p) (cm H p (.lst (sT xs lo hi)))
theorem Av : Af X (E1 X.K) := by
  intro pins s σ H x v vl vu lo hi sl Q I rx hs pl pu h
  obtain ⟨a, xs, rfl, hx, q⟩ := h
  cases rx
  obtain ⟨its, r, ht, hz⟩ := I.list hx
  have hlen := r.length
  refine ⟨"list", _, slot_list_getitem.lookup, ht.isList.typeIs, ?_⟩
  refine wpAny_getItem_list_slice ht.isList hs pl pu .none (by simp) ?_ (by rw [List.size_toArray] <;> omega)
  rw [ph, ← hlen]
  refine ⟨.ref s.heap.objs.size, _, I.laid (t' := s.toks) (o := .lst (sT xs lo hi)) (fun b ob q => Heap.get?_push_of_some _ q) (Nat.le_refl _) ?_, rfl, q _ (I.hok.fresh (Nat.le_refl _))⟩
  exact ⟨Nat.le_trans (mS xs lo hi) hz, _, 0, (r.drop (HT.sIx xs.length 0 lo)).take (HT.sIx xs.length xs.length hi - HT.sIx xs.length 0 lo), Heap.get?_push_size _ rfl⟩
theorem rh : dP X (.builtin "len") (fun xs H Q => ∃ p ys, xs = [.ref p] ∧ (mX X.K H p ys ∨ eI X.K H p ys) ∧ Q (.int ys.length) H) := by
  intro pins s σ H xs us Q I r h
  obtain ⟨p, ys, rfl, hq, q⟩ := h
  obtain ⟨u, rfl, rx⟩ := gy r
  cases rx
  have hn := mx
  rcases hq with hq | hq
  · obtain ⟨its, r', pl, hz⟩ := I.list hq
    have hlen := r'.length
    exact Calls.call_len_list pl.isList (by simp only [List.size_toArray] <;> omega) ⟨.int ys.length, H, I.tok _, ⟨s.toks + 1, by rw [List.size_toArray, hlen]⟩, q⟩
  · obtain ⟨its, r', pl, hz⟩ := I.tuple hq
    have hlen := r'.length
    exact len_tuple pl (by simp only [List.size_toArray] <;> omega) ⟨.int ys.length, H, I.tok _, ⟨s.toks + 1, by rw [List.size_toArray, hlen]⟩, q⟩
theorem qI : dP X (.builtin "len") (fun xs H Q => ∃ z, xs = [.str z] ∧ z.length ≤ sizeLine ∧ Q (.int z.length) H) := by
  intro pins s σ H xs us Q I r h
  obtain ⟨z, rfl, hz, q⟩ := h
  obtain ⟨u, rfl, t, rfl⟩ := gy r
  have hn := mx
  exact len_str (by omega) ⟨.int z.length, H, I.tok _, ⟨_, rfl⟩, q⟩
theorem dP.or {f : Value} {r r' : List V → Hp → VK → Prop} (h : dP X f r) (h' : dP X f r') : dP X f (fun xs H Q => r xs H Q ∨ r' xs H Q) := by
  intro pins s σ H xs us Q I rs q
  rcases q with q | q
  · exact h pins s σ H xs us Q I rs q
  · exact h' pins s σ H xs us Q I rs q
theorem qT : dP X (.type "list") (fun xs H Q => ∃ p ys, xs = [.ref p] ∧ (mX X.K H p ys ∨ eI X.K H p ys) ∧ ∀ l, H l = none → Q (.ref l) (cm H l (.lst ys))) := by
  intro pins s σ H xs us Q I r h
  obtain ⟨p, ys, rfl, hq, q⟩ := h
  obtain ⟨u, rfl, rx⟩ := gy r
  cases rx
  have fin : ∀ (its : List Value), bt ys its → ys.length ≤ sizeLine → ∀ (h' : Heap) (c' : Nat), (∀ b o', s.heap.get? b = some o' → h'.get? b = some o') →
      h'.get? s.heap.objs.size = some { cls := .type "list", dict := none, data := .seq its.toArray c', slots := #[] } → EP X pins σ Q (.ref s.heap.objs.size) { s with heap := h' } := fun its r' hz h' c' kp e =>
    ⟨.ref s.heap.objs.size, _, I.laid (t' := s.toks) kp (Nat.le_refl _) (show bR X.prog X.w _ h' _ (.lst ys) from ⟨hz, its, c', r', e⟩), rfl, q _ (I.hok.fresh (Nat.le_refl _))⟩
  rcases hq with hq | hq
  · obtain ⟨its, r', pl, hz⟩ := I.list hq
    have hlen := r'.length
    obtain ⟨o, ho, hc, n, hd⟩ := pl.isList
    exact call_list_seq p (.inl rfl) ho hc hd (fun h' c' kp e => fin its r' hz h' c' kp e) (by simp only [List.size_toArray] <;> omega)
  · obtain ⟨its, r', pl, hz⟩ := I.tuple hq
    have hlen := r'.length
    obtain ⟨o, ho, hc, n, hd⟩ := pl
    exact call_list_seq p (.inr rfl) ho hc hd (fun h' c' kp e => fin its r' hz h' c' kp e) (by simp only [List.size_toArray] <;> omega)
theorem pk : dP X (.type "tuple") (fun xs H Q => ∃ p ys, xs = [.ref p] ∧ ((mX X.K H p ys ∧ ∀ l, H l = none → Q (.ref l) (cm H l (.tup ys))) ∨ (eI X.K H p ys ∧ Q (.ref p) H))) := by
  intro pins s σ H xs us Q I r h
  obtain ⟨p, ys, rfl, h⟩ := h
  obtain ⟨u, rfl, rx⟩ := gy r
  cases rx
  rcases h with ⟨hq, q⟩ | ⟨hq, q⟩
  · obtain ⟨its, r', pl, hz⟩ := I.list hq
    have hlen := r'.length
    refine call_tuple_list pl.isList (fun h' kp => ?_) (by simp only [List.size_toArray] <;> omega)
    have I1 : aM X pins σ H { s with heap := h' } := I.kept (t' := s.toks) kp
    have I2 : aM X pins σ (cm H h'.objs.size (.tup ys)) { s with heap := h'.push { cls := .type "tuple", data := .seq its.toArray } } :=
      I1.laid (t' := s.toks) (fun b o e => Heap.get?_push_of_some _ e) (Nat.le_refl _) (show bR X.prog X.w _ _ _ (.tup ys) from ⟨hz, its, r', IsTup.new _ _⟩)
    exact ⟨.ref h'.objs.size, _, I2, rfl, q _ (I1.hok.fresh (Nat.le_refl _))⟩
  · obtain ⟨its, r', pl, hz⟩ := I.tuple hq
    exact call_tuple_same pl ⟨.ref p, H, I, rfl, q⟩
def Ft (K : PySem.W.Frag) (T : String) (x : V) (H : Hp) : Prop := match x with
  | .str _ => T = "str"
  | .int _ => T = "int"
  | .ref p => (T = "list" ∧ ∃ xs, mX K H p xs) ∨ (T = "tuple" ∧ ∃ o, K.lookup p = some o ∧ o.cls = .type "tuple" ∧ o.dict = none) ∨
      (T = "dict" ∧ ((∃ kvs, H p = some (.dK kvs)) ∨ ∃ kvs, H p = some (.dT kvs))) ∨ (T = "set" ∧ ∃ S n, H p = some (.set S n))
  | _ => False
theorem Cu {pins : List (Addr × Obj)} {σ : St} {H : Hp} {s : Shared} {T : String} {x : V} {v : Value} (I : aM X pins σ H s) (r : bA x v) (ty : Ft X.K T x H) :
    s.TypeIs v T ∧ ∀ a, v = .ref a → ∃ ob, s.heap.get? a = some ob ∧ ob.dict = none := by
  cases x with
  | str z =>
    obtain ⟨t, rfl⟩ := r
    cases (show T = "str" from ty)
    exact ⟨typeIs_str s z t, fun _ e => nomatch e⟩
  | int i =>
    obtain ⟨t, rfl⟩ := r
    cases (show T = "int" from ty)
    exact ⟨typeIs_int s i t, fun _ e => nomatch e⟩
  | ref p =>
    cases r
    rcases ty with ⟨rfl, xs, hq⟩ | ⟨rfl, o, hk, hc, hd⟩ | ⟨rfl, hk⟩ | ⟨rfl, S, n, hk⟩
    · obtain ⟨its, _, pl, _⟩ := I.list hq
      refine ⟨pl.isList.typeIs, fun a e => ?_⟩
      cases e
      obtain ⟨o, n, e, c, hd, _⟩ := pl
      exact ⟨o, e, hd⟩
    · refine ⟨⟨o, I.kIn p o hk, hc⟩, fun a e => ?_⟩
      cases e
      exact ⟨o, I.kIn _ o hk, hd⟩
    · have z : ∃ o, s.heap.get? p = some o ∧ o.ExactDict := by
        rcases hk with ⟨kvs, hk⟩ | ⟨kvs, hk⟩
        · obtain ⟨_, _, _, _, o, _, _, e, ex, _⟩ := I.hok p _ hk
          exact ⟨o, e, ex⟩
        · obtain ⟨_, _, _, _, o, _, _, e, ex, _⟩ := I.hok p _ hk
          exact ⟨o, e, ex⟩
      obtain ⟨o, e, ex⟩ := z
      refine ⟨⟨o, e, ex.1⟩, fun a e2 => ?_⟩
      cases e2
      exact ⟨o, e, ex.2.1⟩
    · obtain ⟨o, _, _, _, e, ex, _⟩ := I.hok p _ hk
      refine ⟨⟨o, e, ex.1⟩, fun a e2 => ?_⟩
      cases e2
      exact ⟨o, e, ex.2.1⟩
  | _ => exact False.elim ty
def Fx (K : PySem.W.Frag) (T : String) (r : V → List V → Hp → VK → Prop) (to : TE) (t : TA) : TE := fun σ H Q => to σ H fun x H1 => Ft K T x H1 ∧ t σ H1 fun xs H2 => r x xs H2 Q
variable {o e : Expr} {es : List Expr} {to : TE} {t : TA} {name : Str} {apos cpos : Pos} {T id : String} {r : V → List V → Hp → VK → Prop}
theorem Bb (pa : PlainAttrs T) (slot : Slot T name id) (hty : typeOf (.builtin id) = pure (.type "method_descriptor")) (hm : Fi X id r) (ho : PE X o to) (ha : PA X (e :: es) t)
    (hbase : attributeBase o name X.env (eval o X.env) = eval o X.env := by rfl)
    (hfew : ((backTo cpos (starEach (e :: es) X.env)).all (fun x => !x.1) && (backToKw cpos (keywordEach [] X.env)).all (fun x => x.1.isSome)
      && decide ((e :: es).length + ([] : List Keyword).length + (if ([] : List Keyword).isEmpty then 0 else 1) < 30)) = true := by rfl)
    (hline : (apos.endLine == cpos.line) = true := by rfl) (hs : starEach (e :: es) X.env = (false, eval e X.env) :: starEach es X.env := by rfl) (hplain : (backTo cpos (starEach es X.env)).any (·.1) = false := by rfl) :
    PE X (.Call (.Attribute o name apos) (e :: es) [] cpos) (Fx X.K T r to t) := by
  intro pins s σ H Q I h
  refine wpAny_Call_method_late hbase hfew hline rfl (cQ (ho pins s σ H _ I h) fun v s1 ⟨x, H1, I1, r1, ty, q1⟩ => ?_)
  obtain ⟨h1, h2⟩ := Cu I1 r1 ty
  refine ⟨T, id, pa, slot, hty, h1, h2, ?_⟩
  have hA := ha cpos pins s1 σ H1 _ I1 q1
  rw [hs] at hA ⊢
  refine Calls.callWith_builtin (by show (false || (backTo cpos (starEach es X.env)).any (·.1)) = false; rw [hplain] <;> rfl) (Calls.evalArgs_plain ?_)
  exact cQ hA fun us s2 ⟨vs, H2, I2, r2, q2⟩ => hm pins s2 σ H2 x vs v us Q I2 r1 r2 q2
end
def FE (X : Cx) (id : String) (r : V → List V → Hp → VK → Prop) : Prop :=
  ∀ (pins : List (Addr × Obj)) (s : Shared) (σ : St) (H : Hp) (x : V) (xs : List V) (v : Value) (us : List Value) (Q : VK), aM X pins σ H s → bA x v → bt xs us → r x xs H Q →
    wpAny (model X.prog X.w) X.A (call (.builtin id) (v :: us)) (EP X pins σ Q) X.xe s
theorem bt.one : ∀ {x : V} {us : List Value}, bt [x] us → ∃ u, us = [u] ∧ bA x u
  | _, _, .cons r .nil => ⟨_, rfl, r⟩
theorem bt.rep {xs : List V} {us : List Value} (h : bt xs us) : ∀ k : Nat, bt (List.replicate k xs).flatten (List.replicate k us).flatten
  | 0 => .nil
  | k + 1 => by
    rw [List.replicate_succ, List.replicate_succ, List.flatten_cons, List.flatten_cons]
    exact bt.append h (bt.rep h k)
theorem p0 (its : List Value) : ∀ (k : Nat) (acc : List Value),
    List.foldl (fun x1 x2 => x1 ++ x2) acc.toArray (List.replicate k its.toArray) = (acc ++ (List.replicate k its).flatten).toArray
  | 0, acc => by simp
  | k + 1, acc => by
    have e : acc.toArray ++ its.toArray = (acc ++ its).toArray := by simp
    have e2 : (acc ++ its) ++ (List.replicate k its).flatten = acc ++ (List.replicate (k + 1) its).flatten := by
      rw [List.replicate_succ, List.flatten_cons, List.append_assoc]
    rw [← e2, ← p0 its k (acc ++ its), ← e, List.replicate_succ, List.foldl_cons]
section
variable {X : Cx} {pins : List (Addr × Obj)} {σ : St} {H : Hp} {s : Shared} {l b : Addr} {xs ys zs : List V}
theorem aM.lset {its its' : List Value} {n : Nat} {f : Array Value → Array Value} {t' : Nat} (I : aM X pins σ H s) (hH : H l = some (.lst xs))
    (e : s.heap.get? l = some { cls := .type "list", data := .seq its.toArray n }) (hf : f its.toArray = its'.toArray) (hv : bt ys its') (hz : ys.length ≤ sizeLine) :
    aM X pins σ (cm H l (.lst ys)) { s with heap := s.heap.update l (Obj.mapSeq f), toks := t' } := by
  have q := PySem.IsL.update e f
  rw [hf] at q
  refine I.write (x := l) (e := l) (by rw [hH]; exact trivial) (.inl rfl) (fun b' u hb hu => (Heap.get?_update_other s.heap (Obj.mapSeq f) (Ne.symm hb)).trans hu) ⟨_, q⟩ ?_
  exact ⟨hz, its', _, hv, q⟩
theorem aM.lnew {its : List Value} {t' : Nat} (I : aM X pins σ H s) (hv : bt ys its) (hz : ys.length ≤ sizeLine) :
    aM X pins σ (cm H s.heap.objs.size (.lst ys)) { s with heap := s.heap.push { cls := .type "list", data := .seq its.toArray }, toks := t' } :=
  I.laid (fun _ _ q => Heap.get?_push_of_some _ q) (Nat.le_refl _) ⟨hz, its, 0, hv, Heap.get?_push_size _ rfl⟩
theorem aM.fresh (I : aM X pins σ H s) : H s.heap.objs.size = none := I.hok.fresh (Nat.le_refl _)
theorem aM.lstM (I : aM X pins σ H s) (hH : H l = some (.lst xs)) : xs.length ≤ sizeLine ∧ ∃ (its : List Value) (n : Nat), bt xs its ∧ xs.length = its.length ∧ s.heap.get? l = some { cls := .type "list", data := .seq its.toArray n } := by
  obtain ⟨z, its, n, r, e⟩ := I.hok l _ hH
  exact ⟨z, its, n, r, r.length, e⟩
end
section
variable {X : Cx}
def AB : V → List V → Hp → VK → Prop := fun x vs H Q => ∃ l xs y, x = .ref l ∧ vs = [y] ∧ H l = some (.lst xs) ∧ xs.length < sizeLine ∧ Q .non (cm H l (.lst (xs ++ [y])))
theorem pU : FE X "list.append" AB := by
  intro pins s σ H x vs v us Q I rx rv h
  obtain ⟨l, xs, y, rfl, rfl, hH, hz, q⟩ := h
  cases rx
  obtain ⟨u, rfl, ru⟩ := rv.one
  obtain ⟨z, its, n, r, hl, e⟩ := I.lstM hH
  refine call_meets F.slot_list_append ⟨_, e, rfl⟩ F.entry_list_append (F.args_list_append_2 _ _) (PySem.list_append l its.toArray n u (by rw [List.size_toArray]; omega)) ⟨e, ?_⟩
  refine ⟨.non, _, I.lset (its' := its ++ [u]) hH e (by simp) (r.append (.cons ru .nil)) ?_, rfl, q⟩
  rw [List.length_append, List.length_singleton]
  omega
theorem vP {α : Type} (xs : List α) (k : Nat) : (List.replicate k xs).flatten.length = k * xs.length := by
  induction k with
  | zero => simp
  | succ k ih => rw [List.replicate_succ, List.flatten_cons, List.length_append, ih, Nat.succ_mul, Nat.add_comm]
end
end L2
namespace Att
open PySem PySem.W PySem.Calls PyProof.Rows
theorem nh {P : Params} {h : Heap} : ∀ (ns : List Int) (vs : List Value), WellAll P h vs (ns.map WData.int) → IntsAre vs ns := by
  intro ns
  induction ns with
  | nil =>
    intro vs w
    rw [List.map_nil] at w
    cases w
    exact .nil
  | cons n ns ih =>
    intro vs w
    rw [List.map_cons] at w
    cases w with
    | cons a b =>
      cases a
      exact .cons _ _ (ih _ b)
theorem wf {l : OpenLaw} {n : Nat} (hn : l.most = some n) {P : Params} {h : Heap} {args : List WData} {vals : List Value}
    (hpre : l.row.toRowW.claim.pre args = true) (hwl : WellAll P h vals args) :
    ∃ a vs ns, vals = [Value.ref a] ∧ args = [WData.list (ns.map WData.int)] ∧ h.get? a = some { cls := .type "list", data := .seq vs.toArray } ∧ IntsAre vs ns ∧ ns.length ≤ n := by
  have hsh : WShape.hasAll [] args [.list .int] = true := (pre_splitW hpre).1
  have hc : l.pre.holds [] { args := args } = true := (pre_splitW hpre).2
  obtain ⟨d, r, rfl, h1, h2⟩ := hasAllW_cons hsh
  obtain rfl := hasAllW_nil h2
  obtain ⟨xs, rfl, h3⟩ := hasW_list h1
  obtain ⟨ns, rfl⟩ := items_int h3
  have hlen : ns.length ≤ n := by
    unfold OpenLaw.pre at hc
    have h4 : (WTm.not (.lt (.lit (.int (n : Int))) (.len (.arg 0)))).holds [] { args := [.list (ns.map .int)] } = true := by
      have h4 := (holds_andW hc).1
      rw [hn] at h4
      exact h4
    have h5 := condW_of h4 (w_not (w_lt w_lit (w_len_list (w_arg rfl))))
    rw [List.length_map] at h5
    refine Nat.le_of_not_lt fun q => ?_
    have q' : (n : Int) < ((ns.length : Nat) : Int) := by omega
    first
      | (rw [decide_eq_true q'] at h5; exact absurd h5 (by decide))
      | (simp at h5; omega)
  cases hwl with
  | cons w1 w2 =>
    cases w2
    cases w1 with
    | list ho hall => exact ⟨_, _, ns, rfl, rfl, ho, nh ns _ hall, hlen⟩
theorem wG (l : OpenLaw) (args : List WData) : l.row.toRowW.claim.post args (.bool true) args = true :=
  postW_of (r := l.row.toRowW) (X := (true == true))
    (show WShape.has [] (.bool true) .bool = true by first | rfl | decide | simp [WShape.has, WShape.arms, WShape.armsAll])
    (show (WTm.eq .res (.lit (.bool true))).value [] { args := args, res := some (.bool true), after := args } = some (.bool (true == true)) from w_eq_bool (w_res rfl) w_lit) rfl
theorem attach_call {l : OpenLaw} {n : Nat} {q : Program} {loose : List Str} {XP : (Str → Option Value) → Heap → Prop} {YP : World → Heap → Prop} {d : DefRec}
    (hn : l.most = some n) (hdf : d.params.defaults = [])
    (call : ∀ (w : World) (s₀ s₁ : Shared) (mg mb : Str → Option Value) (fa : Addr) (o : Obj) (pm cd doc : Value) (a : Addr) (vs : List Value) (ns : List Int),
      Ground q loose [] XP w s₀ mg mb s₁.heap → YP w s₁.heap →
      s₁.heap.get? fa = some o → o.data = .func (docDef d.name d.params d.body d.scope pm cd doc) → s₁.heap.CodeRec cd d.name → mg d.name = some (.ref fa) →
      s₁.heap.get? a = some { cls := .type "list", data := .seq vs.toArray } → IntsAre vs ns → ns.length ≤ n → s₁.gens = #[] →
      codeAny (model l.prog w) callerA (.call (.ref fa) ⟨[.ref a], []⟩) (fun r s' => r = .ok (.ret (.bool true)) ∧ OldK s₁.heap s'.heap ∧ s'.os = s₁.os ∧ AllBare s'.gens) s₁) :
    WalkO q loose XP YP l.row.toRowW d [] (fun f vs => PySem.call f vs) := by
  intro w s₀ s₁ mg mb G Y fa o pm cd doc dV kV ho hd hcd hD hmg hg args vals as hpre hlay hrd hwl hlo
  obtain rfl : dV = .none := Dflts.none hD hdf
  obtain rfl : kV = .none := Dflts.noKw hD
  obtain ⟨a, vs, ns, rfl, rfl, hobj, hints, hlen⟩ := wf hn hpre hwl
  refine enter_call (codeAny_mono (call w s₀ s₁ mg mb fa o pm cd doc a vs ns G Y ho (fd_plain hd) hcd hmg hobj hints hlen hg) fun r s' hq => ?_)
  obtain ⟨rfl, h2, h3, h4⟩ := hq
  exact ⟨.inl ⟨.bool true, .bool true, [], rfl, fun _ => rfl, .bool true, wG l _, fun _ => ⟨List.Pairwise.nil, fun _ hm => (nomatch hm)⟩⟩, h2, h3, h4⟩
end Att
namespace L2
open PySem PySem.Spec PyProof.Rows
theorem j8 : ∀ {vs : List Value} {ns : List Int}, IntsAre vs ns → bt (ns.map V.int) vs
  | _, _, .nil => .nil
  | _, _, .cons n t h => .cons ⟨t, rfl⟩ (j8 h)
def DA (H : Hp) : Prop := ∀ b, H b = none ∨ ∃ o xs, H b = some (.frz o (.lst xs))
theorem xK {P : Program} {w : World} {K : PySem.W.Frag} {mg mb : Str → Option Value} {CX : xl} {k : Nat} {fa a : Addr} {fd : FuncData} {x : Str} {sp : Sp} {s₁ : Shared} {vs : List Value} {ns : List Int}
    (KX : K.In s₁.heap) (hns : s₁.heap.Ns mainGlobals mg) (hb : s₁.heap.Ns builtinsNs mb) (hbb : ∀ x : Str, x ≠ "__name__" → mb x = bootBuiltins x) (hlim : s₁.heap.NoLimit) (hg : s₁.gens = #[])
    (ha : s₁.heap.get? a = some { cls := .type "list", data := .seq vs.toArray }) (hi : IntsAre vs ns) (hl : ns.length ≤ sizeLine) (hr : eJ k callerA)
    (F : ∀ base : Heap, K.In base → base.Ns mainGlobals mg → aY P w K mg base CX k fa fd [x] sp) (hbind : ∀ (s : Shared) (u : Value), BindsTo s fd ⟨[u], []⟩ [(x, u)])
    (hsp : ∀ H : Hp, DA H → mX K H a (ns.map V.int) → sp [.ref a] H (fun v _ => v = .bl true) fun _ _ _ => False)
    (hCX : ∀ H e s', CX [] H s₁ (fun _ _ _ => False) e s' → False) :
    codeAny (model P w) callerA (.call (.ref fa) ⟨[.ref a], []⟩) (fun r s' => r = .ok (.ret (.bool true)) ∧ OldK s₁.heap s'.heap ∧ s'.os = s₁.os ∧ AllBare s'.gens) s₁ := by
  have rv := j8 hi
  have lenV := hi.length
  -- from an abstract heap in which nothing but the script may be tracked
  have core : ∀ H : Hp, DA H → mX K H a (ns.map V.int) → il P w H s₁.heap → (∀ b, H b ≠ none → b = a) → (H a ≠ none → K.lookup a = none) →
      codeAny (model P w) callerA (.call (.ref fa) ⟨[.ref a], []⟩) (fun r s' => r = .ok (.ret (.bool true)) ∧ OldK s₁.heap s'.heap ∧ s'.os = s₁.os ∧ AllBare s'.gens) s₁ := by
    intro H hO hS hok hA hK
    have base_of : ∀ {b : Addr} {o : Obj}, s₁.heap.get? b = some o → H b = none → (qW s₁.heap H).get? b = some o := fun e n => xU e n
    have noA : ∀ {b : Addr} {o : Obj} {es : Array DictEntry} {ep : Nat}, s₁.heap.get? b = some o → o.data = .dict es ep → H b = none := fun {b o es ep} e d => by
      cases q : H b with
      | none => rfl
      | some u =>
        have e' : b = a := hA b (by rw [q]; simp)
        subst e'
        rw [ha] at e; cases e
        have d' : Data.seq vs.toArray _ = Data.dict es ep := d
        cases d'
    have nsK : ∀ {b : Addr} {m : Str → Option Value}, s₁.heap.Ns b m → (qW s₁.heap H).Ns b m := fun {b m} ⟨o, es, ep, e, d, r⟩ => ⟨o, es, ep, base_of e (noA e d), d, r⟩
    have hKb : K.In (qW s₁.heap H) := fun b o e => base_of (KX b o e) (by
      cases q : H b with
      | none => rfl
      | some u =>
        have e' : b = a := hA b (by rw [q]; simp)
        subst e'
        rw [hK (by rw [q]; simp)] at e; cases e)
    have hM : Mod K mg (qW s₁.heap H) := ⟨hKb, nsK hns, ⟨mb, nsK hb, hbb⟩, let ⟨mc, h1, h2⟩ := hlim; ⟨mc, nsK h1, h2⟩⟩
    have e0 : tq P w K mg (qW s₁.heap H) callerA [] s₁ H := ⟨rfl, hM, fun b o e => AM e, Nat.le_of_eq (wV _ _), trivial, fun b hb => absurd (show b ∈ ([] : List Addr) from hb) (by simp), hok, .of_eq hg⟩
    refine codeAny_mono ((F _ hKb (nsK hns)).run callerA [] s₁ H ⟨[.ref a], []⟩ [.ref a] [.ref a] _ _ hr e0 (hbind s₁ (.ref a)) (.cons rfl .nil) (hsp H hO hS)) fun r s' h => ?_
    cases r with
    | error e => exact (hCX H e s' h).elim
    | ok fl =>
      cases fl with
      | next => exact False.elim h
      | brk => exact False.elim h
      | cont => exact False.elim h
      | ret u =>
        obtain ⟨v, H', os, bare, un, hok', r', q⟩ := h
        have q' : v = .bl true := q
        subst q'
        obtain rfl : u = Value.bool true := r'
        refine ⟨rfl, OldK.of_keep fun b o e => ?_, os, bare⟩
        cases q : H b with
        | none => exact un.keep b o e q (by intro z; exact absurd (show b ∈ ([] : List Addr) from z) (by simp)) (by simp)
        | some u =>
          rcases hO b with z | ⟨ob, xs, z⟩
          · rw [q] at z; cases z
          · have z2 := un.frzs b ob _ z
            obtain ⟨e1, _⟩ := hok b _ z
            obtain ⟨e2, _⟩ := hok' b _ z2
            rw [e] at e1; cases e1
            exact e2
  cases hk : K.lookup a with
  | some o =>
    -- the script is one of the module's own objects
    have e := KX a o hk
    rw [ha] at e
    cases e
    refine core (fun _ => none) (fun _ => .inl rfl) (.inr ⟨_, vs.toArray, _, hk, rfl, rfl, rfl, by rw [List.size_toArray, lenV]; exact hl, by simpa using rv⟩) (fun b u z => by have z' : (none : Option HO) = some u := z; cases z') (fun b z => absurd rfl z) fun z => absurd rfl z
  | none =>
    refine core (fun b => if b = a then some (.frz { cls := .type "list", data := .seq vs.toArray } (.lst (ns.map V.int))) else none) (fun b => ?_) (.inl (.inr ⟨{ cls := .type "list", data := .seq vs.toArray }, if_pos rfl⟩)) (fun b u z => ?_) (fun b z => ?_) fun _ => hk
    · by_cases hb : b = a
      · exact .inr ⟨_, _, if_pos hb⟩
      · exact .inl (if_neg hb)
    · by_cases hb : b = a
      · have z' := (if_pos hb).symm.trans z
        cases z'
        subst hb
        exact ⟨ha, by rw [List.length_map]; exact hl, vs, _, rv, ha⟩
      · have z' := (if_neg hb).symm.trans z
        cases z'
    · by_cases hb : b = a
      · exact hb
      · exact absurd (if_neg hb) z
def zX (s : Stmt) (j : Nat) : Stmt := match s with
  | .ClassDef _ _ _ body _ _ _ _ _ _ _ => body.getD j (.Pass ⟨0, 0, 0, 0⟩)
  | _ => .Pass ⟨0, 0, 0, 0⟩
def gp (s : Stmt) : Arguments := match s with
  | .FunctionDef _ a _ _ _ _ _ _ _ _ => a
  | _ => { posonlyargs := [], args := [], vararg := none, kwonlyargs := [], kw_defaults := [], kwarg := none, defaults := [] }
def dR (s : Stmt) : List Stmt := match s with
  | .FunctionDef _ _ b _ _ _ _ _ _ _ => b
  | _ => []
def ah (s : Stmt) : Scope := match s with
  | .FunctionDef _ _ _ _ _ _ sc _ _ _ => sc
  | _ => { kind := .function, names := [], isGenerator := false, isCoroutine := false }
abbrev Fn : xl := fun _ _ _ _ _ _ => False
structure ig (K : PySem.W.Frag) (x qual : Str) (st : Stmt) (f : Addr) (fd : FuncData) : Prop where
  ex : ∃ (oc : Value) (od : Option Addr) (kV doc pm : Value) (an : Option Addr) (cdv ct : Value) (osl : Array (Option Value)),
    fd = PySem.W.fnOf x qual (gp st) (dR st) (ah st) .none kV doc pm an cdv ct ∧ K.lookup f = some ⟨oc, od, .func fd, osl⟩ ∧ PySem.W.codeIn K cdv qual = true
  kp : PySem.W.keepIn K (.ref f) = true
section
variable {P : Program} {w : World} {K : PySem.W.Frag} {mg : Str → Option Value} {base : Heap}
theorem ig.ok {x qual : Str} {st : Stmt} {f : Addr} {fd : FuncData} {N ps : List Str} {k : Nat} {sp : Sp} (F : ig K x qual st f fd) (S : aQ N ps (ah st)) (len : ∀ vs H Q E, sp vs H Q E → vs.length = ps.length)
    (hbody : ∀ (cdv : Value) (A : Around) (outer : List Env) (s : Shared) (H : Hp) (vs : List V) (Q : VK) (E : XK), eJ k (A.deeper (envOfC qual (ah st) s.heap.objs.size f cdv)) → sp vs H Q E →
      ∃ t, rj (fT Fn P w K mg base N qual (ah st) f cdv A outer s H E).nox (dR st) t ∧ t { nx := fun _ H' => Q .non H', rt := Q } (i8 N vs) H) : aY P w K mg base Fn (k + 1) f fd ps sp := by
  obtain ⟨oc, od, kV, doc, pm, an, cdv, ct, osl, rfl, lk, hcd⟩ := F.ex
  refine zh lk hcd S len fun A outer s H vs Q E hr hsp => ?_
  obtain ⟨t, h, q⟩ := hbody cdv A outer s H vs Q E hr hsp
  exact ⟨t, h.nox, q⟩
theorem ig.binds {x qual : Str} {st : Stmt} {f : Addr} {fd : FuncData} {ps : List Str} (F : ig K x qual st f fd)
    (h : ∀ (kV doc pm : Value) (an : Option Addr) (cdv ct : Value) (us : List Value), us.length = ps.length → bindArgs (PySem.W.fnOf x qual (gp st) (dR st) (ah st) .none kV doc pm an cdv ct) ⟨us, []⟩ = pure (ps.zip us)) : i4 K fd ps [] := by
  obtain ⟨oc, od, kV, doc, pm, an, cdv, ct, osl, rfl, lk, hcd⟩ := F.ex
  exact .all (h kV doc pm an cdv ct)
theorem uo {x qual : Str} {st : Stmt} {f : Addr} {oc : Value} {od an : Option Addr} {osl : Array (Option Value)} {kV doc pm cdv ct : Value} (l : K.lookup f = some ⟨oc, od, .func (PySem.W.fnOf x qual (gp st) (dR st) (ah st) .none kV doc pm an cdv ct), osl⟩)
    (c : PySem.W.codeIn K cdv qual = true) (k : PySem.W.keepIn K (.ref f) = true) : ig K x qual st f (PySem.W.fnOf x qual (gp st) (dR st) (ah st) .none kV doc pm an cdv ct) := ⟨⟨oc, od, kV, doc, pm, an, cdv, ct, osl, rfl, l, c⟩, k⟩
end
section
variable {X : Cx}
theorem pv (i : Nat) {x : Str} {pos : Pos} (hN : X.N[i]? = some x := by rfl) (hv : CH X.env.scope x := by first | exact Or.inl rfl | exact Or.inr (Or.inl rfl) | exact Or.inr (Or.inr rfl)) (hd : (x == ("__debug__" : Str)) = false := by decide)
    (hcd : (x == ("__classdict__" : Str)) = false := by decide) : PE X (.Name x pos) (DE i) := mw hN hv hd hcd
end
def aE (H H' : Hp) : Prop := ∀ b o, H b = some o → H' b = some o
theorem aE.refl (H : Hp) : aE H H := fun _ _ h => h
theorem aE.trans {H H1 H2 : Hp} (a : aE H H1) (b : aE H1 H2) : aE H H2 := fun c o h => b c o (a c o h)
theorem aE.free {H H' : Hp} (e : aE H H') {l : Addr} (h : H' l = Option.none) : H l = Option.none := by
  cases q : H l with
  | none => rfl
  | some o =>
    rw [e l o q] at h
    cases h
section
variable {κ : Type} [DecidableEq κ]
def ka (kvs : List (κ × V)) (k : κ) : Option V := (kvs.find? fun kv => decide (kv.1 = k)).map (·.2)
def lf (kvs : List (κ × V)) (k : κ) (v : V) : List (κ × V) :=
  if (kvs.any fun kv => decide (kv.1 = k)) = true then kvs.map (fun kv => if kv.1 = k then (kv.1, v) else kv) else kvs ++ [(k, v)]
theorem o8 {p : κ × V} {r : List (κ × V)} {k : κ} (e : p.1 = k) : ka (p :: r) k = some p.2 := by simp [ka, List.find?_cons, e]
theorem oh {p : κ × V} {r : List (κ × V)} {k : κ} (e : ¬ p.1 = k) : ka (p :: r) k = ka r k := by simp [ka, List.find?_cons, e]
theorem rP (k : κ) : ∀ kvs : List (κ × V), (kvs.any fun kv => decide (kv.1 = k)) = (ka kvs k).isSome
  | [] => rfl
  | p :: r => by
    rw [List.any_cons]
    by_cases e : p.1 = k
    · simp only [o8 e, decide_eq_true e, Bool.true_or, Option.isSome_some]
    · rw [oh e, decide_eq_false e, Bool.false_or]; exact rP k r
theorem mO (kvs : List (κ × V)) (k : κ) (v : V) : (lf kvs k v).length ≤ kvs.length + 1 := by
  unfold lf
  split
  · rw [List.length_map]; omega
  · rw [List.length_append, List.length_cons, List.length_nil]; omega
theorem lN.isSome_eq {o : Option V} {u : Option Value} (r : lN o u) : o.isSome = u.isSome := by
  cases o with
  | none => cases u with
    | none => rfl
    | some _ => exact (show False from r).elim
  | some _ => cases u with
    | none => exact (show False from r).elim
    | some _ => rfl
theorem KV.val {kvs : List (κ × V)} {vs : List (κ × Value)} (r : KV kvs vs) (k : κ) : lN (ka kvs k) (valueAt vs k) := by
  unfold KV at r
  induction r with
  | nil => exact True.intro
  | @cons p q ps qs h t ih =>
    obtain ⟨h1, h2⟩ := h
    by_cases e : p.1 = k
    · have e' : q.1 = k := h1.symm.trans e
      have b : valueAt (q :: qs) k = some q.2 := by simp [valueAt, List.find?_cons, e']
      rw [o8 e, b]; exact h2
    · have e' : ¬ q.1 = k := fun z => e (h1.trans z)
      have b : valueAt (q :: qs) k = valueAt qs k := by simp [valueAt, List.find?_cons, e']
      rw [oh e, b]; exact ih
theorem KV.any {kvs : List (κ × V)} {vs : List (κ × Value)} (r : KV kvs vs) (k : κ) : (kvs.any fun kv => decide (kv.1 = k)) = vs.any fun kv => decide (kv.1 = k) := by
  unfold KV at r
  induction r with
  | nil => rfl
  | cons h t ih => rw [List.any_cons, List.any_cons, ih, h.1]
theorem KV.repl {kvs : List (κ × V)} {vs : List (κ × Value)} (r : KV kvs vs) (k : κ) {y : V} {u : Value} (ry : bA y u) :
    KV (kvs.map fun kv => if kv.1 = k then (kv.1, y) else kv) (vs.map fun kv => if kv.1 = k then (kv.1, u) else kv) := by
  unfold KV at r ⊢
  induction r with
  | nil => exact .nil
  | @cons p q ps qs h t ih =>
    rw [List.map_cons, List.map_cons]
    refine .cons ?_ ih
    obtain ⟨h1, h2⟩ := h
    by_cases e : p.1 = k
    · rw [if_pos e, if_pos (h1.symm.trans e)]; exact ⟨h1, ry⟩
    · rw [if_neg e, if_neg (fun z => e (h1.trans z))]; exact ⟨h1, h2⟩
theorem KV.put {kvs : List (κ × V)} {vs : List (κ × Value)} (r : KV kvs vs) (k : κ) {y : V} {u : Value} (ry : bA y u) : KV (lf kvs k y) (stored vs k u) := by
  unfold lf stored
  rw [r.any k]
  by_cases e : (vs.any fun kv => decide (kv.1 = k)) = true
  · rw [if_pos e, if_pos e]; exact r.repl k ry
  · rw [if_neg e, if_neg e]; exact Paired.snoc r ⟨rfl, ry⟩
theorem KV.keys {kvs : List (κ × V)} {vs : List (κ × Value)} (r : KV kvs vs) : kvs.map (·.1) = vs.map (·.1) := by
  unfold KV at r
  induction r with
  | nil => rfl
  | cons h t ih => rw [List.map_cons, List.map_cons, ih, h.1]
theorem KV.length {kvs : List (κ × V)} {vs : List (κ × Value)} (r : KV kvs vs) : kvs.length = vs.length := Paired.length r
end
theorem rW {P : Program} {w : World} {k : cT} {u : Value} (r : bA (kV k) u) : (cY P w).is k u = true := by
  cases k with
  | inl i => obtain ⟨t, e⟩ := (show ∃ t, u = Value.int i t from r); subst e; exact rT P w i t
  | inr x => obtain ⟨t, e⟩ := (show ∃ t, u = Value.str x t from r); subst e; exact rz P w x t
theorem pY {P : Program} {w : World} : ∀ {ks : List cT} {us : List Value}, bt (ks.map kV) us → ItemsAre (cY P w) ks us
  | [], _, r => by rw [List.map_nil] at r; cases r; exact .nil
  | k :: ks, _, r => by
    rw [List.map_cons] at r
    cases r with
    | cons h t => exact .cons (rW h) (pY t)
abbrev KT (H : Hp) : List (List cT × V) → List (List cT × Addr × Value) → Prop := Paired fun p q => p.1 = q.1 ∧ H q.2.1 = some (.tup (p.1.map kV)) ∧ bA p.2 q.2.2
theorem KT.val {H : Hp} {kvs : List (List cT × V)} {xs : List (List cT × Addr × Value)} (r : KT H kvs xs) (k : List cT) : lN (ka kvs k) ((atKey xs k).map (·.2)) := by
  induction r with
  | nil => exact True.intro
  | @cons p q ps qs h t ih =>
    obtain ⟨h1, _, h2⟩ := h
    by_cases e : p.1 = k
    · have e' : q.1 = k := h1.symm.trans e
      have b : atKey (q :: qs) k = some q.2 := by simp [atKey, List.find?_cons, e']
      rw [o8 e, b]; exact h2
    · have e' : ¬ q.1 = k := fun z => e (h1.trans z)
      have b : atKey (q :: qs) k = atKey qs k := by simp [atKey, List.find?_cons, e']
      rw [oh e, b]; exact ih
theorem KT.repl {H : Hp} {kvs : List (List cT × V)} {xs : List (List cT × Addr × Value)} (r : KT H kvs xs) (k : List cT) {y : V} {u : Value} (ry : bA y u) :
    KT H (kvs.map fun kv => if kv.1 = k then (kv.1, y) else kv) (xs.map (putAt k u)) := by
  induction r with
  | nil => exact .nil
  | @cons p q ps qs h t ih =>
    rw [List.map_cons, List.map_cons]
    refine .cons ?_ ih
    obtain ⟨h1, h2, h3⟩ := h
    unfold putAt
    by_cases e : p.1 = k
    · rw [if_pos e, if_pos (h1.symm.trans e)]; exact ⟨h1, h2, ry⟩
    · rw [if_neg e, if_neg (fun z => e (h1.trans z))]; exact ⟨h1, h2, h3⟩
theorem KT.put {H : Hp} {kvs : List (List cT × V)} {xs : List (List cT × Addr × Value)} (r : KT H kvs xs) (k : List cT) {b : Addr} {y : V} {u : Value} (hb : H b = some (.tup (k.map kV))) (ry : bA y u) :
    KT H (lf kvs k y) (storedH xs k b u) := by
  have e : (kvs.any fun kv => decide (kv.1 = k)) = (atKey xs k).isSome := by
    rw [rP, (r.val k).isSome_eq, Option.isSome_map]
  unfold lf storedH
  rw [e]
  by_cases q : (atKey xs k).isSome = true
  · rw [if_pos q, if_pos q]; exact r.repl k ry
  · rw [if_neg q, if_neg q]; exact Paired.snoc r ⟨rfl, hb, ry⟩
theorem KT.keeps {H H' : Hp} {kvs : List (List cT × V)} {xs : List (List cT × Addr × Value)} (r : KT H kvs xs) (ht : ∀ b ys, H b = some (.tup ys) → H' b = some (.tup ys)) : KT H' kvs xs :=
  Paired.mapP r fun _ _ z => ⟨z.1, ht _ _ z.2.1, z.2.2⟩
section
variable {P : Program} {w : World} {H : Hp} {h : Heap} {a : Addr}
theorem Bp {u : HO} (ok : il P w H h) (e : Rd H a u) : bR P w H h a u := e.ok ok
theorem o2 {kvs : List (cT × V)} (ok : il P w H h) (e : Rd H a (.dK kvs)) : kvs.length ≤ sizeLine ∧ (a == sysModules) = false ∧ ∃ vs, KV kvs vs ∧ h.DictOf (cY P w) a vs :=
  show bR P w H h a (.dK kvs) from Bp ok e
theorem Da {kvs : List (cT × V)} (ok : il P w H h) (e : H a = some (.dK kvs)) : kvs.length ≤ sizeLine ∧ (a == sysModules) = false ∧ ∃ vs, KV kvs vs ∧ h.DictOf (cY P w) a vs := o2 ok (.inl e)
theorem o4 {ks : List cT} (ok : il P w H h) (e : H a = some (.tup (ks.map kV))) : (tupleKind (cY P w)).is h ks a := by
  obtain ⟨_, its, r, o, h1, h2, n, h3⟩ := (show bR P w H h a (.tup (ks.map kV)) from ok a _ e)
  exact ⟨o, its.toArray, n, h1, h2, h3, by simpa using pY r⟩
theorem rM {kvs : List (List cT × V)} (ok : il P w H h) (e : Rd H a (.dT kvs)) : kvs.length ≤ sizeLine ∧ (a == sysModules) = false ∧
    ∃ xs, KT H kvs xs ∧ h.DictOfH (tupleKind (cY P w)) a xs := by
  obtain ⟨z, y, xs, r, o, es, ep, h1, h2, h3, h4, h5⟩ := (show bR P w H h a (.dT kvs) from Bp ok e)
  refine ⟨z, y, xs, r, o, es, ep, h1, h2, h3, h4, fun x hx => ?_, h5⟩
  have all : ∀ {l : List (List cT × V)} {m : List (List cT × Addr × Value)}, KT H l m → ∀ x ∈ m, (tupleKind (cY P w)).is h x.1 x.2.1 := by
    intro l m q
    induction q with
    | nil => intro x hx; exact nomatch hx
    | @cons p q ps qs hq t ih =>
      intro x hx
      rcases List.mem_cons.mp hx with e | hx
      · subst e
        exact o4 ok (by rw [← hq.1]; exact hq.2.1)
      · exact ih x hx
  exact all r x hx
theorem D0 {kvs : List (List cT × V)} (ok : il P w H h) (e : H a = some (.dT kvs)) : kvs.length ≤ sizeLine ∧ (a == sysModules) = false ∧
    ∃ xs, KT H kvs xs ∧ h.DictOfH (tupleKind (cY P w)) a xs := rM ok (.inl e)
end
def oH (H : Hp) (a : Addr) (y : V) (r : Option V) : Prop :=
  (∃ kvs k, Rd H a (.dK kvs) ∧ y = kV k ∧ r = ka kvs k) ∨ ∃ kvs k b, Rd H a (.dT kvs) ∧ y = .ref b ∧ H b = some (.tup (k.map kV)) ∧ r = ka kvs k
def tN (H : Hp) (a : Addr) (y v : V) (H' : Hp) : Prop :=
  (∃ kvs k, H a = some (.dK kvs) ∧ y = kV k ∧ kvs.length < sizeLine ∧ H' = cm H a (.dK (lf kvs k v))) ∨
  ∃ kvs k b, H a = some (.dT kvs) ∧ y = .ref b ∧ H b = some (.tup (k.map kV)) ∧ kvs.length < sizeLine ∧ H' = cm H a (.dT (lf kvs k v))
theorem oH.k {H : Hp} {a : Addr} {kvs : List (cT × V)} {k : cT} (e : H a = some (.dK kvs)) : oH H a (kV k) (ka kvs k) := .inl ⟨kvs, k, .inl e, rfl, rfl⟩
theorem oH.t {H : Hp} {a b : Addr} {kvs : List (List cT × V)} {k : List cT} (e : H a = some (.dT kvs)) (eb : H b = some (.tup (k.map kV))) : oH H a (.ref b) (ka kvs k) := .inr ⟨kvs, k, b, .inl e, rfl, eb, rfl⟩
theorem tN.k {H : Hp} {a : Addr} {kvs : List (cT × V)} {k : cT} {v : V} (e : H a = some (.dK kvs)) (hl : kvs.length < sizeLine) : tN H a (kV k) v (cm H a (.dK (lf kvs k v))) := .inl ⟨kvs, k, e, rfl, hl, rfl⟩
theorem tN.t {H : Hp} {a b : Addr} {kvs : List (List cT × V)} {k : List cT} {v : V} (e : H a = some (.dT kvs)) (eb : H b = some (.tup (k.map kV))) (hl : kvs.length < sizeLine) :
    tN H a (.ref b) v (cm H a (.dT (lf kvs k v))) := .inr ⟨kvs, k, b, e, rfl, eb, hl, rfl⟩
section
variable {X : Cx} {pins : List (Addr × Obj)} {σ : St} {H : Hp} {s : Shared} {a : Addr} {y v : V} {u r : Value} {o : Option V} {A : Around} {E : Value → Shared → Prop}
theorem aM.big (I : aM X pins σ H s) : sysModules < s.heap.objs.size := by
  have h : mainGlobals < s.heap.objs.size := (I.mod.glob.keeps I.bk).lt
  exact Nat.lt_trans (by decide) h
theorem ww {Q : Value → Shared → Prop} (hu : A.units + 1 < cLine) (I : aM X pins σ H s) (g : oH H a y (some v)) (ry : bA y u) (h : ∀ w' s', aM X pins σ H s' → bA v w' → Q w' s') :
    wpAny (model X.prog X.w) A (getItem (.ref a) u) Q E s := by
  rcases g with ⟨kvs, k, e, ey, l⟩ | ⟨kvs, k, b, e, ey, eb, l⟩
  · subst ey
    obtain ⟨z, hd, vs, rel, dd⟩ := o2 I.hok e
    obtain ⟨w', hw, rw'⟩ := lN.some_of (v := v) (o := valueAt vs k) (by rw [l]; exact rel.val k)
    exact wpAny_getItem_of (rW ry) dd.mapOf hw (h w' _ (I.tok _) rw')
  · subst ey
    cases (show u = Value.ref b from ry)
    obtain ⟨z, hd, xs, rel, dd⟩ := rM I.hok e
    obtain ⟨w', hw, rw'⟩ := lN.some_of (v := v) (o := (atKey xs k).map (·.2)) (by rw [l]; exact rel.val k)
    obtain ⟨p, hp, hp2⟩ := Option.map_eq_some_iff.mp hw
    refine wpAny_getItem_heap (tupleKind_room_in1 hu) (o4 I.hok eb) dd hp ?_
    rw [hp2]
    exact h w' _ (I.tok _) rw'
theorem EL {Q : Value → Shared → Prop} (hu : A.units + 1 < cLine) (I : aM X pins σ H s) (g : oH H a y o) (ry : bA y u) (h : ∀ s', aM X pins σ H s' → Q (.bool o.isSome) s') :
    wpAny (model X.prog X.w) A (compareOp .In u (.ref a)) Q E s := by
  rcases g with ⟨kvs, k, e, ey, l⟩ | ⟨kvs, k, b, e, ey, eb, l⟩
  · subst ey
    obtain ⟨z, hd, vs, rel, dd⟩ := o2 I.hok e
    refine wpAny_in_of (rW ry) hd dd.mapOf ?_
    rw [← (rel.val k).isSome_eq, ← l]
    exact h _ (I.tok _)
  · subst ey
    cases (show u = Value.ref b from ry)
    obtain ⟨z, hd, xs, rel, dd⟩ := rM I.hok e
    refine wpAny_in_heap (tupleKind_room_in1 hu) (o4 I.hok eb) hd dd ?_
    have q := (rel.val k).isSome_eq
    rw [Option.isSome_map] at q
    rw [← q, ← l]
    exact h _ (I.tok _)
theorem zK {Q : Value → Shared → Prop} (hu : A.units + 1 < cLine) (I : aM X pins σ H s) (g : oH H a y o) (ry : bA y u) (h : ∀ s', aM X pins σ H s' → Q (.bool (!o.isSome)) s') :
    wpAny (model X.prog X.w) A (compareOp .NotIn u (.ref a)) Q E s := by
  rcases g with ⟨kvs, k, e, ey, l⟩ | ⟨kvs, k, b, e, ey, eb, l⟩
  · subst ey
    obtain ⟨z, hd, vs, rel, dd⟩ := o2 I.hok e
    refine wpAny_notIn_of (rW ry) hd dd.mapOf ?_
    rw [← (rel.val k).isSome_eq, ← l]
    exact h _ (I.tok _)
  · subst ey
    cases (show u = Value.ref b from ry)
    obtain ⟨z, hd, xs, rel, dd⟩ := rM I.hok e
    refine wpAny_notIn_heap (tupleKind_room_in1 hu) (o4 I.hok eb) hd dd ?_
    have q := (rel.val k).isSome_eq
    rw [Option.isSome_map] at q
    rw [← q, ← l]
    exact h _ (I.tok _)
theorem vz {h' : Heap} {t' : Nat} {ob : HO} (I : aM X pins σ H s) (mu : Dh (H a)) (hs : Heap.SameBut a s.heap h') (he : ∃ q, h'.get? a = some q) (new : bR X.prog X.w (cm H a ob) h' a ob) :
    aM X pins σ (cm H a ob) { s with heap := h', toks := t' } :=
  I.write (x := a) (e := a) mu (.inl rfl) (fun b q hb z => (hs.2 b hb).trans z) he new
theorem BZ {P : Program} {w : World} {H' : Hp} {h' : Heap} {kvs : List (cT × V)} {vs : List (cT × Value)} (z : kvs.length ≤ sizeLine) (hd : (a == sysModules) = false) (rel : KV kvs vs) (dd : h'.DictOf (cY P w) a vs) :
    bR P w H' h' a (.dK kvs) := ⟨z, hd, vs, rel, dd⟩
theorem vX {H' : Hp} {Q : Unit → Shared → Prop} (hu : A.units + 1 < cLine) (I : aM X pins σ H s) (g : tN H a y v H') (ry : bA y u) (rv : bA v r) (h : ∀ s', aM X pins σ H' s' → Q () s') :
    wpAny (model X.prog X.w) A (setItem (.ref a) u r) Q E s := by
  rcases g with ⟨kvs, k, e, ey, l, eH⟩ | ⟨kvs, k, b, e, ey, eb, l, eH⟩
  · subst ey eH
    obtain ⟨z, hd, vs, rel, dd⟩ := Da I.hok e
    have hz : vs.length ≤ sizeLine := by rw [← rel.length]; exact z
    have hl : (lf kvs k v).length ≤ sizeLine := by have := mO kvs k v; omega
    refine wpAny_setItem_pairs (hsz := hz) (rW ry) dd fun h' dd' hs => h _ ?_
    have he : ∃ q, h'.get? a = some q := let ⟨q, _, _, hq, _⟩ := dd'; ⟨q, hq⟩
    exact vz I (by rw [e]; exact True.intro) hs he (BZ hl hd (rel.put k rv) dd')
  · subst ey eH
    cases (show u = Value.ref b from ry)
    obtain ⟨z, hd, xs, rel, dd⟩ := D0 I.hok e
    have hz : xs.length ≤ sizeLine := by rw [← Paired.length rel]; exact z
    have hl : (lf kvs k v).length ≤ sizeLine := by have := mO kvs k v; omega
    refine wpAny_setItem_heap (hsz := hz) (tupleKind_room_in1 hu) (o4 I.hok eb) dd fun h' dd' hs => h _ ?_
    obtain ⟨q, es, ep, hq, h2, h3, h4, _, h5⟩ := dd'
    refine vz I (by rw [e]; exact True.intro) hs ⟨q, hq⟩ ⟨hl, hd, _, (rel.put k eb rv).keeps fun c ys ec => ?_, q, es, ep, hq, h2, h3, h4, h5⟩
    rw [au (DW ec e (fun z => nomatch z))]
    exact ec
end
section
variable {X : Cx} {pins : List (Addr × Obj)} {σ : St} {H : Hp} {s : Shared} {a : Addr} {kvs : List (cT × V)} {k : cT} {u : Value} {A : Around} {E : Value → Shared → Prop}
theorem CY {Q : Value → Shared → Prop} (I : aM X pins σ H s) (e : Rd H a (.dK kvs)) (h : ∀ t s', aM X pins σ H s' → Q (.int kvs.length t) s') : wpAny (model X.prog X.w) A (call (.builtin "len") [.ref a]) Q E s := by
  obtain ⟨z, hd, vs, rel, dd⟩ := o2 I.hok e
  refine call_len_dict hd dd (by rw [← rel.length]; rw [sizeLine_eq] at z; omega) ?_
  rw [← rel.length]
  exact h _ _ (I.tok _)
end
theorem rL {X : Cx} {pins : List (Addr × Obj)} {σ : St} {H : Hp} {s : Shared} {a : Addr} {y : V} {o : Option V} (I : aM X pins σ H s) (g : oH H a y o) : s.TypeIs (.ref a) "dict" := by
  rcases g with ⟨kvs, k, e, _, _⟩ | ⟨kvs, k, b, e, _, _, _⟩
  · obtain ⟨_, _, vs, _, dd⟩ := o2 I.hok e
    exact dd.typeIs
  · obtain ⟨_, _, xs, _, dd⟩ := rM I.hok e
    exact dd.typeIs
def Eb (td ty tv : TE) : TS := fun D σ H => tv σ H fun v H1 => td σ H1 fun x H2 => ty σ H2 fun y H3 => ∃ a H4, x = .ref a ∧ tN H3 a y v H4 ∧ D.nx σ H4
section
variable {X : Cx} {o i e value : Expr} {pos pos' tpos : Pos} {td ty tv : TE}
theorem AY (hu : X.A.units + 1 < cLine) (ho : PE X o td) (hi : PE X i ty) (hv : PE X value tv) (hs : swapsWith value (some (.Subscript o i pos')) pos.line X.env = pure false) :
    PS X (.Assign [.Subscript o i pos'] value pos) (Eb td ty tv) := by
  intro pins s σ H D I h
  refine wpAny_Assign_Subscript (cQ (hv pins s σ H _ I h) fun r s1 ⟨v, H1, I1, rv, q1⟩ => cQ (ho pins s1 σ H1 _ I1 q1) fun u s2 ⟨x, H2, I2, rx, q2⟩ => cQ (hi pins s2 σ H2 _ I2 q2) fun iv s3 ⟨y, H3, I3, ry, a, H4, ex, g, q3⟩ => ?_) hs
  subst ex
  obtain rfl : u = Value.ref a := rx
  exact vX hu I3 g ry rv fun s4 I4 => ⟨σ, H4, I4, q3⟩
end
theorem xN {P : Program} {w : World} {H : Hp} (h : Heap) (hb : sysModules < h.objs.size) : bR P w H (h.push { cls := .type "dict", data := .dict #[] }) h.objs.size (.dK []) :=
  ⟨Nat.zero_le _, beq_eq_false_iff_ne.mpr (Ne.symm (Nat.ne_of_lt hb)), [], .nil, Heap.DictOf.new h⟩
def Bv : TE := fun _ H Q => ∀ p, H p = none → Q (.ref p) (cm H p (.dK []))
section
variable {X : Cx} {pos : Pos}
theorem xy : PE X (.Dict [] [] pos) Bv := fun pins s σ H Q I h =>
  wpAny_Dict_empty ⟨.ref s.heap.objs.size, _, I.laid (a := s.heap.objs.size) (o := .dK []) (t' := s.toks) (fun _ _ q => Heap.get?_push_of_some _ q) (Nat.le_refl _) (xN s.heap I.big), rfl, h _ (I.hok.fresh (Nat.le_refl _))⟩
end
end L2
set_option maxHeartbeats 4000000
namespace D2
open PySem PySem.Spec PyProof.Rows L2
def sE (base : Heap) (l : List Env) (e : Addr) (cls a0 : Value) (h : Heap) : Prop := base.StaysIn h ∧ base.get? e = none ∧ h.FunFrames base l ∧ ∃ fl, h.TracedAtW base e cls a0 fl
theorem sE.of {base h : Heap} {l : List Env} {e : Addr} {cls a0 : Value} (x : Heap.FlyingW base l e cls a0 h) : sE base l e cls a0 h := ⟨x.1, x.2.1, x.2.2.1, .none, x.2.2.2⟩
section
variable {M : Model} {A : Around} {E : Value → Shared → Prop} {s : Shared} {base : Heap} {l : List Env} {env : Env} {outer : List Env} {L e : Addr} {cls a0 : Value} {Q : Unit → Shared → Prop}
theorem A7 {h : Heap} : h.UpToSlots h := fun b o hb _ => ⟨o.slots, hb⟩
theorem sv (hfr : A.frames = some (env :: outer)) (hf : env.frame = some L) (t : sE base (env :: outer) e cls a0 s.heap)
    (hQ : ∀ h', sE base (env :: outer) e cls a0 h' → s.heap.UpToSlots h' → Q () { s with heap := h' }) : wpAny M A (noteFrame (.ref e) env) Q E s := by
  have t' := t
  obtain ⟨hkb, hen, hl, fl, oe, vs, T, oT, ts, he, ⟨hcls, h0⟩, hd, h1, hnT, hTe, hT, hdT, h3⟩ := t
  subst hcls
  unfold noteFrame
  simp only [hf]
  refine wpAny_bind (wpAny_field he hd h1 ?_)
  rw [if_pos (show (Value.ref T != Value.none) = true from by simp)]
  refine wpAny_bind (wpAny_field hT hdT h3 ?_)
  by_cases hfl : (fl == rawInt L) = true
  · rw [if_pos hfl]
    exact wpAny_pure (hQ s.heap t' A7)
  · rw [if_neg hfl]
    refine wpAny_bind (wpAny_setField hT hdT (Array.getElem?_eq_some_iff.mp h3).1 ?_)
    have other : ∀ b, b ≠ T → (s.heap.update T (Obj.mapFields (·.setIfInBounds 3 Value.none))).get? b = s.heap.get? b := fun b hb => Heap.get?_update_other _ _ (Ne.symm hb)
    have noRecord : ∀ b o, s.heap.get? b = some o → (∀ vs, o.data ≠ .fields vs) → b ≠ T := fun b o hb hnf q => by
      rw [q, hT] at hb; injection hb with hb; subst hb; exact hnf ts hdT
    refine wpAny_entryW hfr (hl.of_keeps fun b o hb hnf => ⟨o, (other b (noRecord b o hb hnf)).trans hb, rfl⟩) hf ((other e (Ne.symm hTe)).trans he)
      (fun b o hbo => (other b fun q => by rw [q, hnT] at hbo; cases hbo).trans (hkb b o hbo)) hen hd (Array.getElem?_eq_some_iff.mp h1).1 h0
      fun h' ⟨x1, x2, x3, x4⟩ => hQ h' ⟨x1, hen, x2, _, x3⟩ fun b o hb hnf => x4 b o ((other b (noRecord b o hb hnf)).trans hb) hnf
theorem tP (f : Option Addr) (t : sE base l e cls a0 s.heap) (hQ : ∀ h', sE base l e cls a0 h' → s.heap.UpToSlots h' → Q () { s with heap := h' }) : wpAny M A (setFlight (.ref e) f) Q E s := by
  obtain ⟨hkb, hen, hl, fl, oe, vs, T, oT, ts, he, hcls, hd, h1, hnT, hTe, hT, hdT, h3⟩ := t
  have hsz3 : 3 < ts.size := (Array.getElem?_eq_some_iff.mp h3).1
  have other : ∀ b, b ≠ T → (s.heap.update T (Obj.mapFields (·.setIfInBounds 3 (f.elim Value.none fun f => rawInt f)))).get? b = s.heap.get? b :=
    fun b hb => Heap.get?_update_other _ _ (Ne.symm hb)
  have noRecord : ∀ b o, s.heap.get? b = some o → (∀ vs, o.data ≠ .fields vs) → b ≠ T := fun b o hb hnf q => by
    rw [q, hT] at hb; injection hb with hb; subst hb; exact hnf ts hdT
  unfold setFlight
  refine wpAny_bind (wpAny_field he hd h1 ?_)
  rw [if_pos (show (Value.ref T != Value.none) = true from by simp)]
  refine wpAny_setField hT hdT hsz3 (hQ _ ⟨fun b o hbo => (other b fun q => by rw [q, hnT] at hbo; cases hbo).trans (hkb b o hbo), hen,
    hl.of_keeps fun b o hb hnf => ⟨o, (other b (noRecord b o hb hnf)).trans hb, rfl⟩, (f.elim Value.none fun f => rawInt f), ?_⟩ fun b o hb hnf => ⟨o.slots, (other b (noRecord b o hb hnf)).trans hb⟩)
  exact ⟨oe, vs, T, _, _, (other e (Ne.symm hTe)).trans he, hcls, hd, h1, hnT, hTe, Heap.get?_update_self _ hT (Obj.isFreed_of_fields (Obj.data_mapFields hdT _)), Obj.data_mapFields hdT _, by simp [hsz3]⟩
theorem za (t : sE base l e cls a0 s.heap) (hQ : ∀ h', Heap.FlyingW base l e cls a0 h' → s.heap.UpToSlots h' → Q () { s with heap := h' }) : wpAny M A (setFlight (.ref e) none) Q E s := by
  obtain ⟨hkb, hen, hl, fl, ht⟩ := t
  exact wpAny_setFlight_noneW hkb hl ht fun h' k1 k2 k3 k4 => hQ h' ⟨k1, hen, k2, k3⟩ fun b o hb hn => ⟨o.slots, k4 b o hb hn⟩
theorem vY (hfr : A.frames = some (env :: outer)) (hf : env.frame = some L) (t : sE base (env :: outer) e cls a0 s.heap)
    (hQ : ∀ h', Heap.FlyingW base outer e cls a0 h' → s.heap.UpToSlots h' → Q () { s with heap := h' }) : wpAny M A (leaving env (.ref e)) Q E s := by
  unfold leaving
  refine wpAny_bind (sv hfr hf t fun h1 t1 u1 => ?_)
  refine za (s := { s with heap := h1 }) t1 fun h2 t2 u2 => ?_
  obtain ⟨k1, k2, ⟨_, _, k3⟩, k4⟩ := t2
  exact hQ h2 ⟨k1, k2, k3, k4⟩ (u1.trans u2)
theorem xZ {α : Type} {k : Value → Sem α} {Q : α → Shared → Prop} (t : sE base l e cls a0 s.heap) (hQ : ∀ T, wpAny M A (k (.ref T)) Q E s) : wpAny M A (field (.ref e) 1 >>= k) Q E s := by
  obtain ⟨hkb, hen, hl, fl, oe, vs, T, oT, ts, he, hcls, hd, h1, r⟩ := t
  exact wpAny_bind (wpAny_field he hd h1 (hQ T))
theorem yn {α : Type} {what : String} {Q : α → Shared → Prop} (t : sE base l e cls a0 s.heap) (hQ : ∀ h', sE base l e cls a0 h' → s.heap.UpToSlots h' → E (.ref e) { s with heap := h' }) : wpAny M A (PySem.passOn what (.ref e) env : Sem α) Q E s := by
  unfold PySem.passOn
  refine xZ t fun T => ?_
  rw [if_neg (show ¬ ((Value.ref T == Value.none) = true) from by simp)]
  refine wpAny_bind (tP _ t fun h' t' u => ?_)
  exact wpAny_throw (hQ h' t' u)
theorem sE.first {h : Heap} (x : sE base l e cls a0 h) : ∃ oe vs, h.get? e = some oe ∧ oe.cls = cls ∧ oe.data = .fields vs ∧ vs[0]? = some a0 :=
  let ⟨_, _, _, _, oe, vs, _, _, _, he, hc, hd, _⟩ := x; ⟨oe, vs, he, hc.1, hd, hc.2⟩
end
abbrev St := L2.St
abbrev aM := @L2.aM
def fY : cT → PyData
  | .inl i => .int i
  | .inr x => .str x
mutual
def Rp (H : Hp) : PyData → V → Prop
  | .none, v => v = .non
  | .bool b, v => v = .bl b
  | .int i, v => v = .int i
  | .str x, v => v = .str x
  | .tuple ds, v => ∃ a vs, v = .ref a ∧ H a = some (.tup vs) ∧ bw H ds vs
  | .list ds, v => ∃ a o vs, v = .ref a ∧ H a = some (.frz o (.lst vs)) ∧ bw H ds vs
  | .dict kvs, v => (∃ a o ks, v = .ref a ∧ H a = some (.frz o (.dK ks)) ∧ eh H kvs ks) ∨ ∃ a o C dx fs, v = .ref a ∧ H a = some (.frz o (.ins C dx fs)) ∧ xj H C fs kvs
def bw (H : Hp) : List PyData → List V → Prop
  | [], vs => vs = []
  | d :: ds, vs => ∃ v r, vs = v :: r ∧ Rp H d v ∧ bw H ds r
def eh (H : Hp) : List (PyData × PyData) → List (cT × V) → Prop
  | [], ks => ks = []
  | kd :: kvs, ks => ∃ x v r, ks = (x, v) :: r ∧ zA H kd x v ∧ eh H kvs r
def zA (H : Hp) : PyData × PyData → cT → V → Prop
  | (k, d), x, v => k = fY x ∧ Rp H d v
def xj (H : Hp) (C : Addr) (fs : List (Str × V)) : List (PyData × PyData) → Prop
  | [] => False
  | kd :: kvs => kd = (.none, .int C) ∧ sX H kvs fs
def sX (H : Hp) : List (PyData × PyData) → List (Str × V) → Prop
  | [], fs => fs = []
  | kd :: kvs, fs => ∃ x v r, fs = (x, v) :: r ∧ Bl H kd x v ∧ sX H kvs r
def Bl (H : Hp) : PyData × PyData → Str → V → Prop
  | (k, d), x, v => k = .str x ∧ Rp H d v
end
def p6 : List (PyData × PyData) → Bool
  | (.none, _) :: _ => true
  | _ => false
def Kp (H H' : Hp) : Prop := (∀ b xs, H b = some (.tup xs) → H' b = some (.tup xs)) ∧ ∀ b o u, H b = some (.frz o u) → H' b = some (.frz o u)
theorem Kp.trans {H H1 H2 : Hp} (a : Kp H H1) (b : Kp H1 H2) : Kp H H2 := ⟨fun c xs h => b.1 c xs (a.1 c xs h), fun c o u h => b.2 c o u (a.2 c o u h)⟩
theorem Kp.of {H H' : Hp} (s : aE H H') : Kp H H' := ⟨fun b xs h => s b _ h, fun b o u h => s b _ h⟩
mutual
theorem Rp.kp {H H' : Hp} (k : Kp H H') : ∀ (d : PyData) (v : V), Rp H d v → Rp H' d v
  | .none, v, h => by simpa only [Rp] using h
  | .bool b, v, h => by simpa only [Rp] using h
  | .int i, v, h => by simpa only [Rp] using h
  | .str x, v, h => by simpa only [Rp] using h
  | .tuple ds, v, h => by
    simp only [Rp] at h ⊢
    obtain ⟨a, vs, e, ha, r⟩ := h
    exact ⟨a, vs, e, k.1 _ _ ha, bw.kp k ds vs r⟩
  | .list ds, v, h => by
    simp only [Rp] at h ⊢
    obtain ⟨a, o, vs, e, ha, r⟩ := h
    exact ⟨a, o, vs, e, k.2 _ _ _ ha, bw.kp k ds vs r⟩
  | .dict kvs, v, h => by
    simp only [Rp] at h ⊢
    rcases h with ⟨a, o, ks, e, ha, r⟩ | ⟨a, o, C, dx, fs, e, ha, r⟩
    · exact .inl ⟨a, o, ks, e, k.2 _ _ _ ha, eh.kp k kvs ks r⟩
    · exact .inr ⟨a, o, C, dx, fs, e, k.2 _ _ _ ha, xj.kp k C fs kvs r⟩
theorem bw.kp {H H' : Hp} (k : Kp H H') : ∀ (ds : List PyData) (vs : List V), bw H ds vs → bw H' ds vs
  | [], vs, h => by simpa only [bw] using h
  | d :: ds, vs, h => by
    simp only [bw] at h ⊢
    obtain ⟨v, r, e, h1, h2⟩ := h
    exact ⟨v, r, e, Rp.kp k d v h1, bw.kp k ds r h2⟩
theorem eh.kp {H H' : Hp} (k : Kp H H') : ∀ (kvs : List (PyData × PyData)) (ks : List (cT × V)), eh H kvs ks → eh H' kvs ks
  | [], ks, h => by simpa only [eh] using h
  | kd :: kvs, ks, h => by
    simp only [eh] at h ⊢
    obtain ⟨x, v, r, e, h1, h2⟩ := h
    exact ⟨x, v, r, e, zA.kp k kd x v h1, eh.kp k kvs r h2⟩
theorem zA.kp {H H' : Hp} (k : Kp H H') : ∀ (kd : PyData × PyData) (x : cT) (v : V), zA H kd x v → zA H' kd x v
  | (c, d), x, v, h => by
    simp only [zA] at h ⊢
    exact ⟨h.1, Rp.kp k d v h.2⟩
theorem xj.kp {H H' : Hp} (k : Kp H H') (C : Addr) (fs : List (Str × V)) : ∀ (kvs : List (PyData × PyData)), xj H C fs kvs → xj H' C fs kvs
  | [], h => by simpa only [xj] using h
  | kd :: kvs, h => by
    simp only [xj] at h ⊢
    exact ⟨h.1, sX.kp k kvs fs h.2⟩
theorem sX.kp {H H' : Hp} (k : Kp H H') : ∀ (kvs : List (PyData × PyData)) (fs : List (Str × V)), sX H kvs fs → sX H' kvs fs
  | [], fs, h => by simpa only [sX] using h
  | kd :: kvs, fs, h => by
    simp only [sX] at h ⊢
    obtain ⟨x, v, r, e, h1, h2⟩ := h
    exact ⟨x, v, r, e, Bl.kp k kd x v h1, sX.kp k kvs r h2⟩
theorem Bl.kp {H H' : Hp} (k : Kp H H') : ∀ (kd : PyData × PyData) (x : Str) (v : V), Bl H kd x v → Bl H' kd x v
  | (c, d), x, v, h => by
    simp only [Bl] at h ⊢
    exact ⟨h.1, Rp.kp k d v h.2⟩
end
theorem Rp.mono {H H' : Hp} {d : PyData} {v : V} (h : Rp H d v) (s : aE H H') : Rp H' d v := Rp.kp (Kp.of s) d v h
theorem bw.mono {H H' : Hp} {ds : List PyData} {vs : List V} (h : bw H ds vs) (s : aE H H') : bw H' ds vs := bw.kp (Kp.of s) ds vs h
def ja (H : Hp) : PyData → V → Prop
  | .list ds, v => ∃ a vs, v = .ref a ∧ H a = some (.lst vs) ∧ bw H ds vs
  | .dict kvs, v => ∃ a ks, v = .ref a ∧ H a = some (.dK ks) ∧ eh H kvs ks
  | _, _ => False
theorem ja.mono {H H' : Hp} {d : PyData} {v : V} (h : ja H d v) (s : aE H H') : ja H' d v := by
  cases d <;> simp only [ja] at h ⊢
  · obtain ⟨a, vs, e, ha, r⟩ := h
    exact ⟨a, vs, e, s _ _ ha, bw.mono r s⟩
  · obtain ⟨a, vs, e, ha, r⟩ := h
    exact ⟨a, vs, e, s _ _ ha, eh.kp (Kp.of s) _ _ r⟩
def ie (H : Hp) (d : PyData) (v : V) : Prop := Rp H d v ∨ ja H d v
theorem ie.mono {H H' : Hp} {d : PyData} {v : V} (h : ie H d v) (s : aE H H') : ie H' d v := h.elim (fun h => .inl (h.mono s)) fun h => .inr (h.mono s)
def CT (H H' : Hp) (d : PyData) (v : V) : Prop := ja H' d v ∧ ∃ a, v = .ref a ∧ H a = none
inductive ba where
  | non
  | val (d : PyData)
  | own (d : PyData)
  | exc (p : Addr)
abbrev aN := List ba
def jE (H : Hp) : ba → Option V → Prop
  | .non, _ => True
  | .val d, o => ∃ v, o = some v ∧ Rp H d v
  | .own d, o => ∃ v, o = some v ∧ ja H d v
  | .exc p, o => o = some (.ref p)
def Sl (H : Hp) (σ : St) (ρ : aN) : Prop := σ.length = ρ.length ∧ ∀ (i : Nat) (c : ba) (o : Option V), ρ[i]? = some c → σ[i]? = some o → jE H c o
theorem jE.mono {H H' : Hp} {c : ba} {o : Option V} (h : jE H c o) (s : aE H H') : jE H' c o := by
  cases c <;> simp only [jE] at h ⊢
  · obtain ⟨v, e, h⟩ := h; exact ⟨v, e, h.mono s⟩
  · obtain ⟨v, e, h⟩ := h; exact ⟨v, e, h.mono s⟩
  · exact h
theorem Sl.mono {H H' : Hp} {σ : St} {ρ : aN} (h : Sl H σ ρ) (s : aE H H') : Sl H' σ ρ := ⟨h.1, fun i c o h1 h2 => (h.2 i c o h1 h2).mono s⟩
inductive R (α : Type) where
  | ok (a : α)
  | ex (c : Str)
  | no
def R.bind {α β : Type} : R α → (α → R β) → R β
  | .ok a, f => f a
  | .ex c, _ => .ex c
  | .no, _ => .no
instance : Monad R where
  pure := .ok
  bind := R.bind
@[simp] theorem R.ok_bind {α β : Type} (a : α) (f : α → R β) : (R.ok a >>= f) = f a := (rfl)
structure Cz (P : Program) (w : World) (outer : List Env) (H : Hp) (s : Shared) (C : Addr) (H' : Hp) (e : Value) (s' : Shared) : Prop where
  os : s'.os = s.os
  bare : AllBare s'.gens
  same : aE H H'
  ex : ∃ (p : Addr) (a0 : Value) (B : Heap), e = .ref p ∧ Heap.FlyingW B outer p (.ref C) a0 s'.heap ∧ il P w H' B ∧ H' p = none ∧ ∀ b o, s.heap.get? b = some o → H b = none → b ∉ lJ outer → B.get? b = some o ∧ H' b = none
  slot : ∀ b o, s.heap.get? b = some o → H b = none → b ∈ lJ outer → (∃ sl, s'.heap.get? b = some { o with slots := sl }) ∧ H' b = none
structure qL (P : Program) (w : World) (outer : List Env) (H : Hp) (s : Shared) (C : Addr) (H' : Hp) (e : Value) (s' : Shared) : Prop where
  os : s'.os = s.os
  bare : AllBare s'.gens
  same : aE H H'
  ex : ∃ (p : Addr) (a0 : Value) (B : Heap), e = .ref p ∧ sE B outer p (.ref C) a0 s'.heap ∧ il P w H' B ∧ H' p = none ∧ ∀ b o, s.heap.get? b = some o → H b = none → b ∉ lJ outer → B.get? b = some o ∧ H' b = none
  slot : ∀ b o, s.heap.get? b = some o → H b = none → b ∈ lJ outer → (∃ sl, s'.heap.get? b = some { o with slots := sl }) ∧ H' b = none
theorem Cz.hld {P : Program} {w : World} {outer : List Env} {H : Hp} {s : Shared} {C : Addr} {H' : Hp} {e : Value} {s' : Shared} (f : Cz P w outer H s C H' e s') : qL P w outer H s C H' e s' :=
  ⟨f.os, f.bare, f.same, let ⟨p, a0, B, h1, h2, h3⟩ := f.ex; ⟨p, a0, B, h1, sE.of h2, h3⟩, f.slot⟩
def cI (P : Program) (w : World) (mg : Str → Option Value) : xl := fun outer H s E e s' => ∃ n C H', mg n = some (.ref C) ∧ Cz P w outer H s C H' e s' ∧ E (.str n 0) none H'
def EX (X : Cx) : XK := fun v _ H' => ∀ (n : Str) (C : Addr), v = .str n 0 → X.mg n = some (.ref C) → ∀ (pins : List (Addr × Obj)) (σ : St) (H : Hp) (s : Shared) (e : Value) (s' : Shared), aM X pins σ H s → Cz X.prog X.w X.stack H s C H' e s' → X.xe e s'
theorem vS {X : Cx} : oF (cI X.prog X.w X.mg) X (EX X) := fun pins σ H s e s' I ⟨n, C, H', hm, f, q⟩ => q n C rfl hm pins σ H s e s' I f
def Xw (X : Cx) (c : Str) (H : Hp) : Prop := ∀ H1, aE H H1 → ∀ (C : Addr), X.mg c = some (.ref C) → ∀ (pins : List (Addr × Obj)) (σ : St) (Hc : Hp) (s : Shared) (e : Value) (s' : Shared), aM X pins σ Hc s → qL X.prog X.w X.stack Hc s C H1 e s' → X.xe e s'
theorem Xw.mono {X : Cx} {c : Str} {H H' : Hp} (h : Xw X c H) (s : aE H H') : Xw X c H' := fun H1 s1 => h H1 (s.trans s1)
theorem Xw.ex {X : Cx} {c : Str} {H : Hp} (h : Xw X c H) : ∀ H1, aE H H1 → EX X (.str c 0) none H1 := fun H1 s1 n C en hm pins σ Hc s e s' I f => by
  have en' : c = n := by injection en
  subst en'
  exact h H1 s1 C hm pins σ Hc s e s' I f.hld
def Dy (X : Cx) (c : Str) (Fm : Hp) : Prop := ∀ C, X.mg c = some (.ref C) → ∀ (pins : List (Addr × Obj)) (σ : St) (H : Hp) (s : Shared), aE Fm H → aM X pins σ H s → ∀ (h' : Heap) (p : Addr) (vs : List Value), Heap.MadeExcOf s.heap h' p (.ref C) vs → X.xe (.ref p) { s with heap := h' }
theorem Dy.mono {X : Cx} {c : Str} {H H' : Hp} (h : Dy X c H) (s : aE H H') : Dy X c H' := fun C hm pins σ H1 s1 e => h C hm pins σ H1 s1 (s.trans e)
def uJ (X : Cx) (P : Hp → Hp → PyData → V → Prop) (r : R PyData) (H : Hp) (Q : VK) : Prop :=
  match r with
  | .ok d => ∀ v H', aE H H' → P H H' d v → Q v H'
  | .ex c => Xw X c H
  | .no => False
abbrev gR : Hp → Hp → PyData → V → Prop := fun _ H' d v => Rp H' d v
abbrev vT : Hp → Hp → PyData → V → Prop := fun _ H' d v => ie H' d v
abbrev Ew : Hp → Hp → PyData → V → Prop := fun H H' d v => Rp H' d v ∨ CT H H' d v
abbrev Fe := aN → R PyData
def ke (X : Cx) (P : Hp → Hp → PyData → V → Prop) (f : Fe) : TE := fun σ H Q => ∃ ρ, Sl H σ ρ ∧ uJ X P (f ρ) H Q
def ai (X : Cx) (e : Expr) (f : Fe) : Prop := PE X e (ke X gR f)
structure Z.ai (X : Cx) (e : Expr) (f : Fe) : Prop where
  un : D2.ai X e f
def bK (X : Cx) (e : Expr) (f : Fe) : Prop := PE X e (ke X vT f)
structure Z.bK (X : Cx) (e : Expr) (f : Fe) : Prop where
  un : D2.bK X e f
def zB (X : Cx) (e : Expr) (f : Fe) : Prop := PE X e (ke X Ew f)
structure Z.zB (X : Cx) (e : Expr) (f : Fe) : Prop where
  un : D2.zB X e f
def gg (X : Cx) (e : Expr) (f : Fe) : Prop := PE X e (ke X CT f)
structure Z.gg (X : Cx) (e : Expr) (f : Fe) : Prop where
  un : D2.gg X e f
def RA (I : Hp → PyData → V → Prop) (H : Hp) : List PyData → List V → Prop
  | [], vs => vs = []
  | d :: ds, vs => ∃ v r, vs = v :: r ∧ I H d v ∧ RA I H ds r
theorem n4 {H : Hp} : ∀ {ds : List PyData} {vs : List V}, RA Rp H ds vs ↔ bw H ds vs
  | [], vs => by simp only [RA, bw]
  | d :: ds, vs => by simp only [RA, bw, n4 (ds := ds)]
def xC (X : Cx) (I : Hp → PyData → V → Prop) (f : aN → R (List PyData)) : TA := fun σ H Q => ∃ ρ, Sl H σ ρ ∧ match f ρ with
  | .ok ds => ∀ vs H', aE H H' → RA I H' ds vs → Q vs H'
  | .ex c => Xw X c H
  | .no => False
def pE (X : Cx) (es : List Expr) (f : aN → R (List PyData)) : Prop := PA X es (xC X Rp f)
structure Z.pE (X : Cx) (es : List Expr) (f : aN → R (List PyData)) : Prop where
  un : D2.pE X es f
def BC (X : Cx) (es : List Expr) (f : aN → R (List PyData)) : Prop := PA X es (xC X ie f)
def zI (X : Cx) (f : aN → R Bool) : TT := fun σ H Q => ∃ ρ, Sl H σ ρ ∧ match f ρ with
  | .ok b => ∀ H', aE H H' → Q b H'
  | .ex c => Xw X c H
  | .no => False
def hZ (X : Cx) (e : Expr) (f : aN → R Bool) : Prop := PT X e (zI X f)
structure Z.hZ (X : Cx) (e : Expr) (f : aN → R Bool) : Prop where
  un : D2.hZ X e f
def l9 (X : Cx) (e : Expr) (f : aN → R Bool) : Prop := PW X e (zI X f)
structure Z.l9 (X : Cx) (e : Expr) (f : aN → R Bool) : Prop where
  un : D2.l9 X e f
theorem PE.imp {X : Cx} {e : Expr} {t t' : TE} (h : PE X e t) (i : ∀ σ H Q, t' σ H Q → t σ H Q) : PE X e t' := fun pins s σ H Q I q => h pins s σ H Q I (i σ H Q q)
theorem PT.imp {X : Cx} {e : Expr} {t t' : TT} (h : PT X e t) (i : ∀ σ H Q, t' σ H Q → t σ H Q) : PT X e t' := fun pins s σ H Q I q => h pins s σ H Q I (i σ H Q q)
theorem PW.imp {X : Cx} {e : Expr} {t t' : TT} (h : PW X e t) (i : ∀ σ H Q, t' σ H Q → t σ H Q) : PW X e t' := fun wh pins s σ H Q I q => h wh pins s σ H Q I (i σ H Q q)
theorem PA.imp {X : Cx} {e : List Expr} {t t' : TA} (h : PA X e t) (i : ∀ σ H Q, t' σ H Q → t σ H Q) : PA X e t' := fun pos pins s σ H Q I q => h pos pins s σ H Q I (i σ H Q q)
theorem ke.post {X : Cx} {P : Hp → Hp → PyData → V → Prop} {f : Fe} {σ : St} {H : Hp} {Q Q' : VK} (h : ke X P f σ H Q) (i : ∀ v H', Q v H' → Q' v H') : ke X P f σ H Q' := by
  obtain ⟨ρ, sl, q⟩ := h
  refine ⟨ρ, sl, ?_⟩
  cases e : f ρ with
  | ok d => rw [e] at q; exact fun v H' s p => i _ _ (q v H' s p)
  | ex c => rw [e] at q; exact q
  | no => rw [e] at q; exact q
theorem zI.post {X : Cx} {f : aN → R Bool} {σ : St} {H : Hp} {Q Q' : Bool → Hp → Prop} (h : zI X f σ H Q) (i : ∀ b H', Q b H' → Q' b H') : zI X f σ H Q' := by
  obtain ⟨ρ, sl, q⟩ := h
  refine ⟨ρ, sl, ?_⟩
  cases e : f ρ with
  | ok d => rw [e] at q; exact fun H' s => i _ _ (q H' s)
  | ex c => rw [e] at q; exact q
  | no => rw [e] at q; exact q
theorem xC.post {X : Cx} {I : Hp → PyData → V → Prop} {f : aN → R (List PyData)} {σ : St} {H : Hp} {Q Q' : List V → Hp → Prop} (h : xC X I f σ H Q) (i : ∀ vs H', Q vs H' → Q' vs H') : xC X I f σ H Q' := by
  obtain ⟨ρ, sl, q⟩ := h
  refine ⟨ρ, sl, ?_⟩
  cases e : f ρ with
  | ok d => rw [e] at q; exact fun vs H' s p => i _ _ (q vs H' s p)
  | ex c => rw [e] at q; exact q
  | no => rw [e] at q; exact q
theorem ke.weaken {X : Cx} {P P' : Hp → Hp → PyData → V → Prop} {f : Fe} (h : ∀ H H' d v, P H H' d v → P' H H' d v) (σ : St) (H : Hp) (Q : VK) (q : ke X P' f σ H Q) : ke X P f σ H Q := by
  obtain ⟨ρ, sl, q⟩ := q
  refine ⟨ρ, sl, ?_⟩
  cases e : f ρ with
  | ok d => rw [e] at q; exact fun v H' s p => q v H' s (h _ _ _ _ p)
  | ex c => rw [e] at q; exact q
  | no => rw [e] at q; exact q
section
variable {X : Cx} {e : Expr} {f : Fe}
theorem ai.b (h : ai X e f) : bK X e f := PE.imp h (ke.weaken fun _ _ _ _ p => Or.inl p)
theorem Z.ai.b (h : Z.ai X e f) : Z.bK X e f :=
  ⟨D2.ai.b h.un⟩
theorem gg.b (h : gg X e f) : bK X e f := PE.imp h (ke.weaken fun _ _ _ _ p => Or.inr p.1)
theorem Z.gg.b (h : Z.gg X e f) : Z.bK X e f :=
  ⟨D2.gg.b h.un⟩
theorem gg.toF (h : gg X e f) : zB X e f := PE.imp h (ke.weaken fun _ _ _ _ p => Or.inr p)
end
section
variable {X : Cx} {pins : List (Addr × Obj)} {σ : St} {H : Hp} {s : Shared} {a : Addr} {u : HO}
theorem gw (I : aM X pins σ H s) (h : H a = some u) (hm : (∃ xs, u = .lst xs) ∨ ∃ ks, u = .dK ks) : ∃ o, aM X pins σ (cm H a (.frz o u)) s := by
  have ob := I.hok a u h
  have hg : ∃ o, s.heap.get? a = some o := by
    rcases hm with ⟨xs, rfl⟩ | ⟨ks, rfl⟩
    · obtain ⟨_, _, _, _, e⟩ := ob; exact ⟨_, e⟩
    · obtain ⟨_, _, _, _, o, _, _, e, _⟩ := ob; exact ⟨_, e⟩
  obtain ⟨o, hg⟩ := hg
  have nt : ∀ b xs, H b = some (.tup xs) → b ≠ a := fun b xs q z => by subst z; rw [h] at q; rcases hm with ⟨_, rfl⟩ | ⟨_, rfl⟩ <;> cases q
  have nf : ∀ b o' u', H b = some (.frz o' u') → b ≠ a := fun b o' u' q z => by subst z; rw [h] at q; rcases hm with ⟨_, rfl⟩ | ⟨_, rfl⟩ <;> cases q
  have nb : ∀ b ps, H b = some (.tbl ps) → b ≠ a := fun b ps q z => by subst z; rw [h] at q; rcases hm with ⟨_, rfl⟩ | ⟨_, rfl⟩ <;> cases q
  have nw : ∀ b y, H b = some (.own y) → b ≠ a := fun b y q z => by subst z; rw [h] at q; rcases hm with ⟨_, rfl⟩ | ⟨_, rfl⟩ <;> cases q
  have nn : ∀ b, H b = none → b ≠ a := fun b q z => by subst z; rw [h] at q; cases q
  have st : ∀ b x, bR X.prog X.w H s.heap b x → bR X.prog X.w (cm H a (.frz o u)) s.heap b x := fun b x q =>
    q.stay (fun c v _ e => e) (fun c e => by rw [au (nw _ _ e)]; exact e) fun c xs e => by rw [au (nt _ _ e)]; exact e
  refine ⟨o, ⟨I.ok, I.os, I.bare, ⟨I.base.keep, I.base.slot, fun b ob' e n hx => ?_, I.base.there, fun b xs e => ?_, fun b ob' v e => ?_, fun b ps e => ?_⟩, I.loc, I.cell, ?_, fun x c e => ?_, fun p hp => ?_, fun b x e => ?_, I.len⟩⟩
  · have := I.base.free b ob' e n hx
    rw [au (nn _ this)]; exact this
  · have := I.base.tups b xs e
    rw [au (nt _ _ this)]; exact this
  · have := I.base.frzs b ob' v e
    rw [au (nf _ _ _ this)]; exact this
  · obtain ⟨m, q⟩ := I.base.tbls b ps e
    exact ⟨m, by rw [au (nb _ _ q)]; exact q⟩
  · rw [au (nn _ I.free)]; exact I.free
  · rw [au (nn _ (I.freeC x c e))]; exact I.freeC x c e
  · obtain ⟨p1, p2, p3⟩ := I.pin p hp
    exact ⟨p1, by rw [au (nn _ p2)]; exact p2, p3⟩
  · by_cases hb : b = a
    · subst hb
      rw [bd] at e; cases e
      exact ⟨hg, st b u ob⟩
    · rw [au hb] at e
      exact st b x (I.hok b x e)
theorem gz {o' : HO} (h : H a = some u) (hm : (∃ xs, u = .lst xs) ∨ ∃ ks, u = .dK ks) : Kp H (cm H a o') := by
  refine ⟨fun b xs e => ?_, fun b o v e => ?_⟩
  · rw [au]; exact e
    rintro rfl; rw [h] at e; rcases hm with ⟨_, rfl⟩ | ⟨_, rfl⟩ <;> cases e
  · rw [au]; exact e
    rintro rfl; rw [h] at e; rcases hm with ⟨_, rfl⟩ | ⟨_, rfl⟩ <;> cases e
theorem BY {H0 : Hp} {d : PyData} {v : V} (I : aM X pins σ H s) (hs : aE H0 H) (n : CT H0 H d v) : ∃ H', aM X pins σ H' s ∧ aE H0 H' ∧ Rp H' d v := by
  obtain ⟨n, a, rfl, h0⟩ := n
  have go : ∀ u : HO, H a = some u → ((∃ xs, u = .lst xs) ∨ ∃ ks, u = .dK ks) → ∃ o, aM X pins σ (cm H a (.frz o u)) s ∧ aE H0 (cm H a (.frz o u)) ∧ Kp H (cm H a (.frz o u)) := fun u hu hm => by
    obtain ⟨o, J⟩ := gw I hu hm
    refine ⟨o, J, fun b x e => ?_, gz hu hm⟩
    rw [au (aR e h0)]; exact hs b x e
  cases d <;> simp only [ja] at n
  · obtain ⟨a', vs, e, ha, r⟩ := n
    cases e
    obtain ⟨o, J, S, K⟩ := go _ ha (.inl ⟨_, rfl⟩)
    refine ⟨_, J, S, ?_⟩
    simp only [Rp]
    exact ⟨a, o, vs, rfl, bd, bw.kp K _ _ r⟩
  · obtain ⟨a', vs, e, ha, r⟩ := n
    cases e
    obtain ⟨o, J, S, K⟩ := go _ ha (.inr ⟨_, rfl⟩)
    refine ⟨_, J, S, ?_⟩
    simp only [Rp]
    exact .inl ⟨a, o, vs, rfl, bd, eh.kp K _ _ r⟩
end
theorem zB.e {X : Cx} {e : Expr} {f : Fe} (h : zB X e f) : ai X e f := by
  intro pins s σ H Q I q
  obtain ⟨ρ, sl, q⟩ := q
  cases ef : f ρ with
  | ok d =>
    rw [ef] at q
    refine cQ (h pins s σ H (fun v H' => aE H H' ∧ Ew H H' d v) I ⟨ρ, sl, by rw [ef]; exact fun v H' hs p => ⟨hs, p⟩⟩) fun u s' ⟨v, H', I', r, hs, p⟩ => ?_
    rcases p with p | p
    · exact ⟨v, H', I', r, q v H' hs p⟩
    · obtain ⟨H2, I2, S2, p2⟩ := BY I' hs p
      exact ⟨v, H2, I2, r, q v H2 S2 p2⟩
  | ex c => rw [ef] at q; exact cQ (h pins s σ H (fun _ _ => False) I ⟨ρ, sl, by rw [ef]; exact q⟩) fun u s' ⟨v, H', I', r, z⟩ => z.elim
  | no => rw [ef] at q; exact q.elim
theorem Z.zB.e {X : Cx} {e : Expr} {f : Fe} (h : Z.zB X e f) : Z.ai X e f :=
  ⟨D2.zB.e h.un⟩
theorem gg.e {X : Cx} {e : Expr} {f : Fe} (h : gg X e f) : ai X e f := (gg.toF h).e
theorem Z.gg.e {X : Cx} {e : Expr} {f : Fe} (h : Z.gg X e f) : Z.ai X e f :=
  ⟨D2.gg.e h.un⟩
structure AT {β : Type} (X : Cx) (T : R β → Hp → Prop) : Prop where
  mono : ∀ r H H', T r H → aE H H' → T r H'
  ex : ∀ c H, T (.ex c) H → Xw X c H
  no : ∀ H, ¬ T .no H
def Dn (P : Hp → Hp → PyData → V → Prop) : Prop := ∀ H H1 H' d v, aE H H1 → P H1 H' d v → P H H' d v
theorem fQ : Dn gR := fun _ _ _ _ _ _ p => p
theorem A6 : Dn CT := fun _ _ _ _ _ s p => ⟨p.1, let ⟨a, e, h⟩ := p.2; ⟨a, e, s.free h⟩⟩
theorem As : Dn Ew := fun _ _ _ _ _ s p => p.elim .inl fun p => .inr (A6 _ _ _ _ _ s p)
section
variable {X : Cx} {σ : St} {H : Hp}
theorem e8 {P : Hp → Hp → PyData → V → Prop} (hP : Dn P) (Q : VK) : AT X (fun r H => uJ X P r H Q) where
  mono := fun r H H' h s => by
    cases r with
    | ok d => exact fun v H2 s2 p => h v H2 (s.trans s2) (hP _ _ _ _ _ s p)
    | ex c => exact Xw.mono h s
    | no => exact h
  ex := fun c H h => h
  no := fun H h => h
theorem u4 (Q : Bool → Hp → Prop) : AT X (fun (r : R Bool) H => match r with | .ok b => ∀ H', aE H H' → Q b H' | .ex c => Xw X c H | .no => False) where
  mono := fun r H H' h s => by
    cases r with
    | ok d => exact fun H2 s2 => h H2 (s.trans s2)
    | ex c => exact Xw.mono h s
    | no => exact h
  ex := fun c H h => h
  no := fun H h => h
theorem Bs (I : Hp → PyData → V → Prop) (Q : List V → Hp → Prop) : AT X (fun (r : R (List PyData)) H => match r with | .ok ds => ∀ vs H', aE H H' → RA I H' ds vs → Q vs H' | .ex c => Xw X c H | .no => False) where
  mono := fun r H H' h s => by
    cases r with
    | ok d => exact fun vs H2 s2 => h vs H2 (s.trans s2)
    | ex c => exact Xw.mono h s
    | no => exact h
  ex := fun c H h => h
  no := fun H h => h
theorem ff {β : Type} {T : R β → Hp → Prop} (t : AT X T) {P : Hp → Hp → PyData → V → Prop} {f : Fe} {k : aN → PyData → R β} (h : ∃ ρ, Sl H σ ρ ∧ T (f ρ >>= k ρ) H) :
    ke X P f σ H (fun v H1 => ∃ ρ d, Sl H1 σ ρ ∧ aE H H1 ∧ P H H1 d v ∧ T (k ρ d) H1) := by
  obtain ⟨ρ, sl, q⟩ := h
  refine ⟨ρ, sl, ?_⟩
  cases e : f ρ with
  | ok d => rw [e] at q; exact fun v H1 s p => ⟨ρ, d, sl.mono s, s, p, t.mono _ _ _ q s⟩
  | ex c => rw [e] at q; exact t.ex _ _ q
  | no => rw [e] at q; exact (t.no _ q).elim
theorem qx {β : Type} {T : R β → Hp → Prop} (t : AT X T) {f : aN → R Bool} {k : aN → Bool → R β} (h : ∃ ρ, Sl H σ ρ ∧ T (f ρ >>= k ρ) H) :
    zI X f σ H (fun b H1 => ∃ ρ, Sl H1 σ ρ ∧ aE H H1 ∧ T (k ρ b) H1) := by
  obtain ⟨ρ, sl, q⟩ := h
  refine ⟨ρ, sl, ?_⟩
  cases e : f ρ with
  | ok d => rw [e] at q; exact fun H1 s => ⟨ρ, sl.mono s, s, t.mono _ _ _ q s⟩
  | ex c => rw [e] at q; exact t.ex _ _ q
  | no => rw [e] at q; exact (t.no _ q).elim
theorem mf {β : Type} {T : R β → Hp → Prop} (t : AT X T) {I : Hp → PyData → V → Prop} {f : aN → R (List PyData)} {k : aN → List PyData → R β} (h : ∃ ρ, Sl H σ ρ ∧ T (f ρ >>= k ρ) H) :
    xC X I f σ H (fun vs H1 => ∃ ρ ds, Sl H1 σ ρ ∧ aE H H1 ∧ RA I H1 ds vs ∧ T (k ρ ds) H1) := by
  obtain ⟨ρ, sl, q⟩ := h
  refine ⟨ρ, sl, ?_⟩
  cases e : f ρ with
  | ok d => rw [e] at q; exact fun vs H1 s p => ⟨ρ, d, sl.mono s, s, p, t.mono _ _ _ q s⟩
  | ex c => rw [e] at q; exact t.ex _ _ q
  | no => rw [e] at q; exact (t.no _ q).elim
end
def ad (i : Nat) : Fe := fun ρ => match ρ[i]? with
  | some (.val d) => .ok d
  | _ => .no
def cV (i : Nat) : Fe := fun ρ => match ρ[i]? with
  | some (.val d) => .ok d
  | some (.own d) => .ok d
  | _ => .no
def eC (d : PyData) : Fe := fun _ => .ok d
structure Tb (X : Cx) (nl : Nat) (G : List Str) : Prop where
  hu : X.A.units + 64 < cLine
  calm : X.calm = true
  nd : X.N.Nodup
  vis : ∀ x ∈ X.N, CH X.env.scope x ∧ (x == ("__debug__" : Str)) = false ∧ (x == ("__classdict__" : Str)) = false
  loc : ∀ x ∈ X.N.take nl, Ba X.env.scope x ∧ (X.fn x = true ∨ X.env.scope.names.lookup x = some .local)
  gl : ∀ x ∈ G, Gl X x ∧ (x == ("__debug__" : Str)) = false ∧ x ≠ ("__name__" : Str)
section
variable {X : Cx} {nl : Nat} {G : List Str} {x : Str} {pos : Pos}
theorem Sl.at {H : Hp} {σ : St} {ρ : aN} {i : Nat} {c : ba} (h : Sl H σ ρ) (e : ρ[i]? = some c) : ∃ o, σ[i]? = some o ∧ jE H c o := by
  have hi : i < σ.length := by rw [h.1]; exact (List.getElem?_eq_some_iff.mp e).1
  exact ⟨σ[i], List.getElem?_eq_getElem hi, h.2 i c _ e (List.getElem?_eq_getElem hi)⟩
theorem aa (T : Tb X nl G) (i : Nat) (hN : X.N[i]? = some x) : ai X (.Name x pos) (ad i) := by
  have hm := T.vis x (List.mem_of_getElem? hN)
  refine PE.imp (mw hN hm.1 hm.2.1 hm.2.2) fun σ H Q ⟨ρ, sl, q⟩ => ?_
  unfold ad at q
  split at q
  · rename_i d e
    obtain ⟨o, h1, v, rfl, h2⟩ := sl.at e
    exact ⟨v, h1, q v H (aE.refl H) h2⟩
  · exact q.elim
theorem Z.aa (T : Tb X nl G) (i : Nat) (hN : X.N[i]? = some x) : Z.ai X (.Name x pos) (ad i) :=
  ⟨D2.aa T i hN⟩
theorem cC (T : Tb X nl G) (i : Nat) (hN : X.N[i]? = some x) : bK X (.Name x pos) (cV i) := by
  have hm := T.vis x (List.mem_of_getElem? hN)
  refine PE.imp (mw hN hm.1 hm.2.1 hm.2.2) fun σ H Q ⟨ρ, sl, q⟩ => ?_
  unfold cV at q
  split at q
  · rename_i d e
    obtain ⟨o, h1, v, rfl, h2⟩ := sl.at e
    exact ⟨v, h1, q v H (aE.refl H) (.inl h2)⟩
  · rename_i d e
    obtain ⟨o, h1, v, rfl, h2⟩ := sl.at e
    exact ⟨v, h1, q v H (aE.refl H) (.inr h2)⟩
  · exact q.elim
theorem Z.cC (T : Tb X nl G) (i : Nat) (hN : X.N[i]? = some x) : Z.bK X (.Name x pos) (cV i) :=
  ⟨D2.cC T i hN⟩
theorem o7 {e : Expr} {d : PyData} {v : V} (h : PE X e (tC v)) (r : ∀ H, Rp H d v) : ai X e (eC d) :=
  PE.imp h fun σ H Q ⟨ρ, sl, q⟩ => q v H (aE.refl H) (r H)
theorem aq {i j} : ai X (.Constant (.int i) j pos) (eC (.int i)) := o7 CD fun H => by simp only [Rp]
theorem Z.aq {i j} : Z.ai X (.Constant (.int i) j pos) (eC (.int i)) :=
  ⟨D2.aq⟩
theorem gU {b j} : ai X (.Constant (.bool b) j pos) (eC (.bool b)) := o7 DX fun H => by simp only [Rp]
theorem Z.gU {b j} : Z.ai X (.Constant (.bool b) j pos) (eC (.bool b)) :=
  ⟨D2.gU⟩
theorem cZ {j} : ai X (.Constant .none j pos) (eC .none) := o7 Cb fun H => by simp only [Rp]
theorem Z.cZ {j} : Z.ai X (.Constant .none j pos) (eC .none) :=
  ⟨D2.cZ⟩
theorem md {y j} : ai X (.Constant (.str y) j pos) (eC (.str y)) := o7 BS fun H => by simp only [Rp]
theorem Z.md {y j} : Z.ai X (.Constant (.str y) j pos) (eC (.str y)) :=
  ⟨D2.md⟩
theorem dw {i : Int} {t : Tok} (T : Tb X nl G) (j : Nat) (hG : G[j]? = some x) (hm : X.mg x = some (.int i t)) : ai X (.Name x pos) (eC (.int i)) := by
  have g := T.gl x (List.mem_of_getElem? hG)
  exact o7 (zP g.1 hm (v := .int i) ⟨t, rfl⟩ g.2.1) fun H => by simp only [Rp]
theorem Z.dw {i : Int} {t : Tok} (T : Tb X nl G) (j : Nat) (hG : G[j]? = some x) (hm : X.mg x = some (.int i t)) : Z.ai X (.Name x pos) (eC (.int i)) :=
  ⟨D2.dw T j hG hm⟩
end
section
variable {X : Cx} {a b c : Expr} {fa fb fc : Fe} {pos : Pos}
def e2 (g : PyData → PyData → R PyData) (fa fb : Fe) : Fe := fun ρ => fa ρ >>= fun x => fb ρ >>= fun y => g x y
def e1 (g : PyData → R PyData) (fa : Fe) : Fe := fun ρ => fa ρ >>= fun x => g x
def bY (X : Cx) (P : Hp → Hp → PyData → V → Prop) (r : R2) (g : PyData → PyData → R PyData) : Prop :=
  ∀ H x y dx dy Q, ie H dx x → ie H dy y → uJ X P (g dx dy) H Q → r x y H Q
theorem two {P : Hp → Hp → PyData → V → Prop} {r : R2} {g : PyData → PyData → R PyData} (hP : Dn P) (hg : bY X P r g) (σ : St) (H : Hp) (Q : VK) (h : ke X P (e2 g fa fb) σ H Q) :
    Dk r (ke X vT fa) (ke X vT fb) σ H Q :=
  (ff (P := vT) (e8 (X := X) hP Q) h).post fun v H1 ⟨ρ1, d1, sl1, _, p1, q1⟩ =>
    (ff (P := vT) (f := fb) (k := fun _ y => g d1 y) (e8 (X := X) hP Q) ⟨ρ1, sl1, q1⟩).post fun u H2 ⟨_, d2, _, s2, p2, q2⟩ => hg H2 v u d1 d2 Q (ie.mono p1 s2) p2 q2
theorem oC {op : Operator} {P : Hp → Hp → PyData → V → Prop} {r : R2} {g : PyData → PyData → R PyData} (hP : Dn P) (ho : iZ X (binaryOp op) r) (hg : bY X P r g) (ha : bK X a fa) (hb : bK X b fb) :
    PE X (.BinOp a op b pos) (ke X P (e2 g fa fb)) := PE.imp (D6 ho ha hb) (two hP hg)
theorem rd {op : CmpOp} {r : R2} {g : PyData → PyData → R PyData} (ho : iZ X (compareOp op) r) (hg : bY X gR r g) (ha : bK X a fa) (hb : bK X b fb) (hm : behindInMarks op b = false) :
    ai X (.Compare a [op] [b] pos) (e2 g fa fb) := PE.imp (AZ ho ha hb hm) (two fQ hg)
end
def sY : PyData → R Bool
  | .bool b => .ok b
  | _ => .no
def tE (f : Fe) : aN → R Bool := fun ρ => f ρ >>= sY
theorem vg {X : Cx} {f : Fe} {σ : St} {H : Hp} {Q : Bool → Hp → Prop} (h : zI X (tE f) σ H Q) : ke X gR f σ H (fun x H' => ∃ k, x = .bl k ∧ Q k H') :=
  (ff (P := gR) (f := f) (k := fun _ => sY) (u4 (X := X) Q) h).post fun v H1 ⟨ρ1, d1, _, _, p1, q1⟩ => by
    cases d1 with
    | bool b =>
      have p2 : v = .bl b := by simpa only [Rp] using p1
      exact ⟨b, p2, q1 H1 (aE.refl _)⟩
    | _ => exact q1.elim
section
variable {X : Cx} {a b c : Expr} {fa fb fc : Fe} {pos : Pos}
theorem gO {op : CmpOp} {r : R2} {g : PyData → PyData → R PyData} (ho : iZ X (compareOp op) r) (hg : bY X gR r g) (ha : bK X a fa) (hb : bK X b fb) (hm : behindInMarks op b = false) :
    hZ X (.Compare a [op] [b] pos) (tE (e2 g fa fb)) :=
  PT.imp (Ah ho ha hb hm) fun σ H Q h => two fQ hg σ H _ (vg h)
theorem eW {e : Expr} {f : Fe} (h : ai X e f) (he : ∀ whole, isTrue e X.env whole = (do let v ← whole; standAt e.pos; holding [v] (truthy v)) := by intro _; rfl) : hZ X e (tE f) :=
  PT.imp (BF h he) fun σ H Q h => vg h
theorem Z.eW {e : Expr} {f : Fe} (h : Z.ai X e f) (he : ∀ whole, isTrue e X.env whole = (do let v ← whole; standAt e.pos; holding [v] (truthy v)) := by intro _; rfl) : Z.hZ X e (tE f) :=
  ⟨D2.eW h.un he⟩
def mM (f g : aN → R Bool) : aN → R Bool := fun ρ => f ρ >>= fun b => if b = true then g ρ else .ok false
def nv (f g : aN → R Bool) : aN → R Bool := fun ρ => f ρ >>= fun b => if b = true then .ok true else g ρ
def iy (f : aN → R Bool) : aN → R Bool := fun ρ => f ρ >>= fun b => .ok (!b)
variable {ga gb : aN → R Bool} {dg : List Expr}
theorem lu (ha : hZ X a ga) : l9 X (.BoolOp .And [a] pos) ga := pw_and1 ha
theorem Z.lu (ha : Z.hZ X a ga) : Z.l9 X (.BoolOp .And [a] pos) ga :=
  ⟨D2.lu ha.un⟩
theorem gY (ha : hZ X a ga) : l9 X (.BoolOp .Or [a] pos) ga := pw_or1 ha
theorem Z.gY (ha : Z.hZ X a ga) : Z.l9 X (.BoolOp .Or [a] pos) ga :=
  ⟨D2.gY ha.un⟩
theorem nE (ha : hZ X a ga) (hb : l9 X (.BoolOp .And (b :: dg) pos) gb) : l9 X (.BoolOp .And (a :: b :: dg) pos) (mM ga gb) :=
  PW.imp (pw_and ha hb) fun σ H Q h => (qx (f := ga) (k := fun ρ b => if b = true then gb ρ else .ok false) (u4 (X := X) Q) h).post fun d H1 ⟨ρ1, sl1, _, q1⟩ => by
    cases d with
    | true => exact ⟨ρ1, sl1, q1⟩
    | false => exact q1 H1 (aE.refl _)
theorem Z.nE (ha : Z.hZ X a ga) (hb : Z.l9 X (.BoolOp .And (b :: dg) pos) gb) : Z.l9 X (.BoolOp .And (a :: b :: dg) pos) (mM ga gb) :=
  ⟨D2.nE ha.un hb.un⟩
theorem jp (ha : hZ X a ga) (hb : l9 X (.BoolOp .Or (b :: dg) pos) gb) : l9 X (.BoolOp .Or (a :: b :: dg) pos) (nv ga gb) :=
  PW.imp (pw_or ha hb) fun σ H Q h => (qx (f := ga) (k := fun ρ b => if b = true then .ok true else gb ρ) (u4 (X := X) Q) h).post fun d H1 ⟨ρ1, sl1, _, q1⟩ => by
    cases d with
    | false => exact ⟨ρ1, sl1, q1⟩
    | true => exact q1 H1 (aE.refl _)
theorem Z.jp (ha : Z.hZ X a ga) (hb : Z.l9 X (.BoolOp .Or (b :: dg) pos) gb) : Z.l9 X (.BoolOp .Or (a :: b :: dg) pos) (nv ga gb) :=
  ⟨D2.jp ha.un hb.un⟩
theorem l9.t {e : Expr} (h : l9 X e ga) : hZ X e ga := PW.pt h
theorem Z.l9.t {e : Expr} (h : Z.l9 X e ga) : Z.hZ X e ga :=
  ⟨D2.l9.t h.un⟩
theorem fJ (ha : hZ X a ga) : hZ X (.UnaryOp .Not a pos) (iy ga) :=
  PT.imp (BK ha) fun σ H Q h => (qx (f := ga) (k := fun _ b => .ok (!b)) (u4 (X := X) Q) h).post fun d H1 ⟨ρ1, sl1, _, q1⟩ => q1 H1 (aE.refl _)
theorem Z.fJ (ha : Z.hZ X a ga) : Z.hZ X (.UnaryOp .Not a pos) (iy ga) :=
  ⟨D2.fJ ha.un⟩
def wc (f g : Fe) : Fe := fun ρ => f ρ >>= fun d => sY d >>= fun b => if b = true then g ρ else .ok (.bool false)
def Et (f g : Fe) : Fe := fun ρ => f ρ >>= fun d => sY d >>= fun b => if b = true then .ok (.bool true) else g ρ
def BG (f : Fe) : Fe := fun ρ => f ρ >>= fun d => sY d >>= fun b => .ok (.bool (!b))
theorem qV {k : aN → Bool → R PyData} {f : Fe} {σ : St} {H : Hp} {Q : VK} (h : ke X gR (fun ρ => f ρ >>= fun d => sY d >>= fun b => k ρ b) σ H Q) :
    ke X gR f σ H (fun x H' => ∃ c, x = .bl c ∧ ke X gR (fun ρ => k ρ c) σ H' Q) :=
  (ff (P := gR) (f := f) (k := fun ρ d => sY d >>= fun b => k ρ b) (e8 (X := X) fQ Q) h).post fun v H1 ⟨ρ1, d1, sl1, _, p1, q1⟩ => by
    cases d1 with
    | bool b =>
      have p2 : v = .bl b := by simpa only [Rp] using p1
      exact ⟨b, p2, ρ1, sl1, q1⟩
    | _ => exact q1.elim
theorem lT {op} (h : ai X a fa) : ai X (.BoolOp op [a] pos) fa := B3 h
theorem Z.lT {op} (h : Z.ai X a fa) : Z.ai X (.BoolOp op [a] pos) fa :=
  ⟨D2.lT h.un⟩
theorem oE (ha : ai X a fa) (hb : ai X (.BoolOp .And (b :: dg) pos) fb) : ai X (.BoolOp .And (a :: b :: dg) pos) (wc fa fb) :=
  PE.imp (BV ha hb) fun σ H Q h => (qV (k := fun ρ b => if b = true then fb ρ else .ok (.bool false)) h).post fun v H1 ⟨c, e1, q1⟩ => by
    refine ⟨c, e1, ?_⟩
    cases c with
    | true => exact q1
    | false =>
      obtain ⟨_, _, q2⟩ := q1
      exact q2 _ H1 (aE.refl _) (by simp only [Rp])
theorem Z.oE (ha : Z.ai X a fa) (hb : Z.ai X (.BoolOp .And (b :: dg) pos) fb) : Z.ai X (.BoolOp .And (a :: b :: dg) pos) (wc fa fb) :=
  ⟨D2.oE ha.un hb.un⟩
theorem xV (ha : ai X a fa) (hb : ai X (.BoolOp .Or (b :: dg) pos) fb) : ai X (.BoolOp .Or (a :: b :: dg) pos) (Et fa fb) :=
  PE.imp (DV ha hb) fun σ H Q h => (qV (k := fun ρ b => if b = true then .ok (.bool true) else fb ρ) h).post fun v H1 ⟨c, e1, q1⟩ => by
    refine ⟨c, e1, ?_⟩
    cases c with
    | false => exact q1
    | true =>
      obtain ⟨_, _, q2⟩ := q1
      exact q2 _ H1 (aE.refl _) (by simp only [Rp])
theorem Z.xV (ha : Z.ai X a fa) (hb : Z.ai X (.BoolOp .Or (b :: dg) pos) fb) : Z.ai X (.BoolOp .Or (a :: b :: dg) pos) (Et fa fb) :=
  ⟨D2.xV ha.un hb.un⟩
theorem uG (ha : ai X a fa) : ai X (.UnaryOp .Not a pos) (BG fa) :=
  PE.imp (CI ha) fun σ H Q h => (qV (k := fun ρ b => .ok (.bool (!b))) h).post fun v H1 ⟨c, e1, _, _, q2⟩ => ⟨c, e1, q2 _ H1 (aE.refl _) (by simp only [Rp])⟩
theorem Z.uG (ha : Z.ai X a fa) : Z.ai X (.UnaryOp .Not a pos) (BG fa) :=
  ⟨D2.uG ha.un⟩
def AV (t : aN → R Bool) (f g : Fe) : Fe := fun ρ => t ρ >>= fun b => if b = true then f ρ else g ρ
theorem jD {e : Expr} (hc : hZ X e ga) (ha : ai X a fa) (hb : ai X b fb) : ai X (.IfExp e a b pos) (AV ga fa fb) :=
  PE.imp (ze hc ha hb) fun σ H Q h => (qx (f := ga) (k := fun ρ b => if b = true then fa ρ else fb ρ) (e8 (X := X) fQ Q) h).post fun d H1 ⟨ρ1, sl1, _, q1⟩ => by
    cases d with
    | true => exact ⟨ρ1, sl1, q1⟩
    | false => exact ⟨ρ1, sl1, q1⟩
theorem Z.jD {e : Expr} (hc : Z.hZ X e ga) (ha : Z.ai X a fa) (hb : Z.ai X b fb) : Z.ai X (.IfExp e a b pos) (AV ga fa fb) :=
  ⟨D2.jD hc.un ha.un hb.un⟩
end
def aw : Expr → Bool
  | .Starred .. => false
  | _ => true
theorem bg {e : Expr} {es : List Expr} {env : Env} (h : aw e = true) : starEach (e :: es) env = (false, eval e env) :: starEach es env := by
  cases e <;> first | rfl | (cases h)
theorem nP {es : List Expr} {env : Env} {pos : Pos} (h : es.all aw = true) : (backTo pos (starEach es env)).any (·.1) = false := by
  induction es with
  | nil => rfl
  | cons e es ih =>
    rw [List.all_cons, Bool.and_eq_true] at h
    rw [bg h.1]
    have := ih h.2
    simpa [backTo] using this
def aH : aN → R (List PyData) := fun _ => .ok []
def af (f : Fe) (g : aN → R (List PyData)) : aN → R (List PyData) := fun ρ => f ρ >>= fun d => g ρ >>= fun ds => .ok (d :: ds)
section
variable {X : Cx} {e : Expr} {es : List Expr} {f : Fe} {g : aN → R (List PyData)}
theorem vI {I : Hp → PyData → V → Prop} : PA X [] (xC X I aH) := PA.imp ya fun σ H Q ⟨ρ, sl, q⟩ => q [] H (aE.refl _) (by simp only [RA])
theorem ay : pE X [] aH := vI
theorem Z.ay  : Z.pE X [] aH :=
  ⟨D2.ay⟩
theorem uh : BC X [] aH := vI
theorem sF {I : Hp → PyData → V → Prop} (hI : ∀ H H' d v, I H d v → aE H H' → I H' d v) (ha : PE X e (ke X (fun _ H' d v => I H' d v) f)) (hr : PA X es (xC X I g))
    (hs : starEach (e :: es) X.env = (false, eval e X.env) :: starEach es X.env := by rfl) : PA X (e :: es) (xC X I (af f g)) :=
  PA.imp (qZ ha hr hs) fun σ H Q h =>
    (ff (P := fun _ H' d v => I H' d v) (f := f) (k := fun ρ d => g ρ >>= fun ds => .ok (d :: ds)) (Bs (X := X) I Q) h).post fun v H1 ⟨ρ1, d1, sl1, _, p1, q1⟩ =>
      (mf (I := I) (f := g) (k := fun _ ds => .ok (d1 :: ds)) (Bs (X := X) I Q) ⟨ρ1, sl1, q1⟩).post fun vs H2 ⟨_, ds1, _, s2, p3, q3⟩ =>
        q3 (v :: vs) H2 (aE.refl _) (by simp only [RA]; exact ⟨v, vs, rfl, hI _ _ _ _ p1 s2, p3⟩)
theorem ag (ha : ai X e f) (hr : pE X es g) (hs : aw e = true := by rfl) : pE X (e :: es) (af f g) := sF (fun _ _ _ _ h s => h.mono s) ha hr (bg hs)
theorem Z.ag (ha : Z.ai X e f) (hr : Z.pE X es g) (hs : aw e = true := by rfl) : Z.pE X (e :: es) (af f g) :=
  ⟨D2.ag ha.un hr.un hs⟩
theorem nB (ha : bK X e f) (hr : BC X es g) (hs : aw e = true := by rfl) : BC X (e :: es) (af f g) := sF (fun _ _ _ _ h s => h.mono s) ha hr (bg hs)
end
section
variable {K : PySem.W.Frag} {H : Hp} {x : V}
theorem lr (h : ie H .none x) : x = .non := by
  rcases h with h | h
  · simpa only [Rp] using h
  · simp only [ja] at h
theorem oK {b : Bool} (h : ie H (.bool b) x) : x = .bl b := by
  rcases h with h | h
  · simpa only [Rp] using h
  · simp only [ja] at h
theorem bP {i : Int} (h : ie H (.int i) x) : x = .int i := by
  rcases h with h | h
  · simpa only [Rp] using h
  · simp only [ja] at h
theorem gV {y : Str} (h : ie H (.str y) x) : x = .str y := by
  rcases h with h | h
  · simpa only [Rp] using h
  · simp only [ja] at h
theorem dm {ds : List PyData} (h : ie H (.tuple ds) x) : ∃ a vs, x = .ref a ∧ H a = some (.tup vs) ∧ bw H ds vs := by
  rcases h with h | h
  · simpa only [Rp] using h
  · simp only [ja] at h
theorem dL {ds : List PyData} (h : ie H (.list ds) x) : ∃ a vs, x = .ref a ∧ mX K H a vs ∧ bw H ds vs := by
  rcases h with h | h
  · simp only [Rp] at h
    obtain ⟨a, o, vs, e, ha, r⟩ := h
    exact ⟨a, vs, e, .inl (.inr ⟨o, ha⟩), r⟩
  · simp only [ja] at h
    obtain ⟨a, vs, e, ha, r⟩ := h
    exact ⟨a, vs, e, .inl (.inl ha), r⟩
theorem AG {C : Addr} {fs : List (Str × V)} {kvs : List (PyData × PyData)} (h : xj H C fs kvs) : p6 kvs = true := by
  cases kvs with
  | nil => simp only [xj] at h
  | cons kd kvs => simp only [xj] at h; rw [h.1]; rfl
theorem zl {kvs : List (PyData × PyData)} (h : ie H (.dict kvs) x) : ∃ a, x = .ref a := by
  rcases h with h | h
  · simp only [Rp] at h
    rcases h with ⟨a, o, vs, e, _⟩ | ⟨a, o, C, dx, fs, e, _⟩
    · exact ⟨a, e⟩
    · exact ⟨a, e⟩
  · simp only [ja] at h
    obtain ⟨a, vs, e, _⟩ := h
    exact ⟨a, e⟩
theorem lg {kvs : List (PyData × PyData)} (hi : p6 kvs = false) (h : ie H (.dict kvs) x) : ∃ a ks, x = .ref a ∧ Rd H a (.dK ks) ∧ eh H kvs ks := by
  rcases h with h | h
  · simp only [Rp] at h
    rcases h with ⟨a, o, vs, e, ha, r⟩ | ⟨a, o, C, dx, fs, e, ha, r⟩
    · exact ⟨a, vs, e, .inr ⟨o, ha⟩, r⟩
    · rw [AG r] at hi; cases hi
  · simp only [ja] at h
    obtain ⟨a, vs, e, ha, r⟩ := h
    exact ⟨a, vs, e, .inl ha, r⟩
end
theorem bw.nil {H : Hp} : bw H [] [] := by simp only [bw]
theorem bw.cons {H : Hp} {d : PyData} {ds : List PyData} {v : V} {vs : List V} (h : Rp H d v) (t : bw H ds vs) : bw H (d :: ds) (v :: vs) := by simp only [bw]; exact ⟨v, vs, rfl, h, t⟩
theorem bw.nil_inv {H : Hp} {vs : List V} (h : bw H [] vs) : vs = [] := by simpa only [bw] using h
theorem bw.cons_inv {H : Hp} {d : PyData} {ds : List PyData} {vs : List V} (h : bw H (d :: ds) vs) : ∃ v r, vs = v :: r ∧ Rp H d v ∧ bw H ds r := by simpa only [bw] using h
theorem bw.length {H : Hp} : ∀ {ds : List PyData} {vs : List V}, bw H ds vs → vs.length = ds.length
  | [], vs, h => by rw [h.nil_inv]; rfl
  | d :: ds, vs, h => by
    obtain ⟨v, r, rfl, _, t⟩ := h.cons_inv
    rw [List.length_cons, List.length_cons, bw.length t]
theorem bw.get {H : Hp} : ∀ {ds : List PyData} {vs : List V} {i : Nat} {d : PyData}, bw H ds vs → ds[i]? = some d → ∃ v, vs[i]? = some v ∧ Rp H d v
  | [], vs, i, d, h, e => by simp at e
  | d0 :: ds, vs, 0, d, h, e => by
    obtain ⟨v, r, rfl, p, _⟩ := h.cons_inv
    simp at e; subst e
    exact ⟨v, rfl, p⟩
  | d0 :: ds, vs, i + 1, d, h, e => by
    obtain ⟨v, r, rfl, _, t⟩ := h.cons_inv
    obtain ⟨u, e1, p⟩ := bw.get (i := i) t (by simpa using e)
    exact ⟨u, by simpa using e1, p⟩
theorem bw.append {H : Hp} : ∀ {ds es : List PyData} {vs us : List V}, bw H ds vs → bw H es us → bw H (ds ++ es) (vs ++ us)
  | [], es, vs, us, h, g => by rw [h.nil_inv]; exact g
  | d :: ds, es, vs, us, h, g => by
    obtain ⟨v, r, rfl, p, t⟩ := h.cons_inv
    exact bw.cons p (bw.append t g)
theorem bw.take {H : Hp} : ∀ {ds : List PyData} {vs : List V} (n : Nat), bw H ds vs → bw H (ds.take n) (vs.take n)
  | ds, vs, 0, h => by simp only [List.take_zero]; exact bw.nil
  | [], vs, n + 1, h => by rw [h.nil_inv]; exact bw.nil
  | d :: ds, vs, n + 1, h => by
    obtain ⟨v, r, rfl, p, t⟩ := h.cons_inv
    exact bw.cons p (bw.take n t)
theorem bw.drop {H : Hp} : ∀ {ds : List PyData} {vs : List V} (n : Nat), bw H ds vs → bw H (ds.drop n) (vs.drop n)
  | ds, vs, 0, h => h
  | [], vs, n + 1, h => by rw [h.nil_inv]; exact bw.nil
  | d :: ds, vs, n + 1, h => by
    obtain ⟨v, r, rfl, p, t⟩ := h.cons_inv
    exact bw.drop n t
theorem bw.rep {H : Hp} {ds : List PyData} {vs : List V} (h : bw H ds vs) : ∀ k : Nat, bw H (List.replicate k ds).flatten (List.replicate k vs).flatten
  | 0 => bw.nil
  | k + 1 => by rw [List.replicate_succ, List.replicate_succ, List.flatten_cons, List.flatten_cons]; exact bw.append h (bw.rep h k)
theorem bw.ints {H : Hp} : ∀ ns : List Int, bw H (ns.map PyData.int) (ns.map V.int)
  | [] => bw.nil
  | n :: ns => bw.cons (by simp only [Rp]) (bw.ints ns)
theorem ce {H : Hp} {p : Addr} (h : H p = none) (o : HO) : aE H (cm H p o) := fun b u q => by rw [au (aR q h)]; exact q
theorem df {H : Hp} {p : Addr} {ds : List PyData} {vs : List V} (h : H p = none) (r : bw H ds vs) : Rp (cm H p (.tup vs)) (.tuple ds) (.ref p) := by
  simp only [Rp]; exact ⟨p, vs, rfl, bd, r.mono (ce h _)⟩
theorem dO {H : Hp} {p : Addr} {ds : List PyData} {vs : List V} (h : H p = none) (r : bw H ds vs) : CT H (cm H p (.lst vs)) (.list ds) (.ref p) := by
  refine ⟨?_, p, rfl, h⟩
  simp only [ja]; exact ⟨p, vs, rfl, bd, r.mono (ce h _)⟩
section
variable {P : Program} {w : World} {H : Hp} {h : Heap}
mutual
theorem rC (ok : il P w H h) : ∀ (d : PyData) (v : V) (u : Value), d.canLay0 = true → Rp H d v → bA v u → ∃ as, Reads h u d as
  | .none, v, u, _, r, e => by simp only [Rp] at r; subst r; cases e; exact ⟨_, .none⟩
  | .bool b, v, u, _, r, e => by simp only [Rp] at r; subst r; cases e; exact ⟨_, .bool b⟩
  | .int i, v, u, _, r, e => by simp only [Rp] at r; subst r; obtain ⟨t, rfl⟩ := e; exact ⟨_, .int i t⟩
  | .str x, v, u, _, r, e => by simp only [Rp] at r; subst r; obtain ⟨t, rfl⟩ := e; exact ⟨_, .str x t⟩
  | .tuple ds, v, u, c, r, e => by
    simp only [Rp] at r
    obtain ⟨a, vs, rfl, ha, r⟩ := r
    cases e
    obtain ⟨_, its, rv, o, h1, h2, n, h3⟩ := (show bR P w H h a (.tup vs) from ok a _ ha)
    obtain ⟨as, q⟩ := gQ ok ds vs its (by simpa only [PyData.canLay0] using c) r rv
    exact ⟨as, .tuple h1 h2 h3 (by simpa using q)⟩
  | .list ds, v, u, c, r, e => by
    simp only [Rp] at r
    obtain ⟨a, ob, vs, rfl, ha, r⟩ := r
    cases e
    obtain ⟨_, _, its, n, rv, h1⟩ := (show bR P w H h a (.frz ob (.lst vs)) from ok a _ ha)
    obtain ⟨as, q⟩ := gQ ok ds vs its (by simpa only [PyData.canLay0] using c) r rv
    exact ⟨a :: as, .list h1 rfl rfl (by simpa using q)⟩
  | .dict kvs, v, u, c, r, e => by simp [PyData.canLay0] at c
theorem gQ (ok : il P w H h) : ∀ (ds : List PyData) (vs : List V) (us : List Value), PyData.canLayAll0 ds = true → bw H ds vs → bt vs us → ∃ as, ReadsAll h us ds as
  | [], vs, us, _, r, e => by rw [r.nil_inv] at e; cases e; exact ⟨_, .nil⟩
  | d :: ds, vs, us, c, r, e => by
    obtain ⟨v, r', rfl, p, t⟩ := r.cons_inv
    have c' : d.canLay0 = true ∧ PyData.canLayAll0 ds = true := by simpa [PyData.canLayAll0] using c
    cases e with
    | cons e1 e2 =>
      obtain ⟨as, q1⟩ := rC ok d v _ c'.1 p e1
      obtain ⟨bs, q2⟩ := gQ ok ds r' _ c'.2 t e2
      exact ⟨as ++ bs, .cons q1 q2⟩
end
theorem dk (ok : il P w H h) {d : PyData} {v : V} {u : Value} (c : d.canLay0 = true) (r : ie H d v) (e : bA v u) : ∃ as, Reads h u d as := by
  rcases r with r | r
  · exact rC ok d v u c r e
  · cases d <;> simp only [ja] at r
    · rename_i ds
      obtain ⟨a, vs, rfl, ha, r⟩ := r
      cases e
      obtain ⟨_, its, n, rv, h1⟩ := (show bR P w H h a (.lst vs) from ok a _ ha)
      obtain ⟨as, q⟩ := gQ ok ds vs its (by simpa only [PyData.canLay0] using c) r rv
      exact ⟨a :: as, .list h1 rfl rfl (by simpa using q)⟩
    · simp [PyData.canLay0] at c
end
def iw : PyData → Option cT
  | .int i => some (.inl i)
  | .str y => some (.inr y)
  | _ => none
def gZ : PyData → PyData → Bool
  | .int i, .int j => decide (i = j)
  | .str i, .str j => decide (i = j)
  | _, _ => false
def ua (kvs : List (PyData × PyData)) (k v : PyData) : List (PyData × PyData) :=
  if (kvs.any fun kv => gZ kv.1 k) = true then kvs.map (fun kv => if gZ kv.1 k = true then (kv.1, v) else kv) else kvs ++ [(k, v)]
theorem jS (κ κ' : cT) : gZ (fY κ) (fY κ') = decide (κ = κ') := by
  cases κ with
  | inl i =>
    cases κ' with
    | inl j => simp [fY, gZ]
    | inr j => simp [fY, gZ]
  | inr i =>
    cases κ' with
    | inl j => simp [fY, gZ]
    | inr j => simp [fY, gZ]
theorem eh.cons {H : Hp} {k d : PyData} {kvs : List (PyData × PyData)} {κ : cT} {v : V} {ks : List (cT × V)} (e : k = fY κ) (h : Rp H d v) (t : eh H kvs ks) : eh H ((k, d) :: kvs) ((κ, v) :: ks) := by
  simp only [eh, zA]; exact ⟨κ, v, ks, rfl, ⟨e, h⟩, t⟩
theorem eh.cons_inv {H : Hp} {k d : PyData} {kvs : List (PyData × PyData)} {ks : List (cT × V)} (h : eh H ((k, d) :: kvs) ks) : ∃ κ v r, ks = (κ, v) :: r ∧ k = fY κ ∧ Rp H d v ∧ eh H kvs r := by
  simp only [eh, zA] at h
  obtain ⟨κ, v, r, e, ⟨e1, p⟩, t⟩ := h
  exact ⟨κ, v, r, e, e1, p, t⟩
theorem eh.nil_inv {H : Hp} {ks : List (cT × V)} (h : eh H [] ks) : ks = [] := by simpa only [eh] using h
theorem eh.any {H : Hp} (κ : cT) : ∀ {kvs : List (PyData × PyData)} {ks : List (cT × V)}, eh H kvs ks → (kvs.any fun kv => gZ kv.1 (fY κ)) = ks.any fun kv => decide (kv.1 = κ)
  | [], ks, h => by rw [h.nil_inv]; rfl
  | (k, d) :: kvs, ks, h => by
    obtain ⟨κ', v, r, rfl, rfl, p, t⟩ := h.cons_inv
    rw [List.any_cons, List.any_cons, eh.any κ t, jS]
theorem eh.repl {H : Hp} (κ : cT) {d : PyData} {v : V} (hv : Rp H d v) : ∀ {kvs : List (PyData × PyData)} {ks : List (cT × V)}, eh H kvs ks →
    eh H (kvs.map fun kv => if gZ kv.1 (fY κ) = true then (kv.1, d) else kv) (ks.map fun kv => if kv.1 = κ then (kv.1, v) else kv)
  | [], ks, h => by rw [h.nil_inv]; simp only [List.map_nil, eh]
  | (k, d') :: kvs, ks, h => by
    obtain ⟨κ', v', r, rfl, rfl, p, t⟩ := h.cons_inv
    rw [List.map_cons, List.map_cons]
    dsimp only
    rw [jS]
    by_cases e : κ' = κ
    · rw [if_pos (decide_eq_true e), if_pos e]; exact eh.cons rfl hv (eh.repl κ hv t)
    · rw [if_neg (by rw [decide_eq_false e]; exact Bool.false_ne_true), if_neg e]; exact eh.cons rfl p (eh.repl κ hv t)
theorem eh.snoc {H : Hp} {κ : cT} {d : PyData} {v : V} (hv : Rp H d v) : ∀ {kvs : List (PyData × PyData)} {ks : List (cT × V)}, eh H kvs ks → eh H (kvs ++ [(fY κ, d)]) (ks ++ [(κ, v)])
  | [], ks, h => by rw [h.nil_inv]; exact eh.cons rfl hv (by simp only [eh])
  | (k, d') :: kvs, ks, h => by
    obtain ⟨κ', v', r, rfl, rfl, p, t⟩ := h.cons_inv
    exact eh.cons rfl p (eh.snoc hv t)
theorem eh.put {H : Hp} (κ : cT) {d : PyData} {v : V} (hv : Rp H d v) {kvs : List (PyData × PyData)} {ks : List (cT × V)} (h : eh H kvs ks) : eh H (ua kvs (fY κ) d) (lf ks κ v) := by
  unfold ua lf
  rw [h.any κ]
  split
  · exact h.repl κ hv
  · exact h.snoc hv
def mU (kvs : List (PyData × PyData)) (k : PyData) : Option PyData := (kvs.find? fun kv => gZ kv.1 k).map (·.2)
theorem eh.look {H : Hp} (κ : cT) : ∀ {kvs : List (PyData × PyData)} {ks : List (cT × V)}, eh H kvs ks → (mU kvs (fY κ) = none ∧ ka ks κ = none) ∨ ∃ d v, mU kvs (fY κ) = some d ∧ ka ks κ = some v ∧ Rp H d v
  | [], ks, h => .inl (by rw [h.nil_inv]; exact ⟨rfl, rfl⟩)
  | (k, d) :: kvs, ks, h => by
    obtain ⟨κ', v, r, rfl, rfl, p, t⟩ := h.cons_inv
    unfold mU ka
    by_cases e : κ' = κ
    · rw [List.find?_cons_of_pos (by rw [jS]; exact decide_eq_true e), List.find?_cons_of_pos (by exact decide_eq_true e)]
      exact .inr ⟨d, v, rfl, rfl, p⟩
    · rw [List.find?_cons_of_neg (by rw [jS, decide_eq_false e]; exact Bool.false_ne_true), List.find?_cons_of_neg (by rw [decide_eq_false e]; exact Bool.false_ne_true)]
      exact eh.look κ t
theorem sR {d : PyData} {κ : cT} (h : iw d = some κ) : d = fY κ := by
  cases d <;> simp only [iw] at h <;> cases h <;> rfl
theorem vy {H : Hp} {d : PyData} {x : V} {κ : cT} (h : ie H d x) (e : iw d = some κ) : x = kV κ := by
  cases d <;> simp only [iw] at e <;> cases e
  · exact bP h
  · exact gV h
theorem vf {H : Hp} {a : Addr} {kvs : List (PyData × PyData)} {ks : List (cT × V)} {κ : cT} (h : Rd H a (.dK ks)) (r : eh H kvs ks) : ∃ o, oH H a (kV κ) o ∧ o.isSome = (mU kvs (fY κ)).isSome ∧ ∀ d, mU kvs (fY κ) = some d → ∃ v, o = some v ∧ Rp H d v := by
  refine ⟨ka ks κ, .inl ⟨ks, κ, h, rfl, rfl⟩, ?_⟩
  rcases r.look κ with ⟨e1, e2⟩ | ⟨d, v, e1, e2, p⟩
  · rw [e1, e2]; exact ⟨rfl, fun d z => by cases z⟩
  · rw [e1, e2]; exact ⟨rfl, fun d z => by cases z; exact ⟨v, rfl, p⟩⟩
def nz : PyData → PyData → R PyData
  | .int i, .int j => .ok (.int (i - j))
  | _, _ => .no
def fx : PyData → PyData → R PyData
  | .int i, .int j => if 0 < j then .ok (.int (i % j)) else .no
  | _, _ => .no
def lA : PyData → PyData → R PyData
  | .int i, .int j => if 0 < j ∧ j < 1073741824 then .ok (.int (i / j)) else .no
  | _, _ => .no
def fD (p : Int → Int → Bool) : PyData → PyData → R PyData
  | .int i, .int j => .ok (.bool (p i j))
  | _, _ => .no
def yk (x y : PyData) : Bool := x.canLay0 && y.canLay0 && decide (min x.depth y.depth ≤ 60)
def iY (x y : PyData) : R PyData := if yk x y = true then .ok (.bool (PyData.eqv x y)) else .no
def w5 (x y : PyData) : R PyData := if yk x y = true then .ok (.bool (!PyData.eqv x y)) else .no
def fH : PyData → Bool
  | .none => true
  | _ => false
def jc (x y : PyData) : R PyData := if fH y = true then .ok (.bool (fH x)) else .no
def lE (x y : PyData) : R PyData := if fH y = true then .ok (.bool (!fH x)) else .no
def ny (xs : List PyData) (d : PyData) : Bool := PyData.canLayAll0 xs && d.canLay0 && decide (min (PyData.depthAll xs) d.depth ≤ 60)
def lH (neg : Bool) (d : PyData) : PyData → R PyData
  | .list xs => if ny xs d = true then .ok (.bool (if neg then !(xs.any fun y => PyData.eqv y d) else xs.any fun y => PyData.eqv y d)) else .no
  | .tuple xs => if ny xs d = true then .ok (.bool (if neg then !(xs.any fun y => PyData.eqv y d) else xs.any fun y => PyData.eqv y d)) else .no
  | .dict kvs => if p6 kvs = true then .no else match iw d with
    | some _ => .ok (.bool (if neg then !(mU kvs d).isSome else (mU kvs d).isSome))
    | none => .no
  | _ => .no
section
variable {X : Cx} {a b c : Expr} {fa fb fc : Fe} {pos : Pos}
theorem de {H : Hp} {i : Int} : Rp H (.int i) (.int i) := by simp only [Rp]
theorem eY {H : Hp} {i : Bool} : Rp H (.bool i) (.bl i) := by simp only [Rp]
theorem yT {H : Hp} {i : Str} : Rp H (.str i) (.str i) := by simp only [Rp]
theorem Cs : bY X gR (zx fun i j => .int (i - j)) nz := fun H x y dx dy Q hx hy q => by
  unfold nz at q
  split at q
  · exact ⟨_, _, bP hx, bP hy, q _ H (aE.refl _) de⟩
  · exact q.elim
theorem BH : bY X gR (rI (fun _ j => 0 < j) fun i j => .int (i % j)) fx := fun H x y dx dy Q hx hy q => by
  unfold fx at q
  split at q
  · split at q
    · rename_i h; exact ⟨_, _, bP hx, bP hy, h, q _ H (aE.refl _) de⟩
    · exact q.elim
  · exact q.elim
theorem BM : bY X gR (rI Dm fun i j => .int (i / j)) lA := fun H x y dx dy Q hx hy q => by
  unfold lA at q
  split at q
  · split at q
    · rename_i h; exact ⟨_, _, bP hx, bP hy, h, q _ H (aE.refl _) de⟩
    · exact q.elim
  · exact q.elim
theorem oB {p : Int → Int → Bool} : bY X gR (zx fun i j => .bl (p i j)) (fD p) := fun H x y dx dy Q hx hy q => by
  unfold fD at q
  split at q
  · exact ⟨_, _, bP hx, bP hy, q _ H (aE.refl _) eY⟩
  · exact q.elim
theorem kP (ha : bK X a fa) (hb : bK X b fb) : ai X (.BinOp a .Sub b pos) (e2 nz fa fb) := oC fQ Cm Cs ha hb
theorem Z.kP (ha : Z.bK X a fa) (hb : Z.bK X b fb) : Z.ai X (.BinOp a .Sub b pos) (e2 nz fa fb) :=
  ⟨D2.kP ha.un hb.un⟩
theorem cS (ha : bK X a fa) (hb : bK X b fb) : ai X (.BinOp a .Mod b pos) (e2 fx fa fb) := oC fQ B0 BH ha hb
theorem Z.cS (ha : Z.bK X a fa) (hb : Z.bK X b fb) : Z.ai X (.BinOp a .Mod b pos) (e2 fx fa fb) :=
  ⟨D2.cS ha.un hb.un⟩
theorem iD (ha : bK X a fa) (hb : bK X b fb) : ai X (.BinOp a .FloorDiv b pos) (e2 lA fa fb) := oC fQ zS BM ha hb
theorem Z.iD (ha : Z.bK X a fa) (hb : Z.bK X b fb) : Z.ai X (.BinOp a .FloorDiv b pos) (e2 lA fa fb) :=
  ⟨D2.iD ha.un hb.un⟩
abbrev E0 : Int → Int → Bool := fun i j => decide (i < j)
abbrev Fv : Int → Int → Bool := fun i j => decide (i ≤ j)
abbrev pC : Int → Int → Bool := fun i j => decide (j < i)
theorem xB (ha : bK X a fa) (hb : bK X b fb) : ai X (.Compare a [.Gt] [b] pos) (e2 (fD pC) fa fb) := rd Bn oB ha hb (iG _)
theorem Z.xB (ha : Z.bK X a fa) (hb : Z.bK X b fb) : Z.ai X (.Compare a [.Gt] [b] pos) (e2 (fD pC) fa fb) :=
  ⟨D2.xB ha.un hb.un⟩
theorem tD (ha : bK X a fa) (hb : bK X b fb) : hZ X (.Compare a [.Lt] [b] pos) (tE (e2 (fD E0) fa fb)) := gO Db oB ha hb (iG _)
theorem Z.tD (ha : Z.bK X a fa) (hb : Z.bK X b fb) : Z.hZ X (.Compare a [.Lt] [b] pos) (tE (e2 (fD E0) fa fb)) :=
  ⟨D2.tD ha.un hb.un⟩
theorem mt (ha : bK X a fa) (hb : bK X b fb) : hZ X (.Compare a [.Gt] [b] pos) (tE (e2 (fD pC) fa fb)) := gO Bn oB ha hb (iG _)
theorem Z.mt (ha : Z.bK X a fa) (hb : Z.bK X b fb) : Z.hZ X (.Compare a [.Gt] [b] pos) (tE (e2 (fD pC) fa fb)) :=
  ⟨D2.mt ha.un hb.un⟩
def Ae (X : Cx) (neg : Bool) : R2 := fun x y H Q => ∃ dx dy, ie H dx x ∧ ie H dy y ∧ yk dx dy = true ∧ Q (.bl (if neg then !PyData.eqv dx dy else PyData.eqv dx dy)) H
theorem nM {x y : PyData} (h : yk x y = true) : x.canLay0 = true ∧ y.canLay0 = true ∧ min x.depth y.depth ≤ 60 := by
  unfold yk at h
  rw [Bool.and_eq_true, Bool.and_eq_true, decide_eq_true_eq] at h
  exact ⟨h.1.1, h.1.2, h.2⟩
theorem x6 (hu : X.A.units + 64 < cLine) : iZ X (compareOp .Eq) (Ae X false) := by
  intro pins s σ H x y v u Q I rx ry h
  obtain ⟨dx, dy, hx, hy, ho, q⟩ := h
  obtain ⟨c1, c2, c3⟩ := nM ho
  obtain ⟨as, r1⟩ := dk I.hok c1 hx rx
  obtain ⟨bs, r2⟩ := dk I.hok c2 hy ry
  exact PySem.SeqAt.compareEq_reads r1 r2 c1 c2 (by omega) ⟨.bl _, H, I, rfl, q⟩
theorem CJ (hu : X.A.units + 64 < cLine) : iZ X (compareOp .NotEq) (Ae X true) := by
  intro pins s σ H x y v u Q I rx ry h
  obtain ⟨dx, dy, hx, hy, ho, q⟩ := h
  obtain ⟨c1, c2, c3⟩ := nM ho
  obtain ⟨as, r1⟩ := dk I.hok c1 hx rx
  obtain ⟨bs, r2⟩ := dk I.hok c2 hy ry
  exact PySem.SeqAt.compareNe_reads r1 r2 c1 c2 (by omega) ⟨.bl _, H, I, rfl, q⟩
theorem Bc : bY X gR (Ae X false) iY := fun H x y dx dy Q hx hy q => by
  unfold iY at q
  split at q
  · rename_i h; exact ⟨dx, dy, hx, hy, h, q _ H (aE.refl _) eY⟩
  · exact q.elim
theorem DC : bY X gR (Ae X true) w5 := fun H x y dx dy Q hx hy q => by
  unfold w5 at q
  split at q
  · rename_i h; exact ⟨dx, dy, hx, hy, h, q _ H (aE.refl _) eY⟩
  · exact q.elim
theorem sS (hu : X.A.units + 64 < cLine) (ha : bK X a fa) (hb : bK X b fb) : ai X (.Compare a [.Eq] [b] pos) (e2 iY fa fb) := rd (x6 hu) Bc ha hb (iG _)
theorem Z.sS (hu : X.A.units + 64 < cLine) (ha : Z.bK X a fa) (hb : Z.bK X b fb) : Z.ai X (.Compare a [.Eq] [b] pos) (e2 iY fa fb) :=
  ⟨D2.sS hu ha.un hb.un⟩
theorem fq (hu : X.A.units + 64 < cLine) (ha : bK X a fa) (hb : bK X b fb) : hZ X (.Compare a [.Eq] [b] pos) (tE (e2 iY fa fb)) := gO (x6 hu) Bc ha hb (iG _)
theorem Z.fq (hu : X.A.units + 64 < cLine) (ha : Z.bK X a fa) (hb : Z.bK X b fb) : Z.hZ X (.Compare a [.Eq] [b] pos) (tE (e2 iY fa fb)) :=
  ⟨D2.fq hu ha.un hb.un⟩
theorem lV (hu : X.A.units + 64 < cLine) (ha : bK X a fa) (hb : bK X b fb) : hZ X (.Compare a [.NotEq] [b] pos) (tE (e2 w5 fa fb)) := gO (CJ hu) DC ha hb (iG _)
theorem Z.lV (hu : X.A.units + 64 < cLine) (ha : Z.bK X a fa) (hb : Z.bK X b fb) : Z.hZ X (.Compare a [.NotEq] [b] pos) (tE (e2 w5 fa fb)) :=
  ⟨D2.lV hu ha.un hb.un⟩
theorem uW {H : Hp} {d : PyData} {x : V} (h : ie H d x) : decide (x = .non) = fH d := by
  cases d with
  | none => rw [lr h]; rfl
  | bool b => rw [oK h]; rfl
  | int i => rw [bP h]; rfl
  | str y => rw [gV h]; rfl
  | tuple ds => obtain ⟨a, vs, rfl, _⟩ := dm h; rfl
  | list ds => obtain ⟨a, vs, rfl, _⟩ := dL (K := default) h; rfl
  | dict kvs => obtain ⟨a, rfl⟩ := zl h; rfl
theorem xO : bY X gR (fun x y H Q => y = .non ∧ Q (.bl (decide (x = .non))) H) jc := fun H x y dx dy Q hx hy q => by
  unfold jc at q
  split at q
  · rename_i h
    cases dy <;> simp only [fH, Bool.false_eq_true] at h
    exact ⟨lr hy, by rw [uW hx]; exact q _ H (aE.refl _) eY⟩
  · exact q.elim
theorem AJ : bY X gR (fun x y H Q => y = .non ∧ Q (.bl (!decide (x = .non))) H) lE := fun H x y dx dy Q hx hy q => by
  unfold lE at q
  split at q
  · rename_i h
    cases dy <;> simp only [fH, Bool.false_eq_true] at h
    exact ⟨lr hy, by rw [uW hx]; exact q _ H (aE.refl _) eY⟩
  · exact q.elim
theorem tQ (ha : bK X a fa) (hb : bK X b fb) : ai X (.Compare a [.Is] [b] pos) (e2 jc fa fb) := rd xW xO ha hb (iG _)
theorem Z.tQ (ha : Z.bK X a fa) (hb : Z.bK X b fb) : Z.ai X (.Compare a [.Is] [b] pos) (e2 jc fa fb) :=
  ⟨D2.tQ ha.un hb.un⟩
theorem ld (ha : bK X a fa) (hb : bK X b fb) : hZ X (.Compare a [.Is] [b] pos) (tE (e2 jc fa fb)) := gO xW xO ha hb (iG _)
theorem Z.ld (ha : Z.bK X a fa) (hb : Z.bK X b fb) : Z.hZ X (.Compare a [.Is] [b] pos) (tE (e2 jc fa fb)) :=
  ⟨D2.ld ha.un hb.un⟩
theorem lc (ha : bK X a fa) (hb : bK X b fb) : hZ X (.Compare a [.IsNot] [b] pos) (tE (e2 lE fa fb)) := gO zM AJ ha hb (iG _)
theorem Z.lc (ha : Z.bK X a fa) (hb : Z.bK X b fb) : Z.hZ X (.Compare a [.IsNot] [b] pos) (tE (e2 lE fa fb)) :=
  ⟨D2.lc ha.un hb.un⟩
def EM (X : Cx) (neg : Bool) : R2 := fun x y H Q => ∃ d xs, ie H d x ∧ (ie H (.list xs) y ∨ ie H (.tuple xs) y) ∧ ny xs d = true ∧ Q (.bl (if neg then !(xs.any fun z => PyData.eqv z d) else xs.any fun z => PyData.eqv z d)) H
def BI (X : Cx) (neg : Bool) : R2 := fun x y H Q => EM X neg x y H Q ∨ ∃ a o, y = .ref a ∧ oH H a x o ∧ Q (.bl (if neg then !o.isSome else o.isSome)) H
theorem n5 {xs : List PyData} {d : PyData} (h : ny xs d = true) : PyData.canLayAll0 xs = true ∧ d.canLay0 = true ∧ min (PyData.depthAll xs) d.depth ≤ 60 := by
  unfold ny at h
  rw [Bool.and_eq_true, Bool.and_eq_true, decide_eq_true_eq] at h
  exact ⟨h.1.1, h.1.2, h.2⟩
theorem yL (hu : X.A.units + 64 < cLine) : iZ X (compareOp .In) (BI X false) := by
  intro pins s σ H x y v u Q I rx ry h
  rcases h with h | ⟨a, o, rfl, g, q⟩
  case inr =>
    cases ry
    exact EL (by omega) I g rx fun s' I' => ⟨.bl _, H, I', rfl, q⟩
  obtain ⟨d, xs, hx, hy, ho, q⟩ := h
  obtain ⟨c1, c2, c3⟩ := n5 ho
  obtain ⟨as, r1⟩ := dk I.hok c2 hx rx
  rcases hy with hy | hy
  · obtain ⟨bs, r2⟩ := dk I.hok (d := .list xs) (by simpa only [PyData.canLay0] using c1) hy ry
    exact PySem.SeqAt.in_list_reads r2 r1 c1 c2 (by omega) ⟨.bl _, H, I, rfl, q⟩
  · obtain ⟨bs, r2⟩ := dk I.hok (d := .tuple xs) (by simpa only [PyData.canLay0] using c1) hy ry
    exact PySem.SeqAt.in_tuple_reads r2 r1 c1 c2 (by omega) ⟨.bl _, H, I, rfl, q⟩
theorem wX (hu : X.A.units + 64 < cLine) : iZ X (compareOp .NotIn) (BI X true) := by
  intro pins s σ H x y v u Q I rx ry h
  rcases h with h | ⟨a, o, rfl, g, q⟩
  case inr =>
    cases ry
    exact zK (by omega) I g rx fun s' I' => ⟨.bl _, H, I', rfl, q⟩
  obtain ⟨d, xs, hx, hy, ho, q⟩ := h
  obtain ⟨c1, c2, c3⟩ := n5 ho
  obtain ⟨as, r1⟩ := dk I.hok c2 hx rx
  rcases hy with hy | hy
  · obtain ⟨bs, r2⟩ := dk I.hok (d := .list xs) (by simpa only [PyData.canLay0] using c1) hy ry
    exact PySem.SeqAt.notIn_list_reads r2 r1 c1 c2 (by omega) ⟨.bl _, H, I, rfl, q⟩
  · obtain ⟨bs, r2⟩ := dk I.hok (d := .tuple xs) (by simpa only [PyData.canLay0] using c1) hy ry
    exact PySem.SeqAt.notIn_tuple_reads r2 r1 c1 c2 (by omega) ⟨.bl _, H, I, rfl, q⟩
theorem xY {neg : Bool} : bY X gR (BI X neg) (lH neg) := fun H x y dx dy Q hx hy q => by
  unfold lH at q
  split at q
  · split at q
    · rename_i h; exact .inl ⟨dx, _, hx, .inl hy, h, q _ H (aE.refl _) eY⟩
    · exact q.elim
  · split at q
    · rename_i h; exact .inl ⟨dx, _, hx, .inr hy, h, q _ H (aE.refl _) eY⟩
    · exact q.elim
  · split at q
    · exact q.elim
    rename_i hi
    split at q
    · rename_i κ e
      obtain ⟨a, ks, rfl, h, r⟩ := lg (Bool.not_eq_true _ ▸ hi) hy
      obtain ⟨o, g, e1, _⟩ := vf (κ := κ) h r
      rw [← vy hx e] at g
      rw [← sR e] at e1
      exact .inr ⟨a, o, rfl, g, by rw [e1]; exact q _ H (aE.refl _) eY⟩
    · exact q.elim
  · exact q.elim
theorem vU (hu : X.A.units + 64 < cLine) (ha : bK X a fa) (hb : bK X b fb) (hm : behindInMarks .In b = false) : ai X (.Compare a [.In] [b] pos) (e2 (lH false) fa fb) := rd (yL hu) xY ha hb hm
theorem Z.vU (hu : X.A.units + 64 < cLine) (ha : Z.bK X a fa) (hb : Z.bK X b fb) (hm : behindInMarks .In b = false) : Z.ai X (.Compare a [.In] [b] pos) (e2 (lH false) fa fb) :=
  ⟨D2.vU hu ha.un hb.un hm⟩
theorem l5 (hu : X.A.units + 64 < cLine) (ha : bK X a fa) (hb : bK X b fb) (hm : behindInMarks .In b = false) : hZ X (.Compare a [.In] [b] pos) (tE (e2 (lH false) fa fb)) := gO (yL hu) xY ha hb hm
theorem Z.l5 (hu : X.A.units + 64 < cLine) (ha : Z.bK X a fa) (hb : Z.bK X b fb) (hm : behindInMarks .In b = false) : Z.hZ X (.Compare a [.In] [b] pos) (tE (e2 (lH false) fa fb)) :=
  ⟨D2.l5 hu ha.un hb.un hm⟩
theorem jO (hu : X.A.units + 64 < cLine) (ha : bK X a fa) (hb : bK X b fb) (hm : behindInMarks .NotIn b = false) : hZ X (.Compare a [.NotIn] [b] pos) (tE (e2 (lH true) fa fb)) := gO (wX hu) xY ha hb hm
theorem Z.jO (hu : X.A.units + 64 < cLine) (ha : Z.bK X a fa) (hb : Z.bK X b fb) (hm : behindInMarks .NotIn b = false) : Z.hZ X (.Compare a [.NotIn] [b] pos) (tE (e2 (lH true) fa fb)) :=
  ⟨D2.jO hu ha.un hb.un hm⟩
end
inductive xk where
  | nx (ρ : aN)
  | rt (d : PyData)
  | bk (ρ : aN)
  | ct (ρ : aN)
abbrev Fs := aN → R xk
structure iI (Fm H : Hp) (σ : St) (ρ : aN) : Prop where
  fm : aE Fm H
  sl : Sl H σ ρ
  own : ∀ (i : Nat) (d : PyData) (a : Addr), ρ[i]? = some (.own d) → σ[i]? = some (some (.ref a)) → Fm a = none
  apart : ∀ (i j : Nat) (d e : PyData) (a : Addr), ρ[i]? = some (.own d) → ρ[j]? = some (.own e) → σ[i]? = some (some (.ref a)) → σ[j]? = some (some (.ref a)) → i = j
theorem iI.mono {Fm H H' : Hp} {σ : St} {ρ : aN} (h : iI Fm H σ ρ) (s : aE H H') : iI Fm H' σ ρ := ⟨h.fm.trans s, h.sl.mono s, h.own, h.apart⟩
def Aj (X : Cx) (Fm : Hp) (r : R xk) (D : su) : Prop :=
  match r with
  | .ok (.nx ρ) => ∀ σ H, iI Fm H σ ρ → D.nx σ H
  | .ok (.rt d) => ∀ v H, aE Fm H → Rp H d v → D.rt v H
  | .ok (.bk ρ) => ∀ σ H, iI Fm H σ ρ → D.bk σ H
  | .ok (.ct ρ) => ∀ σ H, iI Fm H σ ρ → D.ct σ H
  | .ex c => Xw X c Fm ∧ Dy X c Fm
  | .no => False
def Bo (X : Cx) (Fm : Hp) (g : Fs) : TS := fun D σ H => ∃ ρ, iI Fm H σ ρ ∧ Aj X Fm (g ρ) D
def fw (X : Cx) (st : Stmt) (g : Fs) : Prop := ∀ Fm, PS X st (Bo X Fm g)
structure Z.fw (X : Cx) (st : Stmt) (g : Fs) : Prop where
  un : D2.fw X st g
def ib (X : Cx) (st : List Stmt) (g : Fs) : Prop := ∀ Fm, rj X st (Bo X Fm g)
structure Z.ib (X : Cx) (st : List Stmt) (g : Fs) : Prop where
  un : D2.ib X st g
theorem PS.imp {X : Cx} {e : Stmt} {t t' : TS} (h : PS X e t) (i : ∀ D σ H, t' D σ H → t D σ H) : PS X e t' := fun pins s σ H D I q => h pins s σ H D I (i D σ H q)
theorem rj.imp {X : Cx} {e : List Stmt} {t t' : TS} (h : rj X e t) (i : ∀ D σ H, t' D σ H → t D σ H) : rj X e t' := fun pins s σ H D I q => h pins s σ H D I (i D σ H q)
section
variable {X : Cx} {Fm : Hp} {σ : St} {H : Hp} {D : su}
theorem lK {P : Hp → Hp → PyData → V → Prop} {f : Fe} {k : aN → PyData → R xk} (h : Bo X Fm (fun ρ => f ρ >>= k ρ) D σ H) :
    ke X P f σ H (fun v H1 => ∃ ρ d, iI Fm H1 σ ρ ∧ aE H H1 ∧ P H H1 d v ∧ Aj X Fm (k ρ d) D) := by
  obtain ⟨ρ, sl, q⟩ := h
  refine ⟨ρ, sl.sl, ?_⟩
  dsimp only at q
  cases e : f ρ with
  | ok d => rw [e] at q; exact fun v H1 s p => ⟨ρ, d, sl.mono s, s, p, q⟩
  | ex c => rw [e] at q; exact q.1.mono sl.fm
  | no => rw [e] at q; exact q
theorem u7 {f : aN → R Bool} {k : aN → Bool → R xk} (h : Bo X Fm (fun ρ => f ρ >>= k ρ) D σ H) : zI X f σ H (fun b H1 => ∃ ρ, iI Fm H1 σ ρ ∧ aE H H1 ∧ Aj X Fm (k ρ b) D) := by
  obtain ⟨ρ, sl, q⟩ := h
  refine ⟨ρ, sl.sl, ?_⟩
  dsimp only at q
  cases e : f ρ with
  | ok d => rw [e] at q; exact fun H1 s => ⟨ρ, sl.mono s, s, q⟩
  | ex c => rw [e] at q; exact q.1.mono sl.fm
  | no => rw [e] at q; exact q
end
def dB : Fs := fun ρ => .ok (.nx ρ)
def vC (h : Fs) : xk → R xk
  | .nx ρ => h ρ
  | o => .ok o
def aT (g h : Fs) : Fs := fun ρ => g ρ >>= vC h
def lI (t : aN → R Bool) (g h : Fs) : Fs := fun ρ => t ρ >>= fun b => if b = true then g ρ else h ρ
def cF (f : Fe) : Fs := fun ρ => f ρ >>= fun d => .ok (.rt d)
def bQ (i : Nat) (f : Fe) : Fs := fun ρ => f ρ >>= fun d => .ok (.nx (ρ.set i (.val d)))
def gH (i : Nat) (f : Fe) : Fs := fun ρ => f ρ >>= fun d => .ok (.nx (ρ.set i (.own d)))
section
variable {X : Cx} {nl : Nat} {G : List Str} {st : Stmt} {sts : List Stmt} {g h : Fs} {f : Fe} {e : Expr} {pos pos' : Pos} {x : Str}
theorem dH : ib X [] dB := fun Fm => rj.imp zD fun D σ H ⟨ρ, sl, q⟩ => q σ H sl
theorem Z.dH  : Z.ib X [] dB :=
  ⟨D2.dH⟩
theorem ao (h1 : fw X st g) (h2 : ib X sts h) : ib X (st :: sts) (aT g h) := fun Fm => by
  refine rj.imp (oS (h1 Fm) (h2 Fm)) fun D σ H ⟨ρ, sl, q⟩ => ⟨ρ, sl, ?_⟩
  unfold aT at q
  cases e : g ρ with
  | ex c => rw [e] at q; exact q
  | no => rw [e] at q; exact q
  | ok o =>
    rw [e] at q
    cases o with
    | nx ρ' => exact fun σ' H' s' => ⟨ρ', s', q⟩
    | rt d => exact q
    | bk ρ' => exact q
    | ct ρ' => exact q
theorem Z.ao (h1 : Z.fw X st g) (h2 : Z.ib X sts h) : Z.ib X (st :: sts) (aT g h) :=
  ⟨D2.ao h1.un h2.un⟩
theorem aF (h1 : fw X st g) : ib X [st] g := fun Fm => vj (h1 Fm)
theorem Z.aF (h1 : Z.fw X st g) : Z.ib X [st] g :=
  ⟨D2.aF h1.un⟩
theorem bh (he : ai X e f) : fw X (.Return (some e) pos) (cF f) := fun Fm =>
  PS.imp (Cy he) fun D σ H h => (lK (P := gR) (f := f) (k := fun _ d => .ok (.rt d)) h).post fun v H1 ⟨ρ, d, sl, _, p, q⟩ => q v H1 sl.fm p
theorem Z.bh (he : Z.ai X e f) : Z.fw X (.Return (some e) pos) (cF f) :=
  ⟨D2.bh he.un⟩
theorem eX {c : Expr} {a b : List Stmt} {t : aN → R Bool} (hc : hZ X c t) (ha : ib X a g) (hb : ib X b h) : fw X (.If c a b pos) (lI t g h) := fun Fm =>
  PS.imp (D8 hc (ha Fm) (hb Fm)) fun D σ H q => (u7 (f := t) (k := fun ρ b => if b = true then g ρ else h ρ) q).post fun b H1 ⟨ρ, sl, _, q⟩ => by
    cases b with
    | true => exact ⟨ρ, sl, q⟩
    | false => exact ⟨ρ, sl, q⟩
theorem Z.eX {c : Expr} {a b : List Stmt} {t : aN → R Bool} (hc : Z.hZ X c t) (ha : Z.ib X a g) (hb : Z.ib X b h) : Z.fw X (.If c a b pos) (lI t g h) :=
  ⟨D2.eX hc.un ha.un hb.un⟩
theorem Sl.set {H : Hp} {σ : St} {ρ : aN} {c : ba} {o : Option V} (h : Sl H σ ρ) (i : Nat) (hc : jE H c o) : Sl H (σ.set i o) (ρ.set i c) := by
  refine ⟨by rw [List.length_set, List.length_set]; exact h.1, fun j c' o' h1 h2 => ?_⟩
  rw [List.getElem?_set] at h1 h2
  by_cases hij : i = j
  · rw [if_pos hij] at h1 h2
    by_cases hi : i < ρ.length
    · rw [if_pos hi] at h1
      rw [if_pos (by rw [h.1]; exact hi)] at h2
      cases h1; cases h2; exact hc
    · rw [if_neg hi] at h1; cases h1
  · rw [if_neg hij] at h1 h2
    exact h.2 j c' o' h1 h2
theorem bV {ρ : aN} {i j : Nat} {c : ba} {d : PyData} (hc : ∀ e, c ≠ .own e) (h : (ρ.set i c)[j]? = some (.own d)) : i ≠ j ∧ ρ[j]? = some (.own d) := by
  rw [List.getElem?_set] at h
  by_cases hij : i = j
  · rw [if_pos hij] at h
    split at h
    · exact absurd (Option.some.inj h) (hc d)
    · cases h
  · rw [if_neg hij] at h; exact ⟨hij, h⟩
theorem iI.set {Fm H : Hp} {σ : St} {ρ : aN} {c : ba} {o : Option V} (h : iI Fm H σ ρ) (i : Nat) (hn : ∀ e, c ≠ .own e) (hc : jE H c o) : iI Fm H (σ.set i o) (ρ.set i c) := by
  refine ⟨h.fm, h.sl.set i hc, fun j d a h1 h2 => ?_, fun j k d e a h1 h2 h3 h4 => ?_⟩
  · obtain ⟨ne, h1⟩ := bV hn h1
    rw [List.getElem?_set, if_neg ne] at h2
    exact h.own j d a h1 h2
  · obtain ⟨ne, h1⟩ := bV hn h1
    obtain ⟨ne', h2⟩ := bV hn h2
    rw [List.getElem?_set, if_neg ne] at h3
    rw [List.getElem?_set, if_neg ne'] at h4
    exact h.apart j k d e a h1 h2 h3 h4
theorem qy {H : Hp} {d : PyData} {v : V} (h : ja H d v) : ∃ a o, v = .ref a ∧ H a = some o := by
  cases d <;> simp only [ja] at h
  · obtain ⟨a, vs, e, ha, _⟩ := h; exact ⟨a, _, e, ha⟩
  · obtain ⟨a, vs, e, ha, _⟩ := h; exact ⟨a, _, e, ha⟩
theorem iI.setOwn {Fm H0 H : Hp} {σ : St} {ρ : aN} {d : PyData} {v : V} (h0 : iI Fm H0 σ ρ) (h : iI Fm H σ ρ) (hs : aE H0 H) (i : Nat) (hn : CT H0 H d v) : iI Fm H (σ.set i (some v)) (ρ.set i (.own d)) := by
  obtain ⟨p, a, rfl, ha⟩ := hn
  have old : ∀ (j : Nat) (e : PyData) (b : Addr), i ≠ j → (ρ.set i (.own d))[j]? = some (.own e) → (σ.set i (some (.ref a)))[j]? = some (some (.ref b)) → ρ[j]? = some (.own e) ∧ σ[j]? = some (some (.ref b)) := fun j e b ne h1 h2 => by
    rw [List.getElem?_set, if_neg ne] at h1 h2
    exact ⟨h1, h2⟩
  have notA : ∀ (j : Nat) (e : PyData), ρ[j]? = some (.own e) → σ[j]? = some (some (.ref a)) → False := fun j e h1 h2 => by
    obtain ⟨u, e1, q⟩ := h0.sl.2 j _ _ h1 h2
    cases e1
    obtain ⟨b, o, e2, hb⟩ := qy q
    cases e2
    rw [ha] at hb; cases hb
  have here : ∀ (b : Addr), (σ.set i (some (.ref a)))[i]? = some (some (.ref b)) → b = a := fun b h2 => by
    rw [List.getElem?_set, if_pos rfl] at h2
    split at h2
    · cases h2; rfl
    · cases h2
  refine ⟨h.fm, h.sl.set i ⟨_, rfl, p⟩, fun j e b h1 h2 => ?_, fun j k e f b h1 h2 h3 h4 => ?_⟩
  · by_cases hij : i = j
    · subst hij
      rw [here b h2]
      exact (h0.fm).free ha
    · obtain ⟨h1, h2⟩ := old j e b hij h1 h2
      exact h.own j e b h1 h2
  · by_cases hij : i = j
    · subst hij
      have eb := here b h3
      by_cases hik : i = k
      · exact hik
      · obtain ⟨h2, h4⟩ := old k f b hik h2 h4
        rw [eb] at h4
        exact (notA k f h2 h4).elim
    · obtain ⟨h1, h3⟩ := old j e b hij h1 h3
      by_cases hik : i = k
      · subst hik
        have eb := here b h4
        rw [eb] at h3
        exact (notA j e h1 h3).elim
      · obtain ⟨h2, h4⟩ := old k f b hik h2 h4
        exact h.apart j k e f b h1 h2 h3 h4
theorem br (T : Tb X nl G) (i : Nat) (hN : (X.N.take nl)[i]? = some x) (he : ai X e f) (hs : swapsWith e (some (.Name x pos')) pos.line X.env = pure false := by rfl) : fw X (.Assign [.Name x pos'] e pos) (bQ i f) := fun Fm => by
  have hm := T.loc x (List.mem_of_getElem? hN)
  have hi : X.N[i]? = some x := by
    rw [List.getElem?_take] at hN
    split at hN
    · exact hN
    · cases hN
  exact PS.imp (zr T.nd hi hm.1 he hs hm.2) fun D σ H h => (lK (P := gR) (f := f) (k := fun ρ d => .ok (.nx (ρ.set i (.val d)))) h).post fun v H1 ⟨ρ, d, sl, _, p, q⟩ =>
    q _ H1 (sl.set i (fun e z => by cases z) ⟨v, rfl, p⟩)
theorem Z.br (T : Tb X nl G) (i : Nat) (hN : (X.N.take nl)[i]? = some x) (he : Z.ai X e f) (hs : swapsWith e (some (.Name x pos')) pos.line X.env = pure false := by rfl) : Z.fw X (.Assign [.Name x pos'] e pos) (bQ i f) :=
  ⟨D2.br T i hN he.un hs⟩
theorem iP (T : Tb X nl G) (i : Nat) (hN : (X.N.take nl)[i]? = some x) (he : gg X e f) (hs : swapsWith e (some (.Name x pos')) pos.line X.env = pure false := by rfl) : fw X (.Assign [.Name x pos'] e pos) (gH i f) := fun Fm => by
  have hm := T.loc x (List.mem_of_getElem? hN)
  have hi : X.N[i]? = some x := by
    rw [List.getElem?_take] at hN
    split at hN
    · exact hN
    · cases hN
  refine PS.imp (zr T.nd hi hm.1 he hs hm.2) fun D σ H h => ?_
  obtain ⟨ρ0, sl0, q0⟩ := h
  refine ⟨ρ0, sl0.sl, ?_⟩
  unfold gH at q0
  cases ef : f ρ0 with
  | ex c => rw [ef] at q0; exact q0.1.mono sl0.fm
  | no => rw [ef] at q0; exact q0
  | ok d =>
    rw [ef] at q0
    exact fun v H1 s p => q0 _ H1 (iI.setOwn sl0 (sl0.mono s) s i p)
theorem Z.iP (T : Tb X nl G) (i : Nat) (hN : (X.N.take nl)[i]? = some x) (he : Z.gg X e f) (hs : swapsWith e (some (.Name x pos')) pos.line X.env = pure false := by rfl) : Z.fw X (.Assign [.Name x pos'] e pos) (gH i f) :=
  ⟨D2.iP T i hN he.un hs⟩
end
structure zu (J : It) (Gd : Hp → Prop) (ds : List PyData) : Prop where
  go : ∀ i H, Gd H → i < ds.length → J.go i H
  yld : ∀ i H x H' d, Gd H → ds[i]? = some d → J.yld i H x H' → aE H H' ∧ Rp H' d x
  stop : ∀ i H, Gd H → ds.length ≤ i → J.stop i H
def Ey (H0 : Hp) (B : Addr → Prop) (Gd : Hp → Prop) : Prop := ∀ H, Kp H0 H → (∀ b o, B b → H0 b = some o → H b = some o) → Gd H
def Fq (X : Cx) (f : aN → R (List PyData)) : TI := fun σ H Rk => ∃ ρ, Sl H σ ρ ∧ match f ρ with
  | .ok ds => ∀ J H', aE H H' → (∃ Gd, zu J Gd ds ∧ Ey H' (fun _ => False) Gd) → Rk J H'
  | .ex c => Xw X c H
  | .no => False
def pc (X : Cx) (tg iter : Expr) (f : aN → R (List PyData)) : Prop := PI X tg iter (Fq X f)
structure Z.pc (X : Cx) (tg iter : Expr) (f : aN → R (List PyData)) : Prop where
  un : D2.pc X tg iter f
def Fr (X : Cx) (b : PyData → aN → Option aN) : TG := fun v σ H Q => ∃ ρ d, Sl H σ ρ ∧ Rp H d v ∧ match b d ρ with
  | some ρ' => ∀ σ', Sl H σ' ρ' → (∀ (i : Nat) (e : PyData), ρ'[i]? = some (.own e) → ρ[i]? = some (.own e) ∧ σ'[i]? = σ[i]?) → Q σ' H
  | none => False
def pB (X : Cx) (tg : Expr) (b : PyData → aN → Option aN) : Prop := PG X tg (Fr X b)
structure Z.pB (X : Cx) (tg : Expr) (b : PyData → aN → Option aN) : Prop where
  un : D2.pB X tg b
def aS (i : Nat) : PyData → aN → Option aN := fun d ρ => some (ρ.set i (.val d))
theorem PG.imp {X : Cx} {e : Expr} {t t' : TG} (h : PG X e t) (i : ∀ v σ H Q, t' v σ H Q → t v σ H Q) : PG X e t' := fun pins s σ H v u Q I r q => h pins s σ H v u Q I r (i v σ H Q q)
theorem PI.imp {X : Cx} {tg e : Expr} {t t' : TI} (h : PI X tg e t) (i : ∀ σ H Q, t' σ H Q → t σ H Q) : PI X tg e t' := fun pins s σ H Q I q => h pins s σ H Q I (i σ H Q q)
section
variable {X : Cx} {nl : Nat} {G : List Str} {x : Str} {pos : Pos}
theorem Tb.nm (T : Tb X nl G) {i : Nat} (hN : (X.N.take nl)[i]? = some x) : X.N[i]? = some x ∧ Ba X.env.scope x ∧ (X.fn x = true ∨ X.env.scope.names.lookup x = some .local) := by
  have hm := T.loc x (List.mem_of_getElem? hN)
  have hi : X.N[i]? = some x := by
    rw [List.getElem?_take] at hN
    split at hN
    · exact hN
    · cases hN
  exact ⟨hi, hm⟩
theorem bz (T : Tb X nl G) (i : Nat) (hN : (X.N.take nl)[i]? = some x) : pB X (.Name x pos) (aS i) := by
  obtain ⟨hi, h1, h2⟩ := T.nm hN
  refine PG.imp (jM T.nd hi h1 h2) fun v σ H Q ⟨ρ, d, sl, p, q⟩ => ?_
  refine q _ (sl.set i ⟨v, rfl, p⟩) fun j e h => ?_
  obtain ⟨ne, h⟩ := bV (fun e z => by cases z) h
  exact ⟨h, by rw [List.getElem?_set, if_neg ne]⟩
theorem Z.bz (T : Tb X nl G) (i : Nat) (hN : (X.N.take nl)[i]? = some x) : Z.pB X (.Name x pos) (aS i) :=
  ⟨D2.bz T i hN⟩
end
def eS (b : PyData → aN → Option aN) (g : Fs) : List PyData → Fs
  | [], ρ => .ok (.nx ρ)
  | d :: ds, ρ => match b d ρ with
    | none => .no
    | some ρ1 => g ρ1 >>= fun o => match o with
      | .nx ρ2 => eS b g ds ρ2
      | .ct ρ2 => eS b g ds ρ2
      | .bk ρ2 => .ok (.nx ρ2)
      | .rt r => .ok (.rt r)
def i9 (it : aN → R (List PyData)) (b : PyData → aN → Option aN) (g : Fs) : Fs := fun ρ => it ρ >>= fun ds => eS b g ds ρ
def stab (Fm H : Hp) : Hp := fun b => match H b with
  | some (.tup xs) => some (.tup xs)
  | some (.frz o u) => some (.frz o u)
  | _ => Fm b
theorem wb {Fm H : Hp} (h : aE Fm H) : aE (stab Fm H) H := fun b o e => by
  unfold stab at e
  split at e
  · rename_i q; rw [q]; exact e
  · rename_i q; rw [q]; exact e
  · exact h b o e
theorem Ay {Fm H : Hp} : Kp H (stab Fm H) := ⟨fun b xs e => by unfold stab; rw [e], fun b o u e => by unfold stab; rw [e]⟩
theorem zT {Fm H : Hp} (h : aE Fm H) : aE Fm (stab Fm H) := fun b o e => by
  have := h b o e
  unfold stab
  split
  · rename_i q; rw [this] at q; exact q.symm
  · rename_i q; rw [this] at q; exact q.symm
  · exact e
theorem iI.stab {Fm H : Hp} {σ : St} {ρ : aN} (h : iI Fm H σ ρ) : iI (stab Fm H) H σ ρ := by
  refine ⟨wb h.fm, h.sl, fun i d a h1 h2 => ?_, h.apart⟩
  have f := h.own i d a h1 h2
  obtain ⟨u, e1, q⟩ := h.sl.2 i _ _ h1 h2
  cases e1
  unfold D2.stab
  cases d <;> simp only [ja] at q
  · obtain ⟨b, vs, e, hb, _⟩ := q; cases e; rw [hb]; exact f
  · obtain ⟨b, vs, e, hb, _⟩ := q; cases e; rw [hb]; exact f
theorem iI.unstab {Fm F H : Hp} {σ : St} {ρ : aN} (hF : aE Fm F) (h : iI F H σ ρ) : iI Fm H σ ρ := ⟨hF.trans h.fm, h.sl, fun i d a h1 h2 => hF.free (h.own i d a h1 h2), h.apart⟩
theorem fX {X : Cx} {tg iter : Expr} {body : List Stmt} {it : aN → R (List PyData)} {b : PyData → aN → Option aN} {g : Fs} {pos : Pos} (hp : PassesOwn (model X.prog X.w) X.A X.env X.xe) (hc : X.calm = true) (hi : pc X tg iter it) (hg : pB X tg b)
    (hb : ib X body g) (hs : ∀ x, foldedSetIterable iter X.env x = pure x := by intro _; rfl) : fw X (.For tg iter body [] pos) (i9 it b g) := fun Fm => by
  intro pins s σ H D I h
  obtain ⟨ρ, sl, q⟩ := h
  unfold i9 at q
  -- the frame: what is stable at the loop's i8 is only known behind the iterator's making: the body is taken at every frame
  refine BR (wi := Fq X it) (g := Fr X b) (tb := fun D' σ' H' => ∃ F, Bo X F g D' σ' H') hp hc hi hg (fun pins' s' σ' H' D' I' ⟨F, q'⟩ => hb F pins' s' σ' H' D' I' q') hs pins s σ H D I ?_
  refine ⟨ρ, sl.sl, ?_⟩
  cases ei : it ρ with
  | ex c => rw [ei] at q; exact q.1.mono sl.fm
  | no => rw [ei] at q; exact q
  | ok ds =>
    rw [ei] at q
    intro J H1 s1 ⟨Gd, idt, sta⟩
    have sl1 := sl.mono s1
    let F := stab Fm H1
    have hF : aE Fm F := zT sl1.fm
    -- the word: so many items are taken, and the dg gives what the whole gives
    refine ⟨fun i m σ' H' => m = ds.length - i ∧ i ≤ ds.length ∧ ∃ ρ', iI F H' σ' ρ' ∧ Aj X Fm (eS b g (ds.drop i) ρ') D, ⟨ds.length, by simp, Nat.zero_le _, ρ, sl1.stab, by simpa using q⟩, ?_⟩
    rintro i m σ2 H2 ⟨rfl, hi', ρ2, sl2, q2⟩
    have gd : Gd H2 := sta H2 (Kp.trans Ay (Kp.of sl2.fm)) fun _ _ z => z.elim
    by_cases hlt : i < ds.length
    · refine .inr ⟨idt.go i H2 gd hlt, fun σ' H' => i + 1 ≤ ds.length ∧ ∃ ρ', iI F H' σ' ρ' ∧ Aj X Fm (eS b g (ds.drop (i + 1)) ρ') D, fun σ' H' ⟨z, p⟩ => ⟨ds.length - (i + 1), by omega, rfl, z, p⟩, fun x H3 y => ?_⟩
      obtain ⟨d, hd⟩ : ∃ d, ds[i]? = some d := ⟨ds[i], List.getElem?_eq_getElem hlt⟩
      obtain ⟨s3, p3⟩ := idt.yld i H2 x H3 d gd hd y
      have hdrop : ds.drop i = d :: ds.drop (i + 1) := by
        rw [List.drop_eq_getElem_cons hlt]
        congr 1
        exact Option.some.inj ((List.getElem?_eq_getElem hlt).symm.trans hd)
      rw [hdrop] at q2
      unfold eS at q2
      have sl3 := sl2.mono s3
      refine ⟨ρ2, d, sl3.sl, p3, ?_⟩
      cases eb : b d ρ2 with
      | none => rw [eb] at q2; exact q2
      | some ρ3 =>
        rw [eb] at q2
        intro σ4 sl4 hown
        refine ⟨F, ρ3, ⟨sl3.fm, sl4, fun j e a h1 h2 => ?_, fun j k e f a h1 h2 h3 h4 => ?_⟩, ?_⟩
        · obtain ⟨z1, z2⟩ := hown j e h1
          exact sl3.own j e a z1 (by rw [← z2]; exact h2)
        · obtain ⟨z1, z2⟩ := hown j e h1
          obtain ⟨z3, z4⟩ := hown k f h2
          exact sl3.apart j k e f a z1 z3 (by rw [← z2]; exact h3) (by rw [← z4]; exact h4)
        · have q3 : Aj X Fm (g ρ3 >>= fun o => match o with
            | .nx ρ2 => eS b g (ds.drop (i + 1)) ρ2
            | .ct ρ2 => eS b g (ds.drop (i + 1)) ρ2
            | .bk ρ2 => .ok (.nx ρ2)
            | .rt r => .ok (.rt r)) D := q2
          cases eg : g ρ3 with
          | ex c => rw [eg] at q3; exact ⟨q3.1.mono hF, q3.2.mono hF⟩
          | no => rw [eg] at q3; exact q3
          | ok o =>
            rw [eg] at q3
            cases o with
            | nx ρ4 => exact fun σ' H' s' => ⟨hlt, ρ4, s', q3⟩
            | ct ρ4 => exact fun σ' H' s' => ⟨hlt, ρ4, s', q3⟩
            | bk ρ4 => exact fun σ' H' s' => q3 σ' H' (s'.unstab hF)
            | rt r => exact fun v H' s' p' => q3 v H' (hF.trans s') p'
    · have e : i = ds.length := by omega
      subst e
      refine .inl ⟨idt.stop _ H2 gd (Nat.le_refl _), ?_⟩
      rw [List.drop_length] at q2
      exact q2 σ2 H2 (sl2.unstab hF)
theorem Z.fX {X : Cx} {tg iter : Expr} {body : List Stmt} {it : aN → R (List PyData)} {b : PyData → aN → Option aN} {g : Fs} {pos : Pos} (hp : PassesOwn (model X.prog X.w) X.A X.env X.xe) (hc : X.calm = true) (hi : Z.pc X tg iter it) (hg : Z.pB X tg b) (hb : Z.ib X body g) (hs : ∀ x, foldedSetIterable iter X.env x = pure x := by intro _; rfl) : Z.fw X (.For tg iter body [] pos) (i9 it b g) :=
  ⟨D2.fX hp hc hi.un hg.un hb.un hs⟩
def dF (n : Nat) (g : Fs) : List PyData → R PyData := fun ds => g (ds.map ba.val ++ List.replicate (n - ds.length) .non) >>= fun o => match o with
  | .rt d => .ok d
  | .nx _ => .ok .none
  | _ => .no
def di (F : List PyData → R PyData) (n : Nat) : Sp := fun vs H Q E => ∃ ds, bw H ds vs ∧ ds.length = n ∧ match F ds with
  | .ok d => ∀ v H', aE H H' → Rp H' d v → Q v H'
  | .ex c => ∀ H', aE H H' → E (.str c 0) none H'
  | .no => False
theorem yO {H : Hp} {N : List Str} : ∀ {ds : List PyData} {vs : List V}, bw H ds vs → Sl H (L2.i8 N vs) (ds.map ba.val ++ List.replicate (N.length - ds.length) .non) := fun {ds vs} r => by
  have hl := r.length
  refine ⟨by unfold L2.i8; rw [List.length_append, List.length_append, List.length_map, List.length_map, List.length_replicate, List.length_replicate, hl], fun i c o h1 h2 => ?_⟩
  by_cases hi : i < ds.length
  · rw [List.getElem?_append_left (by simpa using hi), List.getElem?_map] at h1
    cases e : ds[i]? with
    | none => rw [e] at h1; cases h1
    | some d =>
      rw [e] at h1
      cases h1
      obtain ⟨v, e1, p⟩ := r.get e
      unfold L2.i8 at h2
      rw [List.getElem?_append_left (by rw [List.length_map, hl]; exact hi), List.getElem?_map, e1] at h2
      cases h2
      exact ⟨v, rfl, p⟩
  · rw [List.getElem?_append_right (by simpa using hi), List.getElem?_replicate] at h1
    split at h1
    · cases h1; exact True.intro
    · cases h1
section
variable {P : Program} {w : World} {H : Hp} {h : Heap} {a : Addr}
theorem qY : ∀ {o : HO}, bR P w H h a o → ∃ u, h.get? a = some u
  | .lst xs, x => by obtain ⟨_, _, _, _, e⟩ := x; exact ⟨_, e⟩
  | .tup xs, x => by obtain ⟨_, _, _, o, e, _⟩ := x; exact ⟨_, e⟩
  | .dK kvs, x => by obtain ⟨_, _, _, _, o, _, _, e, _⟩ := x; exact ⟨_, e⟩
  | .dT kvs, x => by obtain ⟨_, _, _, _, o, _, _, e, _⟩ := x; exact ⟨_, e⟩
  | .set S n, x => by obtain ⟨o, _, _, _, e, _⟩ := x; exact ⟨_, e⟩
  | .ins C dx fs, x => by obtain ⟨_, _, _, e, _⟩ := x; exact ⟨_, e⟩
  | .own y, x => by obtain ⟨_, e⟩ := x; exact ⟨_, e⟩
  | .xd fs, x => by obtain ⟨_, ⟨_, _, _, e, _⟩, _⟩ := x; exact ⟨_, e⟩
  | .rng lo hi, x => by obtain ⟨_, _, _, e⟩ := x; exact ⟨_, e⟩
  | .frz ob u, x => by obtain ⟨e, _⟩ := x; exact ⟨_, e⟩
  | .tbl ps, x => ⟨_, (show h.get? a = some _ from x)⟩
  | .met f y, x => ⟨_, (show h.get? a = some _ from x)⟩
  | .ext φ, x => by obtain ⟨_, ⟨_, e⟩, _⟩ := x; exact ⟨_, e⟩
end
theorem qL.un {P : Program} {w : World} {outer : List Env} {H H' : Hp} {s s' : Shared} {C : Addr} {e : Value} (f : qL P w outer H s C H' e s') : Un (lJ outer) [] H H' s.heap s'.heap := by
  obtain ⟨p, a0, B, _, fl, ok, _, cov⟩ := f.ex
  refine ⟨fun b o q n hb _ => fl.1 _ _ (cov b o q n hb).1, fun b o q n hb _ => (f.slot b o q n hb).1, fun b o q n _ => ?_, fun b o q _ => ?_, fun b xs q => f.same _ _ q, fun b o u q => f.same _ _ q, fun b ps q => ⟨#[], by rw [f.same _ _ q]; simp⟩⟩
  · by_cases hb : b ∈ lJ outer
    · exact (f.slot b o q n hb).2
    · exact (cov b o q n hb).2
  · cases n : H b with
    | none =>
      by_cases hb : b ∈ lJ outer
      · obtain ⟨sl, z⟩ := (f.slot b o q n hb).1; exact ⟨_, z⟩
      · exact ⟨o, fl.1 _ _ (cov b o q n hb).1⟩
    | some u =>
      obtain ⟨o', z⟩ := qY (ok b u (f.same _ _ n))
      exact ⟨o', fl.1 _ _ z⟩
theorem qL.hok {P : Program} {w : World} {outer : List Env} {H H' : Hp} {s s' : Shared} {C : Addr} {e : Value} (f : qL P w outer H s C H' e s') : il P w H' s'.heap := by
  obtain ⟨p, a0, B, _, fl, ok, _, _⟩ := f.ex
  exact ok.kept fun b u q => fl.1 b u q
theorem Cz.un {P : Program} {w : World} {outer : List Env} {H H' : Hp} {s s' : Shared} {C : Addr} {e : Value} (f : Cz P w outer H s C H' e s') : Un (lJ outer) [] H H' s.heap s'.heap := f.hld.un
theorem qL.inv {X : Cx} {pins : List (Addr × Obj)} {σ : St} {Hc H1 : Hp} {sc s' : Shared} {C : Addr} {e : Value} (f : qL X.prog X.w X.stack Hc sc C H1 e s') (I : aM X pins σ Hc sc) : aM X pins σ H1 s' :=
  I.call' f.os f.un f.hok f.bare fun b z => absurd z (by simp)
section
variable {P : Program} {w : World} {l : List Env} {H H' : Hp} {s s' : Shared} {C p : Addr} {e : Value}
theorem qL.again {a0 : Value} {B h' : Heap} (f : qL P w l H s C H' e s') (t : sE B l p (.ref C) a0 s'.heap) (t' : sE B l p (.ref C) a0 h') (up : s'.heap.UpToSlots h') (okB : il P w H' B) (hp : H' p = none)
    (cov : ∀ b o, s.heap.get? b = some o → H b = none → b ∉ lJ l → B.get? b = some o ∧ H' b = none) : qL P w l H s C H' (.ref p) { s' with heap := h' } := by
  refine ⟨f.os, f.bare, f.same, ⟨p, a0, B, rfl, t', okB, hp, cov⟩, fun b o q n hb => ?_⟩
  obtain ⟨⟨sl, q2⟩, n2⟩ := f.slot b o q n hb
  obtain ⟨_, o3, q3, nf⟩ := t.2.2.1.mem hb
  rw [q2] at q3
  cases q3
  obtain ⟨sl3, q4⟩ := up b _ q2 nf
  exact ⟨⟨sl3, q4⟩, n2⟩
theorem xM {x : Value} {env env0 : Env} (h : env.frame = env0.frame) : noteFrame x env = noteFrame x env0 := by
  unfold noteFrame PySem.frameOf
  rw [h]
theorem qL.note {M : Model} {A : Around} {E : Value → Shared → Prop} {Q : Unit → Shared → Prop} {env env0 : Env} {outer : List Env} {L : Addr} (f : qL P w l H s C H' e s') (hl : l = env0 :: outer) (hfr : A.frames = some l) (h0 : env0.frame = some L) (h1 : env.frame = some L)
    (k : ∀ h', qL P w l H s C H' e { s' with heap := h' } → s'.heap.UpToSlots h' → Q () { s' with heap := h' }) : wpAny M A (noteFrame e env) Q E s' := by
  subst hl
  obtain ⟨p, a0, B, rfl, t, okB, hp, cov⟩ := f.ex
  rw [xM (h1.trans h0.symm)]
  exact sv hfr h0 t fun h' t' up => k h' (f.again t t' up okB hp cov) up
theorem qL.pass {α : Type} {M : Model} {A : Around} {E : Value → Shared → Prop} {Q : α → Shared → Prop} {env : Env} {what : String} (f : qL P w l H s C H' e s') (k : ∀ h', qL P w l H s C H' e { s' with heap := h' } → E e { s' with heap := h' }) : wpAny M A (PySem.passOn what e env : Sem α) Q E s' := by
  obtain ⟨p, a0, B, rfl, t, okB, hp, cov⟩ := f.ex
  exact yn t fun h' t' up => k h' (f.again t t' up okB hp cov)
end
section
variable {P : Program} {w : World} {K : PySem.W.Frag} {mg : Str → Option Value} {base : Heap} {N : List Str} {qual : Str} {sc : Scope} {f : Addr} {cdv : Value} {A : Around} {outer : List Env} {s : Shared} {H : Hp} {E : XK} {c : Str}
theorem BL (h : ∀ H', aE H H' → E (.str c 0) none H') : Xw (fT (cI P w mg) P w K mg base N qual sc f cdv A outer s H E) c H := by
  intro H1 s1 C hm pins σ Hc sc' e s' I fl
  obtain ⟨p, a0, B, rfl, fly, okB, hp, cov⟩ := fl.ex
  have old : ∀ b o, s.heap.get? b = some o → b ≠ s.heap.objs.size := fun b o q => Nat.ne_of_lt (Heap.lt_size q)
  refine vY I.ok.frames rfl fly fun h' fl' up => ⟨c, C, H1, hm, ⟨fl.os.trans I.os, fl.bare, s1, ⟨p, a0, B, rfl, fl', okB, hp, fun b o q n hb => ?_⟩, fun b o q n hb => ?_⟩, h H1 s1⟩
  · have q1 := I.base.keep b o q n hb (by simp [fT])
    have n1 := I.base.free b o q n (by simp [fT])
    refine cov b o q1 n1 fun z => ?_
    have z' : b ∈ (s.heap.objs.size :: lJ outer) := z
    rcases List.mem_cons.mp z' with z2 | z2
    · exact old b o q z2
    · exact hb z2
  · obtain ⟨sl, q1⟩ := I.base.slot b o q n hb (by simp [fT])
    have n1 := I.base.free b o q n (by simp [fT])
    have hb' : b ∈ lJ (fT (cI P w mg) P w K mg base N qual sc f cdv A outer s H E).stack := List.mem_cons_of_mem _ hb
    obtain ⟨⟨sl', q2⟩, n2⟩ := fl.slot b _ q1 n1 hb'
    obtain ⟨_, o3, q3, nf⟩ := fly.2.2.1.mem hb'
    rw [q2] at q3
    cases q3
    obtain ⟨sl3, q4⟩ := up b _ q2 nf
    exact ⟨⟨sl3, q4⟩, n2⟩
theorem A3 (h : ∀ H', aE H H' → E (.str c 0) none H') : Dy (fT (cI P w mg) P w K mg base N qual sc f cdv A outer s H E) c H := by
  intro C hm pins σ Hm sm sH I h' p vs hx
  have hin : ∀ env ∈ (fT (cI P w mg) P w K mg base N qual sc f cdv A outer s H E).stack, ∀ b, env.frame = some b → b ∈ lJ (fT (cI P w mg) P w K mg base N qual sc f cdv A outer s H E).stack := fun env he b hb => List.mem_filterMap.mpr ⟨env, he, hb⟩
  have old : ∀ b o, s.heap.get? b = some o → b ≠ s.heap.objs.size := fun b o q => Nat.ne_of_lt (Heap.lt_size q)
  refine wpAny_leaves_madeW (s := { sm with heap := h' }) (base := PySem.W.hideAll sm.heap (lJ (fT (cI P w mg) P w K mg base N qual sc f cdv A outer s H E).stack)) I.ok.frames rfl (fun b o q => PySem.W.of_hideAll _ q) (PySem.W.funFrames_hide I.stack hin) hx fun h'' t fl' _ _ up =>
    ⟨c, C, Hm, hm, ⟨I.os, I.bare, sH, ⟨p, .ref t, _, rfl, fl', fun b u q => ?_, ?_, fun b o q n hb => ?_⟩, fun b o q n hb => ?_⟩, h Hm sH⟩
  · refine (I.hok b u q).stay (fun c' v hc z => PySem.W.hideAll_get _ z fun m => ?_) (fun _ z => z) fun _ _ z => z
    have hn := I.stkFree c' m
    rcases hc with rfl | hc
    · rw [hn] at q; cases q
    · rw [hn] at hc; cases hc
  · cases q : Hm p with
    | none => rfl
    | some u =>
      obtain ⟨o', z⟩ := qY (I.hok p u q)
      rw [hx.new] at z; cases z
  · have q1 := I.base.keep b o q n hb (by simp [fT])
    have n1 := I.base.free b o q n (by simp [fT])
    refine ⟨PySem.W.hideAll_get _ q1 fun z => ?_, n1⟩
    have z' : b ∈ (s.heap.objs.size :: lJ outer) := z
    rcases List.mem_cons.mp z' with z2 | z2
    · exact old b o q z2
    · exact hb z2
  · obtain ⟨sl, q1⟩ := I.base.slot b o q n hb (by simp [fT])
    have n1 := I.base.free b o q n (by simp [fT])
    have hb' : b ∈ lJ (fT (cI P w mg) P w K mg base N qual sc f cdv A outer s H E).stack := List.mem_cons_of_mem _ hb
    obtain ⟨_, o3, q3, nf⟩ := I.stack.mem hb'
    rw [q1] at q3
    cases q3
    obtain ⟨sl3, q4⟩ := up b _ (hx.keeps _ _ q1) nf
    exact ⟨⟨sl3, q4⟩, n1⟩
end
theorem qP {P : Program} {w : World} {K : PySem.W.Frag} {mg : Str → Option Value} {base : Heap} {x qual : Str} {st : Stmt} {f : Addr} {fd : FuncData} {N ps : List Str} {k : Nat} {g : Fs} (F : ig K x qual st f fd) (S : aQ N ps (ah st))
    (body : ∀ (cdv : Value) (A : Around) (outer : List Env) (s : Shared) (H : Hp) (E : XK), eJ k (A.deeper (envOfC qual (ah st) s.heap.objs.size f cdv)) →
      ib (fT (cI P w mg) P w K mg base N qual (ah st) f cdv A outer s H E) (dR st) g) : aY P w K mg base (cI P w mg) (k + 1) f fd ps (di (dF N.length g) ps.length) := by
  obtain ⟨oc, od, kV, doc, pm, an, cdv, ct, osl, rfl, lk, hcd⟩ := F.ex
  refine zh lk hcd S (fun vs H Q E ⟨ds, r, hl, _⟩ => by rw [r.length]; exact hl) fun A outer s H vs Q E hr h => ?_
  obtain ⟨ds, r, hl, q⟩ := h
  have noOwn : ∀ (i : Nat) (d : PyData), (ds.map ba.val ++ List.replicate (N.length - ds.length) ba.non)[i]? = some (.own d) → False := fun i d h1 => by
    by_cases hi : i < ds.length
    · rw [List.getElem?_append_left (by simpa using hi), List.getElem?_map] at h1
      cases e : ds[i]? with
      | none => rw [e] at h1; cases h1
      | some d => rw [e] at h1; cases h1
    · rw [List.getElem?_append_right (by simpa using hi), List.getElem?_replicate] at h1
      split at h1
      · cases h1
      · cases h1
  refine ⟨_, body cdv A outer s H E hr H, _, ⟨aE.refl _, yO r, fun i d a h1 h2 => (noOwn i d h1).elim, fun i j d e a h1 h2 h3 h4 => (noOwn i d h1).elim⟩, ?_⟩
  unfold dF at q
  cases eg : g (ds.map ba.val ++ List.replicate (N.length - ds.length) .non) with
  | ex c => rw [eg] at q; exact ⟨BL q, A3 q⟩
  | no => rw [eg] at q; exact q.elim
  | ok o =>
    rw [eg] at q
    cases o with
    | rt d => exact fun v H' s' p => q v H' s' p
    | nx ρ => exact fun σ' H' s' => q .non H' s'.fm (by simp only [Rp])
    | bk ρ => exact q.elim
    | ct ρ => exact q.elim
def aI (F : List PyData → R PyData) (fs : aN → R (List PyData)) : Fe := fun ρ => fs ρ >>= F
theorem AX {X : Cx} {k n : Nat} {f : Addr} {fd : FuncData} {ps : List Str} {F : List PyData → R PyData} {x : Str} {p pos : Pos} {e : Expr} {es : List Expr} {fs : aN → R (List PyData)} {nl : Nat} {G : List Str}
    (C : aY X.prog X.w X.K X.mg X.base (cI X.prog X.w X.mg) k f fd ps (di F n)) (hr : eJ k X.A) (T : Tb X nl G) (j : Nat) (hG : G[j]? = some x) (hm : X.mg x = some (.ref f)) (hk : PySem.W.keepIn X.K (.ref f) = true) (hb : i4 X.K fd ps []) (ha : pE X (e :: es) fs)
    (hlen : (e :: es).length = n) (hfs : ∀ ρ ds, fs ρ = .ok ds → ds.length = n)
    (he : (e :: es).all aw = true := by rfl) : ai X (.Call (.Name x p) (e :: es) [] pos) (aI F fs) := by
  rw [List.all_cons, Bool.and_eq_true] at he
  have g := T.gl x (List.mem_of_getElem? hG)
  refine PE.imp (Ag C hr g.1 hm hk hb .nil vS ha g.2.1 (bg he.1) (nP he.2)) fun σ H Q ⟨ρ, sl, q⟩ => ?_
  refine ⟨ρ, sl, ?_⟩
  unfold aI at q
  cases e1 : fs ρ with
  | ex c => rw [e1] at q; exact q
  | no => rw [e1] at q; exact q
  | ok ds =>
    rw [e1] at q
    intro vs H1 s1 r1
    rw [List.append_nil]
    refine ⟨ds, n4.mp r1, hfs ρ ds e1, ?_⟩
    have q' : uJ X gR (F ds) H Q := q
    cases e2 : F ds with
    | ok d => rw [e2] at q'; exact fun v H' s' p' => q' v H' (s1.trans s') p'
    | ex c => rw [e2] at q'; exact fun H' s' => Xw.ex q' H' (s1.trans s')
    | no => rw [e2] at q'; exact q'
theorem ar : ∀ ρ ds, aH ρ = .ok ds → ds.length = 0 := fun ρ ds e => by cases e; rfl
theorem ae {f : Fe} {g : aN → R (List PyData)} {n : Nat} (h : ∀ ρ ds, g ρ = .ok ds → ds.length = n) : ∀ ρ ds, af f g ρ = .ok ds → ds.length = n + 1 := fun ρ ds e => by
  unfold af at e
  cases e1 : f ρ with
  | ex c => rw [e1] at e; cases e
  | no => rw [e1] at e; cases e
  | ok d =>
    rw [e1] at e
    cases e2 : g ρ with
    | ex c => rw [e2] at e; cases e
    | no => rw [e2] at e; cases e
    | ok ds' => rw [e2] at e; cases e; rw [List.length_cons, h ρ ds' e2]
theorem tj {scope : Scope} {env : Env} (h : ∀ x ∈ scope.names, x.2 = .free → ∃ c, env.cells.lookup x.1 = some c) :
    ∃ cl, closureFor scope env = pure cl ∧ (∀ x c, cl.lookup x = some c → env.cells.lookup x = some c) ∧ ∀ x ∈ scope.names, x.2 = .free → ∃ c, cl.lookup x.1 = some c := by
  suffices gen : ∀ (names : List (Str × NameKind)) (acc : List (Str × Addr)), (∀ x ∈ names, x.2 = .free → ∃ c, env.cells.lookup x.1 = some c) → (∀ x c, acc.lookup x = some c → env.cells.lookup x = some c) →
      ∃ cl, (forIn names acc fun x r => if (x.snd == NameKind.free) = true then do let a ← cellOf env x.fst; pure (ForInStep.yield ((x.fst, a) :: r)) else pure (ForInStep.yield r) : Sem (List (Str × Addr))) = pure cl ∧
        (∀ x c, cl.lookup x = some c → env.cells.lookup x = some c) ∧ (∀ x c, acc.lookup x = some c → ∃ c', cl.lookup x = some c') ∧ ∀ x ∈ names, x.2 = .free → ∃ c, cl.lookup x.1 = some c by
    obtain ⟨cl, h1, h2, _, h4⟩ := gen scope.names [] h fun x c e => by simp at e
    refine ⟨cl, ?_, h2, h4⟩
    simp only [closureFor]
    rw [h1]
    rfl
  intro names
  induction names with
  | nil => intro acc _ ha; exact ⟨acc, rfl, ha, fun x c e => ⟨c, e⟩, fun x hx => by cases hx⟩
  | cons y r ih =>
    intro acc hn ha
    obtain ⟨n, k⟩ := y
    by_cases hk : k = .free
    · subst hk
      obtain ⟨c, hc⟩ := hn (n, .free) List.mem_cons_self rfl
      obtain ⟨cl, e1, e2, e3, e4⟩ := ih ((n, c) :: acc) (fun x hx => hn x (List.mem_cons_of_mem _ hx)) (fun x c' e => by
        rw [List.lookup_cons] at e
        split at e
        · rename_i q
          have : x = n := by simpa using q
          subst this; cases e; exact hc
        · exact ha x c' e)
      refine ⟨cl, ?_, e2, fun x c' e => ?_, fun x hx hf => ?_⟩
      · rw [List.forIn_cons]
        have : cellOf env n = pure c := by unfold cellOf; rw [hc]
        simp only [beq_self_eq_true, if_true, this, pure_bind]
        exact e1
      · by_cases hx : x = n
        · subst hx; exact e3 x c (by rw [List.lookup_cons]; simp)
        · have hb : (x == n) = false := by simpa using hx
          exact e3 x c' (by rw [List.lookup_cons, hb]; exact e)
      · rcases List.mem_cons.mp hx with rfl | hx
        · exact e3 n c (by rw [List.lookup_cons]; simp)
        · exact e4 x hx hf
    · obtain ⟨cl, e1, e2, e3, e4⟩ := ih acc (fun x hx => hn x (List.mem_cons_of_mem _ hx)) ha
      refine ⟨cl, ?_, e2, e3, fun x hx hf => ?_⟩
      · rw [List.forIn_cons]
        have : (k == NameKind.free) = false := by simpa using hk
        simp only [this, Bool.false_eq_true, if_false, pure_bind]
        exact e1
      · rcases List.mem_cons.mp hx with rfl | hx
        · exact absurd hf hk
        · exact e4 x hx hf
def DN (env : Env) (p : Str × NameKind) : NameKind := if (p.2 == .free && env.scope.kind == .function && env.kindOf p.1 == some .cell) = true then .cell else p.2
theorem pe (scope : Scope) (env : Env) : (relabel scope env).names = scope.names.map fun p => (p.1, DN env p) := by
  unfold relabel
  refine List.map_congr_left fun p _ => ?_
  obtain ⟨n, k⟩ := p
  unfold DN
  dsimp only
  split <;> rfl
theorem mL (g : Str × NameKind → NameKind) (x : Str) : ∀ l : List (Str × NameKind), (l.map fun p => (p.1, g p)).lookup x = (l.lookup x).map fun k => g (x, k)
  | [] => rfl
  | (n, k) :: r => by
    rw [List.map_cons]
    cases hx : x == n with
    | true =>
      have e : x = n := by simpa using hx
      subst e
      simp
    | false =>
      have ne : ¬ x = n := by simpa using hx
      simp only [List.lookup_cons, hx]
      exact mL g x r
theorem kz (scope : Scope) (env : Env) (x : Str) : (relabel scope env).names.lookup x = (scope.names.lookup x).map fun k => DN env (x, k) := by
  rw [pe]; exact mL _ _ _
theorem e9 {scope : Scope} {env : Env} {x : Str} {k : NameKind} (h : scope.names.lookup x = some k) (hk : k ≠ .free) : (relabel scope env).names.lookup x = some k := by
  rw [kz, h]
  have : (k == NameKind.free) = false := by simpa using hk
  simp only [DN, this, Bool.false_and, Bool.false_eq_true, if_false, Option.map_some]
theorem lD {scope : Scope} {env : Env} {x : Str} (h : scope.names.lookup x = some .free) : (relabel scope env).names.lookup x = some .free ∨ (relabel scope env).names.lookup x = some .cell := by
  rw [kz, h]
  unfold DN
  dsimp only [Option.map_some]
  split
  · exact .inr rfl
  · exact .inl rfl
theorem rO {scope : Scope} {env : Env} {x : Str} (hc : ∀ y ∈ scope.names, y.2 ≠ .cell) (h : (relabel scope env).names.lookup x = some .free ∨ (relabel scope env).names.lookup x = some .cell) : (x, NameKind.free) ∈ scope.names := by
  cases e : scope.names.lookup x with
  | none =>
    rw [kz, e] at h
    rcases h with h | h <;> cases h
  | some k =>
    by_cases hk : k = .free
    · subst hk; exact PySem.mem_of_lookup e
    · exfalso
      have := e9 (env := env) e hk
      rw [this] at h
      rcases h with h | h
      · cases h; exact hk rfl
      · cases h; exact hc _ (PySem.mem_of_lookup e) rfl
def bc (X : Cx) (N : List Str) (scope : Scope) (cl : List (Str × Addr)) (C : Addr) (s : Shared) (H : Hp) (fp : List Addr) (E : Value → Shared → Prop := fun _ _ => False) : Cx :=
  { X with N := N, s₀ := s, H₀ := H, env := compEnvC scope cl C X.env, outer := X.stack, stack := X.stack, ex := fp, fn := fun _ => false, pn := [], xe := E }
def fB (sc : Scope) (N : List Str) (own : Nat) (G : List Str) (oN : List Str) (fr : List Nat) : Prop :=
  sc.kind = .function ∧ (∀ y ∈ sc.names, y.2 ≠ .cell) ∧ (∀ y ∈ sc.names, y.2 = .local → sc.names.lookup y.1 = some .local) ∧ N.Nodup ∧ (∀ x ∈ N.take own, sc.names.lookup x = some .local) ∧ (∀ x ∈ N.drop own, sc.names.lookup x = some .free) ∧
  (∀ x ∈ N, (x == ("__debug__" : Str)) = false ∧ (x == ("__classdict__" : Str)) = false) ∧ (∀ x ∈ G, sc.names.lookup x = some .globalImplicit ∧ (x == ("__debug__" : Str)) = false ∧ x ≠ ("__name__" : Str)) ∧
  own ≤ N.length ∧ (N.drop own).map some = fr.map fun i => oN[i]?
instance {sc : Scope} {N : List Str} {own : Nat} {G oN : List Str} {fr : List Nat} : Decidable (fB sc N own G oN fr) := by unfold fB; infer_instance
theorem zW {X : Cx} {nl : Nat} {G0 : List Str} (T : Tb X nl G0) {sc : Scope} {N : List Str} {own : Nat} {G oN : List Str} {fr : List Nat} (ck : fB sc N own G oN fr) (cl : List (Str × Addr)) (C : Addr) (s : Shared) (H : Hp) (fp : List Addr) :
    Tb (bc X N sc cl C s H fp) own G := by
  obtain ⟨_, _, _, nd, l, f, db, g, _, _⟩ := ck
  refine ⟨T.hu, T.calm, nd, fun x hx => ?_, fun x hx => ?_, fun x hx => ?_⟩
  · refine ⟨?_, db x hx⟩
    have hx' : x ∈ N.take own ++ N.drop own := by rw [List.take_append_drop]; exact hx
    rcases List.mem_append.mp hx' with z | z
    · exact .inl (e9 (l x z) (by decide))
    · rcases lD (env := X.env) (f x z) with q | q
      · exact .inr (.inr q)
      · exact .inr (.inl q)
  · have q := e9 (env := X.env) (l x hx) (by decide)
    exact ⟨.inl q, .inr q⟩
  · obtain ⟨g1, g2, g3⟩ := g x hx
    exact ⟨e9 (env := X.env) g1 (by decide), g2, g3⟩
theorem xz {X : Cx} {nl : Nat} {G0 : List Str} (T : Tb X nl G0) {sc : Scope} {N : List Str} {own : Nat} {G oN : List Str} {fr : List Nat} (ck : fB sc N own G oN fr) (cl : List (Str × Addr)) (C : Addr) (s : Shared) (H : Hp) (fp : List Addr) (E : Value → Shared → Prop) :
    Tb (bc X N sc cl C s H fp E) own G := let T1 := zW T ck cl C s H fp; ⟨T1.hu, T1.calm, T1.nd, T1.vis, T1.loc, T1.gl⟩
def Fy (X : Cx) (ifs : List Expr) (t : TT) : Prop :=
  ∀ (pins : List (Addr × Obj)) (s : Shared) (σ : St) (H : Hp) (Q : Bool → Hp → Prop), aM X pins σ H s → t σ H Q → wpAny (model X.prog X.w) X.A (forIn ifs true fun c r => if r = true then do let ok ← isTrue c X.env (eval c X.env); pure (ForInStep.yield ok) else pure (ForInStep.yield r))
    (TP X pins σ Q) X.xe s
def tx (X : Cx) (ifs : List Expr) (t : aN → R Bool) : Prop := Fy X ifs (zI X t)
structure Z.tx (X : Cx) (ifs : List Expr) (t : aN → R Bool) : Prop where
  un : D2.tx X ifs t
theorem dq {X : Cx} : tx X [] (fun _ => .ok true) := fun pins s σ H Q I ⟨ρ, sl, q⟩ => wpAny_tests_nil ⟨H, I, q H (aE.refl _)⟩
theorem Z.dq {X : Cx} : Z.tx X [] (fun _ => .ok true) :=
  ⟨D2.dq⟩
theorem gu {X : Cx} {c : Expr} {t : aN → R Bool} (h : hZ X c t) : tx X [c] t := fun pins s σ H Q I q => wpAny_tests_one (h pins s σ H Q I q)
theorem Z.gu {X : Cx} {c : Expr} {t : aN → R Bool} (h : Z.hZ X c t) : Z.tx X [c] t :=
  ⟨D2.gu h.un⟩
def bE (b : PyData → aN → Option aN) (t : aN → R Bool) (f : Fe) (ρ : aN) : List PyData → R (List PyData)
  | [] => .ok []
  | d :: ds => match b d ρ with
    | none => .no
    | some ρ1 => t ρ1 >>= fun k => if k = true then f ρ1 >>= fun x => bE b t f ρ ds >>= fun xs => .ok (x :: xs) else bE b t f ρ ds
def aB (own : Nat) (fr : List Nat) (ρ : aN) : aN := List.replicate own .non ++ fr.map fun i => ρ.getD i .non
def mH {α : Type} : R α → R α
  | .ex _ => .no
  | r => r
def bL (it : aN → R (List PyData)) (own : Nat) (fr : List Nat) (b : PyData → aN → Option aN) (t : aN → R Bool) (f : Fe) : Fe := fun ρ =>
  mH (it ρ) >>= fun ds => if ds.length ≤ sizeLine then match bE b t f (aB own fr ρ) ds with
    | .ok xs => .ok (.list xs)
    | .ex c => .ex c
    | .no => .no
  else .no
def hW (own : Nat) (fr : List Nat) (σ : St) : St := List.replicate own none ++ fr.map fun i => (σ[i]?).join
theorem AF {H : Hp} {σ : St} {ρ : aN} (h : Sl H σ ρ) (own : Nat) (fr : List Nat) (hin : ∀ i ∈ fr, i < ρ.length) : Sl H (hW own fr σ) (aB own fr ρ) := by
  refine ⟨by simp [hW, aB], fun i c o h1 h2 => ?_⟩
  unfold aB at h1
  unfold hW at h2
  by_cases hi : i < own
  · rw [List.getElem?_append_left (by simpa using hi), List.getElem?_replicate, if_pos hi] at h1
    cases h1; exact True.intro
  · rw [List.getElem?_append_right (by simpa using hi), List.getElem?_map, List.length_replicate] at h1 h2
    cases e : fr[i - own]? with
    | none => rw [e] at h1; cases h1
    | some j =>
      rw [e] at h1 h2
      have hj := hin j (List.mem_of_getElem? e)
      have hj' : j < σ.length := by rw [h.1]; exact hj
      cases h1; cases h2
      refine h.2 j _ _ ?_ ?_
      · show ρ[j]? = some (ρ.getD j .non)
        rw [List.getD_eq_getElem?_getD, List.getElem?_eq_getElem hj]; rfl
      · show σ[j]? = some ((σ[j]?).join)
        rw [List.getElem?_eq_getElem hj']; rfl
section
variable {X : Cx} {pins : List (Addr × Obj)} {σ : St} {H : Hp} {s : Shared} {nl : Nat} {G0 : List Str} {sc : Scope} {N : List Str} {own : Nat} {G : List Str} {fr : List Nat} {cl : List (Str × Addr)} {fp : List Addr} {a C : Addr} {h4 : Heap} {t4 : Nat} {m : Str → Option Value}
theorem yp (I : aM X pins σ H s) (ck : fB sc N own G X.N fr) (hf : ∀ b ∈ fp, mh X pins H b) (hob : ∀ b ∈ fp, b < s.heap.objs.size) (hcl1 : ∀ x c, cl.lookup x = some c → X.env.cells.lookup x = some c) (hcl2 : ∀ x ∈ sc.names, x.2 = .free → ∃ c, cl.lookup x.1 = some c)
    (vis : ∀ x ∈ X.N, CH X.env.scope x) (hout : ∀ y ∈ sc.names, y.2 = .free → X.env.kindOf y.1 = some .cell ∨ X.env.kindOf y.1 = some .free)
    (ha : s.heap.objs.size ≤ a) (hC : s.heap.objs.size ≤ C) (hac : a ≠ C) (keep : ∀ b o, s.heap.get? b = some o → h4.get? b = some o) (hl : h4.get? a = some { cls := .type "list", data := .seq #[] 0 }) (hn : h4.Ns C m) :
    aM (bc X N sc cl C s H fp) [] (hW own fr σ) (cm H a (.lst [])) { s with heap := h4, toks := t4 } := by
  obtain ⟨ck1, ck2, ck3, nd, l, f, db, g, ol, ofr⟩ := ck
  have hHa : H a = none := I.hok.fresh ha
  have hHC : H C = none := I.hok.fresh hC
  have lt : ∀ {b : Addr} {o : Obj}, s.heap.get? b = some o → b < s.heap.objs.size := fun e => Heap.lt_size e
  have cellLt : ∀ x c, cl.lookup x = some c → c < s.heap.objs.size := fun x c e => by
    obtain ⟨v, q⟩ := I.cell x c (hcl1 x c e)
    exact q.lt
  refine ⟨⟨I.ok.mod, ck1, I.ok.glob, I.ok.blt, hC, fun x y c h1 h2 => I.ok.inj x y c (hcl1 x c h1) (hcl1 y c h2), fun x hx => ?_, fun x c hx => (Bool.false_ne_true hx).elim, I.ok.hd, I.ok.frames, .inl rfl, fun b hb => ⟨?_, fun x c e => ?_⟩, I.bs, Nat.le_trans I.ok.bsz I.sz, fun b o e hb => ?_, fun b hb hs => ?_, I.stack, I.stkFree⟩,
    rfl, I.bare, Un.laid keep ha hHa, ⟨m, hn, fun i x v h1 h2 h3 => ?_⟩, fun x c e => ?_, ?_, fun x c e => ?_, fun p hp => ?_, ?_, ?_⟩
  · have q := rO (env := X.env) ck2 (show (relabel sc X.env).names.lookup x = some .free ∨ (relabel sc X.env).names.lookup x = some .cell from hx.elim .inr .inl)
    exact hcl2 _ q rfl
  · exact Nat.ne_of_lt (Nat.lt_of_lt_of_le (hob b hb) hC)
  · exact (hf b hb).2.2.2.2.1 x c (hcl1 x c e)
  · rcases (hf b hb).2.2.2.1 with z | z
    · exact I.ok.noex b o e z
    · exact absurd (Nat.lt_of_lt_of_le (Heap.lt_size e) I.ok.bsz) (Nat.not_lt.mpr z)
  · rcases List.mem_cons.mp (I.stkSub b hs) with z | z
    · exact (hf b hb).2.1 z
    · exact (hf b hb).2.2.1 z
  · -- a captured name
    have hi : ¬ i < own := fun hi => by
      unfold hW at h2
      rw [List.getElem?_append_left (by simpa using hi), List.getElem?_replicate, if_pos hi] at h2
      cases h2
    unfold hW at h2
    rw [List.getElem?_append_right (by simpa using hi), List.getElem?_map, List.length_replicate] at h2
    cases e : fr[i - own]? with
    | none => rw [e] at h2; cases h2
    | some j =>
      rw [e] at h2
      have h2' : (σ[j]?).join = some v := Option.some.inj h2
      have hσ : σ[j]? = some (some v) := by
        cases q : σ[j]? with
        | none => rw [q] at h2'; cases h2'
        | some o => rw [q] at h2'; exact congrArg some h2'
      have hx : (N.drop own)[i - own]? = some x := by
        rw [List.getElem?_drop]
        have : own + (i - own) = i := by omega
        rw [this]; exact h1
      have hj : X.N[j]? = some x := by
        have q := congrArg (fun l => l[i - own]?) ofr
        simp only [List.getElem?_map, hx, e, Option.map_some] at q
        exact (Option.some.inj q).symm
      have hfree := f x (List.mem_of_getElem? hx)
      obtain ⟨c, hc⟩ := hcl2 _ (PySem.mem_of_lookup hfree) rfl
      have hXc := hcl1 x c hc
      obtain ⟨m0, hn0, hl0⟩ := I.loc
      obtain ⟨u, ru, lk⟩ := hl0 j x v hj hσ (vis x (List.mem_of_getElem? hj))
      have ko := hout _ (PySem.mem_of_lookup hfree) rfl
      refine ⟨u, ru, .inr ⟨(lD (env := X.env) hfree).symm, c, hc, ?_⟩⟩
      rcases lk with ⟨k1, _⟩ | ⟨_, c', e1, ob, q1, q2⟩
      · exfalso
        rcases ko with k | k <;> (rw [k] at k1; cases k1)
      · rw [hXc] at e1
        cases e1
        exact ⟨ob, keep _ _ q1, q2⟩
  · obtain ⟨v, o, q, d⟩ := I.cell x c (hcl1 x c e)
    exact ⟨v, o, keep _ _ q, d⟩
  · show cm H a (.lst []) C = none
    rw [au (Ne.symm hac)]; exact hHC
  · have q := I.freeC x c (hcl1 x c e)
    show cm H a (.lst []) c = none
    rw [au (Nat.ne_of_lt (Nat.lt_of_lt_of_le (cellLt x c e) ha))]; exact q
  · exact absurd (show p ∈ ([] : List (Addr × Obj)) from hp) (by simp)
  · exact I.hok.laid keep ha ⟨Nat.zero_le _, [], 0, .nil, hl⟩
  · show (hW own fr σ).length = N.length
    have q := congrArg List.length ofr
    rw [List.length_map, List.length_map, List.length_drop] at q
    unfold hW
    rw [List.length_append, List.length_replicate, List.length_map]
    omega
end
def mV (ρ0 ρ1 : aN) : Prop := ρ1.length = ρ0.length ∧ ∀ (i : Nat) (c : ba), ρ0[i]? = some c → c = .non ∨ ρ1[i]? = some c
theorem Sl.unfit {H : Hp} {σ : St} {ρ0 ρ1 : aN} (h : Sl H σ ρ1) (f : mV ρ0 ρ1) : Sl H σ ρ0 := by
  refine ⟨h.1.trans f.1, fun i c o h1 h2 => ?_⟩
  rcases f.2 i c h1 with rfl | q
  · exact True.intro
  · exact h.2 i c o q h2
def xt (H0 : Hp) (σ : St) (ρ : aN) : Prop := ∀ (i : Nat) (e : PyData), ρ[i]? = some (.own e) → ∃ v, σ[i]? = some (some v) ∧ ja H0 e v
theorem v8 {X : Cx} {J : It} {tn : Nat → Heap → Prop} {it a : Addr} {fp : List Addr} {tg iter elt : Expr} {ifs : List Expr} {scope : Scope} {pos : Pos} {b : PyData → aN → Option aN} {t : aN → R Bool} {f : Fe} {ds : List PyData} {r : R (List PyData)} {Gd : Hp → Prop} {H0 : Hp} {ρ0 : aN}
    {Rk : Result → Shared → Prop} (T : sN X.prog X.w X.K tg J fp it tn) (calm : X.calm = true) (hfp : ∀ H : Hp, (∀ b ∈ fp, H b = none) → ∀ b ∈ fp, mh X [] H b) (hxe : ∀ e s', X.xe e s' → notedBy (model X.prog X.w) X.A X.env (fun x s' => Rk (.error x) s') e s') (hX : ∀ c, r = .ex c → Xw X c H0) (hno : r ≠ .no) (hg : pB X tg b) (ht : tx X ifs t) (hf : ai X elt f)
    (idt : zu J Gd ds) (sta : Ey H0 (fun _ => False) Gd) (hsz : ds.length ≤ sizeLine) (ha0 : H0 a = none) (hb0 : ∀ d ρ1, b d ρ0 = some ρ1 → mV ρ0 ρ1)
    (fin : ∀ xs s' σ' H' vs, r = .ok xs → aM X [] σ' H' s' → aE H0 H' → H' a = some (.lst vs) → bw H' xs vs → Rk (.ok .next) s') :
    ∀ {s : Shared} {σ : St} {H : Hp}, aM X [] σ H s → tn 0 s.heap → (∀ b ∈ fp, H b = none) → aE H0 H → H a = some (.lst []) → bE b t f ρ0 ds = r → Sl H σ ρ0 → xt H0 σ ρ0 →
      codeAny (model X.prog X.w) X.A (.compLoop (.ListComp elt [⟨tg, iter, ifs, 0⟩] scope pos) 0 (.ref it) (.ref a) X.env) Rk s := by
  intro s σ H I st fr s0 hla hc sl ow
  refine codeAny_loop rfl (fun n s => ∃ i acc σ H vs, n = ds.length - i ∧ i ≤ ds.length ∧ acc.length ≤ i ∧ aM X [] σ H s ∧ tn i s.heap ∧ (∀ b ∈ fp, H b = none) ∧ aE H0 H ∧ H a = some (.lst vs) ∧ bw H acc vs ∧ (bE b t f ρ0 (ds.drop i) >>= fun dg => .ok (acc ++ dg)) = r ∧
    Sl H σ ρ0 ∧ xt H0 σ ρ0) (fun n s hI => ?_) ds.length ⟨0, [], σ, H, [], by simp, Nat.zero_le _, Nat.le_refl _, I, st, fr, s0, hla, bw.nil, by rw [List.drop_zero, hc]; cases r <;> rfl, sl, ow⟩
  clear I st fr s0 hla hc sl ow
  obtain ⟨i, acc, σ, H, vs, rfl, hi, hal, I, st, fr, s0, hla, ra, hc, sl, ow⟩ := hI
  show wpAny _ X.A ((compTurn (.ListComp elt [⟨tg, iter, ifs, 0⟩] scope pos) 0 (.ref it) (.ref a) X.env).onRaise (fun x => do noteFrame x X.env; theTreesLotGoes x)) _ _ s
  refine wpAny_noted ?_
  rw [compTurn_list]
  have gd : Gd H := sta H (Kp.of s0) fun _ _ z => z.elim
  have noex : ∀ {α : Type} {m : Sem α} {Q Q' : α → Shared → Prop} {s : Shared}, wpAny (model X.prog X.w) X.A m Q X.xe s → (∀ v s, Q v s → Q' v s) → wpAny (model X.prog X.w) X.A m Q' (notedBy (model X.prog X.w) X.A X.env (fun x s' => Rk (.error x) s')) s := fun h k =>
    wpAny_mono h k hxe
  by_cases hlt : i < ds.length
  · obtain ⟨d, hd⟩ : ∃ d, ds[i]? = some d := ⟨ds[i], List.getElem?_eq_getElem hlt⟩
    have hdrop : ds.drop i = d :: ds.drop (i + 1) := by
      rw [List.drop_eq_getElem_cons hlt]
      congr 1
      exact Option.some.inj ((List.getElem?_eq_getElem hlt).symm.trans hd)
    rw [hdrop] at hc
    unfold bE at hc
    refine wpAny_bind (wpAny_standAt (wpAny_bind (cQ (T.item X rfl rfl rfl calm i [] s σ H _ I (hfp H fr) st (idt.go i H gd hlt)) fun r s1 ⟨u, hr, h1⟩ => ?_)))
    subst hr
    refine wpAny_bind (cQ h1 fun _ s2 ⟨x, H2, I2, r2, y2, st2, fr2⟩ => ?_)
    obtain ⟨s02, p2⟩ := idt.yld i H x H2 d gd hd y2
    have I2' := I2.pinned (hfp H2 fr2) (T.obj _ _ st2)
    have back : ∀ {σ' : St} {H' : Hp} {s' : Shared}, aM X ([] ++ oo fp s2.heap) σ' H' s' → aM X [] σ' H' s' ∧ tn (i + 1) s'.heap ∧ ∀ b ∈ fp, H' b = none := fun {σ' H' s'} J' =>
      ⟨J'.unpinned, T.keep _ _ _ st2 fun b hb o e => (J'.pin (b, o) (List.mem_append_right _ (List.mem_append_right _ (iQ hb e)))).1, fun b hb => by
        obtain ⟨o, e, _⟩ := T.obj _ _ st2 b hb
        exact (J'.pin (b, o) (List.mem_append_right _ (List.mem_append_right _ (iQ hb e)))).2.1⟩
    cases eb : b d ρ0 with
    | none => rw [eb] at hc; exact absurd hc.symm hno
    | some ρ1 =>
      rw [eb] at hc
      dsimp only at hc
      have hfit := hb0 d ρ1 eb
      refine wpAny_bind (noex (hg _ s2 σ H2 x u (fun σ' H' => H' = H2 ∧ Sl H2 σ' ρ1 ∧ ∀ (i : Nat) (e : PyData), ρ1[i]? = some (.own e) → ρ0[i]? = some (.own e) ∧ σ'[i]? = σ[i]?) I2' r2 ⟨ρ0, d, sl.mono s02, p2, by rw [eb]; exact fun σ' sl' w' => ⟨rfl, sl', w'⟩⟩) fun _ s3 ⟨σ3, H3, I3, e3, sl3, w3⟩ => ?_)
      subst e3
      have ow3 : xt H0 σ3 ρ0 := fun j e h => by
        obtain ⟨v, z1, z2⟩ := ow j e h
        rcases hfit.2 j _ h with z | z
        · cases z
        · exact ⟨v, by rw [(w3 j e z).2]; exact z1, z2⟩
      cases et : t ρ1 with
      | no => rw [et] at hc; exact absurd hc.symm hno
      | ex c =>
        rw [et] at hc
        exact wpAny_bind (noex (ht _ s3 σ3 H3 (fun _ _ => False) I3 ⟨ρ1, sl3, by rw [et]; exact (hX c hc.symm).mono (s0.trans s02)⟩) fun ok s4 ⟨H4, I4, z⟩ => z.elim)
      | ok k =>
        rw [et] at hc
        refine wpAny_bind (noex (ht _ s3 σ3 H3 (fun b' H' => b' = k ∧ aE H3 H') I3 ⟨ρ1, sl3, by rw [et]; exact fun H' s' => ⟨rfl, s'⟩⟩) fun ok s4 ⟨H4, I4, e4, s34⟩ => ?_)
        subst e4
        have s04 := (s0.trans s02).trans s34
        have hla4 : H4 a = some (.lst vs) := s34 _ _ (s02 _ _ hla)
        have ra4 : bw H4 acc vs := (ra.mono s02).mono s34
        cases ok with
        | false =>
          obtain ⟨J1, J2, J3⟩ := back I4
          have hc' : (bE b t f ρ0 (ds.drop (i + 1)) >>= fun dg => .ok (acc ++ dg)) = r := hc
          exact wpAny_pure ⟨rfl, ds.length - (i + 1), by omega, i + 1, acc, σ3, H4, vs, rfl, hlt, by omega, J1, J2, J3, s04, hla4, ra4, hc', (sl3.unfit hfit).mono s34, ow3⟩
        | true =>
          have hc' : ((f ρ1 >>= fun x => bE b t f ρ0 (ds.drop (i + 1)) >>= fun xs => .ok (x :: xs)) >>= fun dg => .ok (acc ++ dg)) = r := hc
          cases ef : f ρ1 with
          | no => rw [ef] at hc'; exact absurd hc'.symm hno
          | ex c =>
            rw [ef] at hc'
            exact wpAny_bind (wpAny_bind (noex (hf _ s4 σ3 H4 (fun _ _ => False) I4 ⟨ρ1, sl3.mono s34, by rw [ef]; exact (hX c hc'.symm).mono s04⟩) fun yv s5 ⟨v5, H5, I5, r5, z⟩ => z.elim))
          | ok y =>
              rw [ef, R.ok_bind] at hc'
              have hc2 : (bE b t f ρ0 (ds.drop (i + 1)) >>= fun dg => .ok ((acc ++ [y]) ++ dg)) = r := by
                rw [← hc']
                cases bE b t f ρ0 (ds.drop (i + 1)) with
                | ok dg => simp only [R.ok_bind, List.append_assoc, List.singleton_append]
                | ex c => rfl
                | no => rfl
              refine wpAny_bind (wpAny_bind (noex (hf _ s4 σ3 H4 (fun v H' => aE H4 H' ∧ Rp H' y v) I4 ⟨ρ1, sl3.mono s34, by rw [ef]; exact fun v H' s' p' => ⟨s', p'⟩⟩) fun yv s5 ⟨v5, H5, I5, r5, s45, p5⟩ => ?_))
              have hla5 : H5 a = some (.lst vs) := s45 _ _ hla4
              have hlen : vs.length < sizeLine := by
                rw [ra.length]; omega
              refine wpAny_bind (noex (pU _ s5 σ3 H5 (.ref a) [v5] (.ref a) [yv] (fun _ H' => H' = cm H5 a (.lst (vs ++ [v5]))) I5 rfl (.cons r5 .nil) ⟨a, vs, v5, rfl, rfl, hla5, hlen, rfl⟩) fun _ s6 ⟨v6, H6, I6, r6, e6⟩ => ?_)
              subst e6
              obtain ⟨J1, J2, J3⟩ := back I6
              have kp : Kp H5 (cm H5 a (.lst (vs ++ [v5]))) := gz hla5 (.inl ⟨_, rfl⟩)
              have s06 : aE H0 (cm H5 a (.lst (vs ++ [v5]))) := fun b o e => by
                rw [au (aR e ha0)]; exact (s04.trans s45) b o e
              refine wpAny_pure (wpAny_pure ⟨rfl, ds.length - (i + 1), by omega, i + 1, acc ++ [y], σ3, _, vs ++ [v5], rfl, hlt, by rw [List.length_append, List.length_singleton]; omega, J1, J2, J3, s06, bd, ?_, hc2, ?_, ow3⟩)
              · exact bw.append (bw.kp kp _ _ (ra4.mono s45)) (bw.cons (Rp.kp kp _ _ p5) bw.nil)
              · have sl5 : Sl H5 σ3 ρ0 := ((sl3.unfit hfit).mono s34).mono s45
                refine ⟨sl5.1, fun j c o h1 h2 => ?_⟩
                cases c with
                | exc p => exact sl5.2 j _ o h1 h2
                | non => exact True.intro
                | val d' =>
                  obtain ⟨v', z1, z2⟩ := sl5.2 j _ o h1 h2
                  exact ⟨v', z1, Rp.kp kp _ _ z2⟩
                | own e' =>
                  obtain ⟨v', z1, z2⟩ := ow3 j e' h1
                  rw [z1] at h2
                  cases h2
                  exact ⟨v', rfl, z2.mono s06⟩
  · have e : i = ds.length := by omega
    subst e
    rw [List.drop_length] at hc
    have hr' : r = .ok acc := by rw [← hc]; simp only [bE, R.ok_bind, List.append_nil]
    refine wpAny_bind (wpAny_standAt (wpAny_bind (cQ (T.done X rfl rfl rfl calm _ [] s σ H _ I (hfp H fr) st (idt.stop _ H gd (Nat.le_refl _))) fun r s1 ⟨hr, I1⟩ => ?_)))
    subst hr
    exact wpAny_pure (fin acc s1 σ H vs hr' I1 s0 hla ra)
theorem il.but {P : Program} {w : World} {H : Hp} {h1 h2 : Heap} {C : Addr} (ok : il P w H h1) (hC : H C = none) (sb : ∀ b o, b ≠ C → h1.get? b = some o → h2.get? b = some o) : il P w H h2 := fun a o e =>
  (ok a o e).stay (fun b u hb q => sb b u (by
    rcases hb with rfl | hb
    · exact aR e hC
    · exact aR hb hC) q) (fun _ q => q) fun _ _ q => q
theorem km {h h' base : Heap} {C : Addr} (tp : ∀ b o, b ≠ C → h.get? b = some o → h'.get? b = some o) : ∀ {l : List Env}, C ∉ lJ l → h.FunFrames base l → h'.FunFrames base l
  | [], _, _ => trivial
  | env :: l, hC, ⟨hk, ⟨L, o, hf, hn, ho, hd⟩, hr⟩ => ⟨hk, ⟨L, o, hf, hn, tp L o (fun z => hC (List.mem_filterMap.mpr ⟨env, List.mem_cons_self, by rw [hf, z]⟩)) ho, hd⟩, km tp (fun z => hC (by
    obtain ⟨e, he, hz⟩ := List.mem_filterMap.mp z
    exact List.mem_filterMap.mpr ⟨e, List.mem_cons_of_mem _ he, hz⟩)) hr⟩
theorem ly {X : Cx} {tg iter elt : Expr} {ifs : List Expr} {sc : Scope} {pos pos' : Pos} {it : aN → R (List PyData)} {b : PyData → aN → Option aN} {t : aN → R Bool} {f : Fe} {N : List Str} {own : Nat} {G G0 : List Str} {fr : List Nat} {nl : Nat}
    (T : Tb X nl G0) (ck : fB sc N own G X.N fr) (hout : ∀ y ∈ sc.names, y.2 = .free → X.env.kindOf y.1 = some .cell ∨ X.env.kindOf y.1 = some .free) (hi : pc X tg iter it)
    (hb0 : ∀ ρ d ρ1, b d (aB own fr ρ) = some ρ1 → mV (aB own fr ρ) ρ1)
    (hbody : ∀ cl C s H fp E, Tb (bc X N sc cl C s H fp E) own G → pB (bc X N sc cl C s H fp E) tg b ∧ tx (bc X N sc cl C s H fp E) ifs t ∧ ai (bc X N sc cl C s H fp E) elt f)
    (hs : ∀ x, foldedSetIterable iter X.env x = pure x) {use : Option (Value → Sem Unit)} {Qc : Value → Shared → Prop} {pins : List (Addr × Obj)} {s : Shared} {σ : St} {H : Hp} (I : aM X pins σ H s) {ρ : aN} {ds : List PyData} {r : R (List PyData)} (sl : Sl H σ ρ) (ei : it ρ = .ok ds)
    (hsz : ds.length ≤ sizeLine) (ec : bE b t f (aB own fr ρ) ds = r) (hX : ∀ c, r = .ex c → Xw X c H) (hno : r ≠ .no) (hstk : ∃ env0 outer0 L, X.stack = env0 :: outer0 ∧ env0.frame = some L ∧ X.env.frame = some L)
    (fin : ∀ (xs : List PyData) (a C : Addr) (H' : Hp) (s' : Shared) (m : Str → Option Value) (vs : List V), r = .ok xs → aM X pins σ H' s' → mh X pins H' C → s'.heap.Ns C m → aE H H' → H a = none → H' a = some (.lst vs) → bw H' xs vs → compPost (model X.prog X.w) X.A X.xe use Qc (.ref a) C (.ok .next) s') :
    wpAny (model X.prog X.w) X.A (comprehension (.ListComp elt [⟨tg, iter, ifs, 0⟩] sc pos) sc X.env pos' (newList []) false (eval iter X.env) use) Qc X.xe s := by
  obtain ⟨cl, hcl, hcl1, hcl2⟩ := tj (scope := sc) (env := X.env) fun x hx hf => I.ok.has _ (hout x hx hf)
  have ck' := ck
  obtain ⟨ck1, ck2, ck3, _, _, _, _, _, _, ofr⟩ := ck'
  have hin : ∀ i ∈ fr, i < ρ.length := fun i hi => by
    have e1 : ρ.length = X.N.length := by rw [← sl.1]; exact I.len
    rw [e1]
    obtain ⟨k, hk⟩ := List.getElem?_of_mem hi
    have q := congrArg (fun l => l[k]?) ofr
    simp only [List.getElem?_map, hk, Option.map_some] at q
    cases z : (N.drop own)[k]? with
    | none => rw [z] at q; cases q
    | some y =>
      rw [z] at q
      have q' : some y = X.N[i]? := Option.some.inj q
      exact (List.getElem?_eq_some_iff.mp q'.symm).1
  refine wpAny_comprehension_free (use := use) rfl hs hcl ck1 ck3 ?_
  refine cQ (hi pins s σ H (fun J H1 => aE H H1 ∧ ∃ Gd, zu J Gd ds ∧ Ey H1 (fun _ => False) Gd) I ⟨ρ, sl, by rw [ei]; exact fun J H1 s1 z => ⟨s1, z⟩⟩) fun xv s1 h1 => cQ h1 fun itv s2 h2 => ?_
  obtain ⟨itA, fp, tn, J, H2, e, I2, T2, st2, f2, s02, Gd, idt, sta⟩ := h2
  subst e
  refine wpAny_newObj_type (wpAny_newFunctionEnv ck2 (by intro y hy; simp at hy) (fun h₁ hns₁ hsb₁ => ?_) ck1)
  dsimp only at hns₁ hsb₁ ⊢
  generalize hHp : s2.heap.push { cls := .type "list", dict := none, data := .seq ([] : List Value).toArray } = Hp2 at hns₁ hsb₁ ⊢
  have hC : Hp2.objs.size = s2.heap.objs.size + 1 := by rw [← hHp, Heap.size_push]
  have hDC : s2.heap.objs.size ≠ Hp2.objs.size := by rw [hC]; exact Nat.ne_of_lt (Nat.lt_succ_self _)
  have hCle : s2.heap.objs.size ≤ Hp2.objs.size := by rw [hC]; exact Nat.le_succ _
  have below : ∀ b, b < s2.heap.objs.size → b ≠ Hp2.objs.size := fun b hb => by rw [hC]; exact Nat.ne_of_lt (Nat.lt_succ_of_lt hb)
  have old : ∀ b o, s2.heap.get? b = some o → h₁.get? b = some o := fun b o e => hsb₁.extBut b o (below b (Heap.lt_size e)) (Heap.get?_push_of_some _ (hHp ▸ Heap.get?_push_of_some _ e))
  have hacc : h₁.get? s2.heap.objs.size = some { cls := .type "list", dict := none, data := .seq ([] : List Value).toArray } := hsb₁.extBut _ _ hDC (Heap.get?_push_of_some _ (hHp ▸ Heap.get?_push_size _ rfl))
  have hob : ∀ b ∈ fp, b < s2.heap.objs.size := fun b hb => by
    obtain ⟨o, e, _⟩ := T2.obj _ _ st2 b hb
    exact Heap.lt_size e
  have sl2 : Sl H2 σ ρ := sl.mono s02
  have IC : aM (bc X N sc cl Hp2.objs.size s2 H2 fp) [] (hW own fr σ) (cm H2 s2.heap.objs.size (.lst [])) { s2 with heap := h₁, toks := s2.toks + ([] : List (Str × Value)).length } :=
    yp I2 ck f2 hob hcl1 hcl2 (fun x hx => (T.vis x hx).1) hout (Nat.le_refl _) hCle hDC old hacc hns₁
  let E : Value → Shared → Prop := fun e s' => ∃ c Ce pins' σ' H' s1 H1, r = .ex c ∧ X.mg c = some (.ref Ce) ∧ aM (bc X N sc cl Hp2.objs.size s2 H2 fp) pins' σ' H' s1 ∧ aE H2 H1 ∧ qL X.prog X.w X.stack H' s1 Ce H1 e s'
  obtain ⟨hg, ht, hf⟩ := hbody cl Hp2.objs.size s2 H2 fp E (xz T ck cl Hp2.objs.size s2 H2 fp E)
  have ha0 : H2 s2.heap.objs.size = none := I2.hok.fresh (Nat.le_refl _)
  have hfp : ∀ H' : Hp, (∀ b ∈ fp, H' b = none) → ∀ b ∈ fp, mh (bc X N sc cl Hp2.objs.size s2 H2 fp E) [] H' b := fun H' hn b hb =>
    ⟨hn b hb, below b (hob b hb), fun z => by
      rcases List.mem_cons.mp (I2.stkSub b z) with y | y
      · exact (f2 b hb).2.1 y
      · exact (f2 b hb).2.2.1 y, .inl hb, fun x c e => (f2 b hb).2.2.2.2.1 x c (hcl1 x c e), fun p hp => absurd (show p ∈ ([] : List (Addr × Obj)) from hp) (by simp)⟩
  have st3 : tn 0 h₁ := T2.keep _ _ _ st2 fun b _ o e => old b o e
  have slC : Sl H2 (hW own fr σ) (aB own fr ρ) := AF sl2 own fr hin
  have fin' : ∀ xs s' σ' H' vs, r = .ok xs → aM (bc X N sc cl Hp2.objs.size s2 H2 fp E) [] σ' H' s' → aE H2 H' → H' s2.heap.objs.size = some (.lst vs) → bw H' xs vs →
      compPost (model X.prog X.w) X.A X.xe use Qc (.ref s2.heap.objs.size) Hp2.objs.size (.ok .next) s' := fun xs s' σ' H' vs hr J' s2' hv rv => by
    obtain ⟨m, hn, _⟩ := J'.loc
    exact fin xs _ _ H' s' m vs hr (I2.call' (s' := s') (ch := fp) J'.os J'.base J'.hok J'.bare (fun b hb => ⟨(f2 b hb).2.2.2.1, (f2 b hb).2.1, (f2 b hb).2.2.2.2.1, (f2 b hb).2.2.2.2.2⟩)) (I2.fpOk hCle J'.free) hn (s02.trans s2') (s02.free ha0) hv rv
  have hXc : ∀ c, r = .ex c → Xw (bc X N sc cl Hp2.objs.size s2 H2 fp E) c H2 := fun c hr H1 s1 Ce hm pins' σ' H' s1' e s' J f =>
    ⟨c, Ce, pins', σ', H', s1', H1, hr, hm, J.unwish, s1, f⟩
  have hxe : ∀ e s', E e s' → notedBy (model X.prog X.w) X.A (compEnvC sc cl Hp2.objs.size X.env) (fun x s' => compPost (model X.prog X.w) X.A X.xe use Qc (.ref s2.heap.objs.size) Hp2.objs.size (.error x) s') e s' := fun e s' hE => by
    obtain ⟨c, Ce, pins', σ', H', s1, H1, hr, hm, J, same1, f⟩ := hE
    obtain ⟨env0, outer0, L, k1, k2, k3⟩ := hstk
    refine f.note k1 I.ok.frames k2 k3 fun h4 f4 up => ?_
    obtain ⟨m, hn, _⟩ := (f4.inv (X := bc X N sc cl Hp2.objs.size s2 H2 fp) J).loc
    refine ⟨m, hn, fun h5 sb cenv _ => ?_⟩
    have fC := I2.fpOk hCle J.free
    have fC1 : H1 Hp2.objs.size = none := (f4.inv (X := bc X N sc cl Hp2.objs.size s2 H2 fp) J).free
    have nfr : Hp2.objs.size ∉ lJ X.stack := fun z => by
      rcases List.mem_cons.mp (I2.stkSub _ z) with y | y
      · exact fC.2.1 y
      · exact fC.2.2.1 y
    have Io := I2.call' (s' := s1) (ch := fp) J.os J.base J.hok J.bare (fun b hb => ⟨(f2 b hb).2.2.2.1, (f2 b hb).2.1, (f2 b hb).2.2.2.2.1, (f2 b hb).2.2.2.2.2⟩)
    have Io2 : aM X pins σ H' { s1 with heap := PySem.W.hideAll s1.heap [Hp2.objs.size], toks := s1.toks } := by
      obtain ⟨g0, g1, g2, g3, g4, g5⟩ := fC
      exact Io.turned (t' := s1.toks) (fun b o hb q => PySem.W.hideAll_get _ q (by simpa using hb)) g0 g1 g3 g4 g5
    obtain ⟨p, a0, B, rfl, t, okB, hp, cov⟩ := f4.ex
    have stB : (PySem.W.hideAll B [Hp2.objs.size]).StaysIn B := fun b o q => PySem.W.of_hideAll _ q
    have hid : ∀ {h : Heap} {b : Addr} {o : Obj}, (PySem.W.hideAll h [Hp2.objs.size]).get? b = some o → b ≠ Hp2.objs.size := fun {h b o} q z => by
      rw [PySem.W.hideAll_none _ (by rw [z]; exact List.mem_singleton.mpr rfl)] at q; cases q
    have tp : ∀ b o, b ≠ Hp2.objs.size → h4.get? b = some o → h5.get? b = some o := fun b o hb q => (sb.2 b hb).trans q
    have ne_e : p ≠ Hp2.objs.size := fun z => by
      obtain ⟨oe, vs, q1, _, q2, _⟩ := t.first
      obtain ⟨o, es, ep, q3, q4, _⟩ := hn
      have q3' : h4.get? Hp2.objs.size = some o := q3
      rw [← z, q1] at q3'
      cases q3'
      rw [q2] at q4
      cases q4
    have f5 : qL X.prog X.w X.stack H' { s1 with heap := PySem.W.hideAll s1.heap [Hp2.objs.size], toks := s1.toks } Ce H1 (.ref p) { s' with heap := h5 } := by
      refine ⟨f4.os, f4.bare, f4.same, ⟨p, a0, PySem.W.hideAll B [Hp2.objs.size], rfl, ?_, ?_, hp, fun b o q n hb => ?_⟩, fun b o q n hb => ?_⟩
      · obtain ⟨t1, t2, t3, fl, oe, vs, T', oT, ts, a1, a2, a3, a4, a5, a6, a7, a8, a9⟩ := t
        refine ⟨fun b o q => tp b o (hid q) (t1 b o (stB b o q)), PySem.W.fresh_of_stays stB t2, km tp nfr (PySem.W.funFrames_base stB t3), fl, oe, vs, T', oT, ts, tp _ _ ne_e a1, a2, a3, a4, PySem.W.fresh_of_stays stB a5, a6, tp _ _ ?_ a7, a8, a9⟩
        intro z
        obtain ⟨o, es, ep, q3, q4, _⟩ := hn
        have q3' : h4.get? Hp2.objs.size = some o := q3
        have a7' : h4.get? T' = some oT := a7
        rw [← z, a7'] at q3'
        cases q3'
        rw [a8] at q4
        cases q4
      · exact il.but okB fC1 fun b o hb q => PySem.W.hideAll_get _ q (by simpa using hb)
      · obtain ⟨z1, z2⟩ := cov b o (PySem.W.of_hideAll _ q) n hb
        exact ⟨PySem.W.hideAll_get _ z1 (by simpa using hid q), z2⟩
      · obtain ⟨⟨sl', z1⟩, z2⟩ := f4.slot b o (PySem.W.of_hideAll _ q) n hb
        exact ⟨⟨sl', tp b _ (hid q) z1⟩, z2⟩
    refine f5.pass fun h6 f6 => ?_
    exact hX c hr H1 (s02.trans same1) Ce hm pins σ H' _ _ _ Io2 f6
  have loop := v8 (X := bc X N sc cl Hp2.objs.size s2 H2 fp E) (iter := iter) (scope := sc) (pos := pos) T2 T.calm hfp hxe hXc hno hg ht hf idt sta hsz ha0 (fun d ρ1 e => hb0 ρ d ρ1 e) fin' (IC.wish E) st3 (fun b hb => by
      show cm H2 s2.heap.objs.size (.lst []) b = none
      rw [au (Nat.ne_of_lt (hob b hb))]; exact (f2 b hb).1) (ce ha0 _) bd ec (slC.mono (ce ha0 _)) (fun i e h => by
      obtain ⟨o, z1, v, rfl, z2⟩ := slC.at h
      exact ⟨v, z1, z2⟩)
  exact codeAny_compStart_list loop (T2.self _ 0 _ _ _ st3 loop)
theorem o1 {X : Cx} {tg iter elt : Expr} {ifs : List Expr} {sc : Scope} {pos : Pos} {it : aN → R (List PyData)} {b : PyData → aN → Option aN} {t : aN → R Bool} {f : Fe} {N : List Str} {own : Nat} {G G0 : List Str} {fr : List Nat} {nl : Nat}
    (T : Tb X nl G0) (ck : fB sc N own G X.N fr) (hout : ∀ y ∈ sc.names, y.2 = .free → X.env.kindOf y.1 = some .cell ∨ X.env.kindOf y.1 = some .free) (hi : pc X tg iter it)
    (hb0 : ∀ ρ d ρ1, b d (aB own fr ρ) = some ρ1 → mV (aB own fr ρ) ρ1)
    (hbody : ∀ cl C s H fp E, Tb (bc X N sc cl C s H fp E) own G → pB (bc X N sc cl C s H fp E) tg b ∧ tx (bc X N sc cl C s H fp E) ifs t ∧ ai (bc X N sc cl C s H fp E) elt f)
    (hs : ∀ x, foldedSetIterable iter X.env x = pure x := by intro _; rfl) (hstk : ∃ env0 outer0 L, X.stack = env0 :: outer0 ∧ env0.frame = some L ∧ X.env.frame = some L := by exact ⟨_, _, _, rfl, rfl, rfl⟩) : gg X (.ListComp elt [⟨tg, iter, ifs, 0⟩] sc pos) (bL it own fr b t f) := by
  intro pins s σ H Q I h
  obtain ⟨ρ, sl, q⟩ := h
  unfold bL at q
  rw [eval_ListComp]
  cases ei : it ρ with
  | ex c => rw [ei] at q; exact q.elim
  | no => rw [ei] at q; exact q.elim
  | ok ds =>
    rw [ei] at q
    simp only [mH, R.ok_bind] at q
    split at q
    · rename_i hsz
      cases ec : bE b t f (aB own fr ρ) ds with
      | no => rw [ec] at q; exact q.elim
      | ex c =>
        rw [ec] at q
        exact ly (use := none) T ck hout hi hb0 hbody hs I sl ei hsz ec (fun c' hr => by cases hr; exact q) (fun z => nomatch z) hstk fun xs a C H' s' m vs hr => by cases hr
      | ok xs =>
        rw [ec] at q
        refine ly (use := none) T ck hout hi hb0 hbody hs I sl ei hsz ec (fun c' hr => by cases hr) (fun z => nomatch z) hstk fun xs' a C H' s' m vs hr I' fC hn s2' ha hv rv => ?_
        cases hr
        obtain ⟨f0, f1, f2, f3, f4, f5⟩ := fC
        refine ⟨m, hn, fun h' sb => ⟨.ref a, H', I'.turned (t' := s'.toks) (fun b o hb e => sb.extBut b o hb e) f0 f1 f3 f4 f5, rfl, ?_⟩⟩
        refine q _ H' s2' ⟨?_, _, rfl, ha⟩
        simp only [ja]
        exact ⟨_, vs, rfl, hv, rv⟩
    · exact q.elim
theorem Z.o1 {X : Cx} {tg iter elt : Expr} {ifs : List Expr} {sc : Scope} {pos : Pos} {it : aN → R (List PyData)} {b : PyData → aN → Option aN} {t : aN → R Bool} {f : Fe} {N : List Str} {own : Nat} {G G0 : List Str} {fr : List Nat} {nl : Nat} (T : Tb X nl G0) (ck : fB sc N own G X.N fr) (hout : ∀ y ∈ sc.names, y.2 = .free → X.env.kindOf y.1 = some .cell ∨ X.env.kindOf y.1 = some .free) (hi : Z.pc X tg iter it) (hb0 : ∀ ρ d ρ1, b d (aB own fr ρ) = some ρ1 → mV (aB own fr ρ) ρ1) (hbody : ∀ cl C s H fp E, Tb (bc X N sc cl C s H fp E) own G → Z.pB (bc X N sc cl C s H fp E) tg b ∧ Z.tx (bc X N sc cl C s H fp E) ifs t ∧ Z.ai (bc X N sc cl C s H fp E) elt f) (hs : ∀ x, foldedSetIterable iter X.env x = pure x := by intro _; rfl) (hstk : ∃ env0 outer0 L, X.stack = env0 :: outer0 ∧ env0.frame = some L ∧ X.env.frame = some L := by exact ⟨_, _, _, rfl, rfl, rfl⟩) : Z.gg X (.ListComp elt [⟨tg, iter, ifs, 0⟩] sc pos) (bL it own fr b t f) :=
  ⟨D2.o1 T ck hout hi.un hb0 (fun cl C s H fp E T => let ⟨q1, q2, q3⟩ := hbody cl C s H fp E T; ⟨q1.un, q2.un, q3.un⟩) hs hstk⟩
theorem Al {X : Cx} {tg iter elt : Expr} {ifs : List Expr} {sc : Scope} {pos py spos : Pos} {it : aN → R (List PyData)} {b : PyData → aN → Option aN} {t : aN → R Bool} {f : Fe} {N : List Str} {own : Nat} {G G0 : List Str} {fr : List Nat} {nl : Nat} {y : Str} {i : Nat}
    (T : Tb X nl G0) (ck : fB sc N own G X.N fr) (hout : ∀ y ∈ sc.names, y.2 = .free → X.env.kindOf y.1 = some .cell ∨ X.env.kindOf y.1 = some .free) (hi : pc X tg iter it)
    (hb0 : ∀ ρ d ρ1, b d (aB own fr ρ) = some ρ1 → mV (aB own fr ρ) ρ1)
    (hbody : ∀ cl C s H fp E, Tb (bc X N sc cl C s H fp E) own G → pB (bc X N sc cl C s H fp E) tg b ∧ tx (bc X N sc cl C s H fp E) ifs t ∧ ai (bc X N sc cl C s H fp E) elt f)
    (hN : (X.N.take nl)[i]? = some y) (hsw : swapsWith (.ListComp elt [⟨tg, iter, ifs, 0⟩] sc pos) (some (.Name y py)) spos.line X.env = pure true)
    (hs : ∀ x, foldedSetIterable iter X.env x = pure x := by intro _; rfl) (hstk : ∃ env0 outer0 L, X.stack = env0 :: outer0 ∧ env0.frame = some L ∧ X.env.frame = some L := by exact ⟨_, _, _, rfl, rfl, rfl⟩) : fw X (.Assign [.Name y py] (.ListComp elt [⟨tg, iter, ifs, 0⟩] sc pos) spos) (gH i (bL it own fr b t f)) := fun Fm => by
  intro pins s σ H D I h
  obtain ⟨ρ, sl, q⟩ := h
  unfold gH bL at q
  obtain ⟨hNi, hl, hf⟩ := T.nm hN
  cases ei : it ρ with
  | ex c => rw [ei] at q; exact q.elim
  | no => rw [ei] at q; exact q.elim
  | ok ds =>
    rw [ei] at q
    simp only [mH, R.ok_bind] at q
    by_cases hsz : ds.length ≤ sizeLine
    · rw [if_pos hsz] at q
      cases ec : bE b t f (aB own fr ρ) ds with
      | no => rw [ec] at q; exact q.elim
      | ex c =>
        rw [ec] at q
        rw [exec_Assign_Name_used _ _ _ _ hsw]
        refine wpAny_bind (wpAny_standAt (wpAny_bind ?_))
        show wpAny _ X.A (do let _ ← comprehension (.ListComp elt [⟨tg, iter, ifs, 0⟩] sc pos) sc X.env _ (newList []) false (eval iter X.env) (some (assign (.Name y py) X.env))) _ _ s
        exact wpAny_bind (cQ (ly (use := some (assign (.Name y py) X.env)) (Qc := fun _ s' => False) T ck hout hi hb0 hbody hs I sl.sl ei hsz ec (fun c' hr => by cases hr; exact q.1.mono sl.fm) (fun z => nomatch z) hstk fun xs a C H' s' m vs hr => by cases hr) fun _ s' hq => hq.elim)
      | ok xs =>
        rw [ec] at q
        rw [exec_Assign_Name_used _ _ _ _ hsw]
        refine wpAny_bind (wpAny_standAt (wpAny_bind ?_))
        show wpAny _ X.A (do let _ ← comprehension (.ListComp elt [⟨tg, iter, ifs, 0⟩] sc pos) sc X.env _ (newList []) false (eval iter X.env) (some (assign (.Name y py) X.env))) _ _ s
        refine wpAny_bind (cQ (ly (use := some (assign (.Name y py) X.env)) (Qc := fun _ s' => SP X pins D .next s') T ck hout hi hb0 hbody hs I sl.sl ei hsz ec (fun c' hr => by cases hr) (fun z => nomatch z) hstk fun xs' a C H' s' m vs hr I' fC hn s2' ha hv rv => ?_) fun _ s' hq => wpAny_pure (wpAny_pure hq))
        cases hr
        obtain ⟨f0, f1, f2, f3, f4, f5⟩ := fC
        show wpAny _ X.A (assign (.Name y py) X.env (.ref a)) _ _ _
        refine wpAny_assign_Name (pS I' T.nd hNi hl (v := .ref a) rfl (fun s'' I'' k => ?_) hf)
        have sls : iI Fm H' (σ.set i (some (.ref a))) (ρ.set i (.own (.list xs))) := iI.setOwn sl (sl.mono s2') s2' i ⟨by simp only [ja]; exact ⟨a, vs, rfl, hv, rv⟩, a, rfl, ha⟩
        refine ⟨m, ?_, fun h' sb => ⟨_, H', I''.turned (t' := s''.toks) (fun b o hb e => sb.extBut b o hb e) f0 f1 f3 f4 f5, q _ H' sls⟩⟩
        obtain ⟨a', sb', ha'⟩ := k
        refine hn.sameBut sb' ?_
        rcases ha' with rfl | ha'
        · exact f1
        · exact Ne.symm (f4 y a' ha')
    · rw [if_neg hsz] at q; exact q.elim
theorem iI.freeze {Fm H : Hp} {σ : St} {ρ : aN} {i : Nat} {d : PyData} {a : Addr} {u : HO} {o : Obj} (h : iI Fm H σ ρ) (h1 : ρ[i]? = some (.own d)) (h2 : σ[i]? = some (some (.ref a))) (hu : H a = some u) (hm : (∃ xs, u = .lst xs) ∨ ∃ ks, u = .dK ks)
    (hr : Rp (cm H a (.frz o u)) d (.ref a)) : iI Fm (cm H a (.frz o u)) σ (ρ.set i (.val d)) := by
  have hFa := h.own i d a h1 h2
  have kp : Kp H (cm H a (.frz o u)) := gz hu hm
  refine ⟨fun b x e => ?_, ⟨by rw [List.length_set]; exact h.sl.1, fun j c w' e1 e2 => ?_⟩, fun j e b e1 e2 => ?_, fun j k e f b e1 e2 e3 e4 => ?_⟩
  · rw [au (aR e hFa)]; exact h.fm b x e
  · rw [List.getElem?_set] at e1
    by_cases hij : i = j
    · subst hij
      rw [if_pos rfl] at e1
      split at e1
      · cases e1
        rw [h2] at e2
        cases e2
        exact ⟨_, rfl, hr⟩
      · cases e1
    · rw [if_neg hij] at e1
      have q := h.sl.2 j c w' e1 e2
      cases c with
      | exc p => exact q
      | non => exact True.intro
      | val d' => obtain ⟨v, z1, z2⟩ := q; exact ⟨v, z1, Rp.kp kp _ _ z2⟩
      | own d' =>
        obtain ⟨v, z1, z2⟩ := q
        subst z1
        obtain ⟨b, ob, rfl, hb⟩ := qy z2
        have nb : b ≠ a := fun z => hij (by subst z; exact h.apart i j d d' b h1 e1 h2 e2)
        refine ⟨_, rfl, ?_⟩
        cases d' <;> simp only [ja] at z2 ⊢
        · obtain ⟨b', vs, e, hb', r⟩ := z2
          cases e
          exact ⟨b, vs, rfl, by rw [au nb]; exact hb', bw.kp kp _ _ r⟩
        · obtain ⟨b', vs, e, hb', r⟩ := z2
          cases e
          exact ⟨b, vs, rfl, by rw [au nb]; exact hb', eh.kp kp _ _ r⟩
  · obtain ⟨ne, e1⟩ := bV (fun e z => by cases z) e1
    exact h.own j e b e1 e2
  · obtain ⟨ne, e1⟩ := bV (fun e z => by cases z) e1
    obtain ⟨ne', e2⟩ := bV (fun e z => by cases z) e2
    exact h.apart j k e f b e1 e2 e3 e4
theorem A8 {X : Cx} {pins : List (Addr × Obj)} {s : Shared} {Fm H : Hp} {σ : St} {ρ : aN} {i : Nat} {d : PyData} (I : aM X pins σ H s) (h : iI Fm H σ ρ) (h1 : ρ[i]? = some (.own d)) :
    ∃ H' v, aM X pins σ H' s ∧ iI Fm H' σ (ρ.set i (.val d)) ∧ σ[i]? = some (some v) ∧ Rp H' d v := by
  obtain ⟨w', h2, v, rfl, q⟩ := h.sl.at h1
  cases d <;> simp only [ja] at q
  · rename_i ds
    obtain ⟨a, vs, rfl, ha, r⟩ := q
    obtain ⟨o, J⟩ := gw I ha (.inl ⟨_, rfl⟩)
    have hr : Rp (cm H a (.frz o (.lst vs))) (.list ds) (.ref a) := by
      simp only [Rp]
      exact ⟨a, o, vs, rfl, bd, bw.kp (gz ha (.inl ⟨_, rfl⟩)) _ _ r⟩
    exact ⟨_, _, J, h.freeze h1 h2 ha (.inl ⟨_, rfl⟩) hr, h2, hr⟩
  · rename_i ds
    obtain ⟨a, vs, rfl, ha, r⟩ := q
    obtain ⟨o, J⟩ := gw I ha (.inr ⟨_, rfl⟩)
    have hr : Rp (cm H a (.frz o (.dK vs))) (.dict ds) (.ref a) := by
      simp only [Rp]
      exact .inl ⟨a, o, vs, rfl, bd, eh.kp (gz ha (.inr ⟨_, rfl⟩)) _ _ r⟩
    exact ⟨_, _, J, h.freeze h1 h2 ha (.inr ⟨_, rfl⟩) hr, h2, hr⟩
theorem fw.fz {X : Cx} {st : Stmt} {i : Nat} {f : Fe} (h : fw X st (gH i f)) (hi : i < X.N.length) : fw X st (bQ i f) := fun Fm => by
  intro pins s σ H D I ⟨ρ, sl, q⟩
  unfold bQ at q
  cases ef : f ρ with
  | ex c => rw [ef] at q; exact h Fm pins s σ H D I ⟨ρ, sl, by unfold gH; rw [ef]; exact q⟩
  | no => rw [ef] at q; exact q.elim
  | ok d =>
    rw [ef] at q
    have hr : Bo X Fm (gH i f) { nx := fun σ' H' => iI Fm H' σ' (ρ.set i (.own d)), rt := fun _ _ => False } σ H := ⟨ρ, sl, by unfold gH; rw [ef]; exact fun σ' H' s' => s'⟩
    refine cQ (h Fm pins s σ H _ I hr) fun fl s' z => ?_
    cases fl with
    | next =>
      obtain ⟨σ', H', I', sls⟩ := z
      have hi' : i < ρ.length := by rw [← sl.sl.1, I.len]; exact hi
      obtain ⟨H2, v, I2, sl2, _, _⟩ := A8 I' sls (i := i) (d := d) (by rw [List.getElem?_set, if_pos rfl, if_pos hi'])
      rw [List.set_set] at sl2
      exact ⟨σ', H2, I2, q σ' H2 sl2⟩
    | brk => obtain ⟨_, _, _, z⟩ := z; exact z.elim
    | cont => obtain ⟨_, _, _, z⟩ := z; exact z.elim
    | ret u => obtain ⟨_, _, _, _, _, z⟩ := z; exact z.elim
theorem Z.fw.fz {X : Cx} {st : Stmt} {i : Nat} {f : Fe} (h : Z.fw X st (gH i f)) (hi : i < X.N.length) : Z.fw X st (bQ i f) :=
  ⟨D2.fw.fz h.un hi⟩
theorem bC {X : Cx} {tg iter elt : Expr} {ifs : List Expr} {sc : Scope} {pos : Pos} {it : aN → R (List PyData)} {b : PyData → aN → Option aN} {t : aN → R Bool} {f : Fe} {N : List Str} {own : Nat} {G G0 : List Str} {fr : List Nat} {nl : Nat}
    (T : Tb X nl G0) {oN : List Str} {on : List (Str × NameKind)} (hoN : X.N = oN) (hon : X.env.scope.names = on)
    (ck : fB sc N own G oN fr ∧ ∀ y ∈ sc.names, y.2 = .free → on.lookup y.1 = some .cell ∨ on.lookup y.1 = some .free) (hi : pc X tg iter it)
    (hb0 : ∀ ρ d ρ1, b d (aB own fr ρ) = some ρ1 → mV (aB own fr ρ) ρ1)
    (hbody : ∀ cl C s H fp E, Tb (bc X N sc cl C s H fp E) own G → pB (bc X N sc cl C s H fp E) tg b ∧ tx (bc X N sc cl C s H fp E) ifs t ∧ ai (bc X N sc cl C s H fp E) elt f)
    (hs : ∀ x, foldedSetIterable iter X.env x = pure x := by intro _; rfl) (hstk : ∃ env0 outer0 L, X.stack = env0 :: outer0 ∧ env0.frame = some L ∧ X.env.frame = some L := by exact ⟨_, _, _, rfl, rfl, rfl⟩) : gg X (.ListComp elt [⟨tg, iter, ifs, 0⟩] sc pos) (bL it own fr b t f) :=
  o1 T (by rw [hoN]; exact ck.1) (fun y hy hf => by unfold Env.kindOf; rw [hon]; exact ck.2 y hy hf) hi hb0 hbody hs hstk
theorem Z.bC {X : Cx} {tg iter elt : Expr} {ifs : List Expr} {sc : Scope} {pos : Pos} {it : aN → R (List PyData)} {b : PyData → aN → Option aN} {t : aN → R Bool} {f : Fe} {N : List Str} {own : Nat} {G G0 : List Str} {fr : List Nat} {nl : Nat} (T : Tb X nl G0) {oN : List Str} {on : List (Str × NameKind)} (hoN : X.N = oN) (hon : X.env.scope.names = on) (ck : fB sc N own G oN fr ∧ ∀ y ∈ sc.names, y.2 = .free → on.lookup y.1 = some .cell ∨ on.lookup y.1 = some .free) (hi : Z.pc X tg iter it) (hb0 : ∀ ρ d ρ1, b d (aB own fr ρ) = some ρ1 → mV (aB own fr ρ) ρ1) (hbody : ∀ cl C s H fp E, Tb (bc X N sc cl C s H fp E) own G → Z.pB (bc X N sc cl C s H fp E) tg b ∧ Z.tx (bc X N sc cl C s H fp E) ifs t ∧ Z.ai (bc X N sc cl C s H fp E) elt f) (hs : ∀ x, foldedSetIterable iter X.env x = pure x := by intro _; rfl) (hstk : ∃ env0 outer0 L, X.stack = env0 :: outer0 ∧ env0.frame = some L ∧ X.env.frame = some L := by exact ⟨_, _, _, rfl, rfl, rfl⟩) : Z.gg X (.ListComp elt [⟨tg, iter, ifs, 0⟩] sc pos) (bL it own fr b t f) :=
  ⟨D2.bC T hoN hon ck hi.un hb0 (fun cl C s H fp E T => let ⟨q1, q2, q3⟩ := hbody cl C s H fp E T; ⟨q1.un, q2.un, q3.un⟩) hs hstk⟩
theorem fK {X : Cx} {tg iter elt : Expr} {ifs : List Expr} {sc : Scope} {pos py spos : Pos} {it : aN → R (List PyData)} {b : PyData → aN → Option aN} {t : aN → R Bool} {f : Fe} {N : List Str} {own : Nat} {G G0 : List Str} {fr : List Nat} {nl : Nat} {y : Str} (i : Nat)
    (hN : (X.N.take nl)[i]? = some y) (T : Tb X nl G0) {oN : List Str} {on : List (Str × NameKind)} (hoN : X.N = oN) (hon : X.env.scope.names = on)
    (ck : fB sc N own G oN fr ∧ ∀ y ∈ sc.names, y.2 = .free → on.lookup y.1 = some .cell ∨ on.lookup y.1 = some .free) (hi : pc X tg iter it)
    (hb0 : ∀ ρ d ρ1, b d (aB own fr ρ) = some ρ1 → mV (aB own fr ρ) ρ1)
    (hbody : ∀ cl C s H fp E, Tb (bc X N sc cl C s H fp E) own G → pB (bc X N sc cl C s H fp E) tg b ∧ tx (bc X N sc cl C s H fp E) ifs t ∧ ai (bc X N sc cl C s H fp E) elt f)
    (hsw : swapsWith (.ListComp elt [⟨tg, iter, ifs, 0⟩] sc pos) (some (.Name y py)) spos.line X.env = pure true := by rfl)
    (hs : ∀ x, foldedSetIterable iter X.env x = pure x := by intro _; rfl) (hstk : ∃ env0 outer0 L, X.stack = env0 :: outer0 ∧ env0.frame = some L ∧ X.env.frame = some L := by exact ⟨_, _, _, rfl, rfl, rfl⟩) : fw X (.Assign [.Name y py] (.ListComp elt [⟨tg, iter, ifs, 0⟩] sc pos) spos) (gH i (bL it own fr b t f)) :=
  Al T (by rw [hoN]; exact ck.1) (fun y hy hf => by unfold Env.kindOf; rw [hon]; exact ck.2 y hy hf) hi hb0 hbody hN hsw hs hstk
theorem Z.fK {X : Cx} {tg iter elt : Expr} {ifs : List Expr} {sc : Scope} {pos py spos : Pos} {it : aN → R (List PyData)} {b : PyData → aN → Option aN} {t : aN → R Bool} {f : Fe} {N : List Str} {own : Nat} {G G0 : List Str} {fr : List Nat} {nl : Nat} {y : Str} (i : Nat) (hN : (X.N.take nl)[i]? = some y) (T : Tb X nl G0) {oN : List Str} {on : List (Str × NameKind)} (hoN : X.N = oN) (hon : X.env.scope.names = on) (ck : fB sc N own G oN fr ∧ ∀ y ∈ sc.names, y.2 = .free → on.lookup y.1 = some .cell ∨ on.lookup y.1 = some .free) (hi : Z.pc X tg iter it) (hb0 : ∀ ρ d ρ1, b d (aB own fr ρ) = some ρ1 → mV (aB own fr ρ) ρ1) (hbody : ∀ cl C s H fp E, Tb (bc X N sc cl C s H fp E) own G → Z.pB (bc X N sc cl C s H fp E) tg b ∧ Z.tx (bc X N sc cl C s H fp E) ifs t ∧ Z.ai (bc X N sc cl C s H fp E) elt f) (hsw : swapsWith (.ListComp elt [⟨tg, iter, ifs, 0⟩] sc pos) (some (.Name y py)) spos.line X.env = pure true := by rfl) (hs : ∀ x, foldedSetIterable iter X.env x = pure x := by intro _; rfl) (hstk : ∃ env0 outer0 L, X.stack = env0 :: outer0 ∧ env0.frame = some L ∧ X.env.frame = some L := by exact ⟨_, _, _, rfl, rfl, rfl⟩) : Z.fw X (.Assign [.Name y py] (.ListComp elt [⟨tg, iter, ifs, 0⟩] sc pos) spos) (gH i (bL it own fr b t f)) :=
  ⟨D2.fK i hN T hoN hon ck hi.un hb0 (fun cl C s H fp E T => let ⟨q1, q2, q3⟩ := hbody cl C s H fp E T; ⟨q1.un, q2.un, q3.un⟩) hsw hs hstk⟩
theorem bJ {own : Nat} {fr : List Nat} {i : Nat} (h : i < own) : ∀ ρ d ρ1, aS i d (aB own fr ρ) = some ρ1 → mV (aB own fr ρ) ρ1 := fun ρ d ρ1 e => by
  have e' : ρ1 = (aB own fr ρ).set i (.val d) := (Option.some.inj e).symm
  subst e'
  refine ⟨by rw [List.length_set], fun j c hj => ?_⟩
  by_cases hij : i = j
  · subst hij
    left
    unfold aB at hj
    rw [List.getElem?_append_left (by simpa using h), List.getElem?_replicate, if_pos h] at hj
    exact (Option.some.inj hj).symm
  · right
    rw [List.getElem?_set, if_neg hij]; exact hj
def vq (sc : Scope) (N G : List Str) : Prop :=
  N.Nodup ∧ (∀ x ∈ N, (sc.names.lookup x = some .local ∨ sc.names.lookup x = some .cell) ∧ (x == ("__debug__" : Str)) = false ∧ (x == ("__classdict__" : Str)) = false) ∧ ∀ x ∈ G, sc.names.lookup x = some .globalImplicit ∧ (x == ("__debug__" : Str)) = false ∧ x ≠ ("__name__" : Str)
instance {sc : Scope} {N G : List Str} : Decidable (vq sc N G) := by unfold vq; infer_instance
theorem Bw {P : Program} {w : World} {K : PySem.W.Frag} {mg : Str → Option Value} {base : Heap} {N : List Str} {qual : Str} {sc : Scope} {f : Addr} {cdv : Value} {A : Around} {outer : List Env} {s : Shared} {H : Hp} {E : XK} {G : List Str} {k : Nat}
    (hr : eJ k (A.deeper (envOfC qual sc s.heap.objs.size f cdv))) (ck : vq sc N G) : Tb (fT (cI P w mg) P w K mg base N qual sc f cdv A outer s H E) N.length G := by
  obtain ⟨nd, l, g⟩ := ck
  refine ⟨hr.units, rfl, nd, fun x hx => ⟨?_, (l x hx).2⟩, fun x hx => ⟨?_, .inl rfl⟩, fun x hx => ?_⟩
  · rcases (l x hx).1 with q | q
    · exact .inl q
    · exact .inr (.inl q)
  · exact (l x (List.mem_of_mem_take hx)).1
  · exact g x hx
section
variable {X : Cx} {a b c : Expr} {fa fb fc : Fe} {pos : Pos}
def FJ : PyData → R PyData
  | .int i => .ok (.int (-i))
  | _ => .no
def ou (g g' : PyData → PyData → R PyData) (fa fb fc : Fe) : Fe := fun ρ => fa ρ >>= fun x => fb ρ >>= fun y => g x y >>= fun d => sY d >>= fun k => if k = true then fc ρ >>= fun z => g' y z else .ok (.bool false)
theorem zo {r r' : R2} {g g' : PyData → PyData → R PyData} (hg : bY X gR r g) (hg' : bY X gR r' g') (σ : St) (H : Hp) (Q : VK) (h : ke X gR (ou g g' fa fb fc) σ H Q) :
    xo r r' (ke X vT fa) (ke X vT fb) (ke X vT fc) σ H Q :=
  (ff (P := vT) (k := fun ρ x => fb ρ >>= fun y => g x y >>= fun d => sY d >>= fun k => if k = true then fc ρ >>= fun z => g' y z else .ok (.bool false)) (e8 (X := X) fQ Q) h).post fun v H1 ⟨ρ1, d1, sl1, _, p1, q1⟩ =>
    (ff (P := vT) (f := fb) (k := fun ρ y => g d1 y >>= fun d => sY d >>= fun k => if k = true then fc ρ >>= fun z => g' y z else .ok (.bool false)) (e8 (X := X) fQ Q) ⟨ρ1, sl1, q1⟩).post fun u H2 ⟨ρ2, d2, sl2, s2, p2, q2⟩ => by
      refine hg H2 v u d1 d2 _ (ie.mono p1 s2) p2 ?_
      cases e : g d1 d2 with
      | ex c => rw [e] at q2; exact q2
      | no => rw [e] at q2; exact q2
      | ok d =>
        rw [e] at q2
        intro w' H3 s3 p3
        have q3 : uJ X gR (sY d >>= fun k => if k = true then fc ρ2 >>= fun z => g' d2 z else .ok (.bool false)) H2 Q := q2
        cases d with
        | bool k =>
          have e3 : w' = .bl k := by simpa only [Rp] using p3
          refine ⟨k, e3, ?_⟩
          cases k with
          | false => exact q3 _ H3 s3 eY
          | true =>
            have q4 : uJ X gR (fc ρ2 >>= fun z => g' d2 z) H2 Q := q3
            exact (ff (P := vT) (f := fc) (k := fun _ z => g' d2 z) (e8 (X := X) fQ Q) ⟨ρ2, sl2.mono s3, (e8 (X := X) fQ Q).mono _ _ _ q4 s3⟩).post fun z H4 ⟨_, d4, _, s4, p4, q5⟩ => hg' H4 u z d2 d4 Q (ie.mono p2 (s3.trans s4)) p4 q5
        | none => exact q3.elim
        | int i => exact q3.elim
        | str i => exact q3.elim
        | list i => exact q3.elim
        | tuple i => exact q3.elim
        | dict i => exact q3.elim
theorem oY {op op' : CmpOp} {r r' : R2} {g g' : PyData → PyData → R PyData} (ho : iZ X (compareOp op) r) (hg : bY X gR r g) (ho' : iZ X (compareOp op') r') (hg' : bY X gR r' g') (ha : bK X a fa) (hb : bK X b fb) (hc : bK X c fc)
    (hm : lastMarks [op, op'] [b, c] = false := by with_unfolding_all rfl) : ai X (.Compare a [op, op'] [b, c] pos) (ou g g' fa fb fc) := PE.imp (yC ho ho' ha hb hc hm) (zo hg hg')
theorem Z.oY {op op' : CmpOp} {r r' : R2} {g g' : PyData → PyData → R PyData} (ho : iZ X (compareOp op) r) (hg : bY X gR r g) (ho' : iZ X (compareOp op') r') (hg' : bY X gR r' g') (ha : Z.bK X a fa) (hb : Z.bK X b fb) (hc : Z.bK X c fc) (hm : lastMarks [op, op'] [b, c] = false := by with_unfolding_all rfl) : Z.ai X (.Compare a [op, op'] [b, c] pos) (ou g g' fa fb fc) :=
  ⟨D2.oY ho hg ho' hg' ha.un hb.un hc.un hm⟩
variable {es : List Expr} {fs : aN → R (List PyData)}
def qt (fs : aN → R (List PyData)) : Fe := fun ρ => fs ρ >>= fun ds => if ds.length ≤ sizeLine then .ok (.tuple ds) else .no
def lv (fs : aN → R (List PyData)) : Fe := fun ρ => fs ρ >>= fun ds => if ds.length ≤ sizeLine then .ok (.list ds) else .no
theorem kJ {x1} (h : pE X es fs) : ai X (.Tuple es x1 pos) (qt fs) :=
  PE.imp (CN h) fun σ H Q q => (mf (I := Rp) (f := fs) (k := fun _ ds => if ds.length ≤ sizeLine then .ok (.tuple ds) else .no) (e8 (X := X) fQ Q) q).post fun vs H1 ⟨_, ds, _, _, p, q1⟩ => by
    have p := n4.mp p
    split at q1
    · rename_i hz
      exact ⟨by rw [p.length]; exact hz, fun a ha => q1 _ _ (ce ha _) (df ha p)⟩
    · exact q1.elim
theorem Z.kJ {x1} (h : Z.pE X es fs) : Z.ai X (.Tuple es x1 pos) (qt fs) :=
  ⟨D2.kJ h.un⟩
theorem gj (h : pE X es fs) : gg X (.List es pos) (lv fs) :=
  PE.imp (CM h) fun σ H Q q => (mf (I := Rp) (f := fs) (k := fun _ ds => if ds.length ≤ sizeLine then .ok (.list ds) else .no) (e8 (X := X) A6 Q) q).post fun vs H1 ⟨_, ds, _, _, p, q1⟩ => by
    have p := n4.mp p
    split at q1
    · rename_i hz
      exact ⟨by rw [p.length]; exact hz, fun a ha => q1 _ _ (ce ha _) (dO ha p)⟩
    · exact q1.elim
theorem Z.gj (h : Z.pE X es fs) : Z.gg X (.List es pos) (lv fs) :=
  ⟨D2.gj h.un⟩
theorem lL : gg X (.Dict [] [] pos) (eC (.dict [])) :=
  PE.imp xy fun σ H Q ⟨ρ, sl, q⟩ p hp => q _ _ (ce hp _) ⟨by simp only [ja]; exact ⟨p, [], rfl, bd, by simp only [eh]⟩, p, rfl, hp⟩
theorem Z.lL  : Z.gg X (.Dict [] [] pos) (eC (.dict [])) :=
  ⟨D2.lL⟩
def bx : PyData → PyData → R PyData
  | .list ds, .int i => match atI ds i with
    | some d => .ok d
    | none => .no
  | .tuple ds, .int i => match atI ds i with
    | some d => .ok d
    | none => .no
  | .str z, .int i => if z.length ≤ sizeLine then match atI z.cps.toList i with
    | some c => .ok (.str ⟨#[c]⟩)
    | none => .no else .no
  | .dict kvs, k => if p6 kvs = true then .no else match iw k with
    | some _ => match mU kvs k with
      | some d => .ok d
      | none => .no
    | none => .no
  | _, _ => .no
theorem bw.atI {H : Hp} {ds : List PyData} {vs : List V} {i : Int} {d : PyData} (r : bw H ds vs) (e : L2.atI ds i = some d) : ∃ v, L2.atI vs i = some v ∧ Rp H d v := by
  unfold L2.atI at e ⊢
  rw [r.length]
  cases h : vo ds.length i with
  | none => rw [h] at e; cases e
  | some j =>
    rw [h] at e
    obtain ⟨v, e1, p⟩ := r.get (show ds[j]? = some d from e)
    exact ⟨v, e1, p⟩
def Dq : R2 := fun x y H Q => ∃ a v, x = .ref a ∧ oH H a y (some v) ∧ Q v H
theorem AW (hu : X.A.units + 1 < cLine) : At X Dq := by
  intro value slice pins s σ H x y v u Q I rx ry h hs
  obtain ⟨a, z, rfl, g, q⟩ := h
  cases rx
  exact tail_any (rL I g) PySem.F.slot_dict_getitem.lookup (ww hu I g ry fun w' s3 I3 rw' => ⟨z, H, I3, rw', q⟩) hs
theorem Ea : bY X gR (fun x y H Q => DJ X.K x y H Q ∨ Ej X.K x y H Q ∨ Dp x y H Q ∨ Dq x y H Q) bx := fun H x y dx dy Q hx hy q => by
  unfold bx at q
  split at q
  · rename_i ds i
    split at q
    · rename_i d e
      obtain ⟨a, vs, rfl, hq, r⟩ := dL (K := X.K) hx
      obtain ⟨v, e1, p⟩ := r.atI e
      exact .inl ⟨a, vs, i, v, rfl, bP hy, hq, e1, q v H (aE.refl _) p⟩
    · exact q.elim
  · rename_i ds i
    split at q
    · rename_i d e
      obtain ⟨a, vs, rfl, hq, r⟩ := dm hx
      obtain ⟨v, e1, p⟩ := r.atI e
      exact .inr (.inl ⟨a, vs, i, v, rfl, bP hy, eI.of hq, e1, q v H (aE.refl _) p⟩)
    · exact q.elim
  · rename_i z i
    split at q
    · rename_i hz
      split at q
      · rename_i c e
        exact .inr (.inr (.inl ⟨z, i, c, gV hx, bP hy, hz, e, q _ H (aE.refl _) yT⟩))
      · exact q.elim
    · exact q.elim
  · rename_i kvs k
    split at q
    · exact q.elim
    rename_i hi
    split at q
    · rename_i κ e
      split at q
      · rename_i d e1
        obtain ⟨a, ks, rfl, h, r⟩ := lg (Bool.not_eq_true _ ▸ hi) hx
        obtain ⟨o, g, _, e2⟩ := vf (κ := κ) h r
        rw [sR e] at e1
        obtain ⟨v, rfl, p⟩ := e2 d e1
        rw [← vy hy e] at g
        exact .inr (.inr (.inr ⟨a, v, rfl, g, q v H (aE.refl _) p⟩))
      · exact q.elim
    · exact q.elim
  · exact q.elim
theorem bo (hu : X.A.units + 64 < cLine) (ha : bK X a fa) (hb : bK X b fb) (hs : rl b) : ai X (.Subscript a b pos) (e2 bx fa fb) := PE.imp (D4 (zL.or (BX.or (CA.or (AW (by omega))))) ha hb hs) (two fQ Ea)
theorem Z.bo (hu : X.A.units + 64 < cLine) (ha : Z.bK X a fa) (hb : Z.bK X b fb) (hs : rl b) : Z.ai X (.Subscript a b pos) (e2 bx fa fb) :=
  ⟨D2.bo hu ha.un hb.un hs⟩
variable {nl : Nat} {G : List Str} {x : Str} {p : Pos}
def qf (X : Cx) (P : Hp → Hp → PyData → V → Prop) (r : List V → Hp → VK → Prop) (g : List PyData → R PyData) : Prop := ∀ H xs ds Q, RA ie H ds xs → uJ X P (g ds) H Q → r xs H Q
theorem yc {P : Hp → Hp → PyData → V → Prop} {r : List V → Hp → VK → Prop} {g : List PyData → R PyData} (hP : Dn P) (hg : qf X P r g) (σ : St) (H : Hp) (Q : VK) (h : ke X P (fun ρ => fs ρ >>= g) σ H Q) : EA r (xC X ie fs) σ H Q :=
  (mf (I := ie) (k := fun _ => g) (e8 (X := X) hP Q) h).post fun vs H1 ⟨_, ds, _, _, p1, q1⟩ => hg H1 vs ds Q p1 q1
def one (g : PyData → R PyData) : List PyData → R PyData
  | [d] => g d
  | _ => .no
def By (g : PyData → PyData → R PyData) : List PyData → R PyData
  | [d, e] => g d e
  | _ => .no
theorem yj (g : PyData → R PyData) (fa : Fe) : (fun ρ => af fa aH ρ >>= one g) = e1 g fa := by
  funext ρ
  unfold af aH e1
  cases fa ρ <;> rfl
theorem BE (g : PyData → PyData → R PyData) (fa fb : Fe) : (fun ρ => af fa (af fb aH) ρ >>= By g) = e2 g fa fb := by
  funext ρ
  unfold af aH e2
  cases fa ρ with
  | ok a => cases fb ρ <;> rfl
  | ex c => rfl
  | no => rfl
theorem zk {P : Hp → Hp → PyData → V → Prop} {r : List V → Hp → VK → Prop} {g : PyData → R PyData} (h : ∀ H x d Q, ie H d x → uJ X P (g d) H Q → r [x] H Q) : qf X P r (one g) := fun H xs ds Q ra q => by
  unfold one at q
  split at q
  · rename_i d
    simp only [RA] at ra
    obtain ⟨v, r', e, p, e2⟩ := ra
    subst e2; subst e
    exact h H v d Q p q
  · exact q.elim
theorem Cf {P : Hp → Hp → PyData → V → Prop} {r : List V → Hp → VK → Prop} {g : PyData → PyData → R PyData} (h : ∀ H x y d e Q, ie H d x → ie H e y → uJ X P (g d e) H Q → r [x, y] H Q) : qf X P r (By g) := fun H xs ds Q ra q => by
  unfold By at q
  split at q
  · rename_i d e
    simp only [RA] at ra
    obtain ⟨v, r', e1, p, v', r'', e2, p', e3⟩ := ra
    subst e3; subst e2; subst e1
    exact h H v v' d e Q p p' q
  · exact q.elim
section
variable {P : Hp → Hp → PyData → V → Prop} {r : List V → Hp → VK → Prop} {g : PyData → R PyData} {g2 : PyData → PyData → R PyData} {id ty : String}
theorem Ab (T : Tb X nl G) (j : Nat) (hG : G[j]? = some x) (hm : X.mg x = none) (hP : Dn P) (hv : bootBuiltins x = some (.builtin id)) (hc : dP X (.builtin id) r) (hg : ∀ H x d Q, ie H d x → uJ X P (g d) H Q → r [x] H Q) (ha : bK X a fa)
    (he : aw a = true := by rfl) : PE X (.Call (.Name x p) [a] [] pos) (ke X P (e1 g fa)) := by
  have q := T.gl x (List.mem_of_getElem? hG)
  rw [← yj]
  exact PE.imp (oR hc q.1 hm hv (nB ha uh he) q.2.2 q.2.1 (bg he)) (yc hP (zk hg))
theorem Cl (T : Tb X nl G) (j : Nat) (hG : G[j]? = some x) (hm : X.mg x = none) (hP : Dn P) (hv : bootBuiltins x = some (.type ty)) (hc : dP X (.type ty) r) (hg : ∀ H x d Q, ie H d x → uJ X P (g d) H Q → r [x] H Q) (ha : bK X a fa)
    (he : aw a = true := by rfl) : PE X (.Call (.Name x p) [a] [] pos) (ke X P (e1 g fa)) := by
  have q := T.gl x (List.mem_of_getElem? hG)
  rw [← yj]
  exact PE.imp (wI hc q.1 hm hv (nB ha uh he) q.2.2 q.2.1 (bg he)) (yc hP (zk hg))
theorem Dx (T : Tb X nl G) (j : Nat) (hG : G[j]? = some x) (hm : X.mg x = none) (hP : Dn P) (hv : bootBuiltins x = some (.builtin id)) (hc : dP X (.builtin id) r) (hg : ∀ H x y d e Q, ie H d x → ie H e y → uJ X P (g2 d e) H Q → r [x, y] H Q) (ha : bK X a fa) (hb : bK X b fb)
    (he : aw a = true := by rfl) (he2 : aw b = true := by rfl) : PE X (.Call (.Name x p) [a, b] [] pos) (ke X P (e2 g2 fa fb)) := by
  have q := T.gl x (List.mem_of_getElem? hG)
  rw [← BE]
  exact PE.imp (oR hc q.1 hm hv (nB ha (nB hb uh he2) he) q.2.2 q.2.1 (bg he) (nP (by rw [List.all_cons, he2]; rfl))) (yc hP (Cf hg))
end
end
theorem lX : fillsNumberSlot (.type "tuple") "mul" = pure false :=
  PySem.fillsNumberSlot_seq (id := "tuple.__mul__") (r := some (.builtin "tuple.__rmul__")) F.slot_tuple_mul.lookup (by decide +kernel) F.slot_tuple_rmul.lookup (by decide +kernel)
theorem qm : seqRepeat? (.type "tuple") = pure (some (.builtin "tuple.__mul__")) := by
  unfold seqRepeat?
  rw [PySem.seqSlot_of (T := "tuple") (name := "__mul__") (id := "tuple.__mul__") F.slot_tuple_mul.lookup (by decide +kernel), PySem.seqSlot_of (T := "tuple") (name := "__rmul__") (id := "tuple.__rmul__") F.slot_tuple_rmul.lookup (by decide +kernel)]
  rfl
theorem o5 (a : Int) (t : Tok) (l : Addr) (items : Array Value) (n : Nat) (dd : Option Addr) (sl : Array (Option Value)) :
    Meets (Builtin.«int.__rmul__» ⟨[.int a t, .ref l], []⟩) (fun _ R s => s.heap.get? l = some { cls := .type "tuple", dict := dd, data := .seq items n, slots := sl } ∧ R (.ok (.ret Value.notImplemented)) s) :=
  .of_wp fun prog w A R s h => by obtain ⟨hp, g, d, tk, os⟩ := s; obtain ⟨hl, h⟩ := h; wp_walk; exact ⟨_, rfl, h⟩
theorem uu (l : Addr) (items : Array Value) (n : Nat) (dd : Option Addr) (sl : Array (Option Value)) (x : Int) (u : Tok) (h1 : 2 ≤ x) (h2 : x < 2 ^ 63) (h0 : ¬ items.isEmpty = true) (hc1 : ¬ (items.size : Int) * x > (2 ^ 63 - 1) / 8) (hbig : Builtin.Tuple.tupleTooMany ((items.size : Int) * x) = false) (hsz : ¬ (List.foldl (fun x1 x2 => x1 ++ x2) #[] (List.replicate x.toNat items)).size > sizeLine) :
    Meets (Builtin.«tuple.__mul__» ⟨[.ref l, .int x u], []⟩) (fun _ R s => s.heap.get? l = some { cls := .type "tuple", dict := dd, data := .seq items n, slots := sl } ∧ R (.ok (.ret (Value.ref s.heap.objs.size))) { s with heap := s.heap.push { cls := Value.type "tuple", data := Data.seq (List.foldl (fun x1 x2 => x1 ++ x2) #[] (List.replicate x.toNat items)) }, toks := s.toks }) :=
  .of_wp fun prog w A R s h => by
    obtain ⟨hp, g, d, tk, os⟩ := s; obtain ⟨hl, h⟩ := h
    have f1 := AutoSeq1.idx_int; have f2 := AutoSeq1.sub_tuple_tuple; have f3 := AutoSeq1.sub_list_list; have f4 := AutoSeq1.sub_tuple_list; have f5 := AutoSeq1.sub_list_tuple
    have e0 : (decide (x < -2 ^ 63) || decide (x ≥ 2 ^ 63)) = false := by
      rw [decide_eq_false (by omega), decide_eq_false (by omega)]; rfl
    have e1 : (items.isEmpty || x == 1) = false := by
      have : (x == 1) = false := by simp; omega
      rw [this, Bool.or_false]; exact Bool.eq_false_iff.mpr h0
    have e2 : (decide (x ≤ 0) || items.isEmpty) = false := by
      rw [decide_eq_false (by omega), Bool.false_or]; exact Bool.eq_false_iff.mpr h0
    have e3 : decide ((items.size : Int) * x > (2 ^ 63 - 1) / 8) = false := decide_eq_false hc1
    have e4 : Builtin.Tuple.tupleTooMany ((items.size : Int) * x) = false := hbig
    wp_walk using wpAny_loadPart' hl
    refine wpAny_ite_false (decide_eq_false (by rw [e0]; exact Bool.false_ne_true)) ?_
    wp_walk using wpAny_loadPart' hl
    refine wpAny_ite_false (decide_eq_false (by rw [e1]; exact Bool.false_ne_true)) ?_
    wp_walk using wpAny_loadPart' hl
    refine wpAny_ite_false (decide_eq_false (by rw [e2]; exact Bool.false_ne_true)) ?_
    wp_walk using wpAny_loadPart' hl
    refine wpAny_ite_false e3 ?_
    wp_walk using wpAny_loadPart' hl
    exact ⟨_, rfl, h⟩
section
variable {X : Cx} {a b c : Expr} {fa fb fc : Fe} {pos : Pos} {nl : Nat} {G : List Str} {x : Str} {p : Pos}
def Bd (K : PySem.W.Frag) : R2 := fun x y H Q => ∃ l k xs, x = .ref l ∧ y = .int k ∧ eI K H l xs ∧ xs ≠ [] ∧ 2 ≤ k ∧ k < 2 ^ 63 ∧ xs.length * k.toNat ≤ sizeLine ∧ ∀ p, H p = none → Q (.ref p) (cm H p (.tup (List.replicate k.toNat xs).flatten))
theorem Ac : iZ X (binaryOp .Mult) (Bd X.K) := by
  intro pins s σ H x y v u Q I rx ry h
  obtain ⟨l, k, xs, rfl, rfl, hH, hne, h1, h2, hz, q⟩ := h
  cases rx
  obtain ⟨t, rfl⟩ := ry
  obtain ⟨its, r, pl, hz0⟩ := I.tuple hH
  obtain ⟨⟨cls, dd, data, sl⟩, e, hc, n, hd⟩ := id pl
  simp only at hc hd
  subst hc hd
  have hl := r.length
  have hnew : List.foldl (fun x1 x2 => x1 ++ x2) #[] (List.replicate k.toNat its.toArray) = (List.replicate k.toNat its).flatten.toArray := by
    have := p0 its k.toNat []
    rw [List.nil_append] at this
    exact this
  have hlen : (List.replicate k.toNat its).flatten.length ≤ sizeLine := by rw [vP, ← hl, Nat.mul_comm]; exact hz
  have hprod : (its.length : Int) * k ≤ (sizeLine : Int) := by
    have h3 : ((its.length * k.toNat : Nat) : Int) ≤ (sizeLine : Int) := by rw [← hl]; exact Int.ofNat_le.mpr hz
    have h4 : ((k.toNat : Nat) : Int) = k := Int.toNat_of_nonneg (by omega)
    rw [Int.natCast_mul, h4] at h3
    exact h3
  have hcap : ¬ (its.toArray.size : Int) * k > (2 ^ 63 - 1) / 8 := by
    rw [List.size_toArray]
    have hs : sizeLine = 16777216 := sizeLine_eq
    omega
  have hbig : Builtin.Tuple.tupleTooMany ((its.toArray.size : Int) * k) = false := by
    unfold Builtin.Tuple.tupleTooMany
    rw [List.size_toArray]
    exact decide_eq_false (by omega)
  refine wpAny_binaryOp_repeat_ref (T := "tuple") (U := "int") (by decide) ⟨_, e, rfl⟩ (fun s' => typeIs_int s' k t) lX F.fills_int_mul F.slot_int_rmul qm F.slot_int_index.lookup
    (call_meets F.slot_int_rmul (typeIs_int s k t) F.entry_int_rmul (F.args_int_rmul_2 _ _) (o5 k t l its.toArray n dd sl)
      ⟨e, rfl, ⟨_, e, rfl⟩, call_meets F.slot_tuple_mul ⟨_, e, rfl⟩ F.entry_tuple_mul (F.args_tuple_mul_2 _ _) (uu l its.toArray n dd sl k t h1 h2 (by
        intro z
        apply hne
        have : its = [] := by simpa using z
        rw [this] at hl
        exact List.length_eq_zero_iff.mp hl) hcap hbig (by rw [hnew, List.size_toArray]; omega)) ⟨e, ?_⟩⟩)
  rw [hnew]
  refine ⟨.ref s.heap.objs.size, _, I.laid (t' := s.toks) (o := .tup (List.replicate k.toNat xs).flatten) (fun b ob q => Heap.get?_push_of_some _ q) (Nat.le_refl _) ?_, rfl, q _ (I.hok.fresh (Nat.le_refl _))⟩
  exact ⟨by rw [vP, Nat.mul_comm]; exact hz, _, r.rep k.toNat, IsTup.new _ _⟩
def fW : PyData → PyData → R PyData
  | .int i, .int j => if (-(2 ^ 64) < i ∧ i < 2 ^ 64) ∨ (-(2 ^ 64) < j ∧ j < 2 ^ 64) then .ok (.int (i * j)) else .no
  | .tuple xs, .int k => if xs ≠ [] ∧ 2 ≤ k ∧ k < 2 ^ 63 ∧ xs.length * k.toNat ≤ sizeLine then .ok (.tuple (List.replicate k.toNat xs).flatten) else .no
  | _, _ => .no
theorem B1 : bY X gR (fun x y H Q => rI Am (fun i j => .int (i * j)) x y H Q ∨ Bd X.K x y H Q) fW := fun H x y dx dy Q hx hy q => by
  cases dx with
  | int i =>
    cases dy with
    | int j =>
      simp only [fW] at q
      split at q
      · rename_i h; exact .inl ⟨_, _, bP hx, bP hy, h, q _ H (aE.refl _) de⟩
      · exact q.elim
    | _ => exact q.elim
  | tuple xs =>
    cases dy with
    | int k =>
      simp only [fW] at q
      split at q
      · rename_i h
        obtain ⟨a, vs, rfl, ha, r⟩ := dm hx
        have hl := r.length
        refine .inr ⟨a, k, vs, rfl, bP hy, eI.of ha, fun z => h.1 ?_, h.2.1, h.2.2.1, by rw [hl]; exact h.2.2.2, fun p hp => q _ _ (ce hp _) (df hp (r.rep _))⟩
        rw [z] at hl
        exact List.length_eq_zero_iff.mp hl.symm
      · exact q.elim
    | _ => exact q.elim
  | _ => exact q.elim
theorem gE (ha : bK X a fa) (hb : bK X b fb) : ai X (.BinOp a .Mult b pos) (e2 fW fa fb) := oC fQ (Co.or Ac) B1 ha hb
theorem Z.gE (ha : Z.bK X a fa) (hb : Z.bK X b fb) : Z.ai X (.BinOp a .Mult b pos) (e2 fW fa fb) :=
  ⟨D2.gE ha.un hb.un⟩
theorem AO : iZ X (binaryOp .Add) (fun x y H Q => ∃ i j, x = .str i ∧ y = .str j ∧ i.length + j.length ≤ sizeLine ∧ Q (.str (i ++ j)) H) := by
  intro pins s σ H x y v u Q I rx ry h
  obtain ⟨i, j, rfl, rfl, hz, q⟩ := h
  obtain ⟨t, rfl⟩ := rx
  obtain ⟨t', rfl⟩ := ry
  exact PyProof.Rows.add_str (fun t' tk => ⟨.str (i ++ j), H, I.tok _, ⟨_, rfl⟩, q⟩) hz
def xQ (K : PySem.W.Frag) : R2 := fun x y H Q => ∃ a b ys, x = .ref a ∧ y = .ref b ∧ eI K H a [] ∧ eI K H b ys ∧ Q (.ref b) H
theorem yP : iZ X (binaryOp .Add) (xQ X.K) := by
  intro pins s σ H x y v u Q I rx ry h
  obtain ⟨a, b, ys, rfl, rfl, ha, hb, q⟩ := h
  cases rx
  cases ry
  obtain ⟨its, r1, p1, _⟩ := I.tuple ha
  obtain ⟨its2, r2, p2, _⟩ := I.tuple hb
  cases r1
  obtain ⟨⟨cls, dd, data, sl⟩, ho, hc, n, hd⟩ := id p1
  obtain ⟨⟨cls2, dd2, data2, sl2⟩, ho2, hc2, n2, hd2⟩ := id p2
  simp only at hc hd hc2 hd2
  subst hc hd hc2 hd2
  exact concat_meets ⟨_, ho, rfl⟩ ⟨_, ho2, rfl⟩ noFill_tuple_add seq_tuple_add PySem.F.slot_tuple_add PySem.F.entry_tuple_add (PySem.F.args_tuple_add_2 _ _)
    (tuple_addW0 a b _ its2.toArray n n2 dd dd2 sl sl2 (by rfl)) ⟨ho, ho2, ⟨.ref b, H, I, rfl, q⟩⟩
def Bi (K : PySem.W.Frag) : R2 := fun x y H Q => ∃ l b xs zs, x = .ref l ∧ y = .ref b ∧ Rd H l (.lst xs) ∧ Rd H b (.lst zs) ∧ xs.length + zs.length ≤ sizeLine ∧ ∀ p, H p = none → Q (.ref p) (cm H p (.lst (xs ++ zs)))
theorem An : iZ X (binaryOp .Add) (Bi X.K) := by
  intro pins s σ H x y v u Q I rx ry h
  obtain ⟨l, b, xs, zs, rfl, rfl, hH, hB, hz, q⟩ := h
  cases rx
  cases ry
  obtain ⟨z, its, n, r, e⟩ := hH.ok I.hok
  obtain ⟨z2, its2, n2, r2, e2⟩ := hB.ok I.hok
  have hl := r.length
  have hl2 := r2.length
  refine PySem.P.add_list e e2 ?_ (by rw [List.size_toArray, List.size_toArray]; omega)
  have ea : its.toArray ++ its2.toArray = (its ++ its2).toArray := by simp
  rw [ea]
  exact ⟨.ref _, _, I.lnew (t' := s.toks) (r.append r2) (by rw [List.length_append]; omega), rfl, q _ I.fresh⟩
def fO : PyData → PyData → R PyData
  | .int i, .int j => .ok (.int (i + j))
  | .str x, .str y => if x.length + y.length ≤ sizeLine then .ok (.str (x ++ y)) else .no
  | .tuple xs, .tuple ys => if xs.length + ys.length ≤ sizeLine then .ok (.tuple (xs ++ ys)) else .no
  | .list xs, .list ys => if xs.length + ys.length ≤ sizeLine then .ok (.list (xs ++ ys)) else .no
  | _, _ => .no
theorem qF {H : Hp} {ds : List PyData} {x : V} (h : ie H (.list ds) x) : ∃ a vs, x = .ref a ∧ Rd H a (.lst vs) ∧ bw H ds vs := by
  rcases h with h | h
  · simp only [Rp] at h
    obtain ⟨a, o, vs, e, ha, r⟩ := h
    exact ⟨a, vs, e, .inr ⟨o, ha⟩, r⟩
  · simp only [ja] at h
    obtain ⟨a, vs, e, ha, r⟩ := h
    exact ⟨a, vs, e, .inl ha, r⟩
theorem Cc : bY X Ew (fun x y H Q => zx (fun i j => .int (i + j)) x y H Q ∨ (∃ i j, x = .str i ∧ y = .str j ∧ i.length + j.length ≤ sizeLine ∧ Q (.str (i ++ j)) H) ∨ Bk X.K x y H Q ∨ xQ X.K x y H Q ∨ Bi X.K x y H Q) fO := fun H x y dx dy Q hx hy q => by
  cases dx with
  | int i =>
    cases dy with
    | int j => exact .inl ⟨_, _, bP hx, bP hy, q _ H (aE.refl _) (.inl de)⟩
    | _ => exact q.elim
  | str i =>
    cases dy with
    | str j =>
      simp only [fO] at q
      split at q
      · rename_i h; exact .inr (.inl ⟨_, _, gV hx, gV hy, h, q _ H (aE.refl _) (.inl yT)⟩)
      · exact q.elim
    | _ => exact q.elim
  | tuple xs =>
    cases dy with
    | tuple ys =>
      simp only [fO] at q
      split at q
      · rename_i h
        have hx' := hx
        obtain ⟨a, vs, rfl, ha, r⟩ := dm hx
        obtain ⟨b, us, rfl, hb, r2⟩ := dm hy
        cases xs with
        | nil =>
          have := r.nil_inv
          subst this
          refine .inr (.inr (.inr (.inl ⟨a, b, us, rfl, rfl, eI.of ha, eI.of hb, q _ H (aE.refl _) (.inl ?_)⟩)))
          simp only [Rp, List.nil_append]
          exact ⟨b, us, rfl, hb, r2⟩
        | cons d ds =>
          refine .inr (.inr (.inl ⟨a, b, vs, us, rfl, rfl, eI.of ha, eI.of hb, fun z => ?_, by rw [r.length, r2.length]; exact h, fun z => ?_, fun _ p hp => q _ _ (ce hp _) (.inl (df hp (r.append r2)))⟩))
          · rw [z] at r
            obtain ⟨_, _, e, _⟩ := r.cons_inv
            cases e
          · have hy0 : ys = [] := by
              have := r2.length
              rw [z] at this
              exact List.length_eq_zero_iff.mp this.symm
            refine q _ H (aE.refl _) (.inl ?_)
            rw [hy0, List.append_nil]
            simp only [Rp]
            exact ⟨a, vs, rfl, ha, r⟩
      · exact q.elim
    | _ => exact q.elim
  | list xs =>
    cases dy with
    | list ys =>
      simp only [fO] at q
      split at q
      · rename_i h
        obtain ⟨a, vs, rfl, ha, r⟩ := qF hx
        obtain ⟨b, us, rfl, hb, r2⟩ := qF hy
        exact .inr (.inr (.inr (.inr ⟨a, b, vs, us, rfl, rfl, ha, hb, by rw [r.length, r2.length]; exact h, fun p hp => q _ _ (ce hp _) (.inr (dO hp (r.append r2)))⟩)))
      · exact q.elim
    | _ => exact q.elim
  | _ => exact q.elim
theorem dM (ha : bK X a fa) (hb : bK X b fb) : ai X (.BinOp a .Add b pos) (e2 fO fa fb) :=
  zB.e (oC As (B5.or (AO.or (A0.or (yP.or An)))) Cc ha hb)
theorem Z.dM (ha : Z.bK X a fa) (hb : Z.bK X b fb) : Z.ai X (.BinOp a .Add b pos) (e2 fO fa fb) :=
  ⟨D2.dM ha.un hb.un⟩
end
section
variable {prog : Program} {w : World} {A : Around} {E : Value → Shared → Prop} {s : Shared}
theorem kj {t sl : Addr} {items : Array Value} {vl vu : Value} {lo hi : Option Int} {Q : Value → Shared → Prop} (ht : IsTup s.heap t items) (hs : s.heap.IsSliceOf sl vl vu .none) (pl : IsPart vl lo) (pu : IsPart vu hi)
    (hw : HT.sIx items.size 0 lo = 0 ∧ HT.sIx items.size items.size hi = items.size) (h : Q (.ref t) s) : wpAny (model prog w) A (getItem (.ref t) (.ref sl)) Q E s := by
  obtain ⟨os, hos, hcs, hds⟩ := id hs
  have hTs : s.TypeIs (.ref sl) "slice" := ⟨os, hos, hcs⟩
  unfold getItem
  try with_reducible refine wpAny_holding ?_
  first | refine wpAny_bind (wpAny_pure ?_) | skip
  refine wpAny_bind (wpAny_sequenceKey ht.typeIs (by decide) ?_)
  refine wpAny_bind (wpAny_callSpecial?_slot (name := Str.ofString "__getitem__") ht.typeIs PyProof.Rows.slot_tuple_getitem
    (wpAny_call_entry PyProof.Rows.slot_tuple_getitem ht.typeIs entry_tuple_getitem ?_ (args_tuple_getitem _ _)))
  show wpAny _ _ (Builtin.Tuple.tupleItemsOf (.ref t) >>= _) _ _ s
  refine wpAny_bind (tupleItemsOf_ ht ?_)
  refine wpAny_bind (wpAny_typeOf hTs ?_)
  rw [if_pos (by decide)]
  refine wpAny_bind (HT.sliceApplied_gen hs pl pu ?_)
  have hyes : (((HT.sIx items.size 0 lo : Nat) : Int) == 0 && (1 : Int) == 1 && (HT.sIx items.size items.size hi - HT.sIx items.size 0 lo) == items.size) = true := by
    rw [hw.1, hw.2]; simp
  show wpAny _ _ (if (((HT.sIx items.size 0 lo : Nat) : Int) == 0 && (1 : Int) == 1 && (HT.sIx items.size items.size hi - HT.sIx items.size 0 lo) == items.size) = true then _ else _) _ _ s
  rw [if_pos hyes]
  refine wpAny_bind (m := Builtin.Tuple.tupleIsExact _) ?_
  unfold Builtin.Tuple.tupleIsExact
  refine wpAny_bind (wpAny_typeOf ht.typeIs (wpAny_pure ?_))
  show wpAny _ _ (if (Value.type "tuple" == Value.type "tuple") = true then _ else _) _ _ s
  rw [if_pos (by decide)]
  refine wpAny_bind (wpAny_rule ?_)
  first
    | exact wpAny_pure ⟨_, rfl, wpAny_pure h⟩
    | exact wpAny_bind (wpAny_pure (wpAny_pure ⟨_, rfl, wpAny_pure h⟩))
end
section
variable {X : Cx} {a b c : Expr} {fa fb fc : Fe} {pos p2 : Pos} {nl : Nat} {G : List Str} {x : Str} {p : Pos}
def nc (xs : List PyData) (lo hi : Option Int) : List PyData := (xs.drop (HT.sIx xs.length 0 lo)).take (HT.sIx xs.length xs.length hi - HT.sIx xs.length 0 lo)
theorem bw.cut {H : Hp} {ds : List PyData} {vs : List V} (r : bw H ds vs) (lo hi : Option Int) : bw H (nc ds lo hi) (sT vs lo hi) := by
  unfold nc sT
  rw [r.length]
  exact (r.drop _).take _
def EZ (K : PySem.W.Frag) : V → Option Int → Option Int → Hp → VK → Prop := fun x lo hi H Q => ∃ a xs, x = .ref a ∧ eI K H a xs ∧ (HT.sIx xs.length 0 lo = 0 ∧ HT.sIx xs.length xs.length hi = xs.length) ∧ Q (.ref a) H
theorem yw : Af X (EZ X.K) := by
  intro pins s σ H x v vl vu lo hi sl Q I rx hs pl pu h
  obtain ⟨a, xs, rfl, hx, hw, q⟩ := h
  cases rx
  obtain ⟨its, r, ht, hz⟩ := I.tuple hx
  have hlen : its.toArray.size = xs.length := by rw [List.size_toArray]; exact r.length.symm
  refine ⟨"tuple", _, PyProof.Rows.slot_tuple_getitem.lookup, ht.typeIs, ?_⟩
  exact kj ht hs pl pu (by rw [hlen]; exact hw) ⟨.ref a, H, I, rfl, q⟩
theorem BU : Af X (fun x lo hi H Q => ∃ xx, x = .str xx ∧ xx.length ≤ sizeLine ∧ Q (.str (Txt.slice xx lo hi)) H) := by
  intro pins s σ H x v vl vu lo hi sl Q I rx hs pl pu h
  obtain ⟨xx, rfl, hz, q⟩ := h
  obtain ⟨t, rfl⟩ := rx
  refine ⟨"str", _, PySem.F.slot_str_getitem.lookup, typeIs_str _ _ _, ?_⟩
  have fin : ∀ t' k, EP X pins σ Q (.str (Txt.slice xx lo hi) t') { s with toks := k } := fun t' k => ⟨.str _, H, I.tok k, ⟨t', rfl⟩, q⟩
  cases pl with
  | none =>
    cases pu with
    | none => exact wpAny_getItem_str_slice (l := none) (u := none) (st := none) hs rfl (post_val_or_str ⟨Nat.le_trans (Txt.slice_le xx _ _) hz, fin⟩)
    | int j uj => exact wpAny_getItem_str_slice (l := none) (u := some (j, uj)) (st := none) hs rfl (post_val_or_str ⟨Nat.le_trans (Txt.slice_le xx _ _) hz, fin⟩)
  | int i ui =>
    cases pu with
    | none => exact wpAny_getItem_str_slice (l := some (i, ui)) (u := none) (st := none) hs rfl (post_val_or_str ⟨Nat.le_trans (Txt.slice_le xx _ _) hz, fin⟩)
    | int j uj => exact wpAny_getItem_str_slice (l := some (i, ui)) (u := some (j, uj)) (st := none) hs rfl (post_val_or_str ⟨Nat.le_trans (Txt.slice_le xx _ _) hz, fin⟩)
def Bf : PyData → Option Int → Option Int → R PyData
  | .str x, lo, hi => if x.length ≤ sizeLine then .ok (.str (Txt.slice x lo hi)) else .no
  | .tuple xs, lo, hi => .ok (.tuple (nc xs lo hi))
  | .list xs, lo, hi => .ok (.list (nc xs lo hi))
  | _, _, _ => .no
abbrev Fo := aN → R (Option Int)
def n9 : Fo := fun _ => .ok none
def Ex : PyData → R Int
  | .int i => .ok i
  | _ => .no
def nQ (f : Fe) : Fo := fun ρ => f ρ >>= fun d => Ex d >>= fun i => .ok (some i)
def yG (X : Cx) (f : Fo) : TO := fun σ H Q => ∃ ρ, Sl H σ ρ ∧ match f ρ with
  | .ok o => ∀ H', aE H H' → Q o H'
  | .ex c => Xw X c H
  | .no => False
def zt (X : Cx) (e : Option Expr) (f : Fo) : Prop := PO X e (yG X f)
structure Z.zt (X : Cx) (e : Option Expr) (f : Fo) : Prop where
  un : D2.zt X e f
theorem jU : zt X none n9 := fun pins s σ H Q I ⟨ρ, sl, q⟩ => Ax pins s σ H Q I (q H (aE.refl _))
theorem Z.jU  : Z.zt X none n9 :=
  ⟨D2.jU⟩
theorem DQ (Q : Option Int → Hp → Prop) : AT X (fun (r : R (Option Int)) H => match r with | .ok b => ∀ H', aE H H' → Q b H' | .ex c => Xw X c H | .no => False) where
  mono := fun r H H' h s => by
    cases r with
    | ok d => exact fun H2 s2 => h H2 (s.trans s2)
    | ex c => exact Xw.mono h s
    | no => exact h
  ex := fun c H h => h
  no := fun H h => h
theorem j6 {e : Expr} {f : Fe} (h : ai X e f) : zt X (some e) (nQ f) := fun pins s σ H Q I q =>
  A5 h pins s σ H Q I ((ff (P := gR) (f := f) (k := fun _ d => Ex d >>= fun i => .ok (some i)) (DQ (X := X) Q) q).post fun v H1 ⟨_, d, _, _, p, q1⟩ => by
    cases d with
    | int i =>
      have e1 : v = .int i := by simpa only [Rp] using p
      exact ⟨i, e1, q1 H1 (aE.refl _)⟩
    | _ => exact q1.elim)
theorem Z.j6 {e : Expr} {f : Fe} (h : Z.ai X e f) : Z.zt X (some e) (nQ f) :=
  ⟨D2.j6 h.un⟩
def Cd (f : Fe) (lo hi : Fo) : Fe := fun ρ => f ρ >>= fun d => lo ρ >>= fun l => hi ρ >>= fun u => Bf d l u
theorem yQ {β : Type} {Tg : R β → Hp → Prop} {σ : St} {H : Hp} (t : AT X Tg) {f : Fo} {k : aN → Option Int → R β} (h : ∃ ρ, Sl H σ ρ ∧ Tg (f ρ >>= k ρ) H) : yG X f σ H (fun o H1 => ∃ ρ, Sl H1 σ ρ ∧ aE H H1 ∧ Tg (k ρ o) H1) := by
  obtain ⟨ρ, sl, q⟩ := h
  refine ⟨ρ, sl, ?_⟩
  cases e : f ρ with
  | ok d => rw [e] at q; exact fun H1 s => ⟨ρ, sl.mono s, s, t.mono _ _ _ q s⟩
  | ex c => rw [e] at q; exact t.ex _ _ q
  | no => rw [e] at q; exact (t.no _ q).elim
theorem yG.post {f : Fo} {σ : St} {H : Hp} {Q Q' : Option Int → Hp → Prop} (h : yG X f σ H Q) (i : ∀ b H', Q b H' → Q' b H') : yG X f σ H Q' := by
  obtain ⟨ρ, sl, q⟩ := h
  refine ⟨ρ, sl, ?_⟩
  cases e : f ρ with
  | ok d => rw [e] at q; exact fun H' s => i _ _ (q H' s)
  | ex c => rw [e] at q; exact q
  | no => rw [e] at q; exact q
theorem im {lo hi : Option Expr} {fl fh : Fo} (ha : bK X a fa) (hl : zt X lo fl) (hu : zt X hi fh) : ai X (.Subscript a (.Slice lo hi none p2) pos) (Cd fa fl fh) := by
  refine zB.e (PE.imp (yM (yw.or (Bu.or (Av.or BU))) ha hl hu) fun σ H Q h => ?_)
  refine (ff (P := vT) (f := fa) (k := fun ρ d => fl ρ >>= fun l => fh ρ >>= fun u => Bf d l u) (e8 (X := X) As Q) h).post fun v H1 ⟨ρ1, d1, sl1, _, p1, q1⟩ => ?_
  refine (yQ (f := fl) (k := fun ρ l => fh ρ >>= fun u => Bf d1 l u) (e8 (X := X) As Q) ⟨ρ1, sl1, q1⟩).post fun l H2 ⟨ρ2, sl2, s2, q2⟩ => ?_
  refine (yQ (f := fh) (k := fun ρ u => Bf d1 l u) (e8 (X := X) As Q) ⟨ρ2, sl2, q2⟩).post fun u H3 ⟨ρ3, sl3, s3, q3⟩ => ?_
  have p3 : ie H3 d1 v := ie.mono (ie.mono p1 s2) s3
  cases d1 with
  | tuple xs =>
    obtain ⟨a', vs, rfl, ha', r⟩ := dm p3
    have hlen := r.length
    by_cases hw : HT.sIx vs.length 0 l = 0 ∧ HT.sIx vs.length vs.length u = vs.length
    · refine .inl ⟨a', vs, rfl, eI.of ha', hw, q3 _ H3 (aE.refl _) (.inl ?_)⟩
      have e : nc xs l u = xs := by
        unfold nc
        rw [← hlen, hw.1, hw.2]
        simp [hlen]
      rw [e]
      simp only [Rp]
      exact ⟨a', vs, rfl, ha', r⟩
    · exact .inr (.inl ⟨a', vs, rfl, eI.of ha', hw, fun p hp => q3 _ _ (ce hp _) (.inl (df hp (r.cut l u)))⟩)
  | list xs =>
    obtain ⟨a', vs, rfl, ha', r⟩ := dL (K := X.K) p3
    exact .inr (.inr (.inl ⟨a', vs, rfl, ha', fun p hp => q3 _ _ (ce hp _) (.inr (dO hp (r.cut l u)))⟩))
  | str xx =>
    simp only [Bf] at q3
    split at q3
    · rename_i hz
      exact .inr (.inr (.inr ⟨xx, gV p3, hz, q3 _ H3 (aE.refl _) (.inl (by simp only [Rp]))⟩))
    · exact q3.elim
  | _ => exact q3.elim
theorem Z.im {lo hi : Option Expr} {fl fh : Fo} (ha : Z.bK X a fa) (hl : Z.zt X lo fl) (hu : Z.zt X hi fh) : Z.ai X (.Subscript a (.Slice lo hi none p2) pos) (Cd fa fl fh) :=
  ⟨D2.im ha.un hl.un hu.un⟩
end
section
variable {X : Cx} {a b c : Expr} {fa fb fc : Fe} {pos p2 : Pos} {nl : Nat} {G : List Str} {x : Str} {p : Pos}
theorem we : dP X (.builtin "len") (fun xs H Q => ∃ a kvs, xs = [V.ref a] ∧ Rd H a (.dK kvs) ∧ Q (.int kvs.length) H) := by
  intro pins s σ H xs us Q I r h
  obtain ⟨a, kvs, rfl, ha, q⟩ := h
  obtain ⟨u, rfl, ru⟩ := gy r
  cases ru
  exact CY I ha fun t s' I' => ⟨.int kvs.length, H, I', ⟨t, rfl⟩, q⟩
theorem eh.length {H : Hp} : ∀ {kvs : List (PyData × PyData)} {ks : List (cT × V)}, eh H kvs ks → ks.length = kvs.length
  | [], ks, h => by simp only [eh] at h; rw [h]; rfl
  | kd :: kvs, ks, h => by
    simp only [eh] at h
    obtain ⟨x, v, r, rfl, _, t⟩ := h
    rw [List.length_cons, List.length_cons, eh.length t]
def dE : PyData → R PyData
  | .list ds => .ok (.int ds.length)
  | .tuple ds => .ok (.int ds.length)
  | .dict kvs => if p6 kvs = true then .no else .ok (.int kvs.length)
  | .str y => if y.length ≤ sizeLine then .ok (.int y.length) else .no
  | _ => .no
theorem dt (T : Tb X nl G) (j : Nat) (hG : G[j]? = some ("len" : Str)) (hm : X.mg "len" = none) (ha : bK X a fa) (he : aw a = true := by rfl) : ai X (.Call (.Name "len" p) [a] [] pos) (e1 dE fa) := by
  refine Ab T j hG hm fQ PySem.boot_len (rh.or (qI.or we)) (fun H x d Q hx q => ?_) ha he
  cases d with
  | list ds =>
    obtain ⟨a', vs, rfl, h, r⟩ := dL (K := X.K) hx
    exact .inl ⟨a', vs, rfl, .inl h, by rw [r.length]; exact q _ H (aE.refl _) de⟩
  | tuple ds =>
    obtain ⟨a', vs, rfl, h, r⟩ := dm hx
    exact .inl ⟨a', vs, rfl, .inr (eI.of h), by rw [r.length]; exact q _ H (aE.refl _) de⟩
  | dict kvs =>
    simp only [dE] at q
    split at q
    · exact q.elim
    rename_i hi
    obtain ⟨a', vs, rfl, h, r⟩ := lg (Bool.not_eq_true _ ▸ hi) hx
    exact .inr (.inr ⟨a', vs, rfl, h, by rw [r.length]; exact q _ H (aE.refl _) de⟩)
  | str y =>
    simp only [dE] at q
    split at q
    · rename_i hz; exact .inr (.inl ⟨y, by rw [gV hx], hz, q _ H (aE.refl _) de⟩)
    · exact q.elim
  | _ => exact q.elim
theorem Z.dt (T : Tb X nl G) (j : Nat) (hG : G[j]? = some ("len" : Str)) (hm : X.mg "len" = none) (ha : Z.bK X a fa) (he : aw a = true := by rfl) : Z.ai X (.Call (.Name "len" p) [a] [] pos) (e1 dE fa) :=
  ⟨D2.dt T j hG hm ha.un he⟩
def A4 : PyData → R PyData
  | .int i => .ok (.int i)
  | .bool k => .ok (.int (if k then 1 else 0))
  | _ => .no
theorem qr (T : Tb X nl G) (j : Nat) (hG : G[j]? = some ("int" : Str)) (hm : X.mg "int" = none) (ha : bK X a fa) (he : aw a = true := by rfl) : ai X (.Call (.Name "int" p) [a] [] pos) (e1 A4 fa) := by
  refine Cl T j hG hm fQ PyProof.Rows.boot_int wd (fun H x d Q hx q => ?_) ha he
  cases d with
  | int i => exact .inl ⟨i, by rw [bP hx], q _ H (aE.refl _) de⟩
  | bool k => exact .inr ⟨k, by rw [oK hx], q _ H (aE.refl _) de⟩
  | _ => exact q.elim
theorem Z.qr (T : Tb X nl G) (j : Nat) (hG : G[j]? = some ("int" : Str)) (hm : X.mg "int" = none) (ha : Z.bK X a fa) (he : aw a = true := by rfl) : Z.ai X (.Call (.Name "int" p) [a] [] pos) (e1 A4 fa) :=
  ⟨D2.qr T j hG hm ha.un he⟩
def FI : PyData → R PyData
  | .int i => if i.natAbs.log2 < 1920 then .ok (.str (toString i)) else .no
  | _ => .no
def zQ : PyData → PyData → R PyData
  | .int i, .int j => .ok (.int (if j < i then j else i))
  | _, _ => .no
def Aa : PyData → PyData → R PyData
  | .int i, .int j => .ok (.int (if j > i then j else i))
  | _, _ => .no
theorem uk (T : Tb X nl G) (j : Nat) (hG : G[j]? = some ("min" : Str)) (hm : X.mg "min" = none) (ha : bK X a fa) (hb : bK X b fb) (he : aw a = true := by rfl) (he2 : aw b = true := by rfl) :
    ai X (.Call (.Name "min" p) [a, b] [] pos) (e2 zQ fa fb) := by
  refine Dx T j hG hm fQ PyProof.Rows.boot_min (vV T.calm) (fun H x y d e Q hx hy q => ?_) ha hb he he2
  cases d with
  | int i =>
    cases e with
    | int j => exact ⟨i, j, by rw [bP hx, bP hy], q _ H (aE.refl _) de⟩
    | _ => exact q.elim
  | _ => exact q.elim
theorem Z.uk (T : Tb X nl G) (j : Nat) (hG : G[j]? = some ("min" : Str)) (hm : X.mg "min" = none) (ha : Z.bK X a fa) (hb : Z.bK X b fb) (he : aw a = true := by rfl) (he2 : aw b = true := by rfl) : Z.ai X (.Call (.Name "min" p) [a, b] [] pos) (e2 zQ fa fb) :=
  ⟨D2.uk T j hG hm ha.un hb.un he he2⟩
theorem ul (T : Tb X nl G) (j : Nat) (hG : G[j]? = some ("max" : Str)) (hm : X.mg "max" = none) (ha : bK X a fa) (hb : bK X b fb) (he : aw a = true := by rfl) (he2 : aw b = true := by rfl) :
    ai X (.Call (.Name "max" p) [a, b] [] pos) (e2 Aa fa fb) := by
  refine Dx T j hG hm fQ PyProof.Rows.boot_max (wa T.calm) (fun H x y d e Q hx hy q => ?_) ha hb he he2
  cases d with
  | int i =>
    cases e with
    | int j => exact ⟨i, j, by rw [bP hx, bP hy], q _ H (aE.refl _) de⟩
    | _ => exact q.elim
  | _ => exact q.elim
theorem Z.ul (T : Tb X nl G) (j : Nat) (hG : G[j]? = some ("max" : Str)) (hm : X.mg "max" = none) (ha : Z.bK X a fa) (hb : Z.bK X b fb) (he : aw a = true := by rfl) (he2 : aw b = true := by rfl) : Z.ai X (.Call (.Name "max" p) [a, b] [] pos) (e2 Aa fa fb) :=
  ⟨D2.ul T j hG hm ha.un hb.un he he2⟩
def cs : PyData → R PyData
  | .list ds => .ok (.tuple ds)
  | .tuple ds => .ok (.tuple ds)
  | _ => .no
theorem bO (T : Tb X nl G) (j : Nat) (hG : G[j]? = some ("tuple" : Str)) (hm : X.mg "tuple" = none) (ha : bK X a fa) (he : aw a = true := by rfl) : ai X (.Call (.Name "tuple" p) [a] [] pos) (e1 cs fa) := by
  refine Cl T j hG hm fQ PyProof.Rows.boot_tuple pk (fun H x d Q hx q => ?_) ha he
  cases d with
  | list ds =>
    obtain ⟨a', vs, rfl, h, r⟩ := dL (K := X.K) hx
    exact ⟨a', vs, rfl, .inl ⟨h, fun l hl => q _ _ (ce hl _) (df hl r)⟩⟩
  | tuple ds =>
    obtain ⟨a', vs, rfl, h, r⟩ := dm hx
    exact ⟨a', vs, rfl, .inr ⟨eI.of h, q _ H (aE.refl _) (by simp only [Rp]; exact ⟨a', vs, rfl, h, r⟩)⟩⟩
  | _ => exact q.elim
theorem Z.bO (T : Tb X nl G) (j : Nat) (hG : G[j]? = some ("tuple" : Str)) (hm : X.mg "tuple" = none) (ha : Z.bK X a fa) (he : aw a = true := by rfl) : Z.ai X (.Call (.Name "tuple" p) [a] [] pos) (e1 cs fa) :=
  ⟨D2.bO T j hG hm ha.un he⟩
def p8 : PyData → R PyData
  | .list ds => .ok (.list ds)
  | .tuple ds => .ok (.list ds)
  | _ => .no
theorem lG (T : Tb X nl G) (j : Nat) (hG : G[j]? = some ("list" : Str)) (hm : X.mg "list" = none) (ha : bK X a fa) (he : aw a = true := by rfl) : gg X (.Call (.Name "list" p) [a] [] pos) (e1 p8 fa) := by
  refine Cl T j hG hm A6 PyProof.Rows.boot_list qT (fun H x d Q hx q => ?_) ha he
  cases d with
  | list ds =>
    obtain ⟨a', vs, rfl, h, r⟩ := dL (K := X.K) hx
    exact ⟨a', vs, rfl, .inl h, fun l hl => q _ _ (ce hl _) (dO hl r)⟩
  | tuple ds =>
    obtain ⟨a', vs, rfl, h, r⟩ := dm hx
    exact ⟨a', vs, rfl, .inr (eI.of h), fun l hl => q _ _ (ce hl _) (dO hl r)⟩
  | _ => exact q.elim
theorem Z.lG (T : Tb X nl G) (j : Nat) (hG : G[j]? = some ("list" : Str)) (hm : X.mg "list" = none) (ha : Z.bK X a fa) (he : aw a = true := by rfl) : Z.gg X (.Call (.Name "list" p) [a] [] pos) (e1 p8 fa) :=
  ⟨D2.lG T j hG hm ha.un he⟩
inductive Ty where
  | int | bool | str | list | tuple
def Ty.nm : Ty → String
  | .int => "int"
  | .bool => "bool"
  | .str => "str"
  | .list => "list"
  | .tuple => "tuple"
def CQ : Ty → PyData → Bool
  | .int, .int _ => true
  | .int, .bool _ => true
  | .bool, .bool _ => true
  | .str, .str _ => true
  | .list, .list _ => true
  | .tuple, .tuple _ => true
  | _, _ => false
def ju (T : Ty) : PyData → R PyData
  | .dict _ => .no
  | d => .ok (.bool (CQ T d))
theorem yY : dP X (.builtin "isinstance") (fun xs H Q => ∃ x t T k, xs = [x, .ty T] ∧ kU X.K H x t ∧ PySem.W.kitOne X.K t (.type T) = some k ∧ Q (.bl k) H) := by
  intro pins s σ H xs us Q I r h
  obtain ⟨x, t, T, k, rfl, ty, e, q⟩ := h
  obtain ⟨u, w', rfl, rx, ry⟩ := vM r
  cases ry
  exact vW I rx ty e fun tk => ⟨.bl k, H, I.tok tk, rfl, q⟩
theorem Eh {K : PySem.W.Frag} {H : Hp} {d : PyData} {v : V} (h : ie H d v) : (∃ kvs, d = .dict kvs) ∨ ∃ t, kU K H v t ∧ ∀ T : Ty, PySem.W.kitOne K t (.type T.nm) = some (CQ T d) := by
  cases d with
  | none => rw [lr h]; exact .inr ⟨_, .non, fun T => by cases T <;> rfl⟩
  | bool k => rw [oK h]; exact .inr ⟨_, .bl k, fun T => by cases T <;> rfl⟩
  | int i => rw [bP h]; exact .inr ⟨_, .int i, fun T => by cases T <;> rfl⟩
  | str y => rw [gV h]; exact .inr ⟨_, .str y, fun T => by cases T <;> rfl⟩
  | tuple ds => obtain ⟨a, vs, rfl, ha, _⟩ := dm h; exact .inr ⟨_, .tup ha, fun T => by cases T <;> rfl⟩
  | list ds =>
    obtain ⟨a, vs, rfl, ha, _⟩ := qF h
    rcases ha with ha | ⟨o, ha⟩
    · exact .inr ⟨_, .lst ha, fun T => by cases T <;> rfl⟩
    · exact .inr ⟨_, .frz ha, fun T => by cases T <;> rfl⟩
  | dict kvs => exact .inl ⟨kvs, rfl⟩
theorem uH (ty : Ty) {y : Str} {py : Pos} (T : Tb X nl G) (j : Nat) (hG : G[j]? = some ("isinstance" : Str)) (hm : X.mg "isinstance" = none) (hy : bootBuiltins y = some (.type ty.nm)) (T' : Tb X nl G) (j' : Nat) (hG' : G[j']? = some y) (hm' : X.mg y = none) (ha : bK X a fa)
    (he : aw a = true := by rfl) : ai X (.Call (.Name "isinstance" p) [a, .Name y py] [] pos) (e1 (ju ty) fa) := by
  have g := T.gl _ (List.mem_of_getElem? hG)
  have g' := T.gl _ (List.mem_of_getElem? hG')
  have hp : PE X (.Name y py) (tC (.ty ty.nm)) := Aq g'.1 hm' hy rfl g'.2.2 g'.2.1
  refine PE.imp (oR yY g.1 hm PyProof.Rows.boot_isinstance (qZ ha (qZ hp ya) (bg he)) g.2.2 g.2.1 (bg he)) fun σ H Q h => ?_
  refine (ff (P := vT) (f := fa) (k := fun _ d => ju ty d) (e8 (X := X) fQ Q) h).post fun v H1 ⟨_, d, _, _, p1, q1⟩ => ?_
  show ∃ x t T k, _ ∧ _ ∧ _ ∧ _
  rcases Eh (K := X.K) p1 with ⟨kvs, rfl⟩ | ⟨t, ht, hk⟩
  · exact q1.elim
  · refine ⟨v, t, ty.nm, CQ ty d, rfl, ht, hk ty, ?_⟩
    cases d with
    | dict kvs => exact q1.elim
    | _ => exact q1 _ H1 (aE.refl _) eY
theorem kG {py : Pos} (T : Tb X nl G) (j : Nat) (hG : G[j]? = some ("isinstance" : Str)) (hm : X.mg "isinstance" = none) (T' : Tb X nl G) (j' : Nat) (hG' : G[j']? = some ("int" : Str)) (hm' : X.mg "int" = none) (ha : bK X a fa)
    (he : aw a = true := by rfl) : ai X (.Call (.Name "isinstance" p) [a, .Name "int" py] [] pos) (e1 (ju .int) fa) := uH .int T j hG hm PyProof.Rows.boot_int T' j' hG' hm' ha he
theorem Z.kG {py : Pos} (T : Tb X nl G) (j : Nat) (hG : G[j]? = some ("isinstance" : Str)) (hm : X.mg "isinstance" = none) (T' : Tb X nl G) (j' : Nat) (hG' : G[j']? = some ("int" : Str)) (hm' : X.mg "int" = none) (ha : Z.bK X a fa) (he : aw a = true := by rfl) : Z.ai X (.Call (.Name "isinstance" p) [a, .Name "int" py] [] pos) (e1 (ju .int) fa) :=
  ⟨D2.kG T j hG hm T' j' hG' hm' ha.un he⟩
theorem jn {py : Pos} (T : Tb X nl G) (j : Nat) (hG : G[j]? = some ("isinstance" : Str)) (hm : X.mg "isinstance" = none) (T' : Tb X nl G) (j' : Nat) (hG' : G[j']? = some ("bool" : Str)) (hm' : X.mg "bool" = none) (ha : bK X a fa)
    (he : aw a = true := by rfl) : ai X (.Call (.Name "isinstance" p) [a, .Name "bool" py] [] pos) (e1 (ju .bool) fa) := uH .bool T j hG hm PyProof.Rows.boot_bool T' j' hG' hm' ha he
theorem Z.jn {py : Pos} (T : Tb X nl G) (j : Nat) (hG : G[j]? = some ("isinstance" : Str)) (hm : X.mg "isinstance" = none) (T' : Tb X nl G) (j' : Nat) (hG' : G[j']? = some ("bool" : Str)) (hm' : X.mg "bool" = none) (ha : Z.bK X a fa) (he : aw a = true := by rfl) : Z.ai X (.Call (.Name "isinstance" p) [a, .Name "bool" py] [] pos) (e1 (ju .bool) fa) :=
  ⟨D2.jn T j hG hm T' j' hG' hm' ha.un he⟩
theorem gm {py : Pos} (T : Tb X nl G) (j : Nat) (hG : G[j]? = some ("isinstance" : Str)) (hm : X.mg "isinstance" = none) (T' : Tb X nl G) (j' : Nat) (hG' : G[j']? = some ("tuple" : Str)) (hm' : X.mg "tuple" = none) (ha : bK X a fa)
    (he : aw a = true := by rfl) : ai X (.Call (.Name "isinstance" p) [a, .Name "tuple" py] [] pos) (e1 (ju .tuple) fa) := uH .tuple T j hG hm PyProof.Rows.boot_tuple T' j' hG' hm' ha he
theorem Z.gm {py : Pos} (T : Tb X nl G) (j : Nat) (hG : G[j]? = some ("isinstance" : Str)) (hm : X.mg "isinstance" = none) (T' : Tb X nl G) (j' : Nat) (hG' : G[j']? = some ("tuple" : Str)) (hm' : X.mg "tuple" = none) (ha : Z.bK X a fa) (he : aw a = true := by rfl) : Z.ai X (.Call (.Name "isinstance" p) [a, .Name "tuple" py] [] pos) (e1 (ju .tuple) fa) :=
  ⟨D2.gm T j hG hm T' j' hG' hm' ha.un he⟩
def la : List PyData → Option Bool
  | [] => some true
  | .bool k :: ds => (la ds).map fun r => k && r
  | _ => none
def lP : PyData → R PyData
  | .list ds => match la ds with
    | some k => .ok (.bool k)
    | none => .no
  | _ => .no
end
section
variable {X : Cx} {tg a b c : Expr} {fa fb fc : Fe} {pos p2 : Pos} {nl : Nat} {G : List Str} {x : Str} {p : Pos} {fs : aN → R (List PyData)} {es : List Expr}
def iA : PyData → R (List PyData)
  | .list ds => .ok ds
  | .tuple ds => .ok ds
  | _ => .no
def eB (f : Fe) : aN → R (List PyData) := fun ρ => f ρ >>= iA
theorem xX {K : PySem.W.Frag} {a : Addr} {ds : List PyData} : zu (Fb K a) (fun H => ∃ o vs, H a = some (.frz o (.lst vs)) ∧ bw H ds vs) ds where
  go := fun i H ⟨o, vs, h, r⟩ hi => by
    have hl := r.length
    exact ⟨vs, vs[i], .inl (.inr ⟨o, h⟩), List.getElem?_eq_getElem (by omega)⟩
  yld := fun i H x H' d ⟨o, vs, h, r⟩ hd ⟨e, y⟩ => by
    subst e
    obtain ⟨v, e1, p⟩ := r.get hd
    have := y vs (.inl (.inr ⟨o, h⟩))
    rw [e1] at this
    cases this
    exact ⟨aE.refl _, p⟩
  stop := fun i H ⟨o, vs, h, r⟩ hi => ⟨vs, .inl (.inr ⟨o, h⟩), by rw [r.length]; exact hi⟩
theorem AA {K : PySem.W.Frag} {a : Addr} {ds : List PyData} : zu (EO K a) (fun H => ∃ vs, H a = some (.tup vs) ∧ bw H ds vs) ds where
  go := fun i H ⟨vs, h, r⟩ hi => by
    have hl := r.length
    exact ⟨vs, vs[i], eI.of h, List.getElem?_eq_getElem (by omega)⟩
  yld := fun i H x H' d ⟨vs, h, r⟩ hd ⟨e, y⟩ => by
    subst e
    obtain ⟨v, e1, p⟩ := r.get hd
    have := y vs (eI.of h)
    rw [e1] at this
    cases this
    exact ⟨aE.refl _, p⟩
  stop := fun i H ⟨vs, h, r⟩ hi => ⟨vs, eI.of h, by rw [r.length]; exact hi⟩
def FH (K : PySem.W.Frag) (tl : TE) : TI := fun σ H R => tl σ H fun x H1 => ∃ a, x = .ref a ∧ ((∃ xs, mX K H1 a xs ∧ R (Fb K a) H1) ∨ ∃ xs, eI K H1 a xs ∧ R (EO K a) H1)
theorem DM {l : Expr} {tl : TE} (hl : PE X l tl) : PI X tg l (FH X.K tl) := by
  intro pins s σ H R I h
  refine cQ (hl pins s σ H _ I h) fun v s1 ⟨x, H1, I1, r1, q1⟩ => ?_
  obtain ⟨a, e, q⟩ := q1
  subst e
  cases r1
  rcases q with ⟨xs, hq, q⟩ | ⟨xs, hq, q⟩
  · obtain ⟨its, rv, p, hz⟩ := I1.list hq
    refine wpAny_pyIter_list p.isList ?_
    refine ⟨s1.heap.objs.size, [s1.heap.objs.size], _, _, H1, rfl, I1.kept (t' := s1.toks) fun b o e => Heap.get?_push_of_some _ e, w6 a _, ⟨_, Heap.get?_push_size _ rfl, rfl, rfl⟩, fun b hb => ?_, q⟩
    have e : b = s1.heap.objs.size := by simpa using hb
    subst e
    exact I1.fpOk (Nat.le_refl _) (I1.hok.fresh (Nat.le_refl _))
  · obtain ⟨its, rv, p, hz⟩ := I1.tuple hq
    refine wpAny_pyIter_tuple (show s1.heap.IsTuple a its.toArray from p) ?_
    refine ⟨s1.heap.objs.size, [s1.heap.objs.size], _, _, H1, rfl, I1.kept (t' := s1.toks) fun b o e => Heap.get?_push_of_some _ e, uw a _, ⟨_, Heap.get?_push_size _ rfl, rfl, rfl⟩, fun b hb => ?_, q⟩
    have e : b = s1.heap.objs.size := by simpa using hb
    subst e
    exact I1.fpOk (Nat.le_refl _) (I1.hok.fresh (Nat.le_refl _))
theorem Dz (Rk : It → Hp → Prop) : AT X (fun (r : R (List PyData)) H => match r with | .ok ds => ∀ J H', aE H H' → (∃ Gd, zu J Gd ds ∧ Ey H' (fun _ => False) Gd) → Rk J H' | .ex c => Xw X c H | .no => False) where
  mono := fun r H H' h s => by
    cases r with
    | ok d => exact fun J H2 s2 => h J H2 (s.trans s2)
    | ex c => exact Xw.mono h s
    | no => exact h
  ex := fun c H h => h
  no := fun H h => h
theorem cE (ha : ai X a fa) : pc X tg a (eB fa) :=
  PI.imp (DM ha) fun σ H Rk h => (ff (P := gR) (f := fa) (k := fun _ => iA) (Dz (X := X) Rk) h).post fun v H1 ⟨_, d, _, _, p1, q1⟩ => by
    cases d with
    | list ds =>
      simp only [Rp] at p1
      obtain ⟨a', o, vs, rfl, h, r⟩ := p1
      exact ⟨a', rfl, .inl ⟨vs, .inl (.inr ⟨o, h⟩), q1 _ H1 (aE.refl _) ⟨_, xX, fun H2 k _ => ⟨o, vs, k.2 _ _ _ h, bw.kp k _ _ r⟩⟩⟩⟩
    | tuple ds =>
      simp only [Rp] at p1
      obtain ⟨a', vs, rfl, h, r⟩ := p1
      exact ⟨a', rfl, .inr ⟨vs, eI.of h, q1 _ H1 (aE.refl _) ⟨_, AA, fun H2 k _ => ⟨vs, k.1 _ _ h, bw.kp k _ _ r⟩⟩⟩⟩
    | _ => exact q1.elim
theorem Z.cE (ha : Z.ai X a fa) : Z.pc X tg a (eB fa) :=
  ⟨D2.cE ha.un⟩
def bG (lo : Int) (n : Nat) : List PyData := (List.range n).map fun (k : Nat) => .int (lo + k)
def pd : List PyData → R (List PyData)
  | [.int j] => if -(2 ^ 62) ≤ j ∧ j < 2 ^ 62 then .ok (bG 0 j.toNat) else .no
  | [.int i, .int j] => if -(2 ^ 62) ≤ i ∧ i < 2 ^ 62 ∧ -(2 ^ 62) ≤ j ∧ j < 2 ^ 62 then .ok (bG i (j - i).toNat) else .no
  | _ => .no
def h8 (fs : aN → R (List PyData)) : aN → R (List PyData) := fun ρ => fs ρ >>= pd
theorem v7 {lo : Int} {n : Nat} : zu (Ep lo n) (fun _ => True) (bG lo n) where
  go := fun i H _ hi => by
    show i < n
    simpa [bG] using hi
  yld := fun i H x H' d _ hd ⟨e, y⟩ => by
    subst e
    subst y
    refine ⟨aE.refl _, ?_⟩
    unfold bG at hd
    rw [List.getElem?_map] at hd
    cases h : (List.range n)[i]? with
    | none => rw [h] at hd; cases hd
    | some k =>
      rw [h] at hd
      have hk : k = i := by
        rw [List.getElem?_range] at h
        · exact (Option.some.inj h).symm
        · have := (List.getElem?_eq_some_iff.mp h).1
          simpa using this
      subst hk
      cases hd
      exact de
  stop := fun i H _ hi => by
    show n ≤ i
    simpa [bG] using hi
theorem fE (T : Tb X nl G) (j : Nat) (hG : G[j]? = some ("range" : Str)) (hm : X.mg "range" = none) (ha : pE X [a] fs) (hl : ∀ ρ ds, fs ρ = .ok ds → ds.length = 1) (hs : aw a = true := by rfl) : pc X tg (.Call (.Name "range" p) [a] [] pos) (h8 fs) :=
  PI.imp (wQ (T.gl _ (List.mem_of_getElem? hG)).1 hm ha (bg hs)) fun σ H Rk ⟨ρ, sl, q⟩ => by
    refine ⟨ρ, sl, ?_⟩
    dsimp only [h8] at q
    cases e : fs ρ with
    | ex c => rw [e] at q; exact q
    | no => rw [e] at q; exact q
    | ok ds =>
      rw [e] at q
      have hlen := hl ρ ds e
      intro vs H1 s1 r1
      match ds, hlen with
      | [d], _ =>
        simp only [RA] at r1
        obtain ⟨v, r', rfl, p1, rfl⟩ := r1
        cases d with
        | int j =>
          have ev : v = .int j := by simpa only [Rp] using p1
          subst ev
          by_cases hz : -(2 ^ 62) ≤ j ∧ j < 2 ^ 62
          · have e2 : pd [.int j] = .ok (bG 0 j.toNat) := if_pos hz
            rw [R.ok_bind, e2] at q
            exact ⟨j, rfl, hz.1, hz.2, q _ H1 s1 ⟨_, v7, fun _ _ _ => True.intro⟩⟩
          · have e2 : pd [.int j] = .no := if_neg hz
            rw [R.ok_bind, e2] at q
            exact q.elim
        | _ => exact q.elim
theorem Z.fE (T : Tb X nl G) (j : Nat) (hG : G[j]? = some ("range" : Str)) (hm : X.mg "range" = none) (ha : Z.pE X [a] fs) (hl : ∀ ρ ds, fs ρ = .ok ds → ds.length = 1) (hs : aw a = true := by rfl) : Z.pc X tg (.Call (.Name "range" p) [a] [] pos) (h8 fs) :=
  ⟨D2.fE T j hG hm ha.un hl hs⟩
end
def uD (x : Int) : List Int → List Int
  | [] => [x]
  | y :: r => if x ≤ y then x :: y :: r else y :: uD x r
def gf : List Int → List Int
  | [] => []
  | x :: r => uD x (gf r)
theorem lW (x : Int) : ∀ l, (uD x l).Perm (x :: l)
  | [] => List.Perm.refl _
  | y :: r => by
    unfold uD
    split
    · exact List.Perm.refl _
    · exact ((lW x r).cons y).trans (List.Perm.swap x y r)
theorem fF : ∀ l, (gf l).Perm l
  | [] => List.Perm.refl _
  | x :: r => (lW x (gf r)).trans ((fF r).cons x)
theorem mG (x : Int) : ∀ l, l.Pairwise (· ≤ ·) → (uD x l).Pairwise (· ≤ ·)
  | [], _ => by unfold uD; exact List.pairwise_singleton _ _
  | y :: r, h => by
    have h' := List.pairwise_cons.mp h
    unfold uD
    split
    · rename_i hxy
      refine List.pairwise_cons.mpr ⟨fun z hz => ?_, h⟩
      rcases List.mem_cons.mp hz with rfl | hz
      · exact hxy
      · exact Int.le_trans hxy (h'.1 z hz)
    · rename_i hxy
      refine List.pairwise_cons.mpr ⟨fun z hz => ?_, mG x r h'.2⟩
      rcases List.mem_cons.mp ((lW x r).mem_iff.mp hz) with rfl | hz
      · omega
      · exact h'.1 z hz
theorem iN : ∀ l, (gf l).Pairwise (· ≤ ·)
  | [] => List.Pairwise.nil
  | x :: r => mG x _ (iN r)
theorem rE {a b : List Int} (hp : a.Perm b) (hs : a.Pairwise (· ≤ ·)) : a = gf b := PySem.W.ksm_same (hp.trans (fF b).symm) hs (iN b)
section
variable {prog : Program} {w : World} {A : Around} {E : Value → Shared → Prop} {s : Shared}
theorem rF {d : Addr} {kvs : List (cT × Value)} {ns : List Int} {Q : Value → Shared → Prop} (hh : A.handled = none) (lo : (d == sysModules) = false) (hd : s.heap.DictOf (cY prog w) d kvs) (hk : kvs.map (·.1) = ns.map Sum.inl) (h64 : ns.length < 64)
    (h : ∀ (D : Addr) (h' : Heap) (tk : Nat) (vs : List Value) (e : Nat), s.heap.get? D = none → (∀ b o, s.heap.get? b = some o → h'.get? b = some o) → h'.get? D = some (seqObj "list" vs.toArray e) → IntsAre vs (gf ns) → Q (.ref D) { s with heap := h', toks := tk }) :
    wpAny (model prog w) A (call (.builtin "sorted") [.ref d]) Q E s := by
  obtain ⟨ep, hat⟩ := hd.dictAt
  have hlen : kvs.length = ns.length := by have := congrArg List.length hk; simpa using this
  have hn : kvs.length ≤ sizeLine := by rw [sizeLine_eq]; omega
  refine Calls.call_function_entry kind_sorted plain_sorted entry_sorted (args_sorted1 _) ?_
  unfold Builtin.«sorted»
  refine wpAny_bind (m := checkCount "sorted" 1 1 _) (wpAny_pure ?_)
  refine wpAny_bind (PySem.W.kdu_collect (A := A.in1) (PySem.W.kdl_dict (knd := cY prog w) (kvs := kvs) (ep := ep) lo) hh hat hn fun h1 tk acc hk1 hacc => ?_)
  have hl : acc.toList.length = kvs.length := by rw [Array.length_toList]; exact hacc.1
  have hI : IntsAre acc.toList ns := by
    have key : ∀ (l : List Value) (ms : List Int) (k : Nat), l.length = ms.length → (∀ (j : Nat) (v : Value), l[j]? = some v → ∃ n : Int, ms[j]? = some n ∧ ∃ t, v = Value.int n t) → IntsAre l ms := by
      intro l
      induction l with
      | nil => intro ms k e _; have : ms = [] := List.length_eq_zero_iff.mp e.symm; subst this; exact .nil
      | cons v r ih =>
        intro ms k e hv
        cases ms with
        | nil => cases e
        | cons n ms =>
          obtain ⟨n', e1, t, rfl⟩ := hv 0 v rfl
          have : n = n' := Option.some.inj e1
          subst this
          exact .cons n t (ih ms (k + 1) (by simpa using e) fun j u hu => hv (j + 1) u (by simpa using hu))
    refine key acc.toList ns 0 (by rw [hl, hlen]) fun j v hv => ?_
    obtain ⟨κ, x, hx, his⟩ := hacc.2 j v (by rw [← Array.getElem?_toList]; exact hv)
    have e1 : (kvs.map (·.1))[j]? = some κ := by rw [List.getElem?_map, hx]; rfl
    rw [hk, List.getElem?_map] at e1
    cases e2 : ns[j]? with
    | none => rw [e2] at e1; cases e1
    | some n =>
      rw [e2] at e1
      have e3 : Sum.inl n = κ := Option.some.inj e1
      subst e3
      rcases cy (show n6 (Sum.inl n) v = true from his) with ⟨i, t, e4, e5⟩ | ⟨y, t, e4, _⟩
      · cases e4; exact ⟨n, rfl, t, e5⟩
      · cases e4
  refine wpAny_bind (wpAny_newList ?_ (by rw [hl]; exact hn))
  have hoL : (h1.push (seqObj "list" acc.toList.toArray 0)).get? h1.objs.size = some (seqObj "list" acc.toList.toArray 0) := Heap.get?_push_size _ rfl
  show wpAny _ _ _ _ _ { s with heap := h1.push (seqObj "list" acc.toList.toArray 0), toks := tk }
  refine wpAny_bind (wpAny_holding (wpAny_call_entry slot_list_sort ⟨_, hoL, rfl⟩ entry_list_sort (list_sort_tree hoL hI (by rw [hl, hlen]; exact h64) fun out ns' a1 a2 a3 => ⟨_, rfl, ?_⟩) (args_list_sort _)))
  refine wpAny_pure ⟨_, rfl, ?_⟩
  obtain ⟨e, he⟩ := sortedHeap_at (out := out) hoL
  have hsz : s.heap.get? h1.objs.size = none := by
    cases q : s.heap.get? h1.objs.size with
    | none => rfl
    | some o => exact absurd (Heap.lt_size (hk1 _ _ q)) (Nat.lt_irrefl _)
  refine h h1.objs.size _ tk out.toList e hsz (fun b o q => ?_) he (by rw [rE a2 a3] at a1; exact a1)
  have q1 := hk1 b o q
  have hlt : b < h1.objs.size := Heap.lt_size q1
  show (sortedHeap (h1.push (seqObj "list" acc.toList.toArray 0)) h1.objs.size acc.toList out).get? b = some o
  rw [sortedHeap_old (Nat.ne_of_lt hlt) (by rw [size_push']; exact Nat.lt_succ_of_lt hlt)]
  exact Heap.get?_push_of_some _ q1
end
theorem zO {fs ex : List Addr} {H : Hp} {h h' : Heap} {a : Addr} {o : HO} (k : ∀ b u, h.get? b = some u → h'.get? b = some u) (hg : h.get? a = none) (hn : H a = none) : Un fs ex H (cm H a o) h h' := by
  have ne : ∀ {b : Addr} {u : Obj}, h.get? b = some u → b ≠ a := fun e z => by subst z; rw [hg] at e; cases e
  exact ⟨fun b u q _ _ _ => k b u q, fun b u q _ _ _ => ⟨u.slots, k b u q⟩, fun b u q n _ => by rw [au (ne q)]; exact n, fun b u q _ => ⟨u, k b u q⟩, fun b xs q => by rw [au (aR q hn)]; exact q, fun b u xs q => by rw [au (aR q hn)]; exact q,
    fun b ps q => ⟨#[], by rw [au (aR q hn), q]; simp⟩⟩
theorem sC {X : Cx} {pins : List (Addr × Obj)} {σ : St} {H : Hp} {s : Shared} {h' : Heap} {a : Addr} {o : HO} {t' : Nat} (I : aM X pins σ H s) (k : ∀ b u, s.heap.get? b = some u → h'.get? b = some u) (hg : s.heap.get? a = none) (hn : H a = none)
    (new : bR X.prog X.w (cm H a o) h' a o) : aM X pins σ (cm H a o) { s with heap := h', toks := t' } := by
  refine I.un (zO k hg hn) fun b u e => ?_
  by_cases hb : b = a
  · subst hb; rw [bd] at e; cases e; exact new
  · rw [au hb] at e
    exact (I.hok b u e).stay (fun c v _ q => k c v q) (fun c q => by rw [au (aR q hn)]; exact q) fun c xs q => by rw [au (aR q hn)]; exact q
theorem sA {X : Cx} {pins : List (Addr × Obj)} {σ : St} {H : Hp} {s : Shared} {a : Addr} (I : aM X pins σ H s) (hg : s.heap.get? a = none) : H a = none := by
  cases q : H a with
  | none => rfl
  | some o => obtain ⟨u, e⟩ := qY (I.hok a o q); rw [hg] at e; cases e
section
variable {X : Cx} {a b c : Expr} {fa fb fc : Fe} {pos p2 : Pos} {nl : Nat} {G : List Str} {x : Str} {p : Pos}
def dc : List PyData → Option (List Int)
  | [] => some []
  | .int i :: ds => (dc ds).map fun r => i :: r
  | _ => none
theorem fj : ∀ {ds : List PyData} {ns : List Int}, dc ds = some ns → ds = ns.map PyData.int
  | [], ns, h => by cases h; rfl
  | d :: ds, ns, h => by
    cases d with
    | int i =>
      simp only [dc] at h
      cases e : dc ds with
      | none => rw [e] at h; cases h
      | some r =>
        rw [e] at h
        cases h
        rw [List.map_cons, fj e]
    | _ => cases h
theorem gM : ∀ ns : List Int, dc (ns.map PyData.int) = some ns
  | [] => rfl
  | n :: ns => by simp only [List.map_cons, dc, gM ns, Option.map_some]
def jX : PyData → R PyData
  | .list ds => match dc ds with
    | some ns => if ns.length < 64 then .ok (.list ((gf ns).map PyData.int)) else .no
    | none => .no
  | .dict kvs => match dc (kvs.map (·.1)) with
    | some ns => if ns.length < 64 then .ok (.list ((gf ns).map PyData.int)) else .no
    | none => .no
  | _ => .no
def BA (K : PySem.W.Frag) : List V → Hp → VK → Prop := fun xs H Q => ∃ p ns, xs = [.ref p] ∧ mX K H p (ns.map V.int) ∧ ns.length < 64 ∧ ∀ l, H l = none → Q (.ref l) (cm H l (.lst ((gf ns).map V.int)))
def Ci : List V → Hp → VK → Prop := fun xs H Q => ∃ p ks ns, xs = [.ref p] ∧ Rd H p (.dK ks) ∧ ks.map (·.1) = ns.map Sum.inl ∧ ns.length < 64 ∧ ∀ l, H l = none → Q (.ref l) (cm H l (.lst ((gf ns).map V.int)))
theorem p7 (ns : List Int) : (gf ns).length = ns.length := (fF ns).length_eq
theorem uN : dP X (.builtin "sorted") (BA X.K) := by
  intro pins s σ H xs us Q I r h
  obtain ⟨p, ns, rfl, hq, h64, q⟩ := h
  obtain ⟨u, rfl, rx⟩ := gy r
  cases rx
  obtain ⟨its, rv, pl, hz⟩ := I.list hq
  have hI : IntsAre its ns := iS rv
  have hl := IntsAre.length hI
  refine sorted_ints pl.isList hI (by omega) fun out ns' a1 a2 a3 => ?_
  rw [rE a2 a3] at a1
  obtain ⟨e, he⟩ := sortedAll_at s.heap its out
  refine ⟨.ref (s.heap.objs.size + 1), _, I.laid (t' := s.toks) (o := .lst ((gf ns).map V.int)) (fun b o e => sortedAll_old e) (Nat.le_succ _) ⟨?_, out.toList, e, j8 a1, by simpa [seqObj] using he⟩, rfl, q _ (I.hok.fresh (Nat.le_succ _))⟩
  rw [List.length_map, p7, sizeLine_eq]; omega
theorem uL (hc : X.calm = true) : dP X (.builtin "sorted") Ci := by
  intro pins s σ H xs us Q I r h
  obtain ⟨p, ks, ns, rfl, hq, hk, h64, q⟩ := h
  obtain ⟨u, rfl, rx⟩ := gy r
  cases rx
  obtain ⟨hz, hlo, vs, kv, hd⟩ := o2 I.hok hq
  refine rF (I.ok.hd hc) hlo hd (by rw [← kv.keys]; exact hk) h64 fun D h' tk vs' e hg kp hD hI => ?_
  have hn := sA I hg
  refine ⟨.ref D, _, sC (t' := tk) (o := .lst ((gf ns).map V.int)) I kp hg hn ⟨?_, vs', e, j8 hI, by simpa [seqObj] using hD⟩, rfl, q _ hn⟩
  rw [List.length_map, p7, sizeLine_eq]; omega
theorem k8 : ∀ {H : Hp} {ns : List Int} {vs : List V}, bw H (ns.map PyData.int) vs → vs = ns.map V.int
  | H, [], vs, r => by rw [List.map_nil] at r; rw [r.nil_inv]; rfl
  | H, n :: ns, vs, r => by
    rw [List.map_cons] at r
    obtain ⟨v, r', rfl, p, t⟩ := r.cons_inv
    have : v = .int n := by simpa only [Rp] using p
    rw [this, k8 t]; rfl
theorem rN : ∀ {H : Hp} {kvs : List (PyData × PyData)} {ks : List (cT × V)}, eh H kvs ks → kvs.map (·.1) = ks.map fun k => fY k.1
  | H, [], ks, r => by simp only [eh] at r; rw [r]; rfl
  | H, (k, d) :: kvs, ks, r => by
    simp only [eh, zA] at r
    obtain ⟨x, v, r', rfl, ⟨e, _⟩, t⟩ := r
    rw [List.map_cons, List.map_cons, rN t, e]
theorem pH : ∀ {ks : List (cT × V)} {ns : List Int}, (ks.map fun k => fY k.1) = ns.map PyData.int → ks.map (·.1) = ns.map Sum.inl
  | [], [], _ => rfl
  | [], _ :: _, h => by cases h
  | _ :: _, [], h => by cases h
  | (k, v) :: ks, n :: ns, h => by
    rw [List.map_cons, List.map_cons] at h
    injection h with h1 h2
    rw [List.map_cons, List.map_cons, pH h2]
    cases k with
    | inl i => simp only [fY] at h1; cases h1; rfl
    | inr y => simp only [fY] at h1; cases h1
theorem kL (T : Tb X nl G) (j : Nat) (hG : G[j]? = some ("sorted" : Str)) (hm : X.mg "sorted" = none) (ha : bK X a fa) (he : aw a = true := by rfl) : gg X (.Call (.Name "sorted" p) [a] [] pos) (e1 jX fa) := by
  refine Ab T j hG hm A6 PyProof.Rows.boot_sorted (uN.or (uL T.calm)) (fun H x d Q hx q => ?_) ha he
  cases d with
  | list ds =>
    simp only [jX] at q
    cases ei : dc ds with
    | none => rw [ei] at q; exact q.elim
    | some ns =>
      rw [ei] at q
      dsimp only at q
      by_cases h64 : ns.length < 64
      · rw [if_pos h64] at q
        obtain ⟨a', vs, rfl, h, r⟩ := dL (K := X.K) hx
        rw [fj ei] at r
        rw [k8 r] at h
        exact .inl ⟨a', ns, rfl, h, h64, fun l hl => q _ _ (ce hl _) (dO hl (bw.ints _))⟩
      · rw [if_neg h64] at q; exact q.elim
  | dict kvs =>
    simp only [jX] at q
    cases ei : dc (kvs.map (·.1)) with
    | none => rw [ei] at q; exact q.elim
    | some ns =>
      rw [ei] at q
      dsimp only at q
      by_cases h64 : ns.length < 64
      · rw [if_pos h64] at q
        have hi : p6 kvs = false := by
          cases kvs with
          | nil => rfl
          | cons kd kvs =>
            obtain ⟨k, d⟩ := kd
            cases k <;> first | rfl | (simp [dc] at ei)
        obtain ⟨a', ks, rfl, h, r⟩ := lg hi hx
        have hk := pH ((rN r).symm.trans (fj ei))
        exact .inr ⟨a', ks, ns, rfl, h, hk, h64, fun l hl => q _ _ (ce hl _) (dO hl (bw.ints _))⟩
      · rw [if_neg h64] at q; exact q.elim
  | _ => exact q.elim
theorem Z.kL (T : Tb X nl G) (j : Nat) (hG : G[j]? = some ("sorted" : Str)) (hm : X.mg "sorted" = none) (ha : Z.bK X a fa) (he : aw a = true := by rfl) : Z.gg X (.Call (.Name "sorted" p) [a] [] pos) (e1 jX fa) :=
  ⟨D2.kL T j hG hm ha.un he⟩
theorem xa (hc : X.calm = true) : dP X (.builtin "all") (fun xs H Q => ∃ (p : Addr) (bs : List Bool), xs = [.ref p] ∧ mX X.K H p (bs.map V.bl) ∧ Q (.bl (bs.all id)) H) := by
  intro pins s σ H xs us Q I r h
  obtain ⟨p, bs, rfl, hq, q⟩ := h
  obtain ⟨u, rfl, rx⟩ := gy r
  cases rx
  obtain ⟨its, rv, pl, hz⟩ := I.list hq
  have hh : X.A.in1.handled = none := I.ok.hd hc
  have hlt : p ≠ s.heap.objs.size := by obtain ⟨o, e, _⟩ := pl.isList; exact Nat.ne_of_lt (Heap.lt_size e)
  have hits : its = bs.map Value.bool := by
    have key : ∀ (bs : List Bool) (us : List Value), bt (bs.map V.bl) us → us = bs.map Value.bool := by
      intro bs
      induction bs with
      | nil => intro us r; cases r; rfl
      | cons k bs ih => intro us r; rw [List.map_cons] at r; cases r with | cons r1 r2 => rw [ih _ r2]; cases r1; rfl
    exact key bs its rv
  refine call_all_walk (wpAny_pyIter_list pl.isList ?_)
  refine ⟨s.heap.objs.size, _, _, its.toArray.size, _, _, fun i => (bs[i]?).getD true, rfl, Walks.list hh s.heap.objs.size p hlt its.toArray, ⟨⟨_, Heap.get?_push_size _ rfl, rfl, rfl⟩, ?_⟩, fun i v s' Q' E' hv hQ' => ?_, fun h' tk kp => ?_⟩
  · obtain ⟨o, e, r'⟩ := pl.isList
    exact ⟨o, Heap.get?_push_of_some _ e, r'⟩
  · have hv' : its[i]? = some v := by simpa using hv
    rw [hits, List.getElem?_map] at hv'
    cases e : bs[i]? with
    | none => rw [e] at hv'; cases hv'
    | some k =>
      rw [e] at hv'
      cases hv'
      dsimp only at hQ'
      rw [e] at hQ'
      exact wpAny_truthy_bool hQ'
  · have e : ((List.range its.toArray.size).all fun i => (bs[i]?).getD true) = bs.all id := by
      rw [List.size_toArray, hits, List.length_map]
      have key : ∀ (l : List Bool), ((List.range l.length).all fun i => (l[i]?).getD true) = l.all id := by
        intro l
        induction l with
        | nil => rfl
        | cons k l ih =>
          rw [List.length_cons, List.range_succ_eq_map, List.all_cons, List.all_map, List.all_cons, ← ih]
          rfl
      exact key bs
    rw [e]
    refine ⟨.bl (bs.all id), H, I.kept (t' := tk) fun b o g => kp b o (fun z => ?_) (Heap.get?_push_of_some _ g), rfl, q⟩
    rw [List.mem_singleton.mp z] at g
    exact absurd (Heap.lt_size g) (Nat.lt_irrefl _)
theorem sJ : ∀ {ds : List PyData} {k : Bool}, la ds = some k → ∃ bs : List Bool, ds = bs.map PyData.bool ∧ k = bs.all id
  | [], k, h => by cases h; exact ⟨[], rfl, rfl⟩
  | d :: ds, k, h => by
    cases d with
    | bool j =>
      simp only [la] at h
      cases e : la ds with
      | none => rw [e] at h; cases h
      | some r =>
        rw [e] at h
        cases h
        obtain ⟨bs, e1, e2⟩ := sJ e
        exact ⟨j :: bs, by rw [e1]; rfl, by rw [e2]; rfl⟩
    | _ => cases h
theorem pX : ∀ {H : Hp} {ns : List Bool} {vs : List V}, bw H (ns.map PyData.bool) vs → vs = ns.map V.bl
  | H, [], vs, r => by rw [List.map_nil] at r; rw [r.nil_inv]; rfl
  | H, n :: ns, vs, r => by
    rw [List.map_cons] at r
    obtain ⟨v, r', rfl, p, t⟩ := r.cons_inv
    have : v = .bl n := by simpa only [Rp] using p
    rw [this, pX t]; rfl
theorem lS (T : Tb X nl G) (j : Nat) (hG : G[j]? = some ("all" : Str)) (hm : X.mg "all" = none) (ha : bK X a fa) (he : aw a = true := by rfl) : ai X (.Call (.Name "all" p) [a] [] pos) (e1 lP fa) := by
  refine Ab T j hG hm fQ PyProof.Rows.boot_all (xa T.calm) (fun H x d Q hx q => ?_) ha he
  cases d with
  | list ds =>
    simp only [lP] at q
    cases ei : la ds with
    | none => rw [ei] at q; exact q.elim
    | some k =>
      rw [ei] at q
      obtain ⟨bs, e1, e2⟩ := sJ ei
      obtain ⟨a', vs, rfl, h, r⟩ := dL (K := X.K) hx
      rw [e1] at r
      rw [pX r] at h
      refine ⟨a', bs, rfl, h, ?_⟩
      rw [← e2]
      exact q _ H (aE.refl _) eY
  | _ => exact q.elim
theorem Z.lS (T : Tb X nl G) (j : Nat) (hG : G[j]? = some ("all" : Str)) (hm : X.mg "all" = none) (ha : Z.bK X a fa) (he : aw a = true := by rfl) : Z.ai X (.Call (.Name "all" p) [a] [] pos) (e1 lP fa) :=
  ⟨D2.lS T j hG hm ha.un he⟩
end
section
variable {X : Cx} {a b c : Expr} {fa fb fc : Fe} {pos p2 : Pos} {nl : Nat} {G : List Str} {x : Str} {p : Pos}
theorem iI.change {Fm H : Hp} {σ : St} {ρ : aN} {i : Nat} {d d' : PyData} {a : Addr} {u u' : HO} (h : iI Fm H σ ρ) (h1 : ρ[i]? = some (.own d)) (h2 : σ[i]? = some (some (.ref a))) (hu : H a = some u) (hm : (∃ xs, u = .lst xs) ∨ ∃ ks, u = .dK ks)
    (hr : ja (cm H a u') d' (.ref a)) : iI Fm (cm H a u') σ (ρ.set i (.own d')) := by
  have hFa := h.own i d a h1 h2
  have kp : Kp H (cm H a u') := gz hu hm
  have at_i : ∀ (j : Nat) (e : PyData), (ρ.set i (.own d'))[j]? = some (.own e) → ∃ e0, ρ[j]? = some (.own e0) := fun j e q => by
    rw [List.getElem?_set] at q
    by_cases hij : i = j
    · subst hij; exact ⟨d, h1⟩
    · rw [if_neg hij] at q; exact ⟨e, q⟩
  refine ⟨fun b x e => ?_, ⟨by rw [List.length_set]; exact h.sl.1, fun j c w' e1 e2 => ?_⟩, fun j e b e1 e2 => ?_, fun j k e f b e1 e2 e3 e4 => ?_⟩
  · rw [au (aR e hFa)]; exact h.fm b x e
  · rw [List.getElem?_set] at e1
    by_cases hij : i = j
    · subst hij
      rw [if_pos rfl] at e1
      split at e1
      · cases e1
        rw [h2] at e2
        cases e2
        exact ⟨_, rfl, hr⟩
      · cases e1
    · rw [if_neg hij] at e1
      have q := h.sl.2 j c w' e1 e2
      cases c with
      | exc p => exact q
      | non => exact True.intro
      | val d1 => obtain ⟨v, z1, z2⟩ := q; exact ⟨v, z1, Rp.kp kp _ _ z2⟩
      | own d1 =>
        obtain ⟨v, z1, z2⟩ := q
        subst z1
        obtain ⟨b, ob, rfl, hb⟩ := qy z2
        have nb : b ≠ a := fun z => hij (by subst z; exact h.apart i j d d1 b h1 e1 h2 e2)
        refine ⟨_, rfl, ?_⟩
        cases d1 <;> simp only [ja] at z2 ⊢
        · obtain ⟨b', vs, e, hb', r⟩ := z2
          cases e
          exact ⟨b, vs, rfl, by rw [au nb]; exact hb', bw.kp kp _ _ r⟩
        · obtain ⟨b', vs, e, hb', r⟩ := z2
          cases e
          exact ⟨b, vs, rfl, by rw [au nb]; exact hb', eh.kp kp _ _ r⟩
  · obtain ⟨e0, q⟩ := at_i j e e1
    exact h.own j e0 b q e2
  · obtain ⟨e0, q⟩ := at_i j e e1
    obtain ⟨f0, q'⟩ := at_i k f e2
    exact h.apart j k e0 f0 b q q' e3 e4
def x9 (i : Nat) (fk fv : Fe) : Fs := fun ρ => fv ρ >>= fun v => mH (fk ρ) >>= fun k => match ρ[i]? with
  | some (.own (.dict kvs)) => match iw k with
    | some _ => if kvs.length < sizeLine then .ok (.nx (ρ.set i (.own (.dict (ua kvs k v))))) else .no
    | none => .no
  | _ => .no
theorem w8 {k : PyData} {κ : cT} (h : iw k = some κ) : k = fY κ := by
  cases k <;> simp only [iw] at h <;> cases h <;> rfl
theorem Cv {H : Hp} {κ : cT} {y : V} (h : Rp H (fY κ) y) : y = kV κ := by
  cases κ <;> simp only [fY, Rp] at h <;> exact h
theorem tX {k v : Expr} {fk fv : Fe} {q1 q2 q3 : Pos} (T : Tb X nl G) (n : Nat) (hN : X.N[n]? = some x) (hk : ai X k fk) (hv : ai X v fv) (hs : swapsWith v (some (.Subscript (.Name x q1) k q2)) q3.line X.env = pure false := by rfl) :
    fw X (.Assign [.Subscript (.Name x q1) k q2] v q3) (x9 n fk fv) := fun Fm => by
  have hm := T.vis x (List.mem_of_getElem? hN)
  refine PS.imp (AY (by have := T.hu; omega) (mw hN hm.1 hm.2.1 hm.2.2) hk hv hs) fun D σ H h => ?_
  refine (lK (P := gR) (f := fv) (k := fun ρ v => mH (fk ρ) >>= fun k => match ρ[n]? with
    | some (.own (.dict kvs)) => match iw k with
      | some _ => if kvs.length < sizeLine then .ok (.nx (ρ.set n (.own (.dict (ua kvs k v))))) else .no
      | none => .no
    | _ => .no) h).post fun vv H1 ⟨ρ1, dv, sl1, _, p1, q1⟩ => ?_
  have sl0 : Bo X Fm (fun ρ => mH (fk ρ) >>= fun k => match ρ[n]? with
    | some (.own (.dict kvs)) => match iw k with
      | some _ => if kvs.length < sizeLine then .ok (.nx (ρ.set n (.own (.dict (ua kvs k dv))))) else .no
      | none => .no
    | _ => .no) D σ H1 := ⟨ρ1, sl1, q1⟩
  cases e : ρ1[n]? with
  | none =>
    exfalso
    rw [e] at q1
    cases e2 : fk ρ1 with
    | ok _ => rw [e2] at q1; exact q1
    | ex _ => rw [e2] at q1; exact q1
    | no => rw [e2] at q1; exact q1
  | some c =>
    rw [e] at q1
    cases c with
    | own d =>
      cases d with
      | dict kvs =>
        obtain ⟨o, h2, w', rfl, p2⟩ := sl1.sl.at e
        simp only [ja] at p2
        obtain ⟨a', ks, rfl, ha, r⟩ := p2
        refine ⟨.ref a', h2, ?_⟩
        refine ⟨ρ1, sl1.sl, ?_⟩
        cases e2 : fk ρ1 with
        | ex _ => rw [e2] at q1; exact q1.elim
        | no => rw [e2] at q1; exact q1
        | ok kd =>
          rw [e2] at q1
          simp only [mH, R.ok_bind] at q1
          intro yv H3 s3 p3
          cases e3 : iw kd with
          | none => rw [e3] at q1; exact q1.elim
          | some κ =>
            rw [e3] at q1
            dsimp only at q1
            by_cases hz : kvs.length < sizeLine
            · rw [if_pos hz] at q1
              have ek := w8 e3
              subst ek
              have ey := Cv p3
              subst ey
              have ha3 := s3 _ _ ha
              have r3 : eh H3 kvs ks := eh.kp (Kp.of s3) _ _ r
              refine ⟨a', _, rfl, tN.k ha3 (by rw [r3.length]; exact hz), q1 _ _ ((sl1.mono s3).change e h2 ha3 (.inr ⟨_, rfl⟩) ?_)⟩
              simp only [ja]
              exact ⟨a', _, rfl, bd, eh.kp (gz ha3 (.inr ⟨_, rfl⟩)) _ _ (eh.put κ (p1.mono s3) r3)⟩
            · rw [if_neg hz] at q1; exact q1.elim
      | _ =>
        exfalso
        cases e2 : fk ρ1 with
        | ok _ => rw [e2] at q1; exact q1
        | ex _ => rw [e2] at q1; exact q1
        | no => rw [e2] at q1; exact q1
    | _ =>
      exfalso
      cases e2 : fk ρ1 with
      | ok _ => rw [e2] at q1; exact q1
      | ex _ => rw [e2] at q1; exact q1
      | no => rw [e2] at q1; exact q1
theorem Z.tX {k v : Expr} {fk fv : Fe} {q1 q2 q3 : Pos} (T : Tb X nl G) (n : Nat) (hN : X.N[n]? = some x) (hk : Z.ai X k fk) (hv : Z.ai X v fv) (hs : swapsWith v (some (.Subscript (.Name x q1) k q2)) q3.line X.env = pure false := by rfl) : Z.fw X (.Assign [.Subscript (.Name x q1) k q2] v q3) (x9 n fk fv) :=
  ⟨D2.tX T n hN hk.un hv.un hs⟩
def cr (i : Nat) (f : Fe) : Fs := fun ρ => mH (f ρ) >>= fun d => match ρ[i]? with
  | some (.own (.list ds)) => if ds.length < sizeLine then .ok (.nx (ρ.set i (.own (.list (ds ++ [d]))))) else .no
  | _ => .no
end
section
variable {prog : Program} {w : World} {A : Around} {E : Value → Shared → Prop} {s : Shared}
theorem uM {it t : Addr} {i : Nat} {items : Array Value} {x : Value} {Q : Value → Shared → Prop} (hit : s.heap.IsTupleIter it t i) (ht : s.heap.IsTuple t items) (hx : items[i]? = some x)
    (hQ : ∀ h', h'.IsTupleIter it t (i + 1) → Heap.SameBut it s.heap h' → Q x { s with heap := h' }) : wpAny (model prog w) A (Builtin.SmallTypes.nextOf (.ref it)) Q E s := by
  obtain ⟨ob, hob, hcl, hdt⟩ := id hit
  obtain ⟨ot, hot, _, nt, hdtt⟩ := ht
  unfold Builtin.SmallTypes.nextOf
  refine wpAny_bind (wpAny_callSpecial?_slot (name := Str.ofString "__next__") hit.typeIs F.slot_tuple_iterator_next (wpAny_call_entry F.slot_tuple_iterator_next hit.typeIs F.entry_tuple_iterator_next ?_ (F.args_tuple_iterator_next_1 _)))
  show wpAny _ _ (field (Value.ref it) 0 >>= _) _ _ s
  refine wpAny_bind (wpAny_field hob hdt (x := Value.ref t) rfl ?_)
  show wpAny _ _ (if (Value.ref t == Value.none) = true then _ else _) _ _ s
  rw [if_neg (by intro z; cases z)]
  show wpAny _ _ (field (Value.ref it) 1 >>= _) _ _ s
  refine wpAny_bind (wpAny_field hob hdt (x := Value.int i 0) rfl ?_)
  show wpAny _ _ (seqItems? (Value.ref t) >>= _) _ _ s
  refine wpAny_bind (wpAny_seqItems hot hdtt ?_)
  simp only [hx, Int.toNat_natCast]
  refine wpAny_bind (wpAny_setField hob hdt (by simp) (wpAny_pure ⟨x, rfl, wpAny_pure (hQ _ ⟨_, Heap.get?_update_self _ hob (Obj.isFreed_of_fields (Obj.data_mapFields hdt _)), (Obj.cls_mapFields ..).trans hcl, ?_⟩ (Heap.SameBut.update ..))⟩))
  rw [Obj.data_mapFields hdt]
  simp [rawInt]
theorem o0 {it t : Addr} {i : Nat} {items : Array Value} {Q : Value → Shared → Prop} (hh : A.handled = none) (hit : s.heap.IsTupleIter it t i) (ht : s.heap.IsTuple t items) (hx : items[i]? = none)
    (hE : ∀ h' e, Heap.ExtBut it s.heap h' → (∃ o, h'.get? e = some o ∧ o.cls = .type "StopIteration") → E (.ref e) { s with heap := h' }) : wpAny (model prog w) A (Builtin.SmallTypes.nextOf (.ref it)) Q E s := by
  obtain ⟨ob, hob, hcl, hdt⟩ := id hit
  obtain ⟨ot, hot, _, nt, hdtt⟩ := ht
  unfold Builtin.SmallTypes.nextOf
  refine wpAny_bind (wpAny_callSpecial?_slot (name := Str.ofString "__next__") hit.typeIs F.slot_tuple_iterator_next (wpAny_call_entry F.slot_tuple_iterator_next hit.typeIs F.entry_tuple_iterator_next ?_ (F.args_tuple_iterator_next_1 _)))
  show wpAny _ _ (field (Value.ref it) 0 >>= _) _ _ s
  refine wpAny_bind (wpAny_field hob hdt (x := Value.ref t) rfl ?_)
  show wpAny _ _ (if (Value.ref t == Value.none) = true then _ else _) _ _ s
  rw [if_neg (by intro z; cases z)]
  show wpAny _ _ (field (Value.ref it) 1 >>= _) _ _ s
  refine wpAny_bind (wpAny_field hob hdt (x := Value.int i 0) rfl ?_)
  show wpAny _ _ (seqItems? (Value.ref t) >>= _) _ _ s
  refine wpAny_bind (wpAny_seqItems hot hdtt ?_)
  simp only [hx, Int.toNat_natCast]
  refine wpAny_bind (wpAny_rule (wpAny_bind (wpAny_setField hob hdt (by simp) ?_)))
  show wpAny _ _ (newExc (Value.type "StopIteration") [] >>= _) _ _ _
  refine wpAny_bind ?_
  simp only [newTuple, newExc]
  refine wpAny_bind (wpAny_newObj_type ?_ (by size_fits))
  refine wpAny_bind (m := firstArgMember _ _) (wpAny_of_eq (a := Value.none) (by first | rfl | (simp only [firstArgMember]; rfl)) ?_)
  refine wpAny_newObj_type ?_ (by size_fits)
  simp only [raiseNew]
  refine wpAny_bind (wpAny_handled ?_)
  first | rw [show A.in1.handled = none from hh] | rw [hh]
  exact wpAny_bind (wpAny_pure (wpAny_throw (hE _ _ (((Heap.SameBut.update ..).extBut.push _).push _) ⟨_, Heap.get?_push_size _ rfl, rfl⟩)))
end
def gL (h : Heap) (i l : Addr) (k : Nat) (xs : Array Value) : Prop := (h.IsListIter i l k ∧ h.IsList l xs) ∨ (h.IsTupleIter i l k ∧ h.IsTuple l xs)
section
variable {h h' : Heap} {i l : Addr} {k : Nat} {xs : Array Value}
theorem gL.keep (x : gL h i l k xs) (hi : ∀ o, h.get? i = some o → h'.get? i = some o) (hl : ∀ o, h.get? l = some o → h'.get? l = some o) : gL h' i l k xs := by
  rcases x with ⟨⟨o, e, r⟩, ⟨o', e', r'⟩⟩ | ⟨⟨o, e, r⟩, ⟨o', e', r'⟩⟩
  · exact .inl ⟨⟨o, hi _ e, r⟩, ⟨o', hl _ e', r'⟩⟩
  · exact .inr ⟨⟨o, hi _ e, r⟩, ⟨o', hl _ e', r'⟩⟩
end
section
variable {prog : Program} {w : World} {A : Around} {E : Value → Shared → Prop} {s : Shared} {i l : Addr} {k : Nat} {xs : Array Value}
theorem lb {x : Value} {Q : Value → Shared → Prop} (it : gL s.heap i l k xs) (hne : l ≠ i) (hx : xs[k]? = some x) (hQ : ∀ h', gL h' i l (k + 1) xs → Heap.SameBut i s.heap h' → Q x { s with heap := h' }) :
    wpAny (model prog w) A (Builtin.SmallTypes.nextOf (.ref i)) Q E s := by
  rcases it with ⟨h1, h2⟩ | ⟨h1, h2⟩
  · exact wpAny_nextOf_list_item h1 h2 hx fun h' a b => hQ h' (.inl ⟨a, h2.extBut b.extBut hne⟩) b
  · exact uM h1 h2 hx fun h' a b => hQ h' (.inr ⟨a, h2.extBut b.extBut hne⟩) b
theorem gq {Q : Value → Shared → Prop} (hh : A.handled = none) (it : gL s.heap i l k xs) (hx : xs[k]? = none)
    (hE : ∀ h' e, Heap.ExtBut i s.heap h' → (∃ o, h'.get? e = some o ∧ o.cls = .type "StopIteration") → E (.ref e) { s with heap := h' }) : wpAny (model prog w) A (Builtin.SmallTypes.nextOf (.ref i)) Q E s := by
  rcases it with ⟨h1, h2⟩ | ⟨h1, h2⟩
  · exact wpAny_nextOf_list_end hh h1 h2 hx hE
  · exact o0 hh h1 h2 hx hE
def sZ (h : Heap) (l : Addr) (xs : Array Value) : Prop := h.IsList l xs ∨ h.IsTuple l xs
end
structure ZA (z p q i j l m : Addr) : Prop where
  pz : p ≠ z
  qz : q ≠ z
  iz : i ≠ z
  jz : j ≠ z
  pq : p ≠ q
  pi : p ≠ i
  pj : p ≠ j
  qi : q ≠ i
  qj : q ≠ j
  ij : i ≠ j
  lz : l ≠ z
  lq : l ≠ q
  li : l ≠ i
  lj : l ≠ j
  mz : m ≠ z
  mq : m ≠ q
  mi : m ≠ i
  mj : m ≠ j
structure zw (h : Heap) (z p q i j l m : Addr) (f0 : Value) (k : Nat) (xs ys : Array Value) : Prop where
  zz : IsZip h z p q f0
  pp : IsPair h p (.ref i) (.ref j)
  qq : ∃ a b, IsPair h q a b
  ii : gL h i l k xs
  jj : gL h j m k ys
section
variable {prog : Program} {w : World} {A : Around} {E : Value → Shared → Prop} {s : Shared} {z p q i j l m : Addr} {k : Nat} {xs ys : Array Value}
theorem xm {x y : Value} {Q : Value → Shared → Prop} (D : ZA z p q i j l m) (S : zw s.heap z p q i j l m .none k xs ys) (hx : xs[k]? = some x) (hy : ys[k]? = some y)
    (hQ : ∀ h', zw h' z p q i j l m (rawInt s.heap.objs.size) (k + 1) xs ys → IsPair h' s.heap.objs.size x y → (∀ c o, c ≠ z → c ≠ q → c ≠ i → c ≠ j → s.heap.get? c = some o → h'.get? c = some o) → Q (.ref s.heap.objs.size) { s with heap := h' }) :
    wpAny (model prog w) A (Builtin.«zip.__next__» ⟨[.ref z], []⟩) (fun fin s' => ∃ v, fin = .done (.ret v) ∧ Q v s') E s := by
  obtain ⟨hz, hp, ⟨a, b, hq⟩, hi, hj⟩ := S
  show wpAny _ _ (field (Value.ref z) 2 >>= _) _ _ _
  refine wpAny_bind (wpAny_field hz rfl (x := Value.bool false) rfl ?_)
  show wpAny _ _ (field (Value.ref z) 3 >>= _) _ _ _
  refine wpAny_bind (wpAny_field hz rfl (x := Value.ref p) rfl ?_)
  refine wpAny_bind (wpAny_seqItems hp rfl ?_)
  show wpAny _ _ (Builtin.SmallTypes.ownedTupleIsFree (Value.ref z) >>= _) _ _ _
  refine wpAny_bind ?_
  unfold Builtin.SmallTypes.ownedTupleIsFree
  refine wpAny_bind (wpAny_field hz rfl (x := Value.none) rfl (wpAny_pure ?_))
  simp only [if_true]
  refine wpAny_bind (wpAny_rule ?_)
  refine wpAny_bind (wpAny_field hz rfl (x := Value.ref q) rfl ?_)
  refine wpAny_bind (wpAny_setField_rec hz (by simp) fun g1 z1 s1 => ?_)
  replace z1 : IsZip g1 z p q .ellipsis := z1
  refine wpAny_bind ?_
  simp only [List.zipIdx_cons, List.zipIdx_nil, List.forIn_cons, List.forIn_nil]
  refine wpAny_bind (wpAny_bind (wpAny_onRaise ?_))
  show wpAny _ _ (Builtin.SmallTypes.nextOf (Value.ref i) >>= _) _ _ _
  have hi1 : gL g1 i l k xs := hi.keep (fun o e => s1.extBut _ _ D.iz e) fun o e => s1.extBut _ _ D.lz e
  refine wpAny_bind (lb hi1 D.li hx fun g2 i2 s2 => wpAny_pure ?_)
  have q2 : IsPair g2 q a b := s2.extBut _ _ D.qi (s1.extBut _ _ D.qz hq)
  refine wpAny_bind (wpAny_seqItems q2 rfl ?_)
  refine wpAny_bind (wpAny_updateSeq_pair q2 fun g3 q3 s3 => ?_)
  replace q3 : IsPair g3 q x b := q3
  refine wpAny_bind (wpAny_letGo (wpAny_pure ?_))
  refine wpAny_bind (wpAny_bind (wpAny_onRaise ?_))
  show wpAny _ _ (Builtin.SmallTypes.nextOf (Value.ref j) >>= _) _ _ _
  have hj3 : gL g3 j m k ys := hj.keep (fun o e => s3.extBut _ _ D.qj.symm (s2.extBut _ _ D.ij.symm (s1.extBut _ _ D.jz e))) fun o e => s3.extBut _ _ D.mq (s2.extBut _ _ D.mi (s1.extBut _ _ D.mz e))
  refine wpAny_bind (lb hj3 D.mj hy fun g4 j4 s4 => wpAny_pure ?_)
  have q4 : IsPair g4 q x b := s4.extBut _ _ D.qj q3
  refine wpAny_bind (wpAny_seqItems q4 rfl ?_)
  refine wpAny_bind (wpAny_updateSeq_pair q4 fun g5 q5 s5 => ?_)
  replace q5 : IsPair g5 q x y := q5
  refine wpAny_bind (wpAny_letGo (wpAny_pure (wpAny_pure ?_)))
  refine wpAny_bind (wpAny_seqItems q5 rfl ?_)
  refine wpAny_bind (wpAny_newTuple ?_)
  have hsz : g5.objs.size = s.heap.objs.size := by rw [s5.1, s4.1, s3.1, s2.1, s1.1]
  have z5 : IsZip g5 z p q .ellipsis := s5.extBut _ _ D.qz.symm (s4.extBut _ _ D.jz.symm (s3.extBut _ _ D.qz.symm (s2.extBut _ _ D.iz.symm z1)))
  have k5 : ∀ c o, c ≠ z → c ≠ q → c ≠ i → c ≠ j → s.heap.get? c = some o → g5.get? c = some o := fun c o c1 c2 c3 c4 e => s5.extBut _ _ c2 (s4.extBut _ _ c4 (s3.extBut _ _ c2 (s2.extBut _ _ c3 (s1.extBut _ _ c1 e))))
  have i5 : gL g5 i l (k + 1) xs := i2.keep (fun o e => s5.extBut _ _ D.qi.symm (s4.extBut _ _ D.ij (s3.extBut _ _ D.qi.symm e))) fun o e => s5.extBut _ _ D.lq (s4.extBut _ _ D.lj (s3.extBut _ _ D.lq e))
  have j5 : gL g5 j m (k + 1) ys := j4.keep (fun o e => s5.extBut _ _ D.qj.symm e) fun o e => s5.extBut _ _ D.mq e
  have zlt : z < g5.objs.size := Heap.lt_size z5
  show wpAny _ _ (Builtin.SmallTypes.ownedTupleHandOut (Value.ref z) (Value.ref g5.objs.size) >>= _) _ _ _
  refine wpAny_bind ?_
  unfold Builtin.SmallTypes.ownedTupleHandOut
  have z6 : IsZip (g5.push { cls := .type "tuple", data := .seq #[x, y] }) z p q .ellipsis := Heap.get?_push_of_some _ z5
  refine wpAny_bind (wpAny_setField_rec z6 (by simp) fun g7 z7 s7 => ?_)
  replace z7 : IsZip g7 z p q (rawInt g5.objs.size) := z7
  refine wpAny_setField_rec z7 (by simp) fun g8 z8 s8 => ?_
  replace z8 : IsZip g8 z p q (rawInt g5.objs.size) := z8
  have up : ∀ c o, c ≠ z → g5.get? c = some o → g8.get? c = some o := fun c o c1 e => s8.extBut _ _ c1 (s7.extBut _ _ c1 (Heap.get?_push_of_some _ e))
  have t8 : IsPair g8 g5.objs.size x y := s8.extBut _ _ (Nat.ne_of_gt zlt) (s7.extBut _ _ (Nat.ne_of_gt zlt) (Heap.get?_push_size _ rfl))
  rw [hsz] at z8 t8
  refine wpAny_pure ⟨_, rfl, ?_⟩
  show Q (.ref g5.objs.size) _
  rw [hsz]
  exact hQ g8 ⟨z8, up _ _ D.pz (k5 _ _ D.pz D.pq D.pi D.pj hp), ⟨x, y, up _ _ D.qz q5⟩, i5.keep (fun o e => up _ _ D.iz e) fun o e => up _ _ D.lz e, j5.keep (fun o e => up _ _ D.jz e) fun o e => up _ _ D.mz e⟩ t8 fun c o c1 c2 c3 c4 e => up c o c1 (k5 c o c1 c2 c3 c4 e)
theorem AD {Q : PySem.Fin → Shared → Prop} (hh : A.handled = none) (D : ZA z p q i j l m) (S : zw s.heap z p q i j l m .none k xs ys) (hend : xs[k]? = none ∨ ys[k]? = none)
    (hE : ∀ h' e, (∀ c o, c ≠ z → c ≠ q → c ≠ i → c ≠ j → s.heap.get? c = some o → h'.get? c = some o) → (∃ o, h'.get? e = some o ∧ o.cls = .type "StopIteration") → E (.ref e) { s with heap := h' }) :
    wpAny (model prog w) A (Builtin.«zip.__next__» ⟨[.ref z], []⟩) Q E s := by
  obtain ⟨hz, hp, ⟨a, b, hq⟩, hi, hj⟩ := S
  show wpAny _ _ (field (Value.ref z) 2 >>= _) _ _ _
  refine wpAny_bind (wpAny_field hz rfl (x := Value.bool false) rfl ?_)
  show wpAny _ _ (field (Value.ref z) 3 >>= _) _ _ _
  refine wpAny_bind (wpAny_field hz rfl (x := Value.ref p) rfl ?_)
  refine wpAny_bind (wpAny_seqItems hp rfl ?_)
  show wpAny _ _ (Builtin.SmallTypes.ownedTupleIsFree (Value.ref z) >>= _) _ _ _
  refine wpAny_bind ?_
  unfold Builtin.SmallTypes.ownedTupleIsFree
  refine wpAny_bind (wpAny_field hz rfl (x := Value.none) rfl (wpAny_pure ?_))
  simp only [if_true]
  refine wpAny_bind (wpAny_rule ?_)
  refine wpAny_bind (wpAny_field hz rfl (x := Value.ref q) rfl ?_)
  refine wpAny_bind (wpAny_setField_rec hz (by simp) fun g1 z1 s1 => ?_)
  replace z1 : IsZip g1 z p q .ellipsis := z1
  refine wpAny_bind ?_
  simp only [List.zipIdx_cons, List.zipIdx_nil, List.forIn_cons, List.forIn_nil]
  refine wpAny_bind (wpAny_bind (wpAny_onRaise ?_))
  show wpAny _ _ (Builtin.SmallTypes.nextOf (Value.ref i) >>= _) _ _ _
  have hi1 : gL g1 i l k xs := hi.keep (fun o e => s1.extBut _ _ D.iz e) fun o e => s1.extBut _ _ D.lz e
  cases hx : xs[k]? with
  | none =>
    refine wpAny_bind (gq hh hi1 hx fun g2 e s2 he => ?_)
    obtain ⟨oe, hoe, hce⟩ := he
    have z2 : IsZip g2 z p q .ellipsis := s2 _ _ D.iz.symm z1
    have hez : e ≠ z := fun t => by subst t; rw [z2] at hoe; cases hoe; simp at hce
    exact wpAny_setField_rec z2 (by simp) fun g3 _ s3 => hE g3 e (fun c o c1 _ c3 _ t => s3.extBut _ _ c1 (s2 _ _ c3 (s1.extBut _ _ c1 t))) ⟨oe, s3.extBut _ _ hez hoe, hce⟩
  | some x =>
    have hy : ys[k]? = none := by rcases hend with t | t; rw [hx] at t; cases t; exact t
    refine wpAny_bind (lb hi1 D.li hx fun g2 i2 s2 => wpAny_pure ?_)
    have q2 : IsPair g2 q a b := s2.extBut _ _ D.qi (s1.extBut _ _ D.qz hq)
    refine wpAny_bind (wpAny_seqItems q2 rfl ?_)
    refine wpAny_bind (wpAny_updateSeq_pair q2 fun g3 q3 s3 => ?_)
    refine wpAny_bind (wpAny_letGo (wpAny_pure ?_))
    refine wpAny_bind (wpAny_bind (wpAny_onRaise ?_))
    show wpAny _ _ (Builtin.SmallTypes.nextOf (Value.ref j) >>= _) _ _ _
    have hj3 : gL g3 j m k ys := hj.keep (fun o e => s3.extBut _ _ D.qj.symm (s2.extBut _ _ D.ij.symm (s1.extBut _ _ D.jz e))) fun o e => s3.extBut _ _ D.mq (s2.extBut _ _ D.mi (s1.extBut _ _ D.mz e))
    refine wpAny_bind (gq hh hj3 hy fun g4 e s4 he => ?_)
    obtain ⟨oe, hoe, hce⟩ := he
    have z4 : IsZip g4 z p q .ellipsis := s4 _ _ D.jz.symm (s3.extBut _ _ D.qz.symm (s2.extBut _ _ D.iz.symm z1))
    have hez : e ≠ z := fun t => by subst t; rw [z4] at hoe; cases hoe; simp at hce
    exact wpAny_setField_rec z4 (by simp) fun g5 _ s5 => hE g5 e (fun c o c1 c2 c3 c4 t => s5.extBut _ _ c1 (s4 _ _ c4 (s3.extBut _ _ c2 (s2.extBut _ _ c3 (s1.extBut _ _ c1 t))))) ⟨oe, s5.extBut _ _ hez hoe, hce⟩
theorem ug {x y : Value} {Q : Option Value → Shared → Prop} (D : ZA z p q i j l m) (S : zw s.heap z p q i j l m .none k xs ys) (hx : xs[k]? = some x) (hy : ys[k]? = some y)
    (hQ : ∀ h', zw h' z p q i j l m (rawInt s.heap.objs.size) (k + 1) xs ys → IsPair h' s.heap.objs.size x y → (∀ c o, c ≠ z → c ≠ q → c ≠ i → c ≠ j → s.heap.get? c = some o → h'.get? c = some o) → Q (some (.ref s.heap.objs.size)) { s with heap := h' }) :
    wpAny (model prog w) A (pyNext (.ref z)) Q E s := by
  have hT : s.TypeIs (.ref z) "zip" := ⟨_, S.zz, rfl⟩
  unfold pyNext
  exact wpAny_bind (wpAny_attempt (wpAny_callSpecial?_slot (name := Str.ofString "__next__") hT F.slot_zip_next (wpAny_call_entry F.slot_zip_next hT F.entry_zip_next (xm D S hx hy fun h' a b c => wpAny_pure (hQ h' a b c)) (F.args_zip_next_1 _))))
theorem wU {Q : Option Value → Shared → Prop} (hh : A.handled = none) (D : ZA z p q i j l m) (S : zw s.heap z p q i j l m .none k xs ys) (hend : xs[k]? = none ∨ ys[k]? = none)
    (hQ : ∀ h', (∀ c o, c ≠ z → c ≠ q → c ≠ i → c ≠ j → s.heap.get? c = some o → h'.get? c = some o) → Q none { s with heap := h' }) : wpAny (model prog w) A (pyNext (.ref z)) Q E s := by
  have hT : s.TypeIs (.ref z) "zip" := ⟨_, S.zz, rfl⟩
  unfold pyNext
  refine wpAny_bind (wpAny_attempt (wpAny_callSpecial?_slot (name := Str.ofString "__next__") hT F.slot_zip_next (wpAny_call_entry F.slot_zip_next hT F.entry_zip_next (AD hh D S hend fun h' e hk he => ?_) (F.args_zip_next_1 _))))
  obtain ⟨o, ho, hc⟩ := he
  exact wpAny_bind (wpAny_isInstance (T := "StopIteration") (b := true) ⟨o, ho, hc⟩ isSubtype_stop (wpAny_pure (hQ _ hk)))
theorem Ak (l m : Addr) (xs ys : Array Value) : Meets (Builtin.«zip.__new__» ⟨[.type "zip", .ref l, .ref m], []⟩) (fun _ R s => sZ s.heap l xs ∧ sZ s.heap m ys ∧
    ∀ h', h'.objs.size = s.heap.objs.size + 5 → zw h' (s.heap.objs.size + 4) (s.heap.objs.size + 2) (s.heap.objs.size + 3) s.heap.objs.size (s.heap.objs.size + 1) l m .none 0 xs ys → (∀ c o, s.heap.get? c = some o → h'.get? c = some o) →
      R (.ok (.ret (.ref (s.heap.objs.size + 4)))) { s with heap := h' }) :=
  .of_wp fun prog w A R s h => by
    obtain ⟨hp, g, d, tk, os⟩ := s; obtain ⟨h1, h2, h⟩ := h
    have hsub := sub_zip
    have fin : ∀ (oi oj : Obj), gL (hp.push oi) hp.objs.size l 0 xs → gL ((hp.push oi).push oj) (hp.push oi).objs.size m 0 ys →
        R (.ok (.ret (.ref ((((hp.push oi).push oj).push { cls := .type "tuple", data := .seq #[.ref hp.objs.size, .ref (hp.push oi).objs.size] }).push { cls := .type "tuple", data := .seq #[.none, .none] }).objs.size)))
          ⟨((((hp.push oi).push oj).push { cls := .type "tuple", data := .seq #[.ref hp.objs.size, .ref (hp.push oi).objs.size] }).push { cls := .type "tuple", data := .seq #[.none, .none] }).push { cls := .type "zip", data := .fields #[.none, .bool false, .bool false, .ref ((hp.push oi).push oj).objs.size, .ref (((hp.push oi).push oj).push { cls := .type "tuple", data := .seq #[.ref hp.objs.size, .ref (hp.push oi).objs.size] }).objs.size] }, g, d, tk, os⟩ := fun oi oj hi hj => by
      have e1 : (hp.push oi).objs.size = hp.objs.size + 1 := Heap.size_push ..
      have e2 : ((hp.push oi).push oj).objs.size = hp.objs.size + 2 := by rw [Heap.size_push, e1]
      have e3 : (((hp.push oi).push oj).push { cls := .type "tuple", data := .seq #[.ref hp.objs.size, .ref (hp.push oi).objs.size] }).objs.size = hp.objs.size + 3 := by rw [Heap.size_push, e2]
      have e4 : ((((hp.push oi).push oj).push { cls := .type "tuple", data := .seq #[.ref hp.objs.size, .ref (hp.push oi).objs.size] }).push { cls := .type "tuple", data := .seq #[.none, .none] }).objs.size = hp.objs.size + 4 := by rw [Heap.size_push, e3]
      rw [e4, e3, e2]
      rw [e1] at hj ⊢
      have kk : ∀ (c : Addr) (o a b c' : Obj), ((hp.push oi).push oj).get? c = some o → (((((hp.push oi).push oj).push a).push b).push c').get? c = some o := fun c o a b c' e => Heap.get?_push_of_some _ (Heap.get?_push_of_some _ (Heap.get?_push_of_some _ e))
      refine h _ (by rw [Heap.size_push, Heap.size_push, Heap.size_push, e2]) ⟨?_, ?_, ⟨.none, .none, ?_⟩, ?_, ?_⟩ fun c o e => kk _ _ _ _ _ (Heap.get?_push_of_some _ (Heap.get?_push_of_some _ e))
      · have : hp.objs.size + 4 = ((((hp.push oi).push oj).push { cls := .type "tuple", data := .seq #[.ref hp.objs.size, .ref (hp.objs.size + 1)] }).push { cls := .type "tuple", data := .seq #[.none, .none] }).objs.size := by rw [Heap.size_push, Heap.size_push, e2]
        show Heap.get? _ (hp.objs.size + 4) = _
        rw [this]
        exact Heap.get?_push_size _ rfl
      · refine Heap.get?_push_of_some _ (Heap.get?_push_of_some _ ?_)
        show Heap.get? _ (hp.objs.size + 2) = _
        rw [← e2]
        exact Heap.get?_push_size _ rfl
      · refine Heap.get?_push_of_some _ ?_
        have : hp.objs.size + 3 = (((hp.push oi).push oj).push { cls := .type "tuple", data := .seq #[.ref hp.objs.size, .ref (hp.objs.size + 1)] }).objs.size := by rw [Heap.size_push, e2]
        show Heap.get? _ (hp.objs.size + 3) = _
        rw [this]
        exact Heap.get?_push_size _ rfl
      · exact hi.keep (fun o e => kk _ _ _ _ _ (Heap.get?_push_of_some _ e)) fun o e => kk _ _ _ _ _ (Heap.get?_push_of_some _ e)
      · exact hj.keep (fun o e => kk _ _ _ _ _ e) fun o e => kk _ _ _ _ _ e
    rcases h1 with h1 | h1 <;> rcases h2 with h2 | h2
    · have l1 : Heap.IsList (Shared.heap ⟨hp, g, d, tk, os⟩) l xs := h1
      have l2 : Heap.IsList (Shared.heap ⟨hp.push { cls := .type "list_iterator", data := .fields #[.ref l, .int 0 0] }, g, d, tk, os⟩) m ys := Heap.IsList.push h2 _
      wp_walk using wpAny_pyIter_list l1, wpAny_pyIter_list l2
      exact ⟨_, rfl, fin _ _ (.inl ⟨⟨_, Heap.get?_push_size _ rfl, rfl, rfl⟩, Heap.IsList.push h1 _⟩) (.inl ⟨⟨_, Heap.get?_push_size _ rfl, rfl, rfl⟩, Heap.IsList.push l2 _⟩)⟩
    · have l1 : Heap.IsList (Shared.heap ⟨hp, g, d, tk, os⟩) l xs := h1
      have l2 : Heap.IsTuple (Shared.heap ⟨hp.push { cls := .type "list_iterator", data := .fields #[.ref l, .int 0 0] }, g, d, tk, os⟩) m ys := Heap.IsTuple.push h2 _
      wp_walk using wpAny_pyIter_list l1, wpAny_pyIter_tuple l2
      exact ⟨_, rfl, fin _ _ (.inl ⟨⟨_, Heap.get?_push_size _ rfl, rfl, rfl⟩, Heap.IsList.push h1 _⟩) (.inr ⟨⟨_, Heap.get?_push_size _ rfl, rfl, rfl⟩, Heap.IsTuple.push l2 _⟩)⟩
    · have l1 : Heap.IsTuple (Shared.heap ⟨hp, g, d, tk, os⟩) l xs := h1
      have l2 : Heap.IsList (Shared.heap ⟨hp.push { cls := .type "tuple_iterator", data := .fields #[.ref l, .int 0 0] }, g, d, tk, os⟩) m ys := Heap.IsList.push h2 _
      wp_walk using wpAny_pyIter_tuple l1, wpAny_pyIter_list l2
      exact ⟨_, rfl, fin _ _ (.inr ⟨⟨_, Heap.get?_push_size _ rfl, rfl, rfl⟩, Heap.IsTuple.push h1 _⟩) (.inl ⟨⟨_, Heap.get?_push_size _ rfl, rfl, rfl⟩, Heap.IsList.push l2 _⟩)⟩
    · have l1 : Heap.IsTuple (Shared.heap ⟨hp, g, d, tk, os⟩) l xs := h1
      have l2 : Heap.IsTuple (Shared.heap ⟨hp.push { cls := .type "tuple_iterator", data := .fields #[.ref l, .int 0 0] }, g, d, tk, os⟩) m ys := Heap.IsTuple.push h2 _
      wp_walk using wpAny_pyIter_tuple l1, wpAny_pyIter_tuple l2
      exact ⟨_, rfl, fin _ _ (.inr ⟨⟨_, Heap.get?_push_size _ rfl, rfl, rfl⟩, Heap.IsTuple.push h1 _⟩) (.inr ⟨⟨_, Heap.get?_push_size _ rfl, rfl, rfl⟩, Heap.IsTuple.push l2 _⟩)⟩
theorem zi {Q : Value → Shared → Prop} {l m : Addr} (h1 : sZ s.heap l xs) (h2 : sZ s.heap m ys)
    (h : ∀ h', h'.objs.size = s.heap.objs.size + 5 → zw h' (s.heap.objs.size + 4) (s.heap.objs.size + 2) (s.heap.objs.size + 3) s.heap.objs.size (s.heap.objs.size + 1) l m .none 0 xs ys → (∀ c o, s.heap.get? c = some o → h'.get? c = some o) →
      Q (.ref (s.heap.objs.size + 4)) { s with heap := h' }) : wpAny (model prog w) A (call (.type "zip") [.ref l, .ref m]) Q E s := by
  refine callType_new F.called_zip (by decide) (F.typeCall_zip_2 _ _) (F.newCall_zip_2 _ _) (fun obj => F.args_object_init_3 obj _ _) F.entry_zip_new (Ak l m xs ys) ⟨h1, h2, fun h' e S k => ?_⟩
  exact ⟨⟨_, S.zz, rfl⟩, h h' e S k⟩
end
section
variable {X : Cx} {pins : List (Addr × Obj)} {σ : St} {H : Hp} {s : Shared} {h' : Heap}
theorem fS {t' : Nat} {fp : List Addr} (I : aM X pins σ H s) (k : ∀ b o, b ∉ fp → s.heap.get? b = some o → h'.get? b = some o) (hf : ∀ b ∈ fp, mh X pins H b) : aM X pins σ H { s with heap := h', toks := t' } := by
  have away : ∀ b u, H b = some u → b ∉ fp := fun b u e z => by rw [(hf b z).1] at e; cases e
  have frame : X.env.locals ∉ fp := fun z => (hf _ z).2.1 rfl
  refine I.step (g' := s.gens) (d' := s.drawn) (ch := fp) (fun b hb => ⟨(hf b hb).2.2.2.1, (hf b hb).2.1, (hf b hb).2.2.2.2.1, (hf b hb).2.2.2.2.2⟩) (fun b o _ _ hc e _ => k b o hc e) (fun b o _ _ hc e _ => ⟨o.slots, k b o hc e⟩) (fun _ _ _ _ n => n)
    (fun b o hc e => ⟨o, k b o hc e⟩) (fun _ _ e => e) (fun _ _ _ e => e) (fun b ps e => ⟨#[], by rw [e]; simp⟩) (fun m ⟨o, es, ep, ho, r⟩ => ⟨o, es, ep, k _ o frame ho, r⟩) (fun b u e => ?_) I.bare
  refine (I.hok b u e).stay (fun c v hc q => k c v ?_ q) (fun _ q => q) fun _ _ q => q
  rcases hc with z | z
  · rw [z]; exact away b u e
  · exact away c _ z
theorem sr {h : Heap} {o o' : Obj} {b : Addr} (hb : b ≠ h.objs.size) (e : (h.push o).get? b = some o') : h.get? b = some o' := by
  unfold Heap.get? Heap.push at e
  unfold Heap.get?
  simp only [Array.getElem?_push] at e
  rw [if_neg hb] at e
  exact e
theorem uY {t' : Nat} {fp : List Addr} {u1 u2 : Value} {v1 v2 : V} (I : aM X pins σ H s) (hf : ∀ b ∈ fp, mh X pins H b) (hob : ∀ b ∈ fp, b < s.heap.objs.size) (ht : IsPair h' s.heap.objs.size u1 u2) (k : ∀ b o, b ∉ fp → s.heap.get? b = some o → h'.get? b = some o)
    (r1 : bA v1 u1) (r2 : bA v2 u2) : aM X pins σ (cm H s.heap.objs.size (.tup [v1, v2])) { s with heap := h', toks := t' } := by
  have I1 : aM X pins σ (cm H s.heap.objs.size (.tup [v1, v2])) { s with heap := s.heap.push { cls := .type "tuple", data := .seq #[u1, u2] }, toks := s.toks } :=
    I.laid (fun b u e => Heap.get?_push_of_some _ e) (Nat.le_refl _) ⟨by show 2 ≤ sizeLine; decide, [u1, u2], .cons r1 (.cons r2 .nil), _, Heap.get?_push_size _ rfl, rfl, _, rfl⟩
  refine fS (fp := fp) (s := { s with heap := s.heap.push { cls := .type "tuple", data := .seq #[u1, u2] }, toks := s.toks }) I1 (fun b o hb e => ?_) fun b hb => ?_
  · by_cases hz : b = s.heap.objs.size
    · subst hz
      have e' : (s.heap.push { cls := .type "tuple", data := .seq #[u1, u2] }).get? s.heap.objs.size = some o := e
      rw [Heap.get?_push_size _ rfl] at e'
      cases e'
      exact ht
    · exact k b o hb (sr hz e)
  · obtain ⟨f0, f1, f2, f3, f4, f5⟩ := hf b hb
    exact ⟨by rw [au (Nat.ne_of_lt (hob b hb))]; exact f0, f1, f2, f3, f4, f5⟩
end
def sf (K : PySem.W.Frag) (H : Hp) (a : Addr) (xs : List V) : Bool → Prop
  | true => eI K H a xs
  | false => mX K H a xs
def gh (h : Heap) (i l : Addr) (k : Nat) : Bool → Prop
  | true => h.IsTupleIter i l k
  | false => h.IsListIter i l k
theorem gh.keep {h h' : Heap} {i l : Addr} {k : Nat} {b : Bool} (x : gh h i l k b) (hi : ∀ o, h.get? i = some o → h'.get? i = some o) : gh h' i l k b := by
  cases b
  · obtain ⟨o, e, r⟩ := x; exact ⟨o, hi _ e, r⟩
  · obtain ⟨o, e, r⟩ := x; exact ⟨o, hi _ e, r⟩
theorem gh.there {h : Heap} {i l : Addr} {k : Nat} {b : Bool} (x : gh h i l k b) : ∃ o, h.get? i = some o ∧ ∀ v, o.data ≠ .cell v := by
  cases b
  · obtain ⟨o, e, c, d⟩ := x; exact ⟨o, e, fun v z => by rw [d] at z; cases z⟩
  · obtain ⟨o, e, c, d⟩ := x; exact ⟨o, e, fun v z => by rw [d] at z; cases z⟩
section
variable {X : Cx} {pins : List (Addr × Obj)} {σ : St} {H : Hp} {s : Shared}
theorem iO {a : Addr} {xs : List V} {b : Bool} (I : aM X pins σ H s) (h : sf X.K H a xs b) : ∃ its : List Value, bt xs its ∧ sZ s.heap a its.toArray ∧ ∀ (i : Addr) (k : Nat), gh s.heap i a k b → gL s.heap i a k its.toArray := by
  cases b
  · obtain ⟨its, rv, p, _⟩ := I.list h
    exact ⟨its, rv, .inl p.isList, fun i k z => .inl ⟨z, p.isList⟩⟩
  · obtain ⟨its, rv, p, _⟩ := I.tuple h
    exact ⟨its, rv, .inr p, fun i k z => .inr ⟨z, p⟩⟩
theorem kK {a : Addr} {xs ys : List V} {b : Bool} (I : aM X pins σ H s) (h : sf X.K H a xs b) (h' : sf X.K H a ys b) : ys = xs := by
  cases b
  · exact I.list_inj h' h
  · exact I.tuple_inj h' h
theorem gL.toB {h : Heap} {i l : Addr} {k : Nat} {xs : Array Value} {b : Bool} (hl : ∀ ys, (b = true → ¬ h.IsList l ys) ∧ (b = false → ¬ h.IsTuple l ys)) (x : gL h i l k xs) : gh h i l k b := by
  cases b
  · rcases x with ⟨z, w⟩ | ⟨z, w⟩
    · exact z
    · exact absurd w ((hl xs).2 rfl)
  · rcases x with ⟨z, w⟩ | ⟨z, w⟩
    · exact absurd w ((hl xs).1 rfl)
    · exact z
theorem cX {h : Heap} {l : Addr} {xs ys : Array Value} (a : h.IsList l xs) (b : h.IsTuple l ys) : False := by
  obtain ⟨o, e, c, _⟩ := a
  obtain ⟨o', e', c', _⟩ := b
  rw [e] at e'; cases e'
  rw [c] at c'
  injection c' with z
  exact absurd z (by decide)
theorem oy {a : Addr} {xs : List V} {b : Bool} (I : aM X pins σ H s) (h : sf X.K H a xs b) {h' : Heap} (kp : ∀ c o, s.heap.get? c = some o → h'.get? c = some o) : ∀ ys, (b = true → ¬ h'.IsList a ys) ∧ (b = false → ¬ h'.IsTuple a ys) := fun ys => by
  cases b
  · obtain ⟨its, rv, p, _⟩ := I.list h
    refine ⟨fun z => (by cases z), fun _ w => ?_⟩
    obtain ⟨o, e, r⟩ := p.isList
    exact cX (h := h') (xs := its.toArray) ⟨o, kp _ _ e, r⟩ w
  · obtain ⟨its, rv, p, _⟩ := I.tuple h
    refine ⟨fun _ w => ?_, fun z => by cases z⟩
    obtain ⟨o, e, r⟩ := p
    exact cX (h := h') w ⟨o, kp _ _ e, r⟩
end
def EY (K : PySem.W.Frag) (l m : Addr) (b c : Bool) : It :=
  ⟨fun i H => ∃ xs ys x y, sf K H l xs b ∧ sf K H m ys c ∧ xs[i]? = some x ∧ ys[i]? = some y,
   fun i H v H' => ∃ a x y, H a = none ∧ v = .ref a ∧ H' = cm H a (.tup [x, y]) ∧ (∀ xs, sf K H l xs b → xs[i]? = some x) ∧ ∀ ys, sf K H m ys c → ys[i]? = some y,
   fun i H => ∃ xs ys, sf K H l xs b ∧ sf K H m ys c ∧ (xs.length ≤ i ∨ ys.length ≤ i)⟩
structure FA (z p q i j l m : Addr) (b c : Bool) (k : Nat) (h : Heap) : Prop where
  zz : IsZip h z p q .none
  pp : IsPair h p (.ref i) (.ref j)
  qq : ∃ a b, IsPair h q a b
  ii : gh h i l k b
  jj : gh h j m k c
theorem zp {P : Program} {w : World} {K : PySem.W.Frag} {elts : List Expr} {x1} {pos : Pos} {z p q i j l m : Addr} {b c : Bool} (D : ZA z p q i j l m) : sN P w K (.Tuple elts x1 pos) (EY K l m b c) [z, p, q, i, j] z (FA z p q i j l m b c) where
  mem := by simp
  obj := fun k h st a ha => by
    simp only [List.mem_cons, List.not_mem_nil, or_false] at ha
    rcases ha with rfl | rfl | rfl | rfl | rfl
    · exact ⟨_, st.zz, fun v e => by cases e⟩
    · exact ⟨_, st.pp, fun v e => by cases e⟩
    · obtain ⟨_, _, e⟩ := st.qq; exact ⟨_, e, fun v e => by cases e⟩
    · exact st.ii.there
    · exact st.jj.there
  keep := fun k h h' st kp => ⟨kp z (by simp) _ st.zz, kp p (by simp) _ st.pp, let ⟨a, b, e⟩ := st.qq; ⟨a, b, kp q (by simp) _ e⟩, st.ii.keep fun o e => kp i (by simp) o e, st.jj.keep fun o e => kp j (by simp) o e⟩
  item := by
    intro X hP hw hK hc k pins s σ H E I hf st hg
    subst hP hw hK
    obtain ⟨xs, ys, x, y, h1, h2, hx, hy⟩ := hg
    obtain ⟨its, rv, _, p1⟩ := iO I h1
    obtain ⟨jts, rw', _, p2⟩ := iO I h2
    obtain ⟨u, hu, ru⟩ := rv.get hx
    obtain ⟨v, hv, ry⟩ := rw'.get hy
    have S : zw s.heap z p q i j l m .none k its.toArray jts.toArray := ⟨st.zz, st.pp, st.qq, p1 _ _ st.ii, p2 _ _ st.jj⟩
    refine ug D S (x := u) (y := v) (by simpa using hu) (by simpa using hv) fun h' S' hp kp => ⟨_, rfl, ?_⟩
    have zlt : z < s.heap.objs.size := Heap.lt_size st.zz
    refine wpAny_letOwnedTupleGo_zip (s := { s with heap := h' }) S'.zz fun h2' hz2 sb => ?_
    have up : ∀ a o, a ≠ z → h'.get? a = some o → h2'.get? a = some o := fun a o ha e => sb.extBut a o ha e
    have hob : ∀ a ∈ [z, p, q, i, j], a < s.heap.objs.size := fun a ha => by
      simp only [List.mem_cons, List.not_mem_nil, or_false] at ha
      rcases ha with rfl | rfl | rfl | rfl | rfl
      · exact Heap.lt_size st.zz
      · exact Heap.lt_size st.pp
      · obtain ⟨_, _, e⟩ := st.qq; exact Heap.lt_size e
      · obtain ⟨o, e, _⟩ := st.ii.there; exact Heap.lt_size e
      · obtain ⟨o, e, _⟩ := st.jj.there; exact Heap.lt_size e
    have hn : H s.heap.objs.size = none := I.hok.fresh (Nat.le_refl _)
    refine ⟨.ref s.heap.objs.size, _, uY (s := s) (t' := s.toks) (fp := [z, p, q, i, j]) (h' := h2') (u1 := u) (u2 := v) (v1 := x) (v2 := y) I hf hob (up _ _ (Nat.ne_of_gt zlt) hp) (fun a o ha e => ?_) ru ry, rfl, ⟨_, x, y, hn, rfl, rfl, fun zs hz => by rw [kK I h1 hz]; exact hx, fun zs hz => by rw [kK I h2 hz]; exact hy⟩, ?_, fun a ha => ?_⟩
    · simp only [List.mem_cons, List.not_mem_nil, or_false, not_or] at ha
      exact up a o ha.1 (kp a o ha.1 ha.2.2.1 ha.2.2.2.1 ha.2.2.2.2 e)
    · have i2 : gh h' i l (k + 1) b := by
        refine S'.ii.toB fun ys => ?_
        cases hb : b
        · subst hb
          refine ⟨fun z => (by cases z), fun _ w => ?_⟩
          obtain ⟨_, _, pl, _⟩ := I.list h1
          obtain ⟨o, e, r⟩ := pl.isList
          exact cX (h := h') (xs := _) ⟨o, kp _ _ D.lz D.lq D.li D.lj e, r⟩ w
        · subst hb
          refine ⟨fun _ w => ?_, fun z => by cases z⟩
          obtain ⟨_, _, pl, _⟩ := I.tuple h1
          obtain ⟨o, e, r⟩ := pl
          exact cX (h := h') w ⟨o, kp _ _ D.lz D.lq D.li D.lj e, r⟩
      have j2 : gh h' j m (k + 1) c := by
        refine S'.jj.toB fun ys => ?_
        cases hb : c
        · subst hb
          refine ⟨fun z => (by cases z), fun _ w => ?_⟩
          obtain ⟨_, _, pl, _⟩ := I.list h2
          obtain ⟨o, e, r⟩ := pl.isList
          exact cX (h := h') (xs := _) ⟨o, kp _ _ D.mz D.mq D.mi D.mj e, r⟩ w
        · subst hb
          refine ⟨fun _ w => ?_, fun z => by cases z⟩
          obtain ⟨_, _, pl, _⟩ := I.tuple h2
          obtain ⟨o, e, r⟩ := pl
          exact cX (h := h') w ⟨o, kp _ _ D.mz D.mq D.mi D.mj e, r⟩
      exact ⟨hz2, up _ _ D.pz S'.pp, let ⟨a, b, e⟩ := S'.qq; ⟨a, b, up _ _ D.qz e⟩, i2.keep fun o e => up _ _ D.iz e, j2.keep fun o e => up _ _ D.jz e⟩
    · rw [au (Nat.ne_of_lt (hob a ha))]; exact (hf a ha).1
  done := by
    intro X hP hw hK hc k pins s σ H E I hf st hg
    subst hP hw hK
    obtain ⟨xs, ys, h1, h2, hl⟩ := hg
    obtain ⟨its, rv, _, p1⟩ := iO I h1
    obtain ⟨jts, rw', _, p2⟩ := iO I h2
    have S : zw s.heap z p q i j l m .none k its.toArray jts.toArray := ⟨st.zz, st.pp, st.qq, p1 _ _ st.ii, p2 _ _ st.jj⟩
    have e1 := rv.length
    have e2 := rw'.length
    refine wU (I.ok.hd hc) D S ?_ fun h' kp => ⟨rfl, fS (t' := s.toks) (fp := [z, p, q, i, j]) I (fun a o ha e => ?_) hf⟩
    · rcases hl with hl | hl
      · left; simp; omega
      · right; simp; omega
    · simp only [List.mem_cons, List.not_mem_nil, or_false, not_or] at ha
      exact kp a o ha.1 ha.2.2.1 ha.2.2.2.1 ha.2.2.2.2 e
  self := fun _ _ _ _ _ st h => wpAny_pyIter_zip st.zz h
def Ad (H : Hp) (a : Addr) (ds : List PyData) : Bool → Prop
  | true => ∃ vs, H a = some (.tup vs) ∧ bw H ds vs
  | false => ∃ o vs, H a = some (.frz o (.lst vs)) ∧ bw H ds vs
theorem Ad.sq {K : PySem.W.Frag} {H : Hp} {a : Addr} {ds : List PyData} {b : Bool} (h : Ad H a ds b) : ∃ vs, sf K H a vs b ∧ bw H ds vs := by
  cases b
  · obtain ⟨o, vs, e, r⟩ := h; exact ⟨vs, .inl (.inr ⟨o, e⟩), r⟩
  · obtain ⟨vs, e, r⟩ := h; exact ⟨vs, eI.of e, r⟩
theorem Ad.kp {H H' : Hp} {a : Addr} {ds : List PyData} {b : Bool} (h : Ad H a ds b) (k : Kp H H') : Ad H' a ds b := by
  cases b
  · obtain ⟨o, vs, e, r⟩ := h; exact ⟨o, vs, k.2 _ _ _ e, bw.kp k _ _ r⟩
  · obtain ⟨vs, e, r⟩ := h; exact ⟨vs, k.1 _ _ e, bw.kp k _ _ r⟩
def CZ (p : PyData × PyData) : PyData := .tuple [p.1, p.2]
def gt (xs ys : List PyData) : List PyData := (xs.zip ys).map CZ
theorem xL {xs ys : List PyData} {i : Nat} {d : PyData} (h : (gt xs ys)[i]? = some d) : ∃ x y, xs[i]? = some x ∧ ys[i]? = some y ∧ d = .tuple [x, y] := by
  unfold gt at h
  rw [List.getElem?_map] at h
  cases e : (xs.zip ys)[i]? with
  | none => rw [e] at h; cases h
  | some p =>
    rw [e] at h
    obtain ⟨h1, h2⟩ := List.getElem?_zip_eq_some.mp e
    exact ⟨p.1, p.2, h1, h2, (Option.some.inj h).symm⟩
theorem jH (xs ys : List PyData) : (gt xs ys).length = min xs.length ys.length := by unfold gt; simp
theorem zR {K : PySem.W.Frag} {l m : Addr} {b c : Bool} {xs ys : List PyData} : zu (EY K l m b c) (fun H => Ad H l xs b ∧ Ad H m ys c) (gt xs ys) where
  go := fun i H ⟨h1, h2⟩ hi => by
    rw [jH] at hi
    obtain ⟨vs, s1, r1⟩ := h1.sq (K := K)
    obtain ⟨us, s2, r2⟩ := h2.sq (K := K)
    obtain ⟨x, hx, _⟩ := r1.get (List.getElem?_eq_getElem (show i < xs.length by omega))
    obtain ⟨y, hy, _⟩ := r2.get (List.getElem?_eq_getElem (show i < ys.length by omega))
    exact ⟨vs, us, x, y, s1, s2, hx, hy⟩
  yld := fun i H v H' d ⟨h1, h2⟩ hd h => by
    obtain ⟨a, x, y, ha, rfl, rfl, k1, k2⟩ := h
    obtain ⟨vs, s1, r1⟩ := h1.sq (K := K)
    obtain ⟨us, s2, r2⟩ := h2.sq (K := K)
    obtain ⟨dx, dy, e1, e2, rfl⟩ := xL hd
    obtain ⟨x', hx, px⟩ := r1.get e1
    obtain ⟨y', hy, py⟩ := r2.get e2
    have q1 := k1 vs s1
    have q2 := k2 us s2
    rw [hx] at q1; rw [hy] at q2
    cases q1; cases q2
    exact ⟨ce ha _, df ha (bw.cons px (bw.cons py bw.nil))⟩
  stop := fun i H ⟨h1, h2⟩ hi => by
    rw [jH] at hi
    obtain ⟨vs, s1, r1⟩ := h1.sq (K := K)
    obtain ⟨us, s2, r2⟩ := h2.sq (K := K)
    have l1 := r1.length
    have l2 := r2.length
    exact ⟨vs, us, s1, s2, by omega⟩
theorem Ca {n l m : Nat} (hl : l < n) (hm : m < n) : ZA (n + 4) (n + 2) (n + 3) n (n + 1) l m := by
  refine ⟨?_, ?_, ?_, ?_, ?_, ?_, ?_, ?_, ?_, ?_, ?_, ?_, ?_, ?_, ?_, ?_, ?_, ?_⟩ <;> (intro z; have z' : (_ : Nat) = _ := z; omega)
section
variable {X : Cx} {elts : List Expr} {x1 : Nat} {tp : Pos} {a b : Expr} {fa fb : Fe} {pos p : Pos} {nl : Nat} {G : List Str} {fs : aN → R (List PyData)}
def FG (K : PySem.W.Frag) (ta : TA) : TI := fun σ H R => ta σ H fun vs H1 => ∃ l m xs ys b c, vs = [.ref l, .ref m] ∧ sf K H1 l xs b ∧ sf K H1 m ys c ∧ R (EY K l m b c) H1
theorem BQ {ta : TA} (hg : Gl X "zip") (hm : X.mg "zip" = none) (ha : PA X [a, b] ta) (hs : starEach [a, b] X.env = [(false, eval a X.env), (false, eval b X.env)]) (hs2 : starEach [b] X.env = [(false, eval b X.env)]) :
    PI X (.Tuple elts x1 tp) (.Call (.Name "zip" p) [a, b] [] pos) (FG X.K ta) := by
  intro pins s σ H R I h
  refine Call_ (iT I hg hm boot_zip (PyProof.Rows.callWith_type1 (cQ (ha pos pins s σ H _ I h) fun us s1 ⟨vs, H1, I1, r1, q1⟩ => ?_) (by rw [hs, hs2]) (by rw [hs2]; rfl)))
  obtain ⟨l, m, xs, ys, b, c, e, h1, h2, q⟩ := q1
  subst e
  obtain ⟨u, v, rfl, ru, rv⟩ := vM r1
  cases ru
  cases rv
  obtain ⟨its, w1, p1, g1⟩ := iO I1 h1
  obtain ⟨jts, w2, p2, g2⟩ := iO I1 h2
  have ll : l < s1.heap.objs.size := by rcases p1 with ⟨o, e, _⟩ | ⟨o, e, _⟩ <;> exact Heap.lt_size e
  have lm : m < s1.heap.objs.size := by rcases p2 with ⟨o, e, _⟩ | ⟨o, e, _⟩ <;> exact Heap.lt_size e
  refine zi p1 p2 fun h' hz S kp => wpAny_pyIter_zip S.zz ?_
  have D := Ca ll lm
  have I2 : aM X pins σ H1 { s1 with heap := h' } := I1.kept (t' := s1.toks) kp
  have i2 : gh h' s1.heap.objs.size l 0 b := S.ii.toB (oy I1 h1 kp)
  have j2 : gh h' (s1.heap.objs.size + 1) m 0 c := S.jj.toB (oy I1 h2 kp)
  refine ⟨_, [s1.heap.objs.size + 4, s1.heap.objs.size + 2, s1.heap.objs.size + 3, s1.heap.objs.size, s1.heap.objs.size + 1], _, _, H1, rfl, I2, zp (b := b) (c := c) D, ⟨S.zz, S.pp, S.qq, i2, j2⟩, fun a ha => ?_, q⟩
  have hle : s1.heap.objs.size ≤ a := by
    simp only [List.mem_cons, List.not_mem_nil, or_false] at ha
    rcases ha with rfl | rfl | rfl | rfl | rfl
    · exact Nat.le_add_right _ 4
    · exact Nat.le_add_right _ 2
    · exact Nat.le_add_right _ 3
    · exact Nat.le_refl _
    · exact Nat.le_add_right _ 1
  exact I1.fpOk hle (I1.hok.fresh hle)
def uS (fa fb : Fe) : aN → R (List PyData) := fun ρ => fa ρ >>= fun x => fb ρ >>= fun y => iA x >>= fun xs => iA y >>= fun ys => .ok (gt xs ys)
theorem uI {H : Hp} {d : PyData} {v : V} {ds : List PyData} (h : Rp H d v) (e : iA d = .ok ds) : ∃ a b, v = .ref a ∧ Ad H a ds b := by
  cases d with
  | list xs =>
    cases e
    simp only [Rp] at h
    obtain ⟨a, o, vs, rfl, h, r⟩ := h
    exact ⟨a, false, rfl, o, vs, h, r⟩
  | tuple xs =>
    cases e
    simp only [Rp] at h
    obtain ⟨a, vs, rfl, h, r⟩ := h
    exact ⟨a, true, rfl, vs, h, r⟩
  | _ => cases e
theorem oz (T : Tb X nl G) (j : Nat) (hG : G[j]? = some ("zip" : Str)) (hm : X.mg "zip" = none) (ha : ai X a fa) (hb : ai X b fb) (h1 : aw a = true := by rfl) (h2 : aw b = true := by rfl) :
    pc X (.Tuple elts x1 tp) (.Call (.Name "zip" p) [a, b] [] pos) (uS fa fb) := by
  have g := T.gl _ (List.mem_of_getElem? hG)
  refine PI.imp (BQ g.1 hm (ag ha (ag hb ay h2) h1) (by rw [bg h1, bg h2]; rfl) (by rw [bg h2]; rfl)) fun σ H Rk h => ?_
  obtain ⟨ρ, sl, q⟩ := h
  unfold uS at q
  refine ⟨ρ, sl, ?_⟩
  unfold af aH
  cases e1 : fa ρ with
  | ex c => rw [e1] at q; exact q
  | no => rw [e1] at q; exact q
  | ok x =>
    rw [e1] at q
    simp only [R.ok_bind] at q ⊢
    cases e2 : fb ρ with
    | ex c => rw [e2] at q; exact q
    | no => rw [e2] at q; exact q
    | ok y =>
      rw [e2] at q
      simp only [R.ok_bind] at q ⊢
      cases e3 : iA x with
      | ex c => exact absurd e3 (by cases x <;> simp [iA])
      | no => rw [e3] at q; exact q.elim
      | ok xs =>
        rw [e3] at q
        simp only [R.ok_bind] at q
        cases e4 : iA y with
        | ex c => exact absurd e4 (by cases y <;> simp [iA])
        | no => rw [e4] at q; exact q.elim
        | ok ys =>
          rw [e4] at q
          simp only [R.ok_bind] at q
          intro vs H1 s1 ra
          simp only [RA] at ra
          obtain ⟨v, r', rfl, p1, v', r'', rfl, p2, rfl⟩ := ra
          obtain ⟨l, b1, rfl, d1⟩ := uI p1 e3
          obtain ⟨m, b2, rfl, d2⟩ := uI p2 e4
          obtain ⟨us, u1, _⟩ := d1.sq (K := X.K)
          obtain ⟨ws, u2, _⟩ := d2.sq (K := X.K)
          exact ⟨l, m, us, ws, b1, b2, rfl, u1, u2, q _ H1 s1 ⟨_, zR, fun H2 k _ => ⟨d1.kp k, d2.kp k⟩⟩⟩
theorem Z.oz (T : Tb X nl G) (j : Nat) (hG : G[j]? = some ("zip" : Str)) (hm : X.mg "zip" = none) (ha : Z.ai X a fa) (hb : Z.ai X b fb) (h1 : aw a = true := by rfl) (h2 : aw b = true := by rfl) : Z.pc X (.Tuple elts x1 tp) (.Call (.Name "zip" p) [a, b] [] pos) (uS fa fb) :=
  ⟨D2.oz T j hG hm ha.un hb.un h1 h2⟩
end
def cK (i j : Nat) : PyData → aN → Option aN
  | .tuple [x, y], ρ => some ((ρ.set i (.val x)).set j (.val y))
  | _, _ => none
section
variable {X : Cx} {nl : Nat} {G : List Str} {x y : Str} {k : Nat} {p1 p2 pos : Pos}
theorem eG (T : Tb X nl G) (i j : Nat) (hi : (X.N.take nl)[i]? = some x) (hj : (X.N.take nl)[j]? = some y) : pB X (.Tuple [.Name x p1, .Name y p2] k pos) (cK i j) := by
  obtain ⟨i1, i2, i3⟩ := T.nm hi
  obtain ⟨j1, j2, j3⟩ := T.nm hj
  refine PG.imp (yt T.calm (ji (jM T.nd i1 i2 i3) (ji (jM T.nd j1 j2 j3) vQ))) fun v σ H Q ⟨ρ, d, sl, p, q⟩ => ?_
  unfold cK at q
  split at q
  · rename_i e
    split at e
    · rename_i ρ0 dx dy
      cases e
      simp only [Rp] at p
      obtain ⟨a, vs, rfl, ha, r⟩ := p
      obtain ⟨u, r1, rfl, pu, r⟩ := r.cons_inv
      obtain ⟨w, r2, rfl, pw, r⟩ := r.cons_inv
      rw [r.nil_inv] at ha
      refine ⟨a, [u, w], rfl, eI.of ha, rfl, u, [w], rfl, w, [], rfl, rfl, ?_⟩
      refine q _ (Sl.set (c := .val dy) (o := some w) (Sl.set (c := .val dx) (o := some u) sl i ⟨u, rfl, pu⟩) j ⟨w, rfl, pw⟩) fun n e h => ?_
      obtain ⟨n1, h⟩ := bV (fun e z => by cases z) h
      obtain ⟨n2, h⟩ := bV (fun e z => by cases z) h
      exact ⟨h, by rw [List.getElem?_set, if_neg n1, List.getElem?_set, if_neg n2]⟩
    · cases e
  · exact q.elim
theorem Z.eG (T : Tb X nl G) (i j : Nat) (hi : (X.N.take nl)[i]? = some x) (hj : (X.N.take nl)[j]? = some y) : Z.pB X (.Tuple [.Name x p1, .Name y p2] k pos) (cK i j) :=
  ⟨D2.eG T i j hi hj⟩
end
theorem fA {own : Nat} {fr : List Nat} {i j : Nat} (hi : i < own) (hj : j < own) : ∀ ρ d ρ1, cK i j d (aB own fr ρ) = some ρ1 → mV (aB own fr ρ) ρ1 := fun ρ d ρ1 e => by
  unfold cK at e
  split at e
  · rename_i x y _
    cases e
    refine ⟨by rw [List.length_set, List.length_set], fun n c hn => ?_⟩
    have at_own : n < own → c = .non := fun h => by
      unfold aB at hn
      rw [List.getElem?_append_left (by simpa using h), List.getElem?_replicate, if_pos h] at hn
      exact (Option.some.inj hn).symm
    by_cases h1 : j = n
    · exact .inl (at_own (by omega))
    · by_cases h2 : i = n
      · exact .inl (at_own (by omega))
      · exact .inr (by rw [List.getElem?_set, if_neg h1, List.getElem?_set, if_neg h2]; exact hn)
  · cases e
open AutoSeq1 (wpAny_loadPart')
abbrev kg (h : Heap) (e i : Addr) (k : Int) (f0 old : Value) : Prop := h.get? e = some { cls := .type "enumerate", dict := none, data := .fields #[f0, .bool false, .ref i, rawInt k, .none, old], slots := #[] }
section
variable {prog : Program} {w : World} {A : Around} {E : Value → Shared → Prop} {s : Shared} {e i l : Addr} {k : Nat} {xs : Array Value}
theorem wL {x old : Value} {Q : Value → Shared → Prop} (he : kg s.heap e i k .none old) (it : gL s.heap i l k xs) (hli : l ≠ i) (hle : l ≠ e) (hei : e ≠ i) (hx : xs[k]? = some x)
    (hQ : ∀ h' old', kg h' e i ((k : Int) + 1) (rawInt s.heap.objs.size) old' → gL h' i l (k + 1) xs → IsPair h' s.heap.objs.size (.int k s.toks) x → (∀ c o, c ≠ e → c ≠ i → s.heap.get? c = some o → h'.get? c = some o) → Q (.ref s.heap.objs.size) { s with heap := h', toks := s.toks + 1 }) :
    wpAny (model prog w) A (Builtin.«enumerate.__next__» ⟨[.ref e], []⟩) (fun fin s' => ∃ v, fin = .done (.ret v) ∧ Q v s') E s := by
  obtain ⟨hp, g, d, tk, os⟩ := s
  show wpAny _ _ (field (Value.ref e) 2 >>= _) _ _ _
  refine wpAny_bind (wpAny_field he rfl (x := Value.ref i) rfl ?_)
  refine wpAny_bind (lb it hli hx fun g1 i1 s1 => ?_)
  replace s1 : Heap.SameBut i hp g1 := s1
  have e1 : kg g1 e i k .none old := (s1.2 e hei).trans he
  show wpAny _ _ (field (Value.ref e) 3 >>= _) _ _ (Shared.mk g1 g d tk os)
  refine wpAny_bind (wpAny_field e1 rfl (x := rawInt (k : Int)) rfl ?_)
  show wpAny _ _ (field (Value.ref e) 4 >>= _) _ _ (Shared.mk g1 g d tk os)
  refine wpAny_bind (wpAny_field e1 rfl (x := Value.none) rfl ?_)
  show wpAny _ _ (mkInt (k : Int) >>= _) _ _ (Shared.mk g1 g d tk os)
  refine wpAny_bind (wpAny_mkInt ?_)
  show wpAny _ _ (setField (Value.ref e) 3 (rawInt ((k : Int) + 1)) >>= _) _ _ (Shared.mk g1 g d (tk + 1) os)
  refine wpAny_bind (wpAny_setField_rec e1 (by simp) fun g2 e2 s2 => ?_)
  replace s2 : Heap.SameBut e g1 g2 := s2
  replace e2 : kg g2 e i ((k : Int) + 1) .none old := e2
  show wpAny _ _ (setField (Value.ref e) 4 Value.none >>= _) _ _ (Shared.mk g2 g d (tk + 1) os)
  refine wpAny_bind (wpAny_setField_rec e2 (by simp) fun g3 e3 s3 => ?_)
  replace s3 : Heap.SameBut e g2 g3 := s3
  replace e3 : kg g3 e i ((k : Int) + 1) .none old := e3
  show wpAny _ _ (newTuple [Value.int k tk, x] >>= _) _ _ (Shared.mk g3 g d (tk + 1) os)
  refine wpAny_bind (wpAny_newTuple ?_)
  have hsz : g3.objs.size = hp.objs.size := by rw [s3.1, s2.1, s1.1]
  have elt : e < g3.objs.size := Heap.lt_size e3
  have e4 : kg (g3.push { cls := .type "tuple", data := .seq #[.int k tk, x] }) e i ((k : Int) + 1) .none old := Heap.get?_push_of_some _ e3
  have t4 : IsPair (g3.push { cls := .type "tuple", data := .seq #[.int k tk, x] }) g3.objs.size (.int k tk) x := Heap.get?_push_size _ rfl
  have i3 : gL g3 i l (k + 1) xs := i1.keep (fun o q => s3.extBut _ _ hei.symm (s2.extBut _ _ hei.symm q)) fun o q => s3.extBut _ _ hle (s2.extBut _ _ hle q)
  have k3 : ∀ c o, c ≠ e → c ≠ i → hp.get? c = some o → g3.get? c = some o := fun c o c1 c2 q => s3.extBut _ _ c1 (s2.extBut _ _ c1 (s1.extBut _ _ c2 q))
  show wpAny _ _ (Builtin.SmallTypes.ownedTupleIsFree (Value.ref e) >>= _) _ _ (Shared.mk (g3.push { cls := .type "tuple", data := .seq #[.int k tk, x] }) g d (tk + 1) os)
  refine wpAny_bind ?_
  unfold Builtin.SmallTypes.ownedTupleIsFree
  refine wpAny_bind (wpAny_field e4 rfl (x := Value.none) rfl (wpAny_pure ?_))
  simp only [if_true]
  refine wpAny_bind (wpAny_rule ?_)
  refine wpAny_bind (wpAny_field e4 rfl (x := old) rfl ?_)
  refine wpAny_bind (wpAny_setField_rec e4 (by simp) fun g5 e5 s5 => ?_)
  replace s5 : Heap.SameBut e (g3.push { cls := .type "tuple", data := .seq #[.int k tk, x] }) g5 := s5
  replace e5 : kg g5 e i ((k : Int) + 1) .none x := e5
  show wpAny _ _ (Builtin.SmallTypes.ownedTupleHandOut (Value.ref e) (Value.ref g3.objs.size) >>= _) _ _ (Shared.mk g5 g d (tk + 1) os)
  refine wpAny_bind ?_
  unfold Builtin.SmallTypes.ownedTupleHandOut
  refine wpAny_bind (wpAny_setField_rec e5 (by simp) fun g6 e6 s6 => ?_)
  replace s6 : Heap.SameBut e g5 g6 := s6
  replace e6 : kg g6 e i ((k : Int) + 1) (rawInt g3.objs.size) x := e6
  refine wpAny_setField_rec e6 (by simp) fun g7 e7 s7 => ?_
  replace s7 : Heap.SameBut e g6 g7 := s7
  replace e7 : kg g7 e i ((k : Int) + 1) (rawInt g3.objs.size) x := e7
  have up : ∀ c o, c ≠ e → g3.get? c = some o → g7.get? c = some o := fun c o c1 q => s7.extBut _ _ c1 (s6.extBut _ _ c1 (s5.extBut _ _ c1 (Heap.get?_push_of_some _ q)))
  have t7 : IsPair g7 g3.objs.size (.int k tk) x := s7.extBut _ _ (Nat.ne_of_gt elt) (s6.extBut _ _ (Nat.ne_of_gt elt) (s5.extBut _ _ (Nat.ne_of_gt elt) t4))
  rw [hsz] at e7 t7
  refine wpAny_bind (wpAny_letGo (wpAny_pure ⟨_, rfl, ?_⟩))
  show Q (.ref g3.objs.size) _
  rw [hsz]
  exact hQ g7 x e7 (i3.keep (fun o q => up _ _ hei.symm q) fun o q => up _ _ hle q) t7 fun c o c1 c2 q => up c o c1 (k3 c o c1 c2 q)
theorem wN {x old : Value} {Q : Option Value → Shared → Prop} (he : kg s.heap e i k .none old) (it : gL s.heap i l k xs) (hli : l ≠ i) (hle : l ≠ e) (hei : e ≠ i) (hx : xs[k]? = some x)
    (hQ : ∀ h' old', kg h' e i ((k : Int) + 1) (rawInt s.heap.objs.size) old' → gL h' i l (k + 1) xs → IsPair h' s.heap.objs.size (.int k s.toks) x → (∀ c o, c ≠ e → c ≠ i → s.heap.get? c = some o → h'.get? c = some o) → Q (some (.ref s.heap.objs.size)) { s with heap := h', toks := s.toks + 1 }) :
    wpAny (model prog w) A (pyNext (.ref e)) Q E s := by
  have hT : s.TypeIs (.ref e) "enumerate" := ⟨_, he, rfl⟩
  unfold pyNext
  exact wpAny_bind (wpAny_attempt (wpAny_callSpecial?_slot (name := Str.ofString "__next__") hT F.slot_enumerate_next (wpAny_call_entry F.slot_enumerate_next hT F.entry_enumerate_next (wL he it hli hle hei hx fun h' o a b c d => wpAny_pure (hQ h' o a b c d)) (F.args_enumerate_next_1 _))))
theorem zj {old : Value} {Q : Option Value → Shared → Prop} (hh : A.handled = none) (he : kg s.heap e i k .none old) (it : gL s.heap i l k xs) (hx : xs[k]? = none) (hQ : ∀ h', (∀ c o, c ≠ i → s.heap.get? c = some o → h'.get? c = some o) → Q none { s with heap := h' }) :
    wpAny (model prog w) A (pyNext (.ref e)) Q E s := by
  have hT : s.TypeIs (.ref e) "enumerate" := ⟨_, he, rfl⟩
  unfold pyNext
  refine wpAny_bind (wpAny_attempt (wpAny_callSpecial?_slot (name := Str.ofString "__next__") hT F.slot_enumerate_next (wpAny_call_entry F.slot_enumerate_next hT F.entry_enumerate_next ?_ (F.args_enumerate_next_1 _))))
  show wpAny _ _ (field (Value.ref e) 2 >>= _) _ _ _
  refine wpAny_bind (wpAny_field he rfl (x := Value.ref i) rfl ?_)
  refine wpAny_bind (gq hh it hx fun h' x k1 ⟨o, ho, hc⟩ => ?_)
  exact wpAny_bind (wpAny_isInstance (T := "StopIteration") (b := true) ⟨o, ho, hc⟩ isSubtype_stop (wpAny_pure (hQ _ fun c o c1 q => k1 c o c1 q)))
theorem yB (l : Addr) (xs : Array Value) : Meets (Builtin.«enumerate.__new__» ⟨[.type "enumerate", .ref l], []⟩) (fun _ R s => sZ s.heap l xs ∧
    ∀ h', kg h' (s.heap.objs.size + 1) s.heap.objs.size 0 .none .none → gL h' s.heap.objs.size l 0 xs → (∀ c o, s.heap.get? c = some o → h'.get? c = some o) → R (.ok (.ret (.ref (s.heap.objs.size + 1)))) { s with heap := h' }) :=
  .of_wp fun prog w A R s h => by
    obtain ⟨hp, g, d, tk, os⟩ := s
    obtain ⟨h1, h⟩ := h
    have hsub := sub_enumerate
    have fin : ∀ oi : Obj, gL (hp.push oi) hp.objs.size l 0 xs → R (.ok (.ret (.ref (hp.push oi).objs.size))) ⟨(hp.push oi).push { cls := .type "enumerate", data := .fields #[.none, .bool false, .ref hp.objs.size, rawInt 0, .none, .none] }, g, d, tk, os⟩ := fun oi hi => by
      have e1 : (hp.push oi).objs.size = hp.objs.size + 1 := Heap.size_push ..
      rw [e1]
      refine h _ ?_ (hi.keep (fun o q => Heap.get?_push_of_some _ q) fun o q => Heap.get?_push_of_some _ q) fun c o q => Heap.get?_push_of_some _ (Heap.get?_push_of_some _ q)
      show Heap.get? _ (hp.objs.size + 1) = _
      rw [← e1]
      exact Heap.get?_push_size _ rfl
    rcases h1 with h1 | h1
    · have l1 : Heap.IsList (Shared.heap ⟨hp, g, d, tk, os⟩) l xs := h1
      obtain ⟨o, ho, _, _, _⟩ := id h1
      have ho' : (Shared.heap ⟨hp, g, d, tk, os⟩).get? l = some o := ho
      wp_walk using wpAny_loadPart' ho'
      refine wpAny_stack_any fun st => wpAny_pure ?_
      split
      · rename_i c _ _ _ _ _
        cases (c == Value.type "enumerate")
        · wp_walk using wpAny_loadPart' ho', wpAny_pyIter_list l1
          exact ⟨_, rfl, fin _ (.inl ⟨⟨_, Heap.get?_push_size _ rfl, rfl, rfl⟩, Heap.IsList.push h1 _⟩)⟩
        · wp_walk using wpAny_loadPart' ho', wpAny_pyIter_list l1
          exact ⟨_, rfl, fin _ (.inl ⟨⟨_, Heap.get?_push_size _ rfl, rfl, rfl⟩, Heap.IsList.push h1 _⟩)⟩
      · wp_walk using wpAny_loadPart' ho', wpAny_pyIter_list l1
        exact ⟨_, rfl, fin _ (.inl ⟨⟨_, Heap.get?_push_size _ rfl, rfl, rfl⟩, Heap.IsList.push h1 _⟩)⟩
    · have l1 : Heap.IsTuple (Shared.heap ⟨hp, g, d, tk, os⟩) l xs := h1
      obtain ⟨o, ho, _, _, _⟩ := id h1
      have ho' : (Shared.heap ⟨hp, g, d, tk, os⟩).get? l = some o := ho
      wp_walk using wpAny_loadPart' ho'
      refine wpAny_stack_any fun st => wpAny_pure ?_
      split
      · rename_i c _ _ _ _ _
        cases (c == Value.type "enumerate")
        · wp_walk using wpAny_loadPart' ho', wpAny_pyIter_tuple l1
          exact ⟨_, rfl, fin _ (.inr ⟨⟨_, Heap.get?_push_size _ rfl, rfl, rfl⟩, Heap.IsTuple.push h1 _⟩)⟩
        · wp_walk using wpAny_loadPart' ho', wpAny_pyIter_tuple l1
          exact ⟨_, rfl, fin _ (.inr ⟨⟨_, Heap.get?_push_size _ rfl, rfl, rfl⟩, Heap.IsTuple.push h1 _⟩)⟩
      · wp_walk using wpAny_loadPart' ho', wpAny_pyIter_tuple l1
        exact ⟨_, rfl, fin _ (.inr ⟨⟨_, Heap.get?_push_size _ rfl, rfl, rfl⟩, Heap.IsTuple.push h1 _⟩)⟩
theorem v9 {Q : Value → Shared → Prop} {l : Addr} (h1 : sZ s.heap l xs)
    (h : ∀ h', kg h' (s.heap.objs.size + 1) s.heap.objs.size 0 .none .none → gL h' s.heap.objs.size l 0 xs → (∀ c o, s.heap.get? c = some o → h'.get? c = some o) → Q (.ref (s.heap.objs.size + 1)) { s with heap := h' }) :
    wpAny (model prog w) A (call (.type "enumerate") [.ref l]) Q E s := by
  refine callType_new F.called_enumerate (by decide) (F.typeCall_enumerate_1 _) (F.newCall_enumerate_1 _) (fun obj => F.args_object_init_2 obj _) F.entry_enumerate_new (yB l xs) ⟨h1, fun h' e S k => ?_⟩
  exact ⟨⟨_, e, rfl⟩, h h' e S k⟩
end
end D2
namespace D2
open PySem PySem.Spec PyProof.Rows L2
def E2 (K : PySem.W.Frag) (l : Addr) (b : Bool) : It :=
  ⟨fun i H => ∃ xs x, sf K H l xs b ∧ xs[i]? = some x, fun i H v H' => ∃ a x, H a = none ∧ v = .ref a ∧ H' = cm H a (.tup [.int i, x]) ∧ ∀ xs, sf K H l xs b → xs[i]? = some x, fun i H => ∃ xs, sf K H l xs b ∧ xs.length ≤ i⟩
structure FK (e i l : Addr) (b : Bool) (k : Nat) (h : Heap) : Prop where
  ee : ∃ old, kg h e i k .none old
  ii : gh h i l k b
theorem wo {P : Program} {w : World} {K : PySem.W.Frag} {elts : List Expr} {x1} {pos : Pos} {e i l : Addr} {b : Bool} (hei : e ≠ i) (hle : l ≠ e) (hli : l ≠ i) : sN P w K (.Tuple elts x1 pos) (E2 K l b) [e, i] e (FK e i l b) where
  mem := by simp
  obj := fun k h st a ha => by
    simp only [List.mem_cons, List.not_mem_nil, or_false] at ha
    rcases ha with rfl | rfl
    · obtain ⟨_, q⟩ := st.ee; exact ⟨_, q, fun v e => by cases e⟩
    · exact st.ii.there
  keep := fun k h h' st kp => ⟨let ⟨o, q⟩ := st.ee; ⟨o, kp e (by simp) _ q⟩, st.ii.keep fun o q => kp i (by simp) o q⟩
  item := by
    intro X hP hw hK hc k pins s σ H E I hf st hg
    subst hP hw hK
    obtain ⟨xs, x, h1, hx⟩ := hg
    obtain ⟨its, rv, _, p1⟩ := iO I h1
    obtain ⟨u, hu, ru⟩ := rv.get hx
    obtain ⟨old, he⟩ := st.ee
    refine wN he (p1 _ _ st.ii) hli hle hei (x := u) (by simpa using hu) fun h' old' e' i' hp kp => ⟨_, rfl, ?_⟩
    have elt : e < s.heap.objs.size := Heap.lt_size he
    have hob : ∀ a ∈ [e, i], a < s.heap.objs.size := fun a ha => by
      simp only [List.mem_cons, List.not_mem_nil, or_false] at ha
      rcases ha with rfl | rfl
      · exact elt
      · obtain ⟨o, q, _⟩ := st.ii.there; exact Heap.lt_size q
    have hn : H s.heap.objs.size = none := I.hok.fresh (Nat.le_refl _)
    refine wpAny_letOwnedTupleGo_enum (s := { s with heap := h', toks := s.toks + 1 }) e' fun h2' e2 sb => ?_
    have up : ∀ a o, a ≠ e → h'.get? a = some o → h2'.get? a = some o := fun a o ha q => sb.extBut a o ha q
    refine ⟨.ref s.heap.objs.size, _, uY (s := s) (t' := s.toks + 1) (fp := [e, i]) (h' := h2') (u1 := .int k s.toks) (u2 := u) (v1 := .int k) (v2 := x) I hf hob (up _ _ (Nat.ne_of_gt elt) hp) (fun a o ha q => ?_) ⟨_, rfl⟩ ru, rfl, ⟨_, x, hn, rfl, rfl, fun zs hz => by rw [kK I h1 hz]; exact hx⟩, ?_, fun a ha => ?_⟩
    · simp only [List.mem_cons, List.not_mem_nil, or_false, not_or] at ha
      exact up a o ha.1 (kp a o ha.1 ha.2 q)
    · have i2 : gh h' i l (k + 1) b := by
        refine i'.toB fun ys => ?_
        cases hb : b
        · subst hb
          refine ⟨fun z => (by cases z), fun _ w => ?_⟩
          obtain ⟨_, _, pl, _⟩ := I.list h1
          obtain ⟨o, q, r⟩ := pl.isList
          exact cX (h := h') (xs := _) ⟨o, kp _ _ hle hli q, r⟩ w
        · subst hb
          refine ⟨fun _ w => ?_, fun z => by cases z⟩
          obtain ⟨_, _, pl, _⟩ := I.tuple h1
          obtain ⟨o, q, r⟩ := pl
          exact cX (h := h') w ⟨o, kp _ _ hle hli q, r⟩
      exact ⟨⟨_, by have q : kg h2' e i ((k : Int) + 1) .none old' := e2; simpa using q⟩, i2.keep fun o q => up _ _ hei.symm q⟩
    · rw [au (Nat.ne_of_lt (hob a ha))]; exact (hf a ha).1
  done := by
    intro X hP hw hK hc k pins s σ H E I hf st hg
    subst hP hw hK
    obtain ⟨xs, h1, hl⟩ := hg
    obtain ⟨its, rv, _, p1⟩ := iO I h1
    obtain ⟨old, he⟩ := st.ee
    have e1 := rv.length
    refine zj (I.ok.hd hc) he (p1 _ _ st.ii) (by simp; omega) fun h' kp => ⟨rfl, fS (t' := s.toks) (fp := [e, i]) I (fun a o ha q => ?_) hf⟩
    simp only [List.mem_cons, List.not_mem_nil, or_false, not_or] at ha
    exact kp a o ha.2 q
  self := fun _ _ _ _ _ st h => let ⟨_, q⟩ := st.ee; wpAny_pyIter_enum q h
def cG : Nat → List PyData → List PyData
  | _, [] => []
  | k, d :: ds => .tuple [.int k, d] :: cG (k + 1) ds
theorem fi : ∀ (k : Nat) (ds : List PyData), (cG k ds).length = ds.length
  | _, [] => rfl
  | k, d :: ds => by unfold cG; rw [List.length_cons, List.length_cons, fi]
theorem pQ : ∀ {k : Nat} {ds : List PyData} {i : Nat} {d : PyData}, (cG k ds)[i]? = some d → ∃ x, ds[i]? = some x ∧ d = .tuple [.int ((k + i : Nat) : Int), x]
  | k, [], i, d, h => by unfold cG at h; simp at h
  | k, x :: ds, 0, d, h => by
    unfold cG at h
    simp at h
    exact ⟨x, rfl, by rw [← h]; simp⟩
  | k, x :: ds, i + 1, d, h => by
    unfold cG at h
    rw [List.getElem?_cons_succ] at h
    obtain ⟨y, h1, h2⟩ := pQ h
    refine ⟨y, by simpa using h1, ?_⟩
    rw [h2]
    have : k + 1 + i = k + (i + 1) := by omega
    rw [this]
theorem zq {K : PySem.W.Frag} {l : Addr} {b : Bool} {xs : List PyData} : zu (E2 K l b) (fun H => Ad H l xs b) (cG 0 xs) where
  go := fun i H h1 hi => by
    rw [fi] at hi
    obtain ⟨vs, s1, r1⟩ := h1.sq (K := K)
    obtain ⟨x, hx, _⟩ := r1.get (List.getElem?_eq_getElem hi)
    exact ⟨vs, x, s1, hx⟩
  yld := fun i H v H' d h1 hd h => by
    obtain ⟨a, x, ha, rfl, rfl, k1⟩ := h
    obtain ⟨vs, s1, r1⟩ := h1.sq (K := K)
    obtain ⟨dx, e1, rfl⟩ := pQ hd
    obtain ⟨x', hx, px⟩ := r1.get e1
    have q1 := k1 vs s1
    rw [hx] at q1
    cases q1
    refine ⟨ce ha _, df ha (bw.cons ?_ (bw.cons px bw.nil))⟩
    rw [Nat.zero_add]
    exact de
  stop := fun i H h1 hi => by
    rw [fi] at hi
    obtain ⟨vs, s1, r1⟩ := h1.sq (K := K)
    have l1 := r1.length
    exact ⟨vs, s1, by omega⟩
section
variable {X : Cx} {elts : List Expr} {x1 : Nat} {tp : Pos} {a b : Expr} {fa fb : Fe} {pos p : Pos} {nl : Nat} {G : List Str} {fs : aN → R (List PyData)}
def FD (K : PySem.W.Frag) (ta : TA) : TI := fun σ H R => ta σ H fun vs H1 => ∃ l xs b, vs = [.ref l] ∧ sf K H1 l xs b ∧ R (E2 K l b) H1
theorem AS {ta : TA} (hg : Gl X "enumerate") (hm : X.mg "enumerate" = none) (ha : PA X [a] ta) (hs : starEach [a] X.env = [(false, eval a X.env)]) : PI X (.Tuple elts x1 tp) (.Call (.Name "enumerate" p) [a] [] pos) (FD X.K ta) := by
  intro pins s σ H R I h
  refine Call_ (iT I hg hm boot_enumerate (PyProof.Rows.callWith_type1 (cQ (ha pos pins s σ H _ I h) fun us s1 ⟨vs, H1, I1, r1, q1⟩ => ?_) hs rfl))
  obtain ⟨l, xs, b, e, h1, q⟩ := q1
  subst e
  obtain ⟨u, rfl, ru⟩ := gy r1
  cases ru
  obtain ⟨its, w1, p1, g1⟩ := iO I1 h1
  have ll : l < s1.heap.objs.size := by rcases p1 with ⟨o, e, _⟩ | ⟨o, e, _⟩ <;> exact Heap.lt_size e
  refine v9 p1 fun h' hz S kp => wpAny_pyIter_enum hz ?_
  have I2 : aM X pins σ H1 { s1 with heap := h' } := I1.kept (t' := s1.toks) kp
  have i2 : gh h' s1.heap.objs.size l 0 b := S.toB (oy I1 h1 kp)
  refine ⟨_, [s1.heap.objs.size + 1, s1.heap.objs.size], _, _, H1, rfl, I2, wo (b := b) (Nat.ne_of_gt (Nat.lt_succ_self _)) (Nat.ne_of_lt (Nat.lt_succ_of_lt ll)) (Nat.ne_of_lt ll), ⟨⟨_, hz⟩, i2⟩, fun a ha => ?_, q⟩
  have hle : s1.heap.objs.size ≤ a := by
    simp only [List.mem_cons, List.not_mem_nil, or_false] at ha
    rcases ha with rfl | rfl
    · exact Nat.le_add_right _ 1
    · exact Nat.le_refl _
  exact I1.fpOk hle (I1.hok.fresh hle)
def lx (fa : Fe) : aN → R (List PyData) := fun ρ => fa ρ >>= fun x => iA x >>= fun xs => .ok (cG 0 xs)
theorem iB (T : Tb X nl G) (j : Nat) (hG : G[j]? = some ("enumerate" : Str)) (hm : X.mg "enumerate" = none) (ha : ai X a fa) (h1 : aw a = true := by rfl) : pc X (.Tuple elts x1 tp) (.Call (.Name "enumerate" p) [a] [] pos) (lx fa) := by
  have g := T.gl _ (List.mem_of_getElem? hG)
  refine PI.imp (AS g.1 hm (ag ha ay h1) (by rw [bg h1]; rfl)) fun σ H Rk h => ?_
  obtain ⟨ρ, sl, q⟩ := h
  unfold lx at q
  refine ⟨ρ, sl, ?_⟩
  unfold af aH
  cases e1 : fa ρ with
  | ex c => rw [e1] at q; exact q
  | no => rw [e1] at q; exact q
  | ok x =>
    rw [e1] at q
    simp only [R.ok_bind] at q ⊢
    cases e3 : iA x with
    | ex c => exact absurd e3 (by cases x <;> simp [iA])
    | no => rw [e3] at q; exact q.elim
    | ok xs =>
      rw [e3] at q
      simp only [R.ok_bind] at q
      intro vs H1 s1 ra
      simp only [RA] at ra
      obtain ⟨v, r', rfl, p1, rfl⟩ := ra
      obtain ⟨l, b1, rfl, d1⟩ := uI p1 e3
      obtain ⟨us, u1, _⟩ := d1.sq (K := X.K)
      exact ⟨l, us, b1, rfl, u1, q _ H1 s1 ⟨_, zq, fun H2 k _ => d1.kp k⟩⟩
theorem Z.iB (T : Tb X nl G) (j : Nat) (hG : G[j]? = some ("enumerate" : Str)) (hm : X.mg "enumerate" = none) (ha : Z.ai X a fa) (h1 : aw a = true := by rfl) : Z.pc X (.Tuple elts x1 tp) (.Call (.Name "enumerate" p) [a] [] pos) (lx fa) :=
  ⟨D2.iB T j hG hm ha.un h1⟩
end
abbrev fg (h : Heap) (T : Addr) (a b c : Value) : Prop := h.get? T = some { cls := .type "tuple", data := .seq #[a, b, c] }
structure Z3 (h : Heap) (N l m o : Nat) (f0 : Value) (k : Nat) (xs ys zs : Array Value) : Prop where
  zz : IsZip h (N + 5) (N + 3) (N + 4) f0
  pp : fg h (N + 3) (.ref N) (.ref (N + 1)) (.ref (N + 2))
  qq : ∃ a b c, fg h (N + 4) a b c
  ii : gL h N l k xs
  jj : gL h (N + 1) m k ys
  kk : gL h (N + 2) o k zs
theorem oa (a b c : Value) : checkTypeCall "zip" ⟨[a, b, c], []⟩ = pure () := by kernel_rfl
theorem pF (a b c : Value) : checkBuiltinCall "zip.__new__" ⟨[.type "zip", a, b, c], []⟩ = pure () := by kernel_rfl
theorem kI (a b c d : Value) : argsOk "object.__init__" ⟨[a, b, c, d], []⟩ := by unfold argsOk; kernel_rfl
section
variable {prog : Program} {w : World} {A : Around} {E : Value → Shared → Prop} {s : Shared} {N l m o : Nat} {k : Nat} {xs ys zs : Array Value}
theorem eD {T : Addr} {a b c x : Value} {k : Nat} {Q : Unit → Shared → Prop} (hT : fg s.heap T a b c)
    (h : ∀ h', h'.get? T = some { cls := .type "tuple", data := .seq ((#[a, b, c] : Array Value).setIfInBounds k x) } → Heap.SameBut T s.heap h' → Q () { s with heap := h' }) :
    wpAny (model prog w) A (updateSeq T (·.setIfInBounds k x)) Q E s := by
  refine wpAny_updateSeq hT rfl (h _ ?_ (Heap.SameBut.update ..))
  rw [Heap.get?_update_self _ hT rfl]
  simp [Obj.mapSeq]
theorem wB {x y v : Value} {Q : Value → Shared → Prop} (hl : l < N) (hm : m < N) (ho : o < N) (S : Z3 s.heap N l m o .none k xs ys zs) (hx : xs[k]? = some x) (hy : ys[k]? = some y) (hv : zs[k]? = some v)
    (hQ : ∀ h', Z3 h' N l m o (rawInt s.heap.objs.size) (k + 1) xs ys zs → fg h' s.heap.objs.size x y v → (∀ (c : Nat) o, c ≠ N + 5 → c ≠ N + 4 → c ≠ N → c ≠ N + 1 → c ≠ N + 2 → s.heap.get? c = some o → h'.get? c = some o) → Q (.ref s.heap.objs.size) { s with heap := h' }) :
    wpAny (model prog w) A (Builtin.«zip.__next__» ⟨[.ref (N + 5)], []⟩) (fun fin s' => ∃ v, fin = .done (.ret v) ∧ Q v s') E s := by
  obtain ⟨hz, hp, ⟨a, b, c, hq⟩, hi, hj, hk⟩ := S
  have n1 : ∀ {a b : Nat}, a ≠ b → (show Addr from a) ≠ (show Addr from b) := fun h => h
  show wpAny _ _ (field (Value.ref (N + 5)) 2 >>= _) _ _ _
  refine wpAny_bind (wpAny_field hz rfl (x := Value.bool false) rfl ?_)
  show wpAny _ _ (field (Value.ref (N + 5)) 3 >>= _) _ _ _
  refine wpAny_bind (wpAny_field hz rfl (x := Value.ref (N + 3)) rfl ?_)
  refine wpAny_bind (wpAny_seqItems hp rfl ?_)
  show wpAny _ _ (Builtin.SmallTypes.ownedTupleIsFree (Value.ref (N + 5)) >>= _) _ _ _
  refine wpAny_bind ?_
  unfold Builtin.SmallTypes.ownedTupleIsFree
  refine wpAny_bind (wpAny_field hz rfl (x := Value.none) rfl (wpAny_pure ?_))
  simp only [if_true]
  refine wpAny_bind (wpAny_rule ?_)
  refine wpAny_bind (wpAny_field hz rfl (x := Value.ref (N + 4)) rfl ?_)
  refine wpAny_bind (wpAny_setField_rec hz (by simp) fun g1 z1 s1 => ?_)
  replace z1 : IsZip g1 (N + 5) (N + 3) (N + 4) .ellipsis := z1
  refine wpAny_bind ?_
  simp only [List.zipIdx_cons, List.zipIdx_nil, List.forIn_cons, List.forIn_nil]
  refine wpAny_bind (wpAny_bind (wpAny_onRaise ?_))
  show wpAny _ _ (Builtin.SmallTypes.nextOf (Value.ref N) >>= _) _ _ _
  have hi1 : gL g1 N l k xs := hi.keep (fun o e => s1.extBut _ _ (n1 (by omega)) e) fun o e => s1.extBut _ _ (n1 (by omega)) e
  refine wpAny_bind (lb hi1 (n1 (by omega)) hx fun g2 i2 s2 => wpAny_pure ?_)
  have q2 : fg g2 (N + 4) a b c := s2.extBut _ _ (n1 (by omega)) (s1.extBut _ _ (n1 (by omega)) hq)
  refine wpAny_bind (wpAny_seqItems q2 rfl ?_)
  refine wpAny_bind (eD q2 fun g3 q3 s3 => ?_)
  replace q3 : fg g3 (N + 4) x b c := q3
  refine wpAny_bind (wpAny_letGo (wpAny_pure ?_))
  refine wpAny_bind (wpAny_bind (wpAny_onRaise ?_))
  show wpAny _ _ (Builtin.SmallTypes.nextOf (Value.ref (N + 1)) >>= _) _ _ _
  have hj3 : gL g3 (N + 1) m k ys := hj.keep (fun o e => s3.extBut _ _ (n1 (by omega)) (s2.extBut _ _ (n1 (by omega)) (s1.extBut _ _ (n1 (by omega)) e))) fun o e => s3.extBut _ _ (n1 (by omega)) (s2.extBut _ _ (n1 (by omega)) (s1.extBut _ _ (n1 (by omega)) e))
  refine wpAny_bind (lb hj3 (n1 (by omega)) hy fun g4 j4 s4 => wpAny_pure ?_)
  have q4 : fg g4 (N + 4) x b c := s4.extBut _ _ (n1 (by omega)) q3
  refine wpAny_bind (wpAny_seqItems q4 rfl ?_)
  refine wpAny_bind (eD q4 fun g5 q5 s5 => ?_)
  replace q5 : fg g5 (N + 4) x y c := q5
  refine wpAny_bind (wpAny_letGo (wpAny_pure ?_))
  refine wpAny_bind (wpAny_bind (wpAny_onRaise ?_))
  show wpAny _ _ (Builtin.SmallTypes.nextOf (Value.ref (N + 2)) >>= _) _ _ _
  have hk5 : gL g5 (N + 2) o k zs := hk.keep (fun o e => s5.extBut _ _ (n1 (by omega)) (s4.extBut _ _ (n1 (by omega)) (s3.extBut _ _ (n1 (by omega)) (s2.extBut _ _ (n1 (by omega)) (s1.extBut _ _ (n1 (by omega)) e))))) fun o e => s5.extBut _ _ (n1 (by omega)) (s4.extBut _ _ (n1 (by omega)) (s3.extBut _ _ (n1 (by omega)) (s2.extBut _ _ (n1 (by omega)) (s1.extBut _ _ (n1 (by omega)) e))))
  refine wpAny_bind (lb hk5 (n1 (by omega)) hv fun g6 k6 s6 => wpAny_pure ?_)
  have q6 : fg g6 (N + 4) x y c := s6.extBut _ _ (n1 (by omega)) q5
  refine wpAny_bind (wpAny_seqItems q6 rfl ?_)
  refine wpAny_bind (eD q6 fun g7 q7 s7 => ?_)
  replace q7 : fg g7 (N + 4) x y v := q7
  refine wpAny_bind (wpAny_letGo (wpAny_pure (wpAny_pure ?_)))
  refine wpAny_bind (wpAny_seqItems q7 rfl ?_)
  refine wpAny_bind (wpAny_newTuple ?_)
  have hsz : g7.objs.size = s.heap.objs.size := by rw [s7.1, s6.1, s5.1, s4.1, s3.1, s2.1, s1.1]
  have z7 : IsZip g7 (N + 5) (N + 3) (N + 4) .ellipsis := s7.extBut _ _ (n1 (by omega)) (s6.extBut _ _ (n1 (by omega)) (s5.extBut _ _ (n1 (by omega)) (s4.extBut _ _ (n1 (by omega)) (s3.extBut _ _ (n1 (by omega)) (s2.extBut _ _ (n1 (by omega)) z1)))))
  have k7 : ∀ (c : Nat) o, c ≠ N + 5 → c ≠ N + 4 → c ≠ N → c ≠ N + 1 → c ≠ N + 2 → s.heap.get? c = some o → g7.get? c = some o := fun c o c1 c2 c3 c4 c5 e => s7.extBut _ _ (n1 c2) (s6.extBut _ _ (n1 c5) (s5.extBut _ _ (n1 c2) (s4.extBut _ _ (n1 c4) (s3.extBut _ _ (n1 c2) (s2.extBut _ _ (n1 c3) (s1.extBut _ _ (n1 c1) e))))))
  have i7 : gL g7 N l (k + 1) xs := i2.keep (fun o e => s7.extBut _ _ (n1 (by omega)) (s6.extBut _ _ (n1 (by omega)) (s5.extBut _ _ (n1 (by omega)) (s4.extBut _ _ (n1 (by omega)) (s3.extBut _ _ (n1 (by omega)) e))))) fun o e => s7.extBut _ _ (n1 (by omega)) (s6.extBut _ _ (n1 (by omega)) (s5.extBut _ _ (n1 (by omega)) (s4.extBut _ _ (n1 (by omega)) (s3.extBut _ _ (n1 (by omega)) e))))
  have j7 : gL g7 (N + 1) m (k + 1) ys := j4.keep (fun o e => s7.extBut _ _ (n1 (by omega)) (s6.extBut _ _ (n1 (by omega)) (s5.extBut _ _ (n1 (by omega)) e))) fun o e => s7.extBut _ _ (n1 (by omega)) (s6.extBut _ _ (n1 (by omega)) (s5.extBut _ _ (n1 (by omega)) e))
  have l7 : gL g7 (N + 2) o (k + 1) zs := k6.keep (fun o e => s7.extBut _ _ (n1 (by omega)) e) fun o e => s7.extBut _ _ (n1 (by omega)) e
  have zlt : N + 5 < g7.objs.size := Heap.lt_size z7
  show wpAny _ _ (Builtin.SmallTypes.ownedTupleHandOut (Value.ref (N + 5)) (Value.ref g7.objs.size) >>= _) _ _ _
  refine wpAny_bind ?_
  unfold Builtin.SmallTypes.ownedTupleHandOut
  have z8 : IsZip (g7.push { cls := .type "tuple", data := .seq #[x, y, v] }) (N + 5) (N + 3) (N + 4) .ellipsis := Heap.get?_push_of_some _ z7
  refine wpAny_bind (wpAny_setField_rec z8 (by simp) fun g9 z9 s9 => ?_)
  replace z9 : IsZip g9 (N + 5) (N + 3) (N + 4) (rawInt g7.objs.size) := z9
  refine wpAny_setField_rec z9 (by simp) fun g10 z10 s10 => ?_
  replace z10 : IsZip g10 (N + 5) (N + 3) (N + 4) (rawInt g7.objs.size) := z10
  have up : ∀ (c : Nat) o, c ≠ N + 5 → g7.get? c = some o → g10.get? c = some o := fun c o c1 e => s10.extBut _ _ (n1 c1) (s9.extBut _ _ (n1 c1) (Heap.get?_push_of_some _ e))
  have t10 : fg g10 g7.objs.size x y v := s10.extBut _ _ (Nat.ne_of_gt zlt) (s9.extBut _ _ (Nat.ne_of_gt zlt) (Heap.get?_push_size _ rfl))
  rw [hsz] at z10 t10
  refine wpAny_pure ⟨_, rfl, ?_⟩
  show Q (.ref g7.objs.size) _
  rw [hsz]
  exact hQ g10 ⟨z10, up _ _ (by omega) (k7 _ _ (by omega) (by omega) (by omega) (by omega) (by omega) hp), ⟨x, y, v, up _ _ (by omega) q7⟩, i7.keep (fun o e => up _ _ (by omega) e) fun o e => up _ _ (by omega) e, j7.keep (fun o e => up _ _ (by omega) e) fun o e => up _ _ (by omega) e,
    l7.keep (fun o e => up _ _ (by omega) e) fun o e => up _ _ (by omega) e⟩ t10 fun c o c1 c2 c3 c4 c5 e => up c o c1 (k7 c o c1 c2 c3 c4 c5 e)
theorem zb {Q : PySem.Fin → Shared → Prop} (hh : A.handled = none) (hl : l < N) (hm : m < N) (ho : o < N) (S : Z3 s.heap N l m o .none k xs ys zs) (hend : xs[k]? = none ∨ ys[k]? = none ∨ zs[k]? = none)
    (hE : ∀ h' e, (∀ (c : Nat) o, c ≠ N + 5 → c ≠ N + 4 → c ≠ N → c ≠ N + 1 → c ≠ N + 2 → s.heap.get? c = some o → h'.get? c = some o) → (∃ o, h'.get? e = some o ∧ o.cls = .type "StopIteration") → E (.ref e) { s with heap := h' }) :
    wpAny (model prog w) A (Builtin.«zip.__next__» ⟨[.ref (N + 5)], []⟩) Q E s := by
  obtain ⟨hz, hp, ⟨a, b, c, hq⟩, hi, hj, hk⟩ := S
  have n1 : ∀ {a b : Nat}, a ≠ b → (show Addr from a) ≠ (show Addr from b) := fun h => h
  show wpAny _ _ (field (Value.ref (N + 5)) 2 >>= _) _ _ _
  refine wpAny_bind (wpAny_field hz rfl (x := Value.bool false) rfl ?_)
  show wpAny _ _ (field (Value.ref (N + 5)) 3 >>= _) _ _ _
  refine wpAny_bind (wpAny_field hz rfl (x := Value.ref (N + 3)) rfl ?_)
  refine wpAny_bind (wpAny_seqItems hp rfl ?_)
  show wpAny _ _ (Builtin.SmallTypes.ownedTupleIsFree (Value.ref (N + 5)) >>= _) _ _ _
  refine wpAny_bind ?_
  unfold Builtin.SmallTypes.ownedTupleIsFree
  refine wpAny_bind (wpAny_field hz rfl (x := Value.none) rfl (wpAny_pure ?_))
  simp only [if_true]
  refine wpAny_bind (wpAny_rule ?_)
  refine wpAny_bind (wpAny_field hz rfl (x := Value.ref (N + 4)) rfl ?_)
  refine wpAny_bind (wpAny_setField_rec hz (by simp) fun g1 z1 s1 => ?_)
  replace z1 : IsZip g1 (N + 5) (N + 3) (N + 4) .ellipsis := z1
  refine wpAny_bind ?_
  simp only [List.zipIdx_cons, List.zipIdx_nil, List.forIn_cons, List.forIn_nil]
  refine wpAny_bind (wpAny_bind (wpAny_onRaise ?_))
  show wpAny _ _ (Builtin.SmallTypes.nextOf (Value.ref N) >>= _) _ _ _
  have hi1 : gL g1 N l k xs := hi.keep (fun o e => s1.extBut _ _ (n1 (by omega)) e) fun o e => s1.extBut _ _ (n1 (by omega)) e
  cases hx : xs[k]? with
  | none =>
    refine wpAny_bind (gq hh hi1 hx fun g2 e s2 he => ?_)
    obtain ⟨oe, hoe, hce⟩ := he
    have z2 : IsZip g2 (N + 5) (N + 3) (N + 4) .ellipsis := s2 _ _ (n1 (by omega)) z1
    have hez : e ≠ (N + 5 : Nat) := fun t => by subst t; rw [z2] at hoe; cases hoe; simp at hce
    exact wpAny_setField_rec z2 (by simp) fun g3 _ s3 => hE g3 e (fun c o c1 _ c3 _ _ t => s3.extBut _ _ (n1 c1) (s2 _ _ (n1 c3) (s1.extBut _ _ (n1 c1) t))) ⟨oe, s3.extBut _ _ hez hoe, hce⟩
  | some x =>
    refine wpAny_bind (lb hi1 (n1 (by omega)) hx fun g2 i2 s2 => wpAny_pure ?_)
    have q2 : fg g2 (N + 4) a b c := s2.extBut _ _ (n1 (by omega)) (s1.extBut _ _ (n1 (by omega)) hq)
    refine wpAny_bind (wpAny_seqItems q2 rfl ?_)
    refine wpAny_bind (eD q2 fun g3 q3 s3 => ?_)
    replace q3 : fg g3 (N + 4) x b c := q3
    refine wpAny_bind (wpAny_letGo (wpAny_pure ?_))
    refine wpAny_bind (wpAny_bind (wpAny_onRaise ?_))
    show wpAny _ _ (Builtin.SmallTypes.nextOf (Value.ref (N + 1)) >>= _) _ _ _
    have hj3 : gL g3 (N + 1) m k ys := hj.keep (fun o e => s3.extBut _ _ (n1 (by omega)) (s2.extBut _ _ (n1 (by omega)) (s1.extBut _ _ (n1 (by omega)) e))) fun o e => s3.extBut _ _ (n1 (by omega)) (s2.extBut _ _ (n1 (by omega)) (s1.extBut _ _ (n1 (by omega)) e))
    have z3 : IsZip g3 (N + 5) (N + 3) (N + 4) .ellipsis := s3.extBut _ _ (n1 (by omega)) (s2.extBut _ _ (n1 (by omega)) z1)
    have k3 : ∀ (c : Nat) o, c ≠ N + 5 → c ≠ N + 4 → c ≠ N → s.heap.get? c = some o → g3.get? c = some o := fun c o c1 c2 c3 t => s3.extBut _ _ (n1 c2) (s2.extBut _ _ (n1 c3) (s1.extBut _ _ (n1 c1) t))
    cases hy : ys[k]? with
    | none =>
      refine wpAny_bind (gq hh hj3 hy fun g4 e s4 he => ?_)
      obtain ⟨oe, hoe, hce⟩ := he
      have z4 : IsZip g4 (N + 5) (N + 3) (N + 4) .ellipsis := s4 _ _ (n1 (by omega)) z3
      have hez : e ≠ (N + 5 : Nat) := fun t => by subst t; rw [z4] at hoe; cases hoe; simp at hce
      exact wpAny_setField_rec z4 (by simp) fun g5 _ s5 => hE g5 e (fun c o c1 c2 c3 c4 _ t => s5.extBut _ _ (n1 c1) (s4 _ _ (n1 c4) (k3 c o c1 c2 c3 t))) ⟨oe, s5.extBut _ _ hez hoe, hce⟩
    | some y =>
      have hv : zs[k]? = none := by
        rcases hend with t | t | t
        · rw [hx] at t; cases t
        · rw [hy] at t; cases t
        · exact t
      refine wpAny_bind (lb hj3 (n1 (by omega)) hy fun g4 j4 s4 => wpAny_pure ?_)
      have q4 : fg g4 (N + 4) x b c := s4.extBut _ _ (n1 (by omega)) q3
      refine wpAny_bind (wpAny_seqItems q4 rfl ?_)
      refine wpAny_bind (eD q4 fun g5 q5 s5 => ?_)
      refine wpAny_bind (wpAny_letGo (wpAny_pure ?_))
      refine wpAny_bind (wpAny_bind (wpAny_onRaise ?_))
      show wpAny _ _ (Builtin.SmallTypes.nextOf (Value.ref (N + 2)) >>= _) _ _ _
      have hk5 : gL g5 (N + 2) o k zs := hk.keep (fun o e => s5.extBut _ _ (n1 (by omega)) (s4.extBut _ _ (n1 (by omega)) (k3 _ o (by omega) (by omega) (by omega) e))) fun o e => s5.extBut _ _ (n1 (by omega)) (s4.extBut _ _ (n1 (by omega)) (k3 _ o (by omega) (by omega) (by omega) e))
      refine wpAny_bind (gq hh hk5 hv fun g6 e s6 he => ?_)
      obtain ⟨oe, hoe, hce⟩ := he
      have z6 : IsZip g6 (N + 5) (N + 3) (N + 4) .ellipsis := s6 _ _ (n1 (by omega)) (s5.extBut _ _ (n1 (by omega)) (s4.extBut _ _ (n1 (by omega)) z3))
      have hez : e ≠ (N + 5 : Nat) := fun t => by subst t; rw [z6] at hoe; cases hoe; simp at hce
      exact wpAny_setField_rec z6 (by simp) fun g7 _ s7 => hE g7 e (fun c o c1 c2 c3 c4 c5 t => s7.extBut _ _ (n1 c1) (s6 _ _ (n1 c5) (s5.extBut _ _ (n1 c2) (s4.extBut _ _ (n1 c4) (k3 c o c1 c2 c3 t))))) ⟨oe, s7.extBut _ _ hez hoe, hce⟩
theorem rG {x y v : Value} {Q : Option Value → Shared → Prop} (hl : l < N) (hm : m < N) (ho : o < N) (S : Z3 s.heap N l m o .none k xs ys zs) (hx : xs[k]? = some x) (hy : ys[k]? = some y) (hv : zs[k]? = some v)
    (hQ : ∀ h', Z3 h' N l m o (rawInt s.heap.objs.size) (k + 1) xs ys zs → fg h' s.heap.objs.size x y v → (∀ (c : Nat) o, c ≠ N + 5 → c ≠ N + 4 → c ≠ N → c ≠ N + 1 → c ≠ N + 2 → s.heap.get? c = some o → h'.get? c = some o) → Q (some (.ref s.heap.objs.size)) { s with heap := h' }) :
    wpAny (model prog w) A (pyNext (.ref (N + 5))) Q E s := by
  have hT : s.TypeIs (.ref (N + 5)) "zip" := ⟨_, S.zz, rfl⟩
  unfold pyNext
  exact wpAny_bind (wpAny_attempt (wpAny_callSpecial?_slot (name := Str.ofString "__next__") hT F.slot_zip_next (wpAny_call_entry F.slot_zip_next hT F.entry_zip_next (wB hl hm ho S hx hy hv fun h' a b c => wpAny_pure (hQ h' a b c)) (F.args_zip_next_1 _))))
theorem tZ {Q : Option Value → Shared → Prop} (hh : A.handled = none) (hl : l < N) (hm : m < N) (ho : o < N) (S : Z3 s.heap N l m o .none k xs ys zs) (hend : xs[k]? = none ∨ ys[k]? = none ∨ zs[k]? = none)
    (hQ : ∀ h', (∀ (c : Nat) o, c ≠ N + 5 → c ≠ N + 4 → c ≠ N → c ≠ N + 1 → c ≠ N + 2 → s.heap.get? c = some o → h'.get? c = some o) → Q none { s with heap := h' }) : wpAny (model prog w) A (pyNext (.ref (N + 5))) Q E s := by
  have hT : s.TypeIs (.ref (N + 5)) "zip" := ⟨_, S.zz, rfl⟩
  unfold pyNext
  refine wpAny_bind (wpAny_attempt (wpAny_callSpecial?_slot (name := Str.ofString "__next__") hT F.slot_zip_next (wpAny_call_entry F.slot_zip_next hT F.entry_zip_next (zb hh hl hm ho S hend fun h' e hk he => ?_) (F.args_zip_next_1 _))))
  obtain ⟨o, ho, hc⟩ := he
  exact wpAny_bind (wpAny_isInstance (T := "StopIteration") (b := true) ⟨o, ho, hc⟩ isSubtype_stop (wpAny_pure (hQ _ hk)))
theorem xP (l m o : Addr) (xs ys zs : Array Value) : Meets (Builtin.«zip.__new__» ⟨[.type "zip", .ref l, .ref m, .ref o], []⟩) (fun _ R s => s.heap.IsTuple l xs ∧ s.heap.IsTuple m ys ∧ s.heap.IsTuple o zs ∧
    ∀ h', h'.objs.size = s.heap.objs.size + 6 → Z3 h' s.heap.objs.size l m o .none 0 xs ys zs → (∀ c o, s.heap.get? c = some o → h'.get? c = some o) →
      R (.ok (.ret (.ref (s.heap.objs.size + 5)))) { s with heap := h' }) :=
  .of_wp fun prog w A R s h => by
    obtain ⟨hp, g, d, tk, os⟩ := s; obtain ⟨h1, h2, h3, h⟩ := h
    have hsub := sub_zip
    have l1 : Heap.IsTuple (Shared.heap ⟨hp, g, d, tk, os⟩) l xs := h1
    have l2 : Heap.IsTuple (Shared.heap ⟨hp.push { cls := .type "tuple_iterator", data := .fields #[.ref l, .int 0 0] }, g, d, tk, os⟩) m ys := Heap.IsTuple.push h2 _
    have l3 : Heap.IsTuple (Shared.heap ⟨(hp.push { cls := .type "tuple_iterator", data := .fields #[.ref l, .int 0 0] }).push { cls := .type "tuple_iterator", data := .fields #[.ref m, .int 0 0] }, g, d, tk, os⟩) o zs := Heap.IsTuple.push (Heap.IsTuple.push h3 _) _
    have fin : ∀ (oi oj ok : Obj), gL (hp.push oi) hp.objs.size l 0 xs → gL ((hp.push oi).push oj) (hp.push oi).objs.size m 0 ys → gL (((hp.push oi).push oj).push ok) ((hp.push oi).push oj).objs.size o 0 zs →
        R (.ok (.ret (.ref (((((hp.push oi).push oj).push ok).push { cls := .type "tuple", data := .seq #[.ref hp.objs.size, .ref (hp.push oi).objs.size, .ref ((hp.push oi).push oj).objs.size] }).push { cls := .type "tuple", data := .seq #[.none, .none, .none] }).objs.size)))
          ⟨(((((hp.push oi).push oj).push ok).push { cls := .type "tuple", data := .seq #[.ref hp.objs.size, .ref (hp.push oi).objs.size, .ref ((hp.push oi).push oj).objs.size] }).push { cls := .type "tuple", data := .seq #[.none, .none, .none] }).push { cls := .type "zip", data := .fields #[.none, .bool false, .bool false, .ref (((hp.push oi).push oj).push ok).objs.size, .ref ((((hp.push oi).push oj).push ok).push { cls := .type "tuple", data := .seq #[.ref hp.objs.size, .ref (hp.push oi).objs.size, .ref ((hp.push oi).push oj).objs.size] }).objs.size] }, g, d, tk, os⟩ := fun oi oj ok hi hj hk => by
      have e1 : (hp.push oi).objs.size = hp.objs.size + 1 := Heap.size_push ..
      have e2 : ((hp.push oi).push oj).objs.size = hp.objs.size + 2 := by rw [Heap.size_push, e1]
      rw [e2] at hk ⊢
      rw [e1] at hj ⊢
      generalize hT : ({ cls := .type "tuple", data := .seq #[.ref hp.objs.size, .ref (hp.objs.size + 1), .ref (hp.objs.size + 2)] } : Obj) = T
      have e3 : (((hp.push oi).push oj).push ok).objs.size = hp.objs.size + 3 := by rw [Heap.size_push, e2]
      have e4 : ((((hp.push oi).push oj).push ok).push T).objs.size = hp.objs.size + 4 := by rw [Heap.size_push, e3]
      have e5 : (((((hp.push oi).push oj).push ok).push T).push { cls := .type "tuple", data := .seq #[.none, .none, .none] }).objs.size = hp.objs.size + 5 := by rw [Heap.size_push, e4]
      rw [e5, e4, e3]
      have kk : ∀ (c : Addr) (o' a b c' : Obj), (((hp.push oi).push oj).push ok).get? c = some o' → ((((((hp.push oi).push oj).push ok).push a).push b).push c').get? c = some o' := fun c o' a b c' e => Heap.get?_push_of_some _ (Heap.get?_push_of_some _ (Heap.get?_push_of_some _ e))
      refine h _ (by rw [Heap.size_push, e5]) ⟨?_, ?_, ⟨.none, .none, .none, ?_⟩, ?_, ?_, ?_⟩ fun c o' e => kk _ _ _ _ _ (Heap.get?_push_of_some _ (Heap.get?_push_of_some _ (Heap.get?_push_of_some _ e)))
      · show Heap.get? _ (hp.objs.size + 5) = _
        rw [← e5]
        exact Heap.get?_push_size _ rfl
      · refine Heap.get?_push_of_some _ (Heap.get?_push_of_some _ ?_)
        show Heap.get? _ (hp.objs.size + 3) = _
        rw [← e3, hT]
        exact Heap.get?_push_size _ (by rw [← hT]; rfl)
      · refine Heap.get?_push_of_some _ ?_
        show Heap.get? _ (hp.objs.size + 4) = _
        rw [← e4]
        exact Heap.get?_push_size _ rfl
      · exact hi.keep (fun o' e => kk _ _ _ _ _ (Heap.get?_push_of_some _ (Heap.get?_push_of_some _ e))) fun o' e => kk _ _ _ _ _ (Heap.get?_push_of_some _ (Heap.get?_push_of_some _ e))
      · exact hj.keep (fun o' e => kk _ _ _ _ _ (Heap.get?_push_of_some _ e)) fun o' e => kk _ _ _ _ _ (Heap.get?_push_of_some _ e)
      · exact hk.keep (fun o' e => kk _ _ _ _ _ e) fun o' e => kk _ _ _ _ _ e
    wp_walk using wpAny_pyIter_tuple l1, wpAny_pyIter_tuple l2, wpAny_pyIter_tuple l3
    exact ⟨_, rfl, fin _ _ _ (.inr ⟨⟨_, Heap.get?_push_size _ rfl, rfl, rfl⟩, Heap.IsTuple.push h1 _⟩) (.inr ⟨⟨_, Heap.get?_push_size _ rfl, rfl, rfl⟩, Heap.IsTuple.push l2 _⟩) (.inr ⟨⟨_, Heap.get?_push_size _ rfl, rfl, rfl⟩, Heap.IsTuple.push l3 _⟩)⟩
theorem xf {Q : Value → Shared → Prop} {l m o : Addr} (h1 : s.heap.IsTuple l xs) (h2 : s.heap.IsTuple m ys) (h3 : s.heap.IsTuple o zs)
    (h : ∀ h', h'.objs.size = s.heap.objs.size + 6 → Z3 h' s.heap.objs.size l m o .none 0 xs ys zs → (∀ c o, s.heap.get? c = some o → h'.get? c = some o) → Q (.ref (s.heap.objs.size + 5)) { s with heap := h' }) : wpAny (model prog w) A (call (.type "zip") [.ref l, .ref m, .ref o]) Q E s := by
  refine callType_new F.called_zip (by decide) (oa _ _ _) (pF _ _ _) (fun obj => kI obj _ _ _) F.entry_zip_new (xP l m o xs ys zs) ⟨h1, h2, h3, fun h' e S k => ?_⟩
  exact ⟨⟨_, S.zz, rfl⟩, h h' e S k⟩
end
section
variable {X : Cx} {pins : List (Addr × Obj)} {σ : St} {H : Hp} {s : Shared} {h' : Heap}
theorem xI {t' : Nat} {fp : List Addr} {u1 u2 u3 : Value} {v1 v2 v3 : V} (I : aM X pins σ H s) (hf : ∀ b ∈ fp, mh X pins H b) (hob : ∀ b ∈ fp, b < s.heap.objs.size) (ht : fg h' s.heap.objs.size u1 u2 u3) (k : ∀ b o, b ∉ fp → s.heap.get? b = some o → h'.get? b = some o)
    (r1 : bA v1 u1) (r2 : bA v2 u2) (r3 : bA v3 u3) : aM X pins σ (cm H s.heap.objs.size (.tup [v1, v2, v3])) { s with heap := h', toks := t' } := by
  have I1 : aM X pins σ (cm H s.heap.objs.size (.tup [v1, v2, v3])) { s with heap := s.heap.push { cls := .type "tuple", data := .seq #[u1, u2, u3] }, toks := s.toks } :=
    I.laid (fun b u e => Heap.get?_push_of_some _ e) (Nat.le_refl _) ⟨by show 3 ≤ sizeLine; decide, [u1, u2, u3], .cons r1 (.cons r2 (.cons r3 .nil)), _, Heap.get?_push_size _ rfl, rfl, _, rfl⟩
  refine fS (fp := fp) (s := { s with heap := s.heap.push { cls := .type "tuple", data := .seq #[u1, u2, u3] }, toks := s.toks }) I1 (fun b o hb e => ?_) fun b hb => ?_
  · by_cases hz : b = s.heap.objs.size
    · subst hz
      have e' : (s.heap.push { cls := .type "tuple", data := .seq #[u1, u2, u3] }).get? s.heap.objs.size = some o := e
      rw [Heap.get?_push_size _ rfl] at e'
      cases e'
      exact ht
    · exact k b o hb (sr hz e)
  · obtain ⟨f0, f1, f2, f3, f4, f5⟩ := hf b hb
    exact ⟨by rw [au (Nat.ne_of_lt (hob b hb))]; exact f0, f1, f2, f3, f4, f5⟩
end
def Cp (K : PySem.W.Frag) (l m o : Addr) : It :=
  ⟨fun i H => ∃ xs ys zs x y z, eI K H l xs ∧ eI K H m ys ∧ eI K H o zs ∧ xs[i]? = some x ∧ ys[i]? = some y ∧ zs[i]? = some z,
   fun i H v H' => ∃ a x y z, H a = none ∧ v = .ref a ∧ H' = cm H a (.tup [x, y, z]) ∧ (∀ xs, eI K H l xs → xs[i]? = some x) ∧ (∀ ys, eI K H m ys → ys[i]? = some y) ∧ ∀ zs, eI K H o zs → zs[i]? = some z,
   fun i H => ∃ xs ys zs, eI K H l xs ∧ eI K H m ys ∧ eI K H o zs ∧ (xs.length ≤ i ∨ ys.length ≤ i ∨ zs.length ≤ i)⟩
structure ED (N l m o : Nat) (k : Nat) (h : Heap) : Prop where
  zz : IsZip h (N + 5) (N + 3) (N + 4) .none
  pp : fg h (N + 3) (.ref N) (.ref (N + 1)) (.ref (N + 2))
  qq : ∃ a b c, fg h (N + 4) a b c
  ii : h.IsTupleIter N l k
  jj : h.IsTupleIter (N + 1) m k
  kk : h.IsTupleIter (N + 2) o k
theorem fy {h : Heap} {i l : Addr} {k : Nat} {xs ys : Array Value} (x : gL h i l k xs) (t : h.IsTuple l ys) : h.IsTupleIter i l k := by
  rcases x with ⟨z, w⟩ | ⟨z, w⟩
  · exact (cX w t).elim
  · exact z
theorem dS {h h' : Heap} {i l : Addr} {k : Nat} (x : h.IsTupleIter i l k) (hi : ∀ o, h.get? i = some o → h'.get? i = some o) : h'.IsTupleIter i l k := by
  obtain ⟨o, e, r⟩ := x; exact ⟨o, hi _ e, r⟩
theorem hU {h : Heap} {i l : Addr} {k : Nat} (x : h.IsTupleIter i l k) : ∃ o, h.get? i = some o ∧ ∀ v, o.data ≠ .cell v := by
  obtain ⟨o, e, c, d⟩ := x; exact ⟨o, e, fun v z => by rw [d] at z; cases z⟩
abbrev zC (N : Nat) : List Addr := [N + 5, N + 3, N + 4, N, N + 1, N + 2]
theorem wO {P : Program} {w : World} {K : PySem.W.Frag} {elts : List Expr} {x1} {pos : Pos} {N l m o : Nat} (hl : l < N) (hm : m < N) (ho : o < N) : sN P w K (.Tuple elts x1 pos) (Cp K l m o) (zC N) (N + 5) (ED N l m o) where
  mem := by simp
  obj := fun k h st a ha => by
    simp only [zC, List.mem_cons, List.not_mem_nil, or_false] at ha
    rcases ha with rfl | rfl | rfl | rfl | rfl | rfl
    · exact ⟨_, st.zz, fun v e => by cases e⟩
    · exact ⟨_, st.pp, fun v e => by cases e⟩
    · obtain ⟨_, _, _, e⟩ := st.qq; exact ⟨_, e, fun v e => by cases e⟩
    · exact hU st.ii
    · exact hU st.jj
    · exact hU st.kk
  keep := fun k h h' st kp => ⟨kp (N + 5) (by simp) _ st.zz, kp (N + 3) (by simp) _ st.pp, let ⟨a, b, c, e⟩ := st.qq; ⟨a, b, c, kp (N + 4) (by simp) _ e⟩, dS st.ii fun o e => kp N (by simp) o e, dS st.jj fun o e => kp (N + 1) (by simp) o e, dS st.kk fun o e => kp (N + 2) (by simp) o e⟩
  item := by
    intro X hP hw hK hc k pins s σ H E I hf st hg
    subst hP hw hK
    obtain ⟨xs, ys, zs, x, y, z, h1, h2, h3, hx, hy, hz⟩ := hg
    obtain ⟨its, rv, t1, _⟩ := I.tuple h1
    obtain ⟨jts, rw', t2, _⟩ := I.tuple h2
    obtain ⟨kts, rz', t3, _⟩ := I.tuple h3
    obtain ⟨u, hu, ru⟩ := rv.get hx
    obtain ⟨v, hv, ry⟩ := rw'.get hy
    obtain ⟨q, hq, rq⟩ := rz'.get hz
    have S : Z3 s.heap N l m o .none k its.toArray jts.toArray kts.toArray := ⟨st.zz, st.pp, st.qq, .inr ⟨st.ii, t1⟩, .inr ⟨st.jj, t2⟩, .inr ⟨st.kk, t3⟩⟩
    refine rG hl hm ho S (x := u) (y := v) (v := q) (by simpa using hu) (by simpa using hv) (by simpa using hq) fun h' S' hp kp => ⟨_, rfl, ?_⟩
    have zlt : N + 5 < s.heap.objs.size := Heap.lt_size st.zz
    refine wpAny_letOwnedTupleGo_zip (s := { s with heap := h' }) S'.zz fun h2' hz2 sb => ?_
    have up : ∀ (a : Nat) o, a ≠ N + 5 → h'.get? a = some o → h2'.get? a = some o := fun a o ha e => sb.extBut a o ha e
    have hob : ∀ a ∈ zC N, a < s.heap.objs.size := fun a ha => by
      have : ∃ j : Nat, a = N + j ∧ j ≤ 5 := by
        simp only [zC, List.mem_cons, List.not_mem_nil, or_false] at ha
        rcases ha with rfl | rfl | rfl | rfl | rfl | rfl
        · exact ⟨5, rfl, by omega⟩
        · exact ⟨3, rfl, by omega⟩
        · exact ⟨4, rfl, by omega⟩
        · exact ⟨0, rfl, by omega⟩
        · exact ⟨1, rfl, by omega⟩
        · exact ⟨2, rfl, by omega⟩
      obtain ⟨j, rfl, hj⟩ := this
      exact Nat.lt_of_le_of_lt (Nat.add_le_add_left hj N) zlt
    have hn : H s.heap.objs.size = none := I.hok.fresh (Nat.le_refl _)
    have kq : ∀ (a : Nat) o, a < N → s.heap.get? a = some o → h'.get? a = some o := fun a o ha e => kp a o (by omega) (by omega) (by omega) (by omega) (by omega) e
    refine ⟨.ref s.heap.objs.size, _, xI (s := s) (t' := s.toks) (fp := zC N) (h' := h2') (u1 := u) (u2 := v) (u3 := q) (v1 := x) (v2 := y) (v3 := z) I hf hob (up _ _ (Nat.ne_of_gt zlt) hp) (fun a o ha e => ?_) ru ry rq, rfl, ⟨_, x, y, z, hn, rfl, rfl, fun zs hz => by rw [I.tuple_inj hz h1]; exact hx, fun zs hz => by rw [I.tuple_inj hz h2]; exact hy, fun zs hz' => by rw [I.tuple_inj hz' h3]; exact hz⟩, ?_, fun a ha => ?_⟩
    · simp only [zC, List.mem_cons, List.not_mem_nil, or_false, not_or] at ha
      exact up a o ha.1 (kp a o ha.1 ha.2.2.1 ha.2.2.2.1 ha.2.2.2.2.1 ha.2.2.2.2.2 e)
    · have i2 : h'.IsTupleIter N l (k + 1) := fy S'.ii (ys := its.toArray) (by obtain ⟨o, e, r⟩ := t1; exact ⟨o, kq _ _ hl e, r⟩)
      have j2 : h'.IsTupleIter (N + 1) m (k + 1) := fy S'.jj (ys := jts.toArray) (by obtain ⟨o, e, r⟩ := t2; exact ⟨o, kq _ _ hm e, r⟩)
      have k2 : h'.IsTupleIter (N + 2) o (k + 1) := fy S'.kk (ys := kts.toArray) (by obtain ⟨o, e, r⟩ := t3; exact ⟨o, kq _ _ ho e, r⟩)
      exact ⟨hz2, up _ _ (by omega) S'.pp, let ⟨a, b, c, e⟩ := S'.qq; ⟨a, b, c, up _ _ (by omega) e⟩, dS i2 fun o e => up _ _ (by omega) e, dS j2 fun o e => up _ _ (by omega) e, dS k2 fun o e => up _ _ (by omega) e⟩
    · rw [au (Nat.ne_of_lt (hob a ha))]; exact (hf a ha).1
  done := by
    intro X hP hw hK hc k pins s σ H E I hf st hg
    subst hP hw hK
    obtain ⟨xs, ys, zs, h1, h2, h3, hle⟩ := hg
    obtain ⟨its, rv, t1, _⟩ := I.tuple h1
    obtain ⟨jts, rw', t2, _⟩ := I.tuple h2
    obtain ⟨kts, rz', t3, _⟩ := I.tuple h3
    have S : Z3 s.heap N l m o .none k its.toArray jts.toArray kts.toArray := ⟨st.zz, st.pp, st.qq, .inr ⟨st.ii, t1⟩, .inr ⟨st.jj, t2⟩, .inr ⟨st.kk, t3⟩⟩
    have e1 := rv.length
    have e2 := rw'.length
    have e3 := rz'.length
    refine tZ (I.ok.hd hc) hl hm ho S ?_ fun h' kp => ⟨rfl, fS (t' := s.toks) (fp := zC N) I (fun a o ha e => ?_) hf⟩
    · rcases hle with z | z | z
      · left; simp; omega
      · right; left; simp; omega
      · right; right; simp; omega
    · simp only [zC, List.mem_cons, List.not_mem_nil, or_false, not_or] at ha
      exact kp a o ha.1 ha.2.2.1 ha.2.2.2.1 ha.2.2.2.2.1 ha.2.2.2.2.2 e
  self := fun _ _ _ _ _ st h => wpAny_pyIter_zip st.zz h
def fL : List PyData → List PyData → List PyData → List PyData
  | x :: xs, y :: ys, z :: zs => .tuple [x, y, z] :: fL xs ys zs
  | _, _, _ => []
theorem qc : ∀ {xs ys zs : List PyData} {i : Nat} {d : PyData}, (fL xs ys zs)[i]? = some d → ∃ x y z, xs[i]? = some x ∧ ys[i]? = some y ∧ zs[i]? = some z ∧ d = .tuple [x, y, z]
  | x :: xs, y :: ys, z :: zs, 0, d, h => by
    simp only [fL, List.getElem?_cons_zero] at h
    cases h
    exact ⟨x, y, z, rfl, rfl, rfl, rfl⟩
  | x :: xs, y :: ys, z :: zs, i + 1, d, h => by
    simp only [fL, List.getElem?_cons_succ] at h
    obtain ⟨a, b, c, h1, h2, h3, h4⟩ := qc h
    exact ⟨a, b, c, by simpa using h1, by simpa using h2, by simpa using h3, h4⟩
  | [], _, _, i, d, h => by simp [fL] at h
  | _ :: _, [], _, i, d, h => by simp [fL] at h
  | _ :: _, _ :: _, [], i, d, h => by simp [fL] at h
theorem lY : ∀ (xs ys zs : List PyData), (fL xs ys zs).length = min xs.length (min ys.length zs.length)
  | x :: xs, y :: ys, z :: zs => by simp only [fL, List.length_cons, lY xs ys zs]; omega
  | [], _, _ => by simp [fL]
  | _ :: _, [], _ => by simp [fL]
  | _ :: _, _ :: _, [] => by simp [fL]
def ud (H : Hp) (a : Addr) (ds : List PyData) : Prop := ∃ vs, H a = some (.tup vs) ∧ bw H ds vs
theorem ud.kp {H H' : Hp} {a : Addr} {ds : List PyData} (h : ud H a ds) (k : Kp H H') : ud H' a ds := by
  obtain ⟨vs, e, r⟩ := h; exact ⟨vs, k.1 _ _ e, bw.kp k _ _ r⟩
theorem yd {K : PySem.W.Frag} {l m o : Addr} {xs ys zs : List PyData} : zu (Cp K l m o) (fun H => ud H l xs ∧ ud H m ys ∧ ud H o zs) (fL xs ys zs) where
  go := fun i H ⟨⟨vs, e1, r1⟩, ⟨us, e2, r2⟩, ⟨ws, e3, r3⟩⟩ hi => by
    rw [lY] at hi
    obtain ⟨x, hx, _⟩ := r1.get (List.getElem?_eq_getElem (show i < xs.length by omega))
    obtain ⟨y, hy, _⟩ := r2.get (List.getElem?_eq_getElem (show i < ys.length by omega))
    obtain ⟨z, hz, _⟩ := r3.get (List.getElem?_eq_getElem (show i < zs.length by omega))
    exact ⟨vs, us, ws, x, y, z, eI.of e1, eI.of e2, eI.of e3, hx, hy, hz⟩
  yld := fun i H v H' d ⟨⟨vs, e1, r1⟩, ⟨us, e2, r2⟩, ⟨ws, e3, r3⟩⟩ hd h => by
    obtain ⟨a, x, y, z, ha, rfl, rfl, k1, k2, k3⟩ := h
    obtain ⟨dx, dy, dz, g1, g2, g3, rfl⟩ := qc hd
    obtain ⟨x', hx, px⟩ := r1.get g1
    obtain ⟨y', hy, py⟩ := r2.get g2
    obtain ⟨z', hz, pz⟩ := r3.get g3
    have q1 := k1 vs (eI.of e1)
    have q2 := k2 us (eI.of e2)
    have q3 := k3 ws (eI.of e3)
    rw [hx] at q1; rw [hy] at q2; rw [hz] at q3
    cases q1; cases q2; cases q3
    exact ⟨ce ha _, df ha (bw.cons px (bw.cons py (bw.cons pz bw.nil)))⟩
  stop := fun i H ⟨⟨vs, e1, r1⟩, ⟨us, e2, r2⟩, ⟨ws, e3, r3⟩⟩ hi => by
    rw [lY] at hi
    have l1 := r1.length
    have l2 := r2.length
    have l3 := r3.length
    exact ⟨vs, us, ws, eI.of e1, eI.of e2, eI.of e3, by omega⟩
theorem CF {a b c : V} {us : List Value} (r : bt [a, b, c] us) : ∃ u v w, us = [u, v, w] ∧ bA a u ∧ bA b v ∧ bA c w := by
  cases r with
  | cons r1 r =>
    cases r with
    | cons r2 r =>
      cases r with
      | cons r3 r =>
        cases r
        exact ⟨_, _, _, rfl, r1, r2, r3⟩
section
variable {X : Cx} {elts : List Expr} {x1 : Nat} {tp : Pos} {a b c : Expr} {fa fb fc : Fe} {pos p : Pos} {nl : Nat} {G : List Str} {fs : aN → R (List PyData)}
def ER (K : PySem.W.Frag) (ta : TA) : TI := fun σ H R => ta σ H fun vs H1 => ∃ l m o xs ys zs, vs = [.ref l, .ref m, .ref o] ∧ eI K H1 l xs ∧ eI K H1 m ys ∧ eI K H1 o zs ∧ R (Cp K l m o) H1
theorem zF {ta : TA} (hg : Gl X "zip") (hm : X.mg "zip" = none) (ha : PA X [a, b, c] ta) (hs : starEach [a, b, c] X.env = (false, eval a X.env) :: starEach [b, c] X.env) (hs2 : (backTo pos (starEach [b, c] X.env)).any (·.1) = false) :
    PI X (.Tuple elts x1 tp) (.Call (.Name "zip" p) [a, b, c] [] pos) (ER X.K ta) := by
  intro pins s σ H R I h
  refine Call_ (iT I hg hm boot_zip (PyProof.Rows.callWith_type1 (cQ (ha pos pins s σ H _ I h) fun us s1 ⟨vs, H1, I1, r1, q1⟩ => ?_) hs hs2))
  obtain ⟨l, m, o, xs, ys, zs, e, h1, h2, h3, q⟩ := q1
  subst e
  obtain ⟨u, v, w, rfl, ru, rv, rw'⟩ := CF r1
  cases ru
  cases rv
  cases rw'
  obtain ⟨its, w1, p1, g1⟩ := I1.tuple h1
  obtain ⟨jts, w2, p2, g2⟩ := I1.tuple h2
  obtain ⟨kts, w3, p3, g3⟩ := I1.tuple h3
  have ll : l < s1.heap.objs.size := by obtain ⟨o, e, _⟩ := p1; exact Heap.lt_size e
  have lm : m < s1.heap.objs.size := by obtain ⟨o, e, _⟩ := p2; exact Heap.lt_size e
  have lo : o < s1.heap.objs.size := by obtain ⟨o, e, _⟩ := p3; exact Heap.lt_size e
  refine xf p1 p2 p3 fun h' hz S kp => wpAny_pyIter_zip S.zz ?_
  have I2 : aM X pins σ H1 { s1 with heap := h' } := I1.kept (t' := s1.toks) kp
  have kt : ∀ {l : Addr} {xs : Array Value}, s1.heap.IsTuple l xs → h'.IsTuple l xs := fun ⟨o, e, r⟩ => ⟨o, kp _ _ e, r⟩
  refine ⟨_, zC s1.heap.objs.size, _, _, H1, rfl, I2, wO ll lm lo, ⟨S.zz, S.pp, S.qq, fy S.ii (kt p1), fy S.jj (kt p2), fy S.kk (kt p3)⟩, fun a ha => ?_, q⟩
  have hle : s1.heap.objs.size ≤ a := by
    simp only [zC, List.mem_cons, List.not_mem_nil, or_false] at ha
    rcases ha with rfl | rfl | rfl | rfl | rfl | rfl
    · exact Nat.le_add_right _ 5
    · exact Nat.le_add_right _ 3
    · exact Nat.le_add_right _ 4
    · exact Nat.le_refl _
    · exact Nat.le_add_right _ 1
    · exact Nat.le_add_right _ 2
  exact I1.fpOk hle (I1.hok.fresh hle)
def mY : PyData → R (List PyData)
  | .tuple ds => .ok ds
  | _ => .no
def pW (fa fb fc : Fe) : aN → R (List PyData) := fun ρ => fa ρ >>= fun x => fb ρ >>= fun y => fc ρ >>= fun z => mY x >>= fun xs => mY y >>= fun ys => mY z >>= fun zs => .ok (fL xs ys zs)
theorem qG {H : Hp} {d : PyData} {v : V} {ds : List PyData} (h : Rp H d v) (e : mY d = .ok ds) : ∃ a, v = .ref a ∧ ud H a ds := by
  cases d with
  | tuple xs =>
    cases e
    simp only [Rp] at h
    obtain ⟨a, vs, rfl, h, r⟩ := h
    exact ⟨a, rfl, vs, h, r⟩
  | _ => cases e
theorem qC {d : PyData} {c : Str} (e : mY d = .ex c) : False := by cases d <;> cases e
theorem qH (T : Tb X nl G) (j : Nat) (hG : G[j]? = some ("zip" : Str)) (hm : X.mg "zip" = none) (ha : ai X a fa) (hb : ai X b fb) (hc : ai X c fc) (h1 : aw a = true := by rfl) (h2 : aw b = true := by rfl) (h3 : aw c = true := by rfl) :
    pc X (.Tuple elts x1 tp) (.Call (.Name "zip" p) [a, b, c] [] pos) (pW fa fb fc) := by
  have g := T.gl _ (List.mem_of_getElem? hG)
  refine PI.imp (zF g.1 hm (ag ha (ag hb (ag hc ay h3) h2) h1) (bg h1) (by rw [bg h2, bg h3]; rfl)) fun σ H Rk h => ?_
  obtain ⟨ρ, sl, q⟩ := h
  unfold pW at q
  refine ⟨ρ, sl, ?_⟩
  unfold af aH
  cases e1 : fa ρ with
  | ex c => rw [e1] at q; exact q
  | no => rw [e1] at q; exact q
  | ok x =>
    rw [e1] at q
    simp only [R.ok_bind] at q ⊢
    cases e2 : fb ρ with
    | ex c => rw [e2] at q; exact q
    | no => rw [e2] at q; exact q
    | ok y =>
      rw [e2] at q
      simp only [R.ok_bind] at q ⊢
      cases e3 : fc ρ with
      | ex c => rw [e3] at q; exact q
      | no => rw [e3] at q; exact q
      | ok z =>
        rw [e3] at q
        simp only [R.ok_bind] at q ⊢
        cases g1 : mY x with
        | ex c => exact (qC g1).elim
        | no => rw [g1] at q; exact q.elim
        | ok xs =>
          rw [g1] at q
          simp only [R.ok_bind] at q
          cases g2 : mY y with
          | ex c => exact (qC g2).elim
          | no => rw [g2] at q; exact q.elim
          | ok ys =>
            rw [g2] at q
            simp only [R.ok_bind] at q
            cases g3 : mY z with
            | ex c => exact (qC g3).elim
            | no => rw [g3] at q; exact q.elim
            | ok zs =>
              rw [g3] at q
              simp only [R.ok_bind] at q
              intro vs H1 s1 ra
              simp only [RA] at ra
              obtain ⟨v, r', rfl, p1, v', r'', rfl, p2, v'', r3, rfl, p3, rfl⟩ := ra
              obtain ⟨l, rfl, d1⟩ := qG p1 g1
              obtain ⟨m, rfl, d2⟩ := qG p2 g2
              obtain ⟨o, rfl, d3⟩ := qG p3 g3
              obtain ⟨us, u1, _⟩ := id d1
              obtain ⟨ws, u2, _⟩ := id d2
              obtain ⟨ts, u3, _⟩ := id d3
              exact ⟨l, m, o, us, ws, ts, rfl, eI.of u1, eI.of u2, eI.of u3, q _ H1 s1 ⟨_, yd, fun H2 k _ => ⟨d1.kp k, d2.kp k, d3.kp k⟩⟩⟩
theorem Z.qH (T : Tb X nl G) (j : Nat) (hG : G[j]? = some ("zip" : Str)) (hm : X.mg "zip" = none) (ha : Z.ai X a fa) (hb : Z.ai X b fb) (hc : Z.ai X c fc) (h1 : aw a = true := by rfl) (h2 : aw b = true := by rfl) (h3 : aw c = true := by rfl) : Z.pc X (.Tuple elts x1 tp) (.Call (.Name "zip" p) [a, b, c] [] pos) (pW fa fb fc) :=
  ⟨D2.qH T j hG hm ha.un hb.un hc.un h1 h2 h3⟩
end
def si (i j k : Nat) : PyData → aN → Option aN
  | .tuple [x, y, z], ρ => some (((ρ.set i (.val x)).set j (.val y)).set k (.val z))
  | _, _ => none
section
variable {X : Cx} {nl : Nat} {G : List Str} {x y z : Str} {kx : Nat} {p1 p2 p3 pos : Pos}
theorem tO (T : Tb X nl G) (i j k : Nat) (hi : (X.N.take nl)[i]? = some x) (hj : (X.N.take nl)[j]? = some y) (hk : (X.N.take nl)[k]? = some z) : pB X (.Tuple [.Name x p1, .Name y p2, .Name z p3] kx pos) (si i j k) := by
  obtain ⟨i1, i2, i3⟩ := T.nm hi
  obtain ⟨j1, j2, j3⟩ := T.nm hj
  obtain ⟨k1, k2, k3⟩ := T.nm hk
  refine PG.imp (yt T.calm (ji (jM T.nd i1 i2 i3) (ji (jM T.nd j1 j2 j3) (ji (jM T.nd k1 k2 k3) vQ)))) fun v σ H Q ⟨ρ, d, sl, p, q⟩ => ?_
  unfold si at q
  split at q
  · rename_i e
    split at e
    · rename_i ρ0 dx dy dz
      cases e
      simp only [Rp] at p
      obtain ⟨a, vs, rfl, ha, r⟩ := p
      obtain ⟨u, r1, rfl, pu, r⟩ := r.cons_inv
      obtain ⟨w, r2, rfl, pw, r⟩ := r.cons_inv
      obtain ⟨t, r3, rfl, pt, r⟩ := r.cons_inv
      rw [r.nil_inv] at ha
      refine ⟨a, [u, w, t], rfl, eI.of ha, rfl, u, [w, t], rfl, w, [t], rfl, t, [], rfl, rfl, ?_⟩
      refine q _ (Sl.set (c := .val dz) (o := some t) (Sl.set (c := .val dy) (o := some w) (Sl.set (c := .val dx) (o := some u) sl i ⟨u, rfl, pu⟩) j ⟨w, rfl, pw⟩) k ⟨t, rfl, pt⟩) fun n e h => ?_
      obtain ⟨n1, h⟩ := bV (fun e z => by cases z) h
      obtain ⟨n2, h⟩ := bV (fun e z => by cases z) h
      obtain ⟨n3, h⟩ := bV (fun e z => by cases z) h
      exact ⟨h, by rw [List.getElem?_set, if_neg n1, List.getElem?_set, if_neg n2, List.getElem?_set, if_neg n3]⟩
    · cases e
  · exact q.elim
theorem Z.tO (T : Tb X nl G) (i j k : Nat) (hi : (X.N.take nl)[i]? = some x) (hj : (X.N.take nl)[j]? = some y) (hk : (X.N.take nl)[k]? = some z) : Z.pB X (.Tuple [.Name x p1, .Name y p2, .Name z p3] kx pos) (si i j k) :=
  ⟨D2.tO T i j k hi hj hk⟩
end
section
variable {X : Cx} {nl : Nat} {G : List Str} {x : Str} {e : Expr} {f : Fe} {q1 q2 q3 q4 : Pos}
theorem eQ (T : Tb X nl G) (n : Nat) (hN : X.N[n]? = some x) (he : ai X e f) (hst : aw e = true := by rfl) (hline : (q2.endLine == q3.line) = true := by rfl)
    (hs : swapsWith (.Call (.Attribute (.Name x q1) "append" q2) [e] [] q3) none q4.line X.env = pure false := by rfl)
    (hbase : attributeBase (.Name x q1) "append" X.env (eval (.Name x q1) X.env) = eval (.Name x q1) X.env := by rfl) : fw X (.Expr (.Call (.Attribute (.Name x q1) "append" q2) [e] [] q3) q4) (cr n f) := fun Fm => by
  have hm := T.vis x (List.mem_of_getElem? hN)
  have sc : starEach [e] X.env = (false, eval e X.env) :: starEach [] X.env := bg hst
  refine PS.imp (AE (Bb PySem.F.plainAttrs_list PySem.F.slot_list_append PySem.F.type_list_append pU (mw hN hm.1 hm.2.1 hm.2.2) (ag he ay hst) hbase (by rw [sc]; rfl) hline sc rfl) hs) fun D σ H h => ?_
  obtain ⟨ρ, sl, q⟩ := h
  unfold cr at q
  cases ef : f ρ with
  | ex c => rw [ef] at q; exact q.elim
  | no => rw [ef] at q; exact q.elim
  | ok d =>
    rw [ef] at q
    simp only [mH, R.ok_bind] at q
    cases er : ρ[n]? with
    | none => rw [er] at q; exact q.elim
    | some c =>
      rw [er] at q
      cases c with
      | non => exact q.elim
      | exc p => exact q.elim
      | val d' => exact q.elim
      | own d' =>
        cases d' with
        | list ds =>
          dsimp only at q
          by_cases hz : ds.length < sizeLine
          · rw [if_pos hz] at q
            obtain ⟨o, h2, w', rfl, p2⟩ := sl.sl.at er
            simp only [ja] at p2
            obtain ⟨a', vs, rfl, ha, r⟩ := p2
            refine ⟨.ref a', h2, .inl ⟨rfl, _, mX.of ha⟩, ρ, sl.sl, ?_⟩
            unfold af aH
            rw [ef]
            intro us H1 s1 ra
            simp only [RA] at ra
            obtain ⟨v, r', rfl, p1, rfl⟩ := ra
            have ha1 := s1 _ _ ha
            refine ⟨a', vs, v, rfl, rfl, ha1, by rw [r.length]; exact hz, q _ _ ((sl.mono s1).change er h2 ha1 (.inl ⟨_, rfl⟩) ?_)⟩
            simp only [ja]
            exact ⟨a', _, rfl, bd, bw.kp (gz ha1 (.inl ⟨_, rfl⟩)) _ _ (bw.append (r.mono s1) (bw.cons p1 bw.nil))⟩
          · rw [if_neg hz] at q; exact q.elim
        | _ => exact q.elim
theorem Z.eQ (T : Tb X nl G) (n : Nat) (hN : X.N[n]? = some x) (he : Z.ai X e f) (hst : aw e = true := by rfl) (hline : (q2.endLine == q3.line) = true := by rfl) (hs : swapsWith (.Call (.Attribute (.Name x q1) "append" q2) [e] [] q3) none q4.line X.env = pure false := by rfl) (hbase : attributeBase (.Name x q1) "append" X.env (eval (.Name x q1) X.env) = eval (.Name x q1) X.env := by rfl) : Z.fw X (.Expr (.Call (.Attribute (.Name x q1) "append" q2) [e] [] q3) q4) (cr n f) :=
  ⟨D2.eQ T n hN he.un hst hline hs hbase⟩
end
def ia (g : Fs) : Fs := fun ρ => mH (g ρ)
theorem Tb.nox {X : Cx} {nl : Nat} {G : List Str} (T : Tb X nl G) : Tb X.nox nl G := ⟨T.hu, T.calm, T.nd, T.vis, T.loc, T.gl⟩
section
variable {X : Cx} {nl : Nat} {G : List Str} {st : Stmt} {g : Fs} {pos : Pos}
theorem da (h : fw X.nox st g) : fw X st (ia g) := fun Fm => by
  intro pins s σ H D I ⟨ρ, sl, q⟩
  refine wpAny_mono (h Fm pins s σ H D (I.wish _) ⟨ρ, sl, ?_⟩) (fun _ _ q => q.unwish) fun _ _ z => False.elim z
  unfold ia at q
  cases e : g ρ with
  | ok o =>
    rw [e] at q
    cases o <;> exact q
  | ex c => rw [e] at q; exact q.elim
  | no => rw [e] at q; exact q.elim
theorem Z.da (h : Z.fw X.nox st g) : Z.fw X st (ia g) :=
  ⟨D2.da h.un⟩
def cO (t : aN → R Bool) (g : Fs) : Nat → Fs
  | 0, _ => .no
  | n + 1, ρ => t ρ >>= fun b => if b = true then g ρ >>= fun o => (match o with
      | .nx ρ2 => cO t g n ρ2
      | .ct ρ2 => cO t g n ρ2
      | .bk ρ2 => .ok (.nx ρ2)
      | .rt r => .ok (.rt r)) else .ok (.nx ρ)
def oG (n : Nat) (t : aN → R Bool) (g : Fs) : Fs := cO t g n
theorem jl {c : Expr} {body : List Stmt} {t : aN → R Bool} (n : Nat) (hp : PassesOwn (model X.prog X.w) X.A X.env X.xe) (ht : hZ X c t) (hb : ib X body g) : fw X (.While c body [] pos) (oG n t g) := fun Fm => by
  refine PS.imp (ym hp ht (hb Fm)) fun D σ H ⟨ρ, sl, q⟩ => ⟨fun m σ' H' => ∃ ρ', iI Fm H' σ' ρ' ∧ Aj X Fm (cO t g m ρ') D, ⟨n, ρ, sl, q⟩, fun m σ1 H1 ⟨ρ1, sl1, q1⟩ => ?_⟩
  cases m with
  | zero => exact q1.elim
  | succ k =>
    have q2 : Bo X Fm (fun ρ => t ρ >>= fun b => if b = true then g ρ >>= fun o => (match o with
      | .nx ρ2 => cO t g k ρ2
      | .ct ρ2 => cO t g k ρ2
      | .bk ρ2 => .ok (.nx ρ2)
      | .rt r => .ok (.rt r)) else .ok (.nx ρ)) D σ1 H1 := ⟨ρ1, sl1, q1⟩
    refine (u7 (f := t) (k := fun ρ b => if b = true then g ρ >>= fun o => (match o with
      | .nx ρ2 => cO t g k ρ2
      | .ct ρ2 => cO t g k ρ2
      | .bk ρ2 => .ok (.nx ρ2)
      | .rt r => .ok (.rt r)) else .ok (.nx ρ)) q2).post fun b H2 ⟨ρ2, sl2, _, q3⟩ => ?_
    cases b with
    | false => exact q3 σ1 H2 sl2
    | true =>
      have q4 : Aj X Fm (g ρ2 >>= fun o => (match o with
      | .nx ρ2 => cO t g k ρ2
      | .ct ρ2 => cO t g k ρ2
      | .bk ρ2 => .ok (.nx ρ2)
      | .rt r => .ok (.rt r))) D := q3
      show if true = true then _ else _
      rw [if_pos rfl]
      refine ⟨fun σ' H' => ∃ ρ', iI Fm H' σ' ρ' ∧ Aj X Fm (cO t g k ρ') D, fun σ' H' z => ⟨k, Nat.lt_succ_self k, z⟩, ρ2, sl2, ?_⟩
      cases eg : g ρ2 with
      | ex c => rw [eg] at q4; exact q4
      | no => rw [eg] at q4; exact q4
      | ok o =>
        rw [eg] at q4
        cases o with
        | nx ρ4 => exact fun σ' H' s' => ⟨ρ4, s', q4⟩
        | ct ρ4 => exact fun σ' H' s' => ⟨ρ4, s', q4⟩
        | bk ρ4 => exact q4
        | rt r => exact q4
theorem Z.jl {c : Expr} {body : List Stmt} {t : aN → R Bool} (n : Nat) (hp : PassesOwn (model X.prog X.w) X.A X.env X.xe) (ht : Z.hZ X c t) (hb : Z.ib X body g) : Z.fw X (.While c body [] pos) (oG n t g) :=
  ⟨D2.jl n hp ht.un hb.un⟩
end
abbrev zZ : List Value := [.type "ValueError", .type "Exception", .type "BaseException", .type "object"]
abbrev zy : String := "ValueError.__new__"
section
variable {K : PySem.W.Frag} {h : Heap} {C : Addr}
def DY (h : Heap) (C : Addr) (bm : List Value) : Prop := ∃ N nm q bs hdct sn sub ab col dd k0 k1 k2 k3 k5 mN, h.get? C = some (excClassObj nm q C N bs bm hdct sn sub ab col dd k0 k1 k2 k3 k5 zy) ∧ h.Ns N mN ∧ mN "__init__" = none ∧ OwnTail h zZ bm
def tY (K : PySem.W.Frag) (C : Addr) : List Value := match K.lookup C with
  | some ⟨_, _, .cls cd, _⟩ => cd.mro.drop 1
  | _ => []
theorem xF (X : K.In h) (q : PySem.W.excIn K C zZ zy = true) : DY h C (tY K C) := by
  unfold PySem.W.excIn at q
  unfold tY
  cases hk : K.lookup C with
  | none => rw [hk] at q; cases q
  | some ob =>
    rw [hk] at q
    split at q
    · rename_i dd cd sl ho
      cases ho
      split at q
      · rename_i C' bm k0 k1 k2 k3 n k5 hm hs
        simp only [Bool.not_eq_true', beq_iff_eq, Bool.and_eq_true] at q
        obtain ⟨⟨⟨⟨⟨e1, e2⟩, hdel⟩, ht⟩, hok⟩, hni⟩ := q
        subst e1; subst e2
        obtain ⟨nm, bs, mro, ns, qn, hd, sn, sub, ab, col, del⟩ := cd
        dsimp only at hm hdel hok hni ⊢
        subst hm; subst hdel
        have hsl : sl = #[k0, k1, k2, k3, some (.builtin zy), k5] := by
          obtain ⟨l⟩ := sl
          simp only at hs
          rw [hs]
        subst hsl
        exact ⟨ns, nm, qn, bs, hd, sn, sub, ab, col, dd, k0, k1, k2, k3, k5, _, X _ _ hk, .of_isNs (PySem.W.isNs_of_in X hok), PySem.W.nsMap_none_of_in X hok hni, PySem.W.tail_of_in X ht⟩
      · cases q
    · cases q
end
def kN (x : Str) (f : Fe) : Fs := fun ρ => mH (f ρ) >>= fun _ => .ex x
section
variable {X : Cx} {nl : Nat} {G : List Str} {x : Str} {e : Expr} {f : Fe} {np cp pos : Pos} {C : Addr}
theorem iq (T : Tb X nl G) (j : Nat) (hG : G[j]? = some x) (hm : X.mg x = some (.ref C)) (hq : PySem.W.excIn X.K C zZ zy = true) (he : ai X.nox e f) (hst : aw e = true := by rfl) : fw X (.Raise (some (.Call (.Name x np) [e] [] cp)) none pos) (kN x f) := fun Fm => by
  intro pins s σ H D I ⟨ρ, sl, q⟩
  have hg := T.gl x (List.mem_of_getElem? hG)
  have sc : starEach [e] X.env = (false, eval e X.env) :: starEach [] X.env := bg hst
  obtain ⟨N, nm, qn, bs, hdct, sn, sub, ab, col, dd, k0, k1, k2, k3, k5, mN, hC, hN, hni, TL⟩ := xF (I.ok.mod.kin) hq
  unfold kN at q
  cases ef : f ρ with
  | ex c => rw [ef] at q; exact q.elim
  | no => rw [ef] at q; exact q.elim
  | ok d =>
    rw [ef] at q
    simp only [mH, R.ok_bind] at q
    refine wpAny_Raise_call_subT (C := C) (nm := nm) (q := qn) (N := N) (bs := bs) (bm := tY X.K C) (hdct := hdct) (sn := sn) (sub := sub) (ab := ab) (col := col) (dd := dd) (k0 := k0) (k1 := k1) (k2 := k2) (k3 := k3) (k5 := k5) PySem.F.excBase_ValueError (mN := mN) (TL.hasType rfl) (I.ok.hd T.calm) (by rw [sc]; rfl) hni (nI I hg.1 hm ⟨rfl, ?_⟩ hg.2.1)
    rw [sc]
    refine Calls.evalArgs_plain (wpAny_mono ?_ (fun vs s2 z => ⟨rfl, z⟩) fun _ _ y => y)
    have ha : PA X.nox [e] (xC X.nox Rp (af f aH)) := ag he ay hst
    have hw := ha cp pins s σ H (fun vs H' => vs.length = 1 ∧ aE H H') (I.wish _) ⟨ρ, sl.sl, by
      unfold af aH
      rw [ef]
      intro vs H' s' ra
      simp only [RA] at ra
      obtain ⟨v, r, rfl, _, rfl⟩ := ra
      exact ⟨rfl, s'⟩⟩
    rw [show (X.nox.env) = X.env from rfl, sc] at hw
    refine wpAny_mono hw (fun us s2 ⟨vs, H2, I2, r2, hl, s12⟩ => ?_) fun _ _ z => False.elim z
    have I2 := I2.unwish
    have hlen : us.length = 1 := by rw [← r2.length]; exact hl
    exact ⟨by rw [hlen]; decide, I2.bk _ _ hC, hN.keeps I2.bk, TL.keeps I2.bk, fun h' p mk => q.2 C hm pins σ H2 s2 (sl.fm.trans s12) I2 h' p us mk⟩
theorem Z.iq (T : Tb X nl G) (j : Nat) (hG : G[j]? = some x) (hm : X.mg x = some (.ref C)) (hq : PySem.W.excIn X.K C zZ zy = true) (he : Z.ai X.nox e f) (hst : aw e = true := by rfl) : Z.fw X (.Raise (some (.Call (.Name x np) [e] [] cp)) none pos) (kN x f) :=
  ⟨D2.iq T j hG hm hq he.un hst⟩
end
def Xh (X : Cx) (p : Addr) (ob : Obj) : Cx := { X with A := X.A.mark (some (.ref p)), calm := false, xe := fun _ _ => False, pn := (p, ob) :: X.pn }
structure FF (X : Cx) (nl : Nat) (G : List Str) : Prop where
  hu : X.A.units + 64 < cLine
  nd : X.N.Nodup
  vis : ∀ x ∈ X.N, CH X.env.scope x ∧ (x == ("__debug__" : Str)) = false ∧ (x == ("__classdict__" : Str)) = false
  loc : ∀ x ∈ X.N.take nl, Ba X.env.scope x ∧ (X.fn x = true ∨ X.env.scope.names.lookup x = some .local)
  gl : ∀ x ∈ G, Gl X x ∧ (x == ("__debug__" : Str)) = false ∧ x ≠ ("__name__" : Str)
theorem Tb.h {X : Cx} {nl : Nat} {G : List Str} (T : Tb X nl G) (p : Addr) (ob : Obj) : FF (Xh X p ob) nl G := ⟨T.hu, T.nd, T.vis, T.loc, T.gl⟩
def Fj (X : Cx) (C : Addr) (hs : List ExceptHandler) (F : Addr → aN → R PyData) : Prop :=
  ∀ (pins : List (Addr × Obj)) (σ : St) (Hc H : Hp) (sc s : Shared) (p : Addr) (Fm : Hp) (ρ : aN) (D : su), aM X pins σ Hc sc → Cz X.prog X.w X.stack Hc sc C H (.ref p) s → iI Fm H σ ρ →
    (match F p ρ with
      | .ok d => ∀ v H', aE Fm H' → Rp H' d v → D.rt v H'
      | _ => False) → wpAny (model X.prog X.w) X.A (handleBy (.ref p) X.env hs) (SP X pins D) X.xe s
abbrev Hs := List (Str × (Addr → aN → R PyData))
inductive wn (X : Cx) (src : List ExceptHandler) : Hs → Prop
  | nil : wn X src []
  | cons {c : Str} {C : Addr} {h : Addr → aN → R PyData} {hs : Hs} (hm : X.mg c = some (.ref C)) (he : Fj X C src h) (r : wn X src hs) : wn X src ((c, h) :: hs)
theorem wn.at {X : Cx} {src : List ExceptHandler} {c : Str} {h : Addr → aN → R PyData} : ∀ {hs : Hs}, wn X src hs → hs.lookup c = some h → ∃ C, X.mg c = some (.ref C) ∧ Fj X C src h
  | _, .nil, e => by cases e
  | _, .cons (c := c') hm he r, e => by
    rw [List.lookup_cons] at e
    split at e
    · rename_i q
      have : c = c' := by simpa using q
      subst this
      cases e
      exact ⟨_, hm, he⟩
    · exact wn.at r e
section
variable {X : Cx} {a b c : Expr} {fa fb fc : Fe} {pos p2 : Pos} {nl : Nat} {G : List Str} {x : Str} {p : Pos}
theorem vp : ∀ {xs : List V} {vs : List Value}, vs.length = xs.length → (∀ (j : Nat) (v : Value), vs[j]? = some v → ∃ x, xs[j]? = some x ∧ bA x v) → bt xs vs
  | [], [], _, _ => .nil
  | [], _ :: _, e, _ => by cases e
  | _ :: _, [], e, _ => by cases e
  | x :: xs, v :: vs, e, h => by
    obtain ⟨y, e1, r⟩ := h 0 v rfl
    cases e1
    exact .cons r (vp (by simpa using e) fun j u hu => by
      obtain ⟨z, e2, r2⟩ := h (j + 1) u (by simpa using hu)
      exact ⟨z, by simpa using e2, r2⟩)
end
def oA (p : Int → Int → Bool) (n : Int) (ns : List Int) : Int := ns.foldl (fun a b => if p b a = true then b else a) n
theorem kE {p : Int → Int → Bool} {le : Int → Int → Prop} (h1 : ∀ a b, p b a = true → le b a) (h2 : ∀ a b, ¬ p b a = true → le a b) (tr : ∀ a b c, le a b → le b c → le a c) (rf : ∀ a, le a a) : ∀ (ns : List Int) (n : Int), oA p n ns ∈ n :: ns ∧ ∀ a ∈ n :: ns, le (oA p n ns) a
  | [], n => ⟨by simp [oA], fun a ha => by simp at ha; subst ha; exact rf _⟩
  | m :: ns, n => by
    obtain ⟨g1, g2⟩ := kE h1 h2 tr rf ns (if p m n = true then m else n)
    have e : oA p n (m :: ns) = oA p (if p m n = true then m else n) ns := rfl
    rw [e]
    refine ⟨?_, fun a ha => ?_⟩
    · rcases List.mem_cons.mp g1 with z | z
      · rw [z]; split <;> simp
      · exact List.mem_cons_of_mem _ (List.mem_cons_of_mem _ z)
    · have k := g2 _ List.mem_cons_self
      rcases List.mem_cons.mp ha with rfl | ha
      · refine tr _ _ _ k ?_
        split
        · rename_i z; exact h1 _ _ z
        · exact rf _
      · rcases List.mem_cons.mp ha with rfl | ha
        · refine tr _ _ _ k ?_
          split
          · exact rf _
          · rename_i z; exact h2 _ _ z
        · exact g2 a (List.mem_cons_of_mem _ ha)
def xH (n : Int) (ns : List Int) : Int := oA (fun b a => decide (b < a)) n ns
def t5 (n : Int) (ns : List Int) : Int := oA (fun b a => decide (a < b)) n ns
theorem xg (n : Int) (ns : List Int) : xH n ns ∈ n :: ns ∧ ∀ a ∈ n :: ns, xH n ns ≤ a :=
  kE (le := (· ≤ ·)) (fun a b h => by simp at h; omega) (fun a b h => by simp at h; omega) (fun a b c => Int.le_trans) Int.le_refl ns n
theorem pN (n : Int) (ns : List Int) : t5 n ns ∈ n :: ns ∧ ∀ a ∈ n :: ns, a ≤ t5 n ns :=
  kE (le := fun a b => b ≤ a) (fun a b h => by simp at h; omega) (fun a b h => by simp at h; omega) (fun a b c h1 h2 => Int.le_trans h2 h1) Int.le_refl ns n
section
variable {X : Cx} {a b c : Expr} {fa fb fc : Fe} {pos p2 : Pos} {nl : Nat} {G : List Str} {x : Str} {p : Pos}
theorem kB : ∀ {its : List Value} {ns : List Int}, IntsAre its ns → ∃ ys : List (Int × Tok), its = ys.map (fun p => Value.int p.1 p.2) ∧ ys.map (·.1) = ns
  | _, _, .nil => ⟨[], rfl, rfl⟩
  | _, _, .cons n t h => by
    obtain ⟨ys, e1, e2⟩ := kB h
    exact ⟨(n, t) :: ys, by rw [List.map_cons, e1], by rw [List.map_cons, e2]⟩
theorem CP (hc : X.calm = true) : dP X (.builtin "min") (fun xs H Q => ∃ p n ns, xs = [.ref p] ∧ mX X.K H p ((n :: ns).map V.int) ∧ Q (.int (xH n ns)) H) := by
  intro pins s σ H xs us Q I r h
  obtain ⟨p, n, ns, rfl, hq, q⟩ := h
  obtain ⟨u, rfl, rx⟩ := gy r
  cases rx
  obtain ⟨its, rv, pl, hz⟩ := I.list hq
  obtain ⟨ys, e1, e2⟩ := kB (iS rv)
  have hl : s.heap.IsList p (intItems ys.toArray) := by
    have : intItems ys.toArray = its.toArray := by rw [e1]; simp [intItems]
    rw [this]; exact pl.isList
  have hlen : ys.length = ns.length + 1 := by have := congrArg List.length e2; simpa using this
  refine min_intList (I.ok.hd hc) hl (by simp; omega) fun v h' tk hv hk => ?_
  obtain ⟨t, rfl⟩ := intItems_at hv
  obtain ⟨g1, g2⟩ := argBest_lt (numAt ys.toArray) (ys.toArray.size - 1)
  generalize argBest (fun i j => decide (numAt ys.toArray i < numAt ys.toArray j)) (ys.toArray.size - 1) = w at g1 g2 hv ⊢
  have el : ys.toArray.toList.map (·.1) = n :: ns := e2
  have m1 : numAt ys.toArray w ∈ n :: ns := by
    rw [numAt_eq, el]
    refine getD_mem ?_
    simp at g1 ⊢
    omega
  obtain ⟨k1, k2⟩ := xg n ns
  have e3 : numAt ys.toArray w = xH n ns := by
    refine Int.le_antisymm ?_ (k2 _ m1)
    obtain ⟨j, hj, e⟩ := mem_getD k1
    have := g2 j (by simp at hj ⊢; omega)
    rw [numAt_eq ys.toArray j, el, e] at this
    exact this
  rw [e3]
  exact ⟨.int _, H, I.kept hk, ⟨_, rfl⟩, q⟩
theorem wC (hc : X.calm = true) : dP X (.builtin "max") (fun xs H Q => ∃ p n ns, xs = [.ref p] ∧ mX X.K H p ((n :: ns).map V.int) ∧ Q (.int (t5 n ns)) H) := by
  intro pins s σ H xs us Q I r h
  obtain ⟨p, n, ns, rfl, hq, q⟩ := h
  obtain ⟨u, rfl, rx⟩ := gy r
  cases rx
  obtain ⟨its, rv, pl, hz⟩ := I.list hq
  obtain ⟨ys, e1, e2⟩ := kB (iS rv)
  have hl : s.heap.IsList p (intItems ys.toArray) := by
    have : intItems ys.toArray = its.toArray := by rw [e1]; simp [intItems]
    rw [this]; exact pl.isList
  have hlen : ys.length = ns.length + 1 := by have := congrArg List.length e2; simpa using this
  refine max_intList (I.ok.hd hc) hl (by simp; omega) fun v h' tk hv hk => ?_
  obtain ⟨t, rfl⟩ := intItems_at hv
  obtain ⟨g1, g2⟩ := argBest_gt (numAt ys.toArray) (ys.toArray.size - 1)
  generalize argBest (fun i j => decide (numAt ys.toArray i > numAt ys.toArray j)) (ys.toArray.size - 1) = w at g1 g2 hv ⊢
  have el : ys.toArray.toList.map (·.1) = n :: ns := e2
  have m1 : numAt ys.toArray w ∈ n :: ns := by
    rw [numAt_eq, el]
    refine getD_mem ?_
    simp at g1 ⊢
    omega
  obtain ⟨k1, k2⟩ := pN n ns
  have e3 : numAt ys.toArray w = t5 n ns := by
    refine Int.le_antisymm (k2 _ m1) ?_
    obtain ⟨j, hj, e⟩ := mem_getD k1
    have := g2 j (by simp at hj ⊢; omega)
    rw [numAt_eq ys.toArray j, el, e] at this
    exact this
  rw [e3]
  exact ⟨.int _, H, I.kept hk, ⟨_, rfl⟩, q⟩
def Fw : PyData → R PyData
  | .list ds => match dc ds with
    | some (n :: ns) => .ok (.int (xH n ns))
    | _ => .no
  | _ => .no
def pb : PyData → R PyData
  | .list ds => match dc ds with
    | some (n :: ns) => .ok (.int (t5 n ns))
    | _ => .no
  | _ => .no
theorem nG (T : Tb X nl G) (j : Nat) (hG : G[j]? = some ("max" : Str)) (hm : X.mg "max" = none) (ha : bK X a fa) (he : aw a = true := by rfl) : ai X (.Call (.Name "max" p) [a] [] pos) (e1 pb fa) := by
  refine Ab T j hG hm fQ PyProof.Rows.boot_max (wC T.calm) (fun H x d Q hx q => ?_) ha he
  cases d with
  | list ds =>
    simp only [pb] at q
    split at q
    · rename_i n ns ei
      rw [fj ei] at hx
      obtain ⟨a', vs, rfl, h, r⟩ := dL (K := X.K) hx
      rw [k8 r] at h
      exact ⟨a', n, ns, rfl, h, q _ H (aE.refl _) de⟩
    · exact q.elim
  | _ => exact q.elim
theorem Z.nG (T : Tb X nl G) (j : Nat) (hG : G[j]? = some ("max" : Str)) (hm : X.mg "max" = none) (ha : Z.bK X a fa) (he : aw a = true := by rfl) : Z.ai X (.Call (.Name "max" p) [a] [] pos) (e1 pb fa) :=
  ⟨D2.nG T j hG hm ha.un he⟩
end
section
variable {prog : Program} {w : World} {A : Around} {E : Value → Shared → Prop} {s : Shared}
theorem pr {R : List Value → Shared → Prop} {r : Addr} {a b c : Int} {t u v : Tok} {n : Nat} (hh : A.handled = none) (hr : IsRange s.heap r a b c t u v) (hsmall : Builtin.Range.small a b c = true)
    (hn : Builtin.Range.rangeSize a b c = n) (hlen : n ≤ 2 ^ 24)
    (h : ∀ (h' : Heap) (tk : Nat) (acc : Array Value), (∀ b o, s.heap.get? b = some o → h'.get? b = some o) → ItemsOf (fun i v => ∃ t, v = .int (a + i * c) t) acc n → R acc.toList { s with heap := h', toks := tk }) :
    wpAny (model prog w) A (collect (.ref r)) R E s := by
  unfold collect
  refine wpAny_bind (wpAny_runValue (codeAny_builtin F.entry_proto_collect ?_))
  rw [Around.under_plainId PySem.F.plain_proto_collect _]
  show wpAny _ A.in1 (newList [] >>= fun l => again (.builtin "list.__iadd__" ⟨[l, .ref r], []⟩)) _ _ s
  refine wpAny_bind (wpAny_newObj_type ?_)
  refine wpAny_pure ⟨plainId_quiet PySem.F.plain_list_iadd _, codeAny_builtin F.entry_list_iadd ?_⟩
  rw [Around.under_plainId PySem.F.plain_list_iadd _]
  have hS₁ : (s.heap.push { cls := .type "list", data := .seq ([] : List Value).toArray }).get? s.heap.objs.size = some { cls := .type "list", data := .seq #[] } := Heap.get?_push_size _ rfl
  show wpAny _ A.in1 (Builtin.List.listExtendWith (.ref s.heap.objs.size) (.ref r) (.ref s.heap.objs.size)) _ _ _
  have key := wpAny_extend_range (prog := prog) (w := w) (A := A) (s := { s with heap := s.heap.push { cls := .type "list", data := .seq ([] : List Value).toArray } })
    (R := fun (q : Result) (s' : Shared) => ∃ (h' : Heap) (tk : Nat) (acc' : Array Value) (c' : Nat), q = .ok (.ret (.ref s.heap.objs.size)) ∧ s' = { s with heap := h', toks := tk } ∧
      (∀ b o, s.heap.get? b = some o → h'.get? b = some o) ∧ h'.get? s.heap.objs.size = some { cls := .type "list", dict := none, data := .seq acc' c', slots := #[] } ∧ ItemsOf (fun i v => ∃ t, v = .int (a + i * c) t) acc' n)
    hh (Heap.get?_push_of_some _ hr) hsmall hn hlen s.heap.objs.size (.ref s.heap.objs.size) 0 hS₁
    (fun h' tk acc' c' hk hS' hacc => ⟨h', tk, acc', c', rfl, rfl, fun b o e => hk b o (Nat.ne_of_lt (Heap.lt_size e)) (Heap.get?_push_of_some _ e), hS', hacc⟩)
  refine wpAny_mono key (fun fin s' x => ?_) fun e s' x => ?_
  · cases fin with
    | done f =>
      obtain ⟨h', tk, acc', c', e, rfl, hk, hS', hacc⟩ := x
      cases e
      show wpAny _ A (load s.heap.objs.size >>= _) _ _ _
      refine wpAny_bind (wpAny_load hS' ?_)
      exact wpAny_pure (h h' tk acc' hk hacc)
    | again c' =>
      obtain ⟨hq, hc⟩ := x
      refine ⟨hq, codeAny_mono hc fun q s' ⟨h', tk, acc', c', e, e2, hk, hS', hacc⟩ => ?_⟩
      subst e e2
      show wpAny _ A (load s.heap.objs.size >>= _) _ _ _
      refine wpAny_bind (wpAny_load hS' ?_)
      exact wpAny_pure (h h' tk acc' hk hacc)
  · obtain ⟨h', tk, acc', c', e, _⟩ := x
    cases e
theorem nq (r : Addr) (a b c : Int) (t u v : Tok) (n : Nat) (hsmall : Builtin.Range.small a b c = true) (hn : Builtin.Range.rangeSize a b c = n) (hlen : n ≤ 2 ^ 24) : Meets (Builtin.«tuple.__new__» ⟨[.type "tuple", .ref r], []⟩)
      (fun A R s => A.handled = none ∧ IsRange s.heap r a b c t u v ∧ ∀ (h' : Heap) (tk : Nat) (acc : Array Value), (∀ b o, s.heap.get? b = some o → h'.get? b = some o) → ItemsOf (fun i v => ∃ t, v = .int (a + i * c) t) acc n →
        R (.ok (.ret (.ref h'.objs.size))) { s with heap := h'.push { cls := .type "tuple", data := .seq acc }, toks := tk }) :=
  .of_wp fun prog w A R s h => by
    obtain ⟨hh, hr, h⟩ := h
    have hsub := sub_tuple_self
    have hinit := init_tuple_lookup
    have hmh := madeHere_tuple
    have hT : s.TypeIs (.ref r) "range" := ⟨_, hr, rfl⟩
    have hh1 : A.in1.handled = none := hh
    wp_walk using wpAny_typeOf hT, pr hh1 hr hsmall hn hlen
    intro h' tk acc hk hacc
    show wpAny _ _ (Builtin.Tuple.tupleExact acc.toList.toArray >>= fun v => ret v) _ _ _
    unfold Builtin.Tuple.tupleExact
    refine wpAny_bind (wpAny_newObj_type ?_ (show acc.toList.toArray.size ≤ sizeLine by simp only [Array.toArray_toList]; rw [hacc.1, sizeLine_eq]; omega))
    refine wpAny_pure ⟨_, rfl, ?_⟩
    have e : acc.toList.toArray = acc := by simp
    rw [e]
    exact h h' tk acc hk hacc
theorem lM {Q : Value → Shared → Prop} {r : Addr} {a b c : Int} {t u v : Tok} {n : Nat} (hh : A.handled = none) (hr : IsRange s.heap r a b c t u v) (hsmall : Builtin.Range.small a b c = true) (hn : Builtin.Range.rangeSize a b c = n) (hlen : n ≤ 2 ^ 24)
    (h : ∀ (h' : Heap) (tk : Nat) (acc : Array Value), (∀ b o, s.heap.get? b = some o → h'.get? b = some o) → ItemsOf (fun i v => ∃ t, v = .int (a + i * c) t) acc n → Q (.ref h'.objs.size) { s with heap := h'.push { cls := .type "tuple", data := .seq acc }, toks := tk }) :
    wpAny (model prog w) A (call (.type "tuple") [.ref r]) Q E s := by
  refine callType_new F.called_tuple (by decide) (F.typeCall_tuple_1 _) (F.newCall_tuple_1 _) (fun obj => F.args_object_init_2 obj _) F.entry_tuple_new
    (nq r a b c t u v n hsmall hn hlen) ⟨hh, hr, fun h' tk acc hk hacc => ⟨⟨_, Heap.get?_push_size _ rfl, rfl⟩, h h' tk acc hk hacc⟩⟩
end
section
variable {X : Cx} {a b c : Expr} {fa fb fc : Fe} {pos p2 : Pos} {nl : Nat} {G : List Str} {x : Str} {p : Pos} {fs : aN → R (List PyData)} {pos2 : Pos}
def jv (lo : Int) (n : Nat) : List V := (List.range n).map fun (k : Nat) => .int (lo + k)
theorem wJ {H : Hp} (lo : Int) (n : Nat) : bw H (bG lo n) (jv lo n) := by
  have key : ∀ l : List Nat, bw H (l.map fun (k : Nat) => PyData.int (lo + k)) (l.map fun (k : Nat) => V.int (lo + k)) := by
    intro l
    induction l with
    | nil => exact bw.nil
    | cons k l ih => exact bw.cons de ih
  exact key _
theorem uE {lo : Int} {n : Nat} {acc : Array Value} (h : ItemsOf (fun i v => ∃ t, v = .int (lo + (i : Int) * 1) t) acc n) : bt (jv lo n) acc.toList := by
  refine vp (by rw [Array.length_toList, h.1]; simp [jv]) fun j v hj => ?_
  obtain ⟨t, e⟩ := h.2 j v (by rw [← Array.getElem?_toList]; exact hj)
  have hjn : j < n := by
    have := (List.getElem?_eq_some_iff.mp hj).1
    rw [Array.length_toList, h.1] at this
    exact this
  refine ⟨.int (lo + j), ?_, t, by rw [e]; simp⟩
  unfold jv
  rw [List.getElem?_map, List.getElem?_range hjn]
  rfl
theorem uy (lo : Int) (n : Nat) : (jv lo n).length = n := by simp [jv]
def EW (mk : List V → HO) (ta : TA) : TE := fun σ H Q => ta σ H fun vs H1 => ∃ j : Int, vs = [.int j] ∧ j ≤ 16777216 ∧ -(2 ^ 62) ≤ j ∧ ∀ l, H1 l = none → Q (.ref l) (cm H1 l (mk (jv 0 j.toNat)))
theorem xr {ta : TA} (T : Tb X nl G) (i : Nat) (hGi : G[i]? = some ("tuple" : Str)) (hmi : X.mg "tuple" = none) (j : Nat) (hG : G[j]? = some ("range" : Str)) (hm : X.mg "range" = none) (ha : PA X [a] ta) (hs : aw a = true := by rfl) :
    PE X (.Call (.Name "tuple" p) [.Call (.Name "range" p2) [a] [] pos2] [] pos) (EW .tup ta) := by
  intro pins s σ H Q I h
  have g1 := T.gl _ (List.mem_of_getElem? hGi)
  have g2 := T.gl _ (List.mem_of_getElem? hG)
  have sc : starEach [Expr.Call (.Name "range" p2) [a] [] pos2] X.env = (false, eval (Expr.Call (.Name "range" p2) [a] [] pos2) X.env) :: starEach [] X.env := bg (by rfl)
  refine Call_ (iT I g1.1 hmi PyProof.Rows.boot_tuple (PyProof.Rows.callWith_type1 ?_ sc rfl))
  rw [sc]
  refine Calls.spliced_cons ?_
  refine Call_ (iT I g2.1 hm boot_range (PyProof.Rows.callWith_type1 (cQ (ha pos2 pins s σ H _ I h) fun us s1 ⟨vs, H1, I1, r1, q1⟩ => ?_) (bg hs) rfl))
  obtain ⟨n, e, h1, h2, q⟩ := q1
  subst e
  obtain ⟨u, rfl, t, rfl⟩ := gy r1
  refine call_range_1 (Calls.spliced_nil ?_)
  have hsz : Builtin.Range.rangeSize 0 n 1 = n.toNat := by rw [rangeSize_one]; split <;> omega
  refine lM (n := n.toNat) (I1.ok.hd T.calm) (IsRange.new ..) (small_one (by omega) (by omega) (by omega) (by omega)) hsz (by omega) fun h' tk acc kp hacc => ?_
  have kp' : ∀ b o, s1.heap.get? b = some o → h'.get? b = some o := fun b o e => kp b o (Heap.get?_push_of_some _ e)
  have hg : s1.heap.get? h'.objs.size = none := by
    cases e : s1.heap.get? h'.objs.size with
    | none => rfl
    | some o => exact absurd (Heap.lt_size (kp' _ _ e)) (Nat.lt_irrefl _)
  have hn := sA I1 hg
  refine ⟨.ref h'.objs.size, _, sC (s := s1) (t' := tk) (o := .tup (jv 0 n.toNat)) I1 (fun b o e => Heap.get?_push_of_some _ (kp' b o e)) hg hn ⟨by rw [uy, sizeLine_eq]; omega, acc.toList, uE hacc, _, Heap.get?_push_size _ rfl, rfl, _, by simp; rfl⟩, rfl, q _ hn⟩
def CV (mk : List PyData → PyData) : List PyData → R PyData
  | [.int j] => if j ≤ 16777216 ∧ -(2 ^ 62) ≤ j then .ok (mk (bG 0 j.toNat)) else .no
  | _ => .no
def va (fs : aN → R (List PyData)) : Fe := fun ρ => fs ρ >>= CV .tuple
theorem re (T : Tb X nl G) (i : Nat) (hGi : G[i]? = some ("tuple" : Str)) (hmi : X.mg "tuple" = none) (j : Nat) (hG : G[j]? = some ("range" : Str)) (hm : X.mg "range" = none) (ha : pE X [a] fs) (hs : aw a = true := by rfl) :
    ai X (.Call (.Name "tuple" p) [.Call (.Name "range" p2) [a] [] pos2] [] pos) (va fs) :=
  PE.imp (xr T i hGi hmi j hG hm ha hs) fun σ H Q h => (mf (I := Rp) (f := fs) (k := fun _ => CV .tuple) (e8 (X := X) fQ Q) h).post fun vs H1 ⟨_, ds, _, _, p1, q1⟩ => by
    unfold CV at q1
    split at q1
    · rename_i n
      split at q1
      · rename_i hz
        simp only [RA] at p1
        obtain ⟨v, r', rfl, p, rfl⟩ := p1
        have ev : v = .int n := by simpa only [Rp] using p
        subst ev
        exact ⟨n, rfl, hz.1, hz.2, fun l hl => q1 _ _ (ce hl _) (df hl (wJ 0 n.toNat))⟩
      · exact q1.elim
    · exact q1.elim
theorem Z.re (T : Tb X nl G) (i : Nat) (hGi : G[i]? = some ("tuple" : Str)) (hmi : X.mg "tuple" = none) (j : Nat) (hG : G[j]? = some ("range" : Str)) (hm : X.mg "range" = none) (ha : Z.pE X [a] fs) (hs : aw a = true := by rfl) : Z.ai X (.Call (.Name "tuple" p) [.Call (.Name "range" p2) [a] [] pos2] [] pos) (va fs) :=
  ⟨D2.re T i hGi hmi j hG hm ha.un hs⟩
end
def uf (b : PyData → aN → Option aN) (f : Fe) : Fs := fun ρ => f ρ >>= fun d => match b d ρ with
  | some ρ' => .ok (.nx ρ')
  | none => .no
section
variable {X : Cx} {tg e : Expr} {f : Fe} {b : PyData → aN → Option aN} {pos : Pos}
theorem qh (he : ai X e f) (hg : pB X tg b) (hs : swapsWithSole [tg] e pos.line X.env = pure false := by rfl) (hw : swappedStores [tg] e X.env = pure none := by rfl) (h1 : (assignEach [tg] X.env).map (·.2) = [assign tg X.env] := by rfl) :
    fw X (.Assign [tg] e pos) (uf b f) := fun Fm => by
  refine PS.imp (yS he hg hs hw h1) fun D σ H h => ?_
  refine (lK (P := gR) (f := f) (k := fun ρ d => match b d ρ with | some ρ' => .ok (.nx ρ') | none => .no) h).post fun v H1 ⟨ρ, d, sl, _, p, q⟩ => ?_
  refine ⟨ρ, d, sl.sl, p, ?_⟩
  cases eb : b d ρ with
  | none => rw [eb] at q; exact q
  | some ρ3 =>
    rw [eb] at q
    intro σ4 sl4 hown
    refine q σ4 H1 ⟨sl.fm, sl4, fun j e a h1 h2 => ?_, fun j k e f a h1 h2 h3 h4 => ?_⟩
    · obtain ⟨z1, z2⟩ := hown j e h1
      exact sl.own j e a z1 (by rw [← z2]; exact h2)
    · obtain ⟨z1, z2⟩ := hown j e h1
      obtain ⟨z3, z4⟩ := hown k f h2
      exact sl.apart j k e f a z1 z3 (by rw [← z2]; exact h3) (by rw [← z4]; exact h4)
theorem Z.qh (he : Z.ai X e f) (hg : Z.pB X tg b) (hs : swapsWithSole [tg] e pos.line X.env = pure false := by rfl) (hw : swappedStores [tg] e X.env = pure none := by rfl) (h1 : (assignEach [tg] X.env).map (·.2) = [assign tg X.env] := by rfl) : Z.fw X (.Assign [tg] e pos) (uf b f) :=
  ⟨D2.qh he.un hg.un hs hw h1⟩
end
section
variable {X : Cx} {a b : Expr} {fa fb : Fe} {pos p2 : Pos}
def Fk : PyData → PyData → R PyData
  | .list xs, .int k => if -(2 ^ 63) ≤ k ∧ k < 2 ^ 63 ∧ xs.length * k.toNat ≤ sizeLine then .ok (.list (List.replicate k.toNat xs).flatten) else .no
  | _, _ => .no
end
theorem bw.set {H : Hp} {d : PyData} {v : V} (p : Rp H d v) : ∀ {ds : List PyData} {vs : List V} (j : Nat), bw H ds vs → bw H (ds.set j d) (vs.set j v)
  | [], vs, j, r => by rw [r.nil_inv]; exact bw.nil
  | d' :: ds, vs, j, r => by
    obtain ⟨v', r', rfl, p', t⟩ := r.cons_inv
    cases j with
    | zero => exact bw.cons p t
    | succ j => exact bw.cons p' (bw.set p j t)
def gN (i : Nat) (fk fv : Fe) : Fs := fun ρ => fv ρ >>= fun v => mH (fk ρ) >>= fun k => match ρ[i]?, k with
  | some (.own (.list ds)), .int n => match vo ds.length n with
    | some j => .ok (.nx (ρ.set i (.own (.list (ds.set j v)))))
    | none => .no
  | _, _ => .no
section
variable {X : Cx} {nl : Nat} {G : List Str} {x : Str} {f : Fe} {e : Expr}
theorem jQ {k v : Expr} {fk fv : Fe} {q1 q2 q3 : Pos} (T : Tb X nl G) (n : Nat) (hN : X.N[n]? = some x) (hk : ai X.nox k fk) (hv : ai X v fv) (hs : swapsWithSole [.Subscript (.Name x q1) k q2] v q3.line X.env = pure false := by rfl) (hw : swappedStores [.Subscript (.Name x q1) k q2] v X.env = pure none := by rfl)
    (h1 : (assignEach [.Subscript (.Name x q1) k q2] X.env).map (·.2) = [assign (.Subscript (.Name x q1) k q2) X.env] := by rfl)
    (ha : ∀ v, assign (.Subscript (.Name x q1) k q2) X.env v = (do
      let ov ← holding [v] (eval (.Name x q1) X.env)
      let iv ← holding [v, ov] (eval k X.env)
      standAt q2
      holding [v, ov, iv] (setItem ov iv v)
      release [v, ov, iv] []) := by intro _; rfl) :
    fw X (.Assign [.Subscript (.Name x q1) k q2] v q3) (gN n fk fv) := fun Fm => by
  have hm := T.vis x (List.mem_of_getElem? hN)
  have hkX : PE X k (fun σ H Q => ke X.nox gR fk σ H Q) := fun pins s σ H Q I h => wpAny_mono (hk pins s σ H Q (I.wish _) h) (fun v s' ⟨y, H', I', r, q⟩ => ⟨y, H', I'.unwish, r, q⟩) fun _ _ z => False.elim z
  refine PS.imp (yS hv (BN (mw hN hm.1 hm.2.1 hm.2.2) hkX xq ha) hs hw h1) fun D σ H h => ?_
  refine (lK (P := gR) (f := fv) (k := fun ρ v => mH (fk ρ) >>= fun k => match ρ[n]?, k with
    | some (.own (.list ds)), .int m => match vo ds.length m with
      | some j => .ok (.nx (ρ.set n (.own (.list (ds.set j v)))))
      | none => .no
    | _, _ => .no) h).post fun vv H1 ⟨ρ1, dv, sl1, _, p1, q1⟩ => ?_
  cases ef : fk ρ1 with
  | ex c => rw [ef] at q1; exact q1.elim
  | no => rw [ef] at q1; exact q1.elim
  | ok kd =>
    rw [ef] at q1
    simp only [mH, R.ok_bind] at q1
    cases er : ρ1[n]? with
    | none => rw [er] at q1; exact q1.elim
    | some c =>
      rw [er] at q1
      cases c with
      | non => exact q1.elim
      | exc p => exact q1.elim
      | val d' => exact q1.elim
      | own d' =>
        cases d' with
        | list ds =>
          cases kd with
          | int m =>
            dsimp only at q1
            cases ei : vo ds.length m with
            | none => rw [ei] at q1; exact q1.elim
            | some j =>
              rw [ei] at q1
              obtain ⟨o, h2, w', rfl, p2⟩ := sl1.sl.at er
              simp only [ja] at p2
              obtain ⟨a', vs, rfl, ha', r⟩ := p2
              refine ⟨.ref a', h2, ρ1, sl1.sl, ?_⟩
              rw [ef]
              intro yv H3 s3 p3
              have ev : yv = .int m := by simpa only [Rp] using p3
              have ha3 := s3 _ _ ha'
              have r3 := r.mono s3
              refine ⟨a', vs, m, j, rfl, ev, ha3, by rw [r.length]; exact ei, q1 _ _ ((sl1.mono s3).change er h2 ha3 (.inl ⟨_, rfl⟩) ?_)⟩
              simp only [ja]
              exact ⟨a', _, rfl, bd, bw.kp (gz ha3 (.inl ⟨_, rfl⟩)) _ _ (bw.set (p1.mono s3) j r3)⟩
          | _ => exact q1.elim
        | _ => exact q1.elim
theorem Z.jQ {k v : Expr} {fk fv : Fe} {q1 q2 q3 : Pos} (T : Tb X nl G) (n : Nat) (hN : X.N[n]? = some x) (hk : Z.ai X.nox k fk) (hv : Z.ai X v fv) (hs : swapsWithSole [.Subscript (.Name x q1) k q2] v q3.line X.env = pure false := by rfl) (hw : swappedStores [.Subscript (.Name x q1) k q2] v X.env = pure none := by rfl) (h1 : (assignEach [.Subscript (.Name x q1) k q2] X.env).map (·.2) = [assign (.Subscript (.Name x q1) k q2) X.env] := by rfl) (ha : ∀ v, assign (.Subscript (.Name x q1) k q2) X.env v = (do
      let ov ← holding [v] (eval (.Name x q1) X.env)
      let iv ← holding [v, ov] (eval k X.env)
      standAt q2
      holding [v, ov, iv] (setItem ov iv v)
      release [v, ov, iv] []) := by intro _; rfl) : Z.fw X (.Assign [.Subscript (.Name x q1) k q2] v q3) (gN n fk fv) :=
  ⟨D2.jQ T n hN hk.un hv.un hs hw h1 ha⟩
def Er (g : Int → Int → Int) : PyData → PyData → R PyData
  | .int i, .int j => .ok (.int (g i j))
  | _, _ => .no
def tG (i : Nat) (g : Int → Int → Int) (f : Fe) : Fs := fun ρ => ad i ρ >>= fun x => f ρ >>= fun y => Er g x y >>= fun z => .ok (.nx (ρ.set i (.val z)))
theorem A1 {op : Operator} {g : Int → Int → Int} {pos pos' : Pos} (ho : EC X op (Fh g)) (T : Tb X nl G) (i : Nat) (hN : (X.N.take nl)[i]? = some x) (he : ai X e f) : fw X (.AugAssign (.Name x pos') op e pos) (tG i g f) := fun Fm => by
  obtain ⟨n1, n2, n3⟩ := T.nm hN
  refine PS.imp (CG T.nd n1 n2 he ho n3) fun D σ H h => ?_
  obtain ⟨ρ, sl, q⟩ := h
  unfold tG at q
  cases ev : ad i ρ with
  | ex c => exact absurd ev (by unfold ad; split <;> simp)
  | no => rw [ev] at q; exact q.elim
  | ok dx =>
    rw [ev] at q
    simp only [R.ok_bind] at q
    have hc : ρ[i]? = some (.val dx) := by
      unfold ad at ev
      split at ev
      · rename_i d hd; cases ev; exact hd
      · cases ev
    obtain ⟨o, h2, w', rfl, p2⟩ := sl.sl.at hc
    refine ⟨w', h2, ?_⟩
    refine (lK (P := gR) (f := f) (k := fun ρ y => Er g dx y >>= fun z => .ok (.nx (ρ.set i (.val z)))) ⟨ρ, sl, q⟩).post fun v H1 ⟨ρ1, d, sl1, s1, p, q1⟩ => ?_
    cases dx with
    | int a =>
      cases d with
      | int b =>
        have e1 : w' = .int a := by simpa only [Rp] using p2
        have e2 : v = .int b := by simpa only [Rp] using p
        subst e1
        subst e2
        exact ⟨a, b, rfl, rfl, q1 _ H1 (sl1.set i (fun e z => by cases z) ⟨.int (g a b), rfl, de⟩)⟩
      | _ => exact q1.elim
    | _ => exact q1.elim
theorem qU {pos pos' : Pos} (T : Tb X nl G) (i : Nat) (hN : (X.N.take nl)[i]? = some x) (he : ai X e f) : fw X (.AugAssign (.Name x pos') .Add e pos) (tG i (fun a b => a + b) f) := A1 BP T i hN he
theorem Z.qU {pos pos' : Pos} (T : Tb X nl G) (i : Nat) (hN : (X.N.take nl)[i]? = some x) (he : Z.ai X e f) : Z.fw X (.AugAssign (.Name x pos') .Add e pos) (tG i (fun a b => a + b) f) :=
  ⟨D2.qU T i hN he.un⟩
end
section
variable {X : Cx} {a b : Expr} {fa fb : Fe} {pos p : Pos} {nl : Nat} {G : List Str}
def Fl : PyData → PyData → R PyData
  | .str z, .int k => if k = 0 ∨ k = 1 then .ok (.str (if k = 1 then z else Str.empty)) else .no
  | _, _ => .no
end
section
variable {X : Cx} {o e : Expr} {fo fe : Fe} {apos cpos : Pos}
theorem xp : Fi X "list.index" (fun x xs H Q => ∃ (l : Addr) (ns : List Int) (k : Int), x = .ref l ∧ xs = [.int k] ∧ mX X.K H l (ns.map V.int) ∧ PyData.layable0 (.list (ns.map .int)) = true ∧ k ∈ ns ∧ Q (.int (ns.idxOf k : Nat)) H) := by
  intro pins s σ H x xs v us Q I rx rs h
  obtain ⟨l, ns, k, rfl, rfl, hq, hlay, hk, q⟩ := h
  cases rx
  obtain ⟨u, rfl, t, rfl⟩ := gy rs
  obtain ⟨its, rv, pl, hz⟩ := I.list hq
  exact index_list_ints pl.isList (iS rv) hlay hk ⟨.int _, H, I.tok _, ⟨_, rfl⟩, q⟩
def Cw : PyData → R Unit
  | .list _ => .ok ()
  | _ => .no
def jf : PyData → PyData → R PyData
  | .list ds, .int k => match dc ds with
    | some ns => if PyData.layable0 (.list ds) = true ∧ k ∈ ns then .ok (.int (ns.idxOf k : Nat)) else .no
    | none => .no
  | _, _ => .no
def qp (fo fe : Fe) : Fe := fun ρ => fo ρ >>= fun x => Cw x >>= fun _ => fe ρ >>= fun y => jf x y
theorem nS (ho : bK X o fo) (he : ai X e fe) (hb : attributeBase o "index" X.env (eval o X.env) = eval o X.env := by rfl) (hst : aw e = true := by rfl) (hline : (apos.endLine == cpos.line) = true := by rfl) :
    ai X (.Call (.Attribute o "index" apos) [e] [] cpos) (qp fo fe) := by
  have sc : starEach [e] X.env = (false, eval e X.env) :: starEach [] X.env := bg hst
  refine PE.imp (Bb PySem.F.plainAttrs_list PySem.F.slot_list_index PySem.F.type_list_index xp ho (ag he ay hst) hb (by rw [sc]; rfl) hline sc rfl) fun σ H Q h => ?_
  refine (ff (P := vT) (f := fo) (k := fun ρ x => Cw x >>= fun _ => fe ρ >>= fun y => jf x y) (e8 (X := X) fQ Q) h).post fun v H1 ⟨ρ1, d1, sl1, _, p1, q1⟩ => ?_
  cases d1 with
  | list ds =>
    obtain ⟨a, vs, rfl, h1, r1⟩ := dL (K := X.K) p1
    refine ⟨.inl ⟨rfl, _, h1⟩, ?_⟩
    have q1 : uJ X gR (af fe aH ρ1 >>= one (jf (.list ds))) H1 Q := by
      have e0 : (af fe aH ρ1 >>= one (jf (.list ds))) = (fe ρ1 >>= fun y => jf (.list ds) y) := by
        unfold af aH
        cases fe ρ1 <;> rfl
      rw [e0]; exact q1
    refine (mf (I := Rp) (f := af fe aH) (k := fun _ => one (jf (.list ds))) (e8 (X := X) fQ Q) ⟨ρ1, sl1, q1⟩).post fun us H2 ⟨_, ds2, _, s2, p2, q2⟩ => ?_
    unfold one at q2
    split at q2
    · rename_i d2
      simp only [RA] at p2
      obtain ⟨w, r', rfl, p2, rfl⟩ := p2
      cases d2 with
      | int k =>
        have ew : w = .int k := by simpa only [Rp] using p2
        subst ew
        simp only [jf] at q2
        cases ei : dc ds with
        | none => rw [ei] at q2; exact q2.elim
        | some ns =>
          rw [ei] at q2
          dsimp only at q2
          split at q2
          · rename_i hz
            have p3 := ie.mono p1 s2
            rw [fj ei] at p3
            obtain ⟨a', vs', ea, h3, r3⟩ := dL (K := X.K) p3
            cases ea
            rw [k8 r3] at h3
            exact ⟨a, ns, k, rfl, rfl, h3, by rw [← fj ei]; exact hz.1, hz.2, q2 _ H2 (aE.refl _) de⟩
          · exact q2.elim
      | _ => exact q2.elim
    · exact q2.elim
  | _ => exact q1.elim
theorem Z.nS (ho : Z.bK X o fo) (he : Z.ai X e fe) (hb : attributeBase o "index" X.env (eval o X.env) = eval o X.env := by rfl) (hst : aw e = true := by rfl) (hline : (apos.endLine == cpos.line) = true := by rfl) : Z.ai X (.Call (.Attribute o "index" apos) [e] [] cpos) (qp fo fe) :=
  ⟨D2.nS ho.un he.un hb hst hline⟩
end
def Be : ba → ba
  | .own _ => .non
  | c => c
def iU (i : Nat) (d : PyData) (ρ : aN) : aN := (ρ.map Be).set i (.val d)
def pZ : PyData → R PyData
  | .none => .ok .none
  | .bool b => .ok (.bool b)
  | .int k => .ok (.int k)
  | .str x => .ok (.str x)
  | _ => .no
def kr (i : Nat) (f : Fe) : Fe := fun ρ => match ρ[i]? with
  | some (.own d) => mH (f (iU i d ρ)) >>= pZ
  | _ => f ρ
section
variable {X : Cx} {pins : List (Addr × Obj)} {σ : St} {H H1 : Hp} {s s' : Shared} {a : Addr} {u : HO} {o : Obj}
theorem wj (h : H a = some u) (S : aE (cm H a (.frz o u)) H1) : aE H (cm H1 a u) := fun b x e => by
  by_cases hb : b = a
  · subst hb; rw [bd]; rw [h] at e; exact e
  · rw [au hb]; exact S b x (by rw [au hb]; exact e)
theorem xD (I : aM X pins σ H s) (h : H a = some u) (hm : (∃ xs, u = .lst xs) ∨ ∃ ks, u = .dK ks) (S : aE (cm H a (.frz o u)) H1) (J : aM X pins σ H1 s') : aM X pins σ (cm H1 a u) s' := by
  have ha : H1 a = some (.frz o u) := S a _ bd
  have nt : ∀ b xs, H1 b = some (.tup xs) → b ≠ a := fun b xs q z => by subst z; rw [ha] at q; cases q
  have nb : ∀ b ps, H1 b = some (.tbl ps) → b ≠ a := fun b ps q z => by subst z; rw [ha] at q; cases q
  have nw : ∀ b y, H1 b = some (.own y) → b ≠ a := fun b y q z => by subst z; rw [ha] at q; cases q
  have nn : ∀ b, H1 b = none → b ≠ a := fun b q z => by subst z; rw [ha] at q; cases q
  have st : ∀ b x, bR X.prog X.w H1 s'.heap b x → bR X.prog X.w (cm H1 a u) s'.heap b x := fun b x q =>
    q.stay (fun c v _ e => e) (fun c e => by rw [au (nw _ _ e)]; exact e) fun c xs e => by rw [au (nt _ _ e)]; exact e
  refine ⟨J.ok, J.os, J.bare, ⟨J.base.keep, J.base.slot, fun b ob' e n hx => ?_, J.base.there, fun b xs e => ?_, fun b ob' v e => ?_, fun b ps e => ?_⟩, J.loc, J.cell, ?_, fun x c e => ?_, fun p hp => ?_, fun b x e => ?_, J.len⟩
  · have := J.base.free b ob' e n hx
    rw [au (nn _ this)]; exact this
  · have := J.base.tups b xs e
    rw [au (nt _ _ this)]; exact this
  · have q := I.base.frzs b ob' v e
    have hb : b ≠ a := fun z => by subst z; rw [h] at q; rcases hm with ⟨_, rfl⟩ | ⟨_, rfl⟩ <;> cases q
    rw [au hb]; exact J.base.frzs b ob' v e
  · obtain ⟨m, q⟩ := J.base.tbls b ps e
    exact ⟨m, by rw [au (nb _ _ q)]; exact q⟩
  · rw [au (nn _ J.free)]; exact J.free
  · rw [au (nn _ (J.freeC x c e))]; exact J.freeC x c e
  · obtain ⟨p1, p2, p3⟩ := J.pin p hp
    exact ⟨p1, by rw [au (nn _ p2)]; exact p2, p3⟩
  · by_cases hb : b = a
    · subst hb
      rw [bd] at e; cases e
      obtain ⟨_, q⟩ := (show bR X.prog X.w H1 s'.heap b (.frz o u) from J.hok b _ ha)
      exact st b u q
    · rw [au hb] at e
      exact st b x (J.hok b x e)
theorem vD {ρ : aN} {i : Nat} {d : PyData} {v : V} (sl : Sl H σ ρ) (k : Kp H H1) (hv : σ[i]? = some (some v)) (hr : Rp H1 d v) : Sl H1 σ (iU i d ρ) := by
  unfold iU
  refine ⟨by rw [List.length_set, List.length_map]; exact sl.1, fun j c w' e1 e2 => ?_⟩
  rw [List.getElem?_set] at e1
  by_cases hij : i = j
  · subst hij
    rw [if_pos rfl] at e1
    split at e1
    · cases e1
      rw [hv] at e2
      cases e2
      exact ⟨_, rfl, hr⟩
    · cases e1
  · rw [if_neg hij, List.getElem?_map] at e1
    cases ec : ρ[j]? with
    | none => rw [ec] at e1; cases e1
    | some c' =>
      rw [ec] at e1
      have e1' : Be c' = c := Option.some.inj e1
      subst e1'
      have q := sl.2 j c' w' ec e2
      cases c' with
      | exc p => exact q
      | non => exact True.intro
      | val d' => obtain ⟨v, z1, z2⟩ := q; exact ⟨v, z1, Rp.kp k _ _ z2⟩
      | own d' => exact True.intro
end
theorem AC {H H' : Hp} {d d' : PyData} {v : V} (h : pZ d = .ok d') (r : Rp H d v) : Rp H' d' v := by
  cases d <;> first | (cases h; simp only [Rp] at r ⊢; exact r) | cases h
theorem ai.lent {X : Cx} {e : Expr} {f : Fe} (i : Nat) (h : ai X e f) : ai X e (kr i f) := by
  intro pins s σ H Q I q
  obtain ⟨ρ, sl, q⟩ := q
  by_cases ho : ∃ d, ρ[i]? = some (.own d)
  · obtain ⟨d, ho⟩ := ho
    have el : kr i f ρ = (mH (f (iU i d ρ)) >>= pZ) := by unfold kr; rw [ho]
    rw [el] at q
    have go : ∀ (a : Addr) (u : HO) (hu : H a = some u) (hm : (∃ xs, u = .lst xs) ∨ ∃ ks, u = .dK ks) (o : Obj) (J : aM X pins σ (cm H a (.frz o u)) s) (sl1 : Sl (cm H a (.frz o u)) σ (iU i d ρ)), wpAny (model X.prog X.w) X.A (eval e X.env) (EP X pins σ Q) X.xe s := fun a u hu hm o J sl1 => by
      cases ef : f (iU i d ρ) with
      | no => rw [ef] at q; exact q.elim
      | ex c => rw [ef] at q; exact q.elim
      | ok d1 =>
        rw [ef] at q
        change uJ X gR (pZ d1) H Q at q
        cases ea : pZ d1 with
        | no => rw [ea] at q; exact q.elim
        | ex c => rw [ea] at q; cases d1 <;> cases ea
        | ok d2 =>
          rw [ea] at q
          refine cQ (h pins s σ (cm H a (.frz o u)) (fun v H' => aE (cm H a (.frz o u)) H' ∧ Rp H' d1 v) J ⟨iU i d ρ, sl1, by rw [ef]; exact fun v H' hs p => ⟨hs, p⟩⟩) fun w s' ⟨v, H', J', r, hs, p⟩ => ?_
          exact ⟨v, cm H' a u, xD I hu hm hs J', r, q v _ (wj hu hs) (AC ea p)⟩
    obtain ⟨w', h2, v, rfl, qo⟩ := sl.at ho
    cases d <;> simp only [ja] at qo
    · rename_i ds
      obtain ⟨a, vs, rfl, ha, r⟩ := qo
      obtain ⟨o, J⟩ := gw I ha (.inl ⟨_, rfl⟩)
      have kp := gz (o' := .frz o (.lst vs)) ha (.inl ⟨_, rfl⟩)
      have hr : Rp (cm H a (.frz o (.lst vs))) (.list ds) (.ref a) := by
        simp only [Rp]
        exact ⟨a, o, vs, rfl, bd, bw.kp kp _ _ r⟩
      exact go a _ ha (.inl ⟨_, rfl⟩) o J (vD sl kp h2 hr)
    · rename_i ds
      obtain ⟨a, vs, rfl, ha, r⟩ := qo
      obtain ⟨o, J⟩ := gw I ha (.inr ⟨_, rfl⟩)
      have kp := gz (o' := .frz o (.dK vs)) ha (.inr ⟨_, rfl⟩)
      have hr : Rp (cm H a (.frz o (.dK vs))) (.dict ds) (.ref a) := by
        simp only [Rp]
        exact .inl ⟨a, o, vs, rfl, bd, eh.kp kp _ _ r⟩
      exact go a _ ha (.inr ⟨_, rfl⟩) o J (vD sl kp h2 hr)
  · have el : kr i f ρ = f ρ := by
      unfold kr
      split
      · rename_i d e1; exact (ho ⟨d, e1⟩).elim
      · rfl
    rw [el] at q
    exact h pins s σ H Q I ⟨ρ, sl, q⟩
theorem Z.ai.lent {X : Cx} {e : Expr} {f : Fe} (i : Nat) (h : Z.ai X e f) : Z.ai X e (kr i f) :=
  ⟨D2.ai.lent i h.un⟩
def yU (C : Addr) (names : List Str) (ds : List PyData) : PyData := .dict ((.none, .int C) :: (names.zip ds).map fun p => (.str p.1, p.2))
def tw (f : Str) : List (PyData × PyData) → R PyData
  | [] => .no
  | (.str x, d) :: r => if x = f then .ok d else tw f r
  | _ :: _ => .no
def kc (C : Addr) (f : Str) : PyData → R PyData
  | .dict ((.none, .int c) :: kvs) => if c = (C : Int) then tw f kvs else .no
  | _ => .no
def qB (C : Addr) (names : List Str) (fs : aN → R (List PyData)) : Fe := fun ρ => fs ρ >>= fun ds => .ok (yU C names ds)
def DB (C : Addr) (names : List Str) : Sp := fun vs H Q _ => ∃ x dx ws, vs = .ref x :: ws ∧ H x = some (.ins C dx []) ∧ ws.length = names.length ∧ ∀ H', H' x = some (.ins C dx (names.zip ws)) → (∀ b, b ≠ x → H' b = H b) → Q .non H'
section
variable {X : Cx} {pins : List (Addr × Obj)} {σ : St} {H : Hp} {s : Shared} {a C dx : Addr} {fs : List (Str × V)}
theorem sd (I : aM X pins σ H s) (h : H a = some (.ins C dx fs)) : ∃ o, aM X pins σ (cm H a (.frz o (.ins C dx fs))) s := by
  have ob := I.hok a _ h
  obtain ⟨o, hg⟩ := qY ob
  have nt : ∀ b xs, H b = some (.tup xs) → b ≠ a := fun b xs q z => by subst z; rw [h] at q; cases q
  have nf : ∀ b o' u', H b = some (.frz o' u') → b ≠ a := fun b o' u' q z => by subst z; rw [h] at q; cases q
  have nb : ∀ b ps, H b = some (.tbl ps) → b ≠ a := fun b ps q z => by subst z; rw [h] at q; cases q
  have nw : ∀ b y, H b = some (.own y) → b ≠ a := fun b y q z => by subst z; rw [h] at q; cases q
  have nn : ∀ b, H b = none → b ≠ a := fun b q z => by subst z; rw [h] at q; cases q
  have st : ∀ b x, bR X.prog X.w H s.heap b x → bR X.prog X.w (cm H a (.frz o (.ins C dx fs))) s.heap b x := fun b x q =>
    q.stay (fun c v _ e => e) (fun c e => by rw [au (nw _ _ e)]; exact e) fun c xs e => by rw [au (nt _ _ e)]; exact e
  refine ⟨o, ⟨I.ok, I.os, I.bare, ⟨I.base.keep, I.base.slot, fun b ob' e n hx => ?_, I.base.there, fun b xs e => ?_, fun b ob' v e => ?_, fun b ps e => ?_⟩, I.loc, I.cell, ?_, fun x c e => ?_, fun p hp => ?_, fun b x e => ?_, I.len⟩⟩
  · have := I.base.free b ob' e n hx
    rw [au (nn _ this)]; exact this
  · have := I.base.tups b xs e
    rw [au (nt _ _ this)]; exact this
  · have := I.base.frzs b ob' v e
    rw [au (nf _ _ _ this)]; exact this
  · obtain ⟨m, q⟩ := I.base.tbls b ps e
    exact ⟨m, by rw [au (nb _ _ q)]; exact q⟩
  · rw [au (nn _ I.free)]; exact I.free
  · rw [au (nn _ (I.freeC x c e))]; exact I.freeC x c e
  · obtain ⟨p1, p2, p3⟩ := I.pin p hp
    exact ⟨p1, by rw [au (nn _ p2)]; exact p2, p3⟩
  · by_cases hb : b = a
    · subst hb
      rw [bd] at e; cases e
      exact ⟨hg, st b _ ob⟩
    · rw [au hb] at e
      exact st b x (I.hok b x e)
theorem zU {o' : HO} (h : H a = some (.ins C dx fs)) : Kp H (cm H a o') := by
  refine ⟨fun b xs e => ?_, fun b o v e => ?_⟩
  · rw [au]; exact e
    rintro rfl; rw [h] at e; cases e
  · rw [au]; exact e
    rintro rfl; rw [h] at e; cases e
end
theorem vA {H : Hp} : ∀ {names : List Str} {ds : List PyData} {vs : List V}, bw H ds vs → sX H ((names.zip ds).map fun p => (.str p.1, p.2)) (names.zip vs)
  | [], ds, vs, _ => by simp only [List.zip_nil_left, List.map_nil, sX]
  | n :: names, [], vs, r => by
    simp only [bw] at r
    subst r
    simp only [List.zip_nil_right, List.map_nil, sX]
  | n :: names, d :: ds, vs, r => by
    simp only [bw] at r
    obtain ⟨v, t, rfl, p, q⟩ := r
    simp only [List.zip_cons_cons, List.map_cons, sX, Bl]
    exact ⟨n, v, _, rfl, ⟨rfl, p⟩, vA q⟩
theorem vx {H : Hp} {f : Str} {d : PyData} : ∀ {kvs : List (PyData × PyData)} {fs : List (Str × V)}, sX H kvs fs → tw f kvs = .ok d → ∃ v, fs.lookup f = some v ∧ Rp H d v
  | [], fs, _, e => by cases e
  | (k, d') :: kvs, fs, r, e => by
    simp only [sX, Bl] at r
    obtain ⟨x, v, t, rfl, ⟨rfl, p⟩, q⟩ := r
    simp only [tw] at e
    by_cases h : x = f
    · rw [if_pos h] at e
      cases e
      subst h
      exact ⟨v, by rw [List.lookup_cons_self], p⟩
    · rw [if_neg h] at e
      obtain ⟨w, w1, w2⟩ := vx q e
      refine ⟨w, ?_, w2⟩
      rw [List.lookup_cons]
      have : (f == x) = false := by
        cases z : f == x with
        | false => rfl
        | true => exact (h (eq_of_beq z).symm).elim
      rw [this]
      exact w1
theorem uV {f : Str} {c : Str} : ∀ {kvs : List (PyData × PyData)}, tw f kvs ≠ .ex c
  | [], e => by cases e
  | (k, d) :: kvs, e => by
    cases k <;> simp only [tw] at e <;> try cases e
    split at e
    · cases e
    · exact uV e
section
variable {X : Cx} {e : Expr} {es : List Expr} {fe : Fe} {pos p : Pos} {nl : Nat} {G : List Str} {x : Str}
theorem qS {k : Nat} {C f : Addr} {fd : FuncData} {ps names : List Str} {fs : aN → R (List PyData)} (M : Mk X.K C f) (F : aY X.prog X.w X.K X.mg X.base (cI X.prog X.w X.mg) k f fd ps (DB C names)) (hr : eJ (k + 1) X.A) (T : Tb X nl G) (j : Nat) (hG : G[j]? = some x) (hm : X.mg x = some (.ref C)) (hb : i4 X.K fd ps []) (ha : pE X (e :: es) fs)
    (hfs : ∀ ρ ds, fs ρ = .ok ds → ds.length = names.length) (he : (e :: es).all aw = true := by rfl) : ai X (.Call (.Name x p) (e :: es) [] pos) (qB C names fs) := by
  rw [List.all_cons, Bool.and_eq_true] at he
  have g := T.gl x (List.mem_of_getElem? hG)
  intro pins s σ H Q I ⟨ρ, sl, q⟩
  unfold qB at q
  have base := AU (p := p) (pos := pos) M F hr g.1 hm hb .nil vS ha g.2.1 (bg he.1) (nP he.2)
  cases e1 : fs ρ with
  | ex c => rw [e1] at q; exact cQ (base pins s σ H (fun _ _ => False) I ⟨ρ, sl, by rw [e1]; exact q⟩) fun u s' ⟨v, H', I', r, z⟩ => z.elim
  | no => rw [e1] at q; exact q.elim
  | ok ds =>
    rw [e1] at q
    have q' : uJ X gR (.ok (yU C names ds)) H Q := q
    refine cQ (base pins s σ H (fun v H' => ∃ a dx vs, v = .ref a ∧ H a = none ∧ H' a = some (.ins C dx (names.zip vs)) ∧ bw H' ds vs ∧ aE H H') I ⟨ρ, sl, ?_⟩) fun u s' ⟨v, H', I', r, a, dx, vs, ev, hn, ha', rp, sm⟩ => ?_
    · rw [e1]
      intro vs H1 s1 r1 y dy hy hdy hne
      rw [List.append_nil]
      have r2 := n4.mp r1
      refine ⟨y, dy, vs, rfl, bd, by rw [r2.length]; exact hfs ρ ds e1, fun H' h1 h2 => ⟨rfl, y, dy, vs, rfl, s1.free hy, h1, ?_, ?_⟩⟩
      · have sm : aE H1 H' := fun b o eb => by
          rw [h2 b (aR eb hy), au (aR eb hy), au (aR eb hdy)]; exact eb
        exact r2.mono sm
      · intro b o eb
        have eb1 := s1 b o eb
        rw [h2 b (aR eb1 hy), au (aR eb1 hy), au (aR eb1 hdy)]; exact eb1
    · subst ev
      obtain ⟨o, J⟩ := sd I' ha'
      have kp := zU (o' := .frz o (.ins C dx (names.zip vs))) ha'
      refine ⟨.ref a, _, J, r, q' _ _ (fun b x eb => by rw [au (aR eb hn)]; exact sm b x eb) ?_⟩
      show Rp _ (yU C names ds) _
      unfold yU
      simp only [Rp]
      refine .inr ⟨a, o, C, dx, _, rfl, bd, ?_⟩
      simp only [xj]
      exact ⟨True.intro, sX.kp kp _ _ (vA rp)⟩
theorem Z.qS {k : Nat} {C f : Addr} {fd : FuncData} {ps names : List Str} {fs : aN → R (List PyData)} (M : Mk X.K C f) (F : aY X.prog X.w X.K X.mg X.base (cI X.prog X.w X.mg) k f fd ps (DB C names)) (hr : eJ (k + 1) X.A) (T : Tb X nl G) (j : Nat) (hG : G[j]? = some x) (hm : X.mg x = some (.ref C)) (hb : i4 X.K fd ps []) (ha : Z.pE X (e :: es) fs) (hfs : ∀ ρ ds, fs ρ = .ok ds → ds.length = names.length) (he : (e :: es).all aw = true := by rfl) : Z.ai X (.Call (.Name x p) (e :: es) [] pos) (qB C names fs) :=
  ⟨D2.qS M F hr T j hG hm hb ha.un hfs he⟩
def D9 (K : PySem.W.Frag) (ta : TE) (f : Str) : TE := fun σ H Q => ta σ H fun x H1 => ∃ a o C dx fs v, x = .ref a ∧ H1 a = some (.frz o (.ins C dx fs)) ∧ wl K C ∧ dN K C f ∧ fs.lookup f = some v ∧ Q v H1
theorem Ap {f : Str} {ta : TE} (he : PE X e ta) (hb : attributeBase e f X.env (eval e X.env) = eval e X.env) : PE X (.Attribute e f pos) (D9 X.K ta f) := by
  intro pins s σ H Q I h
  refine Az hb (cQ (he pins s σ H _ I h) fun u s1 ⟨x, H1, I1, rx, a, o, C, dx, fs, v, ex, ea, c, n, l, q⟩ => ?_)
  subst ex
  obtain rfl : u = Value.ref a := rx
  obtain ⟨_, d, z, ne, ob, mA, nn, r, qq⟩ := (show bR X.prog X.w H1 s1.heap a (.frz o (.ins C dx fs)) from I1.hok a _ ea)
  obtain ⟨u', hu, ru⟩ := lN.some_of (v := v) (o := mA f) (by rw [← l]; exact r f)
  exact AR I1.kIn ⟨ob, nn, ne⟩ (c.get f) c.hd n hu (xb ru) ⟨v, H1, I1.tok _, ru, q⟩
theorem l4 {C : Addr} {f : Str} (cl : wl X.K C) (na : dN X.K C f) (he : ai X e fe) (hb : attributeBase e f X.env (eval e X.env) = eval e X.env := by rfl) : ai X (.Attribute e f pos) (e1 (kc C f) fe) := by
  refine PE.imp (Ap he hb) fun σ H Q h => ?_
  refine (ff (P := gR) (f := fe) (k := fun _ x => kc C f x) (e8 (X := X) fQ Q) h).post fun v H1 ⟨_, d1, _, _, p1, q1⟩ => ?_
  unfold kc at q1
  split at q1
  · rename_i c kvs
    split at q1
    · rename_i hc
      cases ef : tw f kvs with
      | no => rw [ef] at q1; exact q1.elim
      | ex c => exact (uV ef).elim
      | ok d =>
        rw [ef] at q1
        have p2 : Rp H1 (.dict ((.none, .int c) :: kvs)) v := p1
        simp only [Rp] at p2
        rcases p2 with ⟨a, o, ks, rfl, ha, r⟩ | ⟨a, o, C', dx, fs, rfl, ha, r⟩
        · simp only [eh, zA] at r
          obtain ⟨κ, _, _, _, ⟨r1, _⟩, _⟩ := r
          cases κ <;> cases r1
        · simp only [xj] at r
          obtain ⟨r1, r2⟩ := r
          have hC : c = (C' : Int) := by injection r1 with _ r3; injection r3
          have hCC : C' = C := by
            have : (C' : Int) = (C : Int) := hC.symm.trans hc
            exact Int.ofNat.inj this
          subst hCC
          obtain ⟨w, w1, w2⟩ := vx r2 ef
          exact ⟨a, o, C', dx, fs, w, rfl, ha, cl, na, w1, q1 w H1 (aE.refl _) w2⟩
    · exact q1.elim
  · exact q1.elim
theorem Z.l4 {C : Addr} {f : Str} (cl : wl X.K C) (na : dN X.K C f) (he : Z.ai X e fe) (hb : attributeBase e f X.env (eval e X.env) = eval e X.env := by rfl) : Z.ai X (.Attribute e f pos) (e1 (kc C f) fe) :=
  ⟨D2.l4 cl na he.un hb⟩
end
theorem Eg {a b c : Str} {x y z : V} (h1 : ¬ a = b) (h2 : ¬ a = c) (h3 : ¬ b = c) : io c z (io b y (io a x [])) = [(a, x), (b, y), (c, z)] := by
  simp only [io, if_neg h1, if_neg h2, if_neg h3]
abbrev gI := List PyData → R PyData
structure gJ (P : Program) (w : World) (K : PySem.W.Frag) (mg : Str → Option Value) (base : Heap) (k : Nat) (x : Str) (ps : List Str) (F : gI) (f : Addr) (fd : FuncData) : Prop where
  ok : aY P w K mg base (cI P w mg) k f fd ps (di F ps.length)
  m : mg x = some (.ref f)
  kp : PySem.W.keepIn K (.ref f) = true
  b : i4 K fd ps []
theorem aO {X : Cx} {k : Nat} {f : Addr} {fd : FuncData} {ps : List Str} {F : gI} {x : Str} {p pos : Pos} {e : Expr} {es : List Expr} {fs : aN → R (List PyData)} {nl : Nat} {G : List Str} (C : gJ X.prog X.w X.K X.mg X.base k x ps F f fd) (hr : eJ k X.A) (T : Tb X nl G) (j : Nat) (hG : G[j]? = some x) (ha : pE X (e :: es) fs) (hlen : (e :: es).length = ps.length) (hfs : ∀ ρ ds, fs ρ = .ok ds → ds.length = ps.length) (he : (e :: es).all aw = true := by rfl) : ai X (.Call (.Name x p) (e :: es) [] pos) (aI F fs) :=
  AX C.ok hr T j hG C.m C.kp C.b ha hlen hfs he
theorem Z.aO {X : Cx} {k : Nat} {f : Addr} {fd : FuncData} {ps : List Str} {F : gI} {x : Str} {p pos : Pos} {e : Expr} {es : List Expr} {fs : aN → R (List PyData)} {nl : Nat} {G : List Str} (C : gJ X.prog X.w X.K X.mg X.base k x ps F f fd) (hr : eJ k X.A) (T : Tb X nl G) (j : Nat) (hG : G[j]? = some x) (ha : Z.pE X (e :: es) fs) (hlen : (e :: es).length = ps.length) (hfs : ∀ ρ ds, fs ρ = .ok ds → ds.length = ps.length) (he : (e :: es).all aw = true := by rfl) : Z.ai X (.Call (.Name x p) (e :: es) [] pos) (aI F fs) :=
  ⟨D2.aO C hr T j hG ha.un hlen hfs he⟩
structure cz (K : PySem.W.Frag) (x : Str) (st : Stmt) (f : Addr) (fd : FuncData) : Prop where
  ns : PySem.W.nsIn K mainGlobals x = some (some (.ref f))
  fn : ig K x x st f fd
theorem aV {K : PySem.W.Frag} {x : Str} {st : Stmt} {f : Addr} {oc : Value} {od an : Option Addr} {osl : Array (Option Value)} {kV doc pm cdv ct : Value} (a : PySem.W.nsIn K mainGlobals x = some (some (.ref f))) (l : K.lookup f = some ⟨oc, od, .func (PySem.W.fnOf x x (gp st) (dR st) (ah st) .none kV doc pm an cdv ct), osl⟩) (c : PySem.W.codeIn K cdv x = true) (k : PySem.W.keepIn K (.ref f) = true) :
    cz K x st f (PySem.W.fnOf x x (gp st) (dR st) (ah st) .none kV doc pm an cdv ct) := ⟨a, uo l c k⟩
def Dt (i : Nat) (g : Fs) : Fs := fun ρ => match ρ[i]? with
  | some (.own d) => g (ρ.set i (.val d))
  | _ => g ρ
theorem yI {X : Cx} {st : Stmt} {g : Fs} (i : Nat) (h : fw X st g) : fw X st (Dt i g) := fun Fm => by
  intro pins s σ H D I ⟨ρ, sl, q⟩
  unfold Dt at q
  split at q
  · rename_i d e
    obtain ⟨H2, v, I2, sl2, _, _⟩ := A8 I sl e
    exact h Fm pins s σ H2 D I2 ⟨_, sl2, q⟩
  · exact h Fm pins s σ H D I ⟨ρ, sl, q⟩
theorem Z.yI {X : Cx} {st : Stmt} {g : Fs} (i : Nat) (h : Z.fw X st g) : Z.fw X st (Dt i g) :=
  ⟨D2.yI i h.un⟩
end D2
namespace D2
open PySem PySem.Spec PyProof.Rows L2 PySem.Builtin PySem.Builtin.Str
end D2
set_option maxHeartbeats 400000
namespace D2
open PySem PySem.Spec PyProof.Rows L2 PySem.Builtin
end D2
namespace D2
open PySem PySem.Spec PyProof.Rows L2
theorem Z.qP {P : Program} {w : World} {K : PySem.W.Frag} {mg : Str → Option Value} {base : Heap} {x qual : Str} {st : Stmt} {f : Addr} {fd : FuncData} {N ps : List Str} {k : Nat} {g : Fs} (F : ig K x qual st f fd) (S : aQ N ps (ah st))
    (body : ∀ (cdv : Value) (A : Around) (outer : List Env) (s : Shared) (H : Hp) (E : XK), eJ k (A.deeper (envOfC qual (ah st) s.heap.objs.size f cdv)) →
      Z.ib (fT (cI P w mg) P w K mg base N qual (ah st) f cdv A outer s H E) (dR st) g) : aY P w K mg base (cI P w mg) (k + 1) f fd ps (di (dF N.length g) ps.length) :=
  D2.qP F S fun cdv A outer s H E hr => (body cdv A outer s H E hr).un
theorem Z.fn_dataT {P : Program} {w : World} {K : PySem.W.Frag} {mg : Str → Option Value} {base : Heap} {x qual : Str} {st : Stmt} {f : Addr} {fd : FuncData} {N ps : List Str} {k : Nat} {g : Fs} {G : List Str} (F : ig K x qual st f fd) (S : aQ N ps (ah st)) (ck : vq (ah st) N G)
    (body : ∀ (cdv : Value) (A : Around) (outer : List Env) (s : Shared) (H : Hp) (E : XK), eJ k (A.deeper (envOfC qual (ah st) s.heap.objs.size f cdv)) → Tb (fT (cI P w mg) P w K mg base N qual (ah st) f cdv A outer s H E) N.length G →
      Z.ib (fT (cI P w mg) P w K mg base N qual (ah st) f cdv A outer s H E) (dR st) g) : aY P w K mg base (cI P w mg) (k + 1) f fd ps (di (dF N.length g) ps.length) :=
  Z.qP F S fun cdv A outer s H E hr => body cdv A outer s H E hr (Bw hr ck)
def wY {P : Program} {w : World} {K : PySem.W.Frag} {mg : Str → Option Value} {base : Heap} {f : Addr} {fd : FuncData} {ps : List Str} {n k : Nat} : aY P w K mg base (cI P w mg) k f fd ps (di (fun _ => .no) n) :=
  have no : ∀ vs H Q E, ¬ di (fun _ => .no) n vs H Q E := fun vs H Q E ⟨ds, _, _, z⟩ => z
  ⟨fun vs H Q E h => absurd h (no vs H Q E), fun A outer s H args us vs Q E _ _ _ _ h => absurd h (no vs H Q E)⟩
def nH (K : PySem.W.Frag) : Bool := K.all fun p => match p.2.cls with
  | .type n => !(n == "list")
  | _ => true
theorem oq {α β : Type} [BEq α] {a : α} {o : β} : ∀ {K : List (α × β)}, K.lookup a = some o → ∃ p ∈ K, p.2 = o
  | [], e => by cases e
  | (b, x) :: r, e => by
    rw [List.lookup_cons] at e
    split at e
    · cases e; exact ⟨_, List.mem_cons_self, rfl⟩
    · obtain ⟨p, h1, h2⟩ := oq e
      exact ⟨p, List.mem_cons_of_mem _ h1, h2⟩
theorem t9 {K : PySem.W.Frag} (h : nH K = true) {a : Addr} {o : Obj} (e : K.lookup a = some o) (c : o.cls = .type "list") : False := by
  obtain ⟨p, m, rfl⟩ := oq e
  have q := List.all_eq_true.mp h _ m
  simp only [c] at q
  simp at q
def ye (F : List PyData → R PyData) : Prop := ∀ ns : List Int, ns.length ≤ 63 → F [.list (ns.map .int)] = .ok (.bool true)
theorem E3 {l : PySem.W.OpenLaw} {q : Program} {loose : List Str} {XP : (Str → Option Value) → Heap → Prop} {YP : World → Heap → Prop} {d : DefRec} {K : Params → PySem.W.Frag} {k : Nat} {x : Str} {F : List PyData → R PyData} (hn : l.most = some 63) (hdf : d.params.defaults = [])
    (hr : eJ k callerA) (hY : ∀ (w : World) (h : Heap), YP w h → (K w.params).In h) (hF : ye F)
    (G : ∀ (w : World) (mg : Str → Option Value) (fa : Addr) (h : Heap), (K w.params).In h → h.Ns mainGlobals mg → mg d.name = some (.ref fa) →
      nH (K w.params) = true ∧ ∃ fd : FuncData, (∀ (s : Shared) (u : Value), BindsTo s fd ⟨[u], []⟩ [(x, u)]) ∧ ∀ base : Heap, (K w.params).In base → base.Ns mainGlobals mg → aY l.prog w (K w.params) mg base (cI l.prog w mg) k fa fd [x] (di F 1)) :
    PySem.W.WalkO q loose XP YP l.row.toRowW d [] (fun f vs => PySem.call f vs) := by
  refine Att.attach_call hn hdf fun w s₀ s₁ mg mb fa o pm cd doc a vs ns G0 Y ho hd hcd hmg hobj hints hlen hg => ?_
  have KX := hY w _ Y
  obtain ⟨nl, fd, hb, hG⟩ := G w mg fa _ KX G0.T.g hmg
  refine L2.xK (sp := di F 1) KX G0.T.g G0.T.b G0.T.builtins G0.T.nolimit hg hobj hints (Nat.le_trans hlen (by decide)) hr hG hb (fun H hO hS => ?_) fun H e s' ⟨_, _, _, _, _, z⟩ => z
  refine ⟨[.list (ns.map .int)], bw.cons ?_ bw.nil, rfl, ?_⟩
  · rcases hS with (h | ⟨o, h⟩) | ⟨o, its, n, h, c, _⟩
    · rcases hO a with z | ⟨o, xs, z⟩
      · rw [z] at h; cases h
      · rw [z] at h; cases h
    · simp only [Rp]
      exact ⟨a, o, _, rfl, h, bw.ints ns⟩
    · exact (t9 nl h c).elim
  · rw [hF ns hlen]
    intro v H' _ r
    simpa only [Rp] using r
@[simp] theorem cf {α : Type} (a : α) : mH (R.ok a) = .ok a := (rfl)
def BO : xk → R PyData
  | .rt d => .ok d
  | .nx _ => .ok .none
  | _ => .no
theorem fu (n : Nat) (g : Fs) (ds : List PyData) : dF n g ds = (g (ds.map ba.val ++ List.replicate (n - ds.length) .non) >>= BO) := by
  unfold dF
  congr 1
@[simp] theorem Es (d : PyData) : BO (.rt d) = .ok d := (rfl)
section
variable (f g h : Fe) (ρ : aN) (i j : Nat) (t u : aN → R Bool) (a b : Fs) (fs : aN → R (List PyData)) (F : List PyData → R PyData) (d e : PyData)
@[simp] theorem bB : eC d ρ = .ok d := (rfl)
@[simp] theorem ak : ad 0 (.val d :: ρ) = .ok d := (rfl)
@[simp] theorem am (c : ba) : ad (i + 1) (c :: ρ) = ad i ρ := (rfl)
@[simp] theorem gW : cV 0 (.own d :: ρ) = .ok d := (rfl)
@[simp] theorem gX (c : ba) : cV (i + 1) (c :: ρ) = cV i ρ := (rfl)
@[simp] theorem bW (k : PyData → R PyData) : e1 k f ρ = (f ρ >>= fun x => k x) := (rfl)
@[simp] theorem bj (k : PyData → PyData → R PyData) : e2 k f g ρ = (f ρ >>= fun x => g ρ >>= fun y => k x y) := (rfl)
@[simp] theorem cv : tE f ρ = (f ρ >>= sY) := (rfl)
@[simp] theorem cL (k : Bool) : sY (.bool k) = .ok k := (rfl)
@[simp] theorem sG : mM t u ρ = (t ρ >>= fun k => if k = true then u ρ else .ok false) := (rfl)
@[simp] theorem jR : nv t u ρ = (t ρ >>= fun k => if k = true then .ok true else u ρ) := (rfl)
@[simp] theorem fR : iy t ρ = (t ρ >>= fun k => .ok (!k)) := (rfl)
@[simp] theorem Em : wc f g ρ = (f ρ >>= fun d => sY d >>= fun k => if k = true then g ρ else .ok (.bool false)) := (rfl)
@[simp] theorem EJ : Et f g ρ = (f ρ >>= fun d => sY d >>= fun k => if k = true then .ok (.bool true) else g ρ) := (rfl)
@[simp] theorem tV : AV t f g ρ = (t ρ >>= fun k => if k = true then f ρ else g ρ) := (rfl)
@[simp] theorem aP : aH ρ = .ok [] := (rfl)
@[simp] theorem aL : af f fs ρ = (f ρ >>= fun d => fs ρ >>= fun ds => .ok (d :: ds)) := (rfl)
@[simp] theorem aX : aI F fs ρ = (fs ρ >>= F) := (rfl)
@[simp] theorem CS (p q : PyData → PyData → R PyData) : ou p q f g h ρ = (f ρ >>= fun x => g ρ >>= fun y => p x y >>= fun d => sY d >>= fun k => if k = true then h ρ >>= fun z => q y z else .ok (.bool false)) := (rfl)
@[simp] theorem nK : qt fs ρ = (fs ρ >>= fun ds => if ds.length ≤ sizeLine then .ok (.tuple ds) else .no) := (rfl)
@[simp] theorem vc : lv fs ρ = (fs ρ >>= fun ds => if ds.length ≤ sizeLine then .ok (.list ds) else .no) := (rfl)
@[simp] theorem rS : n9 ρ = .ok none := (rfl)
@[simp] theorem rX : nQ f ρ = (f ρ >>= fun d => Ex d >>= fun i => .ok (some i)) := (rfl)
@[simp] theorem Br (k : Int) : Ex (.int k) = .ok k := (rfl)
@[simp] theorem yh (lo hi : Fo) : Cd f lo hi ρ = (f ρ >>= fun d => lo ρ >>= fun l => hi ρ >>= fun u => Bf d l u) := (rfl)
@[simp] theorem rZ : dB ρ = .ok (.nx ρ) := (rfl)
@[simp] theorem vF : aT a b ρ = (a ρ >>= vC b) := (rfl)
@[simp] theorem Df : vC b (.nx ρ) = b ρ := (rfl)
@[simp] theorem Di : vC b (.rt d) = .ok (.rt d) := (rfl)
@[simp] theorem du : lI t a b ρ = (t ρ >>= fun k => if k = true then a ρ else b ρ) := (rfl)
@[simp] theorem ci : cF f ρ = (f ρ >>= fun d => .ok (.rt d)) := (rfl)
@[simp] theorem bp : bQ i f ρ = (f ρ >>= fun d => .ok (.nx (ρ.set i (.val d)))) := (rfl)
@[simp] theorem nJ : gH i f ρ = (f ρ >>= fun d => .ok (.nx (ρ.set i (.own d)))) := (rfl)
@[simp] theorem bX : eB f ρ = (f ρ >>= iA) := (rfl)
@[simp] theorem mB : h8 fs ρ = (fs ρ >>= pd) := (rfl)
@[simp] theorem cH (ds : List PyData) : iA (.tuple ds) = .ok ds := (rfl)
@[simp] theorem uP (ds : List PyData) : iA (.list ds) = .ok ds := (rfl)
@[simp] theorem eE : ia a ρ = mH (a ρ) := (rfl)
theorem fG (it : aN → R (List PyData)) (bb : PyData → aN → Option aN) : i9 it bb a ρ = (it ρ >>= fun ds => eS bb a ds ρ) := rfl
@[simp] theorem fP (bb : PyData → aN → Option aN) : eS bb a [] ρ = .ok (.nx ρ) := by unfold eS; rfl
def sD (k : aN → R xk) : xk → R xk
  | .nx ρ => k ρ
  | .ct ρ => k ρ
  | .bk ρ => .ok (.nx ρ)
  | .rt r => .ok (.rt r)
@[simp] theorem dh (k : aN → R xk) : sD k (.nx ρ) = k ρ := (rfl)
theorem eP (i : Nat) (ds : List PyData) : eS (aS i) a (d :: ds) ρ = (a (ρ.set i (.val d)) >>= sD (eS (aS i) a ds)) := by
  rw [eS]
  show (a (ρ.set i (.val d)) >>= _) = _
  congr 1
theorem wK (i j : Nat) (x y : PyData) (ds : List PyData) : eS (cK i j) a (.tuple [x, y] :: ds) ρ = (a ((ρ.set i (.val x)).set j (.val y)) >>= sD (eS (cK i j) a ds)) := by
  rw [eS]
  show (a ((ρ.set i (.val x)).set j (.val y)) >>= _) = _
  congr 1
theorem aJ {a b : Fs} {ρ ρ' : aN} (h : a ρ = .ok (.nx ρ')) : aT a b ρ = b ρ' := by rw [vF, h]; rfl
theorem uB {a b : Fs} {ρ : aN} {d : PyData} (h : a ρ = .ok (.rt d)) : aT a b ρ = .ok (.rt d) := by rw [vF, h]; rfl
theorem dY {n : Nat} {g : Fs} {ds : List PyData} {d : PyData} (h : g (ds.map ba.val ++ List.replicate (n - ds.length) .non) = .ok (.rt d)) : dF n g ds = .ok d := by rw [fu, h]; rfl
theorem cB (bb : PyData → aN → Option aN) : bE bb t f ρ [] = .ok [] := by unfold bE; rfl
theorem eL (i : Nat) (ds : List PyData) : bE (aS i) t f ρ (d :: ds) = (t (ρ.set i (.val d)) >>= fun k => if k = true then f (ρ.set i (.val d)) >>= fun x => bE (aS i) t f ρ ds >>= fun xs => .ok (x :: xs) else bE (aS i) t f ρ ds) := by
  rw [bE]; rfl
theorem gF (i j : Nat) (x y : PyData) (ds : List PyData) : bE (cK i j) t f ρ (.tuple [x, y] :: ds) = (t ((ρ.set i (.val x)).set j (.val y)) >>= fun k => if k = true then f ((ρ.set i (.val x)).set j (.val y)) >>= fun x => bE (cK i j) t f ρ ds >>= fun xs => .ok (x :: xs) else bE (cK i j) t f ρ ds) := by
  rw [bE]; rfl
theorem yo (i j k : Nat) (x y z : PyData) (ds : List PyData) : eS (si i j k) a (.tuple [x, y, z] :: ds) ρ = (a (((ρ.set i (.val x)).set j (.val y)).set k (.val z)) >>= sD (eS (si i j k) a ds)) := by
  rw [eS]
  show (a (((ρ.set i (.val x)).set j (.val y)).set k (.val z)) >>= _) = _
  congr 1
@[simp] theorem yN : pW f g h ρ = (f ρ >>= fun x => g ρ >>= fun y => h ρ >>= fun z => mY x >>= fun xs => mY y >>= fun ys => mY z >>= fun zs => .ok (fL xs ys zs)) := (rfl)
@[simp] theorem Ck (ds : List PyData) : mY (.tuple ds) = .ok ds := (rfl)
@[simp] theorem yf : va fs ρ = (fs ρ >>= CV .tuple) := (rfl)
theorem Dl {mk : List PyData → PyData} {n : Int} (h0 : 0 ≤ n) (h1 : n ≤ 1000000) : CV mk [.int n] = .ok (mk (bG 0 n.toNat)) := by
  show (if n ≤ 16777216 ∧ -(2 ^ 62) ≤ n then R.ok (mk (bG 0 n.toNat)) else .no) = _
  rw [if_pos (by omega)]
@[simp] theorem pP (x y : PyData) (e : f ρ = .ok (.tuple [x, y])) : uf (cK i j) f ρ = .ok (.nx ((ρ.set i (.val x)).set j (.val y))) := by unfold uf; rw [e]; rfl
@[simp] theorem Ar (op : Int → Int → Int) : tG i op f ρ = (ad i ρ >>= fun x => f ρ >>= fun y => Er op x y >>= fun z => .ok (.nx (ρ.set i (.val z)))) := (rfl)
@[simp] theorem Ei (op : Int → Int → Int) (m n : Int) : Er op (.int m) (.int n) = .ok (.int (op m n)) := (rfl)
theorem nC {ρ : aN} {i : Nat} {ds : List PyData} {fk fv : Fe} {n : Int} {v : PyData} (h : ρ[i]? = some (.own (.list ds))) (hk : fk ρ = .ok (.int n)) (hv : fv ρ = .ok v) (h0 : 0 ≤ n) (h1 : n < ds.length) : gN i fk fv ρ = .ok (.nx (ρ.set i (.own (.list (ds.set n.toNat v))))) := by
  unfold gN
  rw [hv, hk, h]
  simp only [mH, R.ok_bind]
  have : L2.vo ds.length n = some n.toNat := by unfold L2.vo; rw [if_pos h0, if_pos h1]
  rw [this]
@[simp] theorem vi : uS f g ρ = (f ρ >>= fun x => g ρ >>= fun y => iA x >>= fun xs => iA y >>= fun ys => .ok (gt xs ys)) := (rfl)
@[simp] theorem jy : lx f ρ = (f ρ >>= fun x => iA x >>= fun xs => .ok (cG 0 xs)) := (rfl)
theorem jN {ρ : aN} {i : Nat} {ds : List PyData} (f : Fe) (h : ρ[i]? = some (.own (.list ds))) (hz : ds.length < sizeLine) : cr i f ρ = (mH (f ρ) >>= fun d => .ok (.nx (ρ.set i (.own (.list (ds ++ [d])))))) := by
  unfold cr
  congr 1
  funext d
  rw [h]
  exact if_pos hz
def D5 : R (List PyData) → R PyData
  | .ok xs => .ok (.list xs)
  | .ex c => .ex c
  | .no => .no
@[simp] theorem gK (xs : List PyData) : D5 (.ok xs) = .ok (.list xs) := (rfl)
theorem bi (it : aN → R (List PyData)) (own : Nat) (fr : List Nat) (bb : PyData → aN → Option aN) : bL it own fr bb t f ρ = (mH (it ρ) >>= fun ds => if ds.length ≤ sizeLine then D5 (bE bb t f (aB own fr ρ) ds) else .no) := by
  unfold bL
  congr 1
theorem eN (i : Nat) (G : PyData → PyData) : ∀ (ds : List PyData), (∀ d ∈ ds, f (ρ.set i (.val d)) = .ok (G d)) → bE (aS i) (fun _ => .ok true) f ρ ds = .ok (ds.map G)
  | [], _ => cB ..
  | d :: ds, hh => by
    rw [eL, hh d List.mem_cons_self, eN i G ds fun x hx => hh x (List.mem_cons_of_mem _ hx)]
    rfl
end
section
variable (i j : Int) (xs ys : List PyData)
@[simp] theorem EF : fO (.int i) (.int j) = .ok (.int (i + j)) := (rfl)
@[simp] theorem yr : fO (.tuple xs) (.tuple ys) = if xs.length + ys.length ≤ sizeLine then .ok (.tuple (xs ++ ys)) else .no := (rfl)
@[simp] theorem uO : nz (.int i) (.int j) = .ok (.int (i - j)) := (rfl)
@[simp] theorem qv : fx (.int i) (.int j) = if 0 < j then .ok (.int (i % j)) else .no := (rfl)
@[simp] theorem BJ : lA (.int i) (.int j) = if 0 < j ∧ j < 1073741824 then .ok (.int (i / j)) else .no := (rfl)
theorem CO : fW (.int i) (.int j) = if (-(2 ^ 64) < i ∧ i < 2 ^ 64) ∨ (-(2 ^ 64) < j ∧ j < 2 ^ 64) then .ok (.int (i * j)) else .no := rfl
@[simp] theorem oP (p : Int → Int → Bool) : fD p (.int i) (.int j) = .ok (.bool (p i j)) := (rfl)
@[simp] theorem E4 : zQ (.int i) (.int j) = .ok (.int (if j < i then j else i)) := (rfl)
@[simp] theorem E8 : Aa (.int i) (.int j) = .ok (.int (if j > i then j else i)) := (rfl)
@[simp] theorem kD : dE (.tuple xs) = .ok (.int xs.length) := (rfl)
@[simp] theorem n8 : dE (.list xs) = .ok (.int xs.length) := (rfl)
@[simp] theorem jt : cs (.list xs) = .ok (.tuple xs) := (rfl)
@[simp] theorem zY : p8 (.tuple xs) = .ok (.list xs) := (rfl)
@[simp] theorem E7 (k : Bool) : A4 (.bool k) = .ok (.int (if k then 1 else 0)) := (rfl)
@[simp] theorem Dw (lo hi : Option Int) : Bf (.tuple xs) lo hi = .ok (.tuple (nc xs lo hi)) := (rfl)
@[simp] theorem Dc (lo hi : Option Int) : Bf (.list xs) lo hi = .ok (.list (nc xs lo hi)) := (rfl)
theorem qE {α : Type} {xs : List α} {i : Int} (h0 : 0 ≤ i) (h1 : i < xs.length) : L2.atI xs i = some (xs[i.toNat]'(by omega)) := by
  unfold L2.atI vo
  rw [if_pos h0, if_pos h1]
  exact List.getElem?_eq_getElem (by omega)
theorem u6 {xs : List PyData} {i : Int} (h0 : 0 ≤ i) (h1 : i < xs.length) : bx (.tuple xs) (.int i) = .ok (xs[i.toNat]'(by omega)) := by
  show (match L2.atI xs i with | some d => R.ok d | none => .no) = _
  rw [qE h0 h1]
theorem vK {xs : List PyData} {i : Int} (h0 : 0 ≤ i) (h1 : i < xs.length) : bx (.list xs) (.int i) = .ok (xs[i.toNat]'(by omega)) := by
  show (match L2.atI xs i with | some d => R.ok d | none => .no) = _
  rw [qE h0 h1]
theorem u8 : PyData.eqv (.int i) (.int j) = decide (i = j) := by
  simp only [PyData.eqv]
  by_cases h : i = j
  · subst h; simp
  · simp [h]
theorem fM : iY (.int i) (.int j) = .ok (.bool (decide (i = j))) := by
  unfold iY
  rw [if_pos (by rfl), u8]
theorem sQ : w5 (.int i) (.int j) = .ok (.bool (!decide (i = j))) := by
  unfold w5
  rw [if_pos (by rfl), u8]
end
end D2
namespace G
open PySem PySem.Spec PyProof.Rows L2 D2
def Dr : PyData → Bool
  | .int _ => true
  | _ => false
def noD : PyData → Prop
  | .dict _ => False
  | _ => True
def sV (d : PyData) (lo hi : Int) : Bool := match d with
  | .int i => decide (lo ≤ i) && decide (i ≤ hi)
  | _ => false
abbrev ic (d : PyData) : Prop := d.canLay0 = true
theorem ic.noD {d : PyData} (h : ic d) : noD d := by
  cases d <;> first | trivial | (simp [ic, PyData.canLay0] at h)
theorem vB : ∀ {ds : List PyData}, PyData.canLayAll0 ds = true → ∀ x ∈ ds, ic x
  | [], _, x, hx => by cases hx
  | d :: ds, h, x, hx => by
    have h' : d.canLay0 = true ∧ PyData.canLayAll0 ds = true := by simpa [PyData.canLayAll0] using h
    rcases List.mem_cons.mp hx with rfl | hx
    · exact h'.1
    · exact vB h'.2 x hx
theorem ls : ∀ {ds : List PyData}, (∀ x ∈ ds, ic x) → PyData.canLayAll0 ds = true
  | [], _ => by simp [PyData.canLayAll0]
  | d :: ds, h => by
    have h1 := h d List.mem_cons_self
    have h2 := ls fun x hx => h x (List.mem_cons_of_mem _ hx)
    simp only [PyData.canLayAll0, Bool.and_eq_true]
    exact ⟨h1, h2⟩
theorem kQ {ds : List PyData} : ic (.tuple ds) ↔ ∀ x ∈ ds, ic x := by
  constructor
  · intro h; exact vB (by simpa [ic, PyData.canLay0] using h)
  · intro h; simp only [ic, PyData.canLay0]; exact ls h
theorem r8 (i : Int) : ic (.int i) := by simp [ic, PyData.canLay0]
theorem xc : ic .none := by simp [ic, PyData.canLay0]
theorem nD (p : PyData → Bool) : ∀ ds : List PyData, D2.la (ds.map fun d => .bool (p d)) = some (ds.all p)
  | [] => rfl
  | d :: ds => by
    simp only [List.map_cons, D2.la, nD p ds, List.all_cons, Option.map_some]
theorem bD {n : Nat} (h : n ≤ 1000) : n ≤ sizeLine := Nat.le_trans h (by decide)
abbrev rn (ns : List Int) : PyData := .list (ns.map .int)
theorem iM {i j : Int} (h : (-(2 ^ 64) < i ∧ i < 2 ^ 64) ∨ (-(2 ^ 64) < j ∧ j < 2 ^ 64)) : fW (.int i) (.int j) = .ok (.int (i * j)) := by rw [CO, if_pos h]
structure tu (c : Int) (n : Nat) (kvs : List (PyData × PyData)) : Prop where
  ex : ∃ ns : List Int, kvs.map (·.1) = ns.map PyData.int ∧ (∀ x ∈ ns, 0 ≤ x ∧ x < c) ∧ ns.length ≤ n ∧ (n = 0 ∨ ns ≠ []) ∧ ns.Nodup
theorem tu.put {c : Int} {n : Nat} {kvs : List (PyData × PyData)} (h : tu c n kvs) {k : Int} (h0 : 0 ≤ k) (h1 : k < c) (v : PyData) : tu c (n + 1) (ua kvs (.int k) v) := by
  obtain ⟨ns, e, hb, hl, hn, nd⟩ := h.ex
  have hany : (kvs.any fun kv => gZ kv.1 (.int k)) = ns.any fun i => decide (i = k) := by
    have : (kvs.any fun kv => gZ kv.1 (.int k)) = (kvs.map (·.1)).any fun d => gZ d (.int k) := by rw [List.any_map]; rfl
    rw [this, e, List.any_map]; rfl
  unfold ua
  rw [hany]
  by_cases hm : k ∈ ns
  · have ha : (ns.any fun i => decide (i = k)) = true := by simp; exact hm
    rw [if_pos ha]
    refine ⟨ns, ?_, hb, by omega, .inr (by intro z; rw [z] at hm; cases hm), nd⟩
    rw [← e, List.map_map]
    apply List.map_congr_left
    intro kv _
    show (if gZ kv.1 (.int k) = true then (kv.1, v) else kv).1 = kv.1
    split <;> rfl
  · have ha : ¬ (ns.any fun i => decide (i = k)) = true := by simp; exact hm
    rw [if_neg ha]
    refine ⟨ns ++ [k], by rw [List.map_append, List.map_append, e]; rfl, fun x hx => ?_, by simp; omega, .inr (by simp), ?_⟩
    · rcases List.mem_append.mp hx with z | z
      · exact hb x z
      · simp at z; subst z; exact ⟨h0, h1⟩
    · rw [List.nodup_append]
      refine ⟨nd, by simp, fun a hma b hb' => ?_⟩
      simp at hb'
      subst hb'
      rintro rfl
      exact hm hma
theorem tu.len {c : Int} {n : Nat} {kvs : List (PyData × PyData)} (h : tu c n kvs) : kvs.length ≤ n := by
  obtain ⟨ns, e, _, hl, _⟩ := h.ex
  have := congrArg List.length e
  simp at this
  omega
theorem r0 (lo : Int) (n : Nat) : ∀ d ∈ bG lo n, ∃ k, d = .int k := fun d hd => by
  unfold bG at hd
  obtain ⟨k, _, rfl⟩ := List.mem_map.mp hd
  exact ⟨_, rfl⟩
theorem gG (lo : Int) (n : Nat) : (bG lo n).length = n := by unfold bG; simp
theorem z0 {xs : List PyData} {i : Int} (h0 : 0 ≤ i) (h1 : i < xs.length) : ∃ x ∈ xs, bx (.list xs) (.int i) = .ok x := ⟨_, List.getElem_mem _, vK h0 h1⟩
structure P4 where
  w : Int
  m : Int
  g : Int
  ns : List Int
def P4.d (p : P4) : PyData := .tuple [.int p.w, .int p.m, .int p.g, .tuple (p.ns.map .int)]
structure Pl (c hi : Int) (p : P4) : Prop where
  w0 : 0 ≤ p.w
  w1 : p.w ≤ 1
  m0 : 0 ≤ p.m
  m1 : p.m ≤ hi
  g0 : -20 ≤ p.g
  g1 : p.g ≤ 20
  ne : p.ns ≠ []
  so : p.ns.Pairwise (· < ·)
  inn : ∀ x ∈ p.ns, 0 ≤ x ∧ x < c
theorem kA : ∀ (ns : List Int) (l c : Int), ns.Pairwise (· < ·) → (∀ x ∈ ns, l ≤ x ∧ x < c) → ns = [] ∨ l + (ns.length : Int) ≤ c
  | [], _, _, _, _ => .inl rfl
  | x :: r, l, c, hp, hb => by
    right
    obtain ⟨h1, h2⟩ := List.pairwise_cons.mp hp
    have hx := hb x List.mem_cons_self
    rcases kA r (x + 1) c h2 (fun y hy => ⟨by have := h1 y hy; omega, (hb y (List.mem_cons_of_mem _ hy)).2⟩) with rfl | z
    · simp; omega
    · rw [List.length_cons]; omega
theorem Pl.len {c hi : Int} {p : P4} (h : Pl c hi p) : (p.ns.length : Int) ≤ c := by
  rcases kA p.ns 0 c h.so h.inn with z | z
  · exact absurd z h.ne
  · omega
abbrev gD (ps : List P4) : PyData := .tuple (ps.map P4.d)
theorem xi {ns : List Int} (h : ns.Pairwise (· ≤ ·)) (nd : ns.Nodup) : ns.Pairwise (· < ·) := by
  have := h.and nd
  exact this.imp fun ⟨a, b⟩ => by omega
end G
noncomputable section
namespace G
open PySem PySem.Spec PyProof.Rows L2 D2
def jA : Fs :=
  (aT (bQ 2 (e2 fx (e2 fW (e2 fO (e2 fO (ad 0) (e2 fW (eC (.int 104729)) (ad 1))) (eC (.int 17))) (eC (.int 69621))) (eC (.int 2147483647)))) (cF (e2 fx (e2 fO (e2 fO (e2 fW (ad 2) (ad 2)) (e2 fW (eC (.int 3)) (ad 2))) (ad 1)) (eC (.int 2147483629)))))
def az : List PyData → R PyData := dF 3 (jA)
def iJ (az : List PyData → R PyData) : Fs :=
  (aT (gH 4 (lv aH)) (aT (ia (i9 (lx (ad 0)) (cK 5 6) (aT (bQ 7 (aI az (af (ad 2) (af (ad 5) aH)))) (lI (nv (tE (e2 (w5) (e2 bx (ad 6) (eC (.int 0))) (ad 1))) (mM (tE (e2 (fD pC) (ad 3) (eC (.int 0)))) (tE (e2 (iY) (e2 fx (ad 7) (ad 3)) (eC (.int 0)))))) (cr 4 (eC .none)) (cr 4 (e2 bx (e2 bx (ad 6) (eC (.int 3))) (e2 fx (e2 lA (ad 7) (eC (.int 7))) (e1 dE (e2 bx (ad 6) (eC (.int 3))))))))))) (cF (e1 cs (cV 4)))))
def cc : List PyData → R PyData := dF 8 (iJ az)
def h7 : Fs :=
  (aT (lI (tE (e2 (fD E0) (ad 1) (e1 dE (ad 0)))) (cF (e2 bx (ad 0) (ad 1))) dB) (cF (eC (.int 0))))
def cb : List PyData → R PyData := dF 2 (h7)
def jC (cb : List PyData → R PyData) : Fs :=
  (aT (bQ 2 (e2 fx (e2 fW (e2 fO (e2 fO (aI cb (af (ad 0) (af (ad 1) aH))) (e2 fW (eC (.int 7919)) (ad 1))) (eC (.int 1))) (eC (.int 48271))) (eC (.int 2147483647)))) (cF (e2 fx (e2 fO (e2 fO (e2 fW (ad 2) (ad 2)) (e2 fW (eC (.int 7)) (ad 2))) (ad 1)) (eC (.int 2147483629)))))
def bf : List PyData → R PyData := dF 3 (jC cb)
def jm (az : List PyData → R PyData) : Fs :=
  (aT (gH 2 (eC (.dict []))) (aT (ia (i9 (h8 (af (e2 fO (e2 fO (eC (.int 1)) (e2 fx (ad 0) (eC (.int 3)))) (e2 fW (eC (.int 20)) (e1 A4 (e2 (iY) (e2 fx (e2 lA (ad 0) (eC (.int 3))) (eC (.int 29))) (eC (.int 7)))))) aH)) (aS 3) (x9 2 (e2 fx (aI az (af (ad 0) (af (ad 3) aH))) (ad 1)) (eC (.bool true))))) (cF (e1 cs (e1 jX (cV 2))))))
def cM : List PyData → R PyData := dF 4 (jm az)
def jB (az : List PyData → R PyData) (cM : List PyData → R PyData) : Fs :=
  (aT (bQ 3 (e2 nz (e2 fx (e2 lA (ad 0) (eC (.int 26))) (eC (.int 9))) (eC (.int 4)))) (aT (lI (tE (e2 (iY) (e2 fx (e2 lA (ad 0) (eC (.int 234))) (eC (.int 11))) (eC (.int 3)))) (bQ 3 (e2 nz (e2 fx (e2 lA (ad 0) (eC (.int 26))) (eC (.int 41))) (eC (.int 20)))) dB) (cF (qt (af (e2 fx (ad 0) (eC (.int 2))) (af (e2 fx (e2 lA (ad 0) (eC (.int 2))) (e2 fO (ad 2) (eC (.int 1)))) (af (ad 3) (af (aI cM (af (aI az (af (ad 0) (af (eC (.int 9)) aH))) (af (ad 1) aH))) aH))))))))
def cx : List PyData → R PyData := dF 4 (jB az cM)
def iE (bf : List PyData → R PyData) (cx : List PyData → R PyData) : Fs :=
  (aT (bQ 2 (aI bf (af (ad 0) (af (eC (.int 0)) aH)))) (aT (bQ 3 (e2 fO (eC (.int 1)) (e2 fx (ad 2) (e2 zQ (ad 1) (e2 Aa (eC (.int 4)) (e1 dE (ad 0))))))) (aT (bQ 4 (e2 bx (lv (af (eC (.int 1)) (af (eC (.int 2)) (af (eC (.int 3)) (af (eC (.int 5)) (af (eC (.int 12)) (af (eC (.int 12)) aH))))))) (e2 fx (e2 lA (ad 2) (eC (.int 24))) (eC (.int 6))))) (cF (e1 cs (bL (h8 (af (ad 3) aH)) 1 [0, 3, 4] (aS 0) (fun _ => .ok true) (aI cx (af (aI bf (af (ad 1) (af (e2 fO (eC (.int 3)) (ad 0)) aH))) (af (ad 2) (af (ad 3) aH))))))))))
def cn : List PyData → R PyData := dF 5 (iE bf cx)
def nT : Fs :=
  (cF (wc (e1 (ju .int) (ad 0)) (BG (e1 (ju .bool) (ad 0)))))
def bU : List PyData → R PyData := dF 1 (nT)
def iL (bU : List PyData → R PyData) : Fs :=
  (cF (wc (aI bU (af (ad 0) aH)) (ou (fD Fv) (fD Fv) (ad 1) (ad 0) (ad 2))))
def cu : List PyData → R PyData := dF 3 (iL bU)
def dJ (cu : List PyData → R PyData) : Fs :=
  (cF (aI cu (af (ad 0) (af (eC (.int 0)) (af (e2 nz (e1 dE (ad 1)) (eC (.int 1))) aH)))))
def aA : List PyData → R PyData := dF 2 (dJ cu)
def jT (aA : List PyData → R PyData) : Fs :=
  (aT (lI (nv (iy (tE (e1 (ju .tuple) (ad 0)))) (tE (e2 (iY) (e1 dE (ad 0)) (eC (.int 0))))) (cF (eC (.bool false))) dB) (aT (lI (iy (tE (e1 lP (bL (eB (ad 0)) 1 [1] (aS 0) (fun _ => .ok true) (aI aA (af (ad 0) (af (ad 1) aH))))))) (cF (eC (.bool false))) dB) (aT (bQ 2 (e2 fO (Cd (ad 0) (nQ (eC (.int 1))) n9) (Cd (ad 0) n9 (nQ (eC (.int 1)))))) (cF (e1 lP (bL (uS (ad 0) (ad 2)) 2 [1] (cK 0 1) (fun _ => .ok true) (e2 (lH false) (ad 1) (e2 bx (e2 bx (ad 2) (ad 0)) (eC (.int 3))))))))))
def cU : List PyData → R PyData := dF 3 (jT aA)
def nY (cU : List PyData → R PyData) : Fs :=
  (aT (lI (iy (tE (aI cU (af (ad 1) (af (ad 0) aH))))) (kN (PySem.Str.ofString "NoPart") (eC (.str (PySem.Str.ofString "this is no ring of places")))) dB) (cF (e2 fx (e1 pb (bL (eB (ad 1)) 1 [0] (aS 0) (fun _ => .ok true) (e2 bx (e2 bx (ad 1) (ad 0)) (eC (.int 1))))) (eC (.int 2)))))
def eu : List PyData → R PyData := dF 2 (nY cU)
def mC (bU : List PyData → R PyData) : Fs :=
  (cF (Et (e2 (jc) (ad 0) (eC .none)) (wc (aI bU (af (ad 0) aH)) (e2 (lH false) (ad 0) (e2 bx (ad 1) (eC (.int 3)))))))
def dl : List PyData → R PyData := dF 2 (mC bU)
def jk (dl : List PyData → R PyData) : Fs :=
  (aT (lI (nv (iy (tE (e1 (ju .tuple) (ad 0)))) (tE (e2 (w5) (e1 dE (ad 0)) (e1 dE (ad 1))))) (cF (eC (.bool false))) dB) (cF (e1 lP (bL (uS (ad 0) (ad 1)) 2 [] (cK 0 1) (fun _ => .ok true) (aI dl (af (ad 0) (af (ad 1) aH)))))))
def cw : List PyData → R PyData := dF 2 (jk dl)
def eT : Fs :=
  (aT (bQ 3 (qt (af (ad 1) (af (ad 2) aH)))) (cF (e1 cs (bL (lx (ad 0)) 2 [3] (cK 0 1) (fun _ => .ok true) (e2 bx (e2 bx (ad 2) (e2 bx (ad 1) (eC (.int 0)))) (ad 0))))))
def bq : List PyData → R PyData := dF 4 (eT)
def lU (cw : List PyData → R PyData) (aA : List PyData → R PyData) (bq : List PyData → R PyData) : Fs :=
  (aT (lI (nv (iy (tE (aI cw (af (ad 1) (af (ad 0) aH))))) (iy (tE (aI cw (af (ad 2) (af (ad 0) aH)))))) (kN (PySem.Str.ofString "NoMoves") (eC (.str (PySem.Str.ofString "one of both is no moves")))) dB) (aT (bQ 4 (aI bq (af (ad 0) (af (ad 1) (af (ad 2) aH))))) (aT (lI (tE (e2 (lH false) (eC .none) (ad 4))) (kN (PySem.Str.ofString "NoMoves") (eC (.str (PySem.Str.ofString "a place has no move by its own player's moves")))) dB) (aT (lI (iy (tE (aI aA (af (ad 3) (af (ad 0) aH))))) (kN (PySem.Str.ofString "NoPart") (eC (.str (PySem.Str.ofString "start is no place")))) dB) (aT (gH 5 (lv aH)) (aT (bQ 6 (ad 3)) (aT (ia (oG 1000000 (tE (e2 (lH true) (ad 6) (cV 5))) (aT (cr 5 (ad 6)) (bQ 6 (e2 bx (ad 4) (ad 6)))))) (aT (bQ 7 (qp (cV 5) (ad 6))) (cF (qt (af (e1 cs (Cd (cV 5) n9 (nQ (ad 7)))) (af (e1 cs (Cd (cV 5) (nQ (ad 7)) n9)) aH))))))))))))
def dn : List PyData → R PyData := dF 8 (lU cw aA bq)
def iF : Fs :=
  (cF (va (af (e1 dE (ad 0)) aH)))
def cq : List PyData → R PyData := dF 1 (iF)
def kF : Fs :=
  (cF (e1 cs (bL (lx (ad 0)) 2 [1] (cK 0 1) (fun _ => .ok true) (AV (tE (e2 (lH false) (ad 0) (ad 2))) (ad 1) (eC .none)))))
def cD : List PyData → R PyData := dF 2 (kF)
def ge : Fs :=
  (cF (e1 cs (bL (uS (ad 0) (ad 1)) 2 [] (cK 0 1) (fun _ => .ok true) (AV (tE (e2 (jc) (ad 0) (eC .none))) (ad 1) (ad 0)))))
def aC : List PyData → R PyData := dF 2 (ge)
def o9 : Fs :=
  (cF (e1 cs (bL (lx (ad 0)) 2 [] (cK 0 1) (tE (e2 (lE) (ad 1) (eC .none))) (ad 0))))
def bZ : List PyData → R PyData := dF 1 (o9)
def gc (bZ : List PyData → R PyData) : Fs :=
  (aT (gH 3 (bL (eB (ad 2)) 1 [] (aS 0) (fun _ => .ok true) (eC .none))) (aT (ia (i9 (eB (aI bZ (af (ad 2) aH))) (aS 4) (lI (mM (tE (e2 (iY) (e2 bx (e2 bx (ad 0) (ad 4)) (eC (.int 0))) (ad 1))) (tE (e2 (fD pC) (e2 bx (ad 2) (ad 4)) (eC (.int 0))))) (gN 3 (ad 4) (e2 bx (bL (eB (e2 bx (e2 bx (ad 0) (ad 4)) (eC (.int 3)))) 1 [2, 4] (aS 0) (tE (e2 (iY) (e2 bx (ad 1) (ad 0)) (e2 nz (e2 bx (ad 1) (ad 2)) (eC (.int 1))))) (ad 0)) (eC (.int 0)))) dB))) (cF (e1 cs (cV 3)))))
def aZ : List PyData → R PyData := dF 5 (gc bZ)
def nV : Fs :=
  (cF (e1 cs (bL (eB (ad 0)) 1 [1] (aS 0) (tE (e2 (lH false) (ad 0) (ad 1))) (ad 0))))
def ca : List PyData → R PyData := dF 2 (nV)
def je : Fs :=
  (aT (bQ 4 (bL (eB (ad 1)) 1 [3] (aS 0) (tE (e2 (lE) (e2 bx (ad 1) (ad 0)) (eC .none))) (ad 0))) (aT (lI (tE (e2 (iY) (e2 bx (ad 0) (eC (.int 0))) (ad 2))) (cF (e2 (fD pC) (e1 dE (ad 4)) (eC (.int 0)))) dB) (cF (e2 (iY) (e1 dE (ad 4)) (e1 dE (ad 1))))))
def bN : List PyData → R PyData := dF 5 (je)
def kH (ca : List PyData → R PyData) (bN : List PyData → R PyData) : Fs :=
  (aT (bQ 4 (bL (eB (ad 0)) 1 [1] (aS 0) (fun _ => .ok true) (aI ca (af (e2 bx (ad 0) (eC (.int 3))) (af (ad 1) aH))))) (aT (gH 5 (bL (h8 (af (e1 dE (ad 0)) aH)) 1 [3] (aS 0) (fun _ => .ok true) (AV (tE (e2 (lH false) (ad 0) (ad 1))) (eC (.int 0)) (eC .none)))) (aT (bQ 6 (eC (.int 0))) (aT (bQ 7 (e1 p8 (ad 3))) (aT (ia (oG 1000000 (tE (e2 (fD pC) (e1 dE (ad 7)) (eC (.int 0)))) (aT (tG 6 (fun a b => a + b) (eC (.int 1))) (aT (bQ 8 (bL (eB (ad 1)) 1 [5] (aS 0) (tE (e2 (jc) (e2 bx (cV 1) (ad 0)) (eC .none))) (ad 0))) (aT (bQ 7 (bL (eB (ad 8)) 1 [0, 4, 2, 5] (aS 0) (tE (kr 4 (aI bN (af (e2 bx (ad 1) (ad 0)) (af (e2 bx (ad 2) (ad 0)) (af (ad 3) (af (ad 4) aH))))))) (ad 0))) (ia (i9 (eB (ad 7)) (aS 9) (gN 5 (ad 9) (ad 6))))))))) (cF (e1 cs (cV 5))))))))
def cj : List PyData → R PyData := dF 10 (kH ca bN)
def ky : Fs :=
  (cF (e1 cs (bL (eB (ad 0)) 1 [] (aS 0) (fun _ => .ok true) (eC .none))))
def bM : List PyData → R PyData := dF 1 (ky)
def fZ (ca : List PyData → R PyData) (bM : List PyData → R PyData) : Fs :=
  (aT (gH 3 (e1 p8 (aI bM (af (ad 0) aH)))) (aT (ia (i9 (eB (ad 2)) (aS 4) (lI (tE (e2 (iY) (e2 bx (e2 bx (ad 0) (ad 4)) (eC (.int 0))) (ad 1))) (gN 3 (ad 4) (e2 bx (aI ca (af (e2 bx (e2 bx (ad 0) (ad 4)) (eC (.int 3))) (af (ad 2) aH))) (eC (.int 0)))) dB))) (cF (e1 cs (cV 3)))))
def bn : List PyData → R PyData := dF 5 (fZ ca bM)
def my : Fs :=
  (cF (e1 cs (bL (eB (ad 0)) 1 [1] (aS 0) (tE (e2 (lH true) (ad 0) (ad 1))) (ad 0))))
def bI : List PyData → R PyData := dF 2 (my)
def dU (cD : List PyData → R PyData) (aC : List PyData → R PyData) (aZ : List PyData → R PyData) (bZ : List PyData → R PyData) (cj : List PyData → R PyData) (bn : List PyData → R PyData) (aG : List PyData → R PyData) (bI : List PyData → R PyData) (c_Share : Addr) : Fs :=
  (aT (bQ 2 (e1 pb (bL (eB (ad 1)) 1 [0] (aS 0) (fun _ => .ok true) (e2 bx (e2 bx (ad 1) (ad 0)) (eC (.int 1)))))) (aT (bQ 3 (e2 fx (ad 2) (eC (.int 2)))) (aT (bQ 4 (e2 nz (eC (.int 1)) (ad 3))) (aT (bQ 5 (bL (eB (ad 1)) 1 [0, 2] (aS 0) (tE (e2 (iY) (e2 bx (e2 bx (ad 1) (ad 0)) (eC (.int 1))) (ad 2))) (ad 0))) (aT (bQ 6 (aI cj (af (ad 0) (af (ad 1) (af (ad 3) (af (ad 5) aH)))))) (aT (bQ 7 (aI aG (af (ad 0) (af (aI bI (af (ad 1) (af (aI bZ (af (ad 6) aH)) aH))) aH)))) (aT (bQ 8 (bL (lx (e2 bx (ad 7) (eC (.int 0)))) 2 [4] (cK 0 1) (tE (e2 (iY) (ad 1) (ad 2))) (ad 0))) (aT (lI (tE (e2 (iY) (e1 dE (ad 8)) (eC (.int 0)))) (aT (bQ 9 (aI aC (af (aI aZ (af (ad 0) (af (ad 3) (af (ad 6) aH)))) (af (e2 bx (ad 7) (eC (.int 1))) aH)))) (cF (qB c_Share ["who", "places", "moves"] (af (ad 3) (af (ad 1) (af (aI aC (af (ad 9) (af (aI bn (af (ad 0) (af (ad 3) (af (ad 1) aH)))) aH))) aH)))))) dB) (aT (bQ 6 (aI cj (af (ad 0) (af (ad 1) (af (ad 4) (af (ad 8) aH)))))) (aT (bQ 9 (aI aC (af (aI aZ (af (ad 0) (af (ad 4) (af (ad 6) aH)))) (af (aI cD (af (e2 bx (ad 7) (eC (.int 1))) (af (ad 8) aH))) aH)))) (cF (qB c_Share ["who", "places", "moves"] (af (ad 4) (af (aI bZ (af (ad 6) aH)) (af (ad 9) aH)))))))))))))))
def ed (aC : List PyData → R PyData) (bM : List PyData → R PyData) (c_Share : Addr) : Fs :=
  (aT (gH 2 (bL (eB (ad 0)) 1 [] (aS 0) (fun _ => .ok true) (eC .none))) (aT (bQ 3 (aI bM (af (ad 0) aH))) (aT (ia (i9 (eB (ad 1)) (aS 4) (aT (ia (i9 (eB (e1 (kc c_Share "places") (ad 4))) (aS 5) (gN 2 (ad 5) (e1 (kc c_Share "who") (ad 4))))) (bQ 3 (aI aC (af (ad 3) (af (e1 (kc c_Share "moves") (ad 4)) aH))))))) (cF (qt (af (e1 cs (cV 2)) (af (ad 3) aH)))))))
def aW (c_Share : Addr) : List PyData → R PyData := dF 6 (ed aC bM c_Share)
def dW (aU : List PyData → R PyData) (aW : List PyData → R PyData) (bI : List PyData → R PyData) (c_Share : Addr) : Fs :=
  (aT (gH 2 (lv aH)) (aT (bQ 3 (ad 1)) (aT (ia (oG 1000000 (tE (e2 (fD pC) (e1 dE (ad 3)) (eC (.int 0)))) (aT (bQ 4 (aI aU (af (ad 0) (af (ad 3) aH)))) (aT (cr 2 (ad 4)) (bQ 3 (aI bI (af (ad 3) (af (e1 (kc c_Share "places") (ad 4)) aH)))))))) (Dt 2 (cF (aI aW (af (ad 0) (af (ad 2) aH))))))))
def aG (c_Share : Addr) : Nat → List PyData → R PyData
  | 0 => fun _ => .no
  | k + 1 => dF 5 (dW (dF 10 (dU cD aC aZ bZ cj bn (aG c_Share k) bI c_Share)) (aW c_Share) bI c_Share)
def aU (c_Share : Addr) (k : Nat) : List PyData → R PyData := dF 10 (dU cD aC aZ bZ cj bn (aG c_Share k) bI c_Share)
def zc (cq : List PyData → R PyData) (aG : List PyData → R PyData) : Fs :=
  (cF (aI aG (af (ad 0) (af (aI cq (af (ad 0) aH)) aH))))
def lB (c_Share : Addr) : List PyData → R PyData := dF 1 (zc cq (aG c_Share 14))
def yA (cc : List PyData → R PyData) (az : List PyData → R PyData) (cn : List PyData → R PyData) (bf : List PyData → R PyData) (eu : List PyData → R PyData) (dn : List PyData → R PyData) (lB : List PyData → R PyData) : Fs :=
  (aT (bQ 1 (aI cn (af (ad 0) (af (eC (.int 24)) aH)))) (aT (uf (cK 2 3) (aI lB (af (ad 1) aH))) (aT (ia (i9 (h8 (af (eC (.int 4)) aH)) (aS 4) (aT (bQ 5 (bL (eB (qt (af (eC (.int 0)) (af (eC (.int 1)) aH)))) 1 [1, 0, 4] (aS 0) (fun _ => .ok true) (aI cc (af (ad 1) (af (ad 0) (af (aI az (af (aI bf (af (ad 2) (af (eC (.int 1)) aH))) (af (ad 3) aH))) (af (eC (.int 0)) aH))))))) (ia (i9 (h8 (af (e1 dE (ad 1)) aH)) (aS 6) (aT (bQ 7 (e2 bx (ad 2) (ad 6))) (aT (gH 8 (lv aH)) (aT (ia (i9 (pW (ad 1) (ad 3) (e2 bx (ad 5) (ad 7))) (si 9 10 11) (lI (nv (tE (e2 (jc) (ad 10) (eC .none))) (tE (e2 (w5) (e2 bx (ad 9) (eC (.int 0))) (ad 7)))) (cr 8 (ad 11)) (cr 8 (ad 10))))) (aT (bQ 12 (lv (af (e1 cs (cV 8)) (af (e2 bx (ad 5) (eC (.int 1))) aH)))) (aT (lI (tE (e2 (iY) (ad 7) (eC (.int 1)))) (bQ 12 (lv (af (e2 bx (ad 5) (eC (.int 0))) (af (e1 cs (cV 8)) aH)))) dB) (aT (uf (cK 13 14) (aI dn (af (ad 1) (af (e2 bx (ad 12) (eC (.int 0))) (af (e2 bx (ad 12) (eC (.int 1))) (af (ad 6) aH)))))) (lI (nv (iy (tE (e1 lP (bL (eB (e2 fO (ad 13) (ad 14))) 1 [2, 7] (aS 0) (fun _ => .ok true) (e2 (iY) (e2 bx (ad 1) (ad 0)) (ad 2)))))) (tE (e2 (w5) (aI eu (af (ad 1) (af (ad 14) aH))) (ad 7)))) (cF (eC (.bool false))) dB)))))))))))) (cF (eC (.bool true))))))
def vJ (c_Share : Addr) : List PyData → R PyData := dF 15 (yA cc az cn bf eu dn (lB c_Share))
end G
end
namespace G
open PySem PySem.Spec PyProof.Rows L2 D2
theorem zV (ns : List Int) {k : Int} (hk : 0 ≤ k) : ∃ v, cb [rn ns, .int k] = .ok (.int v) := by
  unfold cb h7
  by_cases h : k < ns.length
  · refine ⟨ns[k.toNat]'(by omega), ?_⟩
    have hx := vK (xs := ns.map PyData.int) (i := k) hk (by simpa using h)
    rw [fu]
    simp [h, hx]
  · refine ⟨0, ?_⟩
    rw [fu]
    simp [h]
theorem om (ns : List Int) {k : Int} (hk : 0 ≤ k) : ∃ v, bf [rn ns, .int k] = .ok (.int v) ∧ 0 ≤ v ∧ v < 2147483629 := by
  obtain ⟨c, hc⟩ := zV ns hk
  unfold bf jC
  have m1 : fW (.int 7919) (.int k) = .ok (.int (7919 * k)) := iM (.inl (by omega))
  have m2 : fW (.int (c + 7919 * k + 1)) (.int 48271) = .ok (.int ((c + 7919 * k + 1) * 48271)) := iM (.inr (by omega))
  generalize hd : (c + 7919 * k + 1) * 48271 % 2147483647 = d
  have hd0 : 0 ≤ d := by omega
  have hd1 : d < 2147483647 := by omega
  have m3 : fW (.int d) (.int d) = .ok (.int (d * d)) := iM (.inl (by omega))
  have m4 : fW (.int 7) (.int d) = .ok (.int (7 * d)) := iM (.inl (by omega))
  refine ⟨(d * d + 7 * d + k) % 2147483629, ?_, by omega, by omega⟩
  rw [fu]
  simp [hc, m1, m2, hd, m3, m4, List.replicate]
theorem lh (n k : Int) : ∃ v, az [.int n, .int k] = .ok (.int v) ∧ 0 ≤ v ∧ v < 2147483629 := by
  unfold az jA
  have m1 : fW (.int 104729) (.int k) = .ok (.int (104729 * k)) := iM (.inl (by omega))
  have m2 : fW (.int (n + 104729 * k + 17)) (.int 69621) = .ok (.int ((n + 104729 * k + 17) * 69621)) := iM (.inr (by omega))
  generalize hd : (n + 104729 * k + 17) * 69621 % 2147483647 = d
  have hd0 : 0 ≤ d := by omega
  have hd1 : d < 2147483647 := by omega
  have m3 : fW (.int d) (.int d) = .ok (.int (d * d)) := iM (.inl (by omega))
  have m4 : fW (.int 3) (.int d) = .ok (.int (3 * d)) := iM (.inl (by omega))
  refine ⟨(d * d + 3 * d + k) % 2147483629, ?_, by omega, by omega⟩
  rw [fu]
  simp [m1, m2, hd, m3, m4, List.replicate]
theorem nW (n c : Int) (hc : 1 ≤ c) : ∀ (ds : List PyData) (m : Nat) (kvs : List (PyData × PyData)) (x : ba), tu c m kvs → (∀ d ∈ ds, ∃ k, d = .int k) → m + ds.length ≤ 1000 →
    ∃ kvs' x', tu c (m + ds.length) kvs' ∧ eS (aS 3) (x9 2 (e2 fx (aI az (af (ad 0) (af (ad 3) aH))) (ad 1)) (eC (.bool true))) ds [.val (.int n), .val (.int c), .own (.dict kvs), x]
      = .ok (.nx [.val (.int n), .val (.int c), .own (.dict kvs'), x'])
  | [], m, kvs, x, hk, _, _ => ⟨kvs, x, hk, by rw [fP]⟩
  | d :: ds, m, kvs, x, hk, hi, hl => by
    obtain ⟨k, rfl⟩ := hi d List.mem_cons_self
    obtain ⟨v, hv, v0, v1⟩ := lh n k
    have hk' := hk.put (k := v % c) (Int.emod_nonneg _ (by omega)) (Int.emod_lt_of_pos _ (by omega)) (.bool true)
    obtain ⟨kvs', x', h1, h2⟩ := nW n c hc ds (m + 1) _ (.val (.int k)) hk' (fun d hd => hi d (List.mem_cons_of_mem _ hd)) (by simp at hl; omega)
    refine ⟨kvs', x', by rw [List.length_cons]; simpa [Nat.add_comm, Nat.add_left_comm, Nat.add_assoc] using h1, ?_⟩
    have hlen := hk.len
    have hsz : kvs.length < sizeLine := Nat.lt_of_le_of_lt (show kvs.length ≤ 1000 by simp at hl; omega) (by decide)
    have hc' : 0 < c := by omega
    rw [eP, ← h2]
    simp [x9, hv, hc', iw, hsz]
theorem w9 {n c : Int} (hn : 0 ≤ n) (hc : 1 ≤ c) : ∃ ns : List Int, cM [.int n, .int c] = .ok (.tuple (ns.map .int)) ∧ (∀ x ∈ ns, 0 ≤ x ∧ x < c) ∧ ns ≠ [] ∧ ns.Pairwise (· < ·) := by
  unfold cM jm
  have m1 : ∀ k : Int, fW (.int 20) (.int k) = .ok (.int (20 * k)) := fun k => iM (.inl (by omega))
  generalize hN : (1 + n % 3 + 20 * (if n / 3 % 29 = 7 then 1 else 0) : Int) = N
  have hN0 : 1 ≤ N := by split at hN <;> omega
  have hN1 : N ≤ 23 := by split at hN <;> omega
  obtain ⟨kvs, x, hk, hf⟩ := nW n c hc (bG 0 N.toNat) 0 [] .non ⟨[], rfl, by simp, by simp, .inl rfl, by simp⟩ (r0 _ _) (by rw [gG]; omega)
  obtain ⟨ns, e, hb, hl, hz, nd⟩ := hk.ex
  rw [gG] at hl hz
  have hi : dc (kvs.map (·.1)) = some ns := by rw [e, gM]
  have hs : jX (.dict kvs) = .ok (.list ((gf ns).map PyData.int)) := by
    show (match dc (kvs.map (·.1)) with | some ns => if ns.length < 64 then R.ok (PyData.list ((gf ns).map PyData.int)) else .no | none => .no) = _
    rw [hi]
    exact if_pos (by omega)
  have hr : -(2 ^ 62) ≤ N ∧ N < 2 ^ 62 := by omega
  refine ⟨gf ns, ?_, fun x hx => hb x ((fF ns).mem_iff.mp hx), ?_, xi (iN ns) ((fF ns).nodup_iff.mpr nd)⟩
  · rw [fu]
    have hg : pd [.int N] = .ok (bG 0 N.toNat) := by
      show (if -(2 ^ 62) ≤ N ∧ N < 2 ^ 62 then R.ok (bG 0 N.toNat) else .no) = _
      rw [if_pos hr]
    simp [fG, fM, m1, List.replicate, hN, hg, hf, hs]
  · intro z
    have := (fF ns).length_eq
    rw [z] at this
    rcases hz with q | q
    · omega
    · exact q (List.eq_nil_of_length_eq_zero this.symm)
theorem wT {n c h : Int} (hn : 0 ≤ n) (hc : 1 ≤ c) (h0 : 0 ≤ h) : ∃ p : P4, cx [.int n, .int c, .int h] = .ok p.d ∧ Pl c h p := by
  obtain ⟨v, hv, v0, v1⟩ := lh n 9
  obtain ⟨ns, hg, hb, hne, hso⟩ := w9 (n := v) (c := c) v0 hc
  unfold cx jB
  have hh : 0 < h + 1 := by omega
  have s4 : 4 ≤ sizeLine := by decide
  have a1 := Int.emod_nonneg (n / 2) (show h + 1 ≠ 0 by omega)
  have a2 := Int.emod_lt_of_pos (n / 2) hh
  by_cases hq : n / 234 % 11 = 3
  · refine ⟨⟨n % 2, n / 2 % (h + 1), n / 26 % 41 - 20, ns⟩, ?_, ⟨by dsimp only; omega, by dsimp only; omega, a1, by dsimp only; omega, by dsimp only; omega, by dsimp only; omega, hne, hso, hb⟩⟩
    rw [fu]
    simp [hh, fM, hq, hv, hg, s4, P4.d]
  · refine ⟨⟨n % 2, n / 2 % (h + 1), n / 26 % 9 - 4, ns⟩, ?_, ⟨by dsimp only; omega, by dsimp only; omega, a1, by dsimp only; omega, by dsimp only; omega, by dsimp only; omega, hne, hso, hb⟩⟩
    rw [fu]
    simp [hh, fM, hq, hv, hg, s4, P4.d]
theorem sj (f : Fe) (ρ : aN) (i : Nat) (P : P4 → Prop) : ∀ ds : List PyData, (∀ d ∈ ds, ∃ p : P4, f (ρ.set i (.val d)) = .ok p.d ∧ P p) → ∃ ps : List P4, bE (aS i) (fun _ => .ok true) f ρ ds = .ok (ps.map P4.d) ∧ ps.length = ds.length ∧ ∀ p ∈ ps, P p
  | [], _ => ⟨[], cB .., rfl, by simp⟩
  | d :: ds, h => by
    obtain ⟨x, h1, h2⟩ := h d List.mem_cons_self
    obtain ⟨xs, h3, h4, h5⟩ := sj f ρ i P ds fun d hd => h d (List.mem_cons_of_mem _ hd)
    refine ⟨x :: xs, ?_, by simp [h4], fun y hy => ?_⟩
    · rw [eL, h1, h3]; rfl
    · rcases List.mem_cons.mp hy with rfl | hy
      · exact h2
      · exact h5 y hy
theorem tH (ns : List Int) {most : Int} (hm0 : 1 ≤ most) (hm1 : most ≤ 24) : ∃ (ps : List P4) (hi : Int), cn [rn ns, .int most] = .ok (gD ps) ∧ (∀ p ∈ ps, Pl ps.length hi p) ∧ 1 ≤ ps.length ∧ (ps.length : Int) ≤ most ∧ 0 ≤ hi ∧ hi ≤ 12 := by
  obtain ⟨v, hv, v0, v1⟩ := om ns (k := 0) (by omega)
  unfold cn iE
  generalize hm : (if (if (ns.length : Int) > 4 then (ns.length : Int) else 4) < most then (if (ns.length : Int) > 4 then (ns.length : Int) else 4) else most) = m
  have m0 : 0 < m := by split at hm <;> split at hm <;> omega
  have m1 : m ≤ most := by split at hm <;> split at hm <;> omega
  generalize hc : 1 + v % m = c
  have c0 : 1 ≤ c := by have := Int.emod_nonneg v (show m ≠ 0 by omega); omega
  have c1 : c ≤ most := by have := Int.emod_lt_of_pos v m0; omega
  have hix : ∃ h, bx (.list [.int 1, .int 2, .int 3, .int 5, .int 12, .int 12]) (.int (v / 24 % 6)) = .ok (.int h) ∧ 0 ≤ h ∧ h ≤ 12 := by
    obtain ⟨x, hx, e⟩ := z0 (xs := [.int 1, .int 2, .int 3, .int 5, .int 12, .int 12]) (i := v / 24 % 6) (by omega) (by simp; omega)
    rw [e]
    simp at hx
    rcases hx with rfl | rfl | rfl | rfl | rfl <;> exact ⟨_, rfl, by decide, by decide⟩
  obtain ⟨h, hh, h0, h1⟩ := hix
  have s6 : 6 ≤ sizeLine := by decide
  have hr : pd [.int c] = .ok (bG 0 c.toNat) := by
    show (if -(2 ^ 62) ≤ c ∧ c < 2 ^ 62 then R.ok (bG 0 c.toNat) else .no) = _
    rw [if_pos (by omega)]
  obtain ⟨xs, e1, e2, e3⟩ := sj (aI cx (af (aI bf (af (ad 1) (af (e2 fO (eC (.int 3)) (ad 0)) aH))) (af (ad 2) (af (ad 3) aH)))) (aB 1 [0, 3, 4] [.val (rn ns), .val (.int most), .val (.int v), .val (.int c), .val (.int h)]) 0 (Pl c h) (bG 0 c.toNat) fun d hd => by
    unfold bG at hd
    obtain ⟨k, _, rfl⟩ := List.mem_map.mp hd
    obtain ⟨w, hw, w0, w1⟩ := om ns (k := 3 + (0 + (k : Int))) (by omega)
    obtain ⟨d, hd1, hd2⟩ := wT (n := w) (c := c) (h := h) w0 c0 h0
    refine ⟨d, ?_, hd2⟩
    simp at hw
    simp [aB, List.replicate, hw, hd1]
  rw [gG] at e2
  have ec : (xs.length : Int) = c := by omega
  refine ⟨xs, h, ?_, by rw [ec]; exact e3, by omega, by omega, h0, h1⟩
  rw [fu]
  simp [hv, hm, m0, hc, s6, hh, List.replicate, bi, hr, gG, bD (show c.toNat ≤ 1000 by omega), e1]
def cN (ns : List Int) (i : Int) : Bool := ns.any fun j => decide (j = i)
theorem bT {ns : List Int} {i : Int} : cN ns i = true ↔ i ∈ ns := by
  unfold cN
  rw [List.any_eq_true]
  constructor
  · rintro ⟨j, hj, e⟩
    have := of_decide_eq_true e
    exact this ▸ hj
  · exact fun h => ⟨i, h, decide_eq_true rfl⟩
theorem jJ : ∀ ns : List Int, PyData.depthAll (ns.map .int) = 0
  | [] => by simp [PyData.depthAll]
  | n :: ns => by simp [PyData.depthAll, PyData.depth, jJ ns]
theorem nU (ns : List Int) : PyData.canLayAll0 (ns.map .int) = true := ls fun x hx => by
  obtain ⟨i, _, rfl⟩ := List.mem_map.mp hx
  exact r8 i
theorem pR (ns : List Int) (i : Int) : ny (ns.map .int) (.int i) = true := by
  unfold ny
  rw [nU, jJ]
  simp [PyData.canLay0]
theorem sW (ns : List Int) (i : Int) : ((ns.map PyData.int).any fun y => PyData.eqv y (.int i)) = cN ns i := by
  rw [List.any_map]
  congr 1
theorem BT (ns : List Int) (i : Int) (neg : Bool) : lH neg (.int i) (.tuple (ns.map .int)) = .ok (.bool (if neg then !cN ns i else cN ns i)) := by
  show (if ny (ns.map .int) (.int i) = true then R.ok (PyData.bool _) else .no) = _
  rw [if_pos (pR ns i), sW]
theorem Ek (ns : List Int) (i : Int) (neg : Bool) : lH neg (.int i) (.list (ns.map .int)) = .ok (.bool (if neg then !cN ns i else cN ns i)) := by
  show (if ny (ns.map .int) (.int i) = true then R.ok (PyData.bool _) else .no) = _
  rw [if_pos (pR ns i), sW]
theorem cW {t : aN → R Bool} {ρ : aN} {p : Int → Bool} : ∀ ns : List Int, (∀ x ∈ ns, t ((ba.non :: ρ).set 0 (.val (.int x))) = .ok (p x)) → bE (aS 0) t (ad 0) (.non :: ρ) (ns.map .int) = .ok ((ns.filter p).map .int)
  | [], _ => cB ..
  | x :: ns, h => by
    rw [List.map_cons, eL, h x List.mem_cons_self, cW ns fun y hy => h y (List.mem_cons_of_mem _ hy)]
    cases hp : p x with
    | true => rw [List.filter_cons_of_pos hp]; rfl
    | false => rw [List.filter_cons_of_neg (by rw [hp]; simp)]; rfl
theorem kM (c : Nat) : bG 0 c = ((List.range c).map fun (k : Nat) => (k : Int)).map .int := by
  unfold bG
  rw [List.map_map]
  apply List.map_congr_left
  intro k _
  simp
def av (ps : List P4) (i : Int) : List Int := (ps[i.toNat]?.map (·.ns)).getD []
theorem k9 {ps : List P4} {i : Int} (h0 : 0 ≤ i) (h1 : i < ps.length) : bx (gD ps) (.int i) = .ok (ps[i.toNat]'(by omega)).d := by
  rw [u6 h0 (by simpa using h1)]
  simp
theorem dI {ps : List P4} {i : Int} (h0 : 0 ≤ i) (h1 : i < ps.length) : av ps i = (ps[i.toNat]'(by omega)).ns := by
  unfold av
  rw [List.getElem?_eq_getElem (by omega)]
  rfl
theorem nN (p : P4) : bx p.d (.int 3) = .ok (.tuple (p.ns.map .int)) := rfl
theorem qN (p : P4) : bx p.d (.int 0) = .ok (.int p.w) := rfl
def aj (ps : List P4) (i : Int) : Int := (ps[i.toNat]?.map (·.w)).getD 0
theorem gB {ps : List P4} {i : Int} (h0 : 0 ≤ i) (h1 : i < ps.length) : aj ps i = (ps[i.toNat]'(by omega)).w := by
  unfold aj
  rw [List.getElem?_eq_getElem (by omega)]
  rfl
def bF (ps : List P4) (js : List Int) (i : Int) : List Int := (av ps i).filter (cN js)
def mE (ps : List P4) (js kn : List Int) (i : Int) : List Int := (bF ps js i).filter (cN kn)
def jq (ps : List P4) (js : List Int) (who : Int) (kn : List Int) (i : Int) : Bool :=
  !cN kn i && (decide (0 < (mE ps js kn i).length) && (decide (aj ps i = who) || decide ((mE ps js kn i).length = (bF ps js i).length)))
def eR (ps : List P4) (js : List Int) (who : Int) (kn is : List Int) : List Int := is.filter (jq ps js who kn)
def cP (ps : List P4) (js : List Int) (who r : Int) (kvs : List (Int × Int)) : List (Int × Int) := kvs ++ (eR ps js who (kvs.map (·.1)) js).map fun i => (i, r)
def hR (ps : List P4) (js : List Int) (who : Int) : Int → Nat → List (Int × Int) → List (Int × Int)
  | _, 0, kvs => kvs
  | r, n + 1, kvs => hR ps js who (r + 1) n (cP ps js who r kvs)
theorem jL : ∀ {l m : List Int}, l.Nodup → (∀ x ∈ l, x ∈ m) → l.length ≤ m.length
  | [], m, _, _ => Nat.zero_le _
  | x :: l, m, nd, h => by
    obtain ⟨n1, n2⟩ := List.nodup_cons.mp nd
    have hx := h x List.mem_cons_self
    have := jL (m := m.erase x) n2 fun y hy => (List.mem_erase_of_ne (by rintro rfl; exact n1 hy)).mpr (h y (List.mem_cons_of_mem _ hy))
    rw [List.length_erase_of_mem hx] at this
    have hp := List.length_pos_of_mem hx
    rw [List.length_cons]
    omega
structure jh (js : List Int) (kvs : List (Int × Int)) : Prop where
  nd : (kvs.map (·.1)).Nodup
  sub : ∀ x ∈ kvs.map (·.1), x ∈ js
theorem jh.len {js : List Int} {kvs : List (Int × Int)} (h : jh js kvs) (nj : js.Nodup) : kvs.length ≤ js.length := by
  have := jL h.nd h.sub
  simpa using this
theorem kC (ps : List P4) (js : List Int) (who r : Int) (kvs : List (Int × Int)) : (cP ps js who r kvs).map (·.1) = kvs.map (·.1) ++ eR ps js who (kvs.map (·.1)) js := by
  unfold cP
  rw [List.map_append, List.map_map]
  congr 1
  exact List.map_id _
theorem nO {ps : List P4} {js : List Int} {who : Int} {kn is : List Int} {x : Int} (h : x ∈ eR ps js who kn is) : x ∈ is ∧ x ∉ kn := by
  obtain ⟨h1, h2⟩ := List.mem_filter.mp h
  refine ⟨h1, fun z => ?_⟩
  unfold jq at h2
  rw [bT.mpr z] at h2
  simp at h2
theorem jh.round {ps : List P4} {js : List Int} {who r : Int} {kvs : List (Int × Int)} (h : jh js kvs) (nj : js.Nodup) : jh js (cP ps js who r kvs) := by
  refine ⟨?_, fun x hx => ?_⟩
  · rw [kC, List.nodup_append]
    refine ⟨h.nd, List.Pairwise.filter _ nj, fun a ha b hb e => ?_⟩
    subst e
    exact (nO hb).2 ha
  · rw [kC, List.mem_append] at hx
    rcases hx with z | z
    · exact h.sub x z
    · exact (nO z).1
theorem kY (ps : List P4) (js : List Int) (who : Int) : ∀ (n : Nat) (r : Int) (kvs : List (Int × Int)), hR ps js who r (n + 1) kvs = cP ps js who (r + n) (hR ps js who r n kvs)
  | 0, r, kvs => by
    show cP ps js who r kvs = cP ps js who (r + ((0 : Nat) : Int)) kvs
    simp
  | n + 1, r, kvs => by
    show hR ps js who (r + 1) (n + 1) (cP ps js who r kvs) = _
    rw [kY ps js who n (r + 1)]
    show cP ps js who (r + 1 + n) _ = cP ps js who (r + ((n + 1 : Nat) : Int)) _
    rw [show r + 1 + (n : Int) = r + ((n + 1 : Nat) : Int) by omega]
    rfl
def aK (ps : List P4) (js : List Int) (who : Int) (gs : List Int) : Nat → List Int
  | 0 => gs
  | m + 1 => aK ps js who gs m ++ eR ps js who (aK ps js who gs m) js
def wx (ps : List P4) (js : List Int) (who : Int) (gs : List Int) (m : Nat) : List (Int × Int) := hR ps js who 1 m (gs.map fun i => (i, 0))
theorem oI (ps : List P4) (js : List Int) (who : Int) (gs : List Int) (m : Nat) : wx ps js who gs (m + 1) = cP ps js who (m + 1) (wx ps js who gs m) := by
  unfold wx
  rw [kY]
  congr 1
  omega
theorem eU (ps : List P4) (js : List Int) (who : Int) (gs : List Int) : ∀ m, (wx ps js who gs m).map (·.1) = aK ps js who gs m
  | 0 => by
    show (gs.map fun i => ((i, 0) : Int × Int)).map (·.1) = gs
    rw [List.map_map]
    exact List.map_id _
  | m + 1 => by
    rw [oI, kC, eU ps js who gs m]
    rfl
def look (kvs : List (Int × Int)) (i : Int) : Option Int := (kvs.find? fun q => decide (q.1 = i)).map (·.2)
theorem mQ (a b : List (Int × Int)) (i : Int) : look (a ++ b) i = (look a i).or (look b i) := by
  unfold look
  rw [List.find?_append]
  cases a.find? _ <;> rfl
theorem gr {kvs : List (Int × Int)} {i : Int} : look kvs i = none ↔ i ∉ kvs.map (·.1) := by
  unfold look
  rw [Option.map_eq_none_iff, List.find?_eq_none]
  constructor
  · intro h z
    obtain ⟨q, hq, e⟩ := List.mem_map.mp z
    exact h q hq (decide_eq_true e)
  · intro h q hq e
    exact h (List.mem_map.mpr ⟨q, hq, of_decide_eq_true e⟩)
theorem iW (r : Int) (i : Int) : ∀ l : List Int, look (l.map fun j => (j, r)) i = if i ∈ l then some r else none
  | [] => rfl
  | j :: l => by
    have ih := iW r i l
    unfold look at ih ⊢
    by_cases h : j = i
    · subst h
      rw [List.map_cons, List.find?_cons_of_pos (by simp)]
      simp
    · rw [List.map_cons, List.find?_cons_of_neg (by simpa using h), ih]
      by_cases h2 : i ∈ l
      · simp [h2]
      · have : ¬ (i = j) := fun z => h z.symm
        simp [h2, this]
section
variable {ps : List P4} {js : List Int} {who : Int} {gs : List Int}
theorem jK {i : Int} {k : Nat} (h : i ∈ aK ps js who gs k) : ∀ {m : Nat}, k ≤ m → i ∈ aK ps js who gs m
  | 0, hm => by have : k = 0 := by omega
                subst this; exact h
  | m + 1, hm => by
    by_cases e : k = m + 1
    · subst e; exact h
    · show i ∈ aK ps js who gs m ++ _
      exact List.mem_append_left _ (jK h (by omega))
theorem fI {i : Int} : ∀ {m : Nat} {q : Int}, look (wx ps js who gs m) i = some q ↔ ∃ k : Nat, q = k ∧ k ≤ m ∧ i ∈ aK ps js who gs k ∧ (k = 0 ∨ i ∉ aK ps js who gs (k - 1))
  | 0, q => by
    show look (gs.map fun j => (j, 0)) i = some q ↔ _
    rw [iW]
    constructor
    · intro h
      split at h
      · rename_i hi
        cases h
        exact ⟨0, rfl, Nat.le_refl _, hi, .inl rfl⟩
      · cases h
    · rintro ⟨k, rfl, hk, hi, _⟩
      have : k = 0 := by omega
      subst this
      rw [if_pos (show i ∈ gs from hi)]
      rfl
  | m + 1, q => by
    have ih := fun q => fI (i := i) (m := m) (q := q)
    have e : wx ps js who gs (m + 1) = wx ps js who gs m ++ (eR ps js who (aK ps js who gs m) js).map fun j => (j, ((m + 1 : Nat) : Int)) := by
      rw [oI]
      unfold cP
      rw [eU]
      rfl
    rw [e, mQ, iW]
    by_cases hi : i ∈ aK ps js who gs m
    · cases h0 : look (wx ps js who gs m) i with
      | none => rw [gr, eU] at h0; exact (h0 hi).elim
      | some q0 =>
        rw [Option.some_or, ← h0, ih q]
        constructor
        · rintro ⟨k, a, b, c, d⟩
          exact ⟨k, a, by omega, c, d⟩
        · rintro ⟨k, a, b, c, d⟩
          refine ⟨k, a, ?_, c, d⟩
          by_cases hk : k = m + 1
          · subst hk
            rcases d with d | d
            · omega
            · exact (d hi).elim
          · omega
    · have h0 : look (wx ps js who gs m) i = none := by rw [gr, eU]; exact hi
      rw [h0, Option.none_or]
      constructor
      · intro h
        split at h
        · rename_i hn
          cases h
          exact ⟨m + 1, rfl, Nat.le_refl _, List.mem_append_right _ hn, .inr hi⟩
        · cases h
      · rintro ⟨k, rfl, b, c, d⟩
        have hk : k = m + 1 := by
          by_cases hk : k = m + 1
          · exact hk
          · exact (hi (jK c (by omega))).elim
        subst hk
        have c' : i ∈ aK ps js who gs m ++ eR ps js who (aK ps js who gs m) js := c
        rw [if_pos ((List.mem_append.mp c').elim (fun z => (hi z).elim) id)]
theorem vh {k : Nat} (h : eR ps js who (aK ps js who gs k) js = []) : ∀ d, aK ps js who gs (k + d) = aK ps js who gs k
  | 0 => rfl
  | d + 1 => by
    show aK ps js who gs (k + d) ++ eR ps js who (aK ps js who gs (k + d)) js = _
    rw [vh h d, h, List.append_nil]
theorem qw (ng : gs.Nodup) (hg : ∀ x ∈ gs, x ∈ js) (nj : js.Nodup) : ∀ m, jh js (wx ps js who gs m)
  | 0 => ⟨by rw [eU]; exact ng, fun x hx => by rw [eU] at hx; exact hg x hx⟩
  | m + 1 => by rw [oI]; exact (qw ng hg nj m).round nj
theorem uz (ng : gs.Nodup) (hg : ∀ x ∈ gs, x ∈ js) (nj : js.Nodup) {m : Nat} {i : Int} (h : i ∈ aK ps js who gs m) : i ∈ js := by
  have := (qw (ps := ps) (who := who) ng hg nj m).sub
  rw [eU] at this
  exact this i h
theorem B6 (ng : gs.Nodup) (hg : ∀ x ∈ gs, x ∈ js) (nj : js.Nodup) (m : Nat) : (aK ps js who gs m).length ≤ js.length := by
  have := (qw (ps := ps) (who := who) ng hg nj m).len nj
  rw [← eU, List.length_map]
  exact this
theorem vE : ∀ m, (∀ k, k < m → eR ps js who (aK ps js who gs k) js ≠ []) → m + gs.length ≤ (aK ps js who gs m).length
  | 0, _ => by show 0 + gs.length ≤ gs.length; omega
  | m + 1, h => by
    have := vE m fun k hk => h k (by omega)
    have h1 := h m (by omega)
    have h2 := List.length_pos_iff.mpr h1
    show _ ≤ (aK ps js who gs m ++ eR ps js who (aK ps js who gs m) js).length
    rw [List.length_append]
    omega
theorem Cq (ng : gs.Nodup) (hg : ∀ x ∈ gs, x ∈ js) (nj : js.Nodup) {n : Nat} (hn : js.length ≤ n) : eR ps js who (aK ps js who gs n) js = [] := by
  by_cases h : eR ps js who (aK ps js who gs n) js = []
  · exact h
  · have := vE (ps := ps) (js := js) (who := who) (gs := gs) (n + 1) fun k hk e => h (by
      have s := vh e (n - k)
      rw [show k + (n - k) = n by omega] at s
      rw [s]; exact e)
    have := B6 (ps := ps) (who := who) ng hg nj (n + 1)
    omega
theorem h9 {α : Type} (p : α → Bool) : ∀ l : List α, (l.filter p).length = l.length ↔ ∀ x ∈ l, p x = true
  | [] => by simp
  | x :: l => by
    have ih := h9 p l
    have le := List.length_filter_le p l
    cases h : p x with
    | true => rw [List.filter_cons_of_pos h]; simp [ih, h]
    | false => rw [List.filter_cons_of_neg (by rw [h]; simp)]; simp [h]; omega
theorem nX {α : Type} (p : α → Bool) (l : List α) : 0 < (l.filter p).length ↔ ∃ x ∈ l, p x = true := by
  rw [List.length_pos_iff_exists_mem]
  simp [List.mem_filter]
theorem fN {kn : List Int} {i : Int} : jq ps js who kn i = true ↔ i ∉ kn ∧ (∃ g ∈ bF ps js i, g ∈ kn) ∧ (aj ps i = who ∨ ∀ g ∈ bF ps js i, g ∈ kn) := by
  unfold jq mE
  rw [Bool.and_eq_true, Bool.and_eq_true, Bool.or_eq_true, decide_eq_true_iff, decide_eq_true_iff, decide_eq_true_iff, nX, h9, Bool.not_eq_true', ← Bool.not_eq_true, bT]
  simp only [bT]
def rK (ps : List P4) (js : List Int) (who : Int) (gs : List Int) (i : Int) : Option Int := look (wx ps js who gs ps.length) i
structure tm (ps : List P4) (js : List Int) (who : Int) (gs : List Int) (rk : Int → Option Int) : Prop where
  nneg : ∀ i q, rk i = some q → 0 ≤ q
  sub : ∀ i q, rk i = some q → i ∈ js
  zero : ∀ i, rk i = some 0 ↔ i ∈ gs
  own : ∀ i q, rk i = some q → 0 < q → aj ps i = who → ∃ g ∈ bF ps js i, rk g = some (q - 1)
  low : ∀ i q g t, rk i = some q → 0 < q → aj ps i = who → g ∈ bF ps js i → rk g = some t → q - 1 ≤ t
  oth : ∀ i q, rk i = some q → 0 < q → aj ps i ≠ who → (∃ g, g ∈ bF ps js i) ∧ ∀ g ∈ bF ps js i, ∃ t, rk g = some t ∧ t < q
  outO : ∀ i, i ∈ js → rk i = none → aj ps i = who → ∀ g ∈ bF ps js i, rk g = none
  outX : ∀ i, i ∈ js → rk i = none → aj ps i ≠ who → (∃ g, g ∈ bF ps js i) → ∃ g ∈ bF ps js i, rk g = none
theorem vN (ng : gs.Nodup) (hg : ∀ x ∈ gs, x ∈ js) (nj : js.Nodup) (hn : js.length ≤ ps.length) : tm ps js who gs (rK ps js who gs) := by
  have ex : ∀ {i k}, i ∈ aK ps js who gs k → k ≤ ps.length → ∃ t : Nat, t ≤ k ∧ rK ps js who gs i = some (t : Int) := fun {i} => by
    intro k
    induction k with
    | zero => exact fun h _ => ⟨0, Nat.le_refl _, fI.mpr ⟨0, rfl, by omega, h, .inl rfl⟩⟩
    | succ k ih =>
      intro h hk
      by_cases h1 : i ∈ aK ps js who gs k
      · obtain ⟨t, a, b⟩ := ih h1 (by omega)
        exact ⟨t, by omega, b⟩
      · exact ⟨k + 1, Nat.le_refl _, fI.mpr ⟨k + 1, rfl, hk, h, .inr h1⟩⟩
  have nm : ∀ {i}, rK ps js who gs i = none ↔ i ∉ aK ps js who gs ps.length := fun {i} => by
    unfold rK; rw [gr, eU]
  have fix := Cq (ps := ps) (who := who) ng hg nj hn
  have new : ∀ {i k}, i ∈ aK ps js who gs (k + 1) → i ∉ aK ps js who gs k → jq ps js who (aK ps js who gs k) i = true := fun {i k} h1 h2 => by
    have h1' : i ∈ aK ps js who gs k ++ eR ps js who (aK ps js who gs k) js := h1
    rcases List.mem_append.mp h1' with z | z
    · exact (h2 z).elim
    · exact (List.mem_filter.mp z).2
  have not : ∀ {i k}, i ∈ js → i ∉ aK ps js who gs (k + 1) → ¬ jq ps js who (aK ps js who gs k) i = true := fun {i k} h1 h2 h3 =>
    h2 (show i ∈ aK ps js who gs k ++ eR ps js who (aK ps js who gs k) js from List.mem_append_right _ (List.mem_filter.mpr ⟨h1, h3⟩))
  have pos : ∀ {i q}, rK ps js who gs i = some q → 0 < q → ∃ k : Nat, q = ((k + 1 : Nat) : Int) ∧ k + 1 ≤ ps.length ∧ i ∈ aK ps js who gs (k + 1) ∧ i ∉ aK ps js who gs k := fun {i q} h hq => by
    obtain ⟨k, rfl, b, c, d⟩ := fI.mp h
    cases k with
    | zero => omega
    | succ k =>
      rcases d with d | d
      · omega
      · exact ⟨k, rfl, b, c, d⟩
  refine ⟨fun i q h => ?_, fun i q h => ?_, fun i => ?_, fun i q h hq ho => ?_, fun i q g t h hq ho hg' ht => ?_, fun i q h hq ho => ?_, fun i hi h ho g hg' => ?_, fun i hi h ho hw => ?_⟩
  · obtain ⟨k, rfl, _⟩ := fI.mp h; omega
  · obtain ⟨k, rfl, _, c, _⟩ := fI.mp h; exact uz ng hg nj c
  · constructor
    · intro h
      obtain ⟨k, e, _, c, _⟩ := fI.mp h
      have : k = 0 := by omega
      subst this
      exact c
    · exact fun h => fI.mpr ⟨0, rfl, by omega, h, .inl rfl⟩
  · obtain ⟨k, rfl, b, c, d⟩ := pos h hq
    obtain ⟨_, ⟨g, hg1, hg2⟩, _⟩ := fN.mp (new c d)
    obtain ⟨t, ht, hr⟩ := ex hg2 (by omega)
    refine ⟨g, hg1, ?_⟩
    by_cases e : t = k
    · subst e; rw [hr]; congr 1; omega
    · exfalso
      cases k with
      | zero => omega
      | succ k =>
        obtain ⟨t', e', _, c', _⟩ := fI.mp hr
        have e'' : t = t' := by omega
        subst e''
        exact not (uz ng hg nj c) d (fN.mpr ⟨fun z => d (jK z (by omega)), ⟨g, hg1, jK c' (by omega)⟩, .inl ho⟩)
  · obtain ⟨k, rfl, b, c, d⟩ := pos h hq
    obtain ⟨t', rfl, _, c', _⟩ := fI.mp ht
    by_cases e : k ≤ t'
    · omega
    · exfalso
      cases k with
      | zero => omega
      | succ k => exact not (uz ng hg nj c) d (fN.mpr ⟨fun z => d (jK z (by omega)), ⟨g, hg', jK c' (by omega)⟩, .inl ho⟩)
  · obtain ⟨k, rfl, b, c, d⟩ := pos h hq
    obtain ⟨_, ⟨g, hg1, _⟩, o⟩ := fN.mp (new c d)
    refine ⟨⟨g, hg1⟩, fun g' hg' => ?_⟩
    obtain ⟨t, ht, hr⟩ := ex ((o.resolve_left ho) g' hg') (by omega)
    exact ⟨t, hr, by omega⟩
  · rw [nm] at h ⊢
    intro hz
    have : i ∈ eR ps js who (aK ps js who gs ps.length) js := List.mem_filter.mpr ⟨hi, fN.mpr ⟨h, ⟨g, hg', hz⟩, .inl ho⟩⟩
    rw [fix] at this
    cases this
  · rw [nm] at h
    by_cases hz : ∃ g ∈ bF ps js i, rK ps js who gs g = none
    · exact hz
    · exfalso
      have all : ∀ g ∈ bF ps js i, g ∈ aK ps js who gs ps.length := fun g hg' => by
        by_cases z : g ∈ aK ps js who gs ps.length
        · exact z
        · exact (hz ⟨g, hg', nm.mpr z⟩).elim
      obtain ⟨g, hg'⟩ := hw
      have : i ∈ eR ps js who (aK ps js who gs ps.length) js := List.mem_filter.mpr ⟨hi, fN.mpr ⟨h, ⟨g, hg', all g hg'⟩, .inr all⟩⟩
      rw [fix] at this
      cases this
end
abbrev ids (n : Nat) : List Int := (List.range n).map fun (k : Nat) => (k : Int)
theorem bS {n : Nat} {i : Int} : i ∈ ids n ↔ 0 ≤ i ∧ i < n := by
  constructor
  · intro h
    obtain ⟨k, hk, rfl⟩ := List.mem_map.mp h
    have := List.mem_range.mp hk
    omega
  · rintro ⟨h0, h1⟩
    exact List.mem_map.mpr ⟨i.toNat, List.mem_range.mpr (by omega), by omega⟩
theorem rc (n : Nat) : (ids n).length = n := by simp
theorem AN {n k : Nat} (h : k < n) : (ids n)[k]? = some (k : Int) := by
  rw [List.getElem?_map, List.getElem?_range h]; rfl
theorem Cg (n : Nat) : (ids n).Pairwise (· < ·) := by
  rw [List.pairwise_map]
  exact (List.pairwise_lt_range).imp fun h => by omega
theorem yi {l : List Int} (h : l.Pairwise (· < ·)) : l.Nodup := h.imp fun h => by omega
def cg (f : Int → PyData) (n : Nat) : List PyData := (ids n).map f
theorem bH (f : Int → PyData) (n : Nat) : (cg f n).length = n := by unfold cg; rw [List.length_map, rc]
theorem gn {f : Int → PyData} {n : Nat} {i : Int} (h0 : 0 ≤ i) (h1 : i < n) : (cg f n)[i.toNat]'(by rw [bH]; omega) = f i := by
  have h := AN (n := n) (k := i.toNat) (by omega)
  have : (cg f n)[i.toNat]? = some (f i) := by
    unfold cg
    rw [List.getElem?_map, h, Option.map_some]
    congr 2
    omega
  exact Option.some.inj ((List.getElem?_eq_getElem _).symm.trans this)
theorem mI {f : Int → PyData} {n : Nat} {i : Int} (h0 : 0 ≤ i) (h1 : i < n) : bx (.tuple (cg f n)) (.int i) = .ok (f i) := by
  rw [u6 h0 (by rw [bH]; exact h1), gn h0 h1]
theorem zd {f : Int → PyData} {n : Nat} {i : Int} (h0 : 0 ≤ i) (h1 : i < n) : bx (.list (cg f n)) (.int i) = .ok (f i) := by
  rw [vK h0 (by rw [bH]; exact h1), gn h0 h1]
theorem cJ {f g : Int → PyData} {n : Nat} (h : ∀ i : Int, 0 ≤ i → i < n → f i = g i) : cg f n = cg g n :=
  List.map_congr_left fun i hi => h i (bS.mp hi).1 (bS.mp hi).2
theorem nF {f : Int → PyData} {n : Nat} {i : Int} {v : PyData} (h0 : 0 ≤ i) (h1 : i < n) : (cg f n).set i.toNat v = cg (fun j => if j = i then v else f j) n := by
  refine List.ext_getElem (by rw [List.length_set, bH, bH]) fun k hk1 hk2 => ?_
  rw [bH] at hk2
  have e := gn (f := fun j => if j = i then v else f j) (n := n) (i := (k : Int)) (by omega) (by omega)
  have e2 := gn (f := f) (n := n) (i := (k : Int)) (by omega) (by omega)
  simp only [Int.toNat_natCast] at e e2
  rw [e, List.getElem_set]
  by_cases h : i.toNat = k
  · rw [if_pos h, if_pos (by omega)]
  · rw [if_neg h, if_neg (by omega), e2]
theorem uF (f : Int → PyData) (ρ : aN) (g : Fe) (n : Nat) (h : ∀ i : Int, 0 ≤ i → i < n → g (ρ.set 0 (.val (.int i))) = .ok (f i)) : bE (aS 0) (fun _ => .ok true) g ρ (bG 0 n) = .ok (cg f n) := by
  have := eN g ρ 0 (fun d => match d with | .int i => f i | d => d) (bG 0 n) fun d hd => by
    unfold bG at hd
    obtain ⟨k, hk, rfl⟩ := List.mem_map.mp hd
    have := List.mem_range.mp hk
    exact h _ (by omega) (by omega)
  rw [this]
  unfold cg
  rw [kM, List.map_map]
  rfl
def oD : Option Int → PyData
  | none => .none
  | some k => .int k
theorem vb (o : Option Int) : lE (oD o) .none = .ok (.bool o.isSome) := by cases o <;> rfl
theorem uR (o : Option Int) : jc (oD o) .none = .ok (.bool o.isNone) := by cases o <;> rfl
def kh (k m : Nat) : List Int := (List.range m).map fun (j : Nat) => ((k + j : Nat) : Int)
theorem ox (k m : Nat) : kh k (m + 1) = (k : Int) :: kh (k + 1) m := by
  unfold kh
  rw [List.range_succ_eq_map, List.map_cons, List.map_map]
  congr 1
  apply List.map_congr_left
  intro j _
  show ((k + (j + 1) : Nat) : Int) = ((k + 1 + j : Nat) : Int)
  omega
theorem jZ (n : Nat) : kh 0 n = ids n := by
  unfold kh
  apply List.map_congr_left
  intro j _
  simp
theorem jF {t : aN → R Bool} {ρ : aN} {p : Int → Bool} {g : Int → PyData} : ∀ (m k : Nat), (∀ j : Nat, k ≤ j → j < k + m → t (.val (.int j) :: .val (g j) :: ρ) = .ok (p j)) →
    bE (cK 0 1) t (ad 0) (.non :: .non :: ρ) (cG k ((kh k m).map g)) = .ok (((kh k m).filter p).map .int)
  | 0, k, _ => by unfold kh; simp [cG, cB]
  | m + 1, k, h => by
    rw [ox, List.map_cons]
    have e : cG k (g k :: (kh (k + 1) m).map g) = .tuple [.int k, g k] :: cG (k + 1) ((kh (k + 1) m).map g) := rfl
    rw [e, gF, jF m (k + 1) fun j h1 h2 => h j (by omega) (by omega)]
    have hk := h k (Nat.le_refl _) (by omega)
    simp only [List.set_cons_zero, List.set_cons_succ, hk, R.ok_bind, ak]
    cases hp : p k with
    | true => rw [List.filter_cons_of_pos hp]; rfl
    | false => rw [List.filter_cons_of_neg (by rw [hp]; simp)]; rfl
theorem oV {fe : Fe} {ρ : aN} {g h : Int → PyData} : ∀ (m k : Nat), (∀ j : Nat, k ≤ j → j < k + m → fe (.val (.int j) :: .val (g j) :: ρ) = .ok (h j)) →
    bE (cK 0 1) (fun _ => .ok true) fe (.non :: .non :: ρ) (cG k ((kh k m).map g)) = .ok ((kh k m).map h)
  | 0, k, _ => by unfold kh; simp [cG, cB]
  | m + 1, k, hh => by
    rw [ox, List.map_cons]
    have e : cG k (g k :: (kh (k + 1) m).map g) = .tuple [.int k, g k] :: cG (k + 1) ((kh (k + 1) m).map g) := rfl
    rw [e, gF, oV m (k + 1) fun j h1 h2 => hh j (by omega) (by omega)]
    have hk := hh k (Nat.le_refl _) (by omega)
    simp only [R.ok_bind, if_true, List.set_cons_zero, List.set_cons_succ, hk]
    rfl
theorem kS (t : aN → R Bool) (g : Fs) (n : Nat) (ρ : aN) : cO t g (n + 1) ρ = (t ρ >>= fun b => if b = true then g ρ >>= sD (cO t g n) else .ok (.nx ρ)) := by
  rw [cO]
  congr 1
def sx (s : PyData) (js : List Int) : Prop := s = .tuple (js.map .int) ∨ s = .list (js.map .int)
theorem sx.inn {s : PyData} {js : List Int} (h : sx s js) (neg : Bool) (k : Int) : lH neg (.int k) s = .ok (.bool (if neg then !cN js k else cN js k)) := by
  rcases h with rfl | rfl
  · exact BT ..
  · exact Ek ..
theorem sx.seq {s : PyData} {js : List Int} (h : sx s js) : iA s = .ok (js.map .int) := by
  rcases h with rfl | rfl <;> rfl
theorem sx.len {s : PyData} {js : List Int} (h : sx s js) : dE s = .ok (.int js.length) := by
  rcases h with rfl | rfl <;> simp
structure dQ (n : Nat) (js : List Int) : Prop where
  lt : js.Pairwise (· < ·)
  inn : ∀ x ∈ js, 0 ≤ x ∧ x < n
theorem dQ.nd {n : Nat} {js : List Int} (h : dQ n js) : js.Nodup := yi h.lt
theorem dQ.len {n : Nat} {js : List Int} (h : dQ n js) : js.length ≤ n := by
  have := kA js 0 n h.lt h.inn
  rcases this with z | z
  · rw [z]; simp
  · omega
theorem dQ.filter {n : Nat} {js : List Int} (h : dQ n js) (p : Int → Bool) : dQ n (js.filter p) := ⟨h.lt.filter _, fun x hx => h.inn x (List.mem_filter.mp hx).1⟩
theorem dQ.ids (n : Nat) : dQ n (ids n) := ⟨Cg n, fun x hx => bS.mp hx⟩
def gi (ps : List P4) (js : List Int) : Prop := ∀ i ∈ js, ∃ g, g ∈ bF ps js i
abbrev oT (f : Int → Option Int) (n : Nat) : PyData := .tuple (cg (fun i => oD (f i)) n)
theorem u5 (o : Option Int) (k : Int) : iY (oD o) (.int k) = .ok (.bool (decide (o = some k))) := by
  cases o with
  | none => rfl
  | some q =>
    show iY (.int q) (.int k) = _
    rw [fM]
    congr 2
    simp
structure Gr (ps : List P4) : Prop where
  hl : ∀ p ∈ ps, p.ns.length ≤ 100
  hgo : ∀ p ∈ ps, ∀ x ∈ p.ns, 0 ≤ x ∧ x < ps.length
  hp : ps.length ≤ 24
  lt : ∀ p ∈ ps, p.ns.Pairwise (· < ·)
  ne : ∀ p ∈ ps, p.ns ≠ []
theorem Gr.goals {ps : List P4} (G : Gr ps) {i x : Int} (h : x ∈ av ps i) : 0 ≤ x ∧ x < ps.length := by
  unfold av at h
  cases e : ps[i.toNat]? with
  | none => rw [e] at h; cases h
  | some p => rw [e] at h; exact G.hgo p (List.mem_of_getElem? e) x h
theorem Gr.glen {ps : List P4} (G : Gr ps) (i : Int) : (av ps i).length ≤ 100 := by
  unfold av
  cases e : ps[i.toNat]? with
  | none => simp
  | some p => exact G.hl p (List.mem_of_getElem? e)
def aD (ps : List P4) (i : Int) : Int := (ps[i.toNat]?.map (·.m)).getD 0
theorem uT (p : P4) : bx p.d (.int 1) = .ok (.int p.m) := rfl
theorem jP {ps : List P4} {i : Int} (h0 : 0 ≤ i) (h1 : i < ps.length) : aD ps i = (ps[i.toNat]'(by omega)).m := by
  unfold aD
  rw [List.getElem?_eq_getElem (by omega)]
  rfl
theorem qe {ps : List P4} {js : List Int} (hne : js ≠ []) : ∃ h, pb (.list ((js.map (aD ps)).map .int)) = .ok (.int h) ∧ (∃ i ∈ js, aD ps i = h) ∧ ∀ i ∈ js, aD ps i ≤ h := by
  cases js with
  | nil => exact (hne rfl).elim
  | cons j js =>
    obtain ⟨s1, s2⟩ := pN (aD ps j) (js.map (aD ps))
    refine ⟨t5 (aD ps j) (js.map (aD ps)), ?_, ?_, fun i hi => ?_⟩
    · show (match dc (((j :: js).map (aD ps)).map .int) with | some (n :: ns) => R.ok (PyData.int (t5 n ns)) | _ => .no) = _
      rw [gM]
      rfl
    · rw [← List.map_cons (f := aD ps)] at s1
      obtain ⟨i, hi, e⟩ := List.mem_map.mp s1
      exact ⟨i, hi, e⟩
    · exact s2 _ (by rw [← List.map_cons (f := aD ps)]; exact List.mem_map.mpr ⟨i, hi, rfl⟩)
theorem pI {s t : PyData} {ns js : List Int} (hs : sx s ns) (ht : sx t js) (hl : ns.length ≤ 1000) : ca [s, t] = .ok (.tuple ((ns.filter (cN js)).map .int)) := by
  have hcmp := cW (t := tE (e2 (lH false) (ad 0) (ad 1))) (ρ := [.val t]) (p := cN js) ns fun k hk => by simp [ht.inn]
  unfold ca nV
  refine dY ?_
  rw [show ([s, t].map ba.val ++ List.replicate (2 - [s, t].length) ba.non) = [.val s, .val t] from rfl]
  rw [ci, bW, bi, show aB 1 [1] [.val s, .val t] = [.non, .val t] from rfl]
  simp only [bX, ak, R.ok_bind, hs.seq, cf]
  rw [if_pos (by rw [List.length_map]; exact bD hl), hcmp]
  rfl
theorem oU {s t : PyData} {ns js : List Int} (hs : sx s ns) (ht : sx t js) (hl : ns.length ≤ 1000) : bI [s, t] = .ok (.tuple ((ns.filter fun i => !cN js i).map .int)) := by
  have hcmp := cW (t := tE (e2 (lH true) (ad 0) (ad 1))) (ρ := [.val t]) (p := fun i => !cN js i) ns fun k hk => by simp [ht.inn]
  unfold bI my
  refine dY ?_
  rw [show ([s, t].map ba.val ++ List.replicate (2 - [s, t].length) ba.non) = [.val s, .val t] from rfl]
  rw [ci, bW, bi, show aB 1 [1] [.val s, .val t] = [.non, .val t] from rfl]
  simp only [bX, ak, R.ok_bind, hs.seq, cf]
  rw [if_pos (by rw [List.length_map]; exact bD hl), hcmp]
  rfl
theorem qM {p : P4} {ws : List Int} {who : Int} {f : Int → Option Int} {n : Nat} (hw : ∀ g ∈ ws, 0 ≤ g ∧ g < n) (hl : ws.length ≤ 1000) :
    bN [p.d, .tuple (ws.map .int), .int who, .list (cg (fun i => oD (f i)) n)] = .ok (.bool (if p.w = who then decide (0 < (ws.filter fun g => (f g).isSome).length) else decide ((ws.filter fun g => (f g).isSome).length = ws.length))) := by
  have hcmp := cW (t := tE (e2 (lE) (e2 bx (ad 1) (ad 0)) (eC .none))) (ρ := [.val (.list (cg (fun i => oD (f i)) n))]) (p := fun g => (f g).isSome) ws fun k hk => by
    simp only [List.set_cons_zero, cv, bj, ak, am, bB, R.ok_bind, zd (hw k hk).1 (hw k hk).2, vb, cL]
  unfold bN je
  refine dY ?_
  rw [show ([p.d, .tuple (ws.map .int), .int who, .list (cg (fun i => oD (f i)) n)].map ba.val ++ List.replicate (5 - [p.d, .tuple (ws.map .int), .int who, .list (cg (fun i => oD (f i)) n)].length) ba.non) = [.val p.d, .val (.tuple (ws.map .int)), .val (.int who), .val (.list (cg (fun i => oD (f i)) n)), .non] from rfl]
  rw [aJ (ρ' := [.val p.d, .val (.tuple (ws.map .int)), .val (.int who), .val (.list (cg (fun i => oD (f i)) n)), .val (.list ((ws.filter fun g => (f g).isSome).map .int))]) (by
    rw [bp, bi, show aB 1 [3] [.val p.d, .val (.tuple (ws.map .int)), .val (.int who), .val (.list (cg (fun i => oD (f i)) n)), .non] = [.non, .val (.list (cg (fun i => oD (f i)) n))] from rfl]
    simp only [bX, ak, am, R.ok_bind, cH, cf]
    rw [if_pos (by rw [List.length_map]; exact bD hl), hcmp]
    rfl)]
  by_cases h : p.w = who
  · rw [if_pos h]
    refine uB ?_
    simp only [du, cv, bj, bW, ak, am, bB, R.ok_bind, qN, fM, cL, h, decide_true, if_true, ci, n8, oP, List.length_map]
    congr 3
    simp
  · rw [if_neg h, aJ (ρ' := [.val p.d, .val (.tuple (ws.map .int)), .val (.int who), .val (.list (cg (fun i => oD (f i)) n)), .val (.list ((ws.filter fun g => (f g).isSome).map .int))]) (by
      simp only [du, cv, bj, bW, ak, am, bB, R.ok_bind, qN, fM, cL, h, decide_false]; rfl)]
    simp only [ci, bj, bW, ak, am, R.ok_bind, n8, kD, fM, List.length_map]
    congr 3
    exact decide_eq_decide.mpr (by omega)
theorem Bm {c : Int} (h0 : 0 ≤ c) (h1 : c ≤ 1000) : pd [.int c] = .ok (bG 0 c.toNat) := by
  show (if -(2 ^ 62) ≤ c ∧ c < 2 ^ 62 then R.ok (bG 0 c.toNat) else .no) = _
  rw [if_pos (by omega)]
def vd : Fs := (aT (tG 6 (fun a b => a + b) (eC (.int 1))) (aT (bQ 8 (bL (eB (ad 1)) 1 [5] (aS 0) (tE (e2 (jc) (e2 bx (cV 1) (ad 0)) (eC .none))) (ad 0))) (aT (bQ 7 (bL (eB (ad 8)) 1 [0, 4, 2, 5] (aS 0) (tE (kr 4 (aI bN (af (e2 bx (ad 1) (ad 0)) (af (e2 bx (ad 2) (ad 0)) (af (ad 3) (af (ad 4) aH))))))) (ad 0))) (ia (i9 (eB (ad 7)) (aS 9) (gN 5 (ad 9) (ad 6)))))))
abbrev kZ (ps : List P4) (js : List Int) : PyData := .list (cg (fun i => .tuple ((bF ps js i).map .int)) ps.length)
abbrev x5 (kvs : List (Int × Int)) (n : Nat) : List PyData := cg (fun i => oD (look kvs i)) n
abbrev tR (ps : List P4) (s : PyData) (js : List Int) (who : Int) (g : PyData) (kvs : List (Int × Int)) (r : Int) (fs : List Int) (c8 c9 : ba) : aN :=
  [.val (gD ps), .val s, .val (.int who), .val g, .val (kZ ps js), .own (.list (x5 kvs ps.length)), .val (.int r), .val (.list (fs.map .int)), c8, c9]
theorem yy {kvs : List (Int × Int)} {i r : Int} (h : i ∉ kvs.map (·.1)) (j : Int) : look (kvs ++ [(i, r)]) j = if j = i then some r else look kvs j := by
  rw [mQ]
  by_cases e : j = i
  · subst e
    rw [if_pos rfl, gr.mpr h, Option.none_or]
    unfold look
    simp
  · rw [if_neg e]
    have : look [(i, r)] j = none := by
      unfold look
      have : ¬ i = j := fun z => e z.symm
      simp [this]
    rw [this, Option.or_none]
theorem Bq {ps : List P4} {s : PyData} {js : List Int} {who : Int} {g : PyData} {r : Int} {fs0 : List Int} {c8 : ba} : ∀ (fs : List Int) (kvs : List (Int × Int)) (c9 : ba), fs.Nodup → (∀ x ∈ fs, x ∉ kvs.map (·.1)) → (∀ x ∈ fs, 0 ≤ x ∧ x < ps.length) →
    ∃ c9', eS (aS 9) (gN 5 (ad 9) (ad 6)) (fs.map .int) (tR ps s js who g kvs r fs0 c8 c9) = .ok (.nx (tR ps s js who g (kvs ++ fs.map fun i => (i, r)) r fs0 c8 c9'))
  | [], kvs, c9, _, _, _ => ⟨c9, by rw [List.map_nil, fP]; simp⟩
  | i :: fs, kvs, c9, nd, hn, hb => by
    obtain ⟨n1, n2⟩ := List.nodup_cons.mp nd
    have hi := hb i List.mem_cons_self
    obtain ⟨c9', e⟩ := Bq (ps := ps) (s := s) (js := js) (who := who) (g := g) (r := r) (fs0 := fs0) (c8 := c8) fs (kvs ++ [(i, r)]) (.val (.int i)) n2 (fun x hx => by
      rw [List.map_append, List.mem_append]
      rintro (z | z)
      · exact hn x (List.mem_cons_of_mem _ hx) z
      · simp at z
        subst z
        exact n1 hx) fun x hx => hb x (List.mem_cons_of_mem _ hx)
    refine ⟨c9', ?_⟩
    rw [List.map_cons, eP]
    rw [show ((tR ps s js who g kvs r fs0 c8 c9).set 9 (.val (.int i))) = tR ps s js who g kvs r fs0 c8 (.val (.int i)) from rfl]
    rw [nC (ds := x5 kvs ps.length) (n := i) (v := .int r) rfl rfl rfl hi.1 (by rw [bH]; exact hi.2), R.ok_bind, dh, nF hi.1 hi.2]
    rw [cJ (g := fun j => oD (look (kvs ++ [(i, r)]) j)) fun j _ _ => by
      rw [yy (hn i List.mem_cons_self)]
      split <;> rfl]
    refine Eq.trans ?_ (e.trans (by simp))
    rfl
theorem oZ {kvs : List (Int × Int)} {i : Int} : (look kvs i).isNone = !cN (kvs.map (·.1)) i := by
  cases h : cN (kvs.map (·.1)) i with
  | true =>
    cases h2 : look kvs i with
    | none => exact (gr.mp h2 (bT.mp h)).elim
    | some q => rfl
  | false =>
    rw [gr.mpr fun z => by rw [bT.mpr z] at h; cases h]
    rfl
theorem tM {kvs : List (Int × Int)} {i : Int} : (look kvs i).isSome = cN (kvs.map (·.1)) i := by
  have := oZ (kvs := kvs) (i := i)
  cases h : look kvs i <;> rw [h] at this <;> cases h2 : cN (kvs.map (·.1)) i <;> rw [h2] at this <;> simp_all
theorem sM {ps : List P4} {js : List Int} {who : Int} {kn : List Int} {i : Int} (hw : ∃ g, g ∈ bF ps js i) :
    (!cN kn i && (if aj ps i = who then decide (0 < (mE ps js kn i).length) else decide ((mE ps js kn i).length = (bF ps js i).length))) = jq ps js who kn i := by
  obtain ⟨g, hg⟩ := hw
  have hp := List.length_pos_of_mem hg
  unfold jq
  by_cases ho : aj ps i = who
  · simp [ho]
  · by_cases he : (mE ps js kn i).length = (bF ps js i).length
    · simp [ho, he, hp]
    · simp [ho, he]
theorem xu {ps : List P4} (hl : ∀ p ∈ ps, p.ns.length ≤ 100) (hgo : ∀ p ∈ ps, ∀ x ∈ p.ns, 0 ≤ x ∧ x < ps.length) (hp : ps.length ≤ 24) {s : PyData} {js : List Int} (hs : sx s js) (hj : dQ ps.length js) (hw : gi ps js) {who : Int} {g : PyData} {kvs : List (Int × Int)} {r : Int} {fs : List Int} (c8 c9 : ba) :
    ∃ c8' c9', vd (tR ps s js who g kvs r fs c8 c9) = .ok (.nx (tR ps s js who g (cP ps js who (r + 1) kvs) (r + 1) (eR ps js who (kvs.map (·.1)) js) c8' c9')) := by
  have hlen := hj.len
  have h1 := cW (t := tE (e2 (jc) (e2 bx (cV 1) (ad 0)) (eC .none))) (ρ := [.own (.list (x5 kvs ps.length))]) (p := fun i => !cN (kvs.map (·.1)) i) js fun k hk => by
    simp only [List.set_cons_zero, cv, bj, ak, gX, gW, bB, R.ok_bind, zd (hj.inn k hk).1 (hj.inn k hk).2, uR, cL, oZ]
  have h2 := cW (t := tE (kr 4 (aI bN (af (e2 bx (ad 1) (ad 0)) (af (e2 bx (ad 2) (ad 0)) (af (ad 3) (af (ad 4) aH))))))) (ρ := [.val (gD ps), .val (kZ ps js), .val (.int who), .own (.list (x5 kvs ps.length))])
    (p := jq ps js who (kvs.map (·.1))) (js.filter fun i => !cN (kvs.map (·.1)) i) fun k hk => by
    obtain ⟨hkj, hkn⟩ := List.mem_filter.mp hk
    have hb := hj.inn k hkj
    have hg := dI hb.1 hb.2
    have hwl : (bF ps js k).length ≤ 1000 := by
      refine Nat.le_trans (List.length_filter_le ..) ?_
      rw [hg]
      have := hl _ (List.getElem_mem (show k.toNat < ps.length by omega))
      omega
    have hwb : ∀ x ∈ bF ps js k, 0 ≤ x ∧ x < ps.length := fun x hx => by
      have := (List.mem_filter.mp hx).1
      rw [hg] at this
      exact hgo _ (List.getElem_mem _) x this
    have hf := qM (p := ps[k.toNat]'(by omega)) (who := who) (f := look kvs) hwb hwl
    have ho := gB hb.1 hb.2
    have hgk : ((bF ps js k).filter fun g => (look kvs g).isSome) = mE ps js (kvs.map (·.1)) k := by
      unfold mE
      congr 1
      funext g
      exact tM
    rw [hgk, ← ho] at hf
    have e4 : kr 4 (aI bN (af (e2 bx (ad 1) (ad 0)) (af (e2 bx (ad 2) (ad 0)) (af (ad 3) (af (ad 4) aH))))) [.val (.int k), .val (gD ps), .val (kZ ps js), .val (.int who), .own (.list (x5 kvs ps.length))]
      = (mH (aI bN (af (e2 bx (ad 1) (ad 0)) (af (e2 bx (ad 2) (ad 0)) (af (ad 3) (af (ad 4) aH)))) [.val (.int k), .val (gD ps), .val (kZ ps js), .val (.int who), .val (.list (x5 kvs ps.length))]) >>= pZ) := rfl
    have hc := sM (who := who) (kn := kvs.map (·.1)) (hw k hkj)
    rw [hkn, Bool.true_and] at hc
    rw [List.set_cons_zero, cv, e4, aX]
    simp only [aL, aP, bj, ak, am, R.ok_bind, k9 hb.1 hb.2, zd hb.1 hb.2]
    rw [hf, hc]
    rfl
  have hfil : (js.filter fun i => !cN (kvs.map (·.1)) i).filter (jq ps js who (kvs.map (·.1))) = eR ps js who (kvs.map (·.1)) js := by
    unfold eR
    rw [List.filter_filter]
    apply List.filter_congr
    intro x _
    unfold jq
    cases cN (kvs.map (·.1)) x <;> simp
  rw [hfil] at h2
  have hnew : dQ ps.length (eR ps js who (kvs.map (·.1)) js) := hj.filter _
  obtain ⟨c9', e⟩ := Bq (ps := ps) (s := s) (js := js) (who := who) (g := g) (r := r + 1) (fs0 := eR ps js who (kvs.map (·.1)) js) (c8 := .val (.list ((js.filter fun i => !cN (kvs.map (·.1)) i).map .int))) (eR ps js who (kvs.map (·.1)) js) kvs c9 hnew.nd (fun x hx => (nO hx).2) hnew.inn
  refine ⟨.val (.list ((js.filter fun i => !cN (kvs.map (·.1)) i).map .int)), c9', ?_⟩
  unfold vd
  rw [aJ (ρ' := tR ps s js who g kvs (r + 1) fs c8 c9) (by simp only [Ar, am, ak, bB, R.ok_bind, Ei]; rfl)]
  rw [aJ (ρ' := tR ps s js who g kvs (r + 1) fs (.val (.list ((js.filter fun i => !cN (kvs.map (·.1)) i).map .int))) c9) (by
    rw [bp, bi, show aB 1 [5] (tR ps s js who g kvs (r + 1) fs c8 c9) = [.non, .own (.list (x5 kvs ps.length))] from rfl]
    simp only [bX, am, ak, R.ok_bind, hs.seq, cf]
    rw [if_pos (by rw [List.length_map]; exact bD (by omega)), h1]
    rfl)]
  rw [aJ (ρ' := tR ps s js who g kvs (r + 1) (eR ps js who (kvs.map (·.1)) js) (.val (.list ((js.filter fun i => !cN (kvs.map (·.1)) i).map .int))) c9) (by
    rw [bp, bi, show aB 1 [0, 4, 2, 5] (tR ps s js who g kvs (r + 1) fs (.val (.list ((js.filter fun i => !cN (kvs.map (·.1)) i).map .int))) c9) = [.non, .val (gD ps), .val (kZ ps js), .val (.int who), .own (.list (x5 kvs ps.length))] from rfl]
    simp only [bX, am, ak, R.ok_bind, uP, cf]
    rw [if_pos (by rw [List.length_map]; exact bD (Nat.le_trans (List.length_filter_le ..) (by omega))), h2]
    rfl)]
  rw [eE, fG, bX, am, am, am, am, am, am, am, ak, R.ok_bind, uP, R.ok_bind, e]
  rfl
theorem eV {ps : List P4} {js : List Int} {who : Int} {kvs : List (Int × Int)} (h : eR ps js who (kvs.map (·.1)) js = []) : ∀ (n : Nat) (r : Int), hR ps js who r n kvs = kvs
  | 0, r => rfl
  | n + 1, r => by
    show hR ps js who (r + 1) n (cP ps js who r kvs) = kvs
    have : cP ps js who r kvs = kvs := by unfold cP; rw [h]; simp
    rw [this, eV h n]
theorem Bg {ps : List P4} (hl : ∀ p ∈ ps, p.ns.length ≤ 100) (hgo : ∀ p ∈ ps, ∀ x ∈ p.ns, 0 ≤ x ∧ x < ps.length) (hp : ps.length ≤ 24) {s : PyData} {js : List Int} (hs : sx s js) (hj : dQ ps.length js) (hw : gi ps js) {who : Int} {g : PyData} :
    ∀ (k n : Nat) (kvs : List (Int × Int)) (r : Int) (fs : List Int) (c8 c9 : ba), jh js kvs → js.length - kvs.length ≤ k → (fs = [] → eR ps js who (kvs.map (·.1)) js = []) → k + 3 ≤ n →
    ∃ K r' fs' c8' c9', cO (tE (e2 (fD pC) (e1 dE (ad 7)) (eC (.int 0)))) vd n (tR ps s js who g kvs r fs c8 c9) = .ok (.nx (tR ps s js who g K r' fs' c8' c9')) ∧ ∀ N, k + 1 ≤ N → hR ps js who (r + 1) N kvs = K
  | k, 0, kvs, r, fs, c8, c9, _, _, _, h => by omega
  | k, n + 1, kvs, r, fs, c8, c9, hk, hm, hf, hn => by
    rw [kS]
    have ht : tE (e2 (fD pC) (e1 dE (ad 7)) (eC (.int 0))) (tR ps s js who g kvs r fs c8 c9) = .ok (decide (0 < fs.length)) := by
      simp only [cv, bj, bW, am, ak, bB, R.ok_bind, n8, oP, cL, List.length_map]
      congr 1
      simp
    rw [ht, R.ok_bind]
    by_cases h0 : fs = []
    · have hs0 := hf h0
      subst h0
      exact ⟨kvs, r, [], c8, c9, rfl, fun N _ => eV hs0 N _⟩
    · rw [if_pos (decide_eq_true (List.length_pos_iff.mpr h0))]
      obtain ⟨c8', c9', e⟩ := xu hl hgo hp hs hj hw (who := who) (g := g) (kvs := kvs) (r := r) (fs := fs) c8 c9
      rw [e, R.ok_bind, dh]
      by_cases h1 : eR ps js who (kvs.map (·.1)) js = []
      · have w1 : cP ps js who (r + 1) kvs = kvs := by unfold cP; rw [h1]; simp
        rw [h1, w1]
        refine ⟨kvs, r + 1, [], c8', c9', ?_, fun N _ => eV h1 N _⟩
        cases n with
        | zero => omega
        | succ n =>
          rw [kS]
          have ht2 : tE (e2 (fD pC) (e1 dE (ad 7)) (eC (.int 0))) (tR ps s js who g kvs (r + 1) [] c8' c9') = .ok false := rfl
          rw [ht2, R.ok_bind]
          rfl
      · have hk' := hk.round (ps := ps) (who := who) (r := r + 1) hj.nd
        have hkl := hk'.len hj.nd
        have hgrow : kvs.length + 1 ≤ (cP ps js who (r + 1) kvs).length := by
          unfold cP
          rw [List.length_append, List.length_map]
          have := List.length_pos_iff.mpr h1
          omega
        obtain ⟨K, r', fs', d8, d9, w2, w3⟩ := Bg hl hgo hp hs hj hw (who := who) (g := g) (k - 1) n (cP ps js who (r + 1) kvs) (r + 1) (eR ps js who (kvs.map (·.1)) js) c8' c9' hk' (by omega) (fun z => (h1 z).elim) (by omega)
        refine ⟨K, r', fs', d8, d9, w2, fun N hN => ?_⟩
        cases N with
        | zero => omega
        | succ N => exact w3 N (by omega)
theorem mJ {ps : List P4} (hl : ∀ p ∈ ps, p.ns.length ≤ 100) (hgo : ∀ p ∈ ps, ∀ x ∈ p.ns, 0 ≤ x ∧ x < ps.length) (hp : ps.length ≤ 24) {s g : PyData} {js gs : List Int} (hs : sx s js) (hsg : sx g gs) (hj : dQ ps.length js) (hg : dQ ps.length gs) (hsub : ∀ x ∈ gs, x ∈ js) (hw : gi ps js) {who : Int} :
    cj [gD ps, s, .int who, g] = .ok (.tuple (cg (fun i => oD (rK ps js who gs i)) ps.length)) := by
  have hlen := hj.len
  have hglen := hg.len
  have hgj : gs.length ≤ js.length := jL hg.nd hsub
  have hk0 : jh js (gs.map fun i => ((i, 0) : Int × Int)) := by
    have e : (gs.map fun i => ((i, 0) : Int × Int)).map (·.1) = gs := by rw [List.map_map]; exact List.map_id _
    exact ⟨by rw [e]; exact hg.nd, by rw [e]; exact hsub⟩
  have hk0e : (gs.map fun i => ((i, 0) : Int × Int)).map (·.1) = gs := by rw [List.map_map]; exact List.map_id _
  obtain ⟨K, r', fs', d8, d9, w2, w3⟩ := Bg hl hgo hp hs hj hw (who := who) (g := g) (js.length - gs.length) 1000000 (gs.map fun i => (i, 0)) 0 gs .non .non hk0 (by rw [List.length_map]; exact Nat.le_refl _) (fun z => by
    rw [hk0e, z]
    unfold eR
    rw [List.filter_eq_nil_iff]
    intro i _
    rw [fN]
    rintro ⟨_, ⟨g, _, hz⟩, _⟩
    cases hz) (by omega)
  have hK : K = wx ps js who gs ps.length := by
    by_cases h0 : gs = []
    · subst h0
      have hz : eR ps js who (([] : List (Int × Int)).map (·.1)) js = [] := by
        unfold eR
        rw [List.filter_eq_nil_iff]
        intro i _
        rw [fN]
        rintro ⟨_, ⟨g, _, hz⟩, _⟩
        cases hz
      have e4 := w3 (js.length - 0 + 1) (Nat.le_refl _)
      rw [List.map_nil, eV hz] at e4
      rw [← e4]
      unfold wx
      rw [List.map_nil, eV hz]
    · have := List.length_pos_iff.mpr h0
      have e4 := w3 ps.length (by omega)
      rw [← e4]
      rfl
  have hways : bE (aS 0) (fun _ => .ok true) (aI ca (af (e2 bx (ad 0) (eC (.int 3))) (af (ad 1) aH))) [.non, .val s] (ps.map P4.d) = .ok (cg (fun i => .tuple ((bF ps js i).map .int)) ps.length) := by
    have go : ∀ qs : List P4, (∀ p ∈ qs, p.ns.length ≤ 100) → bE (aS 0) (fun _ => .ok true) (aI ca (af (e2 bx (ad 0) (eC (.int 3))) (af (ad 1) aH))) [.non, .val s] (qs.map P4.d) = .ok (qs.map fun p => .tuple ((p.ns.filter (cN js)).map .int)) := by
      intro qs
      induction qs with
      | nil => exact fun _ => cB ..
      | cons p qs ih =>
        intro h
        have hc := pI (s := .tuple (p.ns.map .int)) (ns := p.ns) (.inl rfl) hs (by have := h p List.mem_cons_self; omega)
        rw [List.map_cons, eL, ih fun q hq => h q (List.mem_cons_of_mem _ hq)]
        simp only [R.ok_bind, if_true, List.set_cons_zero, aX, aL, aP, bj, ak, am, bB, nN, hc]
        rfl
    rw [go ps hl]
    congr 1
    refine List.ext_getElem (by rw [List.length_map, bH]) fun k h1 h2 => ?_
    rw [bH] at h2
    have e := gn (f := fun i => .tuple ((bF ps js i).map .int)) (n := ps.length) (i := (k : Int)) (by omega) (by omega)
    simp only [Int.toNat_natCast] at e
    rw [e, List.getElem_map]
    unfold bF
    rw [dI (by omega) (by omega)]
    simp
  have hinit : bE (aS 0) (fun _ => .ok true) (AV (tE (e2 (lH false) (ad 0) (ad 1))) (eC (.int 0)) (eC .none)) [.non, .val g] (bG 0 ps.length) = .ok (x5 (gs.map fun i => (i, 0)) ps.length) :=
    uF _ _ _ _ fun i h0 h1 => by
      simp only [List.set_cons_zero, tV, cv, bj, ak, am, bB, R.ok_bind, hsg.inn, cL, iW]
      cases hm : cN gs i with
      | true => rw [if_pos (bT.mp hm)]; rfl
      | false => rw [if_neg (show ¬ i ∈ gs from fun z => by rw [bT.mpr z] at hm; cases hm)]; rfl
  have hr : pd [.int (ps.length : Int)] = .ok (bG 0 ps.length) := by
    rw [Bm (by omega) (by omega), Int.toNat_natCast]
  have hlst : p8 g = .ok (.list (gs.map .int)) := by rcases hsg with rfl | rfl <;> rfl
  unfold cj kH
  refine dY ?_
  rw [show ([gD ps, s, .int who, g].map ba.val ++ List.replicate (10 - [gD ps, s, .int who, g].length) ba.non) = [.val (gD ps), .val s, .val (.int who), .val g, .non, .non, .non, .non, .non, .non] from rfl]
  rw [aJ (ρ' := [.val (gD ps), .val s, .val (.int who), .val g, .val (kZ ps js), .non, .non, .non, .non, .non]) (by
    rw [bp, bi, show aB 1 [1] [.val (gD ps), .val s, .val (.int who), .val g, .non, .non, .non, .non, .non, .non] = [.non, .val s] from rfl]
    simp only [bX, ak, R.ok_bind, cH, cf]
    rw [if_pos (by rw [List.length_map]; exact bD (by omega)), hways]
    rfl)]
  rw [aJ (ρ' := [.val (gD ps), .val s, .val (.int who), .val g, .val (kZ ps js), .own (.list (x5 (gs.map fun i => (i, 0)) ps.length)), .non, .non, .non, .non]) (by
    rw [nJ, bi, show aB 1 [3] [.val (gD ps), .val s, .val (.int who), .val g, .val (kZ ps js), .non, .non, .non, .non, .non] = [.non, .val g] from rfl]
    simp only [mB, aL, aP, bW, ak, R.ok_bind, kD, List.length_map, hr, cf]
    rw [if_pos (by rw [gG]; exact bD (by omega)), hinit]
    rfl)]
  rw [aJ (ρ' := [.val (gD ps), .val s, .val (.int who), .val g, .val (kZ ps js), .own (.list (x5 (gs.map fun i => (i, 0)) ps.length)), .val (.int 0), .non, .non, .non]) (by rfl)]
  rw [aJ (ρ' := tR ps s js who g (gs.map fun i => (i, 0)) 0 gs .non .non) (by
    simp only [bp, bW, am, ak, R.ok_bind, hlst]
    rfl)]
  rw [aJ (ρ' := tR ps s js who g K r' fs' d8 d9) (by
    rw [eE]
    show mH (cO (tE (e2 (fD pC) (e1 dE (ad 7)) (eC (.int 0)))) vd 1000000 _) = _
    rw [w2]
    rfl)]
  rw [hK]
  rfl
def jd (f : Int → Option Int) (n : Nat) : List Int := (ids n).filter fun i => (f i).isSome
theorem nR (f : Int → Option Int) (n : Nat) : dQ n (jd f n) := (dQ.ids n).filter _
theorem ik {f : Int → Option Int} {n : Nat} {i : Int} : i ∈ jd f n ↔ (0 ≤ i ∧ i < n) ∧ ∃ q, f i = some q := by
  unfold jd
  rw [List.mem_filter, bS, Option.isSome_iff_exists]
theorem ml {f : Int → Option Int} {n : Nat} (hn : n ≤ 1000) : bZ [oT f n] = .ok (.tuple ((jd f n).map .int)) := by
  have hc := jF (t := tE (e2 (lE) (ad 1) (eC .none))) (ρ := []) (p := fun i => (f i).isSome) (g := fun i => oD (f i)) n 0 fun j _ _ => by
    simp only [cv, bj, am, ak, bB, R.ok_bind, vb, cL]
  rw [jZ] at hc
  unfold bZ o9
  refine dY ?_
  rw [show ([oT f n].map ba.val ++ List.replicate (1 - [oT f n].length) ba.non) = [.val (oT f n)] from rfl]
  rw [ci, bW, bi, show aB 2 [] [.val (oT f n)] = [.non, .non] from rfl]
  simp only [jy, ak, R.ok_bind, cH, cf]
  rw [if_pos (by rw [fi, bH]; exact bD hn)]
  rw [show cG 0 (cg (fun i => oD (f i)) n) = cG 0 ((ids n).map fun i => oD (f i)) from rfl, hc]
  rfl
def lO (ps : List P4) (who : Int) (f : Int → Option Int) (i : Int) : Option Int := match f i with
  | some q => if aj ps i = who ∧ 0 < q then ((av ps i).filter fun g => decide (f g = some (q - 1))).head? else none
  | none => none
def vH : Fs := (lI (mM (tE (e2 (iY) (e2 bx (e2 bx (ad 0) (ad 4)) (eC (.int 0))) (ad 1))) (tE (e2 (fD pC) (e2 bx (ad 2) (ad 4)) (eC (.int 0))))) (gN 3 (ad 4) (e2 bx (bL (eB (e2 bx (e2 bx (ad 0) (ad 4)) (eC (.int 3)))) 1 [2, 4] (aS 0) (tE (e2 (iY) (e2 bx (ad 1) (ad 0)) (e2 nz (e2 bx (ad 1) (ad 2)) (eC (.int 1))))) (ad 0)) (eC (.int 0)))) dB)
theorem yu {ps : List P4} (G : Gr ps) {who : Int} {f : Int → Option Int} (hne : ∀ i q, f i = some q → 0 < q → aj ps i = who → ∃ g ∈ av ps i, f g = some (q - 1)) : ∀ (is : List Int) (h : Int → PyData) (c4 : ba), is.Nodup → (∀ x ∈ is, (0 ≤ x ∧ x < ps.length) ∧ (∃ q, f x = some q) ∧ h x = .none) →
    ∃ c4', eS (aS 4) vH (is.map .int) [.val (gD ps), .val (.int who), .val (oT f ps.length), .own (.list (cg h ps.length)), c4] = .ok (.nx [.val (gD ps), .val (.int who), .val (oT f ps.length), .own (.list (cg (fun j => if j ∈ is then oD (lO ps who f j) else h j) ps.length)), c4'])
  | [], h, c4, _, _ => ⟨c4, by rw [List.map_nil, fP]; simp⟩
  | i :: is, h, c4, nd, hb => by
    obtain ⟨n1, n2⟩ := List.nodup_cons.mp nd
    obtain ⟨hi, ⟨q, hq⟩, hh⟩ := hb i List.mem_cons_self
    have ho := gB hi.1 hi.2
    have hg := dI hi.1 hi.2
    obtain ⟨c4', e⟩ := yu G hne is (fun j => if j = i then oD (lO ps who f i) else h j) (.val (.int i)) n2 (fun x hx => ⟨(hb x (List.mem_cons_of_mem _ hx)).1, (hb x (List.mem_cons_of_mem _ hx)).2.1, by
      have : x ≠ i := by rintro rfl; exact n1 hx
      show (if x = i then _ else h x) = _
      rw [if_neg this]
      exact (hb x (List.mem_cons_of_mem _ hx)).2.2⟩)
    refine ⟨c4', ?_⟩
    have fin : cg (fun j => if j ∈ is then oD (lO ps who f j) else (fun j => if j = i then oD (lO ps who f i) else h j) j) ps.length = cg (fun j => if j ∈ i :: is then oD (lO ps who f j) else h j) ps.length := cJ fun j _ _ => by
      by_cases h1 : j = i
      · subst h1
        simp [n1]
      · by_cases h2 : j ∈ is <;> simp [h1, h2]
    rw [fin] at e
    rw [← e, List.map_cons, eP, show (([.val (gD ps), .val (.int who), .val (oT f ps.length), .own (.list (cg h ps.length)), c4] : aN).set 4 (.val (.int i))) = [.val (gD ps), .val (.int who), .val (oT f ps.length), .own (.list (cg h ps.length)), .val (.int i)] from rfl]
    have ht : (mM (tE (e2 (iY) (e2 bx (e2 bx (ad 0) (ad 4)) (eC (.int 0))) (ad 1))) (tE (e2 (fD pC) (e2 bx (ad 2) (ad 4)) (eC (.int 0))))) [.val (gD ps), .val (.int who), .val (oT f ps.length), .own (.list (cg h ps.length)), .val (.int i)] = .ok (decide (aj ps i = who ∧ 0 < q)) := by
      have hrk : bx (oT f ps.length) (.int i) = .ok (.int q) := by rw [mI hi.1 hi.2, hq]; rfl
      simp only [sG, cv, bj, ak, am, bB, R.ok_bind, k9 hi.1 hi.2, qN, fM, cL, hrk, oP]
      rw [← ho]
      by_cases h1 : aj ps i = who
      · by_cases h2 : 0 < q <;> simp [h1, h2]
      · simp [h1]
    have hb1 : vH [.val (gD ps), .val (.int who), .val (oT f ps.length), .own (.list (cg h ps.length)), .val (.int i)] = .ok (.nx [.val (gD ps), .val (.int who), .val (oT f ps.length), .own (.list (cg (fun j => if j = i then oD (lO ps who f i) else h j) ps.length)), .val (.int i)]) := by
      unfold vH
      rw [du, ht, R.ok_bind]
      by_cases hc : aj ps i = who ∧ 0 < q
      · rw [if_pos (decide_eq_true hc)]
        have hcmp := cW (t := tE (e2 (iY) (e2 bx (ad 1) (ad 0)) (e2 nz (e2 bx (ad 1) (ad 2)) (eC (.int 1))))) (ρ := [.val (oT f ps.length), .val (.int i)]) (p := fun g => decide (f g = some (q - 1))) (av ps i) fun k hk => by
          have hkb := G.goals hk
          have hrk : bx (oT f ps.length) (.int i) = .ok (.int q) := by rw [mI hi.1 hi.2, hq]; rfl
          simp only [List.set_cons_zero, cv, bj, ak, am, bB, R.ok_bind, mI hkb.1 hkb.2, hrk, uO, u5, cL]
        obtain ⟨g, hg1, hg2⟩ := hne i q hq hc.2 hc.1
        have hm : lO ps who f i = ((av ps i).filter fun g => decide (f g = some (q - 1))).head? := by
          unfold lO
          rw [hq]
          exact if_pos hc
        have hmem : g ∈ (av ps i).filter fun g => decide (f g = some (q - 1)) := List.mem_filter.mpr ⟨hg1, decide_eq_true hg2⟩
        cases hL : (av ps i).filter fun g => decide (f g = some (q - 1)) with
        | nil => rw [hL] at hmem; cases hmem
        | cons v r =>
          rw [hL] at hm hcmp
          rw [nC (ds := cg h ps.length) (n := i) (v := .int v) rfl rfl ?_ hi.1 (by rw [bH]; exact hi.2), nF hi.1 hi.2, hm]
          · rfl
          · rw [bj, bi, show aB 1 [2, 4] [.val (gD ps), .val (.int who), .val (oT f ps.length), .own (.list (cg h ps.length)), .val (.int i)] = [.non, .val (oT f ps.length), .val (.int i)] from rfl]
            simp only [bX, bj, ak, am, bB, R.ok_bind, k9 hi.1 hi.2, nN, cH, cf]
            rw [← hg, if_pos (by rw [List.length_map]; exact bD (by have := G.glen i; omega)), hcmp, gK, R.ok_bind, vK (by omega) (by simp)]
            rfl
      · rw [if_neg (by rw [decide_eq_true_iff]; exact hc)]
        have hm : lO ps who f i = none := by
          unfold lO
          rw [hq]
          exact if_neg hc
        rw [rZ, hm]
        congr 3
        rw [cJ fun j _ _ => ?_]
        by_cases h1 : j = i
        · subst h1; rw [if_pos rfl, hh]; rfl
        · rw [if_neg h1]
    rw [hb1, R.ok_bind, dh]
theorem ir {ps : List P4} (G : Gr ps) {who : Int} {f : Int → Option Int} (hne : ∀ i q, f i = some q → 0 < q → aj ps i = who → ∃ g ∈ av ps i, f g = some (q - 1)) :
    aZ [gD ps, .int who, oT f ps.length] = .ok (oT (lO ps who f) ps.length) := by
  have hp := G.hp
  have h0 : bE (aS 0) (fun _ => .ok true) (eC .none) [.non] (cg (fun i => oD (f i)) ps.length) = .ok (cg (fun _ => .none) ps.length) := by
    have := eN (eC .none) [.non] 0 (fun _ => .none) (cg (fun i => oD (f i)) ps.length) fun d _ => rfl
    rw [this]
    unfold cg
    rw [List.map_map]
    rfl
  obtain ⟨c4, e⟩ := yu G hne (jd f ps.length) (fun _ => .none) .non (nR f ps.length).nd fun x hx => ⟨(ik.mp hx).1, (ik.mp hx).2, rfl⟩
  have fin : cg (fun j => if j ∈ jd f ps.length then oD (lO ps who f j) else .none) ps.length = cg (fun j => oD (lO ps who f j)) ps.length := cJ fun j h1 h2 => by
    by_cases h : j ∈ jd f ps.length
    · rw [if_pos h]
    · rw [if_neg h]
      have : f j = none := by
        cases hf : f j with
        | none => rfl
        | some q => exact (h (ik.mpr ⟨⟨h1, h2⟩, q, hf⟩)).elim
      unfold lO
      rw [this]
      rfl
  rw [fin] at e
  unfold aZ gc
  refine dY ?_
  rw [show ([gD ps, .int who, oT f ps.length].map ba.val ++ List.replicate (5 - [gD ps, .int who, oT f ps.length].length) ba.non) = [.val (gD ps), .val (.int who), .val (oT f ps.length), .non, .non] from rfl]
  rw [aJ (ρ' := [.val (gD ps), .val (.int who), .val (oT f ps.length), .own (.list (cg (fun _ => .none) ps.length)), .non]) (by
    rw [nJ, bi, show aB 1 [] [.val (gD ps), .val (.int who), .val (oT f ps.length), .non, .non] = [.non] from rfl]
    simp only [bX, ak, am, R.ok_bind, cH, cf]
    rw [if_pos (by rw [bH]; exact bD (by omega)), h0]
    rfl)]
  rw [aJ (ρ' := [.val (gD ps), .val (.int who), .val (oT f ps.length), .own (.list (cg (fun j => oD (lO ps who f j)) ps.length)), c4]) (by
    rw [eE, fG, bX]
    simp only [aX, aL, aP, ak, am, R.ok_bind, ml (show ps.length ≤ 1000 by omega), cH]
    unfold vH at e
    rw [e]
    rfl)]
  rfl
theorem kO {ps : List P4} {js : List Int} {who : Int} {gs : List Int} {rk : Int → Option Int} (A : tm ps js who gs rk) : ∀ i q, rk i = some q → 0 < q → aj ps i = who → ∃ g ∈ av ps i, rk g = some (q - 1) := fun i q h1 h2 h3 => by
  obtain ⟨g, hg, e⟩ := A.own i q h1 h2 h3
  exact ⟨g, (List.mem_filter.mp hg).1, e⟩
def wW : List PyData → Prop := fun ds => ∀ x ∈ ds, ic x ∧ x.depth = 0
theorem wW.dep : ∀ {ds : List PyData}, wW ds → PyData.depthAll ds = 0
  | [], _ => by simp [PyData.depthAll]
  | d :: ds, h => by simp [PyData.depthAll, (h d List.mem_cons_self).2, wW.dep fun x hx => h x (List.mem_cons_of_mem _ hx)]
theorem wW.good {ds : List PyData} (h : wW ds) : ic (.tuple ds) := kQ.mpr fun x hx => (h x hx).1
theorem zG (o : Option Int) : ic (oD o) ∧ (oD o).depth = 0 := by
  cases o
  · exact ⟨xc, by simp [oD, PyData.depth]⟩
  · exact ⟨r8 _, by simp [oD, PyData.depth]⟩
theorem rD (f : Int → Option Int) (n : Nat) : wW (cg (fun i => oD (f i)) n) := fun x hx => by
  obtain ⟨i, _, rfl⟩ := List.mem_map.mp hx
  exact zG _
theorem vL (f : Int → Option Int) (n : Nat) : ic (oT f n) := (rD f n).good
theorem Do {ps : List P4} {hi : Int} (hp : ∀ p ∈ ps, Pl ps.length hi p) (h24 : (ps.length : Int) ≤ 24) : Gr ps :=
  ⟨fun p h => by have := (hp p h).len; omega, fun p h => (hp p h).inn, by omega, fun p h => (hp p h).so, fun p h => (hp p h).ne⟩
theorem Gr.gne {ps : List P4} (G : Gr ps) {i : Int} (h0 : 0 ≤ i) (h1 : i < ps.length) : ∃ g, g ∈ av ps i := by
  have := G.ne _ (List.getElem_mem (show i.toNat < ps.length by omega))
  rw [← dI h0 h1] at this
  exact List.exists_mem_of_ne_nil _ this
theorem xh {ps : List P4} (G : Gr ps) : gi ps (ids ps.length) := fun i hi => by
  obtain ⟨h0, h1⟩ := bS.mp hi
  obtain ⟨g, hg⟩ := G.gne h0 h1
  exact ⟨g, List.mem_filter.mpr ⟨hg, bT.mpr (bS.mpr (G.goals hg))⟩⟩
theorem r9 {n : Nat} (h : n ≤ 1000) : CV .tuple [.int (n : Int)] = .ok (.tuple ((ids n).map .int)) := by
  rw [Dl (by omega) (by omega), kM]
  rfl
def iu (js : List Int) (some : List Int) : List Int := js.filter fun i => !cN some i
theorem bu {js some : List Int} {i : Int} : i ∈ iu js some ↔ i ∈ js ∧ i ∉ some := by
  unfold iu
  rw [List.mem_filter, Bool.not_eq_true', ← Bool.not_eq_true, bT]
theorem mK {ps : List P4} (hp : ps.length ≤ 1000) : bM [gD ps] = .ok (.tuple (cg (fun _ => .none) ps.length)) := by
  have h0 : bE (aS 0) (fun _ => .ok true) (eC .none) [.non] (ps.map P4.d) = .ok (cg (fun _ => .none) ps.length) := by
    have := eN (eC .none) [.non] 0 (fun _ => .none) (ps.map P4.d) fun d _ => rfl
    rw [this]
    congr 1
    refine List.ext_getElem (by rw [List.length_map, List.length_map, bH]) fun k h1 h2 => ?_
    rw [bH] at h2
    have e := gn (f := fun _ => .none) (n := ps.length) (i := (k : Int)) (by omega) (by omega)
    simp only [Int.toNat_natCast] at e
    rw [e, List.getElem_map]
  unfold bM ky
  refine dY ?_
  rw [show ([gD ps].map ba.val ++ List.replicate (1 - [gD ps].length) ba.non) = [.val (gD ps)] from rfl]
  rw [ci, bW, bi, show aB 1 [] [.val (gD ps)] = [.non] from rfl]
  simp only [bX, ak, R.ok_bind, cH, cf]
  rw [if_pos (by rw [List.length_map]; exact bD hp), h0]
  rfl
def eZ (ps : List P4) (who : Int) (part : List Int) (i : Int) : Option Int := if i ∈ part ∧ aj ps i = who then (bF ps part i).head? else none
def vw : Fs := (lI (tE (e2 (iY) (e2 bx (e2 bx (ad 0) (ad 4)) (eC (.int 0))) (ad 1))) (gN 3 (ad 4) (e2 bx (aI ca (af (e2 bx (e2 bx (ad 0) (ad 4)) (eC (.int 3))) (af (ad 2) aH))) (eC (.int 0)))) dB)
theorem yK {ps : List P4} (G : Gr ps) {who : Int} {s : PyData} {part : List Int} (hs : sx s part) (hj : dQ ps.length part) (hne : ∀ i ∈ part, aj ps i = who → ∃ g, g ∈ bF ps part i) : ∀ (is : List Int) (h : Int → PyData) (c4 : ba), is.Nodup → (∀ x ∈ is, x ∈ part ∧ h x = .none) →
    ∃ c4', eS (aS 4) vw (is.map .int) [.val (gD ps), .val (.int who), .val s, .own (.list (cg h ps.length)), c4] = .ok (.nx [.val (gD ps), .val (.int who), .val s, .own (.list (cg (fun j => if j ∈ is then oD (eZ ps who part j) else h j) ps.length)), c4'])
  | [], h, c4, _, _ => ⟨c4, by rw [List.map_nil, fP]; simp⟩
  | i :: is, h, c4, nd, hb => by
    obtain ⟨n1, n2⟩ := List.nodup_cons.mp nd
    obtain ⟨hip, hh⟩ := hb i List.mem_cons_self
    have hi := hj.inn i hip
    have ho := gB hi.1 hi.2
    have hg := dI hi.1 hi.2
    obtain ⟨c4', e⟩ := yK G hs hj hne is (fun j => if j = i then oD (eZ ps who part i) else h j) (.val (.int i)) n2 (fun x hx => ⟨(hb x (List.mem_cons_of_mem _ hx)).1, by
      have : x ≠ i := by rintro rfl; exact n1 hx
      show (if x = i then _ else h x) = _
      rw [if_neg this]
      exact (hb x (List.mem_cons_of_mem _ hx)).2⟩)
    refine ⟨c4', ?_⟩
    have fin : cg (fun j => if j ∈ is then oD (eZ ps who part j) else (fun j => if j = i then oD (eZ ps who part i) else h j) j) ps.length = cg (fun j => if j ∈ i :: is then oD (eZ ps who part j) else h j) ps.length := cJ fun j _ _ => by
      by_cases h1 : j = i
      · subst h1
        simp [n1]
      · by_cases h2 : j ∈ is <;> simp [h1, h2]
    rw [fin] at e
    rw [← e, List.map_cons, eP, show (([.val (gD ps), .val (.int who), .val s, .own (.list (cg h ps.length)), c4] : aN).set 4 (.val (.int i))) = [.val (gD ps), .val (.int who), .val s, .own (.list (cg h ps.length)), .val (.int i)] from rfl]
    have ht : (tE (e2 (iY) (e2 bx (e2 bx (ad 0) (ad 4)) (eC (.int 0))) (ad 1))) [.val (gD ps), .val (.int who), .val s, .own (.list (cg h ps.length)), .val (.int i)] = .ok (decide (aj ps i = who)) := by
      simp only [cv, bj, ak, am, bB, R.ok_bind, k9 hi.1 hi.2, qN, fM, cL]
      rw [← ho]
    have hb1 : vw [.val (gD ps), .val (.int who), .val s, .own (.list (cg h ps.length)), .val (.int i)] = .ok (.nx [.val (gD ps), .val (.int who), .val s, .own (.list (cg (fun j => if j = i then oD (eZ ps who part i) else h j) ps.length)), .val (.int i)]) := by
      unfold vw
      rw [du, ht, R.ok_bind]
      by_cases hc : aj ps i = who
      · rw [if_pos (decide_eq_true hc)]
        have hcm := pI (s := .tuple ((av ps i).map .int)) (ns := av ps i) (.inl rfl) hs (by have := G.glen i; omega)
        obtain ⟨g, hg1⟩ := hne i hip hc
        have hm : eZ ps who part i = (bF ps part i).head? := if_pos ⟨hip, hc⟩
        have hw : (av ps i).filter (cN part) = bF ps part i := rfl
        rw [hw] at hcm
        cases hL : bF ps part i with
        | nil => rw [hL] at hg1; cases hg1
        | cons v r =>
          rw [hL] at hm hcm
          rw [nC (ds := cg h ps.length) (n := i) (v := .int v) rfl rfl ?_ hi.1 (by rw [bH]; exact hi.2), nF hi.1 hi.2, hm]
          · rfl
          · simp only [bj, aX, aL, aP, ak, am, bB, R.ok_bind, k9 hi.1 hi.2, nN]
            rw [← hg, hcm, R.ok_bind, u6 (by omega) (by simp)]
            rfl
      · rw [if_neg (by rw [decide_eq_true_iff]; exact hc)]
        have hm : eZ ps who part i = none := if_neg fun z => hc z.2
        rw [rZ, hm]
        congr 3
        rw [cJ fun j _ _ => ?_]
        by_cases h1 : j = i
        · subst h1; rw [if_pos rfl, hh]; rfl
        · rw [if_neg h1]
    rw [hb1, R.ok_bind, dh]
theorem mn {ps : List P4} (G : Gr ps) {who : Int} {s : PyData} {part : List Int} (hs : sx s part) (hj : dQ ps.length part) (hne : ∀ i ∈ part, aj ps i = who → ∃ g, g ∈ bF ps part i) :
    bn [gD ps, .int who, s] = .ok (oT (eZ ps who part) ps.length) := by
  have hp := G.hp
  have hn := mK (ps := ps) (by omega)
  obtain ⟨c4, e⟩ := yK G hs hj hne part (fun _ => .none) .non hj.nd fun x hx => ⟨hx, rfl⟩
  have fin : cg (fun j => if j ∈ part then oD (eZ ps who part j) else .none) ps.length = cg (fun j => oD (eZ ps who part j)) ps.length := cJ fun j h1 h2 => by
    by_cases h : j ∈ part
    · rw [if_pos h]
    · rw [if_neg h]
      have : eZ ps who part j = none := if_neg fun z => h z.1
      rw [this]
      rfl
  rw [fin] at e
  unfold bn fZ
  refine dY ?_
  rw [show ([gD ps, .int who, s].map ba.val ++ List.replicate (5 - [gD ps, .int who, s].length) ba.non) = [.val (gD ps), .val (.int who), .val s, .non, .non] from rfl]
  rw [aJ (ρ' := [.val (gD ps), .val (.int who), .val s, .own (.list (cg (fun _ => .none) ps.length)), .non]) (by
    simp only [nJ, bW, aX, aL, aP, ak, R.ok_bind, hn, zY]
    rfl)]
  rw [aJ (ρ' := [.val (gD ps), .val (.int who), .val s, .own (.list (cg (fun j => oD (eZ ps who part j)) ps.length)), c4]) (by
    rw [eE, fG, bX]
    simp only [ak, am, R.ok_bind, hs.seq]
    unfold vw at e
    rw [e]
    rfl)]
  rfl
theorem DZ (ns : List Int) (i : Int) (neg : Bool) : lH neg (.int i) (.tuple (ns.map .int)) = .ok (.bool (if neg then !(ns.any fun j => decide (j = i)) else ns.any fun j => decide (j = i))) := BT ns i neg
def CU (ns : List Int) : PyData → Bool
  | .none => true
  | .int i => ns.any fun j => decide (j = i)
  | _ => false
def nZ (ps : List P4) : PyData → Bool
  | .tuple ds => decide (ds.length = ps.length) && (ds.zip ps).all fun q => CU q.2.ns q.1
  | _ => false
theorem qb {ps : List P4} {f : Int → Option Int} (h : ∀ i g, f i = some g → g ∈ av ps i) : nZ ps (oT f ps.length) = true := by
  show (decide _ && _) = true
  rw [decide_eq_true (bH ..), Bool.true_and, List.all_eq_true]
  intro q hq
  obtain ⟨k, hk, e⟩ := List.mem_iff_getElem.mp hq
  rw [List.length_zip, bH, Nat.min_self] at hk
  rw [List.getElem_zip] at e
  have e2 := gn (f := fun i => oD (f i)) (n := ps.length) (i := (k : Int)) (by omega) (by omega)
  simp only [Int.toNat_natCast] at e2
  rw [e2] at e
  subst e
  cases hf : f (k : Int) with
  | none => rfl
  | some g =>
    have := h _ _ hf
    rw [dI (by omega) (by omega)] at this
    simp only [Int.toNat_natCast] at this
    exact bT.mpr this
structure Sh where
  w : Int
  pl : List Int
  mv : Int → Option Int
abbrev zH : List Str := ["who", "places", "moves"]
def i6 (c : Addr) (n : Nat) (s : Sh) : PyData := yU c zH [.int s.w, .tuple (s.pl.map .int), oT s.mv n]
theorem uU (c : Addr) (n : Nat) (s : Sh) : i6 c n s = .dict [(.none, .int c), (.str "who", .int s.w), (.str "places", .tuple (s.pl.map .int)), (.str "moves", oT s.mv n)] := rfl
theorem AL (c : Addr) (n : Nat) (s : Sh) : kc c "who" (i6 c n s) = .ok (.int s.w) := by
  rw [uU]
  show (if (c : Int) = (c : Int) then (if ("who" : Str) = "who" then R.ok _ else _) else .no) = _
  rw [if_pos rfl, if_pos rfl]
theorem o6 (c : Addr) (n : Nat) (s : Sh) : kc c "places" (i6 c n s) = .ok (.tuple (s.pl.map .int)) := by
  rw [uU]
  show (if (c : Int) = (c : Int) then (if ("who" : Str) = "places" then _ else if ("places" : Str) = "places" then R.ok _ else _) else .no) = _
  rw [if_pos rfl, if_neg (by decide +kernel), if_pos rfl]
theorem wD (c : Addr) (n : Nat) (s : Sh) : kc c "moves" (i6 c n s) = .ok (oT s.mv n) := by
  rw [uU]
  show (if (c : Int) = (c : Int) then (if ("who" : Str) = "moves" then _ else if ("places" : Str) = "moves" then _ else if ("moves" : Str) = "moves" then R.ok _ else _) else .no) = _
  rw [if_pos rfl, if_neg (by decide +kernel), if_neg (by decide +kernel), if_pos rfl]
theorem Au {f g h : Int → PyData} {n : Nat} {fe : Fe} {ρ : aN} (hh : ∀ i : Int, 0 ≤ i → i < n → fe (.val (f i) :: .val (g i) :: ρ) = .ok (h i)) : bE (cK 0 1) (fun _ => .ok true) fe (.non :: .non :: ρ) (gt (cg f n) (cg g n)) = .ok (cg h n) := by
  have go : ∀ is : List Int, (∀ i ∈ is, 0 ≤ i ∧ i < n) → bE (cK 0 1) (fun _ => .ok true) fe (.non :: .non :: ρ) (gt (is.map f) (is.map g)) = .ok (is.map h) := by
    intro is
    induction is with
    | nil => intro _; unfold gt; simp [cB]
    | cons i is ih =>
      intro hb
      have e : gt ((i :: is).map f) ((i :: is).map g) = .tuple [f i, g i] :: gt (is.map f) (is.map g) := rfl
      rw [e, gF, ih fun x hx => hb x (List.mem_cons_of_mem _ hx)]
      have := hh i (hb i List.mem_cons_self).1 (hb i List.mem_cons_self).2
      simp only [R.ok_bind, if_true, List.set_cons_zero, List.set_cons_succ, this]
      rfl
  exact go (ids n) fun i hi => bS.mp hi
def dZ (f g : Int → Option Int) (i : Int) : Option Int := (f i).or (g i)
theorem nA {f g : Int → Option Int} {n : Nat} (hn : n ≤ 1000) : aC [oT f n, oT g n] = .ok (oT (dZ f g) n) := by
  have hc := Au (f := fun i => oD (f i)) (g := fun i => oD (g i)) (h := fun i => oD (dZ f g i)) (n := n) (ρ := []) (fe := AV (tE (e2 (jc) (ad 0) (eC .none))) (ad 1) (ad 0)) fun i _ _ => by
    simp only [tV, cv, bj, ak, am, bB, R.ok_bind, uR, cL]
    unfold dZ
    cases f i <;> rfl
  unfold aC ge
  refine dY ?_
  rw [show ([oT f n, oT g n].map ba.val ++ List.replicate (2 - [oT f n, oT g n].length) ba.non) = [.val (oT f n), .val (oT g n)] from rfl]
  rw [ci, bW, bi, show aB 2 [] [.val (oT f n), .val (oT g n)] = [.non, .non] from rfl]
  simp only [vi, ak, am, R.ok_bind, cH, cf]
  rw [if_pos (by rw [jH, bH, bH, Nat.min_self]; exact bD hn), hc]
  rfl
theorem pD {ps : List P4} (hp : ps.length ≤ 1000) : cq [gD ps] = .ok (.tuple ((ids ps.length).map .int)) := by
  have hrt := r9 (n := ps.length) hp
  have hlen : dE (gD ps) = .ok (.int ps.length) := by simp
  unfold cq iF
  refine dY ?_
  rw [show ([gD ps].map ba.val ++ List.replicate (1 - [gD ps].length) ba.non) = [.val (gD ps)] from rfl]
  simp only [ci, yf, aL, aP, bW, ak, R.ok_bind, hlen, hrt]
def yF (s : Sh) (f : Int → Option Int) (i : Int) : Option Int := if i ∈ s.pl then some s.w else f i
def mD : (Int → Option Int) → List Sh → Int → Option Int
  | f, [] => f
  | f, s :: l => mD (yF s f) l
def sP : (Int → Option Int) → List Sh → Int → Option Int
  | f, [] => f
  | f, s :: l => sP (dZ f s.mv) l
theorem yR {c : Addr} {n : Nat} {a b m : PyData} {s : Sh} : ∀ (is : List Int) (f : Int → Option Int) (c5 : ba), (∀ x ∈ is, 0 ≤ x ∧ x < n) →
    ∃ c5', eS (aS 5) (gN 2 (ad 5) (e1 (kc c "who") (ad 4))) (is.map .int) [.val a, .val b, .own (.list (cg (fun i => oD (f i)) n)), .val m, .val (i6 c n s), c5] = .ok (.nx [.val a, .val b, .own (.list (cg (fun i => oD (if i ∈ is then some s.w else f i)) n)), .val m, .val (i6 c n s), c5'])
  | [], f, c5, _ => ⟨c5, by rw [List.map_nil, fP]; simp⟩
  | i :: is, f, c5, hb => by
    obtain ⟨h0, h1⟩ := hb i List.mem_cons_self
    obtain ⟨c5', e⟩ := yR (c := c) (n := n) (a := a) (b := b) (m := m) (s := s) is (fun j => if j = i then some s.w else f j) (.val (.int i)) fun x hx => hb x (List.mem_cons_of_mem _ hx)
    refine ⟨c5', ?_⟩
    rw [List.map_cons, eP]
    rw [show (([.val a, .val b, .own (.list (cg (fun i => oD (f i)) n)), .val m, .val (i6 c n s), c5] : aN).set 5 (.val (.int i))) = [.val a, .val b, .own (.list (cg (fun i => oD (f i)) n)), .val m, .val (i6 c n s), .val (.int i)] from rfl]
    rw [nC (ds := cg (fun i => oD (f i)) n) (n := i) (v := .int s.w) rfl rfl (by simp only [bW, am, ak, R.ok_bind, AL]) h0 (by rw [bH]; exact h1), R.ok_bind, dh, nF h0 h1]
    have ht : cg (fun j => if j = i then PyData.int s.w else oD (f j)) n = cg (fun j => oD (if j = i then some s.w else f j)) n := cJ fun j _ _ => by split <;> rfl
    have ht2 : cg (fun j => oD (if j ∈ is then some s.w else if j = i then some s.w else f j)) n = cg (fun j => oD (if j ∈ i :: is then some s.w else f j)) n := cJ fun j _ _ => by
      by_cases z1 : j ∈ is
      · simp [z1]
      · by_cases z2 : j = i <;> simp [z1, z2]
    rw [ht, ← ht2]
    exact e
def qR (c : Addr) : Fs := (aT (ia (i9 (eB (e1 (kc c "places") (ad 4))) (aS 5) (gN 2 (ad 5) (e1 (kc c "who") (ad 4))))) (bQ 3 (aI aC (af (ad 3) (af (e1 (kc c "moves") (ad 4)) aH)))))
theorem u9 {c : Addr} {n : Nat} (hn : n ≤ 1000) {a b : PyData} : ∀ (l : List Sh) (f m : Int → Option Int) (c4 c5 : ba), (∀ s ∈ l, ∀ x ∈ s.pl, 0 ≤ x ∧ x < n) →
    ∃ c4' c5', eS (aS 4) (qR c) (l.map (i6 c n)) [.val a, .val b, .own (.list (cg (fun i => oD (f i)) n)), .val (oT m n), c4, c5] = .ok (.nx [.val a, .val b, .own (.list (cg (fun i => oD (mD f l i)) n)), .val (oT (sP m l) n), c4', c5'])
  | [], f, m, c4, c5, _ => ⟨c4, c5, by rw [List.map_nil, fP]; rfl⟩
  | s :: l, f, m, c4, c5, hb => by
    obtain ⟨d5, e1⟩ := yR (c := c) (n := n) (a := a) (b := b) (m := oT m n) (s := s) s.pl f c5 (hb s List.mem_cons_self)
    obtain ⟨c4', c5', e⟩ := u9 (c := c) hn (a := a) (b := b) l (yF s f) (dZ m s.mv) (.val (i6 c n s)) d5 fun t ht => hb t (List.mem_cons_of_mem _ ht)
    refine ⟨c4', c5', ?_⟩
    rw [List.map_cons, eP]
    rw [show (([.val a, .val b, .own (.list (cg (fun i => oD (f i)) n)), .val (oT m n), c4, c5] : aN).set 4 (.val (i6 c n s))) = [.val a, .val b, .own (.list (cg (fun i => oD (f i)) n)), .val (oT m n), .val (i6 c n s), c5] from rfl]
    have hb1 : qR c [.val a, .val b, .own (.list (cg (fun i => oD (f i)) n)), .val (oT m n), .val (i6 c n s), c5] = .ok (.nx [.val a, .val b, .own (.list (cg (fun i => oD (yF s f i)) n)), .val (oT (dZ m s.mv) n), .val (i6 c n s), d5]) := by
      unfold qR
      rw [aJ (ρ' := [.val a, .val b, .own (.list (cg (fun i => oD (yF s f i)) n)), .val (oT m n), .val (i6 c n s), d5]) (by
        rw [eE, fG, bX, bW]
        simp only [am, ak, R.ok_bind, o6, cH]
        rw [e1]
        rfl)]
      simp only [bp, aX, aL, aP, bW, am, ak, R.ok_bind, wD, nA hn]
      rfl
    rw [hb1, R.ok_bind, dh, e]
    rfl
theorem Ds {ps : List P4} (hp : ps.length ≤ 1000) {c : Addr} {l : List Sh} (hb : ∀ s ∈ l, ∀ x ∈ s.pl, 0 ≤ x ∧ x < ps.length) :
    aW c [gD ps, .list (l.map (i6 c ps.length))] = .ok (.tuple [oT (mD (fun _ => none) l) ps.length, oT (sP (fun _ => none) l) ps.length]) := by
  obtain ⟨c4, c5, e⟩ := u9 (c := c) hp (a := gD ps) (b := .list (l.map (i6 c ps.length))) l (fun _ => none) (fun _ => none) .non .non hb
  have h0 : bE (aS 0) (fun _ => .ok true) (eC .none) [.non] (ps.map P4.d) = .ok (cg (fun _ => oD none) ps.length) := by
    have := eN (eC .none) [.non] 0 (fun _ => .none) (ps.map P4.d) fun d _ => rfl
    rw [this]
    congr 1
    refine List.ext_getElem (by rw [List.length_map, List.length_map, bH]) fun k h1 h2 => ?_
    rw [bH] at h2
    have e := gn (f := fun _ => oD none) (n := ps.length) (i := (k : Int)) (by omega) (by omega)
    simp only [Int.toNat_natCast] at e
    rw [e, List.getElem_map]
    rfl
  have hn := mK (ps := ps) hp
  unfold aW ed
  refine dY ?_
  rw [show ([gD ps, .list (l.map (i6 c ps.length))].map ba.val ++ List.replicate (6 - [gD ps, .list (l.map (i6 c ps.length))].length) ba.non) = [.val (gD ps), .val (.list (l.map (i6 c ps.length))), .non, .non, .non, .non] from rfl]
  rw [aJ (ρ' := [.val (gD ps), .val (.list (l.map (i6 c ps.length))), .own (.list (cg (fun _ => oD none) ps.length)), .non, .non, .non]) (by
    rw [nJ, bi, show aB 1 [] [.val (gD ps), .val (.list (l.map (i6 c ps.length))), .non, .non, .non, .non] = [.non] from rfl]
    simp only [bX, ak, R.ok_bind, cH, cf]
    rw [if_pos (by rw [List.length_map]; exact bD hp), h0]
    rfl)]
  rw [aJ (ρ' := [.val (gD ps), .val (.list (l.map (i6 c ps.length))), .own (.list (cg (fun _ => oD none) ps.length)), .val (oT (fun _ => none) ps.length), .non, .non]) (by
    simp only [bp, aX, aL, aP, ak, R.ok_bind, hn]
    rfl)]
  rw [aJ (ρ' := [.val (gD ps), .val (.list (l.map (i6 c ps.length))), .own (.list (cg (fun i => oD (mD (fun _ => none) l i)) ps.length)), .val (oT (sP (fun _ => none) l) ps.length), c4, c5]) (by
    rw [eE, fG, bX]
    simp only [am, ak, R.ok_bind, uP]
    unfold qR at e
    rw [e]
    rfl)]
  simp only [ci, nK, aL, aP, bW, gX, gW, am, ak, R.ok_bind, jt]
  rfl
def Wy (ps : List P4) (js : List Int) (w : Int) (mv : Int → Option Int) (i g : Int) : Prop := (aj ps i = w ∧ mv i = some g) ∨ (aj ps i ≠ w ∧ g ∈ bF ps js i)
theorem fU {ps : List P4} {js : List Int} {i g : Int} (h : g ∈ bF ps js i) : g ∈ js := bT.mp (List.mem_filter.mp h).2
theorem eO {ps : List P4} {js : List Int} {i g : Int} (h : g ∈ bF ps js i) : g ∈ av ps i := (List.mem_filter.mp h).1
theorem iX {ps : List P4} {js : List Int} {i g : Int} (h : g ∈ av ps i) (h2 : g ∈ js) : g ∈ bF ps js i := List.mem_filter.mpr ⟨h, bT.mpr h2⟩
theorem vO {ps : List P4} {js gs : List Int} {who : Int} {rk : Int → Option Int} (A : tm ps js who gs rk) {i q : Int} (h : rk i = some q) (hq : 0 < q) (ho : aj ps i = who) : ∃ g, lO ps who rk i = some g ∧ g ∈ bF ps js i ∧ rk g = some (q - 1) := by
  obtain ⟨g, g1, g2⟩ := kO A i q h hq ho
  have hm : lO ps who rk i = ((av ps i).filter fun g => decide (rk g = some (q - 1))).head? := by
    unfold lO
    rw [h]
    exact if_pos ⟨ho, hq⟩
  have hmem : g ∈ (av ps i).filter fun g => decide (rk g = some (q - 1)) := List.mem_filter.mpr ⟨g1, decide_eq_true g2⟩
  cases hL : (av ps i).filter fun g => decide (rk g = some (q - 1)) with
  | nil => rw [hL] at hmem; cases hmem
  | cons v r =>
    rw [hL] at hm
    have hv : v ∈ (av ps i).filter fun g => decide (rk g = some (q - 1)) := by rw [hL]; exact List.mem_cons_self
    have h2 := of_decide_eq_true (List.mem_filter.mp hv).2
    exact ⟨v, hm, iX (List.mem_filter.mp hv).1 (A.sub v _ h2), h2⟩
theorem gA {ps : List P4} {who : Int} {rk : Int → Option Int} {i : Int} (h : aj ps i ≠ who ∨ rk i = none ∨ rk i = some 0) : lO ps who rk i = none := by
  unfold lO
  rcases h with h | h | h
  · cases rk i with
    | none => rfl
    | some q => exact if_neg fun z => h z.1
  · rw [h]
  · rw [h]
    exact if_neg fun z => by omega
theorem wA {ps : List P4} {who : Int} {part : List Int} {i : Int} (hi : i ∈ part) (ho : aj ps i = who) (hw : ∃ g, g ∈ bF ps part i) : ∃ g, eZ ps who part i = some g ∧ g ∈ bF ps part i := by
  have hm : eZ ps who part i = (bF ps part i).head? := if_pos ⟨hi, ho⟩
  obtain ⟨g, hg⟩ := hw
  cases hL : bF ps part i with
  | nil => rw [hL] at hg; cases hg
  | cons v r =>
    rw [hL] at hm
    exact ⟨v, hm, List.mem_cons_self⟩
theorem uq {ps : List P4} {who : Int} {part : List Int} {i : Int} (h : i ∉ part ∨ aj ps i ≠ who) : eZ ps who part i = none := if_neg fun z => h.elim (fun y => y z.1) fun y => y z.2
inductive pV (E : Int → Int → Prop) (al : Int → Prop) (s : Int) : Int → Prop
  | one {x : Int} : E s x → al x → pV E al s x
  | more {x y : Int} : pV E al s x → E x y → al y → pV E al s y
theorem pV.al {E : Int → Int → Prop} {al : Int → Prop} {s x : Int} (h : pV E al s x) : al x := by cases h <;> assumption
theorem pV.imp {E E' : Int → Int → Prop} {al al' : Int → Prop} {s t : Int} (h : pV E al s t) (h1 : ∀ y, E s y → al y → E' s y ∧ al' y) (h2 : ∀ x y, al x → E x y → al y → E' x y ∧ al' y) : pV E' al' s t := by
  induction h with
  | one a b => exact .one (h1 _ a b).1 (h1 _ a b).2
  | more r a b ih => exact .more ih (h2 _ _ r.al a b).1 (h2 _ _ r.al a b).2
theorem pV.inn {E : Int → Int → Prop} {al : Int → Prop} {s t : Int} {P : Int → Prop} (h : pV E al s t) (hs : P s) (hP : ∀ x y, P x → E x y → al y → P y) : pV E (fun x => al x ∧ P x) s t := by
  induction h with
  | one a b => exact .one a ⟨b, hP _ _ hs a b⟩
  | more r a b ih => exact .more ih a ⟨b, hP _ _ ih.al.2 a b⟩
theorem pV.out {E : Int → Int → Prop} {al : Int → Prop} {s t : Int} {P : Int → Prop} (h : pV E al s t) (ht : ¬ P t) (hP : ∀ x y, al x → P x → E x y → al y → P y) : pV E (fun x => al x ∧ ¬ P x) s t := by
  induction h with
  | one a b => exact .one a ⟨b, ht⟩
  | more r a b ih =>
    have hx := fun z => ht (hP _ _ r.al z a b)
    exact .more (ih hx) a ⟨b, ht⟩
theorem pV.less {E : Int → Int → Prop} {al : Int → Prop} {s t : Int} {φ : Int → Int} (h : pV E al s t) (h1 : ∀ y, E s y → al y → φ y < φ s) (h2 : ∀ x y, al x → E x y → al y → φ y ≤ φ x) : φ t < φ s := by
  induction h with
  | one a b => exact h1 _ a b
  | more r a b ih =>
    have := h2 _ _ r.al a b
    omega
structure tS (ps : List P4) (js : List Int) (win : Int → Int) (mv : Int → Option Int) : Prop where
  two : ∀ i ∈ js, win i = 0 ∨ win i = 1
  has : ∀ i ∈ js, aj ps i = win i → ∃ g, mv i = some g ∧ g ∈ av ps i
  non : ∀ i ∈ js, aj ps i ≠ win i → mv i = none
  stay : ∀ i ∈ js, ∀ g, Wy ps js (win i) mv i g → g ∈ js ∧ win g = win i
  good : ∀ i ∈ js, aD ps i % 2 ≠ win i → ¬ pV (Wy ps js (win i) mv) (fun x => x ∈ js ∧ win x = win i ∧ aD ps x ≤ aD ps i) i i
structure gP (ps : List P4) (js : List Int) (s : Sh) : Prop where
  two : s.w = 0 ∨ s.w = 1
  sub : ∀ i ∈ s.pl, i ∈ js
  ne : s.pl ≠ []
  has : ∀ i ∈ s.pl, aj ps i = s.w → ∃ g, s.mv i = some g ∧ g ∈ av ps i
  non : ∀ i, (i ∉ s.pl ∨ aj ps i ≠ s.w) → s.mv i = none
  stay : ∀ i ∈ s.pl, ∀ g, Wy ps js s.w s.mv i g → g ∈ s.pl
  outO : ∀ i ∈ js, i ∉ s.pl → aj ps i = s.w → ∀ g ∈ bF ps js i, g ∉ s.pl
  outX : ∀ i ∈ js, i ∉ s.pl → aj ps i ≠ s.w → ∃ g ∈ bF ps js i, g ∉ s.pl
  good : ∀ i ∈ s.pl, aD ps i % 2 ≠ s.w → ¬ pV (Wy ps js s.w s.mv) (fun x => x ∈ s.pl ∧ aD ps x ≤ aD ps i) i i
theorem kl {ps : List P4} {K : List Int} {w : Int} {m1 m2 : Int → Option Int} {i g : Int} (e : m1 i = m2 i) (h : Wy ps K w m1 i g) : Wy ps K w m2 i g := by
  rcases h with ⟨a, b⟩ | h
  · exact .inl ⟨a, by rw [← e]; exact b⟩
  · exact .inr h
theorem gP.whole {ps : List P4} {js : List Int} {s : Sh} (S : gP ps js s) (hw : gi ps js) : gi ps (iu js s.pl) := by
  intro i hi
  obtain ⟨h1, h2⟩ := bu.mp hi
  have fin : ∀ g ∈ bF ps js i, g ∉ s.pl → ∃ g, g ∈ bF ps (iu js s.pl) i := fun g g1 g2 => ⟨g, iX (eO g1) (bu.mpr ⟨fU g1, g2⟩)⟩
  by_cases ho : aj ps i = s.w
  · obtain ⟨g, hg⟩ := hw i h1
    exact fin g hg (S.outO i h1 h2 ho g hg)
  · obtain ⟨g, g1, g2⟩ := S.outX i h1 h2 ho
    exact fin g g1 g2
theorem xA {ps : List P4} {js : List Int} (hown : ∀ i ∈ js, aj ps i = 0 ∨ aj ps i = 1) {s : Sh} (S : gP ps js s) {win : Int → Int} {mv : Int → Option Int} (I : tS ps (iu js s.pl) win mv) :
    tS ps js (fun i => if i ∈ s.pl then s.w else win i) (fun i => if i ∈ s.pl then s.mv i else mv i) := by
  have wP : ∀ {i}, i ∈ s.pl → (if i ∈ s.pl then s.w else win i) = s.w := fun h => if_pos h
  have wR : ∀ {i}, i ∉ s.pl → (if i ∈ s.pl then s.w else win i) = win i := fun h => if_neg h
  have mP : ∀ {i}, i ∈ s.pl → (if i ∈ s.pl then s.mv i else mv i) = s.mv i := fun h => if_pos h
  have mR : ∀ {i}, i ∉ s.pl → (if i ∈ s.pl then s.mv i else mv i) = mv i := fun h => if_neg h
  have goR : ∀ i g, i ∈ js → i ∉ s.pl → Wy ps js (win i) mv i g → (g ∈ js ∧ g ∉ s.pl ∧ Wy ps (iu js s.pl) (win i) mv i g) ∨ (win i = s.w ∧ g ∈ s.pl) := fun i g hi hn h => by
    have hi' := bu.mpr ⟨hi, hn⟩
    rcases h with ⟨ho, hm⟩ | ⟨ho, hm⟩
    · have w : Wy ps (iu js s.pl) (win i) mv i g := .inl ⟨ho, hm⟩
      obtain ⟨z1, z2⟩ := bu.mp (I.stay i hi' g w).1
      exact .inl ⟨z1, z2, w⟩
    · by_cases hg : g ∈ s.pl
      · right
        refine ⟨?_, hg⟩
        have h1 : aj ps i ≠ s.w := fun z => S.outO i hi hn z g hm hg
        have := hown i hi
        have := I.two i hi'
        have := S.two
        omega
      · exact .inl ⟨fU hm, hg, .inr ⟨ho, iX (eO hm) (bu.mpr ⟨fU hm, hg⟩)⟩⟩
  refine ⟨fun i hi => ?_, fun i hi ho => ?_, fun i hi ho => ?_, fun i hi g hg => ?_, fun i hi hm hp => ?_⟩
  · by_cases h : i ∈ s.pl
    · rw [wP h]; exact S.two
    · rw [wR h]; exact I.two i (bu.mpr ⟨hi, h⟩)
  · by_cases h : i ∈ s.pl
    · rw [mP h]; exact S.has i h (ho.trans (wP h))
    · rw [mR h]; exact I.has i (bu.mpr ⟨hi, h⟩) (ho.trans (wR h))
  · by_cases h : i ∈ s.pl
    · rw [mP h]; exact S.non i (.inr fun z => ho (z.trans (wP h).symm))
    · rw [mR h]; exact I.non i (bu.mpr ⟨hi, h⟩) fun z => ho (z.trans (wR h).symm)
  · by_cases h : i ∈ s.pl
    · rw [wP h] at hg ⊢
      have := S.stay i h g (kl (mP h) hg)
      exact ⟨S.sub g this, wP this⟩
    · rw [wR h] at hg ⊢
      rcases goR i g hi h (kl (mR h) hg) with ⟨z1, z2, z3⟩ | ⟨z1, z2⟩
      · refine ⟨z1, ?_⟩
        rw [wR z2]
        exact (I.stay i (bu.mpr ⟨hi, h⟩) g z3).2
      · refine ⟨S.sub g z2, ?_⟩
        rw [wP z2]
        exact z1.symm
  · by_cases h : i ∈ s.pl
    · rw [wP h] at hm hp
      refine S.good i h hm ?_
      refine (hp.inn (P := fun x => x ∈ s.pl) h fun x y hx e _ => S.stay x hx y (kl (mP hx) e)).imp (fun y e a => ⟨kl (mP h) e, a.2, a.1.2.2⟩) fun x y ax e a => ⟨kl (mP ax.2) e, a.2, a.1.2.2⟩
    · rw [wR h] at hm hp
      refine I.good i (bu.mpr ⟨hi, h⟩) hm ?_
      have hp2 := hp.out (P := fun x => x ∈ s.pl) h fun x y ax hx e a => by
        have hw : s.w = win i := (wP hx).symm.trans ax.2.1
        exact S.stay x hx y (kl (mP hx) (by rw [hw]; exact e))
      have st : ∀ x y, x ∈ js → x ∉ s.pl → win x = win i → Wy ps js (win i) (fun i => if i ∈ s.pl then s.mv i else mv i) x y → (y ∈ js ∧ (if y ∈ s.pl then s.w else win y) = win i ∧ aD ps y ≤ aD ps i) ∧ y ∉ s.pl → Wy ps (iu js s.pl) (win i) mv x y ∧ (y ∈ iu js s.pl ∧ win y = win i ∧ aD ps y ≤ aD ps i) := fun x y hx hxn hwx e a => by
        refine ⟨?_, bu.mpr ⟨a.1.1, a.2⟩, (wR a.2).symm.trans a.1.2.1, a.1.2.2⟩
        rcases goR x y hx hxn (by rw [hwx]; exact kl (mR hxn) e) with ⟨_, _, z⟩ | ⟨_, z⟩
        · rw [hwx] at z; exact z
        · exact (a.2 z).elim
      exact hp2.imp (fun y e a => st i y hi h rfl e a) fun x y ax e a => st x y ax.1.1 ax.2 ((wR ax.2).symm.trans ax.1.2.1) e a
theorem AK {ps : List P4} (win : Int → Int) (mv : Int → Option Int) : tS ps [] win mv := by
  refine ⟨?_, ?_, ?_, ?_, ?_⟩ <;> intro i hi <;> cases hi
section
variable {ps : List P4} {js : List Int} (hj : dQ ps.length js) (hw : gi ps js) (hown : ∀ i ∈ js, aj ps i = 0 ∨ aj ps i = 1) {h w : Int} (ew : w = h % 2) (hmax : ∀ i ∈ js, aD ps i ≤ h)
  {tops : List Int} (htop : ∀ i, i ∈ tops ↔ i ∈ js ∧ aD ps i = h) {rk : Int → Option Int} (A : tm ps js w tops rk) {sub : List Int} (hsub : ∀ i, i ∈ sub ↔ i ∈ js ∧ rk i = none) {win : Int → Int} {mv : Int → Option Int} (I : tS ps sub win mv) (hmv : ∀ i, i ∉ sub → mv i = none)
include hj hw hown ew hmax htop A hsub I hmv
theorem wp (hne : js ≠ []) (hl : ∀ i ∈ sub, win i = w) : gP ps js ⟨w, js, dZ (dZ (lO ps w rk) mv) (eZ ps w js)⟩ := by
  have w01 : w = 0 ∨ w = 1 := by omega
  obtain ⟨M, eM⟩ : ∃ M, M = dZ (dZ (lO ps w rk) mv) (eZ ps w js) := ⟨_, rfl⟩
  rw [← eM]
  -- the move at a place of w
  have own : ∀ i ∈ js, aj ps i = w → ∃ g, M i = some g ∧ g ∈ av ps i ∧ g ∈ js ∧ (∀ q, rk i = some q → 0 < q → rk g = some (q - 1)) ∧ (rk i = none → mv i = some g) := fun i hi ho => by
    rw [eM]
    unfold dZ
    cases hr : rk i with
    | none =>
      have his := (hsub i).mpr ⟨hi, hr⟩
      obtain ⟨g, g1, g2⟩ := I.has i his (by rw [hl i his]; exact ho)
      have gs := (I.stay i his g (by rw [hl i his]; exact .inl ⟨ho, g1⟩)).1
      exact ⟨g, by rw [gA (.inr (.inl hr)), g1]; rfl, g2, ((hsub g).mp gs).1, (fun q z => nomatch z), fun _ => g1⟩
    | some q =>
      by_cases hq : 0 < q
      · obtain ⟨g, g1, g2, g3⟩ := vO A hr hq ho
        exact ⟨g, by rw [g1]; rfl, eO g2, fU g2, fun q' z _ => by cases z; exact g3, fun z => by cases z⟩
      · obtain ⟨g, g1, g2⟩ := wA hi ho (hw i hi)
        have h0 : q = 0 := by have := A.nneg i q hr; omega
        have hn : mv i = none := hmv i fun z => by have := ((hsub i).mp z).2; rw [hr] at this; cases this
        refine ⟨g, by rw [gA (.inr (.inr (by rw [hr, h0]))), hn, g1]; rfl, eO g2, fU g2, fun q' z y => by cases z; omega, fun z => by cases z⟩
  refine ⟨w01, fun i hi => hi, hne, fun i hi ho => ?_, fun i hi => ?_, fun i hi g hg => ?_, fun i hi hn => (hn hi).elim, fun i hi hn => (hn hi).elim, fun i hi hm hp => ?_⟩
  · obtain ⟨g, g1, g2, _⟩ := own i hi ho
    exact ⟨g, g1, g2⟩
  · show M i = none
    rw [eM]
    unfold dZ
    rw [uq hi]
    rcases hi with hi | hi
    · have hr : rk i = none := by
        cases hr : rk i with
        | none => rfl
        | some q => exact (hi (A.sub i q hr)).elim
      rw [gA (.inr (.inl hr)), hmv i fun z => hi ((hsub i).mp z).1]
      rfl
    · rw [gA (.inl hi)]
      by_cases his : i ∈ sub
      · rw [I.non i his (by rw [hl i his]; exact hi)]; rfl
      · rw [hmv i his]; rfl
  · show g ∈ js
    rcases hg with ⟨ho, hm⟩ | ⟨_, hm⟩
    · obtain ⟨g', g1, _, g3, _⟩ := own i hi ho
      rw [show M i = some g from hm] at g1
      cases g1
      exact g3
    · exact fU hm
  · -- a bad ring
    have hm' : aD ps i % 2 ≠ w := hm
    have hlt : aD ps i < h := by
      have := hmax i hi
      by_cases z : aD ps i = h
      · rw [z] at hm'; exact (hm' ew.symm).elim
      · omega
    have dec : ∀ x y q, x ∈ js → aD ps x ≤ aD ps i → rk x = some q → Wy ps js w M x y → ∃ t, rk y = some t ∧ t < q := fun x y q hx hmx hq e => by
      have hpos : 0 < q := by
        have := A.nneg x q hq
        by_cases z : q = 0
        · subst z
          have := ((htop x).mp ((A.zero x).mp hq)).2
          omega
        · omega
      rcases e with ⟨ho, hmv'⟩ | ⟨ho, hmv'⟩
      · obtain ⟨g, g1, _, _, g4, _⟩ := own x hx ho
        rw [hmv'] at g1
        cases g1
        exact ⟨q - 1, g4 q hq hpos, by omega⟩
      · exact (A.oth x q hq hpos ho).2 y hmv'
    by_cases hri : rk i = none
    · -- all of it lies in what is left
      have his := (hsub i).mpr ⟨hi, hri⟩
      have hp2 := hp.out (P := fun x => ∃ q, rk x = some q) (by rintro ⟨q, hq⟩; rw [hri] at hq; cases hq) fun x y ax ⟨q, hq⟩ e _ => by
        obtain ⟨t, ht, _⟩ := dec x y q ax.1 ax.2 hq e
        exact ⟨t, ht⟩
      have non : ∀ {x}, ¬ (∃ q, rk x = some q) → rk x = none := fun {x} z => by
        cases hr : rk x with
        | none => rfl
        | some q => exact (z ⟨q, hr⟩).elim
      refine I.good i his (by rw [hl i his]; exact hm') ?_
      rw [hl i his]
      have st : ∀ x y, x ∈ js → rk x = none → Wy ps js w M x y → (y ∈ js ∧ aD ps y ≤ aD ps i) ∧ ¬ (∃ q, rk y = some q) → Wy ps sub w mv x y ∧ (y ∈ sub ∧ win y = w ∧ aD ps y ≤ aD ps i) := fun x y hx hrx e a => by
        have hys := (hsub y).mpr ⟨a.1.1, non a.2⟩
        refine ⟨?_, hys, hl y hys, a.1.2⟩
        rcases e with ⟨ho, hmv'⟩ | ⟨ho, hmv'⟩
        · obtain ⟨g, g1, _, _, _, g5⟩ := own x hx ho
          rw [hmv'] at g1
          cases g1
          exact .inl ⟨ho, g5 hrx⟩
        · exact .inr ⟨ho, iX (eO hmv') hys⟩
      exact hp2.imp (fun y e a => st i y hi hri e a) fun x y ax e a => st x y ax.1.1 (non ax.2) e a
    · -- ranks fall
      obtain ⟨q0, hq0⟩ : ∃ q, rk i = some q := by
        cases hr : rk i with
        | none => exact (hri hr).elim
        | some q => exact ⟨q, rfl⟩
      have hp2 := hp.inn (P := fun x => x ∈ js ∧ aD ps x ≤ aD ps i ∧ ∃ q, rk x = some q) ⟨hi, Int.le_refl _, q0, hq0⟩ fun x y ⟨hx, hmx, q, hq⟩ e a => by
        obtain ⟨t, ht, _⟩ := dec x y q hx hmx hq e
        exact ⟨a.1, a.2, t, ht⟩
      have fall : ∀ x y, x ∈ js → aD ps x ≤ aD ps i → (∃ q, rk x = some q) → Wy ps js w M x y → (rk y).getD 0 < (rk x).getD 0 := fun x y hx hmx ⟨q, hq⟩ e => by
        obtain ⟨t, ht, hlt'⟩ := dec x y q hx hmx hq e
        rw [ht, hq]
        exact hlt'
      have := hp2.less (φ := fun x => (rk x).getD 0) (fun y e _ => fall i y hi (Int.le_refl _) ⟨q0, hq0⟩ e) fun x y ax e _ => by
        have := fall x y ax.2.1 ax.2.2.1 ax.2.2.2 e
        omega
      exact absurd this (Int.lt_irrefl _)
theorem tT {lost : List Int} (hlost : ∀ i, i ∈ lost ↔ i ∈ sub ∧ win i = 1 - w) (hne : lost ≠ []) {rk2 : Int → Option Int} (B : tm ps js (1 - w) lost rk2) {pl : List Int} (hpl : ∀ i, i ∈ pl ↔ ∃ q, rk2 i = some q) :
    gP ps js ⟨1 - w, pl, dZ (lO ps (1 - w) rk2) (fun i => if i ∈ lost then mv i else none)⟩ := by
  have w01 : w = 0 ∨ w = 1 := by omega
  obtain ⟨M, eM⟩ : ∃ M, M = dZ (lO ps (1 - w) rk2) (fun i => if i ∈ lost then mv i else none) := ⟨_, rfl⟩
  rw [← eM]
  have l0 : ∀ {i}, i ∈ lost → rk2 i = some 0 := fun {i} hi => (B.zero i).mpr hi
  have own : ∀ i q, rk2 i = some q → aj ps i = 1 - w → ∃ g, M i = some g ∧ g ∈ av ps i ∧ ((0 < q ∧ rk2 g = some (q - 1)) ∨ (q = 0 ∧ g ∈ lost ∧ mv i = some g)) := fun i q hq ho => by
    rw [eM]
    unfold dZ
    by_cases hp : 0 < q
    · obtain ⟨g, g1, g2, g3⟩ := vO B hq hp ho
      exact ⟨g, by rw [g1]; rfl, eO g2, .inl ⟨hp, g3⟩⟩
    · have h0 : q = 0 := by have := B.nneg i q hq; omega
      have hi : i ∈ lost := (B.zero i).mp (by rw [hq, h0])
      obtain ⟨hs, hwi⟩ := (hlost i).mp hi
      obtain ⟨g, g1, g2⟩ := I.has i hs (by rw [hwi]; exact ho)
      obtain ⟨s1, s2⟩ := I.stay i hs g (by rw [hwi]; exact .inl ⟨ho, g1⟩)
      refine ⟨g, ?_, g2, .inr ⟨h0, (hlost g).mpr ⟨s1, s2.trans hwi⟩, g1⟩⟩
      rw [gA (.inr (.inr (by rw [hq, h0])))]
      show (if i ∈ lost then mv i else none) = _
      rw [if_pos hi, g1]
  have go : ∀ i q g, rk2 i = some q → Wy ps js (1 - w) M i g → ∃ t, rk2 g = some t ∧ ((t < q) ∨ (q = 0 ∧ t = 0 ∧ Wy ps sub (1 - w) mv i g)) := fun i q g hq e => by
    rcases e with ⟨ho, hm⟩ | ⟨ho, hm⟩
    · obtain ⟨g', g1, _, g3⟩ := own i q hq ho
      rw [hm] at g1
      cases g1
      rcases g3 with ⟨z1, z2⟩ | ⟨z1, z2, z3⟩
      · exact ⟨q - 1, z2, .inl (by omega)⟩
      · exact ⟨0, l0 z2, .inr ⟨z1, rfl, .inl ⟨ho, z3⟩⟩⟩
    · by_cases hp : 0 < q
      · obtain ⟨t, t1, t2⟩ := (B.oth i q hq hp ho).2 g hm
        exact ⟨t, t1, .inl t2⟩
      · have h0 : q = 0 := by have := B.nneg i q hq; omega
        have hi : i ∈ lost := (B.zero i).mp (by rw [hq, h0])
        obtain ⟨hs, hwi⟩ := (hlost i).mp hi
        obtain ⟨hij, hin⟩ := (hsub i).mp hs
        have how : aj ps i = w := by have := hown i hij; omega
        have hgs : g ∈ sub := (hsub g).mpr ⟨fU hm, A.outO i hij hin how g hm⟩
        have wy : Wy ps sub (1 - w) mv i g := .inr ⟨ho, iX (eO hm) hgs⟩
        obtain ⟨s1, s2⟩ := I.stay i hs g (by rw [hwi]; exact wy)
        exact ⟨0, l0 ((hlost g).mpr ⟨s1, s2.trans hwi⟩), .inr ⟨h0, rfl, wy⟩⟩
  refine ⟨by show 1 - w = 0 ∨ 1 - w = 1; omega, fun i hi => ?_, ?_, fun i hi ho => ?_, fun i hi => ?_, fun i hi g hg => ?_, fun i hi hn ho g hg hgp => ?_, fun i hi hn ho => ?_, fun i hi hm hp => ?_⟩
  · obtain ⟨q, hq⟩ := (hpl i).mp hi
    exact B.sub i q hq
  · obtain ⟨i, hi⟩ := List.exists_mem_of_ne_nil _ hne
    exact List.ne_nil_of_mem ((hpl i).mpr ⟨0, l0 hi⟩)
  · obtain ⟨q, hq⟩ := (hpl i).mp hi
    obtain ⟨g, g1, g2, _⟩ := own i q hq ho
    exact ⟨g, g1, g2⟩
  · show M i = none
    rw [eM]
    unfold dZ
    rcases hi with hi | hi
    · have hr : rk2 i = none := by
        cases hr : rk2 i with
        | none => rfl
        | some q => exact (hi ((hpl i).mpr ⟨q, hr⟩)).elim
      rw [gA (.inr (.inl hr))]
      show (if i ∈ lost then mv i else none) = _
      rw [if_neg fun z => by rw [l0 z] at hr; cases hr]
    · rw [gA (.inl hi)]
      show (if i ∈ lost then mv i else none) = _
      by_cases z : i ∈ lost
      · obtain ⟨hs, hwi⟩ := (hlost i).mp z
        rw [if_pos z, I.non i hs (by rw [hwi]; exact hi)]
      · rw [if_neg z]
  · obtain ⟨q, hq⟩ := (hpl i).mp hi
    obtain ⟨t, ht, _⟩ := go i q g hq hg
    exact (hpl g).mpr ⟨t, ht⟩
  · have hr : rk2 i = none := by
      cases hr : rk2 i with
      | none => rfl
      | some q => exact (hn ((hpl i).mpr ⟨q, hr⟩)).elim
    obtain ⟨q, hq⟩ := (hpl g).mp hgp
    rw [B.outO i hi hr ho g hg] at hq
    cases hq
  · have hr : rk2 i = none := by
      cases hr : rk2 i with
      | none => rfl
      | some q => exact (hn ((hpl i).mpr ⟨q, hr⟩)).elim
    obtain ⟨g, g1, g2⟩ := B.outX i hi hr ho (hw i hi)
    refine ⟨g, g1, fun z => ?_⟩
    obtain ⟨q, hq⟩ := (hpl g).mp z
    rw [g2] at hq
    cases hq
  · -- a bad ring
    have hi' : i ∈ pl := hi
    have hm' : aD ps i % 2 ≠ 1 - w := hm
    obtain ⟨q0, hq0⟩ := (hpl i).mp hi'
    have le : ∀ x y, x ∈ pl → Wy ps js (1 - w) M x y → (rk2 y).getD 0 ≤ (rk2 x).getD 0 := fun x y hx e => by
      obtain ⟨q, hq⟩ := (hpl x).mp hx
      obtain ⟨t, ht, z⟩ := go x q y hq e
      rw [hq, ht]
      show t ≤ q
      omega
    by_cases hz : q0 = 0
    · subst hz
      have hil : i ∈ lost := (B.zero i).mp hq0
      obtain ⟨his, hwi⟩ := (hlost i).mp hil
      have hp2 := hp.inn (P := fun x => x ∈ lost) hil fun x y hx e _ => by
        obtain ⟨t, ht, z⟩ := go x 0 y (l0 hx) e
        have := B.nneg y t ht
        have t0 : t = 0 := by omega
        exact (B.zero y).mp (by rw [ht, t0])
      refine I.good i his (by rw [hwi]; exact hm') ?_
      rw [hwi]
      have st : ∀ x y, x ∈ lost → Wy ps js (1 - w) M x y → (y ∈ pl ∧ aD ps y ≤ aD ps i) ∧ y ∈ lost → Wy ps sub (1 - w) mv x y ∧ (y ∈ sub ∧ win y = 1 - w ∧ aD ps y ≤ aD ps i) := fun x y hx e a => by
        obtain ⟨s1, s2⟩ := (hlost y).mp a.2
        refine ⟨?_, s1, s2, a.1.2⟩
        obtain ⟨t, ht, z⟩ := go x 0 y (l0 hx) e
        have := B.nneg y t ht
        rcases z with z | ⟨_, _, z⟩
        · omega
        · exact z
      exact hp2.imp (fun y e a => st i y hil e a) fun x y ax e a => st x y ax.2 e a
    · have := hp.less (φ := fun x => (rk2 x).getD 0) (fun y e _ => by
        obtain ⟨t, ht, z⟩ := go i q0 y hq0 e
        show (rk2 y).getD 0 < (rk2 i).getD 0
        rw [ht, hq0]
        show t < q0
        omega) fun x y ax e _ => le x y ax.1 e
      exact absurd this (Int.lt_irrefl _)
end
theorem sI {f : Int → Option Int} {n : Nat} (hn : n ≤ 1000) {s : PyData} {js : List Int} (hs : sx s js) : cD [oT f n, s] = .ok (oT (fun i => if i ∈ js then f i else none) n) := by
  have hc := oV (fe := AV (tE (e2 (lH false) (ad 0) (ad 2))) (ad 1) (eC .none)) (ρ := [.val s]) (g := fun i => oD (f i)) (h := fun i => oD (if i ∈ js then f i else none)) n 0 fun j _ _ => by
    simp only [tV, cv, bj, am, ak, bB, R.ok_bind, hs.inn, cL]
    cases hm : cN js j with
    | true => rw [if_pos (bT.mp hm)]; rfl
    | false => rw [if_neg (show ¬ (j : Int) ∈ js from fun z => by rw [bT.mpr z] at hm; cases hm)]; rfl
  rw [jZ] at hc
  unfold cD kF
  refine dY ?_
  rw [show ([oT f n, s].map ba.val ++ List.replicate (2 - [oT f n, s].length) ba.non) = [.val (oT f n), .val s] from rfl]
  rw [ci, bW, bi, show aB 2 [1] [.val (oT f n), .val s] = [.non, .non, .val s] from rfl]
  simp only [jy, ak, R.ok_bind, cH, cf]
  rw [if_pos (by rw [fi, bH]; exact bD hn)]
  rw [show cG 0 (cg (fun i => oD (f i)) n) = cG 0 ((ids n).map fun i => oD (f i)) from rfl, hc]
  rfl
def kX (sub : List Int) (win : Int → Int) (i : Int) : Option Int := if i ∈ sub then some (win i) else none
section
variable {ps : List P4} (G : Gr ps) {c : Addr} {k : Nat} {js : List Int} (hj : dQ ps.length js) (hw : gi ps js) (hne : js ≠ []) (hown : ∀ i ∈ js, aj ps i = 0 ∨ aj ps i = 1)
include G hj hw hne hown
theorem yX (ih : ∀ (h : Int) (sub : List Int), dQ ps.length sub → gi ps sub → (∀ i ∈ sub, i ∈ js ∧ aD ps i < h) → (∃ i ∈ js, aD ps i = h) → ∃ win mv, aG c k [gD ps, .tuple (sub.map .int)] = .ok (.tuple [oT (kX sub win) ps.length, oT mv ps.length]) ∧ tS ps sub win mv ∧ ∀ i, i ∉ sub → mv i = none) :
    ∃ s, aU c k [gD ps, .tuple (js.map .int)] = .ok (i6 c ps.length s) ∧ gP ps js s ∧ dQ ps.length s.pl := by
  have hp := G.hp
  have hjl := hj.len
  obtain ⟨h, hmx, htopx, hmax⟩ := qe (ps := ps) hne
  obtain ⟨w, ew⟩ : ∃ w, w = h % 2 := ⟨_, rfl⟩
  have w01 : w = 0 ∨ w = 1 := by omega
  obtain ⟨tops, etops⟩ : ∃ tops, tops = js.filter fun i => decide (aD ps i = h) := ⟨_, rfl⟩
  have htop : ∀ i, i ∈ tops ↔ i ∈ js ∧ aD ps i = h := fun i => by rw [etops, List.mem_filter, decide_eq_true_iff]
  have tp : dQ ps.length tops := by rw [etops]; exact hj.filter _
  obtain ⟨rk, erk⟩ : ∃ rk, rk = rK ps js w tops := ⟨_, rfl⟩
  have A : tm ps js w tops rk := by rw [erk]; exact vN tp.nd (fun x hx => ((htop x).mp hx).1) hj.nd hj.len
  have h1 := mJ G.hl G.hgo G.hp (s := .tuple (js.map .int)) (g := .list (tops.map .int)) (.inl rfl) (.inr rfl) hj tp (fun x hx => ((htop x).mp hx).1) hw (who := w)
  rw [← erk] at h1
  have h2 := ml (f := rk) (n := ps.length) (by omega)
  have h3 := oU (s := .tuple (js.map .int)) (t := .tuple ((jd rk ps.length).map .int)) (.inl rfl) (.inl rfl) (by omega)
  obtain ⟨sub, esub⟩ : ∃ sub, sub = iu js (jd rk ps.length) := ⟨_, rfl⟩
  have hsub : ∀ i, i ∈ sub ↔ i ∈ js ∧ rk i = none := fun i => by
    rw [esub, bu, ik]
    constructor
    · rintro ⟨a, b⟩
      refine ⟨a, ?_⟩
      cases hr : rk i with
      | none => rfl
      | some q => exact (b ⟨hj.inn i a, q, hr⟩).elim
    · rintro ⟨a, b⟩
      exact ⟨a, fun ⟨_, q, hq⟩ => by rw [b] at hq; cases hq⟩
  have sp : dQ ps.length sub := by rw [esub]; exact hj.filter _
  have sw : gi ps sub := by
    intro i hi
    obtain ⟨a, b⟩ := (hsub i).mp hi
    have fin : ∀ g ∈ bF ps js i, rk g = none → ∃ g, g ∈ bF ps sub i := fun g g1 g2 => ⟨g, iX (eO g1) ((hsub g).mpr ⟨fU g1, g2⟩)⟩
    by_cases ho : aj ps i = w
    · obtain ⟨g, hg⟩ := hw i a
      exact fin g hg (A.outO i a b ho g hg)
    · obtain ⟨g, g1, g2⟩ := A.outX i a b ho (hw i a)
      exact fin g g1 g2
  obtain ⟨win, mv, h4, I, hmv⟩ := ih h sub sp sw (fun i hi => by
    obtain ⟨a, b⟩ := (hsub i).mp hi
    refine ⟨a, ?_⟩
    have := hmax i a
    by_cases z : aD ps i = h
    · have := (A.zero i).mpr ((htop i).mpr ⟨a, z⟩)
      rw [b] at this
      cases this
    · omega) htopx
  have h5 := ir G (kO A)
  -- the lists
  have hmarks : bE (aS 0) (fun _ => .ok true) (e2 bx (e2 bx (ad 1) (ad 0)) (eC (.int 1))) [.non, .val (gD ps)] (js.map .int) = .ok ((js.map (aD ps)).map .int) := by
    have go : ∀ is : List Int, (∀ x ∈ is, 0 ≤ x ∧ x < ps.length) → bE (aS 0) (fun _ => .ok true) (e2 bx (e2 bx (ad 1) (ad 0)) (eC (.int 1))) [.non, .val (gD ps)] (is.map .int) = .ok ((is.map (aD ps)).map .int) := by
      intro is
      induction is with
      | nil => exact fun _ => cB ..
      | cons i is ih' =>
        intro hb
        obtain ⟨b0, b1⟩ := hb i List.mem_cons_self
        rw [List.map_cons, eL, ih' fun x hx => hb x (List.mem_cons_of_mem _ hx)]
        simp only [R.ok_bind, if_true, List.set_cons_zero, bj, ak, am, bB, k9 b0 b1, uT]
        rw [← jP b0 b1]
        rfl
    exact go js hj.inn
  have htops := cW (t := tE (e2 (iY) (e2 bx (e2 bx (ad 1) (ad 0)) (eC (.int 1))) (ad 2))) (ρ := [.val (gD ps), .val (.int h)]) (p := fun i => decide (aD ps i = h)) js fun i hi => by
    obtain ⟨b0, b1⟩ := hj.inn i hi
    simp only [List.set_cons_zero, cv, bj, ak, am, bB, R.ok_bind, k9 b0 b1, uT, fM, cL]
    rw [← jP b0 b1]
  rw [← etops] at htops
  obtain ⟨lost, elost⟩ : ∃ lost, lost = (ids ps.length).filter fun i => decide (kX sub win i = some (1 - w)) := ⟨_, rfl⟩
  have hlost : ∀ i, i ∈ lost ↔ i ∈ sub ∧ win i = 1 - w := fun i => by
    rw [elost, List.mem_filter, decide_eq_true_iff]
    unfold kX
    constructor
    · rintro ⟨a, b⟩
      split at b
      · rename_i z; exact ⟨z, Option.some.inj b⟩
      · cases b
    · rintro ⟨a, b⟩
      exact ⟨bS.mpr (sp.inn i a), by rw [if_pos a, b]⟩
  have lp : dQ ps.length lost := by rw [elost]; exact (dQ.ids _).filter _
  have hlist := jF (t := tE (e2 (iY) (ad 1) (ad 2))) (ρ := [.val (.int (1 - w))]) (p := fun i => decide (kX sub win i = some (1 - w))) (g := fun i => oD (kX sub win i)) ps.length 0 fun j _ _ => by
    simp only [cv, bj, am, ak, R.ok_bind, u5, cL]
  rw [jZ, ← elost] at hlist
  obtain ⟨B, hB⟩ : ∃ B, B = PyData.tuple [oT (kX sub win) ps.length, oT mv ps.length] := ⟨_, rfl⟩
  rw [← hB] at h4
  have hB0 : bx B (.int 0) = .ok (oT (kX sub win) ps.length) := by rw [hB]; rfl
  have hB1 : bx B (.int 1) = .ok (oT mv ps.length) := by rw [hB]; rfl
  -- up to the test
  have pre : ∀ {r : R PyData}, ((aT (lI (tE (e2 (iY) (e1 dE (ad 8)) (eC (.int 0)))) (aT (bQ 9 (aI aC (af (aI aZ (af (ad 0) (af (ad 3) (af (ad 6) aH)))) (af (e2 bx (ad 7) (eC (.int 1))) aH)))) (cF (qB c ["who", "places", "moves"] (af (ad 3) (af (ad 1) (af (aI aC (af (ad 9) (af (aI bn (af (ad 0) (af (ad 3) (af (ad 1) aH)))) aH))) aH)))))) dB) (aT (bQ 6 (aI cj (af (ad 0) (af (ad 1) (af (ad 4) (af (ad 8) aH)))))) (aT (bQ 9 (aI aC (af (aI aZ (af (ad 0) (af (ad 4) (af (ad 6) aH)))) (af (aI cD (af (e2 bx (ad 7) (eC (.int 1))) (af (ad 8) aH))) aH)))) (cF (qB c ["who", "places", "moves"] (af (ad 4) (af (aI bZ (af (ad 6) aH)) (af (ad 9) aH)))))))) [.val (gD ps), .val (.tuple (js.map .int)), .val (.int h), .val (.int w), .val (.int (1 - w)), .val (.list (tops.map .int)), .val (oT rk ps.length), .val B, .val (.list (lost.map .int)), .non] >>= BO) = r → aU c k [gD ps, .tuple (js.map .int)] = r := fun {r} hr => by
    unfold aU dU
    rw [fu, show ([gD ps, .tuple (js.map .int)].map ba.val ++ List.replicate (10 - [gD ps, .tuple (js.map .int)].length) ba.non) = [.val (gD ps), .val (.tuple (js.map .int)), .non, .non, .non, .non, .non, .non, .non, .non] from rfl]
    rw [aJ (ρ' := [.val (gD ps), .val (.tuple (js.map .int)), .val (.int h), .non, .non, .non, .non, .non, .non, .non]) (by
      rw [bp, bW, bi, show aB 1 [0] [.val (gD ps), .val (.tuple (js.map .int)), .non, .non, .non, .non, .non, .non, .non, .non] = [.non, .val (gD ps)] from rfl]
      simp only [bX, ak, am, R.ok_bind, cH, cf]
      rw [if_pos (by rw [List.length_map]; exact bD (by omega)), hmarks, gK, R.ok_bind, hmx]
      rfl)]
    rw [aJ (ρ' := [.val (gD ps), .val (.tuple (js.map .int)), .val (.int h), .val (.int w), .non, .non, .non, .non, .non, .non]) (by
      simp only [bp, bj, ak, am, bB, R.ok_bind, qv]
      rw [if_pos (by decide), ← ew]; rfl)]
    rw [aJ (ρ' := [.val (gD ps), .val (.tuple (js.map .int)), .val (.int h), .val (.int w), .val (.int (1 - w)), .non, .non, .non, .non, .non]) (by
      simp only [bp, bj, ak, am, bB, R.ok_bind, uO]; rfl)]
    rw [aJ (ρ' := [.val (gD ps), .val (.tuple (js.map .int)), .val (.int h), .val (.int w), .val (.int (1 - w)), .val (.list (tops.map .int)), .non, .non, .non, .non]) (by
      rw [bp, bi, show aB 1 [0, 2] [.val (gD ps), .val (.tuple (js.map .int)), .val (.int h), .val (.int w), .val (.int (1 - w)), .non, .non, .non, .non, .non] = [.non, .val (gD ps), .val (.int h)] from rfl]
      simp only [bX, ak, am, R.ok_bind, cH, cf]
      rw [if_pos (by rw [List.length_map]; exact bD (by omega)), htops]
      rfl)]
    rw [aJ (ρ' := [.val (gD ps), .val (.tuple (js.map .int)), .val (.int h), .val (.int w), .val (.int (1 - w)), .val (.list (tops.map .int)), .val (oT rk ps.length), .non, .non, .non]) (by
      simp only [bp, aX, aL, aP, ak, am, R.ok_bind, h1]; rfl)]
    rw [aJ (ρ' := [.val (gD ps), .val (.tuple (js.map .int)), .val (.int h), .val (.int w), .val (.int (1 - w)), .val (.list (tops.map .int)), .val (oT rk ps.length), .val B, .non, .non]) (by
      simp only [bp, aX, aL, aP, ak, am, R.ok_bind, h2, h3]
      rw [show (js.filter fun i => !cN (jd rk ps.length) i) = sub from esub.symm, h4]
      rfl)]
    rw [aJ (ρ' := [.val (gD ps), .val (.tuple (js.map .int)), .val (.int h), .val (.int w), .val (.int (1 - w)), .val (.list (tops.map .int)), .val (oT rk ps.length), .val B, .val (.list (lost.map .int)), .non]) (by
      rw [bp, bi, show aB 2 [4] [.val (gD ps), .val (.tuple (js.map .int)), .val (.int h), .val (.int w), .val (.int (1 - w)), .val (.list (tops.map .int)), .val (oT rk ps.length), .val B, .non, .non] = [.non, .non, .val (.int (1 - w))] from rfl]
      simp only [jy, bj, ak, am, bB, R.ok_bind, hB0, cH, cf]
      rw [if_pos (by rw [fi, bH]; exact bD (by omega))]
      rw [show cG 0 (cg (fun i => oD (kX sub win i)) ps.length) = cG 0 ((ids ps.length).map fun i => oD (kX sub win i)) from rfl, hlist]
      rfl)]
    exact hr
  by_cases hl : lost = []
  · have hall : ∀ i ∈ sub, win i = w := fun i hi => by
      by_cases z : win i = 1 - w
      · have := (hlost i).mpr ⟨hi, z⟩
        rw [hl] at this
        cases this
      · have := I.two i hi
        omega
    have S := wp hj hw hown ew hmax htop A hsub I hmv hne hall
    have h6 := mn G (who := w) (s := .tuple (js.map .int)) (.inl rfl) hj fun i hi _ => hw i hi
    refine ⟨_, pre ?_, S, hj⟩
    rw [uB (d := i6 c ps.length ⟨w, js, dZ (dZ (lO ps w rk) mv) (eZ ps w js)⟩) ?_]
    · rfl
    · rw [du, cv, bj, bW]
      simp only [ak, am, bB, R.ok_bind, hl, List.map_nil, n8, List.length_nil, fM, cL]
      rw [if_pos (by decide)]
      rw [aJ (ρ' := [.val (gD ps), .val (.tuple (js.map .int)), .val (.int h), .val (.int w), .val (.int (1 - w)), .val (.list (tops.map .int)), .val (oT rk ps.length), .val B, .val (.list []), .val (oT (dZ (lO ps w rk) mv) ps.length)]) (by
        simp only [bp, aX, aL, aP, bj, bB, ak, am, R.ok_bind, h5, hB1, nA (show ps.length ≤ 1000 by omega)]
        rfl)]
      unfold qB
      simp only [ci, aX, aL, aP, ak, am, R.ok_bind, h6, nA (show ps.length ≤ 1000 by omega)]
      rfl
  · obtain ⟨rk2, erk2⟩ : ∃ rk2, rk2 = rK ps js (1 - w) lost := ⟨_, rfl⟩
    have lsub : ∀ x ∈ lost, x ∈ js := fun x hx => ((hsub x).mp ((hlost x).mp hx).1).1
    have B2 : tm ps js (1 - w) lost rk2 := by rw [erk2]; exact vN lp.nd lsub hj.nd hj.len
    have g1 := mJ G.hl G.hgo G.hp (s := .tuple (js.map .int)) (g := .list (lost.map .int)) (.inl rfl) (.inr rfl) hj lp lsub hw (who := 1 - w)
    rw [← erk2] at g1
    have g2 := ml (f := rk2) (n := ps.length) (by omega)
    have g3 := ir G (kO B2)
    have g4 := sI (f := mv) (n := ps.length) (by omega) (s := .list (lost.map .int)) (js := lost) (.inr rfl)
    have S := tT hj hw hown ew hmax htop A hsub I hmv hlost hl B2 (pl := jd rk2 ps.length) fun i => by
      rw [ik]
      exact ⟨fun z => z.2, fun ⟨q, hq⟩ => ⟨hj.inn i (B2.sub i q hq), q, hq⟩⟩
    have hlen : ¬ (lost.length : Int) = 0 := by
      have := List.length_pos_iff.mpr hl
      omega
    refine ⟨_, pre ?_, S, nR _ _⟩
    rw [aJ (ρ' := [.val (gD ps), .val (.tuple (js.map .int)), .val (.int h), .val (.int w), .val (.int (1 - w)), .val (.list (tops.map .int)), .val (oT rk ps.length), .val B, .val (.list (lost.map .int)), .non]) (by
      rw [du, cv, bj, bW]
      simp only [ak, am, bB, R.ok_bind, n8, List.length_map, fM, cL, decide_eq_false hlen]
      rfl)]
    rw [aJ (ρ' := [.val (gD ps), .val (.tuple (js.map .int)), .val (.int h), .val (.int w), .val (.int (1 - w)), .val (.list (tops.map .int)), .val (oT rk2 ps.length), .val B, .val (.list (lost.map .int)), .non]) (by
      simp only [bp, aX, aL, aP, ak, am, R.ok_bind, g1]; rfl)]
    rw [aJ (ρ' := [.val (gD ps), .val (.tuple (js.map .int)), .val (.int h), .val (.int w), .val (.int (1 - w)), .val (.list (tops.map .int)), .val (oT rk2 ps.length), .val B, .val (.list (lost.map .int)), .val (oT (dZ (lO ps (1 - w) rk2) fun i => if i ∈ lost then mv i else none) ps.length)]) (by
      simp only [bp, aX, aL, aP, bj, bB, ak, am, R.ok_bind, g3, hB1, g4, nA (show ps.length ≤ 1000 by omega)]
      rfl)]
    unfold qB
    simp only [ci, aX, aL, aP, ak, am, R.ok_bind, g2]
    rfl
end
def vG (c : Addr) (k : Nat) : Fs := (aT (bQ 4 (aI (aU c k) (af (ad 0) (af (ad 3) aH)))) (aT (cr 2 (ad 4)) (bQ 3 (aI bI (af (ad 3) (af (e1 (kc c "places") (ad 4)) aH))))))
abbrev lR (ps : List P4) (c : Addr) (s : PyData) (acc : List Sh) (js : List Int) (c4 : ba) : aN :=
  [.val (gD ps), .val s, .own (.list (acc.map (i6 c ps.length))), .val (.tuple (js.map .int)), c4]
theorem Bj {ps : List P4} (G : Gr ps) {c : Addr} {kk : Nat} {s0 : PyData} {Pm : Int → Prop} (hown : ∀ i, Pm i → aj ps i = 0 ∨ aj ps i = 1) (hS : ∀ js, dQ ps.length js → gi ps js → js ≠ [] → (∀ i ∈ js, Pm i) → ∃ s, aU c kk [gD ps, .tuple (js.map .int)] = .ok (i6 c ps.length s) ∧ gP ps js s ∧ dQ ps.length s.pl) :
    ∀ (k n : Nat) (js : List Int) (acc : List Sh) (c4 : ba), dQ ps.length js → gi ps js → (∀ i ∈ js, Pm i) → js.length ≤ k → k + 1 ≤ n → acc.length + k ≤ 1000 →
    ∃ l c4' win mv, cO (tE (e2 (fD pC) (e1 dE (ad 3)) (eC (.int 0)))) (vG c kk) n (lR ps c s0 acc js c4) = .ok (.nx (lR ps c s0 (acc ++ l) [] c4')) ∧ (∀ f i, mD f l i = if i ∈ js then some (win i) else f i) ∧ (∀ m i, (i ∈ js → m i = none) → sP m l i = if i ∈ js then mv i else m i) ∧ tS ps js win mv ∧ ∀ s ∈ l, ∀ x ∈ s.pl, 0 ≤ x ∧ x < ps.length
  | k, 0, js, acc, c4, _, _, _, _, h, _ => by omega
  | k, n + 1, js, acc, c4, hj, hw, hm, hk, hn, hz => by
    have hp := G.hp
    rw [kS]
    have ht : tE (e2 (fD pC) (e1 dE (ad 3)) (eC (.int 0))) (lR ps c s0 acc js c4) = .ok (decide (0 < js.length)) := by
      simp only [cv, bj, bW, am, ak, bB, R.ok_bind, kD, oP, cL, List.length_map]
      congr 1
      simp
    rw [ht, R.ok_bind]
    by_cases h0 : js = []
    · subst h0
      refine ⟨[], c4, fun _ => 0, fun _ => none, by rw [List.append_nil]; rfl, fun f i => by simp [mD], fun m i _ => by simp [sP], AK _ _, fun s hs => by cases hs⟩
    · have hpos := List.length_pos_iff.mpr h0
      rw [if_pos (decide_eq_true hpos)]
      cases k with
      | zero => omega
      | succ k =>
        obtain ⟨s, h1, S, sp⟩ := hS js hj hw h0 hm
        have hl : (iu js s.pl).length < js.length := by
          obtain ⟨i, hi⟩ := List.exists_mem_of_ne_nil _ S.ne
          refine Nat.lt_of_le_of_ne (List.length_filter_le ..) fun z => ?_
          have := (h9 _ js).mp z i (S.sub i hi)
          rw [bT.mpr hi] at this
          cases this
        obtain ⟨l, c4', win, mv, e, q1, q2, I, q3⟩ := Bj G hown hS k n (iu js s.pl) (acc ++ [s]) (.val (i6 c ps.length s)) (hj.filter _) (S.whole hw) (fun i hi => hm i (bu.mp hi).1) (by omega) (by omega) (by simp; omega)
        have h2 := oU (s := .tuple (js.map .int)) (t := .tuple (s.pl.map .int)) (.inl rfl) (.inl rfl) (by have := hj.len; omega)
        have hb : vG c kk (lR ps c s0 acc js c4) = .ok (.nx (lR ps c s0 (acc ++ [s]) (iu js s.pl) (.val (i6 c ps.length s)))) := by
          unfold vG
          rw [aJ (ρ' := lR ps c s0 acc js (.val (i6 c ps.length s))) (by
            simp only [bp, aX, aL, aP, ak, am, R.ok_bind, h1]
            rfl)]
          rw [aJ (ρ' := lR ps c s0 (acc ++ [s]) js (.val (i6 c ps.length s))) (by
            rw [jN (ds := acc.map (i6 c ps.length)) (ad 4) rfl (Nat.lt_of_lt_of_le (show _ < 1001 by rw [List.length_map]; omega) (by decide))]
            simp only [ak, am, cf, R.ok_bind]
            rw [show acc.map (i6 c ps.length) ++ [i6 c ps.length s] = (acc ++ [s]).map (i6 c ps.length) by simp]
            rfl)]
          simp only [bp, aX, aL, aP, bW, ak, am, R.ok_bind, o6, h2]
          rfl
        refine ⟨s :: l, c4', fun i => if i ∈ s.pl then s.w else win i, fun i => if i ∈ s.pl then s.mv i else mv i, ?_, fun f i => ?_, fun m i hmi => ?_, xA (fun i hi => hown i (hm i hi)) S I, fun t ht' x hx => ?_⟩
        · rw [hb, R.ok_bind, dh, e]
          simp
        · show mD (yF s f) l i = _
          rw [q1]
          by_cases hi : i ∈ js
          · rw [if_pos hi]
            dsimp only
            by_cases hs : i ∈ s.pl
            · rw [if_neg fun z => (bu.mp z).2 hs, if_pos hs]
              exact if_pos hs
            · rw [if_pos (bu.mpr ⟨hi, hs⟩), if_neg hs]
          · rw [if_neg fun z => hi (bu.mp z).1, if_neg hi]
            exact if_neg fun z => hi (S.sub i z)
        · show sP (dZ m s.mv) l i = _
          rw [q2 (dZ m s.mv) i fun z => by
            obtain ⟨z1, z2⟩ := bu.mp z
            show (m i).or _ = none
            rw [hmi z1, Option.none_or, S.non i (.inl z2)]]
          by_cases hi : i ∈ js
          · rw [if_pos hi]
            dsimp only
            by_cases hs : i ∈ s.pl
            · rw [if_neg fun z => (bu.mp z).2 hs, if_pos hs]
              show (m i).or _ = _
              rw [hmi hi, Option.none_or]
            · rw [if_pos (bu.mpr ⟨hi, hs⟩), if_neg hs]
          · rw [if_neg fun z => hi (bu.mp z).1, if_neg hi]
            show (m i).or _ = _
            rw [S.non i (.inl fun z => hi (S.sub i z)), Option.or_none]
        · rcases List.mem_cons.mp ht' with rfl | z
          · exact sp.inn x hx
          · exact q3 t z x hx
theorem tS.congr {ps : List P4} {js : List Int} {win : Int → Int} {mv mv' : Int → Option Int} (h : tS ps js win mv) (e : ∀ i ∈ js, mv' i = mv i) : tS ps js win mv' := by
  refine ⟨h.two, fun i hi ho => by rw [e i hi]; exact h.has i hi ho, fun i hi ho => by rw [e i hi]; exact h.non i hi ho, fun i hi g hg => h.stay i hi g (kl (e i hi) hg), fun i hi hm hp => h.good i hi hm ?_⟩
  exact hp.imp (fun y a b => ⟨kl (e i hi) a, b⟩) fun x y ax a b => ⟨kl (e x ax.1) a, b⟩
theorem p9 {ps : List P4} (G : Gr ps) {c : Addr} {k : Nat} {Pm : Int → Prop} (hown : ∀ i, Pm i → aj ps i = 0 ∨ aj ps i = 1) (hS : ∀ js, dQ ps.length js → gi ps js → js ≠ [] → (∀ i ∈ js, Pm i) → ∃ s, aU c k [gD ps, .tuple (js.map .int)] = .ok (i6 c ps.length s) ∧ gP ps js s ∧ dQ ps.length s.pl) {js : List Int} (hj : dQ ps.length js) (hw : gi ps js) (hm : ∀ i ∈ js, Pm i) :
    ∃ win mv, aG c (k + 1) [gD ps, .tuple (js.map .int)] = .ok (.tuple [oT (kX js win) ps.length, oT mv ps.length]) ∧ tS ps js win mv ∧ ∀ i, i ∉ js → mv i = none := by
  have hp := G.hp
  have hjl := hj.len
  obtain ⟨l, c4, win, mv, e, q1, q2, I, q3⟩ := Bj G (c := c) (s0 := .tuple (js.map .int)) hown hS js.length 1000000 js [] .non hj hw hm (Nat.le_refl _) (by omega) (by simp; omega)
  rw [List.nil_append] at e
  have h3 := Ds (ps := ps) (by omega) (c := c) q3
  have e1' : oT (mD (fun _ => none) l) ps.length = oT (kX js win) ps.length := congrArg PyData.tuple (cJ fun i _ _ => by rw [q1]; rfl)
  have e2' : oT (sP (fun _ => none) l) ps.length = oT (fun i => if i ∈ js then mv i else none) ps.length := congrArg PyData.tuple (cJ fun i _ _ => by rw [q2 _ i fun _ => rfl])
  rw [e1', e2'] at h3
  refine ⟨win, fun i => if i ∈ js then mv i else none, ?_, I.congr fun i hi => if_pos hi, fun i hi => if_neg hi⟩
  show dF 5 (dW (aU c k) (aW c) bI c) _ = _
  unfold dW
  refine dY ?_
  rw [show ([gD ps, .tuple (js.map .int)].map ba.val ++ List.replicate (5 - [gD ps, .tuple (js.map .int)].length) ba.non) = [.val (gD ps), .val (.tuple (js.map .int)), .non, .non, .non] from rfl]
  rw [aJ (ρ' := [.val (gD ps), .val (.tuple (js.map .int)), .own (.list []), .non, .non]) (by rfl)]
  rw [aJ (ρ' := lR ps c (.tuple (js.map .int)) [] js .non) (by rfl)]
  rw [aJ (ρ' := lR ps c (.tuple (js.map .int)) l [] c4) (by
    rw [eE]
    show mH (cO (tE (e2 (fD pC) (e1 dE (ad 3)) (eC (.int 0)))) (vG c k) 1000000 _) = _
    rw [e]
    rfl)]
  unfold Dt
  show cF _ ((lR ps c (.tuple (js.map .int)) l [] c4).set 2 (.val (.list (l.map (i6 c ps.length))))) = _
  simp only [List.set_cons_succ, List.set_cons_zero, ci, aX, aL, aP, ak, am, R.ok_bind, h3]
theorem pG {ps : List P4} (G : Gr ps) {c : Addr} : ∀ (k : Nat) (js : List Int), dQ ps.length js → gi ps js → (∀ i ∈ js, (aj ps i = 0 ∨ aj ps i = 1) ∧ 0 ≤ aD ps i ∧ aD ps i < k) →
    ∃ win mv, aG c (k + 1) [gD ps, .tuple (js.map .int)] = .ok (.tuple [oT (kX js win) ps.length, oT mv ps.length]) ∧ tS ps js win mv ∧ ∀ i, i ∉ js → mv i = none
  | 0, js, hj, hw, hm => p9 G (c := c) (Pm := fun i => (aj ps i = 0 ∨ aj ps i = 1) ∧ 0 ≤ aD ps i ∧ aD ps i < (0 : Nat)) (fun i h => h.1) (fun js' _ _ hne h => by
      obtain ⟨i, hi⟩ := List.exists_mem_of_ne_nil _ hne
      have := (h i hi).2
      omega) hj hw hm
  | k + 1, js, hj, hw, hm => p9 G (c := c) (Pm := fun i => (aj ps i = 0 ∨ aj ps i = 1) ∧ 0 ≤ aD ps i ∧ aD ps i < ((k + 1 : Nat) : Int)) (fun i h => h.1) (fun js' hj' hw' hne h => yX G hj' hw' hne (fun i hi => (h i hi).1) fun hh sub sp sw hs ⟨i0, hi0, e0⟩ => pG G k sub sp sw fun i hi => by
      obtain ⟨a, b⟩ := hs i hi
      have h1 := h i a
      have h2 := (h i0 hi0).2.2
      exact ⟨h1.1, h1.2.1, by omega⟩) hj hw hm
theorem BD {ps : List P4} (G : Gr ps) (hw : gi ps (ids ps.length)) {c : Addr} (hm : ∀ i ∈ ids ps.length, (aj ps i = 0 ∨ aj ps i = 1) ∧ 0 ≤ aD ps i ∧ aD ps i < 13) :
    ∃ win mv, lB c [gD ps] = .ok (.tuple [oT (fun i => some (win i)) ps.length, oT mv ps.length]) ∧ tS ps (ids ps.length) win mv ∧ ∀ i, i ∉ ids ps.length → mv i = none := by
  obtain ⟨win, mv, e, I, q⟩ := pG G (c := c) 13 (ids ps.length) (dQ.ids _) hw hm
  refine ⟨win, mv, ?_, I, q⟩
  have h2 := pD (ps := ps) (by have := G.hp; omega)
  have e' : oT (kX (ids ps.length) win) ps.length = oT (fun i => some (win i)) ps.length := congrArg PyData.tuple (cJ fun i h0 h1 => by unfold kX; rw [if_pos (bS.mpr ⟨h0, h1⟩)])
  rw [e'] at e
  unfold lB zc
  refine dY ?_
  rw [show ([gD ps].map ba.val ++ List.replicate (1 - [gD ps].length) ba.non) = [.val (gD ps)] from rfl]
  simp only [ci, aX, aL, aP, ak, R.ok_bind, h2, e]
theorem oX {d : PyData} (h : noD d) : bU [d] = .ok (.bool (Dr d)) := by
  cases d <;> first | rfl | cases h
theorem uK {d : PyData} (h : noD d) (lo hi : Int) : cu [d, .int lo, .int hi] = .ok (.bool (sV d lo hi)) := by
  unfold cu iL
  rw [fu]
  cases d with
  | int i =>
    by_cases h1 : lo ≤ i <;> by_cases h2 : i ≤ hi <;> simp [oX h, Dr, h1, h2, sV]
  | dict k => cases h
  | _ => simp [oX h, Dr, sV]
def jb (ps : List P4) (i : Int) : PyData := (ps[i.toNat]?.map P4.d).getD .none
theorem t6 (ps : List P4) : ps.map P4.d = cg (jb ps) ps.length := by
  refine List.ext_getElem (by rw [List.length_map, bH]) fun k h1 h2 => ?_
  rw [bH] at h2
  have e := gn (f := jb ps) (n := ps.length) (i := (k : Int)) (by omega) (by omega)
  simp only [Int.toNat_natCast] at e
  rw [e, List.getElem_map]
  unfold jb
  rw [List.getElem?_eq_getElem (by omega)]
  simp
theorem yz {ps : List P4} {i : Int} (h0 : 0 ≤ i) (h1 : i < ps.length) : bx (jb ps i) (.int 0) = .ok (.int (aj ps i)) := by
  unfold jb
  rw [List.getElem?_eq_getElem (show i.toNat < ps.length by omega), gB h0 h1]
  rfl
theorem sg (f g h : Int → PyData) : ∀ is : List Int, fL (is.map f) (is.map g) (is.map h) = is.map fun i => .tuple [f i, g i, h i]
  | [] => rfl
  | i :: is => by rw [List.map_cons, List.map_cons, List.map_cons, List.map_cons, ← sg f g h is]; rfl
def gv (nx : Int → Int) (s : Int) : Nat → Int
  | 0 => s
  | k + 1 => nx (gv nx s k)
def kf (nx : Int → Int) (s : Int) (k : Nat) : List Int := (List.range k).map (gv nx s)
theorem dD (nx : Int → Int) (s : Int) (k : Nat) : (kf nx s k).length = k := by unfold kf; simp
theorem sB (nx : Int → Int) (s : Int) (k : Nat) : kf nx s (k + 1) = kf nx s k ++ [gv nx s k] := by
  unfold kf
  rw [List.range_succ, List.map_append]
  rfl
theorem j9 {nx : Int → Int} {s : Int} {k j : Nat} (h : j < k) : (kf nx s k)[j]'(by rw [dD]; exact h) = gv nx s j := by
  unfold kf
  simp
theorem jY {nx : Int → Int} {s : Int} {k : Nat} {x : Int} : x ∈ kf nx s k ↔ ∃ j, j < k ∧ gv nx s j = x := by
  unfold kf
  rw [List.mem_map]
  simp only [List.mem_range]
structure kW (nx : Int → Int) (s : Int) (k e : Nat) : Prop where
  lt : e < k
  eq : gv nx s k = gv nx s e
  nd : (kf nx s k).Nodup
theorem Bt {nx : Int → Int} {s : Int} {k : Nat} (nd : (kf nx s k).Nodup) {a b : Nat} (ha : a < k) (hb : b < k) (e : gv nx s a = gv nx s b) : a = b := by
  have h := List.pairwise_iff_getElem.mp (show (kf nx s k).Pairwise (· ≠ ·) from nd)
  rcases Nat.lt_trichotomy a b with z | z | z
  · exfalso
    refine h a b (by rw [dD]; exact ha) (by rw [dD]; exact hb) z ?_
    rw [j9 ha, j9 hb, e]
  · exact z
  · exfalso
    refine h b a (by rw [dD]; exact hb) (by rw [dD]; exact ha) z ?_
    rw [j9 ha, j9 hb, e]
theorem vm {nx : Int → Int} {S : Int → Prop} (hn : ∀ x, S x → S (nx x)) {s : Int} (hs : S s) : ∀ k, S (gv nx s k)
  | 0 => hs
  | k + 1 => hn _ (vm hn hs k)
theorem qQ {n : Nat} {nx : Int → Int} {S : Int → Prop} (hS : ∀ x, S x → x ∈ ids n) (hn : ∀ x, S x → S (nx x)) {s : Int} (hs : S s) {k : Nat} (nd : (kf nx s k).Nodup) : k ≤ n := by
  have := jL nd (m := ids n) fun x hx => by
    obtain ⟨j, _, rfl⟩ := jY.mp hx
    exact hS _ (vm hn hs j)
  rw [dD, rc] at this
  exact this
theorem oW {t : aN → R Bool} {g : Fs} {V : List Int → Int → aN} {nx : Int → Int} {S : Int → Prop} {n : Nat} (hS : ∀ x, S x → x ∈ ids n) (hn : ∀ x, S x → S (nx x)) (ht : ∀ pl x, S x → t (V pl x) = .ok (!cN pl x)) (hg : ∀ pl x, S x → pl.length ≤ n → g (V pl x) = .ok (.nx (V (pl ++ [x]) (nx x)))) {s : Int} (hs : S s) :
    ∀ (m k : Nat), (kf nx s k).Nodup → n + 2 ≤ m + k → ∃ K e, kW nx s K e ∧ cO t g m (V (kf nx s k) (gv nx s k)) = .ok (.nx (V (kf nx s K) (gv nx s K)))
  | 0, k, nd, h => by
    have := qQ hS hn hs nd
    omega
  | m + 1, k, nd, h => by
    have hx := vm hn hs k
    rw [kS, ht _ _ hx, R.ok_bind]
    by_cases hm : gv nx s k ∈ kf nx s k
    · obtain ⟨e, he, ee⟩ := jY.mp hm
      refine ⟨k, e, ⟨he, ee.symm, nd⟩, ?_⟩
      rw [bT.mpr hm]
      rfl
    · have hb : cN (kf nx s k) (gv nx s k) = false := by
        cases z : cN (kf nx s k) (gv nx s k) with
        | false => rfl
        | true => exact (hm (bT.mp z)).elim
      have nd' : (kf nx s (k + 1)).Nodup := by
        rw [sB, List.nodup_append]
        refine ⟨nd, by simp, fun a ha b hb' => ?_⟩
        simp at hb'
        subst hb'
        rintro rfl
        exact hm ha
      obtain ⟨K, e, w, r⟩ := oW hS hn ht hg hs m (k + 1) nd' (by omega)
      refine ⟨K, e, w, ?_⟩
      rw [hb, if_pos (by rfl), hg _ _ hx (by rw [dD]; exact qQ hS hn hs nd), R.ok_bind, dh, ← sB]
      exact r
theorem kW.idx {nx : Int → Int} {s : Int} {k e : Nat} (w : kW nx s k e) : (kf nx s k).idxOf (gv nx s k) = e := by
  have hm : gv nx s k ∈ kf nx s k := jY.mpr ⟨e, w.lt, w.eq.symm⟩
  have h1 := List.idxOf_lt_length_of_mem hm
  have h2 := List.getElem_idxOf h1
  rw [dD] at h1
  rw [j9 h1] at h2
  exact Bt w.nd h1 w.lt (h2.trans w.eq)
theorem qX {n d e : Nat} (h : e ≤ n) : HT.sIx n d (some (e : Int)) = e := by
  unfold HT.sIx
  have h0 : ¬ ((e : Nat) : Int) < 0 := by omega
  simp only [h0, if_false]
  simp
  omega
theorem oM (n d : Nat) : HT.sIx n d none = d := by
  unfold HT.sIx
  rfl
theorem xG {ds : List PyData} {e : Nat} (h : e ≤ ds.length) : D2.nc ds none (some (e : Int)) = ds.take e := by
  unfold D2.nc
  rw [qX h, oM]
  simp
theorem zn {ds : List PyData} {e : Nat} (h : e ≤ ds.length) : D2.nc ds (some (e : Int)) none = ds.drop e := by
  unfold D2.nc
  rw [qX h, oM]
  rw [List.take_of_length_le (by rw [List.length_drop]; omega)]
def rm (nx : Int → Int) (s : Int) (k e : Nat) : List Int := (kf nx s k).take e
def dC (nx : Int → Int) (s : Int) (k e : Nat) : List Int := (kf nx s k).drop e
abbrev Fu (nx : Int → Int) (s : Int) (k e : Nat) : PyData := .tuple [.tuple ((rm nx s k e).map .int), .tuple ((dC nx s k e).map .int)]
theorem dX (nx : Int → Int) (s : Int) (k e : Nat) : (dC nx s k e).length = k - e := by unfold dC; rw [List.length_drop, dD]
theorem ip {nx : Int → Int} {s : Int} {k e j : Nat} (h : e + j < k) : (dC nx s k e)[j]'(by rw [dX]; omega) = gv nx s (e + j) := by
  unfold dC
  rw [List.getElem_drop, j9 h]
theorem pJ {nx : Int → Int} {s : Int} {k e : Nat} {x : Int} (h : x ∈ dC nx s k e) : ∃ j, e ≤ j ∧ j < k ∧ gv nx s j = x := by
  obtain ⟨j, hj, ej⟩ := List.mem_iff_getElem.mp h
  rw [dX] at hj
  rw [ip (by omega)] at ej
  exact ⟨e + j, by omega, by omega, ej⟩
def CL (ps : List P4) (rs : List Int) : Prop := ∀ j (h : j < rs.length), rs[(j + 1) % rs.length]'(Nat.mod_lt _ (by omega)) ∈ av ps (rs[j])
theorem kW.ring {ps : List P4} {nx : Int → Int} {s : Int} {k e : Nat} (w : kW nx s k e) (hg : ∀ j, nx (gv nx s j) ∈ av ps (gv nx s j)) : CL ps (dC nx s k e) := fun j h => by
  have hl := w.lt
  rw [dX] at h
  rw [ip (show e + j < k by omega)]
  have hn : (dC nx s k e)[(j + 1) % (dC nx s k e).length]'(Nat.mod_lt _ (by rw [dX]; omega)) = gv nx s (e + j + 1) := by
    by_cases hj : j + 1 < k - e
    · have : (j + 1) % (dC nx s k e).length = j + 1 := by rw [dX]; exact Nat.mod_eq_of_lt hj
      simp only [this]
      rw [ip (by omega)]
      rfl
    · have : (j + 1) % (dC nx s k e).length = 0 := by
        rw [dX, show j + 1 = k - e by omega]
        exact Nat.mod_self _
      simp only [this]
      rw [ip (by omega), show e + j + 1 = k by omega, w.eq]
      rfl
  rw [hn]
  exact hg (e + j)
theorem qd {d : PyData} (h : noD d) (ps : List P4) : aA [d, gD ps] = .ok (.bool (sV d 0 ((ps.length : Int) - 1))) := by
  unfold aA dJ
  refine dY ?_
  rw [show ([d, gD ps].map ba.val ++ List.replicate (2 - [d, gD ps].length) ba.non) = [.val d, .val (gD ps)] from rfl]
  simp only [ci, aX, aL, aP, bW, bj, ak, am, bB, R.ok_bind, kD, List.length_map, uO, uK h]
theorem uv {d : PyData} (hg : ic d) (p : P4) : dl [d, p.d] = .ok (.bool (CU p.ns d)) := by
  unfold dl mC
  rw [fu]
  have hw := oX hg.noD
  cases d with
  | none => simp [jc, fH, CU]
  | int i => simp [jc, fH, CU, hw, Dr, nN, DZ]
  | dict k => exact hg.noD.elim
  | _ => simp [jc, fH, CU, hw, Dr]
theorem oO (x y : ba) : ∀ (ds : List PyData) (ps : List P4), (∀ d ∈ ds, ic d) → bE (cK 0 1) (fun _ => .ok true) (aI dl (af (ad 0) (af (ad 1) aH))) [x, y] (gt ds (ps.map P4.d)) = .ok ((ds.zip ps).map fun q => .bool (CU q.2.ns q.1))
  | [], ps, _ => by unfold gt; simp [cB]
  | d :: ds, [], _ => by unfold gt; simp [cB]
  | d :: ds, p :: ps, h => by
    have e : gt (d :: ds) ((p :: ps).map P4.d) = .tuple [d, p.d] :: gt ds (ps.map P4.d) := rfl
    rw [e, gF, oO x y ds ps fun z hz => h z (List.mem_cons_of_mem _ hz)]
    simp [uv (h d List.mem_cons_self) p]
theorem all_map {α : Type} (p : α → Bool) : ∀ l : List α, D2.la (l.map fun a => .bool (p a)) = some (l.all p)
  | [] => rfl
  | a :: l => by simp only [List.map_cons, D2.la, all_map p l, List.all_cons, Option.map_some]
theorem lC {d : PyData} (hg : ic d) {ps : List P4} (hl : ps.length ≤ 24) : cw [d, gD ps] = .ok (.bool (nZ ps d)) := by
  unfold cw jk
  rw [fu]
  cases d with
  | tuple ds =>
    have h := kQ.mp hg
    by_cases hq : ds.length = ps.length
    · have hs : (gt ds (ps.map P4.d)).length ≤ sizeLine := by rw [jH]; exact bD (by omega)
      have hc := oO .non .non ds ps h
      simp [ju, CQ, sQ, hq, bi, hs, aB, List.replicate, hc, lP, all_map, nZ]
    · have hq' : ¬ ((ds.length : Int) = (ps.length : Int)) := by omega
      simp [ju, CQ, sQ, hq', hq, nZ]
  | dict k => exact hg.noD.elim
  | _ => simp [ju, CQ, nZ]
def eA (ps : List P4) (z o : Int → Option Int) (i : Int) : Option Int := if aj ps i = 0 then z i else o i
theorem B4 {ps : List P4} (hp : ps.length ≤ 24) (ho : ∀ i ∈ ids ps.length, aj ps i = 0 ∨ aj ps i = 1) (z o : Int → Option Int) : bq [gD ps, oT z ps.length, oT o ps.length] = .ok (oT (eA ps z o) ps.length) := by
  have hc := oV (fe := e2 bx (e2 bx (ad 2) (e2 bx (ad 1) (eC (.int 0)))) (ad 0)) (ρ := [.val (.tuple [oT z ps.length, oT o ps.length])]) (g := jb ps) (h := fun i => oD (eA ps z o i)) ps.length 0 fun j _ h2 => by
    have j0 : (0 : Int) ≤ (j : Int) := by omega
    have j1 : (j : Int) < ps.length := by omega
    simp only [bj, am, ak, bB, R.ok_bind, yz j0 j1]
    rcases ho j (bS.mpr ⟨j0, j1⟩) with w | w
    · rw [w, show bx (.tuple [oT z ps.length, oT o ps.length]) (.int 0) = .ok (oT z ps.length) from rfl, R.ok_bind, mI j0 j1]
      unfold eA
      rw [if_pos w]
    · rw [w, show bx (.tuple [oT z ps.length, oT o ps.length]) (.int 1) = .ok (oT o ps.length) from rfl, R.ok_bind, mI j0 j1]
      unfold eA
      rw [if_neg (by omega)]
  rw [jZ] at hc
  unfold bq eT
  refine dY ?_
  rw [show ([gD ps, oT z ps.length, oT o ps.length].map ba.val ++ List.replicate (4 - [gD ps, oT z ps.length, oT o ps.length].length) ba.non) = [.val (gD ps), .val (oT z ps.length), .val (oT o ps.length), .non] from rfl]
  rw [aJ (ρ' := [.val (gD ps), .val (oT z ps.length), .val (oT o ps.length), .val (.tuple [oT z ps.length, oT o ps.length])]) (by
    rw [bp, nK]
    simp only [aL, aP, am, ak, R.ok_bind]
    rw [if_pos (by show 2 ≤ _; decide)]
    rfl)]
  rw [ci, bW, bi, show aB 2 [3] [.val (gD ps), .val (oT z ps.length), .val (oT o ps.length), .val (.tuple [oT z ps.length, oT o ps.length])] = [.non, .non, .val (.tuple [oT z ps.length, oT o ps.length])] from rfl]
  simp only [jy, ak, R.ok_bind, cH, cf]
  rw [if_pos (by rw [fi, List.length_map]; exact bD (by omega)), t6]
  rw [show cG 0 (cg (jb ps) ps.length) = cG 0 ((ids ps.length).map (jb ps)) from rfl, hc]
  rfl
theorem A2 (f : Int → Option Int) (n : Nat) : lH false .none (oT f n) = .ok (.bool ((ids n).any fun i => (f i).isNone)) := by
  have hf := rD f n
  have hi : ny (cg (fun i => oD (f i)) n) .none = true := by
    unfold ny
    rw [ls fun x hx => (hf x hx).1, hf.dep]
    simp [PyData.canLay0]
  show (if ny (cg (fun i => oD (f i)) n) .none = true then R.ok (PyData.bool ((cg (fun i => oD (f i)) n).any fun y => PyData.eqv y .none)) else .no) = _
  rw [if_pos hi]
  unfold cg
  rw [List.any_map]
  congr 3
  funext i
  show PyData.eqv (oD (f i)) .none = _
  cases f i <;> simp [oD, PyData.eqv]
theorem mT : ∀ {ns : List Int}, (∀ x ∈ ns, 0 ≤ x ∧ x < 1000) → PyData.weightAll (ns.map .int) ≤ 12 * ns.length
  | [], _ => by simp [PyData.weightAll]
  | n :: ns, h => by
    have ih := mT fun x hx => h x (List.mem_cons_of_mem _ hx)
    have hn := h n List.mem_cons_self
    have h1 : PyData.weight (.int n) ≤ 11 := by
      simp only [PyData.weight]
      split
      · omega
      · rename_i hz
        have h2 : n.natAbs ≠ 0 := by
          intro z
          apply hz
          have : n = 0 := by omega
          rw [this]
          rfl
        have := (Nat.log2_lt h2 (k := 10)).mpr (by omega)
        omega
    simp only [List.map_cons, PyData.weightAll, List.length_cons]
    omega
theorem yD {ns : List Int} (h : ns.length ≤ 1000) (hb : ∀ x ∈ ns, 0 ≤ x ∧ x < 1000) : PyData.layable0 (.list (ns.map .int)) = true := by
  have hw := mT hb
  have e1 : (PyData.list (ns.map .int)).canLay0 = true := by simp only [PyData.canLay0]; exact nU ns
  have e2 : (PyData.list (ns.map .int)).depth ≤ 64 := by simp only [PyData.depth, jJ]; omega
  have e3 : (PyData.list (ns.map .int)).weight ≤ 2 ^ 20 := by simp only [PyData.weight]; omega
  unfold PyData.layable0
  rw [e1, decide_eq_true e2, decide_eq_true e3]
  rfl
theorem tJ {ns : List Int} {k : Int} (h : ns.length ≤ 1000) (hb : ∀ x ∈ ns, 0 ≤ x ∧ x < 1000) (hk : k ∈ ns) : jf (.list (ns.map .int)) (.int k) = .ok (.int (ns.idxOf k : Nat)) := by
  show (match dc (ns.map .int) with | some ns' => if PyData.layable0 (.list (ns.map .int)) = true ∧ k ∈ ns' then R.ok (PyData.int (ns'.idxOf k : Nat)) else .no | none => .no) = _
  rw [gM]
  exact if_pos ⟨yD h hb, hk⟩
theorem yW {n : Nat} {s : Int} (hs : s ∈ ids n) : sV (.int s) 0 ((n : Int) - 1) = true := by
  obtain ⟨h0, h1⟩ := bS.mp hs
  show (decide _ && decide _) = true
  rw [decide_eq_true h0, decide_eq_true (by omega)]
  rfl
def gx (ps : List P4) (z o : Int → Option Int) (i : Int) : Int := (eA ps z o i).getD 0
def rB : Fs := (aT (cr 5 (ad 6)) (bQ 6 (e2 bx (ad 4) (ad 6))))
abbrev rV (ps : List P4) (z o : Int → Option Int) (s : Int) (pl : List Int) (x : Int) : aN := [.val (gD ps), .val (oT z ps.length), .val (oT o ps.length), .val (.int s), .val (oT (eA ps z o) ps.length), .own (.list (pl.map .int)), .val (.int x), .non]
section
variable {ps : List P4} (G : Gr ps) (hw : ∀ i ∈ ids ps.length, aj ps i = 0 ∨ aj ps i = 1) {z o : Int → Option Int} (hz : ∀ i g, z i = some g → g ∈ av ps i) (ho : ∀ i g, o i = some g → g ∈ av ps i) (hall : ∀ i ∈ ids ps.length, ∃ g, eA ps z o i = some g)
include hz ho in
theorem ur {i g : Int} (h : eA ps z o i = some g) : g ∈ av ps i := by
  unfold eA at h
  split at h
  · exact hz i g h
  · exact ho i g h
include hz ho hall in
theorem oQ {i : Int} (hi : i ∈ ids ps.length) : gx ps z o i ∈ av ps i := by
  obtain ⟨g, hg⟩ := hall i hi
  unfold gx
  rw [hg]
  exact ur hz ho hg
include G hz ho hall in
theorem qu {i : Int} (hi : i ∈ ids ps.length) : gx ps z o i ∈ ids ps.length := bS.mpr (G.goals (oQ hz ho hall hi))
include hall in
theorem zE {i : Int} (hi : i ∈ ids ps.length) : bx (oT (eA ps z o) ps.length) (.int i) = .ok (.int (gx ps z o i)) := by
  obtain ⟨h0, h1⟩ := bS.mp hi
  obtain ⟨g, hg⟩ := hall i hi
  rw [mI h0 h1]
  unfold gx
  rw [hg]
  rfl
include G hz ho hall in
theorem DF {s : Int} (hs : s ∈ ids ps.length) : ∃ K e, kW (gx ps z o) s K e ∧ cO (tE (e2 (lH true) (ad 6) (cV 5))) rB 1000000 (rV ps z o s [] s) = .ok (.nx (rV ps z o s (kf (gx ps z o) s K) (gv (gx ps z o) s K))) := by
  have hp := G.hp
  refine oW (V := rV ps z o s) (S := fun x => x ∈ ids ps.length) (n := ps.length) (fun _ h => h) (fun x h => qu G hz ho hall h) (fun pl x _ => ?_) (fun pl x hx hl => ?_) hs 1000000 0 (by unfold kf; simp) (by omega)
  · simp only [cv, bj, am, ak, gX, gW, R.ok_bind, Ek, cL]
    rfl
  · unfold rB
    rw [aJ (ρ' := rV ps z o s (pl ++ [x]) x) (by
      rw [jN (ds := pl.map .int) (ad 6) rfl (Nat.lt_of_lt_of_le (show _ < 1001 by rw [List.length_map]; omega) (by decide))]
      simp only [ak, am, cf, R.ok_bind]
      rw [show pl.map PyData.int ++ [PyData.int x] = (pl ++ [x]).map .int by simp]
      rfl)]
    simp only [bp, bj, ak, am, R.ok_bind, zE hall hx]
    rfl
include G hw hz ho hall in
theorem uQ {s : Int} (hs : s ∈ ids ps.length) : ∃ K e, kW (gx ps z o) s K e ∧ dn [gD ps, oT z ps.length, oT o ps.length, .int s] = .ok (Fu (gx ps z o) s K e) := by
  have hp := G.hp
  obtain ⟨K, e, w, hl⟩ := DF G hz ho hall hs
  refine ⟨K, e, w, ?_⟩
  have hK := qQ (S := fun x => x ∈ ids ps.length) (fun _ h => h) (fun x h => qu G hz ho hall h) hs w.nd
  have m1 := lC (vL z ps.length) (ps := ps) hp
  have m2 := lC (vL o ps.length) (ps := ps) hp
  rw [qb hz] at m1
  rw [qb ho] at m2
  have m3 := B4 hp hw z o
  have m4 := A2 (eA ps z o) ps.length
  have m5 : ((ids ps.length).any fun i => (eA ps z o i).isNone) = false := by
    rw [List.any_eq_false]
    intro i hi
    obtain ⟨g, hg⟩ := hall i hi
    rw [hg]
    simp
  rw [m5] at m4
  have m6 := qd (d := .int s) True.intro ps
  rw [yW hs] at m6
  have hm : gv (gx ps z o) s K ∈ kf (gx ps z o) s K := jY.mpr ⟨e, w.lt, w.eq.symm⟩
  have m7 := tJ (by rw [dD]; omega) (fun x hx => by
    obtain ⟨j, _, rfl⟩ := jY.mp hx
    have := bS.mp (vm (nx := gx ps z o) (S := fun x => x ∈ ids ps.length) (fun x h => qu G hz ho hall h) hs j)
    omega) hm
  rw [w.idx] at m7
  have he := w.lt
  unfold dn lU
  refine dY ?_
  rw [show ([gD ps, oT z ps.length, oT o ps.length, .int s].map ba.val ++ List.replicate (8 - [gD ps, oT z ps.length, oT o ps.length, .int s].length) ba.non) = [.val (gD ps), .val (oT z ps.length), .val (oT o ps.length), .val (.int s), .non, .non, .non, .non] from rfl]
  rw [aJ (ρ' := [.val (gD ps), .val (oT z ps.length), .val (oT o ps.length), .val (.int s), .non, .non, .non, .non]) (by
    simp only [du, jR, fR, cv, aX, aL, aP, ak, am, R.ok_bind, m1, m2, cL]; rfl)]
  rw [aJ (ρ' := [.val (gD ps), .val (oT z ps.length), .val (oT o ps.length), .val (.int s), .val (oT (eA ps z o) ps.length), .non, .non, .non]) (by
    simp only [bp, aX, aL, aP, ak, am, R.ok_bind, m3]; rfl)]
  rw [aJ (ρ' := [.val (gD ps), .val (oT z ps.length), .val (oT o ps.length), .val (.int s), .val (oT (eA ps z o) ps.length), .non, .non, .non]) (by
    simp only [du, cv, bj, bB, ak, am, R.ok_bind, m4, cL]; rfl)]
  rw [aJ (ρ' := [.val (gD ps), .val (oT z ps.length), .val (oT o ps.length), .val (.int s), .val (oT (eA ps z o) ps.length), .non, .non, .non]) (by
    simp only [du, fR, cv, aX, aL, aP, ak, am, R.ok_bind, m6, cL]; rfl)]
  rw [aJ (ρ' := [.val (gD ps), .val (oT z ps.length), .val (oT o ps.length), .val (.int s), .val (oT (eA ps z o) ps.length), .own (.list []), .non, .non]) (by rfl)]
  rw [aJ (ρ' := rV ps z o s [] s) (by rfl)]
  rw [aJ (ρ' := rV ps z o s (kf (gx ps z o) s K) (gv (gx ps z o) s K)) (by
    rw [eE]
    show mH (cO (tE (e2 (lH true) (ad 6) (cV 5))) rB 1000000 _) = _
    rw [hl]
    rfl)]
  rw [aJ (ρ' := [.val (gD ps), .val (oT z ps.length), .val (oT o ps.length), .val (.int s), .val (oT (eA ps z o) ps.length), .own (.list ((kf (gx ps z o) s K).map .int)), .val (.int (gv (gx ps z o) s K)), .val (.int (e : Nat))]) (by
    rw [bp]
    unfold qp
    simp only [gX, gW, am, ak, R.ok_bind, Cw, m7]
    rfl)]
  simp only [ci, nK, aL, aP, bW, yh, gX, gW, rS, rX, am, ak, R.ok_bind, Br, Dc, jt]
  rw [xG (by rw [List.length_map, dD]; omega), zn (by rw [List.length_map, dD]; omega), if_pos (by show 2 ≤ _; decide), R.ok_bind]
  unfold Fu rm dC
  rw [List.map_take, List.map_drop]
end
theorem rQ {fe : Fe} {ρ : aN} {p : Int → Int → Bool} : ∀ (rs ss : List Int), (∀ q ∈ rs.zip ss, fe (.val (.int q.1) :: .val (.int q.2) :: ρ) = .ok (.bool (p q.1 q.2))) → bE (cK 0 1) (fun _ => .ok true) fe (.non :: .non :: ρ) (gt (rs.map .int) (ss.map .int)) = .ok ((rs.zip ss).map fun q => .bool (p q.1 q.2))
  | [], ss, _ => by unfold gt; simp [cB]
  | r :: rs, [], _ => by unfold gt; simp [cB]
  | r :: rs, s :: ss, h => by
    have e : gt ((r :: rs).map .int) ((s :: ss).map .int) = .tuple [.int r, .int s] :: gt (rs.map .int) (ss.map .int) := rfl
    have h1 := h (r, s) (by simp)
    rw [e, gF, rQ rs ss fun q hq => h q (by rw [List.zip_cons_cons]; exact List.mem_cons_of_mem _ hq)]
    simp only [List.set_cons_zero, List.set_cons_succ, R.ok_bind, if_true, h1]
    rfl
def BW (ps : List P4) (rs : List Int) : Bool := (rs.zip (rs.drop 1 ++ rs.take 1)).all fun q => cN (av ps q.1) q.2
theorem yH {ps : List P4} {rs : List Int} : BW ps rs = true ↔ CL ps rs := by
  have hl : (rs.drop 1 ++ rs.take 1).length = rs.length := by
    rw [List.length_append, List.length_drop, List.length_take]; omega
  have hg : ∀ j (h : j < rs.length), (rs.drop 1 ++ rs.take 1)[j]'(by rw [hl]; exact h) = rs[(j + 1) % rs.length]'(Nat.mod_lt _ (by omega)) := fun j h => by
    by_cases hj : j + 1 < rs.length
    · rw [List.getElem_append_left (by rw [List.length_drop]; omega), List.getElem_drop]
      simp only [Nat.mod_eq_of_lt hj, Nat.add_comm]
    · rw [List.getElem_append_right (by rw [List.length_drop]; omega), List.getElem_take]
      have e1 : j - (rs.drop 1).length = 0 := by rw [List.length_drop]; omega
      have e2 : (j + 1) % rs.length = 0 := by rw [show j + 1 = rs.length by omega]; exact Nat.mod_self _
      simp only [e1, e2]
  unfold BW
  rw [List.all_eq_true]
  constructor
  · intro h j hj
    have := h (rs[j], (rs.drop 1 ++ rs.take 1)[j]'(by rw [hl]; exact hj)) (List.mem_iff_getElem.mpr ⟨j, by rw [List.length_zip, hl]; omega, by rw [List.getElem_zip]⟩)
    rw [bT] at this
    dsimp only at this
    rw [hg j hj] at this
    exact this
  · intro h q hq
    obtain ⟨j, hj, e⟩ := List.mem_iff_getElem.mp hq
    rw [List.length_zip, hl, Nat.min_self] at hj
    rw [List.getElem_zip] at e
    subst e
    rw [bT]
    dsimp only
    rw [hg j hj]
    exact h j hj
def AI (n : Nat) : PyData → Bool
  | .tuple ds => ds.isEmpty || !(ds.all fun d => sV d 0 ((n : Int) - 1))
  | _ => true
theorem pL {ps : List P4} {ds : List PyData} (h : ∀ d ∈ ds, noD d) : bE (aS 0) (fun _ => .ok true) (aI aA (af (ad 0) (af (ad 1) aH))) [.non, .val (gD ps)] ds = .ok (ds.map fun d => .bool (sV d 0 ((ps.length : Int) - 1))) :=
  eN _ _ 0 (fun d => .bool (sV d 0 ((ps.length : Int) - 1))) ds fun d hd => by
    simp only [List.set_cons_zero, aX, aL, aP, ak, am, R.ok_bind, qd (h d hd)]
theorem Dd {ps : List P4} {d : PyData} (hg : ic d) (hl : ∀ ds, d = .tuple ds → ds.length ≤ 1000) (hb : AI ps.length d = true) : cU [d, gD ps] = .ok (.bool false) := by
  unfold cU jT
  refine dY ?_
  rw [show ([d, gD ps].map ba.val ++ List.replicate (3 - [d, gD ps].length) ba.non) = [.val d, .val (gD ps), .non] from rfl]
  cases d with
  | tuple ds =>
    have h0 := kQ.mp hg
    cases ds with
    | nil => rfl
    | cons d0 ds =>
      rw [aJ (ρ' := [.val (.tuple (d0 :: ds)), .val (gD ps), .non]) (by
        have : ¬ (((d0 :: ds).length : Nat) : Int) = 0 := by rw [List.length_cons]; omega
        simp only [du, jR, fR, cv, bW, bj, bB, ak, R.ok_bind, show ju .tuple (.tuple (d0 :: ds)) = .ok (.bool true) from rfl, cL, kD, fM, decide_eq_false this]
        rfl)]
      refine uB ?_
      have hc := pL (ps := ps) (ds := d0 :: ds) fun x hx => (h0 x hx).noD
      have ha : ((d0 :: ds).all fun d => sV d 0 ((ps.length : Int) - 1)) = false := by
        have : (false || !((d0 :: ds).all fun d => sV d 0 ((ps.length : Int) - 1))) = true := hb
        rw [Bool.false_or, Bool.not_eq_true'] at this
        exact this
      have hd : lP (.list ((d0 :: ds).map fun d => .bool (sV d 0 ((ps.length : Int) - 1)))) = .ok (.bool false) := by
        show (match D2.la ((d0 :: ds).map fun d => PyData.bool (sV d 0 ((ps.length : Int) - 1))) with | some k => R.ok (PyData.bool k) | none => .no) = _
        rw [nD (fun d => sV d 0 ((ps.length : Int) - 1)), ha]
      rw [du, fR, cv, bW, bi, show aB 1 [1] [.val (.tuple (d0 :: ds)), .val (gD ps), .non] = [.non, .val (gD ps)] from rfl]
      simp only [bX, ak, R.ok_bind, cH, cf]
      rw [if_pos (bD (hl _ rfl)), hc, gK, R.ok_bind, hd]
      rfl
  | dict k => exact hg.noD.elim
  | _ => rfl
theorem wq {ps : List P4} {rs : List Int} (hl : rs.length ≤ 1000) (hne : rs ≠ []) (hb : ∀ x ∈ rs, x ∈ ids ps.length) : cU [.tuple (rs.map .int), gD ps] = .ok (.bool (BW ps rs)) := by
  unfold cU jT
  refine dY ?_
  rw [show ([.tuple (rs.map .int), gD ps].map ba.val ++ List.replicate (3 - [.tuple (rs.map .int), gD ps].length) ba.non) = [.val (.tuple (rs.map .int)), .val (gD ps), .non] from rfl]
  have hpos : 0 < rs.length := List.length_pos_iff.mpr hne
  rw [aJ (ρ' := [.val (.tuple (rs.map .int)), .val (gD ps), .non]) (by
    have : ¬ ((rs.length : Nat) : Int) = 0 := by omega
    simp only [du, jR, fR, cv, bW, bj, bB, ak, R.ok_bind, show ju .tuple (.tuple (rs.map .int)) = .ok (.bool true) from rfl, cL, kD, List.length_map, fM, decide_eq_false this]
    rfl)]
  have hc := pL (ps := ps) (ds := rs.map .int) fun x hx => by
    obtain ⟨i, _, rfl⟩ := List.mem_map.mp hx
    exact True.intro
  have ha : ((rs.map PyData.int).all fun d => sV d 0 ((ps.length : Int) - 1)) = true := by
    rw [List.all_eq_true]
    intro x hx
    obtain ⟨i, hi, rfl⟩ := List.mem_map.mp hx
    exact yW (hb i hi)
  have hd : lP (.list ((rs.map PyData.int).map fun d => .bool (sV d 0 ((ps.length : Int) - 1)))) = .ok (.bool true) := by
    show (match D2.la ((rs.map PyData.int).map fun d => PyData.bool (sV d 0 ((ps.length : Int) - 1))) with | some k => R.ok (PyData.bool k) | none => .no) = _
    rw [nD (fun d => sV d 0 ((ps.length : Int) - 1)), ha]
  rw [aJ (ρ' := [.val (.tuple (rs.map .int)), .val (gD ps), .non]) (by
    rw [du, fR, cv, bW, bi, show aB 1 [1] [.val (.tuple (rs.map .int)), .val (gD ps), .non] = [.non, .val (gD ps)] from rfl]
    simp only [bX, ak, R.ok_bind, cH, cf]
    rw [if_pos (by rw [List.length_map]; exact bD hl), hc, gK, R.ok_bind, hd]
    rfl)]
  rw [aJ (ρ' := [.val (.tuple (rs.map .int)), .val (gD ps), .val (.tuple ((rs.drop 1 ++ rs.take 1).map .int))]) (by
    simp only [bp, bj, yh, rS, rX, bB, ak, R.ok_bind, Br, Dw]
    rw [show (some (1 : Int)) = some ((1 : Nat) : Int) from rfl, xG (by rw [List.length_map]; omega), zn (by rw [List.length_map]; omega), yr]
    rw [if_pos (by rw [List.length_drop, List.length_take, List.length_map]; exact bD (by omega)), ← List.map_drop, ← List.map_take, ← List.map_append]
    rfl)]
  have hz := rQ (fe := e2 (lH false) (ad 1) (e2 bx (e2 bx (ad 2) (ad 0)) (eC (.int 3)))) (ρ := [.val (gD ps)]) (p := fun a b => cN (av ps a) b) rs (rs.drop 1 ++ rs.take 1) fun q hq => by
    obtain ⟨h0, h1⟩ := bS.mp (hb q.1 (List.of_mem_zip hq).1)
    simp only [bj, am, ak, bB, R.ok_bind, k9 h0 h1, nN, BT]
    rw [← dI h0 h1]
    rfl
  rw [ci, bW, bi, show aB 2 [1] [.val (.tuple (rs.map .int)), .val (gD ps), .val (.tuple ((rs.drop 1 ++ rs.take 1).map .int))] = [.non, .non, .val (gD ps)] from rfl]
  simp only [vi, ak, am, R.ok_bind, cH, cf]
  rw [if_pos (by rw [jH, List.length_map]; exact bD (by omega)), hz, gK, R.ok_bind]
  show ((match D2.la ((rs.zip (rs.drop 1 ++ rs.take 1)).map fun q => PyData.bool (cN (av ps q.1) q.2)) with | some k => R.ok (PyData.bool k) | none => .no) >>= fun d => R.ok (xk.rt d)) = _
  rw [all_map (fun q : Int × Int => cN (av ps q.1) q.2)]
  rfl
theorem wH {ps : List P4} {rs : List Int} (hl : rs.length ≤ 1000) (hne : rs ≠ []) (hb : ∀ x ∈ rs, x ∈ ids ps.length) (hr : CL ps rs) : ∃ h, eu [gD ps, .tuple (rs.map .int)] = .ok (.int (h % 2)) ∧ pb (.list ((rs.map (aD ps)).map .int)) = .ok (.int h) ∧ (∃ i ∈ rs, aD ps i = h) ∧ ∀ i ∈ rs, aD ps i ≤ h := by
  obtain ⟨h, h1, h2, h3⟩ := qe (ps := ps) hne
  refine ⟨h, ?_, h1, h2, h3⟩
  have hring := wq hl hne hb
  rw [yH.mpr hr] at hring
  unfold eu nY
  refine dY ?_
  rw [show ([gD ps, .tuple (rs.map .int)].map ba.val ++ List.replicate (2 - [gD ps, .tuple (rs.map .int)].length) ba.non) = [.val (gD ps), .val (.tuple (rs.map .int))] from rfl]
  rw [aJ (ρ' := [.val (gD ps), .val (.tuple (rs.map .int))]) (by
    simp only [du, fR, cv, aX, aL, aP, ak, am, R.ok_bind, hring, cL]; rfl)]
  have hc : bE (aS 0) (fun _ => .ok true) (e2 bx (e2 bx (ad 1) (ad 0)) (eC (.int 1))) [.non, .val (gD ps)] (rs.map .int) = .ok ((rs.map (aD ps)).map .int) := by
    have := eN (e2 bx (e2 bx (ad 1) (ad 0)) (eC (.int 1))) [.non, .val (gD ps)] 0 (fun d => match d with | .int i => .int (aD ps i) | d => d) (rs.map .int) fun d hd => by
      obtain ⟨i, hi, rfl⟩ := List.mem_map.mp hd
      obtain ⟨i0, i1⟩ := bS.mp (hb i hi)
      simp only [List.set_cons_zero, bj, ak, am, bB, R.ok_bind, k9 i0 i1, uT]
      rw [jP i0 i1]
    rw [this, List.map_map, List.map_map]
    rfl
  rw [ci, bj, bW, bi, show aB 1 [0] [.val (gD ps), .val (.tuple (rs.map .int))] = [.non, .val (gD ps)] from rfl]
  simp only [bX, ak, am, R.ok_bind, cH, cf]
  rw [if_pos (by rw [List.length_map]; exact bD hl), hc, gK, R.ok_bind, h1, R.ok_bind, bB, R.ok_bind, qv, if_pos (by decide)]
  rfl
theorem yl (k m : Nat) : kh k (m + 1) = kh k m ++ [((k + m : Nat) : Int)] := by
  unfold kh
  rw [List.range_succ, List.map_append]
  rfl
def ux (ps : List P4) (who : Int) (dr : Int → Int) (share : Int) (i : Int) : Option Int := if aj ps i ≠ who ∨ (0 < share ∧ dr i % share = 0) then none else (av ps i)[(dr i / 7 % ((av ps i).length : Int)).toNat]?
def Eo : Fs := (aT (bQ 7 (aI az (af (ad 2) (af (ad 5) aH)))) (lI (nv (tE (e2 (w5) (e2 bx (ad 6) (eC (.int 0))) (ad 1))) (mM (tE (e2 (fD pC) (ad 3) (eC (.int 0)))) (tE (e2 (iY) (e2 fx (ad 7) (ad 3)) (eC (.int 0)))))) (cr 4 (eC .none)) (cr 4 (e2 bx (e2 bx (ad 6) (eC (.int 3))) (e2 fx (e2 lA (ad 7) (eC (.int 7))) (e1 dE (e2 bx (ad 6) (eC (.int 3)))))))))
theorem DU {ps : List P4} {i : Int} (h0 : 0 ≤ i) (h1 : i < ps.length) : bx (jb ps i) (.int 3) = .ok (.tuple ((av ps i).map .int)) := by
  unfold jb
  rw [List.getElem?_eq_getElem (show i.toNat < ps.length by omega), dI h0 h1]
  rfl
abbrev wg (ps : List P4) (who num share : Int) (acc : List PyData) (c5 c6 c7 : ba) : aN := [.val (gD ps), .val (.int who), .val (.int num), .val (.int share), .own (.list acc), c5, c6, c7]
section
variable {ps : List P4} (hne : ∀ i ∈ ids ps.length, av ps i ≠ []) {who num share : Int} {dr : Int → Int} (hdr : ∀ k, az [.int num, .int k] = .ok (.int (dr k)))
include hne hdr
theorem Cn {acc : List PyData} (ha : acc.length ≤ 1000) {i : Int} (h0 : 0 ≤ i) (h1 : i < ps.length) (c7 : ba) :
    Eo (wg ps who num share acc (.val (.int i)) (.val (jb ps i)) c7) = .ok (.nx (wg ps who num share (acc ++ [oD (ux ps who dr share i)]) (.val (.int i)) (.val (jb ps i)) (.val (.int (dr i))))) := by
  have hg := hne i (bS.mpr ⟨h0, h1⟩)
  have hpos : 0 < ((av ps i).length : Int) := by
    have := List.length_pos_iff.mpr hg
    omega
  have a0 := Int.emod_nonneg (dr i / 7) (show ((av ps i).length : Int) ≠ 0 by omega)
  have a1 := Int.emod_lt_of_pos (dr i / 7) hpos
  have hz : acc.length < sizeLine := Nat.lt_of_lt_of_le (show acc.length < 1001 by omega) (by decide)
  unfold Eo
  rw [aJ (ρ' := wg ps who num share acc (.val (.int i)) (.val (jb ps i)) (.val (.int (dr i)))) (by
    simp only [bp, aX, aL, aP, am, ak, R.ok_bind, hdr]; rfl)]
  have ap : ∀ f d, f (wg ps who num share acc (.val (.int i)) (.val (jb ps i)) (.val (.int (dr i)))) = .ok d → cr 4 f (wg ps who num share acc (.val (.int i)) (.val (jb ps i)) (.val (.int (dr i)))) = .ok (.nx (wg ps who num share (acc ++ [d]) (.val (.int i)) (.val (jb ps i)) (.val (.int (dr i))))) := fun f d e => by
    rw [jN (ds := acc) f rfl hz, e]
    rfl
  have hix := u6 (xs := (av ps i).map PyData.int) (i := dr i / 7 % ((av ps i).length : Int)) a0 (by simpa using a1)
  have hv : (e2 bx (e2 bx (ad 6) (eC (.int 3))) (e2 fx (e2 lA (ad 7) (eC (.int 7))) (e1 dE (e2 bx (ad 6) (eC (.int 3)))))) (wg ps who num share acc (.val (.int i)) (.val (jb ps i)) (.val (.int (dr i)))) = .ok (.int ((av ps i)[(dr i / 7 % ((av ps i).length : Int)).toNat]'(by omega))) := by
    simp only [bW, bj, am, ak, bB, R.ok_bind, DU h0 h1, kD, List.length_map, BJ]
    rw [if_pos (by decide), R.ok_bind, qv, if_pos hpos, R.ok_bind, hix]
    simp
  unfold ux
  rw [du]
  simp only [jR, sG, cv, bj, am, ak, bB, R.ok_bind, yz h0 h1, sQ, cL, oP]
  by_cases ho : aj ps i = who
  · rw [decide_eq_true ho]
    by_cases hs : 0 < share
    · simp only [Bool.not_true, if_false, Bool.false_eq_true]
      rw [show pC share 0 = true from decide_eq_true hs, if_pos rfl, qv, if_pos hs, R.ok_bind, fM, R.ok_bind, cL, R.ok_bind]
      by_cases hd : dr i % share = 0
      · rw [decide_eq_true hd, if_pos rfl, if_pos (.inr ⟨hs, hd⟩)]
        exact ap _ _ rfl
      · rw [decide_eq_false hd, if_neg (by simp), if_neg (by rintro (z | z); exact z ho; exact hd z.2), List.getElem?_eq_getElem (by omega)]
        exact ap _ _ hv
    · simp only [Bool.not_true, if_false, Bool.false_eq_true]
      rw [show pC share 0 = false from decide_eq_false hs, if_neg (by simp), R.ok_bind, if_neg (by simp), if_neg (by rintro (z | z); exact z ho; exact hs z.1), List.getElem?_eq_getElem (by omega)]
      exact ap _ _ hv
  · rw [decide_eq_false ho, if_pos (show aj ps i ≠ who ∨ (0 < share ∧ dr i % share = 0) from .inl ho)]
    simp only [Bool.not_false, if_true, R.ok_bind]
    exact ap _ _ rfl
theorem uZ (hp : ps.length ≤ 24) : ∀ (m k : Nat) (c5 c6 c7 : ba), k + m = ps.length →
    ∃ c5' c6' c7', eS (cK 5 6) Eo (cG k ((kh k m).map (jb ps))) (wg ps who num share ((kh 0 k).map fun i => oD (ux ps who dr share i)) c5 c6 c7) = .ok (.nx (wg ps who num share ((kh 0 (k + m)).map fun i => oD (ux ps who dr share i)) c5' c6' c7'))
  | 0, k, c5, c6, c7, _ => ⟨c5, c6, c7, by rw [show kh k 0 = [] from rfl]; simp [cG]⟩
  | m + 1, k, c5, c6, c7, hk => by
    have e := Cn hne hdr (who := who) (share := share) (acc := (kh 0 k).map fun i => oD (ux ps who dr share i)) (by rw [List.length_map]; unfold kh; rw [List.length_map, List.length_range]; omega) (i := (k : Int)) (by omega) (by omega) c7
    obtain ⟨c5', c6', c7', e'⟩ := uZ hp m (k + 1) (.val (.int k)) (.val (jb ps k)) (.val (.int (dr k))) (by omega)
    refine ⟨c5', c6', c7', ?_⟩
    rw [ox, List.map_cons]
    rw [show cG k (jb ps k :: (kh (k + 1) m).map (jb ps)) = .tuple [.int k, jb ps k] :: cG (k + 1) ((kh (k + 1) m).map (jb ps)) from rfl, wK]
    rw [show ((wg ps who num share ((kh 0 k).map fun i => oD (ux ps who dr share i)) c5 c6 c7).set 5 (.val (.int k))).set 6 (.val (jb ps k)) = wg ps who num share ((kh 0 k).map fun i => oD (ux ps who dr share i)) (.val (.int k)) (.val (jb ps k)) c7 from rfl]
    rw [e, R.ok_bind, dh]
    rw [show ((kh 0 k).map fun i => oD (ux ps who dr share i)) ++ [oD (ux ps who dr share k)] = (kh 0 (k + 1)).map fun i => oD (ux ps who dr share i) by
      rw [yl, List.map_append]; simp]
    rw [e', show k + 1 + m = k + (m + 1) by omega]
end
theorem qa {ps : List P4} (hp : ps.length ≤ 24) (hne : ∀ i ∈ ids ps.length, av ps i ≠ []) (who num share : Int) : ∃ f : Int → Option Int, cc [gD ps, .int who, .int num, .int share] = .ok (oT f ps.length) ∧ (∀ i g, f i = some g → g ∈ av ps i) ∧ (∀ i, aj ps i ≠ who → f i = none) ∧ (share = 0 → ∀ i ∈ ids ps.length, aj ps i = who → ∃ g, f i = some g) := by
  have hx : ∀ k : Int, ∃ v, az [.int num, .int k] = .ok (.int v) := fun k => let ⟨v, h, _⟩ := lh num k; ⟨v, h⟩
  obtain ⟨dr, hdr⟩ : ∃ dr : Int → Int, ∀ k, az [.int num, .int k] = .ok (.int (dr k)) := ⟨fun k => (hx k).choose, fun k => (hx k).choose_spec⟩
  refine ⟨ux ps who dr share, ?_, fun i g h => ?_, fun i h => if_pos (.inl h), fun hs i hi ho => ?_⟩
  · obtain ⟨c5, c6, c7, e⟩ := uZ hne hdr (who := who) (share := share) hp ps.length 0 .non .non .non (by omega)
    unfold cc iJ
    refine dY ?_
    rw [show ([gD ps, .int who, .int num, .int share].map ba.val ++ List.replicate (8 - [gD ps, .int who, .int num, .int share].length) ba.non) = [.val (gD ps), .val (.int who), .val (.int num), .val (.int share), .non, .non, .non, .non] from rfl]
    rw [aJ (ρ' := wg ps who num share [] .non .non .non) (by rfl)]
    rw [aJ (ρ' := wg ps who num share ((kh 0 (0 + ps.length)).map fun i => oD (ux ps who dr share i)) c5 c6 c7) (by
      rw [eE, fG, jy]
      simp only [ak, R.ok_bind, cH]
      rw [t6, show cg (jb ps) ps.length = (kh 0 ps.length).map (jb ps) by rw [jZ]; rfl]
      unfold Eo at e
      rw [show (kh 0 0).map (fun i => oD (ux ps who dr share i)) = [] from rfl] at e
      rw [e]
      rfl)]
    rw [ci, bW]
    simp only [gX, gW, R.ok_bind, jt]
    rw [Nat.zero_add, jZ]
    rfl
  · unfold ux at h
    split at h
    · cases h
    · exact List.mem_of_getElem? h
  · have hg := hne i hi
    have hpos : 0 < ((av ps i).length : Int) := by
      have := List.length_pos_iff.mpr hg
      omega
    have a1 := Int.emod_lt_of_pos (dr i / 7) hpos
    have a0 := Int.emod_nonneg (dr i / 7) (show ((av ps i).length : Int) ≠ 0 by omega)
    refine ⟨(av ps i)[(dr i / 7 % ((av ps i).length : Int)).toNat]'(by omega), ?_⟩
    unfold ux
    rw [if_neg (by rintro (z | z); exact z ho; omega)]
    exact List.getElem?_eq_getElem (by omega)
theorem kW.per {nx : Int → Int} {s : Int} {k e : Nat} (w : kW nx s k e) : ∀ d, gv nx s (k + d) = gv nx s (e + d)
  | 0 => w.eq
  | d + 1 => by
    show nx (gv nx s (k + d)) = nx (gv nx s (e + d))
    rw [w.per d]
theorem kW.back {nx : Int → Int} {s : Int} {k e : Nat} (w : kW nx s k e) : ∀ d, ∃ j, e ≤ j ∧ j < k ∧ gv nx s (e + d) = gv nx s j
  | 0 => ⟨e, Nat.le_refl _, w.lt, rfl⟩
  | d + 1 => by
    obtain ⟨j, j1, j2, ej⟩ := w.back d
    have e1 : gv nx s (e + (d + 1)) = gv nx s (j + 1) := by
      show nx (gv nx s (e + d)) = nx (gv nx s j)
      rw [ej]
    by_cases h : j + 1 < k
    · exact ⟨j + 1, by omega, h, e1⟩
    · refine ⟨e, Nat.le_refl _, w.lt, ?_⟩
      rw [e1, show j + 1 = k by omega, w.eq]
theorem xS {nx : Int → Int} {s : Int} {al : Int → Prop} {a : Nat} (h : ∀ d, al (gv nx s (a + d))) : ∀ d, pV (fun x y => y = nx x ∧ al x) al (gv nx s a) (gv nx s (a + d + 1))
  | 0 => .one ⟨rfl, h 0⟩ (h 1)
  | d + 1 => .more (xS h d) ⟨rfl, h (d + 1)⟩ (h (d + 2))
theorem kW.ringPth {nx : Int → Int} {s : Int} {k e : Nat} (w : kW nx s k e) {al : Int → Prop} (h : ∀ j, e ≤ j → j < k → al (gv nx s j)) {j : Nat} (h1 : e ≤ j) (h2 : j < k) : pV (fun x y => y = nx x ∧ al x) al (gv nx s j) (gv nx s j) := by
  have hall : ∀ d, al (gv nx s (j + d)) := fun d => by
    obtain ⟨i, i1, i2, ei⟩ := w.back (j - e + d)
    rw [show e + (j - e + d) = j + d by omega] at ei
    rw [ei]
    exact h i i1 i2
  have p := xS hall (k - e - 1)
  have hl := w.lt
  rw [show j + (k - e - 1) + 1 = k + (j - e) by omega, w.per, show e + (j - e) = j by omega] at p
  exact p
def gC (ps : List P4) (w : Int) (mv f : Int → Option Int) (i : Int) : Option Int := if mv i = none ∨ aj ps i ≠ w then f i else mv i
structure De (ps : List P4) (win : Int → Int) (w : Int) (mv z o : Int → Option Int) : Prop where
  zg : ∀ i g, z i = some g → g ∈ av ps i
  og : ∀ i g, o i = some g → g ∈ av ps i
  all : ∀ i ∈ ids ps.length, ∃ g, eA ps z o i = some g
  own : ∀ i ∈ ids ps.length, win i = w → aj ps i = w → eA ps z o i = mv i
section
variable {ps : List P4} (G : Gr ps) (hw : ∀ i ∈ ids ps.length, aj ps i = 0 ∨ aj ps i = 1) {win : Int → Int} {mv : Int → Option Int} (I : tS ps (ids ps.length) win mv) (hn : ∀ i, i ∉ ids ps.length → mv i = none)
include I hn in
theorem Aw {i g : Int} (h : mv i = some g) : g ∈ av ps i := by
  by_cases hi : i ∈ ids ps.length
  · by_cases ho : aj ps i = win i
    · obtain ⟨g', h1, h2⟩ := I.has i hi ho
      rw [h1] at h
      cases h
      exact h2
    · rw [I.non i hi ho] at h
      cases h
  · rw [hn i hi] at h
    cases h
include G hw I hn in
theorem AH {w : Int} (w01 : w = 0 ∨ w = 1) {f0 f1 : Int → Option Int} (g0 : ∀ i g, f0 i = some g → g ∈ av ps i) (g1 : ∀ i g, f1 i = some g → g ∈ av ps i) (a0 : ∀ i ∈ ids ps.length, aj ps i = 0 → ∃ g, f0 i = some g) (a1 : ∀ i ∈ ids ps.length, aj ps i = 1 → ∃ g, f1 i = some g) :
    De ps win w mv (if w = 1 then f0 else gC ps w mv f0) (if w = 1 then gC ps w mv f1 else f1) := by
  have mg : ∀ f : Int → Option Int, (∀ i g, f i = some g → g ∈ av ps i) → ∀ i g, gC ps w mv f i = some g → g ∈ av ps i := fun f hf i g h => by
    unfold gC at h
    split at h
    · exact hf i g h
    · exact Aw I hn h
  have ma : ∀ f : Int → Option Int, ∀ i ∈ ids ps.length, (∃ g, f i = some g) → ∃ g, gC ps w mv f i = some g := fun f i hi ⟨g, hg⟩ => by
    unfold gC
    split
    · exact ⟨g, hg⟩
    · rename_i z
      cases hm : mv i with
      | none => exact (z (.inl hm)).elim
      | some g => exact ⟨g, rfl⟩
  have mo : ∀ f : Int → Option Int, ∀ i ∈ ids ps.length, win i = w → aj ps i = w → gC ps w mv f i = mv i := fun f i hi h1 h2 => by
    obtain ⟨g, hg, _⟩ := I.has i hi (h2.trans h1.symm)
    unfold gC
    rw [if_neg (by rintro (z | z); rw [hg] at z; cases z; exact z h2)]
  refine ⟨fun i g h => ?_, fun i g h => ?_, fun i hi => ?_, fun i hi h1 h2 => ?_⟩
  · split at h
    · exact g0 i g h
    · exact mg f0 g0 i g h
  · split at h
    · exact mg f1 g1 i g h
    · exact g1 i g h
  · unfold eA
    rcases hw i hi with ho | ho
    · rw [if_pos ho]
      split
      · exact a0 i hi ho
      · exact ma f0 i hi (a0 i hi ho)
    · rw [if_neg (by omega)]
      split
      · exact ma f1 i hi (a1 i hi ho)
      · exact a1 i hi ho
  · unfold eA
    rcases w01 with e | e
    · rw [if_pos (by omega), if_neg (by omega)]
      exact mo f0 i hi h1 h2
    · rw [if_neg (by omega), if_pos e]
      exact mo f1 i hi h1 h2
include G I in
theorem yE {w : Int} {z o : Int → Option Int} (D : De ps win w mv z o) {s : Int} (hs : s ∈ ids ps.length) (hws : win s = w) {K e : Nat} (wk : kW (gx ps z o) s K e) :
    (∀ j, gv (gx ps z o) s j ∈ ids ps.length ∧ win (gv (gx ps z o) s j) = w) ∧ ∀ h, (∃ i ∈ dC (gx ps z o) s K e, aD ps i = h) → (∀ i ∈ dC (gx ps z o) s K e, aD ps i ≤ h) → h % 2 = w := by
  have step : ∀ i, i ∈ ids ps.length → win i = w → Wy ps (ids ps.length) w mv i (gx ps z o i) := fun i hi hwi => by
    obtain ⟨g, hg⟩ := D.all i hi
    have en : gx ps z o i = g := by unfold gx; rw [hg]; rfl
    by_cases ho : aj ps i = w
    · refine .inl ⟨ho, ?_⟩
      rw [← D.own i hi hwi ho, hg, en]
    · refine .inr ⟨ho, ?_⟩
      have := oQ D.zg D.og D.all hi
      exact iX this (bS.mpr (G.goals this))
  have all : ∀ j, gv (gx ps z o) s j ∈ ids ps.length ∧ win (gv (gx ps z o) s j) = w := fun j => by
    induction j with
    | zero => exact ⟨hs, hws⟩
    | succ j ih =>
      have q := I.stay _ ih.1 _ (by rw [ih.2]; exact step _ ih.1 ih.2)
      exact ⟨q.1, q.2.trans ih.2⟩
  refine ⟨all, fun h ⟨i, hi, ei⟩ hmax => ?_⟩
  by_cases hh : h % 2 = w
  · exact hh
  · exfalso
    obtain ⟨j, j1, j2, ej⟩ := pJ hi
    have hij := (all j)
    rw [ej] at hij
    refine I.good i hij.1 (by rw [ei, hij.2]; exact hh) ?_
    have p := wk.ringPth (al := fun x => (x ∈ ids ps.length ∧ win x = w) ∧ aD ps x ≤ h) (fun j a b => ⟨all j, hmax _ (by
      refine List.mem_iff_getElem.mpr ⟨j - e, by rw [dX]; omega, ?_⟩
      rw [ip (by omega), show e + (j - e) = j by omega])⟩) j1 j2
    rw [ej] at p
    rw [hij.2, ei]
    exact p.imp (fun y ⟨a, b⟩ c => ⟨by rw [a]; exact step _ b.1.1 b.1.2, c.1.1, c.1.2, c.2⟩) fun x y _ ⟨a, b⟩ c => ⟨by rw [a]; exact step _ b.1.1 b.1.2, c.1.1, c.1.2, c.2⟩
end
def Ee : Fs := (lI (nv (tE (e2 (jc) (ad 10) (eC .none))) (tE (e2 (w5) (e2 bx (ad 9) (eC (.int 0))) (ad 7)))) (cr 8 (ad 11)) (cr 8 (ad 10)))
abbrev kV (a : PyData) (ps : List P4) (win : Int → Int) (mv : Int → Option Int) (k4 d5 : PyData) (s : Int) (c7 c8 c9 c10 c11 c12 c13 c14 : ba) : aN :=
  [.val a, .val (gD ps), .val (oT (fun i => some (win i)) ps.length), .val (oT mv ps.length), .val k4, .val d5, .val (.int s), c7, c8, c9, c10, c11, c12, c13, c14]
theorem vR {a k4 d5 : PyData} {ps : List P4} {win : Int → Int} {mv f : Int → Option Int} {s w : Int} {c12 c13 c14 : ba} : ∀ (is : List Int) (acc : List PyData) (c9 c10 c11 : ba), (∀ x ∈ is, 0 ≤ x ∧ x < ps.length) → acc.length + is.length ≤ 1000 →
    ∃ c9' c10' c11', eS (si 9 10 11) Ee (is.map fun i => .tuple [jb ps i, oD (mv i), oD (f i)]) (kV a ps win mv k4 d5 s (.val (.int w)) (.own (.list acc)) c9 c10 c11 c12 c13 c14) = .ok (.nx (kV a ps win mv k4 d5 s (.val (.int w)) (.own (.list (acc ++ is.map fun i => oD (gC ps w mv f i)))) c9' c10' c11' c12 c13 c14))
  | [], acc, c9, c10, c11, _, _ => ⟨c9, c10, c11, by simp⟩
  | i :: is, acc, c9, c10, c11, hb, hl => by
    obtain ⟨h0, h1⟩ := hb i List.mem_cons_self
    rw [List.length_cons] at hl
    have hz : acc.length < sizeLine := Nat.lt_of_lt_of_le (show acc.length < 1001 by omega) (by decide)
    obtain ⟨c9', c10', c11', e⟩ := vR (a := a) (k4 := k4) (d5 := d5) (ps := ps) (win := win) (mv := mv) (f := f) (s := s) (w := w) (c12 := c12) (c13 := c13) (c14 := c14) is (acc ++ [oD (gC ps w mv f i)]) (.val (jb ps i)) (.val (oD (mv i))) (.val (oD (f i))) (fun x hx => hb x (List.mem_cons_of_mem _ hx)) (by simp; omega)
    refine ⟨c9', c10', c11', ?_⟩
    rw [List.map_cons, yo]
    rw [show (((kV a ps win mv k4 d5 s (.val (.int w)) (.own (.list acc)) c9 c10 c11 c12 c13 c14).set 9 (.val (jb ps i))).set 10 (.val (oD (mv i)))).set 11 (.val (oD (f i))) = kV a ps win mv k4 d5 s (.val (.int w)) (.own (.list acc)) (.val (jb ps i)) (.val (oD (mv i))) (.val (oD (f i))) c12 c13 c14 from rfl]
    have hb1 : Ee (kV a ps win mv k4 d5 s (.val (.int w)) (.own (.list acc)) (.val (jb ps i)) (.val (oD (mv i))) (.val (oD (f i))) c12 c13 c14) = .ok (.nx (kV a ps win mv k4 d5 s (.val (.int w)) (.own (.list (acc ++ [oD (gC ps w mv f i)]))) (.val (jb ps i)) (.val (oD (mv i))) (.val (oD (f i))) c12 c13 c14)) := by
      have ap : ∀ g d, g (kV a ps win mv k4 d5 s (.val (.int w)) (.own (.list acc)) (.val (jb ps i)) (.val (oD (mv i))) (.val (oD (f i))) c12 c13 c14) = .ok d → cr 8 g (kV a ps win mv k4 d5 s (.val (.int w)) (.own (.list acc)) (.val (jb ps i)) (.val (oD (mv i))) (.val (oD (f i))) c12 c13 c14) = .ok (.nx (kV a ps win mv k4 d5 s (.val (.int w)) (.own (.list (acc ++ [d]))) (.val (jb ps i)) (.val (oD (mv i))) (.val (oD (f i))) c12 c13 c14)) := fun g d e => by
        rw [jN (ds := acc) g rfl hz, e]
        rfl
      unfold Ee gC
      rw [du]
      simp only [jR, cv, bj, am, ak, bB, R.ok_bind, uR, yz h0 h1, sQ, cL]
      cases hm : mv i with
      | none =>
        rw [if_pos (show (none : Option Int).isNone = true from rfl), R.ok_bind, if_pos rfl, if_pos (.inl rfl), ← hm]
        exact ap _ _ (by rw [hm]; rfl)
      | some g =>
        rw [if_neg (by simp), R.ok_bind]
        by_cases ho : aj ps i = w
        · rw [decide_eq_true ho, if_neg (by simp), if_neg (by rintro (z | z); cases z; exact z ho), ← hm]
          exact ap _ _ (by rw [hm]; rfl)
        · rw [decide_eq_false ho, if_pos (by rfl), if_pos (.inr ho), ← hm]
          exact ap _ _ (by rw [hm]; rfl)
    rw [hb1, R.ok_bind, dh, e, List.append_assoc]
    rfl
def DP : Fs := (aT (bQ 7 (e2 bx (ad 2) (ad 6))) (aT (gH 8 (lv aH)) (aT (ia (i9 (pW (ad 1) (ad 3) (e2 bx (ad 5) (ad 7))) (si 9 10 11) Ee)) (aT (bQ 12 (lv (af (e1 cs (cV 8)) (af (e2 bx (ad 5) (eC (.int 1))) aH)))) (aT (lI (tE (e2 (iY) (ad 7) (eC (.int 1)))) (bQ 12 (lv (af (e2 bx (ad 5) (eC (.int 0))) (af (e1 cs (cV 8)) aH)))) dB) (aT (uf (cK 13 14) (aI dn (af (ad 1) (af (e2 bx (ad 12) (eC (.int 0))) (af (e2 bx (ad 12) (eC (.int 1))) (af (ad 6) aH)))))) (lI (nv (iy (tE (e1 lP (bL (eB (e2 fO (ad 13) (ad 14))) 1 [2, 7] (aS 0) (fun _ => .ok true) (e2 (iY) (e2 bx (ad 1) (ad 0)) (ad 2)))))) (tE (e2 (w5) (aI eu (af (ad 1) (af (ad 14) aH))) (ad 7)))) (cF (eC (.bool false))) dB)))))))
section
variable {a k4 : PyData} {ps : List P4} (G : Gr ps) (hw : ∀ i ∈ ids ps.length, aj ps i = 0 ∨ aj ps i = 1) {win : Int → Int} {mv : Int → Option Int} (I : tS ps (ids ps.length) win mv) (hn : ∀ i, i ∉ ids ps.length → mv i = none)
  {f0 f1 : Int → Option Int} (g0 : ∀ i g, f0 i = some g → g ∈ av ps i) (g1 : ∀ i g, f1 i = some g → g ∈ av ps i) (a0 : ∀ i ∈ ids ps.length, aj ps i = 0 → ∃ g, f0 i = some g) (a1 : ∀ i ∈ ids ps.length, aj ps i = 1 → ∃ g, f1 i = some g)
include G hw I hn g0 g1 a0 a1
theorem Cj {s : Int} (hs : s ∈ ids ps.length) (c7 c8 c9 c10 c11 c12 c13 c14 : ba) :
    ∃ c7' c8' c9' c10' c11' c12' c13' c14', DP (kV a ps win mv k4 (.list [oT f0 ps.length, oT f1 ps.length]) s c7 c8 c9 c10 c11 c12 c13 c14) = .ok (.nx (kV a ps win mv k4 (.list [oT f0 ps.length, oT f1 ps.length]) s c7' c8' c9' c10' c11' c12' c13' c14')) := by
  have hp := G.hp
  obtain ⟨s0, s1⟩ := bS.mp hs
  obtain ⟨w, ew⟩ : ∃ w, w = win s := ⟨_, rfl⟩
  have w01 := I.two s hs
  rw [← ew] at w01
  obtain ⟨f, ef⟩ : ∃ f : Int → Option Int, f = if w = 1 then f1 else f0 := ⟨_, rfl⟩
  obtain ⟨d5, e5⟩ : ∃ d5 : PyData, d5 = .list [oT f0 ps.length, oT f1 ps.length] := ⟨_, rfl⟩
  have x0 : bx d5 (.int 0) = .ok (oT f0 ps.length) := by rw [e5]; rfl
  have x1 : bx d5 (.int 1) = .ok (oT f1 ps.length) := by rw [e5]; rfl
  have xw : bx d5 (.int w) = .ok (oT f ps.length) := by
    rcases w01 with z | z
    · rw [z, x0, ef, if_neg (by omega)]
    · rw [z, x1, ef, if_pos z]
  rw [← e5]
  obtain ⟨m, em⟩ : ∃ m, m = gC ps w mv f := ⟨_, rfl⟩
  have D := AH G hw I hn w01 g0 g1 a0 a1
  obtain ⟨z, ez⟩ : ∃ z : Int → Option Int, z = if w = 1 then f0 else gC ps w mv f0 := ⟨_, rfl⟩
  obtain ⟨o, eo⟩ : ∃ o : Int → Option Int, o = if w = 1 then gC ps w mv f1 else f1 := ⟨_, rfl⟩
  rw [← ez, ← eo] at D
  obtain ⟨K, e, wk, hring⟩ := uQ G hw D.zg D.og D.all hs
  obtain ⟨hin, hmark⟩ := yE G I D hs ew.symm wk
  have hK := qQ (S := fun x => x ∈ ids ps.length) (fun _ h => h) (fun x h => qu G D.zg D.og D.all h) hs wk.nd
  have he := wk.lt
  have hrl : (dC (gx ps z o) s K e).length ≤ 1000 := by rw [dX]; omega
  have hrn : dC (gx ps z o) s K e ≠ [] := by
    intro q
    have := dX (gx ps z o) s K e
    rw [q] at this
    simp at this
    omega
  have hri : ∀ x ∈ dC (gx ps z o) s K e, x ∈ ids ps.length := fun x hx => by
    obtain ⟨j, _, _, ej⟩ := pJ hx
    rw [← ej]
    exact (hin j).1
  obtain ⟨h, hj, _, hj2, hj3⟩ := wH hrl hrn hri (wk.ring fun j => oQ D.zg D.og D.all (hin j).1)
  have hpar := hmark h hj2 hj3
  rw [hpar] at hj
  obtain ⟨c9', c10', c11', hmn⟩ := vR (a := a) (k4 := k4) (d5 := d5) (ps := ps) (win := win) (mv := mv) (f := f) (s := s) (w := w) (c12 := c12) (c13 := c13) (c14 := c14) (ids ps.length) [] c9 c10 c11 (fun x hx => bS.mp hx) (by rw [rc]; simp; omega)
  rw [← em, List.nil_append] at hmn
  have hz3 : fL (ps.map P4.d) (cg (fun i => oD (mv i)) ps.length) (cg (fun i => oD (f i)) ps.length) = (ids ps.length).map fun i => .tuple [jb ps i, oD (mv i), oD (f i)] := by
    rw [t6]
    exact sg _ _ _ _
  obtain ⟨d12, e12⟩ : ∃ d12 : PyData, d12 = .list [oT z ps.length, oT o ps.length] := ⟨_, rfl⟩
  refine ⟨.val (.int w), .own (.list (cg (fun i => oD (m i)) ps.length)), c9', c10', c11', .val d12, .val (.tuple ((rm (gx ps z o) s K e).map .int)), .val (.tuple ((dC (gx ps z o) s K e).map .int)), ?_⟩
  unfold DP
  rw [aJ (ρ' := kV a ps win mv k4 d5 s (.val (.int w)) c8 c9 c10 c11 c12 c13 c14) (by
    simp only [bp, bj, am, ak, R.ok_bind, mI s0 s1, oD]
    rw [← ew]
    rfl)]
  rw [aJ (ρ' := kV a ps win mv k4 d5 s (.val (.int w)) (.own (.list [])) c9 c10 c11 c12 c13 c14) (by rfl)]
  rw [aJ (ρ' := kV a ps win mv k4 d5 s (.val (.int w)) (.own (.list (cg (fun i => oD (m i)) ps.length))) c9' c10' c11' c12 c13 c14) (by
    rw [eE, fG, yN]
    simp only [bj, am, ak, R.ok_bind, xw, Ck, hz3]
    rw [hmn]
    rfl)]
  have hfin : (lI (tE (e2 (iY) (ad 7) (eC (.int 1)))) (bQ 12 (lv (af (e2 bx (ad 5) (eC (.int 0))) (af (e1 cs (cV 8)) aH)))) dB) (kV a ps win mv k4 d5 s (.val (.int w)) (.own (.list (cg (fun i => oD (m i)) ps.length))) c9' c10' c11' (.val (.list [oT m ps.length, oT f1 ps.length])) c13 c14) = .ok (.nx (kV a ps win mv k4 d5 s (.val (.int w)) (.own (.list (cg (fun i => oD (m i)) ps.length))) c9' c10' c11' (.val d12) c13 c14)) := by
    simp only [du, cv, bj, am, ak, bB, R.ok_bind, fM, cL]
    rcases w01 with q | q
    · rw [decide_eq_false (by omega), if_neg (by simp), e12, ez, eo, em, ef, if_neg (show ¬ w = 1 by omega), if_neg (show ¬ w = 1 by omega), if_neg (show ¬ w = 1 by omega)]
      rfl
    · rw [decide_eq_true q, if_pos rfl]
      simp only [bp, vc, aL, aP, bW, bj, gX, gW, am, ak, bB, R.ok_bind, x0, jt]
      rw [if_pos (by show 2 ≤ _; decide), e12, ez, eo, em, ef, if_pos q, if_pos q, if_pos q]
      rfl
  rw [aJ (ρ' := kV a ps win mv k4 d5 s (.val (.int w)) (.own (.list (cg (fun i => oD (m i)) ps.length))) c9' c10' c11' (.val (.list [oT m ps.length, oT f1 ps.length])) c13 c14) (by
    simp only [bp, vc, aL, aP, bW, bj, gX, gW, am, ak, bB, R.ok_bind, x1, jt]
    rw [if_pos (by show 2 ≤ _; decide)]
    rfl)]
  rw [aJ hfin]
  rw [aJ (ρ' := kV a ps win mv k4 d5 s (.val (.int w)) (.own (.list (cg (fun i => oD (m i)) ps.length))) c9' c10' c11' (.val d12) (.val (.tuple ((rm (gx ps z o) s K e).map .int))) (.val (.tuple ((dC (gx ps z o) s K e).map .int)))) (by
    have y0 : bx d12 (.int 0) = .ok (oT z ps.length) := by rw [e12]; rfl
    have y1 : bx d12 (.int 1) = .ok (oT o ps.length) := by rw [e12]; rfl
    rw [pP _ _ _ _ (.tuple ((rm (gx ps z o) s K e).map .int)) (.tuple ((dC (gx ps z o) s K e).map .int)) (by
      simp only [aX, aL, aP, bj, am, ak, bB, R.ok_bind, y0, y1, hring])]
    rfl)]
  have hpl : (rm (gx ps z o) s K e).map PyData.int ++ (dC (gx ps z o) s K e).map .int = (kf (gx ps z o) s K).map .int := by
    rw [← List.map_append]
    unfold rm dC
    rw [List.take_append_drop]
  have hc := eN (e2 (iY) (e2 bx (ad 1) (ad 0)) (ad 2)) [.non, .val (oT (fun i => some (win i)) ps.length), .val (.int w)] 0 (fun _ => .bool true) ((kf (gx ps z o) s K).map .int) fun d hd => by
    obtain ⟨i, hi, rfl⟩ := List.mem_map.mp hd
    obtain ⟨j, _, ej⟩ := jY.mp hi
    obtain ⟨q1, q2⟩ := hin j
    rw [ej] at q1 q2
    obtain ⟨i0, i1⟩ := bS.mp q1
    simp only [List.set_cons_zero, bj, ak, am, R.ok_bind, mI i0 i1, oD, fM, decide_eq_true q2]
  have hd : lP (.list (((kf (gx ps z o) s K).map PyData.int).map fun _ => .bool true)) = .ok (.bool true) := by
    show (match D2.la (((kf (gx ps z o) s K).map PyData.int).map fun _ => PyData.bool true) with | some k => R.ok (PyData.bool k) | none => .no) = _
    rw [nD (fun _ => true)]
    simp
  have hcond : (iy (tE (e1 lP (bL (eB (e2 fO (ad 13) (ad 14))) 1 [2, 7] (aS 0) (fun _ => .ok true) (e2 (iY) (e2 bx (ad 1) (ad 0)) (ad 2)))))) (kV a ps win mv k4 d5 s (.val (.int w)) (.own (.list (cg (fun i => oD (m i)) ps.length))) c9' c10' c11' (.val d12) (.val (.tuple ((rm (gx ps z o) s K e).map .int))) (.val (.tuple ((dC (gx ps z o) s K e).map .int)))) = .ok false := by
    rw [fR, cv, bW, bi]
    simp only [bX, bj, am, ak, R.ok_bind, yr]
    rw [if_pos (by rw [← List.length_append, hpl, List.length_map, dD]; exact bD (by omega)), hpl]
    simp only [R.ok_bind, cH, cf]
    rw [if_pos (by rw [List.length_map, dD]; exact bD (by omega))]
    rw [show aB 1 [2, 7] (kV a ps win mv k4 d5 s (.val (.int w)) (.own (.list (cg (fun i => oD (m i)) ps.length))) c9' c10' c11' (.val d12) (.val (.tuple ((rm (gx ps z o) s K e).map .int))) (.val (.tuple ((dC (gx ps z o) s K e).map .int)))) = [.non, .val (oT (fun i => some (win i)) ps.length), .val (.int w)] from rfl]
    rw [hc, gK, R.ok_bind, hd]
    rfl
  rw [du, jR, hcond, R.ok_bind]
  simp only [Bool.false_eq_true, if_false, cv, bj, aX, aL, aP, am, ak, R.ok_bind, hj, sQ, cL, decide_true]
  rfl
theorem uX : ∀ (is : List Int) (c6 c7 c8 c9 c10 c11 c12 c13 c14 : ba), (∀ x ∈ is, x ∈ ids ps.length) →
    ∃ c6' c7' c8' c9' c10' c11' c12' c13' c14', eS (aS 6) DP (is.map .int) [.val a, .val (gD ps), .val (oT (fun i => some (win i)) ps.length), .val (oT mv ps.length), .val k4, .val (.list [oT f0 ps.length, oT f1 ps.length]), c6, c7, c8, c9, c10, c11, c12, c13, c14] = .ok (.nx [.val a, .val (gD ps), .val (oT (fun i => some (win i)) ps.length), .val (oT mv ps.length), .val k4, .val (.list [oT f0 ps.length, oT f1 ps.length]), c6', c7', c8', c9', c10', c11', c12', c13', c14'])
  | [], c6, c7, c8, c9, c10, c11, c12, c13, c14, _ => ⟨c6, c7, c8, c9, c10, c11, c12, c13, c14, by rw [List.map_nil, fP]⟩
  | i :: is, c6, c7, c8, c9, c10, c11, c12, c13, c14, hb => by
    obtain ⟨d7, d8, d9, d10, d11, d12, d13, d14, e⟩ := Cj (a := a) (k4 := k4) G hw I hn g0 g1 a0 a1 (hb i List.mem_cons_self) c7 c8 c9 c10 c11 c12 c13 c14
    obtain ⟨c6', c7', c8', c9', c10', c11', c12', c13', c14', e'⟩ := uX is (.val (.int i)) d7 d8 d9 d10 d11 d12 d13 d14 fun x hx => hb x (List.mem_cons_of_mem _ hx)
    refine ⟨c6', c7', c8', c9', c10', c11', c12', c13', c14', ?_⟩
    rw [List.map_cons, eP]
    rw [show (([.val a, .val (gD ps), .val (oT (fun i => some (win i)) ps.length), .val (oT mv ps.length), .val k4, .val (.list [oT f0 ps.length, oT f1 ps.length]), c6, c7, c8, c9, c10, c11, c12, c13, c14] : aN).set 6 (.val (.int i))) = kV a ps win mv k4 (.list [oT f0 ps.length, oT f1 ps.length]) i c7 c8 c9 c10 c11 c12 c13 c14 from rfl]
    rw [e, R.ok_bind, dh, e']
end
def El : Fs := (aT (bQ 5 (bL (eB (qt (af (eC (.int 0)) (af (eC (.int 1)) aH)))) 1 [1, 0, 4] (aS 0) (fun _ => .ok true) (aI cc (af (ad 1) (af (ad 0) (af (aI az (af (aI bf (af (ad 2) (af (eC (.int 1)) aH))) (af (ad 3) aH))) (af (eC (.int 0)) aH))))))) (ia (i9 (h8 (af (e1 dE (ad 1)) aH)) (aS 6) DP)))
theorem u0 {ns : List Int} {ps : List P4} (G : Gr ps) (hw : ∀ i ∈ ids ps.length, aj ps i = 0 ∨ aj ps i = 1) {win : Int → Int} {mv : Int → Option Int} (I : tS ps (ids ps.length) win mv) (hn : ∀ i, i ∉ ids ps.length → mv i = none) : ∀ (is : List Int) (c4 c5 c6 c7 c8 c9 c10 c11 c12 c13 c14 : ba),
    ∃ ρ, eS (aS 4) El (is.map .int) [.val (rn ns), .val (gD ps), .val (oT (fun i => some (win i)) ps.length), .val (oT mv ps.length), c4, c5, c6, c7, c8, c9, c10, c11, c12, c13, c14] = .ok (.nx ρ)
  | [], c4, c5, c6, c7, c8, c9, c10, c11, c12, c13, c14 => ⟨_, by rw [List.map_nil, fP]⟩
  | k :: is, c4, c5, c6, c7, c8, c9, c10, c11, c12, c13, c14 => by
    have hp := G.hp
    have hne : ∀ i ∈ ids ps.length, av ps i ≠ [] := fun i hi z => by
      obtain ⟨h0, h1⟩ := bS.mp hi
      obtain ⟨g, hg⟩ := G.gne h0 h1
      rw [z] at hg
      cases hg
    obtain ⟨v1, hv1, _, _⟩ := om ns (k := 1) (by omega)
    obtain ⟨v2, hv2, _, _⟩ := lh v1 k
    obtain ⟨f0, e0, g0, _, a0⟩ := qa hp hne 0 v2 0
    obtain ⟨f1, e1', g1, _, a1⟩ := qa hp hne 1 v2 0
    have hlen : dE (gD ps) = .ok (.int ps.length) := by simp
    have hr1 : pd [.int (ps.length : Int)] = .ok (bG 0 ps.length) := by rw [Bm (by omega) (by omega), Int.toNat_natCast]
    have hrm : bG 0 ps.length = (ids ps.length).map .int := kM _
    obtain ⟨d6, d7, d8, d9, d10, d11, d12, d13, d14, e⟩ := uX (a := rn ns) (k4 := .int k) G hw I hn g0 g1 (a0 rfl) (a1 rfl) (ids ps.length) c6 c7 c8 c9 c10 c11 c12 c13 c14 fun x hx => hx
    obtain ⟨ρ, e'⟩ := u0 (ns := ns) G hw I hn is (.val (.int k)) (.val (.list [oT f0 ps.length, oT f1 ps.length])) d6 d7 d8 d9 d10 d11 d12 d13 d14
    refine ⟨ρ, ?_⟩
    rw [List.map_cons, eP]
    rw [show (([.val (rn ns), .val (gD ps), .val (oT (fun i => some (win i)) ps.length), .val (oT mv ps.length), c4, c5, c6, c7, c8, c9, c10, c11, c12, c13, c14] : aN).set 4 (.val (.int k))) = [.val (rn ns), .val (gD ps), .val (oT (fun i => some (win i)) ps.length), .val (oT mv ps.length), .val (.int k), c5, c6, c7, c8, c9, c10, c11, c12, c13, c14] from rfl]
    have hb1 : El [.val (rn ns), .val (gD ps), .val (oT (fun i => some (win i)) ps.length), .val (oT mv ps.length), .val (.int k), c5, c6, c7, c8, c9, c10, c11, c12, c13, c14] = .ok (.nx [.val (rn ns), .val (gD ps), .val (oT (fun i => some (win i)) ps.length), .val (oT mv ps.length), .val (.int k), .val (.list [oT f0 ps.length, oT f1 ps.length]), d6, d7, d8, d9, d10, d11, d12, d13, d14]) := by
      unfold El
      rw [aJ (ρ' := [.val (rn ns), .val (gD ps), .val (oT (fun i => some (win i)) ps.length), .val (oT mv ps.length), .val (.int k), .val (.list [oT f0 ps.length, oT f1 ps.length]), c6, c7, c8, c9, c10, c11, c12, c13, c14]) (by
        rw [bp, bi, show aB 1 [1, 0, 4] [.val (rn ns), .val (gD ps), .val (oT (fun i => some (win i)) ps.length), .val (oT mv ps.length), .val (.int k), c5, c6, c7, c8, c9, c10, c11, c12, c13, c14] = [.non, .val (gD ps), .val (rn ns), .val (.int k)] from rfl]
        simp only [bX, nK, aL, aP, bB, R.ok_bind]
        rw [if_pos (by show 2 ≤ _; decide), R.ok_bind, cH, cf, R.ok_bind, if_pos (by show 2 ≤ _; decide), eL, eL, cB]
        simp only [List.set_cons_zero, aX, aL, aP, ak, am, bB, R.ok_bind, if_true, hv1, hv2, e0, e1', gK]
        rfl)]
      rw [eE, fG, mB]
      simp only [aL, aP, bW, am, ak, R.ok_bind, hlen, hr1, hrm]
      rw [e]
      rfl
    rw [hb1, R.ok_bind, dh, e']
theorem yb (c : Addr) : ye (vJ c) := by
  intro ns hns
  obtain ⟨ps, hi, hgr, hpl, hp1, hp24, hi0, hi12⟩ := tH ns (most := 24) (by omega) (by omega)
  have G : Gr ps := Do hpl hp24
  have hp := G.hp
  have hw := xh G
  have hall : ∀ i ∈ ids ps.length, (aj ps i = 0 ∨ aj ps i = 1) ∧ 0 ≤ aD ps i ∧ aD ps i < 13 := fun i hi' => by
    obtain ⟨h0, h1⟩ := bS.mp hi'
    have P := hpl _ (List.getElem_mem (show i.toNat < ps.length by omega))
    rw [gB h0 h1, jP h0 h1]
    have := P.w0
    have := P.w1
    have := P.m0
    have := P.m1
    omega
  obtain ⟨win, mv, hwon, I, hn⟩ := BD G hw (c := c) hall
  obtain ⟨ρ, hloop⟩ := u0 (ns := ns) G (fun i h => (hall i h).1) I hn [0, 1, 2, 3] .non .non .non .non .non .non .non .non .non .non .non
  have hr4 : pd [.int 4] = .ok ([(0 : Int), 1, 2, 3].map .int) := rfl
  unfold vJ yA
  refine dY ?_
  rw [show ([rn ns].map ba.val ++ List.replicate (15 - [rn ns].length) ba.non) = [.val (rn ns), .non, .non, .non, .non, .non, .non, .non, .non, .non, .non, .non, .non, .non, .non] from rfl]
  rw [aJ (ρ' := [.val (rn ns), .val (gD ps), .non, .non, .non, .non, .non, .non, .non, .non, .non, .non, .non, .non, .non]) (by
    simp only [bp, aX, aL, aP, ak, bB, R.ok_bind, hgr]; rfl)]
  rw [aJ (ρ' := [.val (rn ns), .val (gD ps), .val (oT (fun i => some (win i)) ps.length), .val (oT mv ps.length), .non, .non, .non, .non, .non, .non, .non, .non, .non, .non, .non]) (by
    rw [pP _ _ _ _ (oT (fun i => some (win i)) ps.length) (oT mv ps.length) (by simp only [aX, aL, aP, ak, am, R.ok_bind, hwon])]
    rfl)]
  rw [aJ (ρ' := ρ) (by
    rw [eE, fG, mB]
    simp only [aL, aP, bB, R.ok_bind, hr4]
    unfold El DP Ee at hloop
    rw [hloop]
    rfl)]
  rfl
def DD : List Stmt := PySem.Challenge.pw_duelground_k51_whole_plays.main.body
abbrev top (i : Nat) : Stmt := DD.getD i (.Pass ⟨0, 0, 0, 0⟩)
abbrev jG : Stmt := top 40
abbrev iR : Stmt := top 45
abbrev hV : Stmt := top 38
abbrev jx : Stmt := top 39
abbrev jg : Stmt := top 41
abbrev jw : Stmt := top 42
abbrev gk : Stmt := top 43
abbrev ku : Stmt := top 8
abbrev iC : Stmt := top 9
abbrev dG : Stmt := top 13
abbrev ix : Stmt := top 16
abbrev kT : Stmt := top 17
abbrev lQ : Stmt := top 10
abbrev gS : Stmt := top 11
abbrev dA : Stmt := top 14
abbrev mm : Stmt := top 15
abbrev iH : Stmt := top 20
abbrev iK : Stmt := top 25
abbrev eF : Stmt := top 24
abbrev lF : Stmt := top 31
abbrev dj : Stmt := top 32
abbrev kR : Stmt := top 21
abbrev hJ : Stmt := top 29
abbrev eK : Stmt := top 30
abbrev iV : Stmt := top 23
abbrev fV : Stmt := top 26
abbrev jW : Stmt := top 22
abbrev cA : Stmt := top 34
abbrev cR : Stmt := top 27
abbrev ft : Stmt := top 35
abbrev yV : Stmt := top 36
abbrev jo : Stmt := top 46
section
variable {P : Program} {w : World} {K : PySem.W.Frag} {mg : Str → Option Value} {base : Heap} {f : Addr} {fd : FuncData} {k : Nat}
abbrev jV : Stmt := zX (top 19) 0
theorem zJ : aQ ["self", "who", "places", "moves"] ["self", "who", "places", "moves"] (ah jV) := ⟨rfl, rfl, rfl, by decide +kernel, rfl, by decide +kernel, by decide +kernel⟩
theorem Ai {P : Program} {w : World} {K : PySem.W.Frag} {mg : Str → Option Value} {base : Heap} {f C : Addr} {fd : FuncData} (F : ig K "__init__" "Share.__init__" jV f fd) (cl : wl K C) (n0 : dN K C "who") (n1 : dN K C "places") (n2 : dN K C "moves") :
    aY P w K mg base (cI P w mg) 1 f fd ["self", "who", "places", "moves"] (DB C ["who", "places", "moves"]) := by
  obtain ⟨oc, od, kV, doc, pm, an, cdv, ct, osl, rfl, lk, hcd⟩ := F.ex
  refine zh (k := 0) lk hcd zJ (fun vs H Q E h => ?_) fun A outer s H vs Q E hr h => ?_
  · obtain ⟨x, dx, ws, rfl, _, hl, _⟩ := h
    rw [List.length_cons, hl]
    rfl
  · obtain ⟨x, dx, ws, rfl, hx, hl, k⟩ := h
    match ws, hl with
    | [w1, w2, w3], _ =>
      refine ⟨_, oS (tI (pv 0) (pv 1) rfl) (oS (tI (pv 0) (pv 2) rfl) (vj (tI (pv 0) (pv 3) rfl))), ?_⟩
      refine ⟨_, rfl, _, rfl, x, C, dx, [], rfl, hx, cl, n0, (by show 0 < 1000; decide), _, rfl, _, rfl, x, C, dx, _, rfl, bd, cl, n1, (by show 1 < 1000; decide), _, rfl, _, rfl, x, C, dx, _, rfl, bd, cl, n2, (by refine Nat.lt_of_le_of_lt (gT _ _ _) ?_; exact Nat.lt_of_le_of_lt (Nat.succ_le_succ (gT _ _ _)) (by show 2 < 1000; decide)), ?_⟩
      refine k _ (by rw [bd, Eg (by decide +kernel) (by decide +kernel) (by decide +kernel)]; rfl) fun b hb => ?_
      rw [au hb, au hb, au hb]
theorem sL : aQ ["_law_number", "_law_k", "_law_drawn_here"] ["_law_number", "_law_k"] (ah jG) := ⟨rfl, rfl, rfl, by decide +kernel, rfl, by decide +kernel, by decide +kernel⟩
theorem rU (W : ig K "_law_drawn" "_law_drawn" jG f fd) :
    aY P w K mg base (cI P w mg) (k + 1) f fd ["_law_number", "_law_k"] (di (dF 3 (jA)) 2) := by
  refine Z.fn_dataT W sL (G := []) (by decide +kernel) fun cdv A outer s H E hr T => ?_
  exact (Z.ao (Z.br T 2 rfl (Z.cS (Z.ai.b (Z.gE (Z.ai.b (Z.dM (Z.ai.b (Z.dM (Z.ai.b (Z.aa T 0 rfl)) (Z.ai.b (Z.gE (Z.ai.b Z.aq) (Z.ai.b (Z.aa T 1 rfl)))))) (Z.ai.b Z.aq))) (Z.ai.b Z.aq))) (Z.ai.b Z.aq)))
      (Z.aF (Z.bh (Z.cS (Z.ai.b (Z.dM (Z.ai.b (Z.dM (Z.ai.b (Z.gE (Z.ai.b (Z.aa T 2 rfl)) (Z.ai.b (Z.aa T 2 rfl)))) (Z.ai.b (Z.gE (Z.ai.b Z.aq) (Z.ai.b (Z.aa T 2 rfl)))))) (Z.ai.b (Z.aa T 1 rfl)))) (Z.ai.b Z.aq)))))
theorem qJ : aQ ["_law_ground_here", "_law_who", "_law_number", "_law_share", "_law_found", "_law_k", "_law_place_here", "_law_drawn_here"] ["_law_ground_here", "_law_who", "_law_number", "_law_share"] (ah iR) := ⟨rfl, rfl, rfl, by decide +kernel, rfl, by decide +kernel, by decide +kernel⟩
theorem qO (W : ig K "_law_choice" "_law_choice" iR f fd) {f26 : Addr} {d26 : FuncData} {az : gI} (C26 : gJ P w K mg base k "_law_drawn" ["_law_number", "_law_k"] az f26 d26) (b_enumerate : mg "enumerate" = none) (b_len : mg "len" = none) (b_tuple : mg "tuple" = none) :
    aY P w K mg base (cI P w mg) (k + 1) f fd ["_law_ground_here", "_law_who", "_law_number", "_law_share"] (di (dF 8 (iJ az)) 4) := by
  refine Z.fn_dataT W qJ (G := ["enumerate", "_law_drawn", "len", "tuple"]) (by decide +kernel) fun cdv A outer s H E hr T => ?_
  exact (Z.ao (Z.iP T 4 rfl (Z.gj Z.ay))
      (Z.ao (Z.da (have T := T.nox; Z.fX PassesOwn.never T.calm (Z.iB T 0 rfl b_enumerate (Z.aa T 0 rfl)) (Z.eG T 5 6 rfl rfl) (Z.ao (Z.br T 7 rfl (Z.aO C26 hr T 1 rfl (Z.ag (Z.aa T 2 rfl) (Z.ag (Z.aa T 5 rfl) Z.ay)) rfl (ae (ae ar))))
      (Z.aF (Z.eX (Z.l9.t (Z.jp (Z.lV T.hu (Z.ai.b (Z.bo T.hu (Z.ai.b (Z.aa T 6 rfl)) (Z.ai.b Z.aq) (fun _ _ => rfl))) (Z.ai.b (Z.aa T 1 rfl))) (Z.gY (Z.l9.t (Z.nE (Z.mt (Z.ai.b (Z.aa T 3 rfl)) (Z.ai.b Z.aq)) (Z.lu (Z.fq T.hu (Z.ai.b (Z.cS (Z.ai.b (Z.aa T 7 rfl)) (Z.ai.b (Z.aa T 3 rfl)))) (Z.ai.b Z.aq)))))))) (Z.aF (Z.eQ T 4 rfl Z.cZ)) (Z.aF (Z.eQ T 4 rfl (Z.bo T.hu (Z.ai.b (Z.bo T.hu (Z.ai.b (Z.aa T 6 rfl)) (Z.ai.b Z.aq) (fun _ _ => rfl))) (Z.ai.b (Z.cS (Z.ai.b (Z.iD (Z.ai.b (Z.aa T 7 rfl)) (Z.ai.b Z.aq))) (Z.ai.b (Z.dt T 2 rfl b_len (Z.ai.b (Z.bo T.hu (Z.ai.b (Z.aa T 6 rfl)) (Z.ai.b Z.aq) (fun _ _ => rfl))))))) (fun _ _ => rfl)))))))))
      (Z.aF (Z.bh (Z.bO T 3 rfl b_tuple (Z.cC T 4 rfl))))))
theorem pf : aQ ["_law_script", "_law_k"] ["_law_script", "_law_k"] (ah hV) := ⟨rfl, rfl, rfl, by decide +kernel, rfl, by decide +kernel, by decide +kernel⟩
theorem pA (W : ig K "_law_cell_at" "_law_cell_at" hV f fd) (b_len : mg "len" = none) :
    aY P w K mg base (cI P w mg) (k + 1) f fd ["_law_script", "_law_k"] (di (dF 2 (h7)) 2) := by
  refine Z.fn_dataT W pf (G := ["len"]) (by decide +kernel) fun cdv A outer s H E hr T => ?_
  exact (Z.ao (Z.eX (Z.tD (Z.ai.b (Z.aa T 1 rfl)) (Z.ai.b (Z.dt T 0 rfl b_len (Z.ai.b (Z.aa T 0 rfl))))) (Z.aF (Z.bh (Z.bo T.hu (Z.ai.b (Z.aa T 0 rfl)) (Z.ai.b (Z.aa T 1 rfl)) (fun _ _ => rfl)))) Z.dH)
      (Z.aF (Z.bh Z.aq)))
theorem rY : aQ ["_law_script", "_law_k", "_law_drawn_here"] ["_law_script", "_law_k"] (ah jx) := ⟨rfl, rfl, rfl, by decide +kernel, rfl, by decide +kernel, by decide +kernel⟩
theorem sk (W : ig K "_law_mixed" "_law_mixed" jx f fd) {f24 : Addr} {d24 : FuncData} {cb : gI} (C24 : gJ P w K mg base k "_law_cell_at" ["_law_script", "_law_k"] cb f24 d24) :
    aY P w K mg base (cI P w mg) (k + 1) f fd ["_law_script", "_law_k"] (di (dF 3 (jC cb)) 2) := by
  refine Z.fn_dataT W rY (G := ["_law_cell_at"]) (by decide +kernel) fun cdv A outer s H E hr T => ?_
  exact (Z.ao (Z.br T 2 rfl (Z.cS (Z.ai.b (Z.gE (Z.ai.b (Z.dM (Z.ai.b (Z.dM (Z.ai.b (Z.aO C24 hr T 0 rfl (Z.ag (Z.aa T 0 rfl) (Z.ag (Z.aa T 1 rfl) Z.ay)) rfl (ae (ae ar)))) (Z.ai.b (Z.gE (Z.ai.b Z.aq) (Z.ai.b (Z.aa T 1 rfl)))))) (Z.ai.b Z.aq))) (Z.ai.b Z.aq))) (Z.ai.b Z.aq)))
      (Z.aF (Z.bh (Z.cS (Z.ai.b (Z.dM (Z.ai.b (Z.dM (Z.ai.b (Z.gE (Z.ai.b (Z.aa T 2 rfl)) (Z.ai.b (Z.aa T 2 rfl)))) (Z.ai.b (Z.gE (Z.ai.b Z.aq) (Z.ai.b (Z.aa T 2 rfl)))))) (Z.ai.b (Z.aa T 1 rfl)))) (Z.ai.b Z.aq)))))
theorem sK : aQ ["_law_number", "_law_count", "_law_found", "_law_k"] ["_law_number", "_law_count"] (ah jg) := ⟨rfl, rfl, rfl, by decide +kernel, rfl, by decide +kernel, by decide +kernel⟩
theorem sh (W : ig K "_law_goals" "_law_goals" jg f fd) {f26 : Addr} {d26 : FuncData} {az : gI} (C26 : gJ P w K mg base k "_law_drawn" ["_law_number", "_law_k"] az f26 d26) (b_int : mg "int" = none) (b_range : mg "range" = none) (b_sorted : mg "sorted" = none) (b_tuple : mg "tuple" = none) :
    aY P w K mg base (cI P w mg) (k + 1) f fd ["_law_number", "_law_count"] (di (dF 4 (jm az)) 2) := by
  refine Z.fn_dataT W sK (G := ["range", "int", "_law_drawn", "tuple", "sorted"]) (by decide +kernel) fun cdv A outer s H E hr T => ?_
  exact (Z.ao (Z.iP T 2 rfl Z.lL)
      (Z.ao (Z.da (have T := T.nox; Z.fX PassesOwn.never T.calm (Z.fE T 0 rfl b_range (Z.ag (Z.dM (Z.ai.b (Z.dM (Z.ai.b Z.aq) (Z.ai.b (Z.cS (Z.ai.b (Z.aa T 0 rfl)) (Z.ai.b Z.aq))))) (Z.ai.b (Z.gE (Z.ai.b Z.aq) (Z.ai.b (Z.qr T 1 rfl b_int (Z.ai.b (Z.sS T.hu (Z.ai.b (Z.cS (Z.ai.b (Z.iD (Z.ai.b (Z.aa T 0 rfl)) (Z.ai.b Z.aq))) (Z.ai.b Z.aq))) (Z.ai.b Z.aq)))))))) Z.ay) (ae ar)) (Z.bz T 3 rfl) (Z.aF (Z.tX T 2 rfl (Z.cS (Z.ai.b (Z.aO C26 hr T 2 rfl (Z.ag (Z.aa T 0 rfl) (Z.ag (Z.aa T 3 rfl) Z.ay)) rfl (ae (ae ar)))) (Z.ai.b (Z.aa T 1 rfl))) Z.gU))))
      (Z.aF (Z.bh (Z.bO T 3 rfl b_tuple (Z.gg.b (Z.kL T 4 rfl b_sorted (Z.cC T 2 rfl))))))))
theorem sO : aQ ["_law_number", "_law_count", "_law_high", "_law_gain"] ["_law_number", "_law_count", "_law_high"] (ah jw) := ⟨rfl, rfl, rfl, by decide +kernel, rfl, by decide +kernel, by decide +kernel⟩
theorem rJ (W : ig K "_law_place" "_law_place" jw f fd) {f26 : Addr} {d26 : FuncData} {az : gI} (C26 : gJ P w K mg base k "_law_drawn" ["_law_number", "_law_k"] az f26 d26) {f27 : Addr} {d27 : FuncData} {cM : gI} (C27 : gJ P w K mg base k "_law_goals" ["_law_number", "_law_count"] cM f27 d27) :
    aY P w K mg base (cI P w mg) (k + 1) f fd ["_law_number", "_law_count", "_law_high"] (di (dF 4 (jB az cM)) 3) := by
  refine Z.fn_dataT W sO (G := ["_law_goals", "_law_drawn"]) (by decide +kernel) fun cdv A outer s H E hr T => ?_
  exact (Z.ao (Z.br T 3 rfl (Z.kP (Z.ai.b (Z.cS (Z.ai.b (Z.iD (Z.ai.b (Z.aa T 0 rfl)) (Z.ai.b Z.aq))) (Z.ai.b Z.aq))) (Z.ai.b Z.aq)))
      (Z.ao (Z.eX (Z.fq T.hu (Z.ai.b (Z.cS (Z.ai.b (Z.iD (Z.ai.b (Z.aa T 0 rfl)) (Z.ai.b Z.aq))) (Z.ai.b Z.aq))) (Z.ai.b Z.aq)) (Z.aF (Z.br T 3 rfl (Z.kP (Z.ai.b (Z.cS (Z.ai.b (Z.iD (Z.ai.b (Z.aa T 0 rfl)) (Z.ai.b Z.aq))) (Z.ai.b Z.aq))) (Z.ai.b Z.aq)))) Z.dH)
      (Z.aF (Z.bh (Z.kJ (Z.ag (Z.cS (Z.ai.b (Z.aa T 0 rfl)) (Z.ai.b Z.aq)) (Z.ag (Z.cS (Z.ai.b (Z.iD (Z.ai.b (Z.aa T 0 rfl)) (Z.ai.b Z.aq))) (Z.ai.b (Z.dM (Z.ai.b (Z.aa T 2 rfl)) (Z.ai.b Z.aq)))) (Z.ag (Z.aa T 3 rfl) (Z.ag (Z.aO C27 hr T 0 rfl (Z.ag (Z.aO C26 hr T 1 rfl (Z.ag (Z.aa T 0 rfl) (Z.ag Z.aq Z.ay)) rfl (ae (ae ar))) (Z.ag (Z.aa T 1 rfl) Z.ay)) rfl (ae (ae ar))) Z.ay)))))))))
theorem qK : aQ ["_law_script", "_law_most", "_law_number", "_law_count", "_law_high"] ["_law_script", "_law_most"] (ah gk) := ⟨rfl, rfl, rfl, by decide +kernel, rfl, by decide +kernel, by decide +kernel⟩
theorem qA (W : ig K "_law_ground" "_law_ground" gk f fd) {f25 : Addr} {d25 : FuncData} {bf : gI} (C25 : gJ P w K mg base k "_law_mixed" ["_law_script", "_law_k"] bf f25 d25) {f28 : Addr} {d28 : FuncData} {cx : gI} (C28 : gJ P w K mg base k "_law_place" ["_law_number", "_law_count", "_law_high"] cx f28 d28) (b_len : mg "len" = none) (b_max : mg "max" = none) (b_min : mg "min" = none) (b_range : mg "range" = none) (b_tuple : mg "tuple" = none) :
    aY P w K mg base (cI P w mg) (k + 1) f fd ["_law_script", "_law_most"] (di (dF 5 (iE bf cx)) 2) := by
  refine Z.fn_dataT W qK (G := ["_law_mixed", "min", "max", "len", "tuple", "range"]) (by decide +kernel) fun cdv A outer s H E hr T => ?_
  exact (Z.ao (Z.br T 2 rfl (Z.aO C25 hr T 0 rfl (Z.ag (Z.aa T 0 rfl) (Z.ag Z.aq Z.ay)) rfl (ae (ae ar))))
      (Z.ao (Z.br T 3 rfl (Z.dM (Z.ai.b Z.aq) (Z.ai.b (Z.cS (Z.ai.b (Z.aa T 2 rfl)) (Z.ai.b (Z.uk T 1 rfl b_min (Z.ai.b (Z.aa T 1 rfl)) (Z.ai.b (Z.ul T 2 rfl b_max (Z.ai.b Z.aq) (Z.ai.b (Z.dt T 3 rfl b_len (Z.ai.b (Z.aa T 0 rfl))))))))))))
      (Z.ao (Z.br T 4 rfl (Z.bo T.hu (Z.gg.b (Z.gj (Z.ag Z.aq (Z.ag Z.aq (Z.ag Z.aq (Z.ag Z.aq (Z.ag Z.aq (Z.ag Z.aq Z.ay)))))))) (Z.ai.b (Z.cS (Z.ai.b (Z.iD (Z.ai.b (Z.aa T 2 rfl)) (Z.ai.b Z.aq))) (Z.ai.b Z.aq))) (fun _ _ => rfl)))
      (Z.aF (Z.bh (Z.bO T 4 rfl b_tuple (Z.gg.b (Z.bC (N := ["_law_k", "_law_script", "_law_count", "_law_high"]) (own := 1) (G := ["_law_place", "_law_mixed"]) (fr := [0, 3, 4]) T rfl rfl (oN := ["_law_script", "_law_most", "_law_number", "_law_count", "_law_high"]) (on := (ah gk).names) (by decide +kernel) (Z.fE T 5 rfl b_range (Z.ag (Z.aa T 3 rfl) Z.ay) (ae ar)) (bJ (by decide)) (fun cl C s' H' fp E' T => ⟨(Z.bz T 0 rfl), Z.dq, (Z.aO C28 hr T 0 rfl (Z.ag (Z.aO C25 hr T 1 rfl (Z.ag (Z.aa T 1 rfl) (Z.ag (Z.dM (Z.ai.b Z.aq) (Z.ai.b (Z.aa T 0 rfl))) Z.ay)) rfl (ae (ae ar))) (Z.ag (Z.aa T 2 rfl) (Z.ag (Z.aa T 3 rfl) Z.ay))) rfl (ae (ae (ae ar))))⟩)))))))))
theorem tf : aQ ["thing"] ["thing"] (ah ku) := ⟨rfl, rfl, rfl, by decide +kernel, rfl, by decide +kernel, by decide +kernel⟩
theorem uA (W : ig K "is_whole" "is_whole" ku f fd) (b_bool : mg "bool" = none) (b_int : mg "int" = none) (b_isinstance : mg "isinstance" = none) :
    aY P w K mg base (cI P w mg) (k + 1) f fd ["thing"] (di (dF 1 (nT)) 1) := by
  refine Z.fn_dataT W tf (G := ["isinstance", "int", "bool"]) (by decide +kernel) fun cdv A outer s H E hr T => ?_
  exact (Z.aF (Z.bh (Z.oE (Z.kG T 0 rfl b_isinstance T 1 rfl b_int (Z.ai.b (Z.aa T 0 rfl))) (Z.lT (Z.uG (Z.jn T 0 rfl b_isinstance T 2 rfl b_bool (Z.ai.b (Z.aa T 0 rfl))))))))
theorem qk : aQ ["thing", "low", "high"] ["thing", "low", "high"] (ah iC) := ⟨rfl, rfl, rfl, by decide +kernel, rfl, by decide +kernel, by decide +kernel⟩
theorem qg (W : ig K "is_between" "is_between" iC f fd) {f0 : Addr} {d0 : FuncData} {bU : gI} (C0 : gJ P w K mg base k "is_whole" ["thing"] bU f0 d0) :
    aY P w K mg base (cI P w mg) (k + 1) f fd ["thing", "low", "high"] (di (dF 3 (iL bU)) 3) := by
  refine Z.fn_dataT W qk (G := ["is_whole"]) (by decide +kernel) fun cdv A outer s H E hr T => ?_
  exact (Z.aF (Z.bh (Z.oE (Z.aO C0 hr T 0 rfl (Z.ag (Z.aa T 0 rfl) Z.ay) rfl (ae ar)) (Z.lT (Z.oY Bh oB Bh oB (Z.ai.b (Z.aa T 1 rfl)) (Z.ai.b (Z.aa T 0 rfl)) (Z.ai.b (Z.aa T 2 rfl)))))))
theorem jr : aQ ["thing", "ground"] ["thing", "ground"] (ah dG) := ⟨rfl, rfl, rfl, by decide +kernel, rfl, by decide +kernel, by decide +kernel⟩
theorem jI (W : ig K "is_number_of_place" "is_number_of_place" dG f fd) {f1 : Addr} {d1 : FuncData} {cu : gI} (C1 : gJ P w K mg base k "is_between" ["thing", "low", "high"] cu f1 d1) (b_len : mg "len" = none) :
    aY P w K mg base (cI P w mg) (k + 1) f fd ["thing", "ground"] (di (dF 2 (dJ cu)) 2) := by
  refine Z.fn_dataT W jr (G := ["is_between", "len"]) (by decide +kernel) fun cdv A outer s H E hr T => ?_
  exact (Z.aF (Z.bh (Z.aO C1 hr T 0 rfl (Z.ag (Z.aa T 0 rfl) (Z.ag Z.aq (Z.ag (Z.kP (Z.ai.b (Z.dt T 1 rfl b_len (Z.ai.b (Z.aa T 1 rfl)))) (Z.ai.b Z.aq)) Z.ay))) rfl (ae (ae (ae ar))))))
theorem wE : aQ ["thing", "ground", "following"] ["thing", "ground"] (ah ix) := ⟨rfl, rfl, rfl, by decide +kernel, rfl, by decide +kernel, by decide +kernel⟩
theorem wS (W : ig K "is_ring" "is_ring" ix f fd) {f4 : Addr} {d4 : FuncData} {aA : gI} (C4 : gJ P w K mg base k "is_number_of_place" ["thing", "ground"] aA f4 d4) {t_GOALS : Tok} (g_GOALS : mg "GOALS" = some (.int 3 t_GOALS)) (b_all : mg "all" = none) (b_isinstance : mg "isinstance" = none) (b_len : mg "len" = none) (b_tuple : mg "tuple" = none) (b_zip : mg "zip" = none) :
    aY P w K mg base (cI P w mg) (k + 1) f fd ["thing", "ground"] (di (dF 3 (jT aA)) 2) := by
  refine Z.fn_dataT W wE (G := ["isinstance", "tuple", "len", "all", "zip"]) (by decide +kernel) fun cdv A outer s H E hr T => ?_
  exact (Z.ao (Z.eX (Z.l9.t (Z.jp (Z.fJ (Z.eW (Z.gm T 0 rfl b_isinstance T 1 rfl b_tuple (Z.ai.b (Z.aa T 0 rfl))))) (Z.gY (Z.fq T.hu (Z.ai.b (Z.dt T 2 rfl b_len (Z.ai.b (Z.aa T 0 rfl)))) (Z.ai.b Z.aq))))) (Z.aF (Z.bh Z.gU)) Z.dH)
      (Z.ao (Z.eX (Z.fJ (Z.eW (Z.lS T 3 rfl b_all (Z.gg.b (Z.bC (N := ["number", "ground"]) (own := 1) (G := ["is_number_of_place"]) (fr := [1]) T rfl rfl (oN := ["thing", "ground", "following"]) (on := (ah ix).names) (by decide +kernel) (Z.cE (Z.aa T 0 rfl)) (bJ (by decide)) (fun cl C s' H' fp E' T => ⟨(Z.bz T 0 rfl), Z.dq, (Z.aO C4 hr T 0 rfl (Z.ag (Z.aa T 0 rfl) (Z.ag (Z.aa T 1 rfl) Z.ay)) rfl (ae (ae ar)))⟩)))))) (Z.aF (Z.bh Z.gU)) Z.dH)
      (Z.ao (Z.br T 2 rfl (Z.dM (Z.ai.b (Z.im (Z.ai.b (Z.aa T 0 rfl)) (Z.j6 Z.aq) Z.jU)) (Z.ai.b (Z.im (Z.ai.b (Z.aa T 0 rfl)) Z.jU (Z.j6 Z.aq)))))
      (Z.aF (Z.bh (Z.lS T 3 rfl b_all (Z.gg.b (Z.bC (N := ["number", "goal", "ground"]) (own := 2) (G := ["GOALS"]) (fr := [1]) T rfl rfl (oN := ["thing", "ground", "following"]) (on := (ah ix).names) (by decide +kernel) (Z.oz T 4 rfl b_zip (Z.aa T 0 rfl) (Z.aa T 2 rfl)) (fA (by decide) (by decide)) (fun cl C s' H' fp E' T => ⟨(Z.eG T 0 1 rfl rfl), Z.dq, (Z.vU T.hu (Z.ai.b (Z.aa T 1 rfl)) (Z.ai.b (Z.bo T.hu (Z.ai.b (Z.bo T.hu (Z.ai.b (Z.aa T 2 rfl)) (Z.ai.b (Z.aa T 0 rfl)) (fun _ _ => rfl))) (Z.ai.b (Z.dw T 0 rfl g_GOALS)) (fun _ _ => rfl))) (by with_unfolding_all rfl))⟩)))))))))
theorem xR : aQ ["ground", "ring"] ["ground", "ring"] (ah kT) := ⟨rfl, rfl, rfl, by decide +kernel, rfl, by decide +kernel, by decide +kernel⟩
theorem yJ (W : ig K "judged" "judged" kT f fd) {f7 : Addr} {d7 : FuncData} {cU : gI} (C7 : gJ P w K mg base k "is_ring" ["thing", "ground"] cU f7 d7) {t_MARK : Tok} (g_MARK : mg "MARK" = some (.int 1 t_MARK)) (b_max : mg "max" = none) {c_NoPart : Addr} (m_NoPart : mg "NoPart" = some (.ref c_NoPart)) (q_NoPart : PySem.W.excIn K c_NoPart zZ zy = true) :
    aY P w K mg base (cI P w mg) (k + 1) f fd ["ground", "ring"] (di (dF 2 (nY cU)) 2) := by
  refine Z.fn_dataT W xR (G := ["is_ring", "NoPart", "max"]) (by decide +kernel) fun cdv A outer s H E hr T => ?_
  exact (Z.ao (Z.eX (Z.fJ (Z.eW (Z.aO C7 hr T 0 rfl (Z.ag (Z.aa T 1 rfl) (Z.ag (Z.aa T 0 rfl) Z.ay)) rfl (ae (ae ar))))) (Z.aF (Z.iq T 1 rfl m_NoPart q_NoPart (have T := T.nox; Z.md))) Z.dH)
      (Z.aF (Z.bh (Z.cS (Z.ai.b (Z.nG T 2 rfl b_max (Z.gg.b (Z.bC (N := ["number", "ground"]) (own := 1) (G := ["MARK"]) (fr := [0]) T rfl rfl (oN := ["ground", "ring"]) (on := (ah kT).names) (by decide +kernel) (Z.cE (Z.aa T 1 rfl)) (bJ (by decide)) (fun cl C s' H' fp E' T => ⟨(Z.bz T 0 rfl), Z.dq, (Z.bo T.hu (Z.ai.b (Z.bo T.hu (Z.ai.b (Z.aa T 1 rfl)) (Z.ai.b (Z.aa T 0 rfl)) (fun _ _ => rfl))) (Z.ai.b (Z.dw T 0 rfl g_MARK)) (fun _ _ => rfl))⟩))))) (Z.ai.b Z.aq)))))
theorem wF : aQ ["thing", "place"] ["thing", "place"] (ah lQ) := ⟨rfl, rfl, rfl, by decide +kernel, rfl, by decide +kernel, by decide +kernel⟩
theorem v4 (W : ig K "is_move" "is_move" lQ f fd) {f0 : Addr} {d0 : FuncData} {bU : gI} (C0 : gJ P w K mg base k "is_whole" ["thing"] bU f0 d0) {t_GOALS : Tok} (g_GOALS : mg "GOALS" = some (.int 3 t_GOALS)) :
    aY P w K mg base (cI P w mg) (k + 1) f fd ["thing", "place"] (di (dF 2 (mC bU)) 2) := by
  refine Z.fn_dataT W wF (G := ["is_whole", "GOALS"]) (by decide +kernel) fun cdv A outer s H E hr T => ?_
  exact (Z.aF (Z.bh (Z.xV (Z.tQ (Z.ai.b (Z.aa T 0 rfl)) (Z.ai.b Z.cZ)) (Z.lT (Z.oE (Z.aO C0 hr T 0 rfl (Z.ag (Z.aa T 0 rfl) Z.ay) rfl (ae ar)) (Z.lT (Z.vU T.hu (Z.ai.b (Z.aa T 0 rfl)) (Z.ai.b (Z.bo T.hu (Z.ai.b (Z.aa T 1 rfl)) (Z.ai.b (Z.dw T 1 rfl g_GOALS)) (fun _ _ => rfl))) (by with_unfolding_all rfl))))))))
theorem rH : aQ ["thing", "ground"] ["thing", "ground"] (ah gS) := ⟨rfl, rfl, rfl, by decide +kernel, rfl, by decide +kernel, by decide +kernel⟩
theorem rA (W : ig K "are_moves" "are_moves" gS f fd) {f2 : Addr} {d2 : FuncData} {dl : gI} (C2 : gJ P w K mg base k "is_move" ["thing", "place"] dl f2 d2) (b_all : mg "all" = none) (b_isinstance : mg "isinstance" = none) (b_len : mg "len" = none) (b_tuple : mg "tuple" = none) (b_zip : mg "zip" = none) :
    aY P w K mg base (cI P w mg) (k + 1) f fd ["thing", "ground"] (di (dF 2 (jk dl)) 2) := by
  refine Z.fn_dataT W rH (G := ["isinstance", "tuple", "len", "all", "zip"]) (by decide +kernel) fun cdv A outer s H E hr T => ?_
  exact (Z.ao (Z.eX (Z.l9.t (Z.jp (Z.fJ (Z.eW (Z.gm T 0 rfl b_isinstance T 1 rfl b_tuple (Z.ai.b (Z.aa T 0 rfl))))) (Z.gY (Z.lV T.hu (Z.ai.b (Z.dt T 2 rfl b_len (Z.ai.b (Z.aa T 0 rfl)))) (Z.ai.b (Z.dt T 2 rfl b_len (Z.ai.b (Z.aa T 1 rfl)))))))) (Z.aF (Z.bh Z.gU)) Z.dH)
      (Z.aF (Z.bh (Z.lS T 3 rfl b_all (Z.gg.b (Z.bC (N := ["move", "place"]) (own := 2) (G := ["is_move"]) (fr := []) T rfl rfl (oN := ["thing", "ground"]) (on := (ah gS).names) (by decide +kernel) (Z.oz T 4 rfl b_zip (Z.aa T 0 rfl) (Z.aa T 1 rfl)) (fA (by decide) (by decide)) (fun cl C s' H' fp E' T => ⟨(Z.eG T 0 1 rfl rfl), Z.dq, (Z.aO C2 hr T 0 rfl (Z.ag (Z.aa T 0 rfl) (Z.ag (Z.aa T 1 rfl) Z.ay)) rfl (ae (ae ar)))⟩)))))))
theorem lw : aQ ["ground", "zero", "one", "both"] ["ground", "zero", "one"] (ah dA) := ⟨rfl, rfl, rfl, by decide +kernel, rfl, by decide +kernel, by decide +kernel⟩
theorem ln (W : ig K "moves_by_owners" "moves_by_owners" dA f fd) {t_WHO : Tok} (g_WHO : mg "WHO" = some (.int 0 t_WHO)) (b_enumerate : mg "enumerate" = none) (b_tuple : mg "tuple" = none) :
    aY P w K mg base (cI P w mg) (k + 1) f fd ["ground", "zero", "one"] (di (dF 4 (eT)) 3) := by
  refine Z.fn_dataT W lw (G := ["tuple", "enumerate"]) (by decide +kernel) fun cdv A outer s H E hr T => ?_
  exact (Z.ao (Z.br T 3 rfl (Z.kJ (Z.ag (Z.aa T 1 rfl) (Z.ag (Z.aa T 2 rfl) Z.ay))))
      (Z.aF (Z.bh (Z.bO T 0 rfl b_tuple (Z.gg.b (Z.bC (N := ["number", "place", "both"]) (own := 2) (G := ["WHO"]) (fr := [3]) T rfl rfl (oN := ["ground", "zero", "one", "both"]) (on := (ah dA).names) (by decide +kernel) (Z.iB T 1 rfl b_enumerate (Z.aa T 0 rfl)) (fA (by decide) (by decide)) (fun cl C s' H' fp E' T => ⟨(Z.eG T 0 1 rfl rfl), Z.dq, (Z.bo T.hu (Z.ai.b (Z.bo T.hu (Z.ai.b (Z.aa T 2 rfl)) (Z.ai.b (Z.bo T.hu (Z.ai.b (Z.aa T 1 rfl)) (Z.ai.b (Z.dw T 0 rfl g_WHO)) (fun _ _ => rfl))) (fun _ _ => rfl))) (Z.ai.b (Z.aa T 0 rfl)) (fun _ _ => rfl))⟩)))))))
theorem wr : aQ ["ground", "zero", "one", "start", "moves", "play", "number", "entered"] ["ground", "zero", "one", "start"] (ah mm) := ⟨rfl, rfl, rfl, by decide +kernel, rfl, by decide +kernel, by decide +kernel⟩
theorem wv (W : ig K "ring_of" "ring_of" mm f fd) {f3 : Addr} {d3 : FuncData} {cw : gI} (C3 : gJ P w K mg base k "are_moves" ["thing", "ground"] cw f3 d3) {f4 : Addr} {d4 : FuncData} {aA : gI} (C4 : gJ P w K mg base k "is_number_of_place" ["thing", "ground"] aA f4 d4) {f5 : Addr} {d5 : FuncData} {bq : gI} (C5 : gJ P w K mg base k "moves_by_owners" ["ground", "zero", "one"] bq f5 d5) (b_tuple : mg "tuple" = none) {c_NoMoves : Addr} (m_NoMoves : mg "NoMoves" = some (.ref c_NoMoves)) (q_NoMoves : PySem.W.excIn K c_NoMoves zZ zy = true) {c_NoPart : Addr} (m_NoPart : mg "NoPart" = some (.ref c_NoPart)) (q_NoPart : PySem.W.excIn K c_NoPart zZ zy = true) :
    aY P w K mg base (cI P w mg) (k + 1) f fd ["ground", "zero", "one", "start"] (di (dF 8 (lU cw aA bq)) 4) := by
  refine Z.fn_dataT W wr (G := ["are_moves", "NoMoves", "moves_by_owners", "is_number_of_place", "NoPart", "tuple"]) (by decide +kernel) fun cdv A outer s H E hr T => ?_
  exact (Z.ao (Z.eX (Z.l9.t (Z.jp (Z.fJ (Z.eW (Z.aO C3 hr T 0 rfl (Z.ag (Z.aa T 1 rfl) (Z.ag (Z.aa T 0 rfl) Z.ay)) rfl (ae (ae ar))))) (Z.gY (Z.fJ (Z.eW (Z.aO C3 hr T 0 rfl (Z.ag (Z.aa T 2 rfl) (Z.ag (Z.aa T 0 rfl) Z.ay)) rfl (ae (ae ar)))))))) (Z.aF (Z.iq T 1 rfl m_NoMoves q_NoMoves (have T := T.nox; Z.md))) Z.dH)
      (Z.ao (Z.br T 4 rfl (Z.aO C5 hr T 2 rfl (Z.ag (Z.aa T 0 rfl) (Z.ag (Z.aa T 1 rfl) (Z.ag (Z.aa T 2 rfl) Z.ay))) rfl (ae (ae (ae ar)))))
      (Z.ao (Z.eX (Z.l5 T.hu (Z.ai.b Z.cZ) (Z.ai.b (Z.aa T 4 rfl)) (by with_unfolding_all rfl)) (Z.aF (Z.iq T 1 rfl m_NoMoves q_NoMoves (have T := T.nox; Z.md))) Z.dH)
      (Z.ao (Z.eX (Z.fJ (Z.eW (Z.aO C4 hr T 3 rfl (Z.ag (Z.aa T 3 rfl) (Z.ag (Z.aa T 0 rfl) Z.ay)) rfl (ae (ae ar))))) (Z.aF (Z.iq T 4 rfl m_NoPart q_NoPart (have T := T.nox; Z.md))) Z.dH)
      (Z.ao (Z.iP T 5 rfl (Z.gj Z.ay))
      (Z.ao (Z.br T 6 rfl (Z.aa T 3 rfl))
      (Z.ao (Z.da (have T := T.nox; Z.jl 1000000 PassesOwn.never (Z.jO T.hu (Z.ai.b (Z.aa T 6 rfl)) (Z.cC T 5 rfl) (by with_unfolding_all rfl)) (Z.ao (Z.eQ T 5 rfl (Z.aa T 6 rfl))
      (Z.aF (Z.br T 6 rfl (Z.bo T.hu (Z.ai.b (Z.aa T 4 rfl)) (Z.ai.b (Z.aa T 6 rfl)) (fun _ _ => rfl)))))))
      (Z.ao (Z.br T 7 rfl (Z.nS (Z.cC T 5 rfl) (Z.aa T 6 rfl)))
      (Z.aF (Z.bh (Z.kJ (Z.ag (Z.bO T 5 rfl b_tuple (Z.ai.b (Z.im (Z.cC T 5 rfl) Z.jU (Z.j6 (Z.aa T 7 rfl))))) (Z.ag (Z.bO T 5 rfl b_tuple (Z.ai.b (Z.im (Z.cC T 5 rfl) (Z.j6 (Z.aa T 7 rfl)) Z.jU))) Z.ay)))))))))))))
theorem qD : aQ ["ground"] ["ground"] (ah iH) := ⟨rfl, rfl, rfl, by decide +kernel, rfl, by decide +kernel, by decide +kernel⟩
theorem rg (W : ig K "all_places" "all_places" iH f fd) (b_len : mg "len" = none) (b_range : mg "range" = none) (b_tuple : mg "tuple" = none) :
    aY P w K mg base (cI P w mg) (k + 1) f fd ["ground"] (di (dF 1 (iF)) 1) := by
  refine Z.fn_dataT W qD (G := ["tuple", "range", "len"]) (by decide +kernel) fun cdv A outer s H E hr T => ?_
  exact (Z.aF (Z.bh (Z.re T 0 rfl b_tuple 1 rfl b_range (Z.ag (Z.dt T 2 rfl b_len (Z.ai.b (Z.aa T 0 rfl))) Z.ay))))
theorem uc : aQ ["moves", "places"] ["moves", "places"] (ah iK) := ⟨rfl, rfl, rfl, by decide +kernel, rfl, by decide +kernel, by decide +kernel⟩
theorem tL (W : ig K "moves_at" "moves_at" iK f fd) (b_enumerate : mg "enumerate" = none) (b_tuple : mg "tuple" = none) :
    aY P w K mg base (cI P w mg) (k + 1) f fd ["moves", "places"] (di (dF 2 (kF)) 2) := by
  refine Z.fn_dataT W uc (G := ["tuple", "enumerate"]) (by decide +kernel) fun cdv A outer s H E hr T => ?_
  exact (Z.aF (Z.bh (Z.bO T 0 rfl b_tuple (Z.gg.b (Z.bC (N := ["number", "move", "places"]) (own := 2) (G := []) (fr := [1]) T rfl rfl (oN := ["moves", "places"]) (on := (ah iK).names) (by decide +kernel) (Z.iB T 1 rfl b_enumerate (Z.aa T 0 rfl)) (fA (by decide) (by decide)) (fun cl C s' H' fp E' T => ⟨(Z.eG T 0 1 rfl rfl), Z.dq, (Z.jD (Z.l5 T.hu (Z.ai.b (Z.aa T 0 rfl)) (Z.ai.b (Z.aa T 2 rfl)) (by with_unfolding_all rfl)) (Z.aa T 1 rfl) Z.cZ)⟩))))))
theorem mZ : aQ ["moves", "others"] ["moves", "others"] (ah eF) := ⟨rfl, rfl, rfl, by decide +kernel, rfl, by decide +kernel, by decide +kernel⟩
theorem nr (W : ig K "moves_of_both" "moves_of_both" eF f fd) (b_tuple : mg "tuple" = none) (b_zip : mg "zip" = none) :
    aY P w K mg base (cI P w mg) (k + 1) f fd ["moves", "others"] (di (dF 2 (ge)) 2) := by
  refine Z.fn_dataT W mZ (G := ["tuple", "zip"]) (by decide +kernel) fun cdv A outer s H E hr T => ?_
  exact (Z.aF (Z.bh (Z.bO T 0 rfl b_tuple (Z.gg.b (Z.bC (N := ["move", "other"]) (own := 2) (G := []) (fr := []) T rfl rfl (oN := ["moves", "others"]) (on := (ah eF).names) (by decide +kernel) (Z.oz T 1 rfl b_zip (Z.aa T 0 rfl) (Z.aa T 1 rfl)) (fA (by decide) (by decide)) (fun cl C s' H' fp E' T => ⟨(Z.eG T 0 1 rfl rfl), Z.dq, (Z.jD (Z.ld (Z.ai.b (Z.aa T 0 rfl)) (Z.ai.b Z.cZ)) (Z.aa T 1 rfl) (Z.aa T 0 rfl))⟩))))))
theorem xJ : aQ ["ranks"] ["ranks"] (ah lF) := ⟨rfl, rfl, rfl, by decide +kernel, rfl, by decide +kernel, by decide +kernel⟩
theorem yg (W : ig K "ranked" "ranked" lF f fd) (b_enumerate : mg "enumerate" = none) (b_tuple : mg "tuple" = none) :
    aY P w K mg base (cI P w mg) (k + 1) f fd ["ranks"] (di (dF 1 (o9)) 1) := by
  refine Z.fn_dataT W xJ (G := ["tuple", "enumerate"]) (by decide +kernel) fun cdv A outer s H E hr T => ?_
  exact (Z.aF (Z.bh (Z.bO T 0 rfl b_tuple (Z.gg.b (Z.bC (N := ["number", "rank"]) (own := 2) (G := []) (fr := []) T rfl rfl (oN := ["ranks"]) (on := (ah lF).names) (by decide +kernel) (Z.iB T 1 rfl b_enumerate (Z.aa T 0 rfl)) (fA (by decide) (by decide)) (fun cl C s' H' fp E' T => ⟨(Z.eG T 0 1 rfl rfl), (Z.gu (Z.lc (Z.ai.b (Z.aa T 1 rfl)) (Z.ai.b Z.cZ))), (Z.aa T 0 rfl)⟩))))))
theorem nk : aQ ["ground", "who", "ranks", "moves", "number"] ["ground", "who", "ranks"] (ah dj) := ⟨rfl, rfl, rfl, by decide +kernel, rfl, by decide +kernel, by decide +kernel⟩
theorem ni (W : ig K "pulling_moves" "pulling_moves" dj f fd) {f19 : Addr} {d19 : FuncData} {bZ : gI} (C19 : gJ P w K mg base k "ranked" ["ranks"] bZ f19 d19) {t_GOALS : Tok} (g_GOALS : mg "GOALS" = some (.int 3 t_GOALS)) {t_WHO : Tok} (g_WHO : mg "WHO" = some (.int 0 t_WHO)) (b_tuple : mg "tuple" = none) :
    aY P w K mg base (cI P w mg) (k + 1) f fd ["ground", "who", "ranks"] (di (dF 5 (gc bZ)) 3) := by
  refine Z.fn_dataT W nk (G := ["ranked", "WHO", "GOALS", "tuple"]) (by decide +kernel) fun cdv A outer s H E hr T => ?_
  exact (Z.ao (Z.fK 3 rfl (N := ["rank"]) (own := 1) (G := []) (fr := []) T rfl rfl (oN := ["ground", "who", "ranks", "moves", "number"]) (on := (ah dj).names) (by decide +kernel) (Z.cE (Z.aa T 2 rfl)) (bJ (by decide)) (fun cl C s' H' fp E' T => ⟨(Z.bz T 0 rfl), Z.dq, Z.cZ⟩))
      (Z.ao (Z.da (have T := T.nox; Z.fX PassesOwn.never T.calm (Z.cE (Z.aO C19 hr T 0 rfl (Z.ag (Z.aa T 2 rfl) Z.ay) rfl (ae ar))) (Z.bz T 4 rfl) (Z.aF (Z.eX (Z.l9.t (Z.nE (Z.fq T.hu (Z.ai.b (Z.bo T.hu (Z.ai.b (Z.bo T.hu (Z.ai.b (Z.aa T 0 rfl)) (Z.ai.b (Z.aa T 4 rfl)) (fun _ _ => rfl))) (Z.ai.b (Z.dw T 1 rfl g_WHO)) (fun _ _ => rfl))) (Z.ai.b (Z.aa T 1 rfl))) (Z.lu (Z.mt (Z.ai.b (Z.bo T.hu (Z.ai.b (Z.aa T 2 rfl)) (Z.ai.b (Z.aa T 4 rfl)) (fun _ _ => rfl))) (Z.ai.b Z.aq))))) (Z.aF (Z.jQ T 3 rfl (have T := T.nox; (Z.aa T 4 rfl)) (Z.bo T.hu (Z.gg.b (Z.bC (N := ["goal", "ranks", "number"]) (own := 1) (G := []) (fr := [2, 4]) T rfl rfl (oN := ["ground", "who", "ranks", "moves", "number"]) (on := (ah dj).names) (by decide +kernel) (Z.cE (Z.bo T.hu (Z.ai.b (Z.bo T.hu (Z.ai.b (Z.aa T 0 rfl)) (Z.ai.b (Z.aa T 4 rfl)) (fun _ _ => rfl))) (Z.ai.b (Z.dw T 2 rfl g_GOALS)) (fun _ _ => rfl))) (bJ (by decide)) (fun cl C s' H' fp E' T => ⟨(Z.bz T 0 rfl), (Z.gu (Z.fq T.hu (Z.ai.b (Z.bo T.hu (Z.ai.b (Z.aa T 1 rfl)) (Z.ai.b (Z.aa T 0 rfl)) (fun _ _ => rfl))) (Z.ai.b (Z.kP (Z.ai.b (Z.bo T.hu (Z.ai.b (Z.aa T 1 rfl)) (Z.ai.b (Z.aa T 2 rfl)) (fun _ _ => rfl))) (Z.ai.b Z.aq))))), (Z.aa T 0 rfl)⟩))) (Z.ai.b Z.aq) (fun _ _ => rfl)))) Z.dH))))
      (Z.aF (Z.bh (Z.bO T 3 rfl b_tuple (Z.cC T 3 rfl))))))
theorem zf : aQ ["some", "others"] ["some", "others"] (ah kR) := ⟨rfl, rfl, rfl, by decide +kernel, rfl, by decide +kernel, by decide +kernel⟩
theorem yx (W : ig K "common" "common" kR f fd) (b_tuple : mg "tuple" = none) :
    aY P w K mg base (cI P w mg) (k + 1) f fd ["some", "others"] (di (dF 2 (nV)) 2) := by
  refine Z.fn_dataT W zf (G := ["tuple"]) (by decide +kernel) fun cdv A outer s H E hr T => ?_
  exact (Z.aF (Z.bh (Z.bO T 0 rfl b_tuple (Z.gg.b (Z.bC (N := ["number", "others"]) (own := 1) (G := []) (fr := [1]) T rfl rfl (oN := ["some", "others"]) (on := (ah kR).names) (by decide +kernel) (Z.cE (Z.aa T 0 rfl)) (bJ (by decide)) (fun cl C s' H' fp E' T => ⟨(Z.bz T 0 rfl), (Z.gu (Z.l5 T.hu (Z.ai.b (Z.aa T 0 rfl)) (Z.ai.b (Z.aa T 1 rfl)) (by with_unfolding_all rfl))), (Z.aa T 0 rfl)⟩))))))
theorem sy : aQ ["place", "ways", "who", "ranks", "known"] ["place", "ways", "who", "ranks"] (ah hJ) := ⟨rfl, rfl, rfl, by decide +kernel, rfl, by decide +kernel, by decide +kernel⟩
theorem sU (W : ig K "is_forced" "is_forced" hJ f fd) {t_WHO : Tok} (g_WHO : mg "WHO" = some (.int 0 t_WHO)) (b_len : mg "len" = none) :
    aY P w K mg base (cI P w mg) (k + 1) f fd ["place", "ways", "who", "ranks"] (di (dF 5 (je)) 4) := by
  refine Z.fn_dataT W sy (G := ["WHO", "len"]) (by decide +kernel) fun cdv A outer s H E hr T => ?_
  exact (Z.ao (Z.fw.fz (Z.fK 4 rfl (N := ["goal", "ranks"]) (own := 1) (G := []) (fr := [3]) T rfl rfl (oN := ["place", "ways", "who", "ranks", "known"]) (on := (ah hJ).names) (by decide +kernel) (Z.cE (Z.aa T 1 rfl)) (bJ (by decide)) (fun cl C s' H' fp E' T => ⟨(Z.bz T 0 rfl), (Z.gu (Z.lc (Z.ai.b (Z.bo T.hu (Z.ai.b (Z.aa T 1 rfl)) (Z.ai.b (Z.aa T 0 rfl)) (fun _ _ => rfl))) (Z.ai.b Z.cZ))), (Z.aa T 0 rfl)⟩)) (show 4 < 5 by decide))
      (Z.ao (Z.eX (Z.fq T.hu (Z.ai.b (Z.bo T.hu (Z.ai.b (Z.aa T 0 rfl)) (Z.ai.b (Z.dw T 0 rfl g_WHO)) (fun _ _ => rfl))) (Z.ai.b (Z.aa T 2 rfl))) (Z.aF (Z.bh (Z.xB (Z.ai.b (Z.dt T 1 rfl b_len (Z.ai.b (Z.aa T 4 rfl)))) (Z.ai.b Z.aq)))) Z.dH)
      (Z.aF (Z.bh (Z.sS T.hu (Z.ai.b (Z.dt T 1 rfl b_len (Z.ai.b (Z.aa T 4 rfl)))) (Z.ai.b (Z.dt T 1 rfl b_len (Z.ai.b (Z.aa T 1 rfl)))))))))
theorem um : aQ ["ground", "inside", "who", "goals", "ways", "ranks", "rank", "found", "unranked", "number"] ["ground", "inside", "who", "goals"] (ah eK) := ⟨rfl, rfl, rfl, by decide +kernel, rfl, by decide +kernel, by decide +kernel⟩
theorem tF (W : ig K "ranks_to" "ranks_to" eK f fd) {f10 : Addr} {d10 : FuncData} {ca : gI} (C10 : gJ P w K mg base k "common" ["some", "others"] ca f10 d10) {f17 : Addr} {d17 : FuncData} {bN : gI} (C17 : gJ P w K mg base k "is_forced" ["place", "ways", "who", "ranks"] bN f17 d17) {t_GOALS : Tok} (g_GOALS : mg "GOALS" = some (.int 3 t_GOALS)) (b_len : mg "len" = none) (b_list : mg "list" = none) (b_range : mg "range" = none) (b_tuple : mg "tuple" = none) :
    aY P w K mg base (cI P w mg) (k + 1) f fd ["ground", "inside", "who", "goals"] (di (dF 10 (kH ca bN)) 4) := by
  refine Z.fn_dataT W um (G := ["range", "len", "list", "tuple"]) (by decide +kernel) fun cdv A outer s H E hr T => ?_
  exact (Z.ao (Z.br T 4 rfl (Z.gg.e (Z.bC (N := ["place", "inside"]) (own := 1) (G := ["common", "GOALS"]) (fr := [1]) T rfl rfl (oN := ["ground", "inside", "who", "goals", "ways", "ranks", "rank", "found", "unranked", "number"]) (on := (ah eK).names) (by decide +kernel) (Z.cE (Z.aa T 0 rfl)) (bJ (by decide)) (fun cl C s' H' fp E' T => ⟨(Z.bz T 0 rfl), Z.dq, (Z.aO C10 hr T 0 rfl (Z.ag (Z.bo T.hu (Z.ai.b (Z.aa T 0 rfl)) (Z.ai.b (Z.dw T 1 rfl g_GOALS)) (fun _ _ => rfl)) (Z.ag (Z.aa T 1 rfl) Z.ay)) rfl (ae (ae ar)))⟩))))
      (Z.ao (Z.iP T 5 rfl (Z.bC (N := ["number", "goals"]) (own := 1) (G := []) (fr := [3]) T rfl rfl (oN := ["ground", "inside", "who", "goals", "ways", "ranks", "rank", "found", "unranked", "number"]) (on := (ah eK).names) (by decide +kernel) (Z.fE T 0 rfl b_range (Z.ag (Z.dt T 1 rfl b_len (Z.ai.b (Z.aa T 0 rfl))) Z.ay) (ae ar)) (bJ (by decide)) (fun cl C s' H' fp E' T => ⟨(Z.bz T 0 rfl), Z.dq, (Z.jD (Z.l5 T.hu (Z.ai.b (Z.aa T 0 rfl)) (Z.ai.b (Z.aa T 1 rfl)) (by with_unfolding_all rfl)) Z.aq Z.cZ)⟩)))
      (Z.ao (Z.br T 6 rfl Z.aq)
      (Z.ao (Z.br T 7 rfl (Z.gg.e (Z.lG T 2 rfl b_list (Z.ai.b (Z.aa T 3 rfl)))))
      (Z.ao (Z.da (have T := T.nox; Z.jl 1000000 PassesOwn.never (Z.mt (Z.ai.b (Z.dt T 1 rfl b_len (Z.ai.b (Z.aa T 7 rfl)))) (Z.ai.b Z.aq)) (Z.ao (Z.qU T 6 rfl Z.aq)
      (Z.ao (Z.fw.fz (Z.fK 8 rfl (N := ["number", "ranks"]) (own := 1) (G := []) (fr := [5]) T rfl rfl (oN := ["ground", "inside", "who", "goals", "ways", "ranks", "rank", "found", "unranked", "number"]) (on := (ah eK).names) (by decide +kernel) (Z.cE (Z.aa T 1 rfl)) (bJ (by decide)) (fun cl C s' H' fp E' T => ⟨(Z.bz T 0 rfl), (Z.gu (Z.ld (Z.ai.b (Z.bo T.hu (Z.cC T 1 rfl) (Z.ai.b (Z.aa T 0 rfl)) (fun _ _ => rfl))) (Z.ai.b Z.cZ))), (Z.aa T 0 rfl)⟩)) (show 8 < 10 by decide))
      (Z.ao (Z.fw.fz (Z.fK 7 rfl (N := ["number", "ground", "ways", "who", "ranks"]) (own := 1) (G := ["is_forced"]) (fr := [0, 4, 2, 5]) T rfl rfl (oN := ["ground", "inside", "who", "goals", "ways", "ranks", "rank", "found", "unranked", "number"]) (on := (ah eK).names) (by decide +kernel) (Z.cE (Z.aa T 8 rfl)) (bJ (by decide)) (fun cl C s' H' fp E' T => ⟨(Z.bz T 0 rfl), (Z.gu (Z.eW (Z.ai.lent 4 (Z.aO C17 hr T 0 rfl (Z.ag (Z.bo T.hu (Z.ai.b (Z.aa T 1 rfl)) (Z.ai.b (Z.aa T 0 rfl)) (fun _ _ => rfl)) (Z.ag (Z.bo T.hu (Z.ai.b (Z.aa T 2 rfl)) (Z.ai.b (Z.aa T 0 rfl)) (fun _ _ => rfl)) (Z.ag (Z.aa T 3 rfl) (Z.ag (Z.aa T 4 rfl) Z.ay)))) rfl (ae (ae (ae (ae ar)))))))), (Z.aa T 0 rfl)⟩)) (show 7 < 10 by decide))
      (Z.aF (Z.da (have T := T.nox; Z.fX PassesOwn.never T.calm (Z.cE (Z.aa T 7 rfl)) (Z.bz T 9 rfl) (Z.aF (Z.jQ T 5 rfl (have T := T.nox; (Z.aa T 9 rfl)) (Z.aa T 6 rfl)))))))))))
      (Z.aF (Z.bh (Z.bO T 3 rfl b_tuple (Z.cC T 5 rfl)))))))))
theorem tt : aQ ["ground"] ["ground"] (ah iV) := ⟨rfl, rfl, rfl, by decide +kernel, rfl, by decide +kernel, by decide +kernel⟩
theorem uC (W : ig K "no_moves" "no_moves" iV f fd) (b_tuple : mg "tuple" = none) :
    aY P w K mg base (cI P w mg) (k + 1) f fd ["ground"] (di (dF 1 (ky)) 1) := by
  refine Z.fn_dataT W tt (G := ["tuple"]) (by decide +kernel) fun cdv A outer s H E hr T => ?_
  exact (Z.aF (Z.bh (Z.bO T 0 rfl b_tuple (Z.gg.b (Z.bC (N := ["place"]) (own := 1) (G := []) (fr := []) T rfl rfl (oN := ["ground"]) (on := (ah iV).names) (by decide +kernel) (Z.cE (Z.aa T 0 rfl)) (bJ (by decide)) (fun cl C s' H' fp E' T => ⟨(Z.bz T 0 rfl), Z.dq, Z.cZ⟩))))))
theorem mW : aQ ["ground", "who", "part", "moves", "number"] ["ground", "who", "part"] (ah fV) := ⟨rfl, rfl, rfl, by decide +kernel, rfl, by decide +kernel, by decide +kernel⟩
theorem nu (W : ig K "staying_moves" "staying_moves" fV f fd) {f10 : Addr} {d10 : FuncData} {ca : gI} (C10 : gJ P w K mg base k "common" ["some", "others"] ca f10 d10) {f12 : Addr} {d12 : FuncData} {bM : gI} (C12 : gJ P w K mg base k "no_moves" ["ground"] bM f12 d12) {t_GOALS : Tok} (g_GOALS : mg "GOALS" = some (.int 3 t_GOALS)) {t_WHO : Tok} (g_WHO : mg "WHO" = some (.int 0 t_WHO)) (b_list : mg "list" = none) (b_tuple : mg "tuple" = none) :
    aY P w K mg base (cI P w mg) (k + 1) f fd ["ground", "who", "part"] (di (dF 5 (fZ ca bM)) 3) := by
  refine Z.fn_dataT W mW (G := ["list", "no_moves", "WHO", "common", "GOALS", "tuple"]) (by decide +kernel) fun cdv A outer s H E hr T => ?_
  exact (Z.ao (Z.iP T 3 rfl (Z.lG T 0 rfl b_list (Z.ai.b (Z.aO C12 hr T 1 rfl (Z.ag (Z.aa T 0 rfl) Z.ay) rfl (ae ar)))))
      (Z.ao (Z.da (have T := T.nox; Z.fX PassesOwn.never T.calm (Z.cE (Z.aa T 2 rfl)) (Z.bz T 4 rfl) (Z.aF (Z.eX (Z.fq T.hu (Z.ai.b (Z.bo T.hu (Z.ai.b (Z.bo T.hu (Z.ai.b (Z.aa T 0 rfl)) (Z.ai.b (Z.aa T 4 rfl)) (fun _ _ => rfl))) (Z.ai.b (Z.dw T 2 rfl g_WHO)) (fun _ _ => rfl))) (Z.ai.b (Z.aa T 1 rfl))) (Z.aF (Z.jQ T 3 rfl (have T := T.nox; (Z.aa T 4 rfl)) (Z.bo T.hu (Z.ai.b (Z.aO C10 hr T 3 rfl (Z.ag (Z.bo T.hu (Z.ai.b (Z.bo T.hu (Z.ai.b (Z.aa T 0 rfl)) (Z.ai.b (Z.aa T 4 rfl)) (fun _ _ => rfl))) (Z.ai.b (Z.dw T 4 rfl g_GOALS)) (fun _ _ => rfl)) (Z.ag (Z.aa T 2 rfl) Z.ay)) rfl (ae (ae ar)))) (Z.ai.b Z.aq) (fun _ _ => rfl)))) Z.dH))))
      (Z.aF (Z.bh (Z.bO T 5 rfl b_tuple (Z.cC T 3 rfl))))))
theorem wM : aQ ["some", "others"] ["some", "others"] (ah jW) := ⟨rfl, rfl, rfl, by decide +kernel, rfl, by decide +kernel, by decide +kernel⟩
theorem wz (W : ig K "without" "without" jW f fd) (b_tuple : mg "tuple" = none) :
    aY P w K mg base (cI P w mg) (k + 1) f fd ["some", "others"] (di (dF 2 (my)) 2) := by
  refine Z.fn_dataT W wM (G := ["tuple"]) (by decide +kernel) fun cdv A outer s H E hr T => ?_
  exact (Z.aF (Z.bh (Z.bO T 0 rfl b_tuple (Z.gg.b (Z.bC (N := ["number", "others"]) (own := 1) (G := []) (fr := [1]) T rfl rfl (oN := ["some", "others"]) (on := (ah jW).names) (by decide +kernel) (Z.cE (Z.aa T 0 rfl)) (bJ (by decide)) (fun cl C s' H' fp E' T => ⟨(Z.bz T 0 rfl), (Z.gu (Z.jO T.hu (Z.ai.b (Z.aa T 0 rfl)) (Z.ai.b (Z.aa T 1 rfl)) (by with_unfolding_all rfl))), (Z.aa T 0 rfl)⟩))))))
theorem me : aQ ["ground", "inside", "highest", "who", "other", "tops", "ranks", "below", "lost", "moves"] ["ground", "inside"] (ah cA) := ⟨rfl, rfl, rfl, by decide +kernel, rfl, by decide +kernel, by decide +kernel⟩
theorem mr (W : ig K "share_by_marks" "share_by_marks" cA f fd) {f14 : Addr} {d14 : FuncData} {cD : gI} (C14 : gJ P w K mg base k "moves_at" ["moves", "places"] cD f14 d14) {f13 : Addr} {d13 : FuncData} {aC : gI} (C13 : gJ P w K mg base k "moves_of_both" ["moves", "others"] aC f13 d13) {f20 : Addr} {d20 : FuncData} {aZ : gI} (C20 : gJ P w K mg base k "pulling_moves" ["ground", "who", "ranks"] aZ f20 d20) {f19 : Addr} {d19 : FuncData} {bZ : gI} (C19 : gJ P w K mg base k "ranked" ["ranks"] bZ f19 d19) {f18 : Addr} {d18 : FuncData} {cj : gI} (C18 : gJ P w K mg base k "ranks_to" ["ground", "inside", "who", "goals"] cj f18 d18) {f15 : Addr} {d15 : FuncData} {bn : gI} (C15 : gJ P w K mg base k "staying_moves" ["ground", "who", "part"] bn f15 d15) {f22 : Addr} {d22 : FuncData} {aG : gI} (C22 : gJ P w K mg base k "winners_within" ["ground", "inside"] aG f22 d22) {f11 : Addr} {d11 : FuncData} {bI : gI} (C11 : gJ P w K mg base k "without" ["some", "others"] bI f11 d11) {t_MARK : Tok} (g_MARK : mg "MARK" = some (.int 1 t_MARK)) (b_enumerate : mg "enumerate" = none) (b_len : mg "len" = none) (b_max : mg "max" = none) {c_Share : Addr} (cl_Share : wl K c_Share) (n_Share_moves : dN K c_Share "moves") (n_Share_places : dN K c_Share "places") (n_Share_who : dN K c_Share "who") (m_Share : mg "Share" = some (.ref c_Share)) {fi_Share : Addr} {di_Share : FuncData} (MK_Share : Mk K c_Share fi_Share) (I_Share : aY P w K mg base (cI P w mg) 1 fi_Share di_Share ["self", "who", "places", "moves"] (DB c_Share ["who", "places", "moves"])) (B_Share : i4 K di_Share ["self", "who", "places", "moves"] []) (hk : 2 ≤ k) :
    aY P w K mg base (cI P w mg) (k + 1) f fd ["ground", "inside"] (di (dF 10 (dU cD aC aZ bZ cj bn aG bI c_Share)) 2) := by
  refine Z.fn_dataT W me (G := ["max", "ranks_to", "winners_within", "without", "ranked", "enumerate", "len", "moves_of_both", "pulling_moves", "Share", "staying_moves", "moves_at"]) (by decide +kernel) fun cdv A outer s H E hr T => ?_
  exact (Z.ao (Z.br T 2 rfl (Z.nG T 0 rfl b_max (Z.gg.b (Z.bC (N := ["number", "ground"]) (own := 1) (G := ["MARK"]) (fr := [0]) T rfl rfl (oN := ["ground", "inside", "highest", "who", "other", "tops", "ranks", "below", "lost", "moves"]) (on := (ah cA).names) (by decide +kernel) (Z.cE (Z.aa T 1 rfl)) (bJ (by decide)) (fun cl C s' H' fp E' T => ⟨(Z.bz T 0 rfl), Z.dq, (Z.bo T.hu (Z.ai.b (Z.bo T.hu (Z.ai.b (Z.aa T 1 rfl)) (Z.ai.b (Z.aa T 0 rfl)) (fun _ _ => rfl))) (Z.ai.b (Z.dw T 0 rfl g_MARK)) (fun _ _ => rfl))⟩)))))
      (Z.ao (Z.br T 3 rfl (Z.cS (Z.ai.b (Z.aa T 2 rfl)) (Z.ai.b Z.aq)))
      (Z.ao (Z.br T 4 rfl (Z.kP (Z.ai.b Z.aq) (Z.ai.b (Z.aa T 3 rfl))))
      (Z.ao (Z.fw.fz (Z.fK 5 rfl (N := ["number", "ground", "highest"]) (own := 1) (G := ["MARK"]) (fr := [0, 2]) T rfl rfl (oN := ["ground", "inside", "highest", "who", "other", "tops", "ranks", "below", "lost", "moves"]) (on := (ah cA).names) (by decide +kernel) (Z.cE (Z.aa T 1 rfl)) (bJ (by decide)) (fun cl C s' H' fp E' T => ⟨(Z.bz T 0 rfl), (Z.gu (Z.fq T.hu (Z.ai.b (Z.bo T.hu (Z.ai.b (Z.bo T.hu (Z.ai.b (Z.aa T 1 rfl)) (Z.ai.b (Z.aa T 0 rfl)) (fun _ _ => rfl))) (Z.ai.b (Z.dw T 0 rfl g_MARK)) (fun _ _ => rfl))) (Z.ai.b (Z.aa T 2 rfl)))), (Z.aa T 0 rfl)⟩)) (show 5 < 10 by decide))
      (Z.ao (Z.br T 6 rfl (Z.aO C18 hr T 1 rfl (Z.ag (Z.aa T 0 rfl) (Z.ag (Z.aa T 1 rfl) (Z.ag (Z.aa T 3 rfl) (Z.ag (Z.aa T 5 rfl) Z.ay)))) rfl (ae (ae (ae (ae ar))))))
      (Z.ao (Z.br T 7 rfl (Z.aO C22 hr T 2 rfl (Z.ag (Z.aa T 0 rfl) (Z.ag (Z.aO C11 hr T 3 rfl (Z.ag (Z.aa T 1 rfl) (Z.ag (Z.aO C19 hr T 4 rfl (Z.ag (Z.aa T 6 rfl) Z.ay) rfl (ae ar)) Z.ay)) rfl (ae (ae ar))) Z.ay)) rfl (ae (ae ar))))
      (Z.ao (Z.fw.fz (Z.fK 8 rfl (N := ["number", "winner", "other"]) (own := 2) (G := []) (fr := [4]) T rfl rfl (oN := ["ground", "inside", "highest", "who", "other", "tops", "ranks", "below", "lost", "moves"]) (on := (ah cA).names) (by decide +kernel) (Z.iB T 5 rfl b_enumerate (Z.bo T.hu (Z.ai.b (Z.aa T 7 rfl)) (Z.ai.b Z.aq) (fun _ _ => rfl))) (fA (by decide) (by decide)) (fun cl C s' H' fp E' T => ⟨(Z.eG T 0 1 rfl rfl), (Z.gu (Z.fq T.hu (Z.ai.b (Z.aa T 1 rfl)) (Z.ai.b (Z.aa T 2 rfl)))), (Z.aa T 0 rfl)⟩)) (show 8 < 10 by decide))
      (Z.ao (Z.eX (Z.fq T.hu (Z.ai.b (Z.dt T 6 rfl b_len (Z.ai.b (Z.aa T 8 rfl)))) (Z.ai.b Z.aq)) (Z.ao (Z.br T 9 rfl (Z.aO C13 hr T 7 rfl (Z.ag (Z.aO C20 hr T 8 rfl (Z.ag (Z.aa T 0 rfl) (Z.ag (Z.aa T 3 rfl) (Z.ag (Z.aa T 6 rfl) Z.ay))) rfl (ae (ae (ae ar)))) (Z.ag (Z.bo T.hu (Z.ai.b (Z.aa T 7 rfl)) (Z.ai.b Z.aq) (fun _ _ => rfl)) Z.ay)) rfl (ae (ae ar))))
      (Z.aF (Z.bh (Z.qS MK_Share I_Share (hr.mono hk) T 9 rfl m_Share B_Share (Z.ag (Z.aa T 3 rfl) (Z.ag (Z.aa T 1 rfl) (Z.ag (Z.aO C13 hr T 7 rfl (Z.ag (Z.aa T 9 rfl) (Z.ag (Z.aO C15 hr T 10 rfl (Z.ag (Z.aa T 0 rfl) (Z.ag (Z.aa T 3 rfl) (Z.ag (Z.aa T 1 rfl) Z.ay))) rfl (ae (ae (ae ar)))) Z.ay)) rfl (ae (ae ar))) Z.ay))) (ae (ae (ae ar))))))) Z.dH)
      (Z.ao (Z.br T 6 rfl (Z.aO C18 hr T 1 rfl (Z.ag (Z.aa T 0 rfl) (Z.ag (Z.aa T 1 rfl) (Z.ag (Z.aa T 4 rfl) (Z.ag (Z.aa T 8 rfl) Z.ay)))) rfl (ae (ae (ae (ae ar))))))
      (Z.ao (Z.br T 9 rfl (Z.aO C13 hr T 7 rfl (Z.ag (Z.aO C20 hr T 8 rfl (Z.ag (Z.aa T 0 rfl) (Z.ag (Z.aa T 4 rfl) (Z.ag (Z.aa T 6 rfl) Z.ay))) rfl (ae (ae (ae ar)))) (Z.ag (Z.aO C14 hr T 11 rfl (Z.ag (Z.bo T.hu (Z.ai.b (Z.aa T 7 rfl)) (Z.ai.b Z.aq) (fun _ _ => rfl)) (Z.ag (Z.aa T 8 rfl) Z.ay)) rfl (ae (ae ar))) Z.ay)) rfl (ae (ae ar))))
      (Z.aF (Z.bh (Z.qS MK_Share I_Share (hr.mono hk) T 9 rfl m_Share B_Share (Z.ag (Z.aa T 4 rfl) (Z.ag (Z.aO C19 hr T 4 rfl (Z.ag (Z.aa T 6 rfl) Z.ay) rfl (ae ar)) (Z.ag (Z.aa T 9 rfl) Z.ay))) (ae (ae (ae ar))))))))))))))))
theorem kb : aQ ["ground", "shares", "winners", "moves", "share", "number"] ["ground", "shares"] (ah cR) := ⟨rfl, rfl, rfl, by decide +kernel, rfl, by decide +kernel, by decide +kernel⟩
theorem ki (W : ig K "winners_and_moves" "winners_and_moves" cR f fd) {f13 : Addr} {d13 : FuncData} {aC : gI} (C13 : gJ P w K mg base k "moves_of_both" ["moves", "others"] aC f13 d13) {f12 : Addr} {d12 : FuncData} {bM : gI} (C12 : gJ P w K mg base k "no_moves" ["ground"] bM f12 d12) (b_tuple : mg "tuple" = none) {c_Share : Addr} (cl_Share : wl K c_Share) (n_Share_moves : dN K c_Share "moves") (n_Share_places : dN K c_Share "places") (n_Share_who : dN K c_Share "who") :
    aY P w K mg base (cI P w mg) (k + 1) f fd ["ground", "shares"] (di (dF 6 (ed aC bM c_Share)) 2) := by
  refine Z.fn_dataT W kb (G := ["no_moves", "moves_of_both", "tuple"]) (by decide +kernel) fun cdv A outer s H E hr T => ?_
  exact (Z.ao (Z.fK 2 rfl (N := ["place"]) (own := 1) (G := []) (fr := []) T rfl rfl (oN := ["ground", "shares", "winners", "moves", "share", "number"]) (on := (ah cR).names) (by decide +kernel) (Z.cE (Z.aa T 0 rfl)) (bJ (by decide)) (fun cl C s' H' fp E' T => ⟨(Z.bz T 0 rfl), Z.dq, Z.cZ⟩))
      (Z.ao (Z.br T 3 rfl (Z.aO C12 hr T 0 rfl (Z.ag (Z.aa T 0 rfl) Z.ay) rfl (ae ar)))
      (Z.ao (Z.da (have T := T.nox; Z.fX PassesOwn.never T.calm (Z.cE (Z.aa T 1 rfl)) (Z.bz T 4 rfl) (Z.ao (Z.da (have T := T.nox; Z.fX PassesOwn.never T.calm (Z.cE (Z.l4 cl_Share n_Share_places (Z.aa T 4 rfl))) (Z.bz T 5 rfl) (Z.aF (Z.jQ T 2 rfl (have T := T.nox; (Z.aa T 5 rfl)) (Z.l4 cl_Share n_Share_who (Z.aa T 4 rfl))))))
      (Z.aF (Z.br T 3 rfl (Z.aO C13 hr T 1 rfl (Z.ag (Z.aa T 3 rfl) (Z.ag (Z.l4 cl_Share n_Share_moves (Z.aa T 4 rfl)) Z.ay)) rfl (ae (ae ar))))))))
      (Z.aF (Z.bh (Z.kJ (Z.ag (Z.bO T 2 rfl b_tuple (Z.cC T 2 rfl)) (Z.ag (Z.aa T 3 rfl) Z.ay))))))))
theorem lZ : aQ ["ground", "inside", "shares", "left", "share"] ["ground", "inside"] (ah ft) := ⟨rfl, rfl, rfl, by decide +kernel, rfl, by decide +kernel, by decide +kernel⟩
theorem l6 (W : ig K "winners_within" "winners_within" ft f fd) {f21 : Addr} {d21 : FuncData} {aU : gI} (C21 : gJ P w K mg base k "share_by_marks" ["ground", "inside"] aU f21 d21) {f16 : Addr} {d16 : FuncData} {aW : gI} (C16 : gJ P w K mg base k "winners_and_moves" ["ground", "shares"] aW f16 d16) {f11 : Addr} {d11 : FuncData} {bI : gI} (C11 : gJ P w K mg base k "without" ["some", "others"] bI f11 d11) (b_len : mg "len" = none) {c_Share : Addr} (cl_Share : wl K c_Share) (n_Share_places : dN K c_Share "places") :
    aY P w K mg base (cI P w mg) (k + 1) f fd ["ground", "inside"] (di (dF 5 (dW aU aW bI c_Share)) 2) := by
  refine Z.fn_dataT W lZ (G := ["len", "share_by_marks", "without", "winners_and_moves"]) (by decide +kernel) fun cdv A outer s H E hr T => ?_
  exact (Z.ao (Z.iP T 2 rfl (Z.gj Z.ay))
      (Z.ao (Z.br T 3 rfl (Z.aa T 1 rfl))
      (Z.ao (Z.da (have T := T.nox; Z.jl 1000000 PassesOwn.never (Z.mt (Z.ai.b (Z.dt T 0 rfl b_len (Z.ai.b (Z.aa T 3 rfl)))) (Z.ai.b Z.aq)) (Z.ao (Z.br T 4 rfl (Z.aO C21 hr T 1 rfl (Z.ag (Z.aa T 0 rfl) (Z.ag (Z.aa T 3 rfl) Z.ay)) rfl (ae (ae ar))))
      (Z.ao (Z.eQ T 2 rfl (Z.aa T 4 rfl))
      (Z.aF (Z.br T 3 rfl (Z.aO C11 hr T 2 rfl (Z.ag (Z.aa T 3 rfl) (Z.ag (Z.l4 cl_Share n_Share_places (Z.aa T 4 rfl)) Z.ay)) rfl (ae (ae ar)))))))))
      (Z.aF (Z.yI 2 (Z.bh (Z.aO C16 hr T 3 rfl (Z.ag (Z.aa T 0 rfl) (Z.ag (Z.aa T 2 rfl) Z.ay)) rfl (ae (ae ar)))))))))
theorem DH : aQ ["ground"] ["ground"] (ah yV) := ⟨rfl, rfl, rfl, by decide +kernel, rfl, by decide +kernel, by decide +kernel⟩
theorem DT (W : ig K "won" "won" yV f fd) {f9 : Addr} {d9 : FuncData} {cq : gI} (C9 : gJ P w K mg base k "all_places" ["ground"] cq f9 d9) {f22 : Addr} {d22 : FuncData} {aG : gI} (C22 : gJ P w K mg base k "winners_within" ["ground", "inside"] aG f22 d22) :
    aY P w K mg base (cI P w mg) (k + 1) f fd ["ground"] (di (dF 1 (zc cq aG)) 1) := by
  refine Z.fn_dataT W DH (G := ["winners_within", "all_places"]) (by decide +kernel) fun cdv A outer s H E hr T => ?_
  exact (Z.aF (Z.bh (Z.aO C22 hr T 0 rfl (Z.ag (Z.aa T 0 rfl) (Z.ag (Z.aO C9 hr T 1 rfl (Z.ag (Z.aa T 0 rfl) Z.ay) rfl (ae ar)) Z.ay)) rfl (ae (ae ar)))))
theorem DK : aQ ["_law_script", "_law_ground_here", "_law_winners", "_law_told", "_law_k", "_law_drawn_here", "_law_start", "_law_who", "_law_mine", "_law_place_here", "_law_move", "_law_other", "_law_moves", "_law_way", "_law_ring"] ["_law_script"] (ah jo) := ⟨rfl, rfl, rfl, by decide +kernel, rfl, by decide +kernel, by decide +kernel⟩
theorem DG (W : ig K "law" "law" jo f fd) {f31 : Addr} {d31 : FuncData} {cc : gI} (C31 : gJ P w K mg base k "_law_choice" ["_law_ground_here", "_law_who", "_law_number", "_law_share"] cc f31 d31) {f26 : Addr} {d26 : FuncData} {az : gI} (C26 : gJ P w K mg base k "_law_drawn" ["_law_number", "_law_k"] az f26 d26) {f29 : Addr} {d29 : FuncData} {cn : gI} (C29 : gJ P w K mg base k "_law_ground" ["_law_script", "_law_most"] cn f29 d29) {f25 : Addr} {d25 : FuncData} {bf : gI} (C25 : gJ P w K mg base k "_law_mixed" ["_law_script", "_law_k"] bf f25 d25) {f8 : Addr} {d8 : FuncData} {eu : gI} (C8 : gJ P w K mg base k "judged" ["ground", "ring"] eu f8 d8) {f6 : Addr} {d6 : FuncData} {dn : gI} (C6 : gJ P w K mg base k "ring_of" ["ground", "zero", "one", "start"] dn f6 d6) {f23 : Addr} {d23 : FuncData} {lB : gI} (C23 : gJ P w K mg base k "won" ["ground"] lB f23 d23) (b_all : mg "all" = none) (b_len : mg "len" = none) (b_range : mg "range" = none) (b_tuple : mg "tuple" = none) (b_zip : mg "zip" = none) :
    aY P w K mg base (cI P w mg) (k + 1) f fd ["_law_script"] (di (dF 15 (yA cc az cn bf eu dn lB)) 1) := by
  refine Z.fn_dataT W DK (G := ["_law_ground", "won", "range", "len", "zip", "tuple", "ring_of", "all", "judged"]) (by decide +kernel) fun cdv A outer s H E hr T => ?_
  exact (Z.ao (Z.br T 1 rfl (Z.aO C29 hr T 0 rfl (Z.ag (Z.aa T 0 rfl) (Z.ag Z.aq Z.ay)) rfl (ae (ae ar))))
      (Z.ao (Z.qh (Z.aO C23 hr T 1 rfl (Z.ag (Z.aa T 1 rfl) Z.ay) rfl (ae ar)) (Z.eG T 2 3 rfl rfl))
      (Z.ao (Z.da (have T := T.nox; Z.fX PassesOwn.never T.calm (Z.fE T 2 rfl b_range (Z.ag Z.aq Z.ay) (ae ar)) (Z.bz T 4 rfl) (Z.ao (Z.fw.fz (Z.fK 5 rfl (N := ["_law_who", "_law_ground_here", "_law_script", "_law_k"]) (own := 1) (G := ["_law_choice", "_law_drawn", "_law_mixed"]) (fr := [1, 0, 4]) T rfl rfl (oN := ["_law_script", "_law_ground_here", "_law_winners", "_law_told", "_law_k", "_law_drawn_here", "_law_start", "_law_who", "_law_mine", "_law_place_here", "_law_move", "_law_other", "_law_moves", "_law_way", "_law_ring"]) (on := (ah jo).names) (by decide +kernel) (Z.cE (Z.kJ (Z.ag Z.aq (Z.ag Z.aq Z.ay)))) (bJ (by decide)) (fun cl C s' H' fp E' T => ⟨(Z.bz T 0 rfl), Z.dq, (Z.aO C31 hr T 0 rfl (Z.ag (Z.aa T 1 rfl) (Z.ag (Z.aa T 0 rfl) (Z.ag (Z.aO C26 hr T 1 rfl (Z.ag (Z.aO C25 hr T 2 rfl (Z.ag (Z.aa T 2 rfl) (Z.ag Z.aq Z.ay)) rfl (ae (ae ar))) (Z.ag (Z.aa T 3 rfl) Z.ay)) rfl (ae (ae ar))) (Z.ag Z.aq Z.ay)))) rfl (ae (ae (ae (ae ar)))))⟩)) (show 5 < 15 by decide))
      (Z.aF (Z.da (have T := T.nox; Z.fX PassesOwn.never T.calm (Z.fE T 2 rfl b_range (Z.ag (Z.dt T 3 rfl b_len (Z.ai.b (Z.aa T 1 rfl))) Z.ay) (ae ar)) (Z.bz T 6 rfl) (Z.ao (Z.br T 7 rfl (Z.bo T.hu (Z.ai.b (Z.aa T 2 rfl)) (Z.ai.b (Z.aa T 6 rfl)) (fun _ _ => rfl)))
      (Z.ao (Z.iP T 8 rfl (Z.gj Z.ay))
      (Z.ao (Z.da (have T := T.nox; Z.fX PassesOwn.never T.calm (Z.qH T 4 rfl b_zip (Z.aa T 1 rfl) (Z.aa T 3 rfl) (Z.bo T.hu (Z.ai.b (Z.aa T 5 rfl)) (Z.ai.b (Z.aa T 7 rfl)) (fun _ _ => rfl))) (Z.tO T 9 10 11 rfl rfl rfl) (Z.aF (Z.eX (Z.l9.t (Z.jp (Z.ld (Z.ai.b (Z.aa T 10 rfl)) (Z.ai.b Z.cZ)) (Z.gY (Z.lV T.hu (Z.ai.b (Z.bo T.hu (Z.ai.b (Z.aa T 9 rfl)) (Z.ai.b Z.aq) (fun _ _ => rfl))) (Z.ai.b (Z.aa T 7 rfl)))))) (Z.aF (Z.eQ T 8 rfl (Z.aa T 11 rfl))) (Z.aF (Z.eQ T 8 rfl (Z.aa T 10 rfl)))))))
      (Z.ao (Z.br T 12 rfl (Z.gg.e (Z.gj (Z.ag (Z.bO T 5 rfl b_tuple (Z.cC T 8 rfl)) (Z.ag (Z.bo T.hu (Z.ai.b (Z.aa T 5 rfl)) (Z.ai.b Z.aq) (fun _ _ => rfl)) Z.ay)))))
      (Z.ao (Z.eX (Z.fq T.hu (Z.ai.b (Z.aa T 7 rfl)) (Z.ai.b Z.aq)) (Z.aF (Z.br T 12 rfl (Z.gg.e (Z.gj (Z.ag (Z.bo T.hu (Z.ai.b (Z.aa T 5 rfl)) (Z.ai.b Z.aq) (fun _ _ => rfl)) (Z.ag (Z.bO T 5 rfl b_tuple (Z.cC T 8 rfl)) Z.ay)))))) Z.dH)
      (Z.ao (Z.qh (Z.aO C6 hr T 6 rfl (Z.ag (Z.aa T 1 rfl) (Z.ag (Z.bo T.hu (Z.ai.b (Z.aa T 12 rfl)) (Z.ai.b Z.aq) (fun _ _ => rfl)) (Z.ag (Z.bo T.hu (Z.ai.b (Z.aa T 12 rfl)) (Z.ai.b Z.aq) (fun _ _ => rfl)) (Z.ag (Z.aa T 6 rfl) Z.ay)))) rfl (ae (ae (ae (ae ar))))) (Z.eG T 13 14 rfl rfl))
      (Z.aF (Z.eX (Z.l9.t (Z.jp (Z.fJ (Z.eW (Z.lS T 7 rfl b_all (Z.gg.b (Z.bC (N := ["_law_place_here", "_law_winners", "_law_who"]) (own := 1) (G := []) (fr := [2, 7]) T rfl rfl (oN := ["_law_script", "_law_ground_here", "_law_winners", "_law_told", "_law_k", "_law_drawn_here", "_law_start", "_law_who", "_law_mine", "_law_place_here", "_law_move", "_law_other", "_law_moves", "_law_way", "_law_ring"]) (on := (ah jo).names) (by decide +kernel) (Z.cE (Z.dM (Z.ai.b (Z.aa T 13 rfl)) (Z.ai.b (Z.aa T 14 rfl)))) (bJ (by decide)) (fun cl C s' H' fp E' T => ⟨(Z.bz T 0 rfl), Z.dq, (Z.sS T.hu (Z.ai.b (Z.bo T.hu (Z.ai.b (Z.aa T 1 rfl)) (Z.ai.b (Z.aa T 0 rfl)) (fun _ _ => rfl))) (Z.ai.b (Z.aa T 2 rfl)))⟩)))))) (Z.gY (Z.lV T.hu (Z.ai.b (Z.aO C8 hr T 8 rfl (Z.ag (Z.aa T 1 rfl) (Z.ag (Z.aa T 14 rfl) Z.ay)) rfl (ae (ae ar)))) (Z.ai.b (Z.aa T 7 rfl)))))) (Z.aF (Z.bh Z.gU)) Z.dH))))))))))))))
      (Z.aF (Z.bh Z.gU)))))
end
noncomputable def F0 : List PyData → R PyData := fun ds => open Classical in if ∃ ns : List Int, ns.length ≤ 63 ∧ ds = [.list (ns.map .int)] then .ok (.bool true) else .no
theorem vt : ye F0 := fun ns h => if_pos ⟨ns, h, rfl⟩
theorem Ef {c_Share : Addr} (vs : List V) (H : Hp) (Q : VK) (E : XK) (h : di F0 1 vs H Q E) : di (vJ c_Share) 1 vs H Q E := by
  obtain ⟨ds, r, hl, q⟩ := h
  refine ⟨ds, r, hl, ?_⟩
  by_cases hd : ∃ ns : List Int, ns.length ≤ 63 ∧ ds = [.list (ns.map .int)]
  · obtain ⟨ns, h1, rfl⟩ := hd
    rw [vt ns h1] at q
    rw [yb c_Share ns h1]
    exact q
  · unfold F0 at q
    rw [if_neg hd] at q
    exact q.elim
theorem CK {l : PySem.W.OpenLaw} {w : World} {K : PySem.W.Frag} {h : Heap} {mg : Str → Option Value} {fa : Addr} (X : K.In h) (G : h.Ns mainGlobals mg) (hfa : mg "law" = some (.ref fa))
    {f31 : Addr} {od31 an31 : Option Addr} {sl31 : Array (Option Value)} {oc31 kV31 dc31 pm31 cd31 ct31 : Value}
    {f0 : Addr} {d0 : FuncData} (q0 : cz K "_law_drawn" jG f0 d0)
    {f1 : Addr} {d1 : FuncData} (q1 : cz K "_law_choice" iR f1 d1)
    {f2 : Addr} {d2 : FuncData} (q2 : cz K "_law_cell_at" hV f2 d2)
    {f3 : Addr} {d3 : FuncData} (q3 : cz K "_law_mixed" jx f3 d3)
    {f4 : Addr} {d4 : FuncData} (q4 : cz K "_law_goals" jg f4 d4)
    {f5 : Addr} {d5 : FuncData} (q5 : cz K "_law_place" jw f5 d5)
    {f6 : Addr} {d6 : FuncData} (q6 : cz K "_law_ground" gk f6 d6)
    {f7 : Addr} {d7 : FuncData} (q7 : cz K "is_whole" ku f7 d7)
    {f8 : Addr} {d8 : FuncData} (q8 : cz K "is_between" iC f8 d8)
    {f9 : Addr} {d9 : FuncData} (q9 : cz K "is_number_of_place" dG f9 d9)
    {f10 : Addr} {d10 : FuncData} (q10 : cz K "is_ring" ix f10 d10)
    {f11 : Addr} {d11 : FuncData} (q11 : cz K "judged" kT f11 d11)
    {f12 : Addr} {d12 : FuncData} (q12 : cz K "is_move" lQ f12 d12)
    {f13 : Addr} {d13 : FuncData} (q13 : cz K "are_moves" gS f13 d13)
    {f14 : Addr} {d14 : FuncData} (q14 : cz K "moves_by_owners" dA f14 d14)
    {f15 : Addr} {d15 : FuncData} (q15 : cz K "ring_of" mm f15 d15)
    {f16 : Addr} {d16 : FuncData} (q16 : cz K "all_places" iH f16 d16)
    {f17 : Addr} {d17 : FuncData} (q17 : cz K "moves_at" iK f17 d17)
    {f18 : Addr} {d18 : FuncData} (q18 : cz K "moves_of_both" eF f18 d18)
    {f19 : Addr} {d19 : FuncData} (q19 : cz K "ranked" lF f19 d19)
    {f20 : Addr} {d20 : FuncData} (q20 : cz K "pulling_moves" dj f20 d20)
    {f21 : Addr} {d21 : FuncData} (q21 : cz K "common" kR f21 d21)
    {f22 : Addr} {d22 : FuncData} (q22 : cz K "is_forced" hJ f22 d22)
    {f23 : Addr} {d23 : FuncData} (q23 : cz K "ranks_to" eK f23 d23)
    {f24 : Addr} {d24 : FuncData} (q24 : cz K "no_moves" iV f24 d24)
    {f25 : Addr} {d25 : FuncData} (q25 : cz K "staying_moves" fV f25 d25)
    {f26 : Addr} {d26 : FuncData} (q26 : cz K "without" jW f26 d26)
    {f27 : Addr} {d27 : FuncData} (q27 : cz K "share_by_marks" cA f27 d27)
    {f28 : Addr} {d28 : FuncData} (q28 : cz K "winners_and_moves" cR f28 d28)
    {f29 : Addr} {d29 : FuncData} (q29 : cz K "winners_within" ft f29 d29)
    {f30 : Addr} {d30 : FuncData} (q30 : cz K "won" yV f30 d30)
    (a31 : PySem.W.nsIn K mainGlobals "law" = some (some (.ref f31))) (l31 : K.lookup f31 = some ⟨oc31, od31, .func (PySem.W.fnOf "law" "law" (gp jo) (dR jo) (ah jo) .none kV31 dc31 pm31 an31 cd31 ct31), sl31⟩) (c31 : PySem.W.codeIn K cd31 "law" = true) (k31 : PySem.W.keepIn K (.ref f31) = true)
    {t0 : Tok} (qg0 : PySem.W.nsIn K mainGlobals "GOALS" = some (some (.int 3 t0)))
    {t1 : Tok} (qg1 : PySem.W.nsIn K mainGlobals "MARK" = some (some (.int 1 t1)))
    {t2 : Tok} (qg2 : PySem.W.nsIn K mainGlobals "WHO" = some (some (.int 0 t2)))
    (qz0 : PySem.W.nsIn K mainGlobals "all" = some none)
    (qz1 : PySem.W.nsIn K mainGlobals "bool" = some none)
    (qz2 : PySem.W.nsIn K mainGlobals "enumerate" = some none)
    (qz3 : PySem.W.nsIn K mainGlobals "int" = some none)
    (qz4 : PySem.W.nsIn K mainGlobals "isinstance" = some none)
    (qz5 : PySem.W.nsIn K mainGlobals "len" = some none)
    (qz6 : PySem.W.nsIn K mainGlobals "list" = some none)
    (qz7 : PySem.W.nsIn K mainGlobals "max" = some none)
    (qz8 : PySem.W.nsIn K mainGlobals "min" = some none)
    (qz9 : PySem.W.nsIn K mainGlobals "range" = some none)
    (qz10 : PySem.W.nsIn K mainGlobals "sorted" = some none)
    (qz11 : PySem.W.nsIn K mainGlobals "tuple" = some none)
    (qz12 : PySem.W.nsIn K mainGlobals "zip" = some none)
    {cc0 : Addr} (qm0 : PySem.W.nsIn K mainGlobals "NoMoves" = some (some (.ref cc0))) (qq0 : PySem.W.excIn K cc0 zZ zy = true)
    {cc1 : Addr} (qm1 : PySem.W.nsIn K mainGlobals "NoPart" = some (some (.ref cc1))) (qq1 : PySem.W.excIn K cc1 zZ zy = true)
    {c_Share fi_Share : Addr} {od_Share an_Share : Option Addr} {sl_Share : Array (Option Value)} {oc_Share kV_Share dc_Share pm_Share cd_Share ct_Share : Value}
    (qa_Share : PySem.W.nsIn K mainGlobals "Share" = some (some (.ref c_Share)))
    (qi_Share : PySem.W.findIn K (.ref c_Share) "__init__" = some (some (.ref fi_Share))) (qf_Share : PySem.W.isFn K (.ref fi_Share) = true)
    (ql_Share : K.lookup fi_Share = some ⟨oc_Share, od_Share, .func (PySem.W.fnOf "__init__" "Share.__init__" (gp jV) (dR jV) (ah jV) .none kV_Share dc_Share pm_Share an_Share cd_Share ct_Share), sl_Share⟩)
    (qc_Share : PySem.W.codeIn K cd_Share "Share.__init__" = true) (qk_Share : PySem.W.keepIn K (.ref fi_Share) = true)
    (qpg_Share : PySem.W.plainGet K c_Share Str.empty = true) (qhd_Share : PySem.W.hasDictIn K c_Share = true) (qpo_Share : PySem.W.plainOver K c_Share = true) (qsa_Share : PySem.W.findIn K (.ref c_Share) "__setattr__" = some (some (.builtin "object.__setattr__"))) (qmk_Share : PySem.W.makesIn K c_Share = true) (qkc_Share : PySem.W.keepIn K (.ref c_Share) = true)
    (qn_Share_who : PySem.W.findIn K (.ref c_Share) "who" = some none)
    (qn_Share_places : PySem.W.findIn K (.ref c_Share) "places" = some none)
    (qn_Share_moves : PySem.W.findIn K (.ref c_Share) "moves" = some none)
    (nl : nH K = true) :
    nH K = true ∧ ∃ fd : FuncData, (∀ (s : Shared) (v : Value), BindsTo s fd ⟨[v], []⟩ [("_law_script", v)]) ∧ ∀ base : Heap, K.In base → base.Ns mainGlobals mg → aY l.prog w K mg base (cI l.prog w mg) 33 fa fd ["_law_script"] (di F0 1) := by
  have e := hfa.symm.trans (PySem.W.mg_of X G a31)
  cases e
  have b0 := q0.fn.binds (ps := ["_law_number", "_law_k"]) fun _ _ _ _ _ _ us hl => match us, hl with | [_, _], _ => rfl
  have m0 := PySem.W.mg_of X G q0.ns
  have b1 := q1.fn.binds (ps := ["_law_ground_here", "_law_who", "_law_number", "_law_share"]) fun _ _ _ _ _ _ us hl => match us, hl with | [_, _, _, _], _ => rfl
  have m1 := PySem.W.mg_of X G q1.ns
  have b2 := q2.fn.binds (ps := ["_law_script", "_law_k"]) fun _ _ _ _ _ _ us hl => match us, hl with | [_, _], _ => rfl
  have m2 := PySem.W.mg_of X G q2.ns
  have b3 := q3.fn.binds (ps := ["_law_script", "_law_k"]) fun _ _ _ _ _ _ us hl => match us, hl with | [_, _], _ => rfl
  have m3 := PySem.W.mg_of X G q3.ns
  have b4 := q4.fn.binds (ps := ["_law_number", "_law_count"]) fun _ _ _ _ _ _ us hl => match us, hl with | [_, _], _ => rfl
  have m4 := PySem.W.mg_of X G q4.ns
  have b5 := q5.fn.binds (ps := ["_law_number", "_law_count", "_law_high"]) fun _ _ _ _ _ _ us hl => match us, hl with | [_, _, _], _ => rfl
  have m5 := PySem.W.mg_of X G q5.ns
  have b6 := q6.fn.binds (ps := ["_law_script", "_law_most"]) fun _ _ _ _ _ _ us hl => match us, hl with | [_, _], _ => rfl
  have m6 := PySem.W.mg_of X G q6.ns
  have b7 := q7.fn.binds (ps := ["thing"]) fun _ _ _ _ _ _ us hl => match us, hl with | [_], _ => rfl
  have m7 := PySem.W.mg_of X G q7.ns
  have b8 := q8.fn.binds (ps := ["thing", "low", "high"]) fun _ _ _ _ _ _ us hl => match us, hl with | [_, _, _], _ => rfl
  have m8 := PySem.W.mg_of X G q8.ns
  have b9 := q9.fn.binds (ps := ["thing", "ground"]) fun _ _ _ _ _ _ us hl => match us, hl with | [_, _], _ => rfl
  have m9 := PySem.W.mg_of X G q9.ns
  have b10 := q10.fn.binds (ps := ["thing", "ground"]) fun _ _ _ _ _ _ us hl => match us, hl with | [_, _], _ => rfl
  have m10 := PySem.W.mg_of X G q10.ns
  have b11 := q11.fn.binds (ps := ["ground", "ring"]) fun _ _ _ _ _ _ us hl => match us, hl with | [_, _], _ => rfl
  have m11 := PySem.W.mg_of X G q11.ns
  have b12 := q12.fn.binds (ps := ["thing", "place"]) fun _ _ _ _ _ _ us hl => match us, hl with | [_, _], _ => rfl
  have m12 := PySem.W.mg_of X G q12.ns
  have b13 := q13.fn.binds (ps := ["thing", "ground"]) fun _ _ _ _ _ _ us hl => match us, hl with | [_, _], _ => rfl
  have m13 := PySem.W.mg_of X G q13.ns
  have b14 := q14.fn.binds (ps := ["ground", "zero", "one"]) fun _ _ _ _ _ _ us hl => match us, hl with | [_, _, _], _ => rfl
  have m14 := PySem.W.mg_of X G q14.ns
  have b15 := q15.fn.binds (ps := ["ground", "zero", "one", "start"]) fun _ _ _ _ _ _ us hl => match us, hl with | [_, _, _, _], _ => rfl
  have m15 := PySem.W.mg_of X G q15.ns
  have b16 := q16.fn.binds (ps := ["ground"]) fun _ _ _ _ _ _ us hl => match us, hl with | [_], _ => rfl
  have m16 := PySem.W.mg_of X G q16.ns
  have b17 := q17.fn.binds (ps := ["moves", "places"]) fun _ _ _ _ _ _ us hl => match us, hl with | [_, _], _ => rfl
  have m17 := PySem.W.mg_of X G q17.ns
  have b18 := q18.fn.binds (ps := ["moves", "others"]) fun _ _ _ _ _ _ us hl => match us, hl with | [_, _], _ => rfl
  have m18 := PySem.W.mg_of X G q18.ns
  have b19 := q19.fn.binds (ps := ["ranks"]) fun _ _ _ _ _ _ us hl => match us, hl with | [_], _ => rfl
  have m19 := PySem.W.mg_of X G q19.ns
  have b20 := q20.fn.binds (ps := ["ground", "who", "ranks"]) fun _ _ _ _ _ _ us hl => match us, hl with | [_, _, _], _ => rfl
  have m20 := PySem.W.mg_of X G q20.ns
  have b21 := q21.fn.binds (ps := ["some", "others"]) fun _ _ _ _ _ _ us hl => match us, hl with | [_, _], _ => rfl
  have m21 := PySem.W.mg_of X G q21.ns
  have b22 := q22.fn.binds (ps := ["place", "ways", "who", "ranks"]) fun _ _ _ _ _ _ us hl => match us, hl with | [_, _, _, _], _ => rfl
  have m22 := PySem.W.mg_of X G q22.ns
  have b23 := q23.fn.binds (ps := ["ground", "inside", "who", "goals"]) fun _ _ _ _ _ _ us hl => match us, hl with | [_, _, _, _], _ => rfl
  have m23 := PySem.W.mg_of X G q23.ns
  have b24 := q24.fn.binds (ps := ["ground"]) fun _ _ _ _ _ _ us hl => match us, hl with | [_], _ => rfl
  have m24 := PySem.W.mg_of X G q24.ns
  have b25 := q25.fn.binds (ps := ["ground", "who", "part"]) fun _ _ _ _ _ _ us hl => match us, hl with | [_, _, _], _ => rfl
  have m25 := PySem.W.mg_of X G q25.ns
  have b26 := q26.fn.binds (ps := ["some", "others"]) fun _ _ _ _ _ _ us hl => match us, hl with | [_, _], _ => rfl
  have m26 := PySem.W.mg_of X G q26.ns
  have b27 := q27.fn.binds (ps := ["ground", "inside"]) fun _ _ _ _ _ _ us hl => match us, hl with | [_, _], _ => rfl
  have m27 := PySem.W.mg_of X G q27.ns
  have b28 := q28.fn.binds (ps := ["ground", "shares"]) fun _ _ _ _ _ _ us hl => match us, hl with | [_, _], _ => rfl
  have m28 := PySem.W.mg_of X G q28.ns
  have b29 := q29.fn.binds (ps := ["ground", "inside"]) fun _ _ _ _ _ _ us hl => match us, hl with | [_, _], _ => rfl
  have m29 := PySem.W.mg_of X G q29.ns
  have b30 := q30.fn.binds (ps := ["ground"]) fun _ _ _ _ _ _ us hl => match us, hl with | [_], _ => rfl
  have m30 := PySem.W.mg_of X G q30.ns
  have F31 := uo (st := jo) l31 c31 k31
  have FF_Share := uo (st := jV) ql_Share qc_Share qk_Share
  have bb_Share := FF_Share.binds (ps := ["self", "who", "places", "moves"]) fun _ _ _ _ _ _ us hl => match us, hl with | [_, _, _, _], _ => rfl
  have mm_Share := PySem.W.mg_of X G qa_Share
  have ccl_Share : wl K c_Share := ⟨qpg_Share, qhd_Share, qpo_Share, qsa_Share⟩
  have h0 := PySem.W.mg_of X G qg0
  have h1 := PySem.W.mg_of X G qg1
  have h2 := PySem.W.mg_of X G qg2
  have n0 := PySem.W.mg_of X G qm0
  have n1 := PySem.W.mg_of X G qm1
  have y0 := PySem.W.mg_none_of X G qz0
  have y1 := PySem.W.mg_none_of X G qz1
  have y2 := PySem.W.mg_none_of X G qz2
  have y3 := PySem.W.mg_none_of X G qz3
  have y4 := PySem.W.mg_none_of X G qz4
  have y5 := PySem.W.mg_none_of X G qz5
  have y6 := PySem.W.mg_none_of X G qz6
  have y7 := PySem.W.mg_none_of X G qz7
  have y8 := PySem.W.mg_none_of X G qz8
  have y9 := PySem.W.mg_none_of X G qz9
  have y10 := PySem.W.mg_none_of X G qz10
  have y11 := PySem.W.mg_none_of X G qz11
  have y12 := PySem.W.mg_none_of X G qz12
  refine ⟨nl, PySem.W.fnOf "law" "law" (gp jo) (dR jo) (ah jo) .none kV31 dc31 pm31 an31 cd31 ct31, fun s v => .of_eq rfl, fun base _ _ => ?_⟩
  have QI_Share : aY l.prog w K mg base (cI l.prog w mg) 1 fi_Share _ ["self", "who", "places", "moves"] (DB c_Share ["who", "places", "moves"]) := Ai FF_Share ccl_Share qn_Share_who qn_Share_places qn_Share_moves
  have Q0 : aY l.prog w K mg base (cI l.prog w mg) 1 f0 _ ["_law_number", "_law_k"] (di az 2) := rU (k := 0) (W := q0.fn)
  have Q1 : aY l.prog w K mg base (cI l.prog w mg) 2 f1 _ ["_law_ground_here", "_law_who", "_law_number", "_law_share"] (di cc 4) := qO (k := 1) (W := q1.fn) (C26 := ⟨Q0.mono (by decide), m0, q0.fn.kp, b0⟩) (b_enumerate := y2) (b_len := y5) (b_tuple := y11)
  have Q2 : aY l.prog w K mg base (cI l.prog w mg) 1 f2 _ ["_law_script", "_law_k"] (di cb 2) := pA (k := 0) (W := q2.fn) (b_len := y5)
  have Q3 : aY l.prog w K mg base (cI l.prog w mg) 2 f3 _ ["_law_script", "_law_k"] (di bf 2) := sk (k := 1) (W := q3.fn) (C24 := ⟨Q2.mono (by decide), m2, q2.fn.kp, b2⟩)
  have Q4 : aY l.prog w K mg base (cI l.prog w mg) 2 f4 _ ["_law_number", "_law_count"] (di cM 2) := sh (k := 1) (W := q4.fn) (C26 := ⟨Q0.mono (by decide), m0, q0.fn.kp, b0⟩) (b_int := y3) (b_range := y9) (b_sorted := y10) (b_tuple := y11)
  have Q5 : aY l.prog w K mg base (cI l.prog w mg) 3 f5 _ ["_law_number", "_law_count", "_law_high"] (di cx 3) := rJ (k := 2) (W := q5.fn) (C26 := ⟨Q0.mono (by decide), m0, q0.fn.kp, b0⟩) (C27 := ⟨Q4.mono (by decide), m4, q4.fn.kp, b4⟩)
  have Q6 : aY l.prog w K mg base (cI l.prog w mg) 4 f6 _ ["_law_script", "_law_most"] (di cn 2) := qA (k := 3) (W := q6.fn) (C25 := ⟨Q3.mono (by decide), m3, q3.fn.kp, b3⟩) (C28 := ⟨Q5.mono (by decide), m5, q5.fn.kp, b5⟩) (b_len := y5) (b_max := y7) (b_min := y8) (b_range := y9) (b_tuple := y11)
  have Q7 : aY l.prog w K mg base (cI l.prog w mg) 1 f7 _ ["thing"] (di bU 1) := uA (k := 0) (W := q7.fn) (b_bool := y1) (b_int := y3) (b_isinstance := y4)
  have Q8 : aY l.prog w K mg base (cI l.prog w mg) 2 f8 _ ["thing", "low", "high"] (di cu 3) := qg (k := 1) (W := q8.fn) (C0 := ⟨Q7.mono (by decide), m7, q7.fn.kp, b7⟩)
  have Q9 : aY l.prog w K mg base (cI l.prog w mg) 3 f9 _ ["thing", "ground"] (di aA 2) := jI (k := 2) (W := q9.fn) (C1 := ⟨Q8.mono (by decide), m8, q8.fn.kp, b8⟩) (b_len := y5)
  have Q10 : aY l.prog w K mg base (cI l.prog w mg) 4 f10 _ ["thing", "ground"] (di cU 2) := wS (k := 3) (W := q10.fn) (C4 := ⟨Q9.mono (by decide), m9, q9.fn.kp, b9⟩) (g_GOALS := h0) (b_all := y0) (b_isinstance := y4) (b_len := y5) (b_tuple := y11) (b_zip := y12)
  have Q11 : aY l.prog w K mg base (cI l.prog w mg) 5 f11 _ ["ground", "ring"] (di eu 2) := yJ (k := 4) (W := q11.fn) (C7 := ⟨Q10.mono (by decide), m10, q10.fn.kp, b10⟩) (g_MARK := h1) (b_max := y7) (m_NoPart := n1) (q_NoPart := qq1)
  have Q12 : aY l.prog w K mg base (cI l.prog w mg) 2 f12 _ ["thing", "place"] (di dl 2) := v4 (k := 1) (W := q12.fn) (C0 := ⟨Q7.mono (by decide), m7, q7.fn.kp, b7⟩) (g_GOALS := h0)
  have Q13 : aY l.prog w K mg base (cI l.prog w mg) 3 f13 _ ["thing", "ground"] (di cw 2) := rA (k := 2) (W := q13.fn) (C2 := ⟨Q12.mono (by decide), m12, q12.fn.kp, b12⟩) (b_all := y0) (b_isinstance := y4) (b_len := y5) (b_tuple := y11) (b_zip := y12)
  have Q14 : aY l.prog w K mg base (cI l.prog w mg) 1 f14 _ ["ground", "zero", "one"] (di bq 3) := ln (k := 0) (W := q14.fn) (g_WHO := h2) (b_enumerate := y2) (b_tuple := y11)
  have Q15 : aY l.prog w K mg base (cI l.prog w mg) 4 f15 _ ["ground", "zero", "one", "start"] (di dn 4) := wv (k := 3) (W := q15.fn) (C3 := ⟨Q13.mono (by decide), m13, q13.fn.kp, b13⟩) (C4 := ⟨Q9.mono (by decide), m9, q9.fn.kp, b9⟩) (C5 := ⟨Q14.mono (by decide), m14, q14.fn.kp, b14⟩) (b_tuple := y11) (m_NoMoves := n0) (q_NoMoves := qq0) (m_NoPart := n1) (q_NoPart := qq1)
  have Q16 : aY l.prog w K mg base (cI l.prog w mg) 1 f16 _ ["ground"] (di cq 1) := rg (k := 0) (W := q16.fn) (b_len := y5) (b_range := y9) (b_tuple := y11)
  have Q17 : aY l.prog w K mg base (cI l.prog w mg) 1 f17 _ ["moves", "places"] (di cD 2) := tL (k := 0) (W := q17.fn) (b_enumerate := y2) (b_tuple := y11)
  have Q18 : aY l.prog w K mg base (cI l.prog w mg) 1 f18 _ ["moves", "others"] (di aC 2) := nr (k := 0) (W := q18.fn) (b_tuple := y11) (b_zip := y12)
  have Q19 : aY l.prog w K mg base (cI l.prog w mg) 1 f19 _ ["ranks"] (di bZ 1) := yg (k := 0) (W := q19.fn) (b_enumerate := y2) (b_tuple := y11)
  have Q20 : aY l.prog w K mg base (cI l.prog w mg) 2 f20 _ ["ground", "who", "ranks"] (di aZ 3) := ni (k := 1) (W := q20.fn) (C19 := ⟨Q19.mono (by decide), m19, q19.fn.kp, b19⟩) (g_GOALS := h0) (g_WHO := h2) (b_tuple := y11)
  have Q21 : aY l.prog w K mg base (cI l.prog w mg) 1 f21 _ ["some", "others"] (di ca 2) := yx (k := 0) (W := q21.fn) (b_tuple := y11)
  have Q22 : aY l.prog w K mg base (cI l.prog w mg) 1 f22 _ ["place", "ways", "who", "ranks"] (di bN 4) := sU (k := 0) (W := q22.fn) (g_WHO := h2) (b_len := y5)
  have Q23 : aY l.prog w K mg base (cI l.prog w mg) 2 f23 _ ["ground", "inside", "who", "goals"] (di cj 4) := tF (k := 1) (W := q23.fn) (C10 := ⟨Q21.mono (by decide), m21, q21.fn.kp, b21⟩) (C17 := ⟨Q22.mono (by decide), m22, q22.fn.kp, b22⟩) (g_GOALS := h0) (b_len := y5) (b_list := y6) (b_range := y9) (b_tuple := y11)
  have Q24 : aY l.prog w K mg base (cI l.prog w mg) 1 f24 _ ["ground"] (di bM 1) := uC (k := 0) (W := q24.fn) (b_tuple := y11)
  have Q25 : aY l.prog w K mg base (cI l.prog w mg) 2 f25 _ ["ground", "who", "part"] (di bn 3) := nu (k := 1) (W := q25.fn) (C10 := ⟨Q21.mono (by decide), m21, q21.fn.kp, b21⟩) (C12 := ⟨Q24.mono (by decide), m24, q24.fn.kp, b24⟩) (g_GOALS := h0) (g_WHO := h2) (b_list := y6) (b_tuple := y11)
  have Q26 : aY l.prog w K mg base (cI l.prog w mg) 1 f26 _ ["some", "others"] (di bI 2) := wz (k := 0) (W := q26.fn) (b_tuple := y11)
  have Q28 : aY l.prog w K mg base (cI l.prog w mg) 2 f28 _ ["ground", "shares"] (di (aW c_Share) 2) := ki (k := 1) (W := q28.fn) (C13 := ⟨Q18.mono (by decide), m18, q18.fn.kp, b18⟩) (C12 := ⟨Q24.mono (by decide), m24, q24.fn.kp, b24⟩) (b_tuple := y11) (cl_Share := ccl_Share) (n_Share_moves := qn_Share_moves) (n_Share_places := qn_Share_places) (n_Share_who := qn_Share_who)
  have HH29 : ∀ n, aY l.prog w K mg base (cI l.prog w mg) (2 * n + 3) f29 _ ["ground", "inside"] (di (aG c_Share n) 2) → aY l.prog w K mg base (cI l.prog w mg) (2 * n + 4) f27 _ ["ground", "inside"] (di (aU c_Share n) 2) := fun n ih => mr (k := 2 * n + 3) (W := q27.fn) (C22 := ⟨ih, m29, q29.fn.kp, b29⟩) (C14 := ⟨Q17.mono (by omega), m17, q17.fn.kp, b17⟩) (C13 := ⟨Q18.mono (by omega), m18, q18.fn.kp, b18⟩) (C20 := ⟨Q20.mono (by omega), m20, q20.fn.kp, b20⟩) (C19 := ⟨Q19.mono (by omega), m19, q19.fn.kp, b19⟩) (C18 := ⟨Q23.mono (by omega), m23, q23.fn.kp, b23⟩) (C15 := ⟨Q25.mono (by omega), m25, q25.fn.kp, b25⟩) (C11 := ⟨Q26.mono (by omega), m26, q26.fn.kp, b26⟩) (g_MARK := h1) (b_enumerate := y2) (b_len := y5) (b_max := y7) (cl_Share := ccl_Share) (n_Share_moves := qn_Share_moves) (n_Share_places := qn_Share_places) (n_Share_who := qn_Share_who) (m_Share := mm_Share) (MK_Share := ⟨qmk_Share, qi_Share, qf_Share, qkc_Share⟩) (I_Share := QI_Share) (B_Share := bb_Share) (hk := by omega)
  have Q29 : ∀ n, aY l.prog w K mg base (cI l.prog w mg) (2 * n + 3) f29 _ ["ground", "inside"] (di (aG c_Share n) 2) := fun n => by
    induction n with
    | zero => exact wY
    | succ n ih => exact l6 (k := 2 * n + 4) (W := q29.fn) (C21 := ⟨HH29 n ih, m27, q27.fn.kp, b27⟩) (C16 := ⟨Q28.mono (by omega), m28, q28.fn.kp, b28⟩) (C11 := ⟨Q26.mono (by omega), m26, q26.fn.kp, b26⟩) (b_len := y5) (cl_Share := ccl_Share) (n_Share_places := qn_Share_places)
  have Q29 := Q29 14
  have Q30 : aY l.prog w K mg base (cI l.prog w mg) 32 f30 _ ["ground"] (di (lB c_Share) 1) := DT (k := 31) (W := q30.fn) (C9 := ⟨Q16.mono (by decide), m16, q16.fn.kp, b16⟩) (C22 := ⟨Q29.mono (by decide), m29, q29.fn.kp, b29⟩)
  have Q31 : aY l.prog w K mg base (cI l.prog w mg) 33 fa _ ["_law_script"] (di (vJ c_Share) 1) := DG (k := 32) (W := F31) (C31 := ⟨Q1.mono (by decide), m1, q1.fn.kp, b1⟩) (C26 := ⟨Q0.mono (by decide), m0, q0.fn.kp, b0⟩) (C29 := ⟨Q6.mono (by decide), m6, q6.fn.kp, b6⟩) (C25 := ⟨Q3.mono (by decide), m3, q3.fn.kp, b3⟩) (C8 := ⟨Q11.mono (by decide), m11, q11.fn.kp, b11⟩) (C6 := ⟨Q15.mono (by decide), m15, q15.fn.kp, b15⟩) (C23 := ⟨Q30.mono (by decide), m30, q30.fn.kp, b30⟩) (b_all := y0) (b_len := y5) (b_range := y9) (b_tuple := y11) (b_zip := y12)
  exact Q31.imp Ef
end G
open PySem PySem.W PyProof.Rows
set_option maxRecDepth 100000 in
set_option maxHeartbeats 0 in
theorem PySem.Challenge.cw_duelground_k51_whole_plays_holds : PySem.Challenge.rw_duelground_k51_whole_plays.Holds := by
  w_on; o_law; k_head; (case hw => w_witness2)
  k_fill
  refine D2.E3 (l := PySem.Challenge.rw_duelground_k51_whole_plays) (k := 33) (x := "_law_script") (F := G.F0) rfl rfl ⟨rfl, by decide, by decide⟩ (fun w h Y => PySem.W.kIn_of Y) G.vt ?F
  case F =>
    intro w mg fa h KX GG hmg
    refine' G.CK KX GG hmg ?q0 ?q1 ?q2 ?q3 ?q4 ?q5 ?q6 ?q7 ?q8 ?q9 ?q10 ?q11 ?q12 ?q13 ?q14 ?q15 ?q16 ?q17 ?q18 ?q19 ?q20 ?q21 ?q22 ?q23 ?q24 ?q25 ?q26 ?q27 ?q28 ?q29 ?q30 ?a31 ?l31 ?c31 ?k31 ?qg0 ?qg1 ?qg2 ?qz0 ?qz1 ?qz2 ?qz3 ?qz4 ?qz5 ?qz6 ?qz7 ?qz8 ?qz9 ?qz10 ?qz11 ?qz12 ?qm0 ?qq0 ?qm1 ?qq1 ?qa_Share ?qi_Share ?qf_Share ?ql_Share ?qc_Share ?qk_Share ?qpg_Share ?qhd_Share ?qpo_Share ?qsa_Share ?qmk_Share ?qkc_Share ?qn_Share_who ?qn_Share_places ?qn_Share_moves ?nl
    (case q0 => refine' D2.aV ?a ?l ?c ?k; (case a => k_is); (case l => k_is); (case c => k_is); (case k => k_is))
    (case q1 => refine' D2.aV ?a ?l ?c ?k; (case a => k_is); (case l => k_is); (case c => k_is); (case k => k_is))
    (case q2 => refine' D2.aV ?a ?l ?c ?k; (case a => k_is); (case l => k_is); (case c => k_is); (case k => k_is))
    (case q3 => refine' D2.aV ?a ?l ?c ?k; (case a => k_is); (case l => k_is); (case c => k_is); (case k => k_is))
    (case q4 => refine' D2.aV ?a ?l ?c ?k; (case a => k_is); (case l => k_is); (case c => k_is); (case k => k_is))
    (case q5 => refine' D2.aV ?a ?l ?c ?k; (case a => k_is); (case l => k_is); (case c => k_is); (case k => k_is))
    (case q6 => refine' D2.aV ?a ?l ?c ?k; (case a => k_is); (case l => k_is); (case c => k_is); (case k => k_is))
    (case q7 => refine' D2.aV ?a ?l ?c ?k; (case a => k_is); (case l => k_is); (case c => k_is); (case k => k_is))
    (case q8 => refine' D2.aV ?a ?l ?c ?k; (case a => k_is); (case l => k_is); (case c => k_is); (case k => k_is))
    (case q9 => refine' D2.aV ?a ?l ?c ?k; (case a => k_is); (case l => k_is); (case c => k_is); (case k => k_is))
    (case q10 => refine' D2.aV ?a ?l ?c ?k; (case a => k_is); (case l => k_is); (case c => k_is); (case k => k_is))
    (case q11 => refine' D2.aV ?a ?l ?c ?k; (case a => k_is); (case l => k_is); (case c => k_is); (case k => k_is))
    (case q12 => refine' D2.aV ?a ?l ?c ?k; (case a => k_is); (case l => k_is); (case c => k_is); (case k => k_is))
    (case q13 => refine' D2.aV ?a ?l ?c ?k; (case a => k_is); (case l => k_is); (case c => k_is); (case k => k_is))
    (case q14 => refine' D2.aV ?a ?l ?c ?k; (case a => k_is); (case l => k_is); (case c => k_is); (case k => k_is))
    (case q15 => refine' D2.aV ?a ?l ?c ?k; (case a => k_is); (case l => k_is); (case c => k_is); (case k => k_is))
    (case q16 => refine' D2.aV ?a ?l ?c ?k; (case a => k_is); (case l => k_is); (case c => k_is); (case k => k_is))
    (case q17 => refine' D2.aV ?a ?l ?c ?k; (case a => k_is); (case l => k_is); (case c => k_is); (case k => k_is))
    (case q18 => refine' D2.aV ?a ?l ?c ?k; (case a => k_is); (case l => k_is); (case c => k_is); (case k => k_is))
    (case q19 => refine' D2.aV ?a ?l ?c ?k; (case a => k_is); (case l => k_is); (case c => k_is); (case k => k_is))
    (case q20 => refine' D2.aV ?a ?l ?c ?k; (case a => k_is); (case l => k_is); (case c => k_is); (case k => k_is))
    (case q21 => refine' D2.aV ?a ?l ?c ?k; (case a => k_is); (case l => k_is); (case c => k_is); (case k => k_is))
    (case q22 => refine' D2.aV ?a ?l ?c ?k; (case a => k_is); (case l => k_is); (case c => k_is); (case k => k_is))
    (case q23 => refine' D2.aV ?a ?l ?c ?k; (case a => k_is); (case l => k_is); (case c => k_is); (case k => k_is))
    (case q24 => refine' D2.aV ?a ?l ?c ?k; (case a => k_is); (case l => k_is); (case c => k_is); (case k => k_is))
    (case q25 => refine' D2.aV ?a ?l ?c ?k; (case a => k_is); (case l => k_is); (case c => k_is); (case k => k_is))
    (case q26 => refine' D2.aV ?a ?l ?c ?k; (case a => k_is); (case l => k_is); (case c => k_is); (case k => k_is))
    (case q27 => refine' D2.aV ?a ?l ?c ?k; (case a => k_is); (case l => k_is); (case c => k_is); (case k => k_is))
    (case q28 => refine' D2.aV ?a ?l ?c ?k; (case a => k_is); (case l => k_is); (case c => k_is); (case k => k_is))
    (case q29 => refine' D2.aV ?a ?l ?c ?k; (case a => k_is); (case l => k_is); (case c => k_is); (case k => k_is))
    (case q30 => refine' D2.aV ?a ?l ?c ?k; (case a => k_is); (case l => k_is); (case c => k_is); (case k => k_is))
    (case a31 => k_is)
    (case l31 => k_is)
    (case c31 => k_is)
    (case k31 => k_is)
    (case qg0 => k_is)
    (case qg1 => k_is)
    (case qg2 => k_is)
    (case qz0 => k_is)
    (case qz1 => k_is)
    (case qz2 => k_is)
    (case qz3 => k_is)
    (case qz4 => k_is)
    (case qz5 => k_is)
    (case qz6 => k_is)
    (case qz7 => k_is)
    (case qz8 => k_is)
    (case qz9 => k_is)
    (case qz10 => k_is)
    (case qz11 => k_is)
    (case qz12 => k_is)
    (case qm0 => k_is)
    (case qq0 => k_exc)
    (case qm1 => k_is)
    (case qq1 => k_exc)
    (case qa_Share => k_is)
    (case qi_Share => k_is)
    (case qf_Share => k_is)
    (case ql_Share => k_is)
    (case qc_Share => k_is)
    (case qk_Share => k_is)
    (case qpg_Share => k_is)
    (case qhd_Share => k_is)
    (case qpo_Share => k_is)
    (case qsa_Share => k_is)
    (case qmk_Share => k_is)
    (case qkc_Share => k_is)
    (case qn_Share_who => k_is)
    (case qn_Share_places => k_is)
    (case qn_Share_moves => k_is)
    (case nl => first | rfl | k_is | decide)

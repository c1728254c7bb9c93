import PyProof.Rows.All
import Wide.All
import OpenK.AllK
import Wide.FinOn
import Lean
import PyProof.EqAt
import PyProof.EqKinds
import PyProof.TupleCall
import PySem.Challenge.RW_duelground_k20_whole_again
set_option Elab.async false
set_option linter.all false
set_option maxRecDepth 100000
namespace L2
open PySem PySem.Spec PyProof.Rows
abbrev cV := Sum Int Str
def mZ : cV → Value → Bool
  | .inl k, v => Value.isInt k v
  | .inr x, v => Value.isStrOf x v
def Ea (w : World) : cV → Int
  | .inl k => hashInt k
  | .inr x => hashStr w x
theorem cs : ∀ {k : cV} {v : Value}, mZ k v = true → (∃ i t, k = Sum.inl i ∧ v = Value.int i t) ∨ (∃ x t, k = Sum.inr x ∧ v = Value.str x t)
  | .inl i, v, h => by
    obtain ⟨t, e⟩ := Value.isInt_shape (k := i) (v := v) h
    exact .inl ⟨i, t, rfl, e⟩
  | .inr x, v, h => by
    obtain ⟨t, e⟩ := Value.isStrOf_shape (x := x) (v := v) h
    exact .inr ⟨x, t, rfl, e⟩
theorem vw (i : Int) (t : Tok) : mZ (.inl i) (.int i t) = true := by simp [mZ, Value.isInt]
theorem wq (x : Str) (t : Tok) : mZ (.inr x) (.str x t) = true := by simp [mZ, Value.isStrOf]
theorem AW (a b : Int) : decide ((Sum.inl a : cV) = Sum.inl b) = (a == b) := by
  by_cases e : a = b
  · subst e; simp
  · have h : ¬ (Sum.inl a : cV) = Sum.inl b := fun q => e (Sum.inl.inj q)
    rw [decide_eq_false h]
    exact (beq_eq_false_iff_ne.mpr e).symm
theorem Bf (a b : Str) : decide ((Sum.inr a : cV) = Sum.inr b) = decide (a = b) := by
  by_cases e : a = b
  · subst e; simp
  · have h : ¬ (Sum.inr a : cV) = Sum.inr b := fun q => e (Sum.inr.inj q)
    rw [decide_eq_false h, decide_eq_false e]
theorem Bo (a : Int) (b : Str) : decide ((Sum.inl a : cV) = Sum.inr b) = false := decide_eq_false (fun q => nomatch q)
theorem AL (a : Str) (b : Int) : decide ((Sum.inr a : cV) = Sum.inl b) = false := decide_eq_false (fun q => nomatch q)
def df (prog : Program) (w : World) : PySem.KeyKind prog w cV where
  is := mZ
  hash := Ea w
  inj := fun v a b ha hb => by
    rcases cs ha with ⟨i, t, rfl, rfl⟩ | ⟨x, t, rfl, rfl⟩
    · rcases cs hb with ⟨j, u, rfl, e⟩ | ⟨y, u, rfl, e⟩
      · injection e with e1 _; rw [e1]
      · exact nomatch e
    · rcases cs hb with ⟨j, u, rfl, e⟩ | ⟨y, u, rfl, e⟩
      · exact nomatch e
      · injection e with e1 _; rw [e1]
  byValue := fun k v h => by
    rcases cs h with ⟨i, t, rfl, rfl⟩ | ⟨x, t, rfl, rfl⟩ <;> rfl
  pyHash := fun hv h => by
    rcases cs hv with ⟨i, t, rfl, rfl⟩ | ⟨x, t, rfl, rfl⟩
    · exact wpAny_pyHash_int h
    · exact wpAny_pyHash_str h
  eqBool := fun hu hv h => by
    rcases cs hu with ⟨i, t, rfl, rfl⟩ | ⟨x, t, rfl, rfl⟩
    · rcases cs hv with ⟨j, u, rfl, rfl⟩ | ⟨y, u, rfl, rfl⟩
      · rw [AW] at h; exact wpAny_eqBool_int h
      · rw [Bo] at h; exact SeqAt.EqAt.int_str i t y u _ _ _ _ h
    · rcases cs hv with ⟨j, u, rfl, rfl⟩ | ⟨y, u, rfl, rfl⟩
      · rw [AL] at h; exact SeqAt.EqAt.str_int x t j u _ _ _ _ h
      · rw [Bf] at h; exact wpAny_eqBool_str h
  «strs» := fun k x t v h => by
    rcases cs h with ⟨i, u, rfl, e⟩ | ⟨y, u, rfl, e⟩
    · exact nomatch e
    · injection e with e1 _
      subst e1
      cases v <;> rfl
theorem rz (prog : Program) (w : World) (i : Int) (t : Tok) : (df prog w).is (.inl i) (.int i t) = true := vw i t
theorem rg (prog : Program) (w : World) (x : Str) (t : Tok) : (df prog w).is (.inr x) (.str x t) = true := wq x t
inductive V where
  | non | bl (b : Bool) | int (i : Int) | str (x : Str) | byt (b : Array UInt8) | flt (b : UInt64) | ref (a : Addr) | ty (n : String)
  deriving DecidableEq
def bf : V → Value → Prop
  | .non, u => u = Value.none
  | .bl b, u => u = Value.bool b
  | .int i, u => ∃ t, u = Value.int i t
  | .str x, u => ∃ t, u = Value.str x t
  | .byt b, u => ∃ t, u = Value.bytes b t
  | .flt b, u => ∃ t, u = Value.float b t
  | .ref a, u => u = Value.ref a
  | .ty n, u => u = Value.type n
abbrev bh : List V → List Value → Prop := Paired bf
theorem bh.length {xs : List V} {us : List Value} (r : bh xs us) : xs.length = us.length := Paired.length r
theorem bh.get : ∀ {xs : List V} {us : List Value} {i : Nat} {x : V}, bh xs us → xs[i]? = some x → ∃ u, us[i]? = some u ∧ bf x u
  | _, _, _, _, .nil, e => by simp at e
  | _, _, 0, _, .cons r _, e => by simp at e; subst e; exact ⟨_, rfl, r⟩
  | _, _, i + 1, x, .cons _ t, e => by
    obtain ⟨u, h1, h2⟩ := bh.get (i := i) (x := x) t (by simpa using e)
    exact ⟨u, by simpa using h1, h2⟩
theorem bh.set {x : V} {u : Value} (r : bf x u) : ∀ {xs : List V} {us : List Value} (i : Nat), bh xs us → bh (xs.set i x) (us.set i u)
  | _, _, _, .nil => .nil
  | _, _, 0, .cons _ t => .cons r t
  | _, _, i + 1, .cons q t => .cons q (bh.set r i t)
theorem bh.append : ∀ {xs ys : List V} {us ws : List Value}, bh xs us → bh ys ws → bh (xs ++ ys) (us ++ ws)
  | _, _, _, _, .nil, s => s
  | _, _, _, _, .cons r t, s => .cons r (bh.append t s)
theorem bh.take : ∀ {xs : List V} {us : List Value} (n : Nat), bh xs us → bh (xs.take n) (us.take n)
  | _, _, 0, _ => .nil
  | _, _, _ + 1, .nil => .nil
  | _, _, n + 1, .cons r t => .cons r (bh.take n t)
theorem bh.drop : ∀ {xs : List V} {us : List Value} (n : Nat), bh xs us → bh (xs.drop n) (us.drop n)
  | _, _, 0, r => r
  | _, _, _ + 1, .nil => .nil
  | _, _, n + 1, .cons _ t => bh.drop n t
def lr : Option V → Option Value → Prop
  | some v, some u => bf v u
  | none, none => True
  | _, _ => False
def KV {κ : Type} : List (κ × V) → List (κ × Value) → Prop := Paired fun (p : κ × V) (q : κ × Value) => p.1 = q.1 ∧ bf p.2 q.2
def kV : cV → V
  | .inl i => .int i
  | .inr x => .str x
inductive HO where
  /-- a list -/
  | lst (xs : List V)
  /-- a tuple (never changes) -/
  | tup (xs : List V)
  /-- a dict whose keys are ints and texts; one whose keys are tuples of ints and texts (the empty one is both) -/
  | dK (kvs : List (cV × V)) | dT (kvs : List (List cV × V))
  /-- a set of ints: its members, its size -/
  | set (S : Int → Bool) (n : Nat)
  /-- an instance of the class at C, its dict at dx, its attributes -/
  | ins (C dx : Addr) (fs : List (Str × V))
  /-- the dict of the instance at x -/
  | own (x : Addr)
  /-- the dict of an exception -/
  | xd (fs : List (Str × V))
  /-- a bound method, f of x -/
  | met (f x : Addr)
  /-- a range object lo, lo + 1, .. below hi -/
  | rng (lo hi : Int)
  /-- a thing that is known to the object (the script; a dict while a loop walks it): read, never written while it is so -/
  | frz (o : Obj) (u : HO)
  /-- a code object's table -/
  | tbl (ps : Array Value)
  /-- any other thing, by what is true of its one object (a def of one's own: SetO a S n := HO.ext fun h => ..) -/
  | ext (φ : Heap → Prop)
abbrev Hp := Addr → Option HO
def ci (H : Hp) (a : Addr) (o : HO) : Hp := fun b => if b = a then some o else H b
theorem aX {H : Hp} {a : Addr} {o : HO} : ci H a o a = some o := by unfold ci; rw [if_pos rfl]
theorem ar {H : Hp} {a b : Addr} {o : HO} (h : b ≠ a) : ci H a o b = H b := by unfold ci; rw [if_neg h]
theorem Dc {H : Hp} {a b : Addr} {o u : HO} (h : H a = some o) (h' : H b = some u) (d : o ≠ u) : a ≠ b := by
  intro e; subst e; rw [h] at h'; exact d (Option.some.inj h')
theorem aS {H : Hp} {a b : Addr} {o : HO} (h : H a = some o) (h' : H b = none) : a ≠ b := by
  intro e; subst e; rw [h] at h'; cases h'
section
variable (P : Program) (w : World)
def bI (H : Hp) (h : Heap) (a : Addr) : HO → Prop
  | .lst xs => xs.length ≤ sizeLine ∧ ∃ (its : List Value) (n : Nat), bh xs its ∧ h.get? a = some { cls := .type "list", data := .seq its.toArray n }
  | .tup xs => xs.length ≤ sizeLine ∧ ∃ its : List Value, bh xs its ∧ IsTup h a its.toArray
  | .dK kvs => kvs.length ≤ sizeLine ∧ (a == sysModules) = false ∧ ∃ vs, KV kvs vs ∧ h.DictOf (df P w) a vs
  | .dT kvs => kvs.length ≤ sizeLine ∧ (a == sysModules) = false ∧ ∃ xs : List (List cV × Addr × Value),
      Paired (fun (p : List cV × V) (q : List cV × Addr × Value) => p.1 = q.1 ∧ H q.2.1 = some (.tup (p.1.map kV)) ∧ bf p.2 q.2.2) kvs xs ∧
      ∃ o es ep, h.get? a = some o ∧ o.ExactDict ∧ o.data = .dict es ep ∧ es.toList = xs.map (entryOfKey (tupleKind (df P w))) ∧ (xs.map (·.1)).Nodup
  | .set S n => h.SetOf (intKind P w) a S n
  | .ins C dx fs => H dx = some (.own a) ∧ fs.length ≤ 1000 ∧ dx ≠ a ∧ h.get? a = some (PySem.W.instObj C dx) ∧
      ∃ mA, h.Ns1 dx mA ∧ (∀ f, lr (fs.lookup f) (mA f)) ∧ PySem.Within mA (fs.map (·.1))
  | .own _ => ∃ o, h.get? a = some o
  | .xd fs => ∃ mA, h.Ns1 a mA ∧ ∀ f, lr (fs.lookup f) (mA f)
  | .rng lo hi => ∃ t u v, h.get? a = some { cls := .type "range", data := .fields #[.int lo t, .int hi u, .int 1 v] }
  | .frz o u => h.get? a = some o ∧ bI H h a u
  | .tbl ps => h.get? a = some { cls := .none, data := .fields ps }
  | .met f x => h.get? a = some (PySem.W.methodObj (.ref f) (.ref x))
  | .ext φ => φ h ∧ (∃ o, h.get? a = some o) ∧ ∀ h1 h2 : Heap, φ h1 → (∀ o, h1.get? a = some o → h2.get? a = some o) → φ h2
def iX (H : Hp) (h : Heap) : Prop := ∀ a o, H a = some o → bI P w H h a o
end
section
variable {P : Program} {w : World} {H H' : Hp} {h h' : Heap} {a : Addr} {o : HO}
theorem bI.lt (x : bI P w H h a o) : a < h.objs.size := by
  cases o with
  | lst xs => obtain ⟨_, _, _, _, e⟩ := x; exact Heap.lt_size e
  | tup xs => obtain ⟨_, _, _, p⟩ := x; exact p.lt
  | dK kvs => obtain ⟨_, _, _, _, o, _, _, e, _⟩ := x; exact Heap.lt_size e
  | dT kvs => obtain ⟨_, _, _, _, o, _, _, e, _⟩ := x; exact Heap.lt_size e
  | set S n => obtain ⟨o, _, _, _, e, _⟩ := x; exact Heap.lt_size e
  | ins C dx fs => obtain ⟨_, _, _, e, _⟩ := x; exact Heap.lt_size e
  | own y => obtain ⟨_, e⟩ := x; exact Heap.lt_size e
  | xd fs => obtain ⟨_, ⟨_, _, _, e, _⟩, _⟩ := x; exact Heap.lt_size e
  | rng lo hi => obtain ⟨_, _, _, e⟩ := x; exact Heap.lt_size e
  | frz ob u => obtain ⟨e, _⟩ := x; exact Heap.lt_size e
  | tbl ps => exact Heap.lt_size (show h.get? a = some _ from x)
  | met f y => exact Heap.lt_size (show h.get? a = some _ from x)
  | ext φ => obtain ⟨_, ⟨_, e⟩, _⟩ := x; exact Heap.lt_size e
theorem Paired.mapP {α β : Type} {F G : α → β → Prop} : ∀ {l₁ : List α} {l₂ : List β}, Paired F l₁ l₂ → (∀ a b, F a b → G a b) → Paired G l₁ l₂
  | _, _, .nil, _ => .nil
  | _, _, .cons r t, f => .cons (f _ _ r) (Paired.mapP t f)
theorem bI.stay (x : bI P w H h a o) (k : ∀ b u, (b = a ∨ H b = some (.own a)) → h.get? b = some u → h'.get? b = some u)
    (ho : ∀ b, H b = some (.own a) → H' b = some (.own a)) (ht : ∀ b xs, H b = some (.tup xs) → H' b = some (.tup xs)) : bI P w H' h' a o := by
  induction o with
  | lst xs => obtain ⟨z, its, n, r, e⟩ := x; exact ⟨z, its, n, r, k _ _ (.inl rfl) e⟩
  | tup xs => obtain ⟨z, its, r, ob, e, c⟩ := x; exact ⟨z, its, r, ob, k _ _ (.inl rfl) e, c⟩
  | dK kvs => obtain ⟨z, y, vs, r, ob, es, ep, e, c⟩ := x; exact ⟨z, y, vs, r, ob, es, ep, k _ _ (.inl rfl) e, c⟩
  | dT kvs =>
    obtain ⟨z, y, xs, r, ob, es, ep, e, c⟩ := x
    exact ⟨z, y, xs, Paired.mapP r fun p q z => ⟨z.1, ht _ _ z.2.1, z.2.2⟩, ob, es, ep, k _ _ (.inl rfl) e, c⟩
  | set S n => obtain ⟨ob, es, ep, t, e, c⟩ := x; exact ⟨ob, es, ep, t, k _ _ (.inl rfl) e, c⟩
  | ins C dx fs =>
    obtain ⟨d, z, ne, e, mA, ⟨od, es, ep, e2, c⟩, r⟩ := x
    exact ⟨ho _ d, z, ne, k _ _ (.inl rfl) e, mA, ⟨od, es, ep, k _ _ (.inr d) e2, c⟩, r⟩
  | own y => obtain ⟨ob, e⟩ := x; exact ⟨ob, k _ _ (.inl rfl) e⟩
  | xd fs => obtain ⟨mA, ⟨od, es, ep, e, c⟩, r⟩ := x; exact ⟨mA, ⟨od, es, ep, k _ _ (.inl rfl) e, c⟩, r⟩
  | rng lo hi => obtain ⟨t, u, v, e⟩ := x; exact ⟨t, u, v, k _ _ (.inl rfl) e⟩
  | frz ob u ih => obtain ⟨e, q⟩ := x; exact ⟨k _ _ (.inl rfl) e, ih q⟩
  | tbl ps =>
    have e : h.get? a = some { cls := .none, data := .fields ps } := x
    show h'.get? a = some { cls := .none, data := .fields ps }
    exact k a _ (.inl rfl) e
  | met f y =>
    have e : h.get? a = some (PySem.W.methodObj (.ref f) (.ref y)) := x
    show h'.get? a = some (PySem.W.methodObj (.ref f) (.ref y))
    exact k a _ (.inl rfl) e
  | ext φ => obtain ⟨p, ⟨o, e⟩, st⟩ := x; exact ⟨st _ _ p fun o q => k _ _ (.inl rfl) q, ⟨o, k _ _ (.inl rfl) e⟩, st⟩
theorem iX.lt (x : iX P w H h) (e : H a = some o) : a < h.objs.size := (x a o e).lt
theorem iX.fresh (x : iX P w H h) (e : h.objs.size ≤ a) : H a = none := by
  cases q : H a with
  | none => rfl
  | some u => exact absurd (Nat.lt_of_lt_of_le (x.lt q) e) (Nat.lt_irrefl _)
theorem iX.kept (x : iX P w H h) (k : ∀ b u, h.get? b = some u → h'.get? b = some u) : iX P w H h' := fun a o e =>
  (x a o e).stay (fun b u _ q => k b u q) (fun _ q => q) fun _ _ q => q
theorem iX.laid (x : iX P w H h) (k : ∀ b u, h.get? b = some u → h'.get? b = some u) (hp : h.objs.size ≤ a) (new : bI P w (ci H a o) h' a o) : iX P w (ci H a o) h' := fun b u e => by
  have hn := x.fresh hp
  by_cases hb : b = a
  · subst hb; rw [aX] at e; cases e; exact new
  · rw [ar hb] at e
    exact (x b u e).stay (fun c v _ q => k c v q) (fun c q => by rw [ar (aS q hn)]; exact q) fun c xs q => by rw [ar (aS q hn)]; exact q
end
def Rd (H : Hp) (a : Addr) (u : HO) : Prop := H a = some u ∨ ∃ o, H a = some (.frz o u)
theorem Rd.ok {P : Program} {w : World} {H : Hp} {h : Heap} {a : Addr} {u : HO} (r : Rd H a u) (x : iX P w H h) : bI P w H h a u := by
  rcases r with r | ⟨o, r⟩
  · exact x a u r
  · obtain ⟨_, q⟩ := x a _ r
    exact q
def CW : Option HO → Prop
  | some (.lst _) => True
  | some (.dK _) => True
  | some (.dT _) => True
  | some (.set _ _) => True
  | some (.ins _ _ _) => True
  | some (.ext _) => True
  | _ => False
section
variable {P : Program} {w : World} {H : Hp} {h h' : Heap} {x e : Addr} {o' : HO}
theorem iX.write (ok : iX P w H h) (mu : CW (H x)) (he : e = x ∨ H e = some (.own x)) (k : ∀ b u, b ≠ e → h.get? b = some u → h'.get? b = some u) (heo : ∃ u, h'.get? e = some u)
    (new : bI P w (ci H x o') h' x o') : iX P w (ci H x o') h' := fun b u q => by
  have nown : ∀ c y, H c = some (.own y) → c ≠ x := fun c y r z => by subst z; rw [r] at mu; exact mu
  have ntup : ∀ c xs, H c = some (.tup xs) → c ≠ x := fun c xs r z => by subst z; rw [r] at mu; exact mu
  by_cases hb : b = x
  · subst hb; rw [aX] at q; cases q; exact new
  · rw [ar hb] at q
    by_cases hbe : b = e
    · have q' : H b = some (.own x) := by
        rcases he with z | z
        · exact absurd (hbe.trans z) hb
        · rw [hbe]; exact z
      rw [q] at q'; cases q'
      obtain ⟨v, hv⟩ := heo
      exact ⟨v, by rw [hbe]; exact hv⟩
    · refine (ok b u q).stay (fun c v hc r => k c v ?_ r) (fun c r => by rw [ar (nown c b r)]; exact r) fun c xs r => by rw [ar (ntup c xs r)]; exact r
      rcases hc with rfl | hc
      · exact hbe
      · rintro rfl
        rcases he with z | z
        · exact nown c b hc z
        · rw [hc] at z; cases z; exact hb rfl
end
structure Un (fs ex : List Addr) (H H' : Hp) (h h' : Heap) : Prop where
  keep : ∀ b o, h.get? b = some o → H b = none → b ∉ fs → b ∉ ex → h'.get? b = some o
  slot : ∀ b o, h.get? b = some o → H b = none → b ∈ fs → b ∉ ex → ∃ sl, h'.get? b = some { o with slots := sl }
  free : ∀ b o, h.get? b = some o → H b = none → b ∉ ex → H' b = none
  there : ∀ b o, h.get? b = some o → b ∉ ex → ∃ o', h'.get? b = some o'
  tups : ∀ b xs, H b = some (.tup xs) → H' b = some (.tup xs)
  frzs : ∀ b o u, H b = some (.frz o u) → H' b = some (.frz o u)
  tbls : ∀ b ps, H b = some (.tbl ps) → ∃ more, H' b = some (.tbl (ps ++ more))
section
variable {fs fs' ex ex' : List Addr} {H H1 H2 : Hp} {h h1 h2 h' : Heap} {a x e : Addr} {o : HO}
theorem Un.any (u : Un fs ex H H1 h h1) {b : Addr} {ob : Obj} (q : h.get? b = some ob) (n : H b = none) (hx : b ∉ ex) : ∃ sl, h1.get? b = some { ob with slots := sl } := by
  by_cases hb : b ∈ fs
  · exact u.slot b ob q n hb hx
  · exact ⟨ob.slots, u.keep b ob q n hb hx⟩
theorem Un.kept (k : ∀ b u, h.get? b = some u → h'.get? b = some u) : Un fs ex H H h h' :=
  ⟨fun b ob q _ _ _ => k b ob q, fun b ob q _ _ _ => ⟨ob.slots, k b ob q⟩, fun _ _ _ n _ => n, fun b ob q _ => ⟨ob, k b ob q⟩, fun _ _ q => q, fun _ _ _ q => q, fun _ ps q => ⟨#[], by rw [q]; simp⟩⟩
theorem Un.refl : Un fs ex H H h h := Un.kept fun _ _ q => q
theorem Un.laid (k : ∀ b u, h.get? b = some u → h'.get? b = some u) (hp : h.objs.size ≤ a) (hn : H a = none) : Un fs ex H (ci H a o) h h' where
  keep := fun b u q _ _ _ => k b u q
  slot := fun b u q _ _ _ => ⟨u.slots, k b u q⟩
  free := fun b u q n _ => by rw [ar (Nat.ne_of_lt (Nat.lt_of_lt_of_le (Heap.lt_size q) hp))]; exact n
  there := fun b u q _ => ⟨u, k b u q⟩
  tups := fun b xs q => by rw [ar (aS q hn)]; exact q
  frzs := fun b u xs q => by rw [ar (aS q hn)]; exact q
  tbls := fun b ps q => ⟨#[], by rw [ar (aS q hn), q]; simp⟩
theorem Un.write (mu : CW (H x)) (he : e = x ∨ H e = some (.own x)) (k : ∀ b u, b ≠ e → h.get? b = some u → h'.get? b = some u) (heo : ∃ u, h'.get? e = some u) : Un fs ex H (ci H x o) h h' := by
  have hx : ∀ b, H b = none → b ≠ x := fun b n z => by subst z; rw [n] at mu; exact mu
  have hb : ∀ b, H b = none → b ≠ e := fun b n z => by
    subst z
    rcases he with r | r
    · exact hx b n r
    · rw [n] at r; cases r
  have hm : ∀ b u, H b = some u → ¬ CW (some u) → b ≠ x := fun b u q nm z => by subst z; rw [q] at mu; exact nm mu
  refine ⟨fun b u q n _ _ => k b u (hb b n) q, fun b u q n _ _ => ⟨u.slots, k b u (hb b n) q⟩, fun b u q n _ => by rw [ar (hx b n)]; exact n, fun b u q _ => ?_,
    fun b xs q => by rw [ar (hm b _ q fun z => z)]; exact q, fun b u xs q => by rw [ar (hm b _ q fun z => z)]; exact q, fun b ps q => ⟨#[], by rw [ar (hm b _ q fun z => z), q]; simp⟩⟩
  by_cases hbe : b = e
  · subst hbe; exact heo
  · exact ⟨u, k b u hbe q⟩
end
def Dv (h : Heap) (H : Hp) : List Addr := (List.range h.objs.size).filter fun a => (H a).isSome
def pD (h : Heap) (H : Hp) : Heap := PySem.W.hideAll h (Dv h H)
theorem vV (h : Heap) (H : Hp) : (pD h H).objs.size = h.objs.size := PySem.W.hideAll_size _ _
theorem w8 {h : Heap} {H : Hp} {b : Addr} {o : Obj} (e : h.get? b = some o) (n : H b = none) : (pD h H).get? b = some o :=
  PySem.W.hideAll_get _ e fun hm => by
    have q : (H b).isSome = true := (List.mem_filter.mp hm).2
    rw [n] at q; simp at q
theorem zC {h : Heap} {H : Hp} {b : Addr} {o : Obj} (e : (pD h H).get? b = some o) : h.get? b = some o ∧ H b = none := by
  have e' : h.get? b = some o := PySem.W.of_hideAll (Dv h H) e
  refine ⟨e', ?_⟩
  cases q : H b with
  | none => rfl
  | some x =>
    have hm : b ∈ Dv h H := List.mem_filter.mpr ⟨List.mem_range.mpr (Heap.lt_size e'), by simp [q]⟩
    have z : (pD h H).get? b = none := PySem.W.hideAll_none (Dv h H) hm
    rw [z] at e; cases e
def yW (g h : Heap) (L : Addr) : List (Addr × Obj) := (List.range h.objs.size).filterMap fun a => if a = L ∨ (g.get? a).isSome = true then none else (h.get? a).map fun o => (a, o)
def rest (g h : Heap) (L d : Addr) : List (Addr × Obj) := (yW g h L).filter fun p => decide (p.1 ≠ d)
structure Mod (K : PySem.W.Frag) (mg : Str → Option Value) (base : Heap) : Prop where
  kin : K.In base
  glob : base.Ns mainGlobals mg
  blt : ∃ mb, base.Ns builtinsNs mb ∧ ∀ x : Str, x ≠ "__name__" → mb x = bootBuiltins x
  nolimit : base.NoLimit
structure Cx where
  prog : Program
  w : World
  K : PySem.W.Frag
  mg : Str → Option Value
  base : Heap
  A : Around
  N : List Str
  s₀ : Shared
  H₀ : Hp
  env : Env
  outer : List Env
  stack : List Env
  ex : List Addr
  fn : Str → Bool
  calm : Bool
  pn : List (Addr × Obj)
  xe : Value → Shared → Prop
def md (l : List Env) : List Addr := l.filterMap (·.frame)
abbrev Cx.fs (X : Cx) : List Addr := md X.outer
def BP (sc : Scope) (x : Str) : Prop := sc.names.lookup x = some .local ∨ sc.names.lookup x = some .cell ∨ sc.names.lookup x = some .free
def Ar (sc : Scope) (x : Str) : Prop := sc.names.lookup x = some .local ∨ sc.names.lookup x = some .cell
def D7 (env : Env) (h : Heap) (m : Str → Option Value) (x : Str) (u : Value) : Prop :=
  (env.kindOf x = some .local ∧ m x = some u) ∨ ((env.kindOf x = some .cell ∨ env.kindOf x = some .free) ∧ ∃ c, env.cells.lookup x = some c ∧ h.IsCell c (some u))
structure Cx.Ok (X : Cx) : Prop where
  mod : Mod X.K X.mg X.base
  kind : X.env.scope.kind = .function
  glob : X.env.globals = mainGlobals
  blt : X.env.builtins = builtinsNs
  above : X.s₀.heap.objs.size ≤ X.env.locals
  inj : ∀ x y c, X.env.cells.lookup x = some c → X.env.cells.lookup y = some c → x = y
  has : ∀ x, (X.env.kindOf x = some .cell ∨ X.env.kindOf x = some .free) → ∃ c, X.env.cells.lookup x = some c
  cab : ∀ x c, X.fn x = true → X.env.cells.lookup x = some c → X.s₀.heap.objs.size ≤ c
  hd : X.calm = true → X.A.handled = none
  frames : X.A.frames = some X.stack
  stk : X.stack = X.outer ∨ (X.stack = X.env :: X.outer ∧ X.env.frame = some X.env.locals)
  exf : ∀ b ∈ X.ex, b ≠ X.env.locals ∧ ∀ x c, X.env.cells.lookup x = some c → c ≠ b
  bs : ∀ b o, X.base.get? b = some o → X.s₀.heap.get? b = some o ∧ X.H₀ b = none
  bsz : X.base.objs.size ≤ X.s₀.heap.objs.size
  noex : ∀ b o, X.base.get? b = some o → b ∉ X.ex
  exfs : ∀ b ∈ X.ex, b ∉ X.fs
  funs : X.s₀.heap.FunFrames X.base X.outer
  frf : ∀ b ∈ X.fs, X.H₀ b = none
structure aC (X : Cx) (pins : List (Addr × Obj)) (σ : List (Option V)) (H : Hp) (s : Shared) : Prop where
  ok : X.Ok
  os : s.os = X.s₀.os
  bare : AllBare s.gens
  base : Un X.fs X.ex X.H₀ H X.s₀.heap s.heap
  loc : ∃ m, s.heap.Ns X.env.locals m ∧ ∀ (i : Nat) (x : Str) (v : V), X.N[i]? = some x → σ[i]? = some (some v) → BP X.env.scope x → ∃ u, bf v u ∧ D7 X.env s.heap m x u
  cell : ∀ x c, X.env.cells.lookup x = some c → ∃ v, s.heap.IsCell c v
  free : H X.env.locals = none
  freeC : ∀ x c, X.env.cells.lookup x = some c → H c = none
  pin : ∀ p ∈ X.pn ++ pins, s.heap.get? p.1 = some p.2 ∧ H p.1 = none ∧ p.1 ≠ X.env.locals ∧ p.1 ∉ X.fs ∧ ∀ v, p.2.data ≠ .cell v
  hok : iX X.prog X.w H s.heap
  len : σ.length = X.N.length
section
variable {X : Cx} {pins : List (Addr × Obj)} {σ : List (Option V)} {H H' : Hp} {s : Shared} {h' : Heap}
theorem Cx.Ok.nofr (ok : X.Ok) {b : Addr} {o : Obj} (e : X.base.get? b = some o) : b ∉ X.fs := fun hb => by
  have := (ok.funs.mem hb).1
  rw [e] at this; cases this
theorem aC.bs (I : aC X pins σ H s) : ∀ b o, X.base.get? b = some o → s.heap.get? b = some o ∧ H b = none := fun b o e =>
  ⟨I.base.keep b o (I.ok.bs b o e).1 (I.ok.bs b o e).2 (I.ok.nofr e) (I.ok.noex b o e), I.base.free b o (I.ok.bs b o e).1 (I.ok.bs b o e).2 (I.ok.noex b o e)⟩
theorem aC.bk (I : aC X pins σ H s) : ∀ b o, X.base.get? b = some o → s.heap.get? b = some o := fun b o e => (I.bs b o e).1
theorem aC.mod (I : aC X pins σ H s) : Mod X.K X.mg X.base := I.ok.mod
theorem aC.kIn (I : aC X pins σ H s) : X.K.In s.heap := I.ok.mod.kin.keeps I.bk
theorem aC.lt (I : aC X pins σ H s) : X.env.locals < s.heap.objs.size := let ⟨_, hn, _⟩ := I.loc; hn.lt
theorem aC.sz (I : aC X pins σ H s) : X.s₀.heap.objs.size ≤ s.heap.objs.size := Nat.le_trans I.ok.above (Nat.le_of_lt I.lt)
theorem aC.nofs (I : aC X pins σ H s) {a : Addr} (h : s.heap.objs.size ≤ a) : a ∉ X.fs := fun hb => by
  obtain ⟨_, o, ho, _⟩ := I.ok.funs.mem hb
  exact absurd (Nat.lt_of_lt_of_le (Heap.lt_size ho) (Nat.le_trans I.sz h)) (Nat.lt_irrefl _)
theorem aC.cne (I : aC X pins σ H s) : ∀ x c, X.env.cells.lookup x = some c → c ≠ X.env.locals := fun x c e z => by
  obtain ⟨v, o, ho, hd⟩ := I.cell x c e
  obtain ⟨m, ⟨o', es, ep, ho', hd', _⟩, _⟩ := I.loc
  rw [z, ho'] at ho; cases ho; rw [hd'] at hd; cases hd
theorem aC.funs (I : aC X pins σ H s) : s.heap.FunFrames X.base X.outer := by
  have all : ∀ (l : List Env), (∀ b ∈ md l, b ∈ X.fs) → X.s₀.heap.FunFrames X.base l → s.heap.FunFrames X.base l := by
    intro l
    induction l with
    | nil => intro _ _; trivial
    | cons env r ih =>
      intro hs hl
      obtain ⟨hk, ⟨L, o, hf, hn, ho, hd⟩, hr⟩ := hl
      have hL : L ∈ X.fs := hs L (by unfold md; rw [List.filterMap_cons, hf]; exact List.mem_cons_self)
      obtain ⟨sl, e⟩ := I.base.slot L o ho (I.ok.frf L hL) hL fun z => I.ok.exfs L z hL
      exact ⟨hk, ⟨L, _, hf, hn, e, hd⟩, ih (fun b hb => hs b (by unfold md; rw [List.filterMap_cons, hf]; exact List.mem_cons_of_mem _ hb)) hr⟩
  exact all X.outer (fun _ hb => hb) I.ok.funs
theorem aC.stack (I : aC X pins σ H s) : s.heap.FunFrames X.base X.stack := by
  rcases I.ok.stk with e | ⟨e, hf⟩
  · rw [e]; exact I.funs
  · rw [e]
    obtain ⟨m, hn, _⟩ := I.loc
    refine .cons (by rw [I.ok.kind]; decide) hf hn ?_ I.funs
    exact Heap.get?_none_of_le (Nat.le_trans I.ok.bsz I.ok.above)
theorem aC.stkSub (I : aC X pins σ H s) : ∀ b ∈ md X.stack, b ∈ X.env.locals :: X.fs := fun b hb => by
  rcases I.ok.stk with e | ⟨e, hf⟩
  · rw [e] at hb; exact List.mem_cons_of_mem _ hb
  · rw [e] at hb
    unfold md at hb
    rw [List.filterMap_cons, hf] at hb
    exact hb
theorem aC.stkFree (I : aC X pins σ H s) : ∀ b ∈ md X.stack, H b = none := fun b hb => by
  rcases List.mem_cons.mp (I.stkSub b hb) with e | hb
  · rw [e]; exact I.free
  · obtain ⟨_, o, ho, _⟩ := I.ok.funs.mem hb
    exact I.base.free b o ho (I.ok.frf b hb) fun z => I.ok.exfs b z hb
theorem aC.step {g' : Array GenState} {t' : Nat} {d' : Drawn} {ch : List Addr} (I : aC X pins σ H s)
    (hch : ∀ b ∈ ch, (b ∈ X.ex ∨ X.s₀.heap.objs.size ≤ b) ∧ b ≠ X.env.locals ∧ (∀ x c, X.env.cells.lookup x = some c → c ≠ b) ∧ ∀ p ∈ X.pn ++ pins, p.1 ≠ b)
    (keep : ∀ b o, b ≠ X.env.locals → b ∉ X.fs → b ∉ ch → s.heap.get? b = some o → H b = none → h'.get? b = some o)
    (slot : ∀ b o, b ≠ X.env.locals → b ∈ X.fs → b ∉ ch → s.heap.get? b = some o → H b = none → ∃ sl, h'.get? b = some { o with slots := sl }) (free : ∀ b o, b ∉ ch → s.heap.get? b = some o → H b = none → H' b = none)
    (there : ∀ b o, b ∉ ch → s.heap.get? b = some o → ∃ o', h'.get? b = some o')
    (tups : ∀ b xs, H b = some (.tup xs) → H' b = some (.tup xs)) (frzs : ∀ b o u, H b = some (.frz o u) → H' b = some (.frz o u)) (tbls : ∀ b ps, H b = some (.tbl ps) → ∃ more, H' b = some (.tbl (ps ++ more)))
    (ns : ∀ m, s.heap.Ns X.env.locals m → h'.Ns X.env.locals m) (hok : iX X.prog X.w H' h') (hg : AllBare g') :
    aC X pins σ H' { s with heap := h', gens := g', drawn := d', toks := t' } := by
  have neL : ∀ b o, X.s₀.heap.get? b = some o → b ≠ X.env.locals := fun b o e => Nat.ne_of_lt (Nat.lt_of_lt_of_le (Heap.lt_size e) I.ok.above)
  have neC : ∀ b o, X.s₀.heap.get? b = some o → b ∉ X.ex → b ∉ ch := fun b o e hx hb => by
    rcases (hch b hb).1 with z | z
    · exact hx z
    · exact absurd (Nat.lt_of_lt_of_le (Heap.lt_size e) z) (Nat.lt_irrefl _)
  have cellK : ∀ x c, X.env.cells.lookup x = some c → ∀ v, s.heap.IsCell c v → h'.IsCell c v := fun x c e v ⟨o, ho, hd⟩ => by
    have nch : c ∉ ch := fun z => (hch c z).2.2.1 x c e rfl
    by_cases hc : c ∈ X.fs
    · obtain ⟨sl, q⟩ := slot c o (I.cne x c e) hc nch ho (I.freeC x c e)
      exact ⟨_, q, hd⟩
    · exact ⟨o, keep c o (I.cne x c e) hc nch ho (I.freeC x c e), hd⟩
  refine ⟨I.ok, I.os, hg, ⟨fun b o e n hb hx => ?_, fun b o e n hb hx => ?_, fun b o e n hx => ?_, fun b o e hx => ?_, fun b xs e => tups b xs (I.base.tups b xs e), fun b o xs e => frzs b o xs (I.base.frzs b o xs e), fun b ps e => ?_⟩, ?_, fun x c e => ?_, ?_, fun x c e => ?_, fun p hp => ?_, hok, I.len⟩
  · exact keep b o (neL b o e) hb (neC b o e hx) (I.base.keep b o e n hb hx) (I.base.free b o e n hx)
  · obtain ⟨sl, e1⟩ := I.base.slot b o e n hb hx
    obtain ⟨sl', e2⟩ := slot b _ (neL b o e) hb (neC b o e hx) e1 (I.base.free b o e n hx)
    exact ⟨sl', e2⟩
  · obtain ⟨o', e1⟩ := I.base.there b o e hx
    exact free b o' (neC b o e hx) e1 (I.base.free b o e n hx)
  · obtain ⟨o', e1⟩ := I.base.there b o e hx
    exact there b o' (neC b o e hx) e1
  · obtain ⟨m1, e1⟩ := I.base.tbls b ps e
    obtain ⟨m2, e2⟩ := tbls b _ e1
    exact ⟨m1 ++ m2, by rw [e2, Array.append_assoc]⟩
  · obtain ⟨m, hn, hl⟩ := I.loc
    refine ⟨m, ns m hn, fun i x v e1 e2 e3 => ?_⟩
    obtain ⟨u, r, l⟩ := hl i x v e1 e2 e3
    refine ⟨u, r, ?_⟩
    rcases l with l | ⟨k, c, e, z⟩
    · exact .inl l
    · exact .inr ⟨k, c, e, cellK x c e _ z⟩
  · obtain ⟨v, z⟩ := I.cell x c e
    exact ⟨v, cellK x c e v z⟩
  · obtain ⟨m, ⟨o, _, _, ho, _⟩, _⟩ := I.loc
    exact free _ o (fun z => (hch _ z).2.1 rfl) ho I.free
  · obtain ⟨v, o, ho, hd⟩ := I.cell x c e
    exact free c o (fun z => (hch c z).2.2.1 x c e rfl) ho (I.freeC x c e)
  · obtain ⟨e, n, ne, nf, d⟩ := I.pin p hp
    have nch : p.1 ∉ ch := fun z => (hch p.1 z).2.2.2 p hp rfl
    exact ⟨keep p.1 p.2 ne nf nch e n, free p.1 p.2 nch e n, ne, nf, d⟩
theorem aC.un {t' : Nat} (I : aC X pins σ H s) (u : Un X.fs [] H H' s.heap h') (hok : iX X.prog X.w H' h') : aC X pins σ H' { s with heap := h', toks := t' } := by
  obtain ⟨m, ⟨o, es, ep, ho, r⟩, _⟩ := id I.loc
  obtain ⟨sl, hL⟩ := u.any ho I.free (by simp)
  exact I.step (g' := s.gens) (d' := s.drawn) (ch := []) (fun _ z => nomatch z) (fun b o _ hb _ e n => u.keep b o e n hb (by simp)) (fun b o _ hb _ e n => u.slot b o e n hb (by simp)) (fun b o _ e n => u.free b o e n (by simp)) (fun b o _ e => u.there b o e (by simp)) u.tups u.frzs u.tbls (fun m' hm => by
    obtain ⟨o', es', ep', ho', r'⟩ := hm
    rw [ho] at ho'; cases ho'
    exact ⟨_, es', ep', hL, r'⟩) hok I.bare
theorem aC.call {g' : Array GenState} {t' : Nat} {d' : Drawn} {ch : List Addr} (I : aC X pins σ H s) (u : Un (md X.stack) ch H H' s.heap h') (hok : iX X.prog X.w H' h') (hg : AllBare g')
    (hch : ∀ b ∈ ch, (b ∈ X.ex ∨ X.s₀.heap.objs.size ≤ b) ∧ b ≠ X.env.locals ∧ (∀ x c, X.env.cells.lookup x = some c → c ≠ b) ∧ ∀ p ∈ X.pn ++ pins, p.1 ≠ b) :
    aC X pins σ H' { s with heap := h', gens := g', drawn := d', toks := t' } := by
  obtain ⟨m, ⟨o, es, ep, ho, r⟩, _⟩ := id I.loc
  obtain ⟨sl, hL⟩ := u.any ho I.free fun z => (hch _ z).2.1 rfl
  exact I.step (ch := ch) hch (fun b o hL hb hc e n => u.keep b o e n (fun z => (List.mem_cons.mp (I.stkSub b z)).elim hL hb) hc) (fun b o _ _ hc e n => u.any e n hc) (fun b o hc e n => u.free b o e n hc) (fun b o hc e => u.there b o e hc) u.tups u.frzs u.tbls (fun m' hm => by
    obtain ⟨o', es', ep', ho', r'⟩ := hm
    rw [ho] at ho'; cases ho'
    exact ⟨_, es', ep', hL, r'⟩) hok hg
theorem aC.turned {t' : Nat} {it : Addr} (I : aC X pins σ H s) (k : ∀ b o, b ≠ it → s.heap.get? b = some o → h'.get? b = some o) (hn : H it = none) (hL : it ≠ X.env.locals)
    (h1 : it ∈ X.ex ∨ X.s₀.heap.objs.size ≤ it) (h2 : ∀ x c, X.env.cells.lookup x = some c → c ≠ it) (h3 : ∀ p ∈ X.pn ++ pins, p.1 ≠ it) : aC X pins σ H { s with heap := h', toks := t' } := by
  have nit : ∀ b u, H b = some u → b ≠ it := fun b u e z => by rw [z, hn] at e; cases e
  refine I.step (g' := s.gens) (d' := s.drawn) (ch := [it]) (fun b hb => ?_) (fun b o _ _ hc e _ => k b o (fun z => hc (by simp [z])) e) (fun b o _ _ hc e _ => ⟨o.slots, k b o (fun z => hc (by simp [z])) e⟩) (fun _ _ _ _ n => n)
    (fun b o hc e => ⟨o, k b o (fun z => hc (by simp [z])) e⟩) (fun _ _ e => e) (fun _ _ _ e => e) (fun b ps e => ⟨#[], by rw [e]; simp⟩) (fun m hm => ?_) (fun b u e => ?_) I.bare
  · have e : b = it := by simpa using hb
    subst e
    exact ⟨h1, hL, h2, h3⟩
  · obtain ⟨o, es, ep, ho, r⟩ := hm
    exact ⟨o, es, ep, k _ o (Ne.symm hL) ho, r⟩
  · refine (I.hok b u e).stay (fun c v hc q => k c v ?_ q) (fun _ q => q) fun _ _ q => q
    rcases hc with z | z
    · rw [z]; exact nit b u e
    · exact nit c _ z
theorem aC.tok (I : aC X pins σ H s) (t : Nat) : aC X pins σ H { s with toks := t } := I.un (h' := s.heap) (t' := t) Un.refl I.hok
theorem aC.kept {t' : Nat} (I : aC X pins σ H s) (k : ∀ b u, s.heap.get? b = some u → h'.get? b = some u) : aC X pins σ H { s with heap := h', toks := t' } := I.un (Un.kept k) (I.hok.kept k)
theorem aC.laid {a : Addr} {o : HO} {t' : Nat} (I : aC X pins σ H s) (k : ∀ b u, s.heap.get? b = some u → h'.get? b = some u) (hp : s.heap.objs.size ≤ a) (new : bI X.prog X.w (ci H a o) h' a o) :
    aC X pins σ (ci H a o) { s with heap := h', toks := t' } := I.un (Un.laid k hp (I.hok.fresh hp)) (I.hok.laid k hp new)
theorem aC.write {x e : Addr} {o : HO} {t' : Nat} (I : aC X pins σ H s) (mu : CW (H x)) (he : e = x ∨ H e = some (.own x)) (k : ∀ b u, b ≠ e → s.heap.get? b = some u → h'.get? b = some u) (heo : ∃ u, h'.get? e = some u)
    (new : bI X.prog X.w (ci H x o) h' x o) : aC X pins σ (ci H x o) { s with heap := h', toks := t' } := I.un (Un.write mu he k heo) (I.hok.write mu he k heo new)
theorem aC.pins_of {pins' : List (Addr × Obj)} (I : aC X pins σ H s) (h : ∀ p ∈ pins', s.heap.get? p.1 = some p.2 ∧ H p.1 = none ∧ p.1 ≠ X.env.locals ∧ p.1 ∉ X.fs ∧ ∀ v, p.2.data ≠ .cell v) : aC X pins' σ H s :=
  ⟨I.ok, I.os, I.bare, I.base, I.loc, I.cell, I.free, I.freeC, fun p hp => (List.mem_append.mp hp).elim (fun z => I.pin p (List.mem_append_left _ z)) (h p), I.hok, I.len⟩
theorem nS {N : List Str} (hN : N.Nodup) {i j : Nat} {x : Str} (a : N[i]? = some x) (b : N[j]? = some x) : i = j := by
  obtain ⟨h1, e1⟩ := List.getElem?_eq_some_iff.mp a
  obtain ⟨h2, e2⟩ := List.getElem?_eq_some_iff.mp b
  exact (List.getElem_inj hN).mp (e1.trans e2.symm)
theorem oH {M : Model} {A : Around} {E : Value → Shared → Prop} {i : Nat} {x : Str} {v : V} {u : Value} {Q : Unit → Shared → Prop} (I : aC X pins σ H s) (hN : X.N.Nodup) (hi : X.N[i]? = some x) (hx : Ar X.env.scope x) (r : bf v u)
    (h : ∀ s', aC X pins (σ.set i (some v)) H s' → (∃ a, Heap.SameBut a s.heap s'.heap ∧ (a = X.env.locals ∨ X.env.cells.lookup x = some a)) → Q () s') (hf : X.fn x = true ∨ X.env.scope.names.lookup x = some .local := by first | exact .inl rfl | exact .inr rfl | assumption) : wpAny M A (storeName X.env x u) Q E s := by
  obtain ⟨m, hn, hl⟩ := id I.loc
  have hcls : (X.env.scope.kind == .class || (X.env.scope.kind == .module && X.env.locals != X.env.globals)) = false := by rw [I.ok.kind]; rfl
  have hiσ : i < σ.length := by rw [I.len]; exact (List.getElem?_eq_some_iff.mp hi).1
  have cne := I.cne
  have tracked : ∀ {a : Addr} {h' : Heap}, (∃ o, s.heap.get? a = some o ∧ H a = none) → Heap.SameBut a s.heap h' → iX X.prog X.w H h' := fun {a h'} ha hs b ob e => by
    obtain ⟨_, _, hfree⟩ := ha
    refine (I.hok b ob e).stay (fun c w' hc q => (hs.2 c ?_).trans q) (fun _ q => q) fun _ _ q => q
    rintro rfl
    rcases hc with rfl | hc
    · rw [hfree] at e; cases e
    · rw [hfree] at hc; cases hc
  rcases hx with hk | hk
  · refine wpAny_storeName_local hk hn (fun h' hn' hs => ?_) hcls
    obtain ⟨oL, _, _, hoL, _⟩ := id hn
    refine h _ ⟨I.ok, I.os, I.bare, ⟨fun b o e n hb hx => ?_, fun b o e n hb hx => ?_, I.base.free, fun b o e hx => ?_, I.base.tups, I.base.frzs, I.base.tbls⟩, ⟨_, hn', fun j y v' e1 e2 e3 => ?_⟩, fun y c e => ?_, I.free, I.freeC, fun p hp => ?_, tracked ⟨oL, hoL, I.free⟩ hs, by simpa using I.len⟩ ⟨_, hs, .inl rfl⟩
    · exact (hs.2 b (Nat.ne_of_lt (Nat.lt_of_lt_of_le (Heap.lt_size e) I.ok.above))).trans (I.base.keep b o e n hb hx)
    · obtain ⟨sl, e1⟩ := I.base.slot b o e n hb hx
      exact ⟨sl, (hs.2 b (Nat.ne_of_lt (Nat.lt_of_lt_of_le (Heap.lt_size e) I.ok.above))).trans e1⟩
    · obtain ⟨o', e1⟩ := I.base.there b o e hx
      exact ⟨o', (hs.2 b (Nat.ne_of_lt (Nat.lt_of_lt_of_le (Heap.lt_size e) I.ok.above))).trans e1⟩
    · by_cases hj : j = i
      · subst hj
        rw [hi] at e1; cases e1
        rw [List.getElem?_set_self hiσ] at e2
        cases e2
        exact ⟨u, r, .inl ⟨hk, by simp⟩⟩
      · rw [List.getElem?_set_ne (Ne.symm hj)] at e2
        obtain ⟨u', r', q⟩ := hl j y v' e1 e2 e3
        refine ⟨u', r', ?_⟩
        rcases q with ⟨k, e⟩ | ⟨k, c, e, z⟩
        · refine .inl ⟨k, ?_⟩
          have : y ≠ x := fun e => hj (nS hN e1 (e ▸ hi))
          simp [this, e]
        · exact .inr ⟨k, c, e, z.sameBut hs (cne y c e)⟩
    · obtain ⟨w', z⟩ := I.cell y c e
      exact ⟨w', z.sameBut hs (cne y c e)⟩
    · obtain ⟨e, n, ne, nf, d⟩ := I.pin p hp
      exact ⟨(hs.2 p.1 ne).trans e, n, ne, nf, d⟩
  · have hfn : X.fn x = true := by
      rcases hf with z | z
      · exact z
      · rw [z] at hk; cases hk
    obtain ⟨c, hc⟩ := I.ok.has x (.inl hk)
    obtain ⟨w', z⟩ := I.cell x c hc
    refine wpAny_storeName_cell I.ok.kind hk hc z (fun h' hc' hs => ?_)
    obtain ⟨oc, hoc, hocd⟩ := id z
    refine h { s with heap := h' } ⟨I.ok, I.os, I.bare, ⟨fun b o e n hb hx => ?_, fun b o e n hb hx => ?_, I.base.free, fun b o e hx => ?_, I.base.tups, I.base.frzs, I.base.tbls⟩, ⟨m, hn.sameBut hs (Ne.symm (cne x c hc)), fun j y v' e1 e2 e3 => ?_⟩, fun y c' e => ?_, I.free, I.freeC, fun p hp => ?_, tracked ⟨oc, hoc, I.freeC x c hc⟩ hs, by simpa using I.len⟩ ⟨c, hs, .inr hc⟩
    · exact (hs.2 b (Nat.ne_of_lt (Nat.lt_of_lt_of_le (Heap.lt_size e) (I.ok.cab x c hfn hc)))).trans (I.base.keep b o e n hb hx)
    · obtain ⟨sl, e1⟩ := I.base.slot b o e n hb hx
      exact ⟨sl, (hs.2 b (Nat.ne_of_lt (Nat.lt_of_lt_of_le (Heap.lt_size e) (I.ok.cab x c hfn hc)))).trans e1⟩
    · obtain ⟨o', e1⟩ := I.base.there b o e hx
      exact ⟨o', (hs.2 b (Nat.ne_of_lt (Nat.lt_of_lt_of_le (Heap.lt_size e) (I.ok.cab x c hfn hc)))).trans e1⟩
    · by_cases hj : j = i
      · subst hj
        rw [hi] at e1; cases e1
        rw [List.getElem?_set_self hiσ] at e2
        cases e2
        exact ⟨u, r, .inr ⟨.inl hk, c, hc, hc'⟩⟩
      · rw [List.getElem?_set_ne (Ne.symm hj)] at e2
        obtain ⟨u', r', q⟩ := hl j y v' e1 e2 e3
        refine ⟨u', r', ?_⟩
        rcases q with q | ⟨k, c', e, z'⟩
        · exact .inl q
        · refine .inr ⟨k, c', e, z'.sameBut hs ?_⟩
          rintro rfl
          exact hj (nS hN e1 (I.ok.inj _ _ _ e hc ▸ hi))
    · by_cases hcc : c' = c
      · subst hcc; exact ⟨_, hc'⟩
      · obtain ⟨w2, z2⟩ := I.cell y c' e
        exact ⟨w2, z2.sameBut hs hcc⟩
    · obtain ⟨e, n, ne, nf, d⟩ := I.pin p hp
      refine ⟨(hs.2 p.1 ?_).trans e, n, ne, nf, d⟩
      intro q
      rw [q, hoc] at e
      have q' : oc = p.2 := Option.some.inj e
      exact d w' (by rw [← q']; exact hocd)
theorem i6 {M : Model} {A : Around} {E : Value → Shared → Prop} {i : Nat} {x : Str} {v : V} {u : Value} {Q : Unit → Shared → Prop} (I : aC X pins σ H s) (hN : X.N.Nodup) (hi : X.N[i]? = some x) (hx : Ar X.env.scope x) (r : bf v u)
    (h : ∀ s', aC X pins (σ.set i (some v)) H s' → Q () s') (hf : X.fn x = true ∨ X.env.scope.names.lookup x = some .local := by first | exact .inl rfl | exact .inr rfl | assumption) : wpAny M A (storeName X.env x u) Q E s :=
  oH I hN hi hx r (fun s' I' _ => h s' I') hf
theorem aC.call' {s' : Shared} {ch : List Addr} (I : aC X pins σ H s) (ho : s'.os = s.os) (u : Un (md X.stack) ch H H' s.heap s'.heap) (hok : iX X.prog X.w H' s'.heap) (hg : AllBare s'.gens)
    (hch : ∀ b ∈ ch, (b ∈ X.ex ∨ X.s₀.heap.objs.size ≤ b) ∧ b ≠ X.env.locals ∧ (∀ x c, X.env.cells.lookup x = some c → c ≠ b) ∧ ∀ p ∈ X.pn ++ pins, p.1 ≠ b) : aC X pins σ H' s' := by
  obtain ⟨h', g', d', t', o'⟩ := s'
  have e : o' = s.os := ho
  subst e
  exact I.call (g' := g') (t' := t') (d' := d') u hok hg hch
end
abbrev XK := Value → Option Addr → Hp → Prop
abbrev St := List (Option V)
abbrev VK := V → Hp → Prop
abbrev TE := St → Hp → VK → Prop
abbrev TT := St → Hp → (Bool → Hp → Prop) → Prop
abbrev TA := St → Hp → (List V → Hp → Prop) → Prop
structure o7 where
  nx : St → Hp → Prop
  rt : VK
  bk : St → Hp → Prop := fun _ _ => False
  ct : St → Hp → Prop := fun _ _ => False
abbrev TS := o7 → St → Hp → Prop
def EP (X : Cx) (pins : List (Addr × Obj)) (σ : St) (Q : VK) (u : Value) (s' : Shared) : Prop := ∃ v H', aC X pins σ H' s' ∧ bf v u ∧ Q v H'
def TP (X : Cx) (pins : List (Addr × Obj)) (σ : St) (Q : Bool → Hp → Prop) (b : Bool) (s' : Shared) : Prop := ∃ H', aC X pins σ H' s' ∧ Q b H'
def AP (X : Cx) (pins : List (Addr × Obj)) (σ : St) (Q : List V → Hp → Prop) (us : List Value) (s' : Shared) : Prop := ∃ vs H', aC X pins σ H' s' ∧ bh vs us ∧ Q vs H'
def SP (X : Cx) (pins : List (Addr × Obj)) (D : o7) (f : Flow) (s' : Shared) : Prop :=
  match f with
  | .next => ∃ σ' H', aC X pins σ' H' s' ∧ D.nx σ' H'
  | .brk => ∃ σ' H', aC X pins σ' H' s' ∧ D.bk σ' H'
  | .cont => ∃ σ' H', aC X pins σ' H' s' ∧ D.ct σ' H'
  | .ret u => ∃ v σ' H', aC X pins σ' H' s' ∧ bf v u ∧ D.rt v H'
def PE (X : Cx) (e : Expr) (t : TE) : Prop :=
  ∀ (pins : List (Addr × Obj)) (s : Shared) (σ : St) (H : Hp) (Q : VK), aC X pins σ H s → t σ H Q → wpAny (model X.prog X.w) X.A (eval e X.env) (EP X pins σ Q) X.xe s
def PT (X : Cx) (e : Expr) (t : TT) : Prop :=
  ∀ (pins : List (Addr × Obj)) (s : Shared) (σ : St) (H : Hp) (Q : Bool → Hp → Prop), aC X pins σ H s → t σ H Q → wpAny (model X.prog X.w) X.A (isTrue e X.env (eval e X.env)) (TP X pins σ Q) X.xe s
def PW (X : Cx) (e : Expr) (t : TT) : Prop :=
  ∀ (whole : Sem Value) (pins : List (Addr × Obj)) (s : Shared) (σ : St) (H : Hp) (Q : Bool → Hp → Prop), aC X pins σ H s → t σ H Q → wpAny (model X.prog X.w) X.A (isTrue e X.env whole) (TP X pins σ Q) X.xe s
theorem PW.pt {X : Cx} {e : Expr} {t : TT} (h : PW X e t) : PT X e t := h _
def PA (X : Cx) (es : List Expr) (t : TA) : Prop :=
  ∀ (pos : Pos) (pins : List (Addr × Obj)) (s : Shared) (σ : St) (H : Hp) (Q : List V → Hp → Prop), aC X pins σ H s → t σ H Q → wpAny (model X.prog X.w) X.A (spliced (backTo pos (starEach es X.env))) (AP X pins σ Q) X.xe s
def PS (X : Cx) (st : Stmt) (t : TS) : Prop :=
  ∀ (pins : List (Addr × Obj)) (s : Shared) (σ : St) (H : Hp) (D : o7), aC X pins σ H s → t D σ H → wpAny (model X.prog X.w) X.A (exec st X.env) (SP X pins D) X.xe s
def pW (X : Cx) (st : List Stmt) (t : TS) : Prop :=
  ∀ (pins : List (Addr × Obj)) (s : Shared) (σ : St) (H : Hp) (D : o7), aC X pins σ H s → t D σ H → wpAny (model X.prog X.w) X.A (execs st X.env) (SP X pins D) X.xe s
theorem cR {α : Type} {t : Sem α} {Q Q' : α → Shared → Prop} {M : Model} {A : Around} {E : Value → Shared → Prop} {s : Shared} (h : wpAny M A t Q E s) (hQ : ∀ a s, Q a s → Q' a s) : wpAny M A t Q' E s := wpAny_mono h hQ fun _ _ x => x
section
variable {X : Cx}
theorem EM {a b : Expr} {ta tb : TE} (ha : PE X a ta) (hb : PE X b tb) {pins : List (Addr × Obj)} {s : Shared} {σ : St} {H : Hp} {R : V → V → Hp → Prop} (I : aC X pins σ H s) (h : ta σ H fun x H1 => tb σ H1 fun y H2 => R x y H2)
    {α : Type} {Q : α → Shared → Prop} {f : Value → Value → Sem α}
    (hf : ∀ v u s2 x y H2, aC X pins σ H2 s2 → bf x v → bf y u → R x y H2 → wpAny (model X.prog X.w) X.A (f v u) Q X.xe s2) :
    wpAny (model X.prog X.w) X.A (eval a X.env) (fun v s₁ => wpAny (model X.prog X.w) X.A (eval b X.env) (fun u s₂ => wpAny (model X.prog X.w) X.A (f v u) Q X.xe s₂) X.xe s₁) X.xe s := by
  refine cR (ha pins s σ H _ I h) fun v s1 ⟨x, H1, I1, r1, q1⟩ => ?_
  refine cR (hb pins s1 σ H1 _ I1 q1) fun u s2 ⟨y, H2, I2, r2, q2⟩ => ?_
  exact hf v u s2 x y H2 I2 r1 r2 q2
def A0 (i : Nat) : TE := fun σ H Q => ∃ v, σ[i]? = some (some v) ∧ Q v H
def tC (v : V) : TE := fun _ H Q => Q v H
theorem im {i : Nat} {x : Str} {pos : Pos} (hN : X.N[i]? = some x) (hv : BP X.env.scope x) (hd : (x == ("__debug__" : Str)) = false := by decide) (hcd : (x == ("__classdict__" : Str)) = false := by decide) : PE X (.Name x pos) (A0 i) := by
  intro pins s σ H Q I h
  obtain ⟨v, e, h⟩ := h
  obtain ⟨m, hn, hl⟩ := I.loc
  obtain ⟨u, r, l⟩ := hl i x v hN e hv
  have fin : EP X pins σ Q u s := ⟨v, H, I, r, h⟩
  rcases l with ⟨hk, hm⟩ | ⟨hk, c, hc, hcell⟩
  · exact wpAny_Name (wpAny_loadName_local I.ok.kind hk hn hm fin) hd
  · rcases hk with hk | hk
    · exact wpAny_Name (wpAny_loadName_cell I.ok.kind hk hc hcell fin) hd
    · exact wpAny_Name (wpAny_loadName_free I.ok.kind hk hc hcell fin hcd) hd
theorem BD {i j pos} : PE X (.Constant (.int i) j pos) (tC (.int i)) := fun _ _ _ H _ I h => wpAny_Constant_int ⟨.int i, H, I.tok _, ⟨_, rfl⟩, h⟩
theorem CQ {b j pos} : PE X (.Constant (.bool b) j pos) (tC (.bl b)) := fun _ _ _ H _ I h => Constant_bool ⟨.bl b, H, I, rfl, h⟩
theorem Bb {j pos} : PE X (.Constant .none j pos) (tC .non) := fun _ _ _ H _ I h => Constant_none ⟨.non, H, I, rfl, h⟩
theorem A8 {x j pos} : PE X (.Constant (.str x) j pos) (tC (.str x)) := fun _ _ _ H _ I h => Calls.Constant_str ⟨.str x, H, I.tok _, ⟨_, rfl⟩, h⟩
def Gl (X : Cx) (x : Str) : Prop := X.env.kindOf x = some .globalImplicit
theorem kC {E : Value → Shared → Prop} {pins : List (Addr × Obj)} {s : Shared} {σ : St} {H : Hp} {x : Str} {u : Value} {pos : Pos} {Q : Value → Shared → Prop} (I : aC X pins σ H s) (hg : Gl X x) (hm : X.mg x = some u) (h : Q u s)
    (hd : (x == ("__debug__" : Str)) = false := by decide) : wpAny (model X.prog X.w) X.A (eval (.Name x pos) X.env) Q E s :=
  Calls.Name_function_global I.ok.kind hg (Calls.loadGlobal_global (by rw [I.ok.glob]; exact I.mod.glob.keeps I.bk) hm h) hd
theorem il {E : Value → Shared → Prop} {pins : List (Addr × Obj)} {s : Shared} {σ : St} {H : Hp} {x : Str} {u : Value} {pos : Pos} {Q : Value → Shared → Prop} (I : aC X pins σ H s) (hg : Gl X x) (hm : X.mg x = none) (hv : bootBuiltins x = some u) (h : Q u s)
    (hn : x ≠ "__name__" := by decide) (hd : (x == ("__debug__" : Str)) = false := by decide) : wpAny (model X.prog X.w) X.A (eval (.Name x pos) X.env) Q E s := by
  obtain ⟨mb, h1, h2⟩ := I.mod.blt
  exact Calls.Name_function_global I.ok.kind hg (Calls.loadGlobal_builtin (by rw [I.ok.glob]; exact I.mod.glob.keeps I.bk) hm (by rw [I.ok.blt]; exact h1.keeps I.bk) ((h2 x hn).trans hv) h) hd
theorem uK {x : Str} {v : V} {u : Value} {pos : Pos} (hg : Gl X x) (hm : X.mg x = some u) (r : bf v u) (hd : (x == ("__debug__" : Str)) = false := by decide) : PE X (.Name x pos) (tC v) :=
  fun _ _ _ H _ I h => kC I hg hm ⟨v, H, I, r, h⟩ hd
theorem yJ {x : Str} {v : V} {u : Value} {pos : Pos} (hg : Gl X x) (hm : X.mg x = none) (hv : bootBuiltins x = some u) (r : bf v u) (hn : x ≠ "__name__" := by decide) (hd : (x == ("__debug__" : Str)) = false := by decide) : PE X (.Name x pos) (tC v) :=
  fun _ _ _ H _ I h => il I hg hm hv ⟨v, H, I, r, h⟩ hn hd
variable {a b : Expr} {ta tb : TE} {pos : Pos}
def PC (X : Cx) (op : CmpOp) (a b : Expr) (t : TE) : Prop :=
  ∀ (pins : List (Addr × Obj)) (s : Shared) (σ : St) (H : Hp) (Q : VK), aC X pins σ H s → t σ H Q →
    wpAny (model X.prog X.w) X.A (eval a X.env) (fun v s₁ => wpAny (model X.prog X.w) X.A (eval b X.env) (fun u s₂ => wpAny (model X.prog X.w) X.A (compareOp op v u) (EP X pins σ Q) X.xe s₂) X.xe s₁) X.xe s
theorem yo (b : Expr) {op : CmpOp} (h : op ≠ .In) (h2 : op ≠ .NotIn) : behindInMarks op b = false := by
  have e1 : (op == CmpOp.In) = false := by cases op <;> first | rfl | exact absurd rfl h
  have e2 : (op == CmpOp.NotIn) = false := by cases op <;> first | rfl | exact absurd rfl h2
  cases b <;> simp [behindInMarks, e1, e2]
def tB (t : TE) : TT := fun σ H Q => t σ H fun x H1 => ∃ c, x = .bl c ∧ Q c H1
theorem DJ {op : CmpOp} {t : TE} (h : PC X op a b t) (h1 : behindInMarks op b = false := by first | exact yo _ (by decide) (by decide) | rfl) : PT X (.Compare a [op] [b] pos) (tB t) := by
  intro pins s σ H Q I hw
  refine wpAny_isTrue_Compare1 (cR (h pins s σ H _ I hw) fun v s1 h1 => cR h1 fun u s2 h2 => cR h2 fun c s3 ⟨x, H1, I1, r1, q1⟩ => ?_) h1
  obtain ⟨d, rfl, q⟩ := q1
  cases r1
  exact wpAny_truthy_bool ⟨H1, I1, q⟩
theorem BJ {e : Expr} {t : TE} (h : PE X e t) (he : ∀ whole, isTrue e X.env whole = (do let v ← whole; standAt e.pos; holding [v] (truthy v)) := by intro _; rfl) : PT X e (tB t) := by
  intro pins s σ H Q I hw
  refine isTrue_plain (cR (h pins s σ H _ I hw) fun v s1 ⟨x, H1, I1, r1, q1⟩ => ?_) (he _)
  obtain ⟨d, rfl, q⟩ := q1
  cases r1
  exact wpAny_truthy_bool ⟨H1, I1, q⟩
variable {tA tB' : TT} {rest : List Expr}
def Ec (t u : TT) : TT := fun σ H Q => t σ H fun c H1 => if c = true then u σ H1 Q else Q false H1
def Ez (t u : TT) : TT := fun σ H Q => t σ H fun c H1 => if c = true then Q true H1 else u σ H1 Q
def DO (t : TT) : TT := fun σ H Q => t σ H fun c H1 => Q (!c) H1
theorem pw_and1 (ha : PT X a tA) : PW X (.BoolOp .And [a] pos) tA := by
  intro wh pins s σ H Q I h
  refine isTrue_and (cR (ha pins s σ H Q I h) fun c s1 e => ?_)
  cases c with
  | true => exact isTrue_and_nil e
  | false => exact e
theorem pw_or1 (ha : PT X a tA) : PW X (.BoolOp .Or [a] pos) tA := by
  intro wh pins s σ H Q I h
  refine isTrue_or (cR (ha pins s σ H Q I h) fun c s1 e => ?_)
  cases c with
  | false => exact isTrue_or_nil e
  | true => exact e
theorem pw_and (ha : PT X a tA) (hb : PW X (.BoolOp .And (b :: rest) pos) tB') : PW X (.BoolOp .And (a :: b :: rest) pos) (Ec tA tB') := by
  intro wh pins s σ H Q I h
  refine isTrue_and (cR (ha pins s σ H _ I h) fun c s1 ⟨H1, I1, q1⟩ => ?_)
  cases c with
  | true => exact hb wh pins s1 σ H1 Q I1 q1
  | false => exact ⟨H1, I1, q1⟩
theorem pw_or (ha : PT X a tA) (hb : PW X (.BoolOp .Or (b :: rest) pos) tB') : PW X (.BoolOp .Or (a :: b :: rest) pos) (Ez tA tB') := by
  intro wh pins s σ H Q I h
  refine isTrue_or (cR (ha pins s σ H _ I h) fun c s1 ⟨H1, I1, q1⟩ => ?_)
  cases c with
  | true => exact ⟨H1, I1, q1⟩
  | false => exact hb wh pins s1 σ H1 Q I1 q1
theorem BQ (ha : PT X a tA) : PT X (.UnaryOp .Not a pos) (DO tA) := by
  intro pins s σ H Q I h
  exact isTrue_not (ha pins s σ H (fun c H1 => Q (!c) H1) I h)
def Cy (ta tb : TE) : TE := fun σ H Q => ta σ H fun x H1 => ∃ c, x = .bl c ∧ if c = true then tb σ H1 Q else Q (.bl false) H1
def Dt (ta : TE) : TE := fun σ H Q => ta σ H fun x H1 => ∃ c, x = .bl c ∧ Q (.bl (!c)) H1
theorem Br {op} {t : TE} (h : PE X a t) : PE X (.BoolOp op [a] pos) t := fun pins s σ H Q I hw => BoolOp_one (h pins s σ H Q I hw)
theorem AN (ha : PE X a ta) (hb : PE X (.BoolOp .And (b :: rest) pos) tb) : PE X (.BoolOp .And (a :: b :: rest) pos) (Cy ta tb) := by
  intro pins s σ H Q I h
  refine BoolOp_and (cR (ha pins s σ H _ I h) fun v s1 ⟨x, H1, I1, r1, q1⟩ => ?_)
  obtain ⟨c, rfl, q1⟩ := q1
  cases r1
  refine wpAny_truthy_bool ?_
  cases c with
  | true => exact hb pins s1 σ H1 Q I1 q1
  | false => exact ⟨.bl false, H1, I1, rfl, q1⟩
theorem BL (ha : PE X a ta) : PE X (.UnaryOp .Not a pos) (Dt ta) := by
  intro pins s σ H Q I h
  refine UnaryOp_ (cR (ha pins s σ H _ I h) fun v s1 ⟨x, H1, I1, r1, q1⟩ => ?_)
  obtain ⟨c, rfl, q1⟩ := q1
  cases r1
  exact not_of (wpAny_truthy_bool ⟨.bl (!c), H1, I1, rfl, q1⟩)
def EB (t : TT) (ta tb : TE) : TE := fun σ H Q => t σ H fun c H1 => if c = true then ta σ H1 Q else tb σ H1 Q
theorem wV {c : Expr} (hc : PT X c tA) (ha : PE X a ta) (hb : PE X b tb) : PE X (.IfExp c a b pos) (EB tA ta tb) := by
  intro pins s σ H Q I h
  refine wpAny_IfExp (cR (hc pins s σ H _ I h) fun d s1 ⟨H1, I1, q1⟩ => ?_)
  cases d with
  | true => exact ha pins s1 σ H1 Q I1 q1
  | false => exact hb pins s1 σ H1 Q I1 q1
end
def oa (K : PySem.W.Frag) (H : Hp) (a : Addr) (xs : List V) : Prop :=
  Rd H a (.lst xs) ∨
    ∃ (o : Obj) (its : Array Value) (n : Nat), K.lookup a = some o ∧ o.cls = .type "list" ∧ o.dict = none ∧ o.data = .seq its n ∧ its.size ≤ sizeLine ∧ bh xs its.toList
def dS (K : PySem.W.Frag) (H : Hp) (a : Addr) (xs : List V) : Prop :=
  Rd H a (.tup xs) ∨
    ∃ (o : Obj) (its : Array Value) (n : Nat), K.lookup a = some o ∧ o.cls = .type "tuple" ∧ o.data = .seq its n ∧ its.size ≤ sizeLine ∧ bh xs its.toList
def DK : Value → Option V
  | .none => some .non
  | .bool b => some (.bl b)
  | .int i _ => some (.int i)
  | .str x _ => some (.str x)
  | .bytes b _ => some (.byt b)
  | .float b _ => some (.flt b)
  | .ref a => some (.ref a)
  | .type n => some (.ty n)
  | _ => none
theorem bf.abs {x : V} {u : Value} (r : bf x u) : DK u = some x := by
  cases x with
  | non => cases r; rfl
  | bl _ => cases r; rfl
  | int _ => obtain ⟨t, rfl⟩ := r; rfl
  | str _ => obtain ⟨t, rfl⟩ := r; rfl
  | byt _ => obtain ⟨t, rfl⟩ := r; rfl
  | flt _ => obtain ⟨t, rfl⟩ := r; rfl
  | ref _ => cases r; rfl
  | ty _ => cases r; rfl
theorem bf.inj {x y : V} {u : Value} (r : bf x u) (q : bf y u) : x = y := Option.some.inj (r.abs.symm.trans q.abs)
theorem bh.inj : ∀ {xs ys : List V} {us : List Value}, bh xs us → bh ys us → xs = ys
  | _, _, _, .nil, .nil => rfl
  | _, _, _, .cons r t, .cons r' t' => by rw [r.inj r', bh.inj t t']
section
variable {X : Cx} {pins : List (Addr × Obj)} {σ : St} {H : Hp} {s : Shared} {a : Addr} {xs ys : List V}
theorem oa.of {K : PySem.W.Frag} (h : H a = some (.lst xs)) : oa K H a xs := .inl (.inl h)
theorem dS.of {K : PySem.W.Frag} (h : H a = some (.tup xs)) : dS K H a xs := .inl (.inl h)
theorem aC.list (I : aC X pins σ H s) (h : oa X.K H a xs) : ∃ its : List Value, bh xs its ∧ PlainL s.heap a its.toArray ∧ xs.length ≤ sizeLine := by
  rcases h with h | ⟨o, its, n, hk, hc, hd, hs, hz, r⟩
  · obtain ⟨z, its, n, r, e⟩ := h.ok I.hok
    exact ⟨its, r, ⟨_, n, e, rfl, rfl, rfl⟩, z⟩
  · refine ⟨its.toList, r, ⟨o, n, I.kIn a o hk, hc, hd, by simpa using hs⟩, ?_⟩
    have e := r.length
    simp only [Array.length_toList] at e
    omega
theorem aC.tuple (I : aC X pins σ H s) (h : dS X.K H a xs) : ∃ its : List Value, bh xs its ∧ IsTup s.heap a its.toArray ∧ xs.length ≤ sizeLine := by
  rcases h with h | ⟨o, its, n, hk, hc, hs, hz, r⟩
  · obtain ⟨z, its, r, p⟩ := h.ok I.hok
    exact ⟨its, r, p, z⟩
  · refine ⟨its.toList, r, ⟨o, I.kIn a o hk, hc, n, by simpa using hs⟩, ?_⟩
    have e := r.length
    simp only [Array.length_toList] at e
    omega
theorem aC.list_inj (I : aC X pins σ H s) (h : oa X.K H a xs) (h' : oa X.K H a ys) : xs = ys := by
  obtain ⟨its, r, ⟨o, n, e, _, _, d⟩, _⟩ := I.list h
  obtain ⟨its', r', ⟨o', n', e', _, _, d'⟩, _⟩ := I.list h'
  rw [e] at e'; cases e'
  rw [d] at d'
  injection d' with d1 _
  have : its = its' := by simpa using congrArg Array.toList d1
  subst this
  exact r.inj r'
theorem aC.tuple_inj (I : aC X pins σ H s) (h : dS X.K H a xs) (h' : dS X.K H a ys) : xs = ys := by
  obtain ⟨its, r, ⟨o, e, _, n, d⟩, _⟩ := I.tuple h
  obtain ⟨its', r', ⟨o', e', _, n', d'⟩, _⟩ := I.tuple h'
  rw [e] at e'; cases e'
  rw [d] at d'
  injection d' with d1 _
  have : its = its' := by simpa using congrArg Array.toList d1
  subst this
  exact r.inj r'
end
abbrev Cx.wish (X : Cx) (E : Value → Shared → Prop) : Cx := { X with xe := E }
abbrev Cx.nox (X : Cx) : Cx := X.wish fun _ _ => False
theorem Cx.Ok.wish {X : Cx} (ok : X.Ok) (E : Value → Shared → Prop) : (X.wish E).Ok :=
  ⟨ok.mod, ok.kind, ok.glob, ok.blt, ok.above, ok.inj, ok.has, ok.cab, ok.hd, ok.frames, ok.stk, ok.exf, ok.bs, ok.bsz, ok.noex, ok.exfs, ok.funs, ok.frf⟩
theorem Cx.Ok.unwish {X : Cx} {E : Value → Shared → Prop} (ok : (X.wish E).Ok) : X.Ok :=
  ⟨ok.mod, ok.kind, ok.glob, ok.blt, ok.above, ok.inj, ok.has, ok.cab, ok.hd, ok.frames, ok.stk, ok.exf, ok.bs, ok.bsz, ok.noex, ok.exfs, ok.funs, ok.frf⟩
section
variable {X : Cx} {pins : List (Addr × Obj)} {σ : St} {H : Hp} {s : Shared} {E : Value → Shared → Prop}
theorem aC.wish (I : aC X pins σ H s) (E : Value → Shared → Prop) : aC (X.wish E) pins σ H s := ⟨I.ok.wish E, I.os, I.bare, I.base, I.loc, I.cell, I.free, I.freeC, I.pin, I.hok, I.len⟩
theorem aC.unwish (I : aC (X.wish E) pins σ H s) : aC X pins σ H s := ⟨I.ok.unwish, I.os, I.bare, I.base, I.loc, I.cell, I.free, I.freeC, I.pin, I.hok, I.len⟩
theorem SP.unwish {D : o7} {f : Flow} {s' : Shared} (h : SP (X.wish E) pins D f s') : SP X pins D f s' := by
  cases f with
  | next => obtain ⟨σ', H', I, q⟩ := h; exact ⟨σ', H', I.unwish, q⟩
  | brk => obtain ⟨σ', H', I, q⟩ := h; exact ⟨σ', H', I.unwish, q⟩
  | cont => obtain ⟨σ', H', I, q⟩ := h; exact ⟨σ', H', I.unwish, q⟩
  | ret u => obtain ⟨v, σ', H', I, r, q⟩ := h; exact ⟨v, σ', H', I.unwish, r, q⟩
theorem PE.nox {e : Expr} {t : TE} (h : PE X.nox e t) : PE X e t := fun pins s σ H Q I hw =>
  wpAny_mono (h pins s σ H Q (I.wish _) hw) (fun _ _ ⟨v, H', I', r, q⟩ => ⟨v, H', I'.unwish, r, q⟩) fun _ _ z => False.elim z
theorem PT.nox {e : Expr} {t : TT} (h : PT X.nox e t) : PT X e t := fun pins s σ H Q I hw =>
  wpAny_mono (h pins s σ H Q (I.wish _) hw) (fun _ _ ⟨H', I', q⟩ => ⟨H', I'.unwish, q⟩) fun _ _ z => False.elim z
theorem pW.nox {st : List Stmt} {t : TS} (h : pW X.nox st t) : pW X st t := fun pins s σ H D I hw =>
  wpAny_mono (h pins s σ H D (I.wish _) hw) (fun _ _ q => q.unwish) fun _ _ z => False.elim z
end
section
variable {X : Cx} {st : Stmt} {rest : List Stmt} {t u : TS} {e : Expr} {te : TE} {pos : Pos}
def CS : TS := fun D σ H => D.nx σ H
def DN (t u : TS) : TS := fun D σ H => t { D with nx := u D } σ H
theorem zE : pW X [] CS := fun _ _ σ H _ I h => wpAny_execs_nil ⟨σ, H, I, h⟩
theorem nV (h1 : PS X st t) (h2 : pW X rest u) : pW X (st :: rest) (DN t u) := by
  intro pins s σ H D I h
  refine wpAny_execs_cons (cR (h1 pins s σ H { D with nx := u D } I h) fun f s1 q => ?_)
  cases f with
  | next =>
    obtain ⟨σ', H', I', q⟩ := q
    exact h2 pins s1 σ' H' D I' q
  | ret v => exact q
  | brk => exact q
  | cont => exact q
theorem va (h1 : PS X st t) : pW X [st] t := by
  intro pins s σ H D I h
  refine wpAny_execs_cons (cR (h1 pins s σ H D I h) fun f s1 q => ?_)
  cases f with
  | next => exact wpAny_execs_nil q
  | ret v => exact q
  | brk => exact q
  | cont => exact q
theorem aC.quiet {pins : List (Addr × Obj)} {σ : St} {H : Hp} {s : Shared} (I : aC X pins σ H s) : interactive X.env = false := by simp [interactive, I.ok.kind]
def CJ (te : TE) : TS := fun D σ H => te σ H fun _ H1 => D.nx σ H1
theorem zJ (he : PE X e te) (hs : swapsWith e none pos.line X.env = pure false := by rfl) : PS X (.Expr e pos) (CJ te) := by
  intro pins s σ H D I h
  exact wpAny_Expr_any (cR (he pins s σ H _ I h) fun v s1 ⟨x, H1, I1, r1, q1⟩ => ⟨σ, H1, I1, q1⟩) I.quiet hs
def El (te : TE) : TS := fun D σ H => te σ H D.rt
theorem sv (he : PE X e te) : PS X (.Return (some e) pos) (El te) := by
  intro pins s σ H D I h
  exact wpAny_Return_some (cR (he pins s σ H _ I h) fun v s1 ⟨x, H1, I1, r1, q1⟩ => ⟨x, σ, H1, I1, r1, q1⟩)
def D9 (c : TT) (t u : TS) : TS := fun D σ H => c σ H fun b H1 => if b = true then t D σ H1 else u D σ H1
theorem Ca {c : Expr} {a b : List Stmt} {tc : TT} (hc : PT X c tc) (ha : pW X a t) (hb : pW X b u) : PS X (.If c a b pos) (D9 tc t u) := by
  intro pins s σ H D I h
  refine wpAny_If (cR (hc pins s σ H _ I h) fun d s1 ⟨H1, I1, q1⟩ => ?_)
  cases d with
  | true => exact ha pins s1 σ H1 D I1 q1
  | false => exact hb pins s1 σ H1 D I1 q1
end
abbrev TG := V → St → Hp → (St → Hp → Prop) → Prop
abbrev A9 := List V → St → Hp → (St → Hp → Prop) → Prop
def PG (X : Cx) (target : Expr) (t : TG) : Prop :=
  ∀ (pins : List (Addr × Obj)) (s : Shared) (σ : St) (H : Hp) (v : V) (u : Value) (Q : St → Hp → Prop), aC X pins σ H s → bf v u → t v σ H Q →
    wpAny (model X.prog X.w) X.A (assign target X.env u) (fun _ s' => ∃ σ' H', aC X pins σ' H' s' ∧ Q σ' H') X.xe s
def DD (X : Cx) (ts : List Expr) (t : A9) : Prop :=
  ∀ (pins : List (Addr × Obj)) (s : Shared) (σ : St) (H : Hp) (vs : List V) (us : List Value) (Q : St → Hp → Prop), aC X pins σ H s → bh vs us → t vs σ H Q →
    wpAny (model X.prog X.w) X.A (assignInOrder ((assignEach ts X.env).map (·.2)) us) (fun _ s' => ∃ σ' H', aC X pins σ' H' s' ∧ Q σ' H') X.xe s
abbrev AM := V → V → V → Hp → (Hp → Prop) → Prop
def Ci (X : Cx) (t : AM) : Prop :=
  ∀ (pins : List (Addr × Obj)) (s : Shared) (σ : St) (H : Hp) (o i v : V) (ov iv u : Value) (Q : Hp → Prop), aC X pins σ H s → bf o ov → bf i iv → bf v u → t o i v H Q →
    wpAny (model X.prog X.w) X.A (setItem ov iv u) (fun _ s' => ∃ H', aC X pins σ H' s' ∧ Q H') X.xe s
abbrev DC := V → V → Hp → VK → Prop
def Ei (X : Cx) (op : Operator) (t : DC) : Prop :=
  ∀ (pins : List (Addr × Obj)) (s : Shared) (σ : St) (H : Hp) (x y : V) (v u : Value) (Q : VK), aC X pins σ H s → bf x v → bf y u → t x y H Q →
    wpAny (model X.prog X.w) X.A (inplaceOp op v u) (EP X pins σ Q) X.xe s
section
variable {X : Cx} {pos : Pos}
def AF (i : Nat) : TG := fun v σ H Q => Q (σ.set i (some v)) H
theorem jB {i : Nat} {x : Str} (hN : X.N.Nodup) (hi : X.N[i]? = some x) (hx : Ar X.env.scope x) (hf : X.fn x = true ∨ X.env.scope.names.lookup x = some .local := by first | exact .inl rfl | exact .inr rfl | assumption) : PG X (.Name x pos) (AF i) := by
  intro pins s σ H v u Q I r h
  exact wpAny_assign_Name (i6 I hN hi hx r (fun s' I' => ⟨_, H, I', h⟩) hf)
def D5 : A9 := fun vs σ H Q => vs = [] ∧ Q σ H
def Cp (t : TG) (u : A9) : A9 := fun vs σ H Q => ∃ v r, vs = v :: r ∧ t v σ H fun σ' H' => u r σ' H' Q
theorem uE : DD X [] D5 := by
  intro pins s σ H vs us Q I r h
  obtain ⟨e, h⟩ := h
  subst e
  cases r
  exact assignInOrder_nil ⟨σ, H, I, h⟩
theorem jg {e : Expr} {es : List Expr} {t : TG} {u : A9} (h1 : PG X e t) (h2 : DD X es u)
    (hs : (assignEach (e :: es) X.env).map (·.2) = assign e X.env :: (assignEach es X.env).map (·.2) := by rfl) : DD X (e :: es) (Cp t u) := by
  intro pins s σ H vs us Q I r h
  obtain ⟨v, vr, e1, h⟩ := h
  subst e1
  cases r with
  | cons r rr =>
    rw [hs]
    refine assignInOrder_cons (cR (h1 pins s σ H _ _ _ I r h) fun _ s1 ⟨σ1, H1, I1, q1⟩ => ?_)
    exact h2 pins s1 σ1 H1 _ _ Q I1 rr q1
def DX (K : PySem.W.Frag) (n : Nat) (t : A9) : TG := fun v σ H Q => ∃ a xs, v = .ref a ∧ dS K H a xs ∧ xs.length = n ∧ t xs σ H Q
theorem yr {es : List Expr} {k : Nat} {t : A9} {n : Nat} (hc : X.calm = true) (h : DD X es t)
    (hn : (assignEach es X.env).length = n := by rfl) (hst : (assignEach es X.env).findIdx? (·.1) = none := by rfl) : PG X (.Tuple es k pos) (DX X.K n t) := by
  intro pins s σ H v u Q I r hw
  obtain ⟨a, xs, e1, hq, hl, hw⟩ := hw
  subst e1
  cases r
  obtain ⟨its, rv, ht, hz⟩ := I.tuple hq
  refine assign_Tuple_tuple (I.ok.hd hc) ht (by simp [hn, ← hl, rv.length]) hst fun h' hx => ?_
  have I1 : aC X pins σ H { s with heap := h' } := I.kept (t' := s.toks) fun b o e => hx b o (Nat.ne_of_lt (Heap.lt_size e)) e
  exact h pins _ σ H xs _ Q I1 (by simpa using rv) hw
def Eb (to ti : TE) (t : AM) : TG := fun v σ H Q => to σ H fun o H1 => ti σ H1 fun i H2 => t o i v H2 fun H3 => Q σ H3
theorem A7 {o i : Expr} {to ti : TE} {t : AM} (ho : PE X o to) (hi : PE X i ti) (hs : Ci X t)
    (ha : ∀ v, assign (.Subscript o i pos) X.env v = (do
      let ov ← holding [v] (eval o X.env)
      let iv ← holding [v, ov] (eval i X.env)
      standAt pos
      holding [v, ov, iv] (setItem ov iv v)
      release [v, ov, iv] []) := by intro _; rfl) : PG X (.Subscript o i pos) (Eb to ti t) := by
  intro pins s σ H v u Q I r h
  rw [ha]
  refine wpAny_bind (wpAny_holding (cR (ho pins s σ H _ I h) fun ov s1 ⟨x, H1, I1, r1, q1⟩ => ?_))
  refine wpAny_bind (wpAny_holding (cR (hi pins s1 σ H1 _ I1 q1) fun iv s2 ⟨y, H2, I2, r2, q2⟩ => ?_))
  refine wpAny_bind (wpAny_standAt (wpAny_bind (wpAny_holding (cR (hs pins s2 σ H2 x y v ov iv u _ I2 r1 r2 r q2) fun _ s3 ⟨H3, I3, q3⟩ => ?_))))
  exact wpAny_release ⟨σ, H3, I3, q3⟩
def Cz (te : TE) (g : TG) : TS := fun D σ H => te σ H fun x H1 => g x σ H1 D.nx
theorem Bl {tg e : Expr} {te : TE} {g : TG} (he : PE X e te) (hg : PG X tg g) (hs : swapsWithSole [tg] e pos.line X.env = pure false := by rfl) (hw : swappedStores [tg] e X.env = pure none := by rfl)
    (h1 : (assignEach [tg] X.env).map (·.2) = [assign tg X.env] := by rfl) : PS X (.Assign [tg] e pos) (Cz te g) := by
  intro pins s σ H D I h
  refine wpAny_Assign_stores (cR (he pins s σ H _ I h) fun v s1 ⟨x, H1, I1, r1, q1⟩ => ?_) hs hw
  rw [h1]
  exact cR (hg pins s1 σ H1 x v _ I1 r1 q1) fun _ s2 q => q
theorem xp {i : Nat} {x : Str} {e : Expr} {te : TE} {pos' : Pos} (hN : X.N.Nodup) (hi : X.N[i]? = some x) (hx : Ar X.env.scope x) (he : PE X e te) (hs : swapsWith e (some (.Name x pos')) pos.line X.env = pure false := by rfl) (hf : X.fn x = true ∨ X.env.scope.names.lookup x = some .local := by first | exact .inl rfl | exact .inr rfl | assumption) :
    PS X (.Assign [.Name x pos'] e pos) (Cz te (AF i)) := by
  intro pins s σ H D I h
  refine wpAny_Assign_Name (cR (he pins s σ H _ I h) fun v s1 ⟨y, H1, I1, r1, q1⟩ => ?_) hs
  exact i6 I1 hN hi hx r1 (fun s2 I2 => ⟨_, H1, I2, q1⟩) hf
def D0 (i : Nat) (te : TE) (ti : DC) : TS := fun D σ H => ∃ x, σ[i]? = some (some x) ∧ te σ H fun y H1 => ti x y H1 fun z H2 => D.nx (σ.set i (some z)) H2
theorem BN {i : Nat} {x : Str} {e : Expr} {te : TE} {op : Operator} {ti : DC} {pos' : Pos} (hN : X.N.Nodup) (hi : X.N[i]? = some x) (hx : Ar X.env.scope x) (he : PE X e te) (ho : Ei X op ti) (hf : X.fn x = true ∨ X.env.scope.names.lookup x = some .local := by first | exact .inl rfl | exact .inr rfl | assumption) :
    PS X (.AugAssign (.Name x pos') op e pos) (D0 i te ti) := by
  intro pins s σ H D I h
  obtain ⟨v, e1, h⟩ := h
  obtain ⟨m, hn, hl⟩ := I.loc
  have vis : BP X.env.scope x := by rcases hx with k | k; exact .inl k; exact .inr (.inl k)
  obtain ⟨u, r, l⟩ := hl i x v hi e1 vis
  refine wpAny_AugAssign_Name ?_
  have go : wpAny (model X.prog X.w) X.A (eval e X.env) (fun w s₂ => wpAny (model X.prog X.w) X.A (inplaceOp op u w) (fun r s₃ => wpAny (model X.prog X.w) X.A (storeName X.env x r) (fun _ => SP X pins D .next) X.xe s₃) X.xe s₂) X.xe s := by
    refine cR (he pins s σ H _ I h) fun w s1 ⟨y, H1, I1, r1, q1⟩ => ?_
    refine cR (ho pins s1 σ H1 v y u w _ I1 r r1 q1) fun z s2 ⟨zv, H2, I2, r2, q2⟩ => ?_
    exact i6 I2 hN hi hx r2 (fun s3 I3 => ⟨_, H2, I3, q2⟩) hf
  rcases l with ⟨hk, hm⟩ | ⟨hk, c, hc, hcell⟩
  · exact wpAny_loadName_local I.ok.kind hk hn hm go
  · rcases hk with hk | hk
    · exact wpAny_loadName_cell I.ok.kind hk hc hcell go
    · rcases hx with k | k
      · have : X.env.scope.names.lookup x = some .free := hk
        rw [k] at this; cases this
      · have : X.env.scope.names.lookup x = some .free := hk
        rw [k] at this; cases this
def En (f : Int → Int → Int) : DC := fun x y H Q => ∃ i j, x = .int i ∧ y = .int j ∧ Q (.int (f i j)) H
theorem A3 : Ei X .Add (En fun i j => i + j) := by
  intro pins s σ H x y v u Q I r1 r2 h
  obtain ⟨i, j, e1, e2, q⟩ := h
  subst e1; subst e2
  obtain ⟨t, rfl⟩ := r1
  obtain ⟨t', rfl⟩ := r2
  exact iadd_int ⟨.int _, H, I.tok _, ⟨_, rfl⟩, q⟩
end
section
variable {X : Cx} {pos : Pos}
def BZ (c : TT) (tb : TS) : TS := fun D σ H => ∃ W : Nat → St → Hp → Prop, (∃ m, W m σ H) ∧ ∀ m σ H, W m σ H →
  c σ H fun b H1 => if b = true then ∃ N : St → Hp → Prop, (∀ σ' H', N σ' H' → ∃ m', m' < m ∧ W m' σ' H') ∧ tb { D with nx := N, ct := N, bk := D.nx } σ H1 else D.nx σ H1
theorem xu {c : Expr} {body : List Stmt} {tc : TT} {tb : TS} (hp : PassesOwn (model X.prog X.w) X.A X.env X.xe) (hc : PT X c tc) (hb : pW X body tb) : PS X (.While c body [] pos) (BZ tc tb) := by
  intro pins s σ H D I h
  obtain ⟨W, ⟨m0, w0⟩, turn⟩ := h
  refine wpAny_While (codeAny_whileLoop (fun n s' => ∃ σ' H', aC X pins σ' H' s' ∧ W n σ' H') ?_ m0 ⟨σ, H, I, w0⟩)
  rintro n s1 ⟨σ1, H1, I1, w1⟩
  refine wpAny_passesOwn hp (cR (hc pins s1 σ1 H1 _ I1 (turn n σ1 H1 w1)) fun b s2 ⟨H2, I2, q2⟩ => ?_)
  cases b with
  | true =>
    obtain ⟨N, hN, q2⟩ := q2
    rw [if_pos rfl]
    refine wpAny_passesOwn hp (cR (hb pins s2 σ1 H2 _ I2 q2) fun f s3 q3 => ?_)
    cases f with
    | next =>
      obtain ⟨σ3, H3, I3, n3⟩ := q3
      obtain ⟨m', hm, w3⟩ := hN σ3 H3 n3
      exact ⟨m', hm, σ3, H3, I3, w3⟩
    | cont =>
      obtain ⟨σ3, H3, I3, n3⟩ := q3
      obtain ⟨m', hm, w3⟩ := hN σ3 H3 n3
      exact ⟨m', hm, σ3, H3, I3, w3⟩
    | brk => exact q3
    | ret v => exact q3
  | false =>
    rw [if_neg Bool.false_ne_true]
    exact wpAny_execs_nil ⟨σ1, H2, I2, q2⟩
end
structure It where
  go : Nat → Hp → Prop
  yld : Nat → Hp → V → Hp → Prop
  stop : Nat → Hp → Prop
def lp (X : Cx) (pins : List (Addr × Obj)) (H : Hp) (b : Addr) : Prop :=
  H b = none ∧ b ≠ X.env.locals ∧ b ∉ X.fs ∧ (b ∈ X.ex ∨ X.s₀.heap.objs.size ≤ b) ∧ (∀ x c, X.env.cells.lookup x = some c → c ≠ b) ∧ ∀ p ∈ X.pn ++ pins, p.1 ≠ b
theorem aC.fpOk {X : Cx} {pins : List (Addr × Obj)} {σ : St} {H H' : Hp} {s : Shared} {b : Addr} (I : aC X pins σ H s) (hb : s.heap.objs.size ≤ b) (hn : H' b = none) : lp X pins H' b := by
  refine ⟨hn, Nat.ne_of_gt (Nat.lt_of_lt_of_le I.lt hb), I.nofs hb, .inr (Nat.le_trans I.sz hb), fun x c e z => ?_, fun p hp z => ?_⟩
  · obtain ⟨v, q⟩ := I.cell x c e
    exact absurd (Nat.lt_of_lt_of_le q.lt (by rw [z]; exact hb)) (Nat.lt_irrefl _)
  · exact absurd (Nat.lt_of_lt_of_le (Heap.lt_size (I.pin p hp).1) (by rw [z]; exact hb)) (Nat.lt_irrefl _)
structure rT (P : Program) (w : World) (K : PySem.W.Frag) (tg : Expr) (J : It) (fp : List Addr) (it : Addr) (tn : Nat → Heap → Prop) : Prop where
  mem : it ∈ fp
  obj : ∀ i h, tn i h → ∀ b ∈ fp, ∃ o, h.get? b = some o ∧ ∀ v, o.data ≠ .cell v
  keep : ∀ i h h', tn i h → (∀ b ∈ fp, ∀ o, h.get? b = some o → h'.get? b = some o) → tn i h'
  item : ∀ (X : Cx), X.prog = P → X.w = w → X.K = K → X.calm = true → ∀ (i : Nat) (pins : List (Addr × Obj)) (s : Shared) (σ : St) (H : Hp) (E : Value → Shared → Prop), aC X pins σ H s → (∀ b ∈ fp, lp X pins H b) → tn i s.heap → J.go i H →
    wpAny (model P w) X.A (pyNext (.ref it)) (fun r s1 => ∃ u, r = some u ∧
      wpAny (model P w) X.A (letOwnedTupleGo tg (.ref it) u) (fun _ s2 => ∃ x H', aC X pins σ H' s2 ∧ bf x u ∧ J.yld i H x H' ∧ tn (i + 1) s2.heap ∧ ∀ b ∈ fp, H' b = none) E s1) E s
  done : ∀ (X : Cx), X.prog = P → X.w = w → X.K = K → X.calm = true → ∀ (i : Nat) (pins : List (Addr × Obj)) (s : Shared) (σ : St) (H : Hp) (E : Value → Shared → Prop), aC X pins σ H s → (∀ b ∈ fp, lp X pins H b) → tn i s.heap → J.stop i H →
    wpAny (model P w) X.A (pyNext (.ref it)) (fun r s1 => r = none ∧ aC X pins σ H s1) E s
  self : ∀ (A : Around) (i : Nat) (s : Shared) (Q : Value → Shared → Prop) (E : Value → Shared → Prop), tn i s.heap → Q (.ref it) s → wpAny (model P w) A (pyIter (.ref it)) Q E s
abbrev TI := St → Hp → (It → Hp → Prop) → Prop
def Ew (X : Cx) (pins : List (Addr × Obj)) (σ : St) (tg : Expr) (R : It → Hp → Prop) (itv : Value) (s2 : Shared) : Prop :=
  ∃ (it : Addr) (fp : List Addr) (tn : Nat → Heap → Prop) (J : It) (H' : Hp), itv = .ref it ∧ aC X pins σ H' s2 ∧ rT X.prog X.w X.K tg J fp it tn ∧ tn 0 s2.heap ∧ (∀ b ∈ fp, lp X pins H' b) ∧ R J H'
def PI (X : Cx) (tg iter : Expr) (wi : TI) : Prop :=
  ∀ (pins : List (Addr × Obj)) (s : Shared) (σ : St) (H : Hp) (R : It → Hp → Prop), aC X pins σ H s → wi σ H R →
    wpAny (model X.prog X.w) X.A (eval iter X.env) (fun v s1 => wpAny (model X.prog X.w) X.A (pyIter v) (Ew X pins σ tg R) X.xe s1) X.xe s
theorem xr {M : Model} {A : Around} {E : Value → Shared → Prop} {s : Shared} {tg : Expr} {it : Addr} {u : Value} {o : Obj} {n : String} {vs : Array Value} {Q : Unit → Shared → Prop} (ho : s.heap.get? it = some o) (hc : o.cls = .type n) (hd : o.data = .fields vs)
    (hn : ["enumerate", "zip", "dict_itemiterator", "dict_reverseitemiterator", "odict_iterator", "itertools.zip_longest", "itertools.pairwise"].contains n = false) (hQ : Q () s) : wpAny M A (letOwnedTupleGo tg (.ref it) u) Q E s := by
  unfold letOwnedTupleGo
  cases tg <;> first
    | exact wpAny_pure hQ
    | (cases u <;> first
        | exact wpAny_pure hQ
        | (refine wpAny_bind (wpAny_load ho ?_)
           rw [hc, hd]
           show wpAny M A (if (["enumerate", "zip", "dict_itemiterator", "dict_reverseitemiterator", "odict_iterator", "itertools.zip_longest", "itertools.pairwise"].contains n && vs[0]? == some (rawInt _)) = true then _ else _) Q E s
           rw [if_neg (by intro h; rw [hn, Bool.false_and] at h; cases h)]
           exact wpAny_pure hQ))
def DR (K : PySem.W.Frag) (a : Addr) : It :=
  ⟨fun i H => ∃ xs x, oa K H a xs ∧ xs[i]? = some x, fun i H x H' => H' = H ∧ ∀ xs, oa K H a xs → xs[i]? = some x, fun i H => ∃ xs, oa K H a xs ∧ xs.length ≤ i⟩
def DV (K : PySem.W.Frag) (a : Addr) : It :=
  ⟨fun i H => ∃ xs x, dS K H a xs ∧ xs[i]? = some x, fun i H x H' => H' = H ∧ ∀ xs, dS K H a xs → xs[i]? = some x, fun i H => ∃ xs, dS K H a xs ∧ xs.length ≤ i⟩
def DB (lo : Int) (n : Nat) : It := ⟨fun i _ => i < n, fun i H x H' => H' = H ∧ x = .int (lo + i), fun i _ => n ≤ i⟩
theorem vD {P : Program} {w : World} {K : PySem.W.Frag} {tg : Expr} (a it : Addr) : rT P w K tg (DR K a) [it] it (fun i h => h.IsListIter it a i) where
  mem := by simp
  obj := fun i h st b hb => by
    have e : b = it := by simpa using hb
    subst e
    obtain ⟨o, e, c, d⟩ := st
    exact ⟨o, e, fun v z => by rw [d] at z; cases z⟩
  keep := fun i h h' st k => st.at fun o e => k it (by simp) o e
  item := by
    intro X hP hw hK hc i pins s σ H E I hf st hg
    subst hP hw hK
    obtain ⟨xs, x, hq, hx⟩ := hg
    obtain ⟨its, rv, p, hz⟩ := I.list hq
    obtain ⟨u, hu, ru⟩ := rv.get hx
    obtain ⟨f0, f1, f2, f3, f4, f5⟩ := hf it (by simp)
    refine wpAny_pyNext_list_item st p.isList (x := u) (by simpa using hu) fun h' st' sb => ?_
    have I1 : aC X pins σ H { s with heap := h' } := I.turned (t' := s.toks) (fun b o hb e => (sb.2 b hb).trans e) f0 f1 f3 f4 f5
    obtain ⟨o, e, c, d⟩ := id st'
    exact ⟨u, rfl, xr (s := { s with heap := h' }) e c d (by decide) ⟨x, H, I1, ru, ⟨rfl, fun ys hy => by rw [I.list_inj hy hq]; exact hx⟩, st', fun b hb => (hf b hb).1⟩⟩
  done := by
    intro X hP hw hK hc i pins s σ H E I hf st hg
    subst hP hw hK
    obtain ⟨xs, hq, hx⟩ := hg
    obtain ⟨its, rv, p, hz⟩ := I.list hq
    obtain ⟨f0, f1, f2, f3, f4, f5⟩ := hf it (by simp)
    have hl := rv.length
    exact wpAny_pyNext_list_end (I.ok.hd hc) st p.isList (by simp; omega) fun h' eb => ⟨rfl, I.turned (t' := s.toks) (fun b o hb e => eb b o hb e) f0 f1 f3 f4 f5⟩
  self := fun _ _ _ _ _ st h => wpAny_pyIter_listiter st h
theorem tw {P : Program} {w : World} {K : PySem.W.Frag} {tg : Expr} (a it : Addr) : rT P w K tg (DV K a) [it] it (fun i h => h.IsTupleIter it a i) where
  mem := by simp
  obj := fun i h st b hb => by
    have e : b = it := by simpa using hb
    subst e
    obtain ⟨o, e, c, d⟩ := st
    exact ⟨o, e, fun v z => by rw [d] at z; cases z⟩
  keep := fun i h h' st k => st.at fun o e => k it (by simp) o e
  item := by
    intro X hP hw hK hc i pins s σ H E I hf st hg
    subst hP hw hK
    obtain ⟨xs, x, hq, hx⟩ := hg
    obtain ⟨its, rv, p, hz⟩ := I.tuple hq
    obtain ⟨u, hu, ru⟩ := rv.get hx
    obtain ⟨f0, f1, f2, f3, f4, f5⟩ := hf it (by simp)
    refine wpAny_pyNext_tuple_item st (show s.heap.IsTuple a its.toArray from p) (x := u) (by simpa using hu) fun h' st' sb => ?_
    have I1 : aC X pins σ H { s with heap := h' } := I.turned (t' := s.toks) (fun b o hb e => (sb.2 b hb).trans e) f0 f1 f3 f4 f5
    obtain ⟨o, e, c, d⟩ := id st'
    exact ⟨u, rfl, xr (s := { s with heap := h' }) e c d (by decide) ⟨x, H, I1, ru, ⟨rfl, fun ys hy => by rw [I.tuple_inj hy hq]; exact hx⟩, st', fun b hb => (hf b hb).1⟩⟩
  done := by
    intro X hP hw hK hc i pins s σ H E I hf st hg
    subst hP hw hK
    obtain ⟨xs, hq, hx⟩ := hg
    obtain ⟨its, rv, p, hz⟩ := I.tuple hq
    obtain ⟨f0, f1, f2, f3, f4, f5⟩ := hf it (by simp)
    have hl := rv.length
    exact wpAny_pyNext_tuple_end (I.ok.hd hc) st (show s.heap.IsTuple a its.toArray from p) (by simp; omega) fun h' eb => ⟨rfl, I.turned (t' := s.toks) (fun b o hb e => eb b o hb e) f0 f1 f3 f4 f5⟩
  self := fun _ _ _ _ _ st h => wpAny_pyIter_tupleiter st h
theorem tK {P : Program} {w : World} {K : PySem.W.Frag} {tg : Expr} (it : Addr) (lo : Int) (n : Nat) : rT P w K tg (DB lo n) [it] it (fun i h => IsRangeIter h it (lo + (i : Nat) * 1) ((n : Int) - (i : Nat)) 1) where
  mem := by simp
  obj := fun i h st b hb => by
    have e : b = it := by simpa using hb
    subst e
    exact ⟨_, st, fun v z => by
      have z' : Data.fields _ = Data.cell v := z
      cases z'⟩
  keep := fun i h h' st k => k it (by simp) _ st
  item := by
    intro X hP hw hK hc i pins s σ H E I hf st hg
    subst hP hw hK
    obtain ⟨f0, f1, f2, f3, f4, f5⟩ := hf it (by simp)
    have W := Walks.range (prog := X.prog) (w := X.w) (I.ok.hd hc) it lo 1 n
    refine W.item i s _ _ hg st fun v h' tk hv st' kk => ?_
    obtain ⟨t, rfl⟩ := hv
    have I1 : aC X pins σ H { s with heap := h', toks := tk } := I.turned (fun b o hb e => kk b o (by simpa using hb) e) f0 f1 f3 f4 f5
    refine ⟨_, rfl, xr (s := { s with heap := h', toks := tk }) (n := "range_iterator") st' rfl rfl (by decide) ⟨.int (lo + i), H, I1, ⟨t, ?_⟩, ⟨rfl, rfl⟩, st', fun b hb => (hf b hb).1⟩⟩
    rw [Int.mul_one]
  done := by
    intro X hP hw hK hc i pins s σ H E I hf st hg
    subst hP hw hK
    obtain ⟨f0, f1, f2, f3, f4, f5⟩ := hf it (by simp)
    exact wpAny_pyNext_range_end (I.ok.hd hc) st (by have : n ≤ i := hg; omega) fun h' eb => ⟨rfl, I.turned (t' := s.toks) (fun b o hb e => eb b o hb e) f0 f1 f3 f4 f5⟩
  self := fun _ _ _ _ _ st h => wpAny_pyIter_rangeiter st h
section
variable {X : Cx} {tg : Expr}
theorem wB {pins : List (Addr × Obj)} {σ : St} {H : Hp} {s : Shared} {R : It → Hp → Prop} {E : Value → Shared → Prop} {lo hi : Int} {t u v : Tok} {tk : Nat} (I : aC X pins σ H s) (h1 : -(2 ^ 62) ≤ lo) (h2 : lo < 2 ^ 62) (h3 : -(2 ^ 62) ≤ hi) (h4 : hi < 2 ^ 62)
    (q : R (DB lo (hi - lo).toNat) H) : wpAny (model X.prog X.w) X.A (pyIter (.ref s.heap.objs.size)) (Ew X pins σ tg R) E { s with heap := s.heap.push { cls := .type "range", data := .fields #[.int lo t, .int hi u, .int 1 v] }, toks := tk } := by
  refine wpAny_pyIter_range (IsRange.new ..) (small_one h1 h2 h3 h4) ?_
  have I1 : aC X pins σ H { s with heap := s.heap.push { cls := .type "range", data := .fields #[.int lo t, .int hi u, .int 1 v] }, toks := tk } := I.kept fun b o e => Heap.get?_push_of_some _ e
  refine ⟨(s.heap.push { cls := .type "range", data := .fields #[.int lo t, .int hi u, .int 1 v] }).objs.size, [(s.heap.push { cls := .type "range", data := .fields #[.int lo t, .int hi u, .int 1 v] }).objs.size], _, _, H, rfl,
    I1.kept (t' := tk) fun b o e => Heap.get?_push_of_some _ e, tK _ lo (hi - lo).toNat, ?_, fun b hb => ?_, q⟩
  · have e1 : lo + ((0 : Nat) : Int) * 1 = lo := by simp
    have e2 : (((hi - lo).toNat : Nat) : Int) - ((0 : Nat) : Int) = Builtin.Range.rangeSize lo hi 1 := by rw [rangeSize_one]; split <;> omega
    show IsRangeIter _ _ (lo + ((0 : Nat) : Int) * 1) ((((hi - lo).toNat : Nat) : Int) - ((0 : Nat) : Int)) 1
    rw [e1, e2]
    exact Heap.get?_push_size _ rfl
  · have e : b = (s.heap.push { cls := .type "range", data := .fields #[.int lo t, .int hi u, .int 1 v] }).objs.size := by simpa using hb
    subst e
    exact I1.fpOk (Nat.le_refl _) (I1.hok.fresh (Nat.le_refl _))
def Dq (ta : TA) : TI := fun σ H R => ta σ H fun vs H1 => ∃ j : Int, vs = [.int j] ∧ -(2 ^ 62) ≤ j ∧ j < 2 ^ 62 ∧ R (DB 0 j.toNat) H1
theorem vm {a : Expr} {ta : TA} {p pos : Pos} (hg : Gl X "range") (hm : X.mg "range" = none) (ha : PA X [a] ta) (hs : starEach [a] X.env = [(false, eval a X.env)] := by rfl) : PI X tg (.Call (.Name "range" p) [a] [] pos) (Dq ta) := by
  intro pins s σ H R I h
  refine Call_ (il I hg hm boot_range (PyProof.Rows.callWith_type1 (cR (ha pos pins s σ H _ I h) fun us s1 ⟨vs, H1, I1, r1, q1⟩ => ?_) hs rfl))
  obtain ⟨j, e, q1, q2, q⟩ := q1
  subst e
  cases r1 with
  | cons r rr =>
    cases rr
    obtain ⟨t, rfl⟩ := r
    exact call_range_1 (wB I1 (by omega) (by omega) q1 q2 (by simpa using q))
def Ek (wi : TI) (g : TG) (tb : TS) : TS := fun D σ H => wi σ H fun J H1 => ∃ W : Nat → Nat → St → Hp → Prop, (∃ m, W 0 m σ H1) ∧ ∀ i m σ H, W i m σ H →
  (J.stop i H ∧ D.nx σ H) ∨ (J.go i H ∧ ∃ N : St → Hp → Prop, (∀ σ' H', N σ' H' → ∃ m', m' < m ∧ W (i + 1) m' σ' H') ∧ ∀ x H', J.yld i H x H' → g x σ H' fun σ2 H2 => tb { D with nx := N, ct := N, bk := D.nx } σ2 H2)
def mO (fp : List Addr) (h : Heap) : List (Addr × Obj) := fp.filterMap fun b => (h.get? b).map fun o => (b, o)
theorem iM {fp : List Addr} {h : Heap} {b : Addr} {o : Obj} (hb : b ∈ fp) (e : h.get? b = some o) : (b, o) ∈ mO fp h := List.mem_filterMap.mpr ⟨b, hb, by rw [e]; rfl⟩
theorem vC {fp : List Addr} {h : Heap} {p : Addr × Obj} (hp : p ∈ mO fp h) : p.1 ∈ fp ∧ h.get? p.1 = some p.2 := by
  obtain ⟨b, hb, e⟩ := List.mem_filterMap.mp hp
  cases q : h.get? b with
  | none => rw [q] at e; cases e
  | some o =>
    rw [q] at e
    have e' : (b, o) = p := Option.some.inj e
    subst e'
    exact ⟨hb, q⟩
theorem aC.pinned {pins : List (Addr × Obj)} {σ : St} {H : Hp} {s : Shared} {fp : List Addr} (I : aC X pins σ H s) (hf : ∀ b ∈ fp, lp X pins H b) (ho : ∀ b ∈ fp, ∃ o, s.heap.get? b = some o ∧ ∀ v, o.data ≠ .cell v) : aC X (pins ++ mO fp s.heap) σ H s :=
  I.pins_of fun p hp => (List.mem_append.mp hp).elim (fun z => I.pin p (List.mem_append_right _ z)) fun z => by
    obtain ⟨hb, e⟩ := vC z
    obtain ⟨f0, f1, f2, _⟩ := hf p.1 hb
    obtain ⟨o, e', d⟩ := ho p.1 hb
    rw [e] at e'; cases e'
    exact ⟨e, f0, f1, f2, d⟩
theorem aC.unpinned {pins pl : List (Addr × Obj)} {σ : St} {H : Hp} {s : Shared} (I : aC X (pins ++ pl) σ H s) : aC X pins σ H s := I.pins_of fun p hp => I.pin p (List.mem_append_right _ (List.mem_append_left _ hp))
theorem Bv {iter : Expr} {body : List Stmt} {wi : TI} {g : TG} {tb : TS} {pos : Pos} (hp : PassesOwn (model X.prog X.w) X.A X.env X.xe) (hc : X.calm = true) (hi : PI X tg iter wi) (hg : PG X tg g) (hb : pW X body tb)
    (hs : ∀ x, foldedSetIterable iter X.env x = pure x := by intro _; rfl) : PS X (.For tg iter body [] pos) (Ek wi g tb) := by
  intro pins s σ H D I h
  refine wpAny_For (cR (hi pins s σ H _ I h) fun v s1 h1 => cR h1 fun itv s2 h2 => ?_) hs
  obtain ⟨it, fp, tn, J, H2, e, I2, T, st2, f2, W, ⟨m0, w0⟩, turn⟩ := h2
  subst e
  -- what stays true of the iterator's objects through the loop
  have stat : ∀ {H' : Hp}, (∀ b ∈ fp, H' b = none) → ∀ b ∈ fp, lp X pins H' b := fun hn b hb => ⟨hn b hb, (f2 b hb).2⟩
  refine codeAny_forLoop_any (fun n s' => ∃ i σ' H', aC X pins σ' H' s' ∧ tn i s'.heap ∧ (∀ b ∈ fp, H' b = none) ∧ W i n σ' H') ?_ m0 ⟨0, σ, H2, I2, st2, fun b hb => (f2 b hb).1, w0⟩
  rintro n s3 ⟨i, σ3, H3, I3, st3, fr3, w3⟩
  rcases turn i n σ3 H3 w3 with ⟨stop, qn⟩ | ⟨go, N, hN, step⟩
  · refine wpAny_passesOwn hp (cR (T.done X rfl rfl rfl hc i pins s3 σ3 H3 X.xe I3 (stat fr3) st3 stop) fun r s4 ⟨hr, I4⟩ => ?_)
    subst hr
    exact wpAny_execs_nil ⟨σ3, H3, I4, qn⟩
  · refine wpAny_passesOwn hp (cR (T.item X rfl rfl rfl hc i pins s3 σ3 H3 X.xe I3 (stat fr3) st3 go) fun r s4 ⟨u, hr, h4⟩ => ?_)
    subst hr
    refine wpAny_passesOwn hp (cR h4 fun _ s5 ⟨x, H5, I5, r5, y5, st5, fr5⟩ => ?_)
    have I5' := I5.pinned (stat fr5) (T.obj _ _ st5)
    refine wpAny_passesOwn hp (cR (hg _ s5 σ3 H5 x u _ I5' r5 (step x H5 y5)) fun _ s6 ⟨σ6, H6, I6, q6⟩ => ?_)
    refine wpAny_passesOwn hp (cR (hb _ s6 σ6 H6 _ I6 q6) fun f s7 q7 => ?_)
    have again : ∀ {σ7 : St} {H7 : Hp}, aC X (pins ++ mO fp s5.heap) σ7 H7 s7 → N σ7 H7 → ∃ m, m < n ∧ ∃ i σ' H', aC X pins σ' H' s7 ∧ tn i s7.heap ∧ (∀ b ∈ fp, H' b = none) ∧ W i m σ' H' := fun {σ7 H7} I7 n7 => by
      obtain ⟨m', hm, w7⟩ := hN σ7 H7 n7
      refine ⟨m', hm, i + 1, σ7, H7, I7.unpinned, T.keep _ _ _ st5 fun b hb o e => (I7.pin (b, o) (List.mem_append_right _ (List.mem_append_right _ (iM hb e)))).1, fun b hb => ?_, w7⟩
      obtain ⟨o, e, d⟩ := T.obj _ _ st5 b hb
      exact (I7.pin (b, o) (List.mem_append_right _ (List.mem_append_right _ (iM hb e)))).2.1
    cases f with
    | next => obtain ⟨σ7, H7, I7, n7⟩ := q7; exact again I7 n7
    | cont => obtain ⟨σ7, H7, I7, n7⟩ := q7; exact again I7 n7
    | brk => obtain ⟨σ7, H7, I7, q7⟩ := q7; exact ⟨σ7, H7, I7.unpinned, q7⟩
    | ret v => obtain ⟨x7, σ7, H7, I7, r7, q7⟩ := q7; exact ⟨x7, σ7, H7, I7.unpinned, r7, q7⟩
end
abbrev R2 := V → V → Hp → VK → Prop
def iS (X : Cx) (f : Value → Value → Sem Value) (r : R2) : Prop :=
  ∀ (pins : List (Addr × Obj)) (s : Shared) (σ : St) (H : Hp) (x y : V) (v u : Value) (Q : VK), aC X pins σ H s → bf x v → bf y u → r x y H Q →
    wpAny (model X.prog X.w) X.A (f v u) (EP X pins σ Q) X.xe s
def DU (X : Cx) (f : Value → Sem Value) (r : V → Hp → VK → Prop) : Prop :=
  ∀ (pins : List (Addr × Obj)) (s : Shared) (σ : St) (H : Hp) (x : V) (v : Value) (Q : VK), aC X pins σ H s → bf x v → r x H Q →
    wpAny (model X.prog X.w) X.A (f v) (EP X pins σ Q) X.xe s
def dO (X : Cx) (f : Value) (r : List V → Hp → VK → Prop) : Prop :=
  ∀ (pins : List (Addr × Obj)) (s : Shared) (σ : St) (H : Hp) (xs : List V) (us : List Value) (Q : VK), aC X pins σ H s → bh xs us → r xs H Q →
    wpAny (model X.prog X.w) X.A (call f us) (EP X pins σ Q) X.xe s
def CV (r : R2) (ta tb : TE) : TE := fun σ H Q => ta σ H fun x H1 => tb σ H1 fun y H2 => r x y H2 Q
def Es (r : V → Hp → VK → Prop) (ta : TE) : TE := fun σ H Q => ta σ H fun x H1 => r x H1 Q
def rI (C : Int → Int → Prop) (g : Int → Int → V) : R2 := fun x y H Q => ∃ i j, x = .int i ∧ y = .int j ∧ C i j ∧ Q (g i j) H
def yA (g : Int → Int → V) : R2 := fun x y H Q => ∃ i j, x = .int i ∧ y = .int j ∧ Q (g i j) H
def rU (g : Int → V) : V → Hp → VK → Prop := fun x H Q => ∃ i, x = .int i ∧ Q (g i) H
section
variable {X : Cx} {a b c : Expr} {ta tb tc : TE} {pos : Pos}
theorem Bt (ha : PE X a ta) (hb : PE X b tb) {pins : List (Addr × Obj)} {s : Shared} {σ : St} {H : Hp} {R : V → V → Hp → Prop} (I : aC X pins σ H s)
    (h : ta σ H fun x H1 => tb σ H1 fun y H2 => R x y H2) {Q : Value → Shared → Prop} {f : Value → Value → Sem Value}
    (hf : ∀ v u s2 x y H2, aC X pins σ H2 s2 → bf x v → bf y u → R x y H2 → wpAny (model X.prog X.w) X.A (f v u) Q X.xe s2) :
    wpAny (model X.prog X.w) X.A (eval a X.env) (fun v s₁ => wpAny (model X.prog X.w) X.A (eval b X.env) (fun u s₂ => wpAny (model X.prog X.w) X.A (f v u) Q X.xe s₂) X.xe s₁) X.xe s := by
  refine cR (ha pins s σ H _ I h) fun v s1 ⟨x, H1, I1, r1, q1⟩ => ?_
  refine cR (hb pins s1 σ H1 _ I1 q1) fun u s2 ⟨y, H2, I2, r2, q2⟩ => ?_
  exact hf v u s2 x y H2 I2 r1 r2 q2
theorem Dg {op : Operator} {r : R2} (ho : iS X (binaryOp op) r) (ha : PE X a ta) (hb : PE X b tb) : PE X (.BinOp a op b pos) (CV r ta tb) := by
  intro pins s σ H Q I h
  exact wpAny_BinOp (Bt ha hb I h fun v u s2 x y H2 I2 rx ry q => ho pins s2 σ H2 x y v u Q I2 rx ry q)
theorem Dh {op : UnaryOp} {r : V → Hp → VK → Prop} (ho : DU X (unaryOp op) r) (ha : PE X a ta) : PE X (.UnaryOp op a pos) (Es r ta) := by
  intro pins s σ H Q I h
  exact UnaryOp_ (cR (ha pins s σ H _ I h) fun v s1 ⟨x, H1, I1, r1, q1⟩ => ho pins s1 σ H1 x v Q I1 r1 q1)
theorem Ed {f : Value → Value → Sem Value} {C : Int → Int → Prop} {g : Int → Int → Int}
    (rule : ∀ (i j : Int) (t u : Tok) (s : Shared) (Q : Value → Shared → Prop) (E : Value → Shared → Prop), C i j → Q (.int (g i j) s.toks) { s with toks := s.toks + 1 } → wpAny (model X.prog X.w) X.A (f (.int i t) (.int j u)) Q E s) :
    iS X f (rI C fun i j => .int (g i j)) := by
  intro pins s σ H x y v u Q I rx ry h
  obtain ⟨i, j, rfl, rfl, hc, q⟩ := h
  obtain ⟨t, rfl⟩ := rx
  obtain ⟨t', rfl⟩ := ry
  exact rule i j t t' s _ _ hc ⟨.int (g i j), H, I.tok _, ⟨_, rfl⟩, q⟩
theorem Cs {f : Value → Value → Sem Value} {g : Int → Int → Int}
    (rule : ∀ (i j : Int) (t u : Tok) (s : Shared) (Q : Value → Shared → Prop) (E : Value → Shared → Prop), Q (.int (g i j) s.toks) { s with toks := s.toks + 1 } → wpAny (model X.prog X.w) X.A (f (.int i t) (.int j u)) Q E s) :
    iS X f (yA fun i j => .int (g i j)) := by
  intro pins s σ H x y v u Q I rx ry h
  obtain ⟨i, j, rfl, rfl, q⟩ := h
  obtain ⟨t, rfl⟩ := rx
  obtain ⟨t', rfl⟩ := ry
  exact rule i j t t' s _ _ ⟨.int (g i j), H, I.tok _, ⟨_, rfl⟩, q⟩
theorem AQ {f : Value → Value → Sem Value} {g : Int → Int → Bool}
    (rule : ∀ (i j : Int) (t u : Tok) (s : Shared) (Q : Value → Shared → Prop) (E : Value → Shared → Prop), Q (.bool (g i j)) s → wpAny (model X.prog X.w) X.A (f (.int i t) (.int j u)) Q E s) :
    iS X f (yA fun i j => .bl (g i j)) := by
  intro pins s σ H x y v u Q I rx ry h
  obtain ⟨i, j, rfl, rfl, q⟩ := h
  obtain ⟨t, rfl⟩ := rx
  obtain ⟨t', rfl⟩ := ry
  exact rule i j t t' s _ _ ⟨.bl (g i j), H, I, rfl, q⟩
def Da (i j : Int) : Prop := 0 < j ∧ j < 1073741824
def zU (i j : Int) : Prop := (-(2 ^ 64) < i ∧ i < 2 ^ 64) ∨ (-(2 ^ 64) < j ∧ j < 2 ^ 64)
theorem zU.ok {i j : Int} (h : zU i j) : IntMulOk i j := by
  rcases h with ⟨h1, h2⟩ | ⟨h1, h2⟩
  · exact .of_left (intBits_le_64 h1 h2)
  · exact .of_right (intBits_le_64 h1 h2)
theorem AU : iS X (binaryOp .Add) (yA fun i j => .int (i + j)) := Cs fun _ _ _ _ _ _ _ q => add_int q
theorem A5 : iS X (binaryOp .Sub) (yA fun i j => .int (i - j)) := Cs fun _ _ _ _ _ _ _ q => sub_int q
theorem BU : iS X (binaryOp .Mult) (rI zU fun i j => .int (i * j)) := Ed fun _ _ _ _ _ _ _ hc q => mul_int q hc.ok
theorem zg : iS X (binaryOp .FloorDiv) (rI Da fun i j => .int (i / j)) := Ed fun i j _ _ _ _ _ hc q => by
  have h1 : (0 : Int) < j := hc.1
  have h2 : j < 1073741824 := hc.2
  exact floordiv_int (by omega) (by rw [Int.fdiv_eq_ediv_of_nonneg i (by omega)]; exact q) (.inl (PyProof.noPylong_small (by omega)))
theorem AZ : iS X (binaryOp .Mod) (rI (fun _ j => 0 < j) fun i j => .int (i % j)) := Ed fun i j _ _ _ _ _ hc q => by
  have h1 : (0 : Int) < j := hc
  exact mod_int' (by omega) (by rw [Int.fmod_eq_emod_of_nonneg i (by omega)]; exact q)
theorem EI {f : Value → Sem Value} {g : Int → Int}
    (rule : ∀ (i : Int) (t : Tok) (s : Shared) (Q : Value → Shared → Prop) (E : Value → Shared → Prop), Q (.int (g i) s.toks) { s with toks := s.toks + 1 } → wpAny (model X.prog X.w) X.A (f (.int i t)) Q E s) :
    DU X f (rU fun i => .int (g i)) := by
  intro pins s σ H x v Q I rx h
  obtain ⟨i, rfl, q⟩ := h
  obtain ⟨t, rfl⟩ := rx
  exact rule i t s _ _ ⟨.int (g i), H, I.tok _, ⟨_, rfl⟩, q⟩
theorem Bx : DU X (unaryOp .USub) (rU fun i => .int (-i)) := EI fun _ _ _ _ _ q => neg_int q
end
section
variable {X : Cx} {a b c : Expr} {ta tb tc : TE} {pos : Pos}
theorem xj {pins : List (Addr × Obj)} {σ : St} {H : Hp} {s : Shared} {Q : VK} {k k' : Bool} (I : aC X pins σ H s) (q : Q (.bl k) H) (e : k = k') : EP X pins σ Q (.bool k') s := by
  subst e
  exact ⟨.bl k, H, I, rfl, q⟩
theorem Ct : iS X (compareOp .Lt) (yA fun i j => .bl (decide (i < j))) := AQ fun _ _ _ _ _ _ _ q => lt_int q
theorem At : iS X (compareOp .LtE) (yA fun i j => .bl (decide (i ≤ j))) := AQ fun _ _ _ _ _ _ _ q => le_int q
theorem Av : iS X (compareOp .Gt) (yA fun i j => .bl (decide (j < i))) := AQ fun _ _ _ _ _ _ _ q => gt_int q
theorem xP : iS X (compareOp .Is) (fun x y H Q => y = .non ∧ Q (.bl (decide (x = .non))) H) := by
  intro pins s σ H x y v u Q I rx ry h
  obtain ⟨rfl, q⟩ := h
  cases ry
  refine is_none_gen (xj I q ?_)
  cases x <;> first
    | (cases rx; rfl)
    | (obtain ⟨t, rfl⟩ := rx; rfl)
theorem zG : iS X (compareOp .IsNot) (fun x y H Q => y = .non ∧ Q (.bl (!decide (x = .non))) H) := by
  intro pins s σ H x y v u Q I rx ry h
  obtain ⟨rfl, q⟩ := h
  cases ry
  refine isnot_none_gen (xj I q ?_)
  cases x <;> first
    | (cases rx; rfl)
    | (obtain ⟨t, rfl⟩ := rx; rfl)
theorem iS.or {f : Value → Value → Sem Value} {r r' : R2} (h : iS X f r) (h' : iS X f r') : iS X f (fun x y H Q => r x y H Q ∨ r' x y H Q) := by
  intro pins s σ H x y v u Q I rx ry q
  rcases q with q | q
  · exact h pins s σ H x y v u Q I rx ry q
  · exact h' pins s σ H x y v u Q I rx ry q
theorem gY (b : Expr) {op : CmpOp} (h : op ≠ .In := by decide) (h2 : op ≠ .NotIn := by decide) : behindInMarks op b = false := by
  have e1 : (op == CmpOp.In) = false := by cases op <;> first | rfl | exact absurd rfl h
  have e2 : (op == CmpOp.NotIn) = false := by cases op <;> first | rfl | exact absurd rfl h2
  cases b <;> simp [behindInMarks, e1, e2]
theorem zA {op : CmpOp} {r : R2} (ho : iS X (compareOp op) r) (ha : PE X a ta) (hb : PE X b tb) (hm : behindInMarks op b = false) : PE X (.Compare a [op] [b] pos) (CV r ta tb) := by
  intro pins s σ H Q I h
  exact wpAny_Compare1 (Bt ha hb I h fun v u s2 x y H2 I2 rx ry q => ho pins s2 σ H2 x y v u Q I2 rx ry q) hm
def CT (t : TE) : TT := fun σ H Q => t σ H fun x H' => ∃ k, x = .bl k ∧ Q k H'
theorem zq {op : CmpOp} {r : R2} (ho : iS X (compareOp op) r) (ha : PE X a ta) (hb : PE X b tb) (hm : behindInMarks op b = false) : PT X (.Compare a [op] [b] pos) (CT (CV r ta tb)) := by
  intro pins s σ H Q I h
  refine wpAny_isTrue_Compare1 (cR (ha pins s σ H _ I h) fun v s1 ⟨x, H1, I1, r1, q1⟩ => cR (hb pins s1 σ H1 _ I1 q1) fun u s2 ⟨y, H2, I2, r2, q2⟩ =>
    cR (ho pins s2 σ H2 x y v u _ I2 r1 r2 q2) fun c s3 ⟨z, H3, I3, r3, k, e, q3⟩ => ?_) hm
  subst e
  cases r3
  exact wpAny_truthy_bool ⟨H3, I3, q3⟩
def yk (r r' : R2) (ta tb tc : TE) : TE := fun σ H Q => ta σ H fun x H1 => tb σ H1 fun y H2 => r x y H2 fun z H3 => ∃ k, z = .bl k ∧
  (if k = true then tc σ H3 fun w' H4 => r' y w' H4 Q else Q (.bl false) H3)
theorem wF {op op' : CmpOp} {r r' : R2} (ho : iS X (compareOp op) r) (ho' : iS X (compareOp op') r') (ha : PE X a ta) (hb : PE X b tb) (hc : PE X c tc)
    (hm : lastMarks [op, op'] [b, c] = false := by with_unfolding_all rfl) : PE X (.Compare a [op, op'] [b, c] pos) (yk r r' ta tb tc) := by
  intro pins s σ H Q I h
  refine Compare_chain (cR (ha pins s σ H _ I h) fun v s1 ⟨x, H1, I1, r1, q1⟩ => chain_link (cR (hb pins s1 σ H1 _ I1 q1) fun u s2 ⟨y, H2, I2, r2, q2⟩ =>
    cR (ho pins s2 σ H2 x y v u _ I2 r1 r2 q2) fun d s3 ⟨z, H3, I3, r3, k, e, q3⟩ => ?_)) hm
  subst e
  cases r3
  refine wpAny_truthy_bool ?_
  cases k with
  | false => exact ite_ff ⟨.bl false, H3, I3, rfl, q3⟩
  | true => exact ite_tt (chain_last (cR (hc pins s3 σ H3 _ I3 q3) fun w' s4 ⟨z', H4, I4, r4, q4⟩ => ho' pins s4 σ H4 y z' u w' Q I4 r2 r4 q4))
theorem lu : (sizeLine : Nat) < 2 ^ 63 := by rw [sizeLine_eq]; decide
theorem ja {x : V} {us : List Value} (r : bh [x] us) : ∃ u, us = [u] ∧ bf x u := by
  cases r with
  | cons r1 r2 => cases r2; exact ⟨_, rfl, r1⟩
theorem qR {x y : V} {us : List Value} (r : bh [x, y] us) : ∃ u w', us = [u, w'] ∧ bf x u ∧ bf y w' := by
  cases r with
  | cons r1 r2 =>
    cases r2 with
    | cons r3 r4 => cases r4; exact ⟨_, _, rfl, r1, r3⟩
theorem vR (hc : X.calm = true) : dO X (.builtin "max") (fun xs H Q => ∃ i j, xs = [.int i, .int j] ∧ Q (.int (if j > i then j else i)) H) := by
  intro pins s σ H xs us Q I r h
  obtain ⟨i, j, rfl, q⟩ := h
  obtain ⟨u, w', rfl, ⟨t, rfl⟩, ⟨t', rfl⟩⟩ := qR r
  refine max_two_ints (I.ok.hd hc) fun h' tk k => ⟨_, H, I.kept k, ?_, q⟩
  by_cases hj : j > i
  · rw [if_pos hj, if_pos hj]; exact ⟨_, rfl⟩
  · rw [if_neg hj, if_neg hj]; exact ⟨_, rfl⟩
theorem vj (hc : X.calm = true) : dO X (.builtin "min") (fun xs H Q => ∃ i j, xs = [.int i, .int j] ∧ Q (.int (if j < i then j else i)) H) := by
  intro pins s σ H xs us Q I r h
  obtain ⟨i, j, rfl, q⟩ := h
  obtain ⟨u, w', rfl, ⟨t, rfl⟩, ⟨t', rfl⟩⟩ := qR r
  refine min_two_ints (I.ok.hd hc) fun h' tk k => ⟨_, H, I.kept k, ?_, q⟩
  by_cases hj : j < i
  · rw [if_pos hj, if_pos hj]; exact ⟨_, rfl⟩
  · rw [if_neg hj, if_neg hj]; exact ⟨_, rfl⟩
theorem wp : dO X (.type "int") (fun xs H Q => (∃ i, xs = [.int i] ∧ Q (.int i) H) ∨ ∃ k, xs = [.bl k] ∧ Q (.int (if k then 1 else 0)) H) := by
  intro pins s σ H xs us Q I r h
  rcases h with ⟨i, rfl, q⟩ | ⟨k, rfl, q⟩
  · obtain ⟨u, rfl, t, rfl⟩ := ja r
    exact call_int_int ⟨.int i, H, I, ⟨_, rfl⟩, q⟩
  · obtain ⟨u, rfl, r1⟩ := ja r
    cases r1
    exact call_int_bool ⟨.int (if k then 1 else 0), H, I.tok _, ⟨_, rfl⟩, q⟩
end
structure vA (h : Heap) (x dx C : Addr) (mA : Str → Option Value) : Prop where
  obj : h.get? x = some (PySem.W.instObj C dx)
  ns : h.Ns1 dx mA
  ne : dx ≠ x
theorem v8 {h : Heap} {dx : Addr} {mA : Str → Option Value} (n : h.Ns1 dx mA) : ∃ od, h.get? dx = some od ∧ ∀ name, PySem.W.lookIn name od = some (mA name) := by
  obtain ⟨o, es, ep, ho, hd, hk, _, hm⟩ := n
  refine ⟨o, ho, fun name => ?_⟩
  have e := hm name
  unfold nsFind findBy at e
  rw [← Array.find?_toList] at e
  unfold PySem.W.lookIn
  rw [hd]
  dsimp only
  split
  · rename_i y q
    rw [q] at e
    exact congrArg some e
  · rename_i q
    rw [q] at e
    have a : es.toList.any (·.refKey) = false := by
      rw [List.any_eq_false]
      intro y hy
      obtain ⟨z, t, hkey⟩ := hk y (Array.mem_toList_iff.mp hy)
      simp [DictEntry.refKey, hkey]
    have a' : ¬ es.toList.any (·.refKey) = true := by rw [a]; exact Bool.false_ne_true
    rw [if_neg a']
    exact congrArg some e
theorem vA.look {h : Heap} {x dx C : Addr} {mA : Str → Option Value} (I : vA h x dx C mA) : ∃ od, PySem.W.InstAt h x (PySem.W.instObj C dx) C (some od) ∧ ∀ name, PySem.W.lookIn name od = some (mA name) :=
  let ⟨od, ho, hl⟩ := v8 I.ns
  ⟨od, ⟨I.obj, rfl, rfl, ho⟩, hl⟩
section
variable {prog : Program} {w : World} {A : Around} {E : Value → Shared → Prop} {s : Shared} {K : PySem.W.Frag} {x dx C f : Addr} {mA : Str → Option Value} {name : Str} {v : Value}
theorem zP {expr : Bool} {Q : Value → Shared → Prop} (X : K.In s.heap) (I : vA s.heap x dx C mA) (hg : PySem.W.plainGet K C name = true) (hh : PySem.W.hasDictIn K C = true)
    (ha : PySem.W.findIn K (.ref C) name = some none) (hv : mA name = some v) (hv' : PySem.W.handedIn v = true) (h : Q v { s with toks := s.toks + 1 }) :
    wpAny (model prog w) A (getAttr (.ref x) name expr) Q E s := by
  obtain ⟨od, J, hl⟩ := I.look
  exact PySem.W.get_value X J (PySem.W.plainGet_of hg).1 (PySem.W.findObj_own hh ha rfl (by rw [hl, hv])) hv' h
theorem zp {ns : List Str} {Q : Unit → Shared → Prop} (X : K.In s.heap) (I : vA s.heap x dx C mA)
    (hs : PySem.W.findIn K (.ref C) "__setattr__" = some (some (.builtin "object.__setattr__"))) (hp : PySem.W.plainOver K C = true) (ht : PySem.W.takerIn K C name = some none) (hh : PySem.W.hasDictIn K C = true)
    (hw : PySem.Within mA ns) (hsz : ns.length ≤ sizeLine)
    (h : ∀ h', vA h' x dx C (fun y => if y = name then some v else mA y) → Heap.SameBut dx s.heap h' → Q () { s with heap := h', toks := s.toks + 2 }) :
    wpAny (model prog w) A (setAttr (.ref x) name v) Q E s := by
  obtain ⟨od, J, hl⟩ := I.look
  refine PySem.W.set_plain X J hs (PySem.W.osa_open (s := { s with toks := s.toks + 1 }) (r := none) X J hp ht fun b => ?_)
  obtain ⟨cd, hc, hd'⟩ := PySem.W.any_some hh
  have hx : s.heap.get? x = some ⟨.ref C, some dx, .plain, #[]⟩ := I.obj
  refine wpAny_bind (wpAny_pure (wpAny_bind (wpAny_bind (wpAny_loadPart hx (wpAny_bind (PySem.W.Looks.here (s := { s with toks := s.toks + 1 }) (PySem.W.looks_clsIn X hc) ?_))))))
  rw [hd']
  refine wpAny_pure (a := some dx) (wpAny_bind (wpAny_pure (wpAny_bind ?_)))
  refine wpAny_nsSet1 (s := { s with toks := s.toks + 1 }) I.ns fun h' hn2 hs2 => ?_
  obtain ⟨oD, esD, epD, hoD, hdD, hcD⟩ := hn2.count (PySem.Within.cons name v hw)
  refine wpAny_bind (wpAny_lookBehind hoD (by rw [hdD]; exact pastItsLine_dict (Nat.le_trans hcD (by rw [List.length_cons]; omega))) ?_)
  exact wpAny_pure (h _ ⟨(hs2.2 _ (Ne.symm I.ne)).trans I.obj, hn2, I.ne⟩ hs2)
theorem yb {R : Result → Shared → Prop} {vs : List Value} {kw : List (Str × Value)} (X : K.In s.heap) (hm : PySem.W.makesIn K C = true)
    (hi : PySem.W.findIn K (.ref C) "__init__" = some (some (.ref f))) (hf : PySem.W.typeIn K (.ref f) = some (.type "function"))
    (h : codeAny (model prog w) (A.under (.builtin "type.__call__" ⟨.ref C :: vs, kw⟩)) (.call (.ref f) ⟨.ref (s.heap.objs.size + 1) :: vs, kw⟩) (PySem.W.InitBack (s.heap.objs.size + 1) R)
      { s with heap := (s.heap.push PySem.W.emptyDict).push (PySem.W.instObj C s.heap.objs.size) }) :
    codeAny (model prog w) A (.call (.ref C) ⟨vs, kw⟩) R s := by
  obtain ⟨hh, g, d, t, os⟩ := s
  exact PySem.W.make_core (PySem.W.makes_of X hm) (PySem.W.looks_findIn X hi) (fun self => PySem.W.bind_fn X self hf) (.inl rfl) h
end
def hV (f : Str) (v : V) : List (Str × V) → List (Str × V)
  | [] => [(f, v)]
  | (g, x) :: r => if g = f then (g, v) :: r else (g, x) :: hV f v r
theorem lF (f g : Str) (v : V) : ∀ fs : List (Str × V), (hV f v fs).lookup g = if g = f then some v else fs.lookup g
  | [] => by
    show List.lookup g [(f, v)] = _
    by_cases h : g = f
    · have hb : (g == f) = true := beq_iff_eq.mpr h
      simp only [List.lookup, hb, if_pos h]
    · have hb : (g == f) = false := beq_eq_false_iff_ne.mpr h
      simp only [List.lookup, hb, if_neg h]
  | (k, x) :: r => by
    have ih := lF f g v r
    rw [show hV f v ((k, x) :: r) = (if k = f then (k, v) :: r else (k, x) :: hV f v r) from rfl]
    by_cases hk : k = f
    · rw [if_pos hk]
      by_cases h : g = k
      · have hb : (g == k) = true := beq_iff_eq.mpr h
        simp only [List.lookup, hb, if_pos (h.trans hk)]
      · have hb : (g == k) = false := beq_eq_false_iff_ne.mpr h
        simp only [List.lookup, hb, if_neg (fun e : g = f => h (e.trans hk.symm))]
    · rw [if_neg hk]
      by_cases h : g = k
      · have hb : (g == k) = true := beq_iff_eq.mpr h
        simp only [List.lookup, hb, if_neg (fun e : g = f => hk (h.symm.trans e))]
      · have hb : (g == k) = false := beq_eq_false_iff_ne.mpr h
        simp only [List.lookup, hb]
        exact ih
theorem k9 (f : Str) (v : V) : ∀ fs : List (Str × V), f ∈ (hV f v fs).map (·.1) ∧ ∀ g, g ∈ fs.map (·.1) → g ∈ (hV f v fs).map (·.1)
  | [] => ⟨by simp [hV], fun g h => by simp at h⟩
  | (k, x) :: r => by
    obtain ⟨i1, i2⟩ := k9 f v r
    rw [show hV f v ((k, x) :: r) = (if k = f then (k, v) :: r else (k, x) :: hV f v r) from rfl]
    by_cases hk : k = f
    · rw [if_pos hk]
      subst hk
      exact ⟨by simp, fun g h => by simpa using h⟩
    · rw [if_neg hk]
      refine ⟨?_, fun g h => ?_⟩
      · rw [List.map_cons]
        exact List.mem_cons_of_mem _ i1
      · rw [List.map_cons] at h ⊢
        rcases List.mem_cons.mp h with e | e
        · exact List.mem_cons.mpr (.inl e)
        · exact List.mem_cons_of_mem _ (i2 g e)
theorem gw (f : Str) (v : V) : ∀ fs : List (Str × V), (hV f v fs).length ≤ fs.length + 1
  | [] => by simp [hV]
  | (k, x) :: r => by
    have ih := gw f v r
    rw [show hV f v ((k, x) :: r) = (if k = f then (k, v) :: r else (k, x) :: hV f v r) from rfl]
    by_cases hk : k = f
    · rw [if_pos hk, List.length_cons, List.length_cons]; omega
    · rw [if_neg hk, List.length_cons, List.length_cons]; omega
theorem lr.some_of {v : V} {o : Option Value} (r : lr (some v) o) : ∃ u, o = some u ∧ bf v u := by
  cases o with
  | none => exact (show False from r).elim
  | some u => exact ⟨u, rfl, r⟩
theorem vJ {v : V} {u : Value} (r : bf v u) : PySem.W.handedIn u = true := by
  cases v with
  | non => cases (show u = Value.none from r); rfl
  | bl b => cases (show u = Value.bool b from r); rfl
  | int i => obtain ⟨t, e⟩ := (show ∃ t, u = Value.int i t from r); cases e; rfl
  | str x => obtain ⟨t, e⟩ := (show ∃ t, u = Value.str x t from r); cases e; rfl
  | byt b => obtain ⟨t, e⟩ := (show ∃ t, u = Value.bytes b t from r); cases e; rfl
  | flt b => obtain ⟨t, e⟩ := (show ∃ t, u = Value.float b t from r); cases e; rfl
  | ref a => cases (show u = Value.ref a from r); rfl
  | ty n => cases (show u = Value.type n from r); rfl
section
variable {P : Program} {w : World} {H H' : Hp} {h h' : Heap} {a C dx : Addr} {fs fs' : List (Str × V)}
theorem uD (hok : iX P w H h) (e : H a = some (.ins C dx fs)) : ∃ mA, vA h a dx C mA ∧ (∀ f, lr (fs.lookup f) (mA f)) ∧ PySem.Within mA (fs.map (·.1)) ∧ fs.length ≤ 1000 ∧ H dx = some (.own a) := by
  obtain ⟨d, z, ne, ob, mA, n, r, q⟩ := (show bI P w H h a (.ins C dx fs) from hok a _ e)
  exact ⟨mA, ⟨ob, n, ne⟩, r, q, z, d⟩
end
structure vZ (K : PySem.W.Frag) (C : Addr) : Prop where
  pg : PySem.W.plainGet K C Str.empty = true
  hd : PySem.W.hasDictIn K C = true
  po : PySem.W.plainOver K C = true
  sa : PySem.W.findIn K (.ref C) "__setattr__" = some (some (.builtin "object.__setattr__"))
theorem vZ.get {K : PySem.W.Frag} {C : Addr} (c : vZ K C) (f : Str) : PySem.W.plainGet K C f = true := c.pg
def dw (K : PySem.W.Frag) (C : Addr) (f : Str) : Prop := PySem.W.findIn K (.ref C) f = some none
theorem dw.taker {K : PySem.W.Frag} {C : Addr} {f : Str} (n : dw K C f) : PySem.W.takerIn K C f = some none := by
  unfold PySem.W.takerIn
  rw [show PySem.W.findIn K (.ref C) f = some none from n]
  rfl
section
variable {X : Cx} {pins : List (Addr × Obj)} {σ : St} {H : Hp} {s : Shared} {a C dx : Addr} {fs : List (Str × V)} {f : Str} {v : V} {A : Around} {E : Value → Shared → Prop}
theorem sR {y : V} {u : Value} {Q : Unit → Shared → Prop} (I : aC X pins σ H s) (e : H a = some (.ins C dx fs)) (c : vZ X.K C) (n : dw X.K C f) (hl : fs.length < 1000) (ry : bf y u)
    (h : ∀ s', aC X pins σ (ci H a (.ins C dx (hV f y fs))) s' → Q () s') : wpAny (model X.prog X.w) A (setAttr (.ref a) f u) Q E s := by
  obtain ⟨mA, O, r, wi, _, ho⟩ := uD I.hok e
  have hz : (fs.map (·.1)).length ≤ sizeLine := by rw [List.length_map, sizeLine_eq]; omega
  refine zp I.kIn O c.sa c.po n.taker c.hd wi hz fun h' O' sb => h _ ?_
  have hd : ∃ o, h'.get? dx = some o := let ⟨o, _, _, e', _⟩ := O'.ns; ⟨o, e'⟩
  refine I.write (x := a) (e := dx) (by rw [e]; exact True.intro) (.inr ho) (fun b q hb z => (sb.2 b hb).trans z) hd ?_
  refine ⟨by rw [ar O.ne]; exact ho, ?_, O.ne, O'.obj, _, O'.ns, fun g => ?_, fun g hg => ?_⟩
  · have := gw f y fs; omega
  · show lr ((hV f y fs).lookup g) (if g = f then some u else mA g)
    rw [lF]
    by_cases q : g = f
    · rw [if_pos q, if_pos q]; exact ry
    · rw [if_neg q, if_neg q]; exact r g
  · by_cases q : g = f
    · rw [q]; exact (k9 f y fs).1
    · refine (k9 f y fs).2 g (wi g fun z => hg ?_)
      show (if g = f then some u else mA g) = none
      rw [if_neg q]; exact z
theorem aC.made (I : aC X pins σ H s) : aC X pins σ (ci (ci H s.heap.objs.size (.own (s.heap.objs.size + 1))) (s.heap.objs.size + 1) (.ins C s.heap.objs.size []))
    { s with heap := (s.heap.push PySem.W.emptyDict).push (PySem.W.instObj C s.heap.objs.size) } := by
  have e1 : (s.heap.push PySem.W.emptyDict).get? s.heap.objs.size = some PySem.W.emptyDict := Heap.get?_push_size s.heap rfl
  have e2 : ((s.heap.push PySem.W.emptyDict).push (PySem.W.instObj C s.heap.objs.size)).get? (s.heap.objs.size + 1) = some (PySem.W.instObj C s.heap.objs.size) := by
    have := Heap.get?_push_size (s.heap.push PySem.W.emptyDict) (o := PySem.W.instObj C s.heap.objs.size) rfl
    rwa [Heap.size_push] at this
  have e3 : (s.heap.push PySem.W.emptyDict).Ns s.heap.objs.size (fun _ => none) := ⟨PySem.W.emptyDict, #[], _, e1, rfl, (fun e he => absurd he (by simp)), fun _ => rfl⟩
  have I1 := I.laid (a := s.heap.objs.size) (o := .own (s.heap.objs.size + 1)) (h' := s.heap.push PySem.W.emptyDict) (t' := s.toks) (fun b u q => Heap.get?_push_of_some _ q) (Nat.le_refl _) ⟨_, e1⟩
  refine I1.laid (a := s.heap.objs.size + 1) (o := .ins C s.heap.objs.size []) (t' := s.toks) (fun b u q => Heap.get?_push_of_some _ q) (Nat.le_of_eq (Heap.size_push _ _)) ?_
  have ne : s.heap.objs.size ≠ s.heap.objs.size + 1 := Nat.ne_of_lt (Nat.lt_succ_self _)
  refine ⟨by rw [ar ne, aX], Nat.zero_le _, ne, e2, fun _ => none, (Heap.Ns1.of_empty e3).at fun o q => Heap.get?_push_of_some _ q, fun _ => True.intro, fun y hy => absurd rfl hy⟩
theorem Ae {prog : Program} {w : World} {env : Env} {e : Expr} {f : Str} {pos : Pos} {s : Shared} {Q : Value → Shared → Prop} (hb : attributeBase e f env (eval e env) = eval e env)
    (h : wpAny (model prog w) A (eval e env) (fun o s₁ => wpAny (model prog w) A (getAttr o f true) Q E s₁) E s) : wpAny (model prog w) A (eval (.Attribute e f pos) env) Q E s :=
  Attribute_any_ h (by rw [arm_eval_Attribute, hb])
end
def DT (K : PySem.W.Frag) (ta tv : TE) (f : Str) : TS := fun D σ H => tv σ H fun y H1 => ta σ H1 fun x H2 => ∃ a C dx fs, x = .ref a ∧ H2 a = some (.ins C dx fs) ∧ vZ K C ∧ dw K C f ∧ fs.length < 1000 ∧
  D.nx σ (ci H2 a (.ins C dx (hV f y fs)))
section
variable {X : Cx} {o e value : Expr} {f : Str} {pos pos' tpos : Pos} {ta tv : TE}
theorem uf (ha : PE X o ta) (hv : PE X value tv) (hs : swapsWith value (some (.Attribute o f pos')) pos.line X.env = pure false) : PS X (.Assign [.Attribute o f pos'] value pos) (DT X.K ta tv f) := by
  intro pins s σ H D I h
  refine plainObj_wpAny_Assign_Attribute (cR (hv pins s σ H _ I h) fun u s1 ⟨y, H1, I1, ry, q⟩ => cR (ha pins s1 σ H1 _ I1 q) fun ov s2 ⟨x, H2, I2, rx, a, C, dx, fs, ex, ea, c, n, l, q2⟩ => ?_) hs
  subst ex
  obtain rfl : ov = Value.ref a := rx
  exact sR I2 ea c n l ry fun s3 I3 => ⟨σ, _, I3, q2⟩
end
section
variable {X : Cx} {pins : List (Addr × Obj)} {σ : St} {H : Hp} {s : Shared} {A : Around} {E : Value → Shared → Prop} {Q : Value → Shared → Prop} {c : Value} {b : Bool}
inductive kL (K : PySem.W.Frag) (H : Hp) : V → Value → Prop where
  | non : kL K H .non (.type "NoneType")
  | bl (x : Bool) : kL K H (.bl x) (.type "bool")
  | int (i : Int) : kL K H (.int i) (.type "int")
  | str (x : Str) : kL K H (.str x) (.type "str")
  | flt (x : UInt64) : kL K H (.flt x) (.type "float")
  | lst {a : Addr} {xs : List V} (e : H a = some (.lst xs)) : kL K H (.ref a) (.type "list")
  | frz {a : Addr} {o : Obj} {xs : List V} (e : H a = some (.frz o (.lst xs))) : kL K H (.ref a) (.type "list")
  | tup {a : Addr} {xs : List V} (e : H a = some (.tup xs)) : kL K H (.ref a) (.type "tuple")
  | dK {a : Addr} {kvs : List (cV × V)} (e : H a = some (.dK kvs)) : kL K H (.ref a) (.type "dict")
  | dT {a : Addr} {kvs : List (List cV × V)} (e : H a = some (.dT kvs)) : kL K H (.ref a) (.type "dict")
  | ins {a C dx : Addr} {fs : List (Str × V)} (e : H a = some (.ins C dx fs)) (cl : vZ K C) (ha : PySem.W.findIn K (.ref C) "__class__" = some (some (.builtin "object.__class__")))
      (hn : PySem.W.specialIn K (.builtin "object.__class__") "__get__" = some (some (.builtin "getset_descriptor.__get__"))) (htk : PySem.W.takesIn K (.builtin "object.__class__") = some true)
      (hm : PySem.W.mroIn K C (.type "object") = some true) : kL K H (.ref a) (.ref C)
theorem wr {x : V} {u t : Value} (I : aC X pins σ H s) (rx : bf x u) (ty : kL X.K H x t) (e : PySem.W.kitOne X.K t c = some b) (h : ∀ tk, Q (.bool b) { s with toks := tk }) :
    wpAny (model X.prog X.w) A (call (.builtin "isinstance") [u, c]) Q E s := by
  cases ty with
  | non => cases (show u = Value.none from rx); exact PySem.W.kia_one PySem.W.kitx_none I.kIn True.intro e (fun z => nomatch z) h
  | bl y => cases (show u = Value.bool y from rx); exact PySem.W.kia_one PySem.W.kitx_bool I.kIn True.intro e (fun z => nomatch z) h
  | int i => obtain ⟨t, q⟩ := (show ∃ t, u = Value.int i t from rx); cases q; exact PySem.W.kia_one PySem.W.kitx_int I.kIn True.intro e (fun z => nomatch z) h
  | str y => obtain ⟨t, q⟩ := (show ∃ t, u = Value.str y t from rx); cases q; exact PySem.W.kia_one PySem.W.kitx_str I.kIn True.intro e (fun z => nomatch z) h
  | flt y => obtain ⟨t, q⟩ := (show ∃ t, u = Value.float y t from rx); cases q; exact PySem.W.kia_one PySem.W.kitx_float I.kIn True.intro e (fun z => nomatch z) h
  | @lst a xs ea =>
    cases (show u = Value.ref a from rx)
    obtain ⟨_, _, n, _, h1⟩ := (show bI X.prog X.w H s.heap a (.lst xs) from I.hok a _ ea)
    exact PySem.W.kia_one PySem.W.kitx_list I.kIn ⟨_, h1, rfl⟩ e (fun z => nomatch z) h
  | @frz a ob xs ea =>
    cases (show u = Value.ref a from rx)
    obtain ⟨_, _, _, n, _, h1⟩ := (show bI X.prog X.w H s.heap a (.frz ob (.lst xs)) from I.hok a _ ea)
    exact PySem.W.kia_one PySem.W.kitx_list I.kIn ⟨_, h1, rfl⟩ e (fun z => nomatch z) h
  | @tup a xs ea =>
    cases (show u = Value.ref a from rx)
    obtain ⟨_, _, _, p⟩ := (show bI X.prog X.w H s.heap a (.tup xs) from I.hok a _ ea)
    obtain ⟨o, h1, h2, _⟩ := p
    exact PySem.W.kia_one PySem.W.kitx_tuple I.kIn ⟨o, h1, h2⟩ e (fun z => nomatch z) h
  | @dK a kvs ea =>
    cases (show u = Value.ref a from rx)
    obtain ⟨_, _, vs, _, p⟩ := (show bI X.prog X.w H s.heap a (.dK kvs) from I.hok a _ ea)
    obtain ⟨o, es, ep, h1, h2, _⟩ := p
    exact PySem.W.kia_one PySem.W.kitx_dict I.kIn ⟨o, h1, h2.1⟩ e (fun z => nomatch z) h
  | @dT a kvs ea =>
    cases (show u = Value.ref a from rx)
    obtain ⟨_, _, xs, _, o, es, ep, h1, h2, _⟩ := (show bI X.prog X.w H s.heap a (.dT kvs) from I.hok a _ ea)
    exact PySem.W.kia_one PySem.W.kitx_dict I.kIn ⟨o, h1, h2.1⟩ e (fun z => nomatch z) h
  | @ins a C dx fs ea cl ha hn htk hm =>
    cases (show u = Value.ref a from rx)
    obtain ⟨mA, O, _⟩ := uD I.hok ea
    obtain ⟨od, J, _⟩ := O.look
    exact PySem.W.kia_one (PySem.W.kitx_own (cl.get _) cl.hd ha hn htk hm) I.kIn J e (fun z => nomatch z) h
end
structure dD (k : Nat) (A : Around) : Prop where
  hd : A.handled = none
  dp : A.depth + 3 * k + 5 < recursionLimit
  un : A.units + 16 * k + 200 < cLine
theorem dD.mono {j k : Nat} {A : Around} (r : dD k A) (h : j ≤ k) : dD j A := ⟨r.hd, by have := r.dp; omega, by have := r.un; omega⟩
theorem dD.deeper {k : Nat} {A : Around} (r : dD (k + 1) A) (env : Env) : dD k (A.deeper env) :=
  ⟨r.hd, by have := r.dp; show A.depth + 1 + 3 * k + 5 < _; omega, by have := r.un; show A.units + 3 + 16 * k + 200 < _; omega⟩
theorem sS {A : Around} {C : Addr} {us : List Value} {kw : List (Str × Value)} : (A.under (.builtin "type.__call__" ⟨.ref C :: us, kw⟩)).depth = A.depth + 1 := by
  first | rfl | simp [Around.under, Code.weight, Code.isCreation, Code.isGuard, Code.isCaller, Code.frames, Code.isFrame, guardIds]
theorem uh {A : Around} {C : Addr} {us : List Value} {kw : List (Str × Value)} : (A.under (.builtin "type.__call__" ⟨.ref C :: us, kw⟩)).units = A.units + 1 := by
  first | rfl | simp [Around.under, Code.cUnits, Code.frames, Code.isFrame]
theorem dD.make {k : Nat} {A : Around} (r : dD (k + 1) A) (C : Addr) (us : List Value) (kw : List (Str × Value)) : dD k (A.under (.builtin "type.__call__" ⟨.ref C :: us, kw⟩)) :=
  ⟨r.hd, by have := r.dp; rw [sS]; omega, by have := r.un; rw [uh]; omega⟩
theorem dD.depth {k : Nat} {A : Around} (r : dD k A) : A.depth < recursionLimit := by have := r.dp; omega
theorem dD.units {k : Nat} {A : Around} (r : dD k A) : A.units + 64 < cLine := by have := r.un; omega
def Ej : TA := fun _ H Q => Q [] H
def CP (ta : TE) (tr : TA) : TA := fun σ H Q => ta σ H fun x H1 => tr σ H1 fun xs H2 => Q (x :: xs) H2
section
variable {X : Cx} {e : Expr} {es : List Expr} {te : TE} {t : TA} {pos : Pos}
theorem tZ : PA X [] Ej := fun _ _ _ _ H Q I h => Calls.spliced_nil ⟨[], H, I, .nil, h⟩
theorem kX (ha : PE X e te) (hr : PA X es t) (hs : starEach (e :: es) X.env = (false, eval e X.env) :: starEach es X.env := by rfl) : PA X (e :: es) (CP te t) := by
  intro pos pins s σ H Q I h
  rw [hs]
  show wpAny _ _ (spliced ((false, eval e X.env) :: backTo pos (starEach es X.env))) _ _ s
  refine Calls.spliced_cons (cR (ha pins s σ H _ I h) fun u s1 ⟨x, H1, I1, r1, q1⟩ => ?_)
  exact cR (hr pos pins s1 σ H1 _ I1 q1) fun us s2 ⟨xs, H2, I2, r2, q2⟩ => ⟨x :: xs, H2, I2, .cons r1 r2, q2⟩
def Ee (t : TA) : TE := fun σ H Q => t σ H fun xs H1 => xs.length ≤ sizeLine ∧ ∀ p, H1 p = none → Q (.ref p) (ci H1 p (.tup xs))
def DH (t : TA) : TE := fun σ H Q => t σ H fun xs H1 => xs.length ≤ sizeLine ∧ ∀ p, H1 p = none → Q (.ref p) (ci H1 p (.lst xs))
theorem Bk {x1} (h : PA X es t) : PE X (.Tuple es x1 pos) (Ee t) := by
  intro pins s σ H Q I hq
  refine wpAny_Tuple_spliced (cR (h pos pins s σ H _ I hq) fun us s1 ⟨xs, H1, I1, r, z, q⟩ => ⟨by rw [← r.length]; exact z, ?_⟩)
  have hf : H1 s1.heap.objs.size = none := I1.hok.fresh (Nat.le_refl _)
  refine ⟨.ref s1.heap.objs.size, ci H1 s1.heap.objs.size (.tup xs), I1.laid (t' := s1.toks) (fun b u e => Heap.get?_push_of_some _ e) (Nat.le_refl _) ?_, rfl, q _ hf⟩
  exact ⟨z, us, r, ⟨_, Heap.get?_push_size _ rfl, rfl, _, rfl⟩⟩
theorem Bw (h : PA X es t) : PE X (.List es pos) (DH t) := by
  intro pins s σ H Q I hq
  refine wpAny_List_spliced (cR (h pos pins s σ H _ I hq) fun us s1 ⟨xs, H1, I1, r, z, q⟩ => ⟨by rw [← r.length]; exact z, ?_⟩)
  have hf : H1 s1.heap.objs.size = none := I1.hok.fresh (Nat.le_refl _)
  refine ⟨.ref s1.heap.objs.size, ci H1 s1.heap.objs.size (.lst xs), I1.laid (t' := s1.toks) (fun b u e => Heap.get?_push_of_some _ e) (Nat.le_refl _) ?_, rfl, q _ hf⟩
  exact ⟨z, us, 0, r, Heap.get?_push_size _ rfl⟩
end
abbrev Sp := List V → Hp → VK → XK → Prop
abbrev ww := List Env → Hp → Shared → XK → Value → Shared → Prop
structure sQ (P : Program) (w : World) (K : PySem.W.Frag) (mg : Str → Option Value) (base : Heap) (A : Around) (outer : List Env) (s : Shared) (H : Hp) : Prop where
  frames : A.frames = some outer
  mod : Mod K mg base
  bs : ∀ b o, base.get? b = some o → s.heap.get? b = some o ∧ H b = none
  bsz : base.objs.size ≤ s.heap.objs.size
  funs : s.heap.FunFrames base outer
  frf : ∀ b ∈ md outer, H b = none
  hok : iX P w H s.heap
  bare : AllBare s.gens
def CE (outer : List Env) (P : Program) (w : World) (H : Hp) (s : Shared) (Q : VK) (u : Value) (s' : Shared) : Prop :=
  ∃ v H', s'.os = s.os ∧ AllBare s'.gens ∧ Un (md outer) [] H H' s.heap s'.heap ∧ iX P w H' s'.heap ∧ bf v u ∧ Q v H'
def CR (CX : ww) (outer : List Env) (P : Program) (w : World) (H : Hp) (s : Shared) (Q : VK) (E : XK) (r : Result) (s' : Shared) : Prop :=
  match r with
  | .ok (.ret u) => CE outer P w H s Q u s'
  | .ok _ => False
  | .error e => CX outer H s E e s'
structure aV (P : Program) (w : World) (K : PySem.W.Frag) (mg : Str → Option Value) (base : Heap) (CX : ww) (k : Nat) (f : Addr) (fd : FuncData) (ps : List Str) (sp : Sp) : Prop where
  len : ∀ vs H Q E, sp vs H Q E → vs.length = ps.length
  run : ∀ (A : Around) (outer : List Env) (s : Shared) (H : Hp) (args : Args) (us : List Value) (vs : List V) (Q : VK) (E : XK), dD k A → sQ P w K mg base A outer s H → BindsTo s fd args (ps.zip us) → bh vs us → sp vs H Q E →
    codeAny (model P w) A (.call (.ref f) args) (CR CX outer P w H s Q E) s
theorem aV.mono {P : Program} {w : World} {K : PySem.W.Frag} {mg : Str → Option Value} {base : Heap} {CX : ww} {j k : Nat} {f : Addr} {fd : FuncData} {ps : List Str} {sp : Sp} (F : aV P w K mg base CX j f fd ps sp) (h : j ≤ k) :
    aV P w K mg base CX k f fd ps sp := ⟨F.len, fun A outer s H args us vs Q E hr => F.run A outer s H args us vs Q E (hr.mono h)⟩
theorem aV.imp {P : Program} {w : World} {K : PySem.W.Frag} {mg : Str → Option Value} {base : Heap} {CX : ww} {k : Nat} {f : Addr} {fd : FuncData} {ps : List Str} {sp sp' : Sp} (F : aV P w K mg base CX k f fd ps sp)
    (h : ∀ vs H Q E, sp' vs H Q E → sp vs H Q E) : aV P w K mg base CX k f fd ps sp' :=
  ⟨fun vs H Q E q => F.len vs H Q E (h _ _ _ _ q), fun A outer s H args us vs Q E hr he hb hv hs => F.run A outer s H args us vs Q E hr he hb hv (h _ _ _ _ hs)⟩
theorem sQ.make {P : Program} {w : World} {K : PySem.W.Frag} {mg : Str → Option Value} {base : Heap} {A : Around} {outer : List Env} {s : Shared} {H : Hp} (e : sQ P w K mg base A outer s H) (C : Addr) (us : List Value) (kw : List (Str × Value)) :
    sQ P w K mg base (A.under (.builtin "type.__call__" ⟨.ref C :: us, kw⟩)) outer s H := ⟨by first | exact e.frames | (simpa [Around.under, Code.envs, Code.isFrame, pushEnvs] using e.frames), e.mod, e.bs, e.bsz, e.funs, e.frf, e.hok, e.bare⟩
section
variable {X : Cx} {pins : List (Addr × Obj)} {σ : St} {H : Hp} {s s' : Shared}
theorem aC.env0 (I : aC X pins σ H s) : sQ X.prog X.w X.K X.mg X.base X.A X.stack s H :=
  ⟨I.ok.frames, I.ok.mod, I.bs, Nat.le_trans I.ok.bsz I.sz, I.stack, I.stkFree, I.hok, I.bare⟩
theorem aC.after {Q : VK} {u : Value} (I : aC X pins σ H s) (h : CE X.stack X.prog X.w H s Q u s') : EP X pins σ Q u s' := by
  obtain ⟨v, H', os, bare, un, hok, r, q⟩ := h
  obtain ⟨hh, g, d, t, os'⟩ := s'
  obtain rfl : os' = s.os := os
  exact ⟨v, H', I.call (h' := hh) (g' := g) (d' := d) (t' := t) (ch := []) un hok bare (fun b z => absurd z (by simp)), r, q⟩
end
def CG (sp : Sp) (dvs : List V) (E : XK) (t : TA) : TE := fun σ H Q => t σ H fun vs H1 => sp (vs ++ dvs) H1 Q E
def Ce (C : Addr) (sp : Sp) (dvs : List V) (E : XK) (t : TA) : TE := fun σ H Q => t σ H fun vs H1 => ∀ x dx, H1 x = none → H1 dx = none → dx ≠ x →
  sp (.ref x :: (vs ++ dvs)) (ci (ci H1 dx (.own x)) x (.ins C dx [])) (fun v H2 => v = .non ∧ Q (.ref x) H2) E
def gk (K : PySem.W.Frag) (fd : FuncData) (ps : List Str) (ds : List Value) : Prop :=
  ∀ (s : Shared) (us : List Value), K.In s.heap → (us ++ ds).length = ps.length → BindsTo s fd ⟨us, []⟩ (ps.zip (us ++ ds))
theorem gk.all {K : PySem.W.Frag} {fd : FuncData} {ps : List Str} (h : ∀ us : List Value, us.length = ps.length → bindArgs fd ⟨us, []⟩ = pure (ps.zip us)) : gk K fd ps [] := fun s us _ hl => by
  rw [List.append_nil] at hl ⊢
  exact .of_eq (h us hl)
def mS (CX : ww) (X : Cx) (E : XK) : Prop := ∀ (pins : List (Addr × Obj)) (σ : St) (H : Hp) (s : Shared) (e : Value) (s' : Shared), aC X pins σ H s → CX X.stack H s E e s' → X.xe e s'
section
variable {X : Cx} {CX : ww} {k : Nat} {f C : Addr} {fd : FuncData} {ps : List Str} {sp : Sp} {dvs : List V} {ds : List Value} {E : XK} {x m : Str} {p pos apos : Pos} {e o : Expr} {es : List Expr} {ta : TE} {t : TA}
theorem AS {pins : List (Addr × Obj)} {σ : St} {H : Hp} {s : Shared} {Q : VK} {us : List Value} {vs : List V} (F : aV X.prog X.w X.K X.mg X.base CX k f fd ps sp) (hr : dD k X.A) (hb : gk X.K fd ps ds) (hd : bh dvs ds) (hx : mS CX X E)
    (I : aC X pins σ H s) (r : bh vs us) (h : sp (vs ++ dvs) H Q E) : wpAny (model X.prog X.w) X.A (call (.ref f) us) (EP X pins σ Q) X.xe s := by
  have r2 : bh (vs ++ dvs) (us ++ ds) := r.append hd
  have hl : (us ++ ds).length = ps.length := by rw [← r2.length]; exact F.len _ _ _ _ h
  refine wpAny_call (codeAny_mono (F.run X.A X.stack s H ⟨us, []⟩ (us ++ ds) (vs ++ dvs) Q E hr I.env0 (hb s us I.kIn hl) r2 h) fun r s' hq => ?_)
  cases r with
  | error e => exact hx pins σ H s e s' I hq
  | ok fl =>
    cases fl with
    | ret u => exact I.after hq
    | next => exact False.elim hq
    | brk => exact False.elim hq
    | cont => exact False.elim hq
theorem zf (F : aV X.prog X.w X.K X.mg X.base CX k f fd ps sp) (hr : dD k X.A) (hg : Gl X x) (hm : X.mg x = some (.ref f)) (hk : PySem.W.keepIn X.K (.ref f) = true) (hb : gk X.K fd ps ds) (hd : bh dvs ds) (hx : mS CX X E)
    (ha : PA X (e :: es) t) (hdb : (x == ("__debug__" : Str)) = false := by decide) (he : starEach (e :: es) X.env = (false, eval e X.env) :: starEach es X.env := by rfl) (hpl : (backTo pos (starEach es X.env)).any (·.1) = false := by rfl) :
    PE X (.Call (.Name x p) (e :: es) [] pos) (CG sp dvs E t) := by
  intro pins s σ H Q I h
  refine wpAny_Call_Name_kw (kC I hg hm ?_ hdb)
  refine PySem.W.callWith_K (h₀ := X.base) I.ok.mod.kin hk (cR (ha pos pins s σ H _ I h) fun us s1 ⟨vs, H1, I1, r, q⟩ => ⟨I1.kIn, ?_⟩) he hpl
  exact AS F hr hb hd hx I1 r q
structure Mk (K : PySem.W.Frag) (C f : Addr) : Prop where
  makes : PySem.W.makesIn K C = true
  init : PySem.W.findIn K (.ref C) "__init__" = some (some (.ref f))
  fn : PySem.W.isFn K (.ref f) = true
  kp : PySem.W.keepIn K (.ref C) = true
theorem wS {pins : List (Addr × Obj)} {σ : St} {H : Hp} {s : Shared} {Q : VK} {us : List Value} {vs : List V} (M : Mk X.K C f) (F : aV X.prog X.w X.K X.mg X.base CX k f fd ps sp) (hr : dD (k + 1) X.A) (hb : gk X.K fd ps ds) (hd : bh dvs ds)
    (hx : mS CX X E) (I : aC X pins σ H s) (r : bh vs us)
    (h : ∀ x dx, H x = none → H dx = none → dx ≠ x → sp (.ref x :: (vs ++ dvs)) (ci (ci H dx (.own x)) x (.ins C dx [])) (fun v H2 => v = .non ∧ Q (.ref x) H2) E) :
    wpAny (model X.prog X.w) X.A (call (.ref C) us) (EP X pins σ Q) X.xe s := by
  have hq := h (s.heap.objs.size + 1) s.heap.objs.size (I.hok.fresh (Nat.le_succ _)) (I.hok.fresh (Nat.le_refl _)) (Nat.ne_of_lt (Nat.lt_succ_self _))
  have I2 := aC.made (C := C) I
  have r2 : bh (V.ref (s.heap.objs.size + 1) :: (vs ++ dvs)) (Value.ref (s.heap.objs.size + 1) :: (us ++ ds)) := .cons rfl (r.append hd)
  have hl : (Value.ref (s.heap.objs.size + 1) :: us ++ ds).length = ps.length := by
    have e := r2.length
    rw [F.len _ _ _ _ hq] at e
    exact e.symm
  refine wpAny_call (yb (f := f) I.kIn M.makes M.init (beq_iff_eq.mp M.fn) (codeAny_mono (F.run _ X.stack _ _ ⟨Value.ref (s.heap.objs.size + 1) :: us, []⟩ (Value.ref (s.heap.objs.size + 1) :: (us ++ ds)) _ _ E (hr.make C us [])
    (I2.env0.make C us []) (hb _ (Value.ref (s.heap.objs.size + 1) :: us) I2.kIn hl) r2 hq) fun r s' hq' => ?_))
  cases r with
  | error e => exact hx pins σ _ _ e s' I2 hq'
  | ok fl =>
    cases fl with
    | ret u =>
      obtain ⟨v, H', I3, rv, ev, q3⟩ := I2.after hq'
      subst ev
      exact ⟨rv, ⟨V.ref (s.heap.objs.size + 1), H', I3, rfl, q3⟩⟩
    | next => exact False.elim hq'
    | brk => exact False.elim hq'
    | cont => exact False.elim hq'
theorem ze (M : Mk X.K C f) (F : aV X.prog X.w X.K X.mg X.base CX k f fd ps sp) (hr : dD (k + 1) X.A) (hg : Gl X x) (hm : X.mg x = some (.ref C)) (hb : gk X.K fd ps ds) (hd : bh dvs ds) (hx : mS CX X E)
    (ha : PA X (e :: es) t) (hdb : (x == ("__debug__" : Str)) = false := by decide) (he : starEach (e :: es) X.env = (false, eval e X.env) :: starEach es X.env := by rfl) (hpl : (backTo pos (starEach es X.env)).any (·.1) = false := by rfl) :
    PE X (.Call (.Name x p) (e :: es) [] pos) (Ce C sp dvs E t) := by
  intro pins s σ H Q I h
  refine wpAny_Call_Name_kw (kC I hg hm ?_ hdb)
  refine PySem.W.callWith_K (h₀ := X.base) I.ok.mod.kin M.kp (cR (ha pos pins s σ H _ I h) fun us s1 ⟨vs, H1, I1, r, q⟩ => ⟨I1.kIn, ?_⟩) he hpl
  exact wS M F hr hb hd hx I1 r q
end
structure aQ (N P : List Str) (sc : Scope) : Prop where
  kind : sc.kind = .function
  co : sc.isCoroutine = false
  gen : sc.isGenerator = false
  nd : N.Nodup
  pre : N.take P.length = P
  par : ∀ x ∈ P, sc.names.lookup x = some .local ∨ sc.names.lookup x = some .cell
  nofree : ∀ y ∈ sc.names, y.2 ≠ .free
theorem oR {kindOf : Str → Option NameKind} {x : Str} : ∀ {binds : List (Str × Value)} {m : Str → Option Value}, (∀ v, (x, v) ∉ binds) → bindL kindOf binds m x = m x
  | [], _, _ => rfl
  | (n, v) :: r, m, h => by
    unfold bindL
    rw [oR fun w hw => h w (List.mem_cons_of_mem _ hw)]
    split
    · have : x ≠ n := by rintro rfl; exact h v List.mem_cons_self
      simp [this]
    · rfl
theorem o5 {kindOf : Str → Option NameKind} {x : Str} : ∀ {binds : List (Str × Value)} {m : Str → Option Value}, (∀ v, (x, v) ∉ binds) → bindC kindOf binds m x = m x
  | [], _, _ => rfl
  | (n, v) :: r, m, h => by
    unfold bindC
    rw [o5 fun w hw => h w (List.mem_cons_of_mem _ hw)]
    split
    · rfl
    · have : x ≠ n := by rintro rfl; exact h v List.mem_cons_self
      simp [this]
theorem o0 {kindOf : Str → Option NameKind} {x : Str} {v : Value} : ∀ {P : List Str} {vs : List Value} {i : Nat} {m : Str → Option Value}, P.Nodup → P[i]? = some x → vs[i]? = some v → kindOf x = some .local →
    bindL kindOf (P.zip vs) m x = some v
  | [], _, _, _, _, h, _, _ => by simp at h
  | _ :: _, [], _, _, _, _, h, _ => by simp at h
  | p :: P, w :: vs, 0, m, nd, h1, h2, hk => by
    simp at h1 h2; subst h1; subst h2
    show bindL kindOf ((p, w) :: P.zip vs) m p = _
    unfold bindL
    rw [oR fun v hv => (List.nodup_cons.mp nd).1 (List.of_mem_zip hv).1, if_pos hk]
    simp
  | p :: P, w :: vs, i + 1, m, nd, h1, h2, hk => by
    show bindL kindOf ((p, w) :: P.zip vs) m x = _
    unfold bindL
    exact o0 (i := i) (List.nodup_cons.mp nd).2 (by simpa using h1) (by simpa using h2) hk
theorem oP {kindOf : Str → Option NameKind} {x : Str} {v : Value} : ∀ {P : List Str} {vs : List Value} {i : Nat} {m : Str → Option Value}, P.Nodup → P[i]? = some x → vs[i]? = some v → kindOf x ≠ some .local →
    bindC kindOf (P.zip vs) m x = some v
  | [], _, _, _, _, h, _, _ => by simp at h
  | _ :: _, [], _, _, _, _, h, _ => by simp at h
  | p :: P, w :: vs, 0, m, nd, h1, h2, hk => by
    simp at h1 h2; subst h1; subst h2
    show bindC kindOf ((p, w) :: P.zip vs) m p = _
    unfold bindC
    rw [o5 fun v hv => (List.nodup_cons.mp nd).1 (List.of_mem_zip hv).1, if_neg hk]
    simp
  | p :: P, w :: vs, i + 1, m, nd, h1, h2, hk => by
    show bindC kindOf ((p, w) :: P.zip vs) m x = _
    unfold bindC
    exact oP (i := i) (List.nodup_cons.mp nd).2 (by simpa using h1) (by simpa using h2) hk
def iQ (N : List Str) (vs : List V) : St := vs.map some ++ List.replicate (N.length - vs.length) none
def fw (CX : ww) (P : Program) (w : World) (K : PySem.W.Frag) (mg : Str → Option Value) (base : Heap) (N : List Str) (qual : Str) (scope : Scope) (f : Addr) (cd : Value) (A : Around) (outer : List Env) (s : Shared) (H : Hp) (E : XK) : Cx where
  prog := P
  w := w
  K := K
  mg := mg
  base := base
  A := A.deeper (envOfC qual scope s.heap.objs.size f cd)
  N := N
  s₀ := s
  H₀ := H
  env := envOfC qual scope s.heap.objs.size f cd
  outer := outer
  stack := envOfC qual scope s.heap.objs.size f cd :: outer
  ex := []
  calm := true
  fn := fun _ => true
  pn := []
  xe := fun e s' => wpAny (model P w) (A.deeper (envOfC qual scope s.heap.objs.size f cd)) (leaving (envOfC qual scope s.heap.objs.size f cd) e) (fun _ s'' => CX outer H s E e s'') (fun e' s'' => CX outer H s E e' s'') s'
theorem rj {sc : Scope} {n : Nat} {x : Str} (h : sc.names.lookup x = some .cell) : ∃ c, (cellsFrom n sc.names []).lookup x = some c := by
  have q := PySem.W.cellsFrom_some sc.names n [] (.inl h)
  exact Option.isSome_iff_exists.mp q
theorem vQ {CX : ww} {P : Program} {w : World} {K : PySem.W.Frag} {mg : Str → Option Value} {base : Heap} {N ps : List Str} {qual : Str} {scope : Scope} {f : Addr} {cd : Value} {A : Around} {outer : List Env} {s s1 : Shared} {H : Hp} {E : XK} {us : List Value} {vs : List V}
    (S : aQ N ps scope) (hd : A.handled = none) (e0 : sQ P w K mg base A outer s H) (hl : vs.length = ps.length) (r : bh vs us)
    (x : InCallC s s.heap.objs.size (bindL (envOfC qual scope s.heap.objs.size f cd).kindOf (ps.zip us) fun _ => none) (cellsFrom (s.heap.objs.size + 1) scope.names []) (bindC (envOfC qual scope s.heap.objs.size f cd).kindOf (ps.zip us) fun _ => none) s1) :
    aC (fw CX P w K mg base N qual scope f cd A outer s H E) [] (iQ N vs) H s1 := by
  have hpl : ps.length ≤ N.length := by have := congrArg List.length S.pre; rw [List.length_take] at this; omega
  obtain ⟨h1, tk, rfl, hk⟩ := x.done
  have noA : ∀ b : Addr, b ∉ (fw CX P w K mg base N qual scope f cd A outer s H E).ex := fun b z => absurd (show b ∈ ([] : List Addr) from z) (by simp)
  refine ⟨⟨e0.mod, S.kind, rfl, rfl, Nat.le_refl _, fun y z c h1 h2 => ?_, fun y hy => ?_, fun y c _ h => ?_, fun _ => hd, Around.frames_deeper e0.frames, .inr ⟨rfl, rfl⟩, fun b z => absurd z (noA b), e0.bs, e0.bsz, fun b _ _ => noA b, fun b z => absurd z (noA b), e0.funs, e0.frf⟩,
    rfl, e0.bare, Un.kept hk, ⟨_, x.toInCall.ns, fun i y v h1 h2 h3 => ?_⟩, fun y c h => ⟨_, x.cell y c h⟩, e0.hok.fresh (Nat.le_refl _), fun y c h => ?_, fun p hp => absurd (show p ∈ ([] : List (Addr × Obj)) from hp) (by simp), e0.hok.kept hk, ?_⟩
  · exact name_of_addr x.apart (PySem.mem_of_lookup h1) (PySem.mem_of_lookup h2)
  · have hy : scope.names.lookup y = some .cell ∨ scope.names.lookup y = some .free := hy
    rcases hy with hy | hy
    · exact rj hy
    · exact absurd rfl (S.nofree _ (PySem.mem_of_lookup hy))
  · exact Nat.le_of_lt (x.above y c (PySem.mem_of_lookup h))
  · have hi : i < vs.length := by
      unfold iQ at h2
      by_cases hi : i < vs.length
      · exact hi
      · rw [List.getElem?_append_right (by simpa using hi)] at h2
        rw [List.getElem?_replicate] at h2
        split at h2 <;> cases h2
    have ha : vs[i]? = some v := by
      unfold iQ at h2
      rw [List.getElem?_append_left (by simpa using hi), List.getElem?_map] at h2
      cases e : vs[i]? with
      | none => rw [e] at h2; cases h2
      | some a => rw [e] at h2; cases h2; rfl
    obtain ⟨u, hu, rv⟩ := r.get ha
    have hp : ps[i]? = some y := by
      rw [← S.pre, List.getElem?_take_of_lt (by omega)]; exact h1
    have ndP : ps.Nodup := by rw [← S.pre]; exact S.nd.sublist (List.take_sublist _ _)
    refine ⟨u, rv, ?_⟩
    rcases S.par y (List.mem_of_getElem? hp) with k | k
    · exact .inl ⟨k, o0 ndP hp hu k⟩
    · obtain ⟨c, e⟩ := rj (n := s.heap.objs.size + 1) k
      refine .inr ⟨.inl k, c, e, ?_⟩
      have q := x.cell y c e
      rw [oP ndP hp hu (by show scope.names.lookup y ≠ _; rw [k]; decide)] at q
      exact q
  · exact e0.hok.fresh (Nat.le_of_lt (x.above y c (PySem.mem_of_lookup h)))
  · unfold iQ
    show _ = N.length
    rw [List.length_append, List.length_map, List.length_replicate]
    omega
theorem xR {CX : ww} {P : Program} {w : World} {K : PySem.W.Frag} {mg : Str → Option Value} {base : Heap} {k : Nat} {f : Addr} {name qual : Str} {params : Arguments} {body : List Stmt} {scope : Scope} {dV kV doc pm cdv ct oc : Value} {an od : Option Addr}
    {osl : Array (Option Value)} {N ps : List Str} {sp : Sp} (lk : K.lookup f = some ⟨oc, od, .func (PySem.W.fnOf name qual params body scope dV kV doc pm an cdv ct), osl⟩) (hcd : PySem.W.codeIn K cdv qual = true) (S : aQ N ps scope)
    (len : ∀ vs H Q E, sp vs H Q E → vs.length = ps.length)
    (hbody : ∀ (A : Around) (outer : List Env) (s : Shared) (H : Hp) (vs : List V) (Q : VK) (E : XK), dD k (A.deeper (envOfC qual scope s.heap.objs.size f cdv)) → sp vs H Q E →
      ∃ t, pW (fw CX P w K mg base N qual scope f cdv A outer s H E) body t ∧ t { nx := fun _ H' => Q .non H', rt := Q } (iQ N vs) H) :
    aV P w K mg base CX (k + 1) f (PySem.W.fnOf name qual params body scope dV kV doc pm an cdv ct) ps sp := by
  refine ⟨len, fun A outer s H args us vs Q E hr e0 hb r hsp => ?_⟩
  have hl := len _ _ _ _ hsp
  have KX : K.In s.heap := e0.mod.kin.keeps fun b o e => (e0.bs b o e).1
  have lim : s.heap.NoLimit := e0.mod.nolimit.keeps fun b o e => (e0.bs b o e).1
  have hkind : ∀ y ∈ ps.zip us, scope.names.lookup y.1 = some .local ∨ (scope.names.lookup y.1 = some .cell ∧ ((cellsFrom (s.heap.objs.size + 1) scope.names []).lookup y.1).isSome = true) := fun ⟨n, v⟩ hy => by
    rcases S.par n (List.of_mem_zip hy).1 with q | q
    · exact .inl q
    · exact .inr ⟨q, PySem.W.cellsFrom_some _ _ _ (.inl q)⟩
  refine codeAny_call_function hr.depth (KX _ _ lk) rfl S.co S.gen rfl (PySem.W.codeRec_of KX hcd) (hb _ _ _ _ ?_)
  refine wpAny_newFunctionEnv_cells S.kind hkind fun env he s1 x => ?_
  subst he
  refine ⟨lim.keeps x.toInCall.keep, codeAny_func ?_⟩
  obtain ⟨t, ht, hq⟩ := hbody A outer s H vs Q E (hr.deeper _) hsp
  have I : aC (fw CX P w K mg base N qual scope f cdv A outer s H E) [] (iQ N vs) H s1 := vQ S hr.hd e0 hl r x
  refine wpAny_mono (ht [] s1 (iQ N vs) H _ I hq) (fun fl s' hs => ?_) fun e s' hs => hs
  have fin : ∀ {σ' : St} {H' : Hp} {v : V} {u : Value}, aC (fw CX P w K mg base N qual scope f cdv A outer s H E) [] σ' H' s' → bf v u → Q v H' → CE outer P w H s Q u s' :=
    fun {σ' H' v u} J rv q => ⟨v, H', J.os, J.bare, J.base, J.hok, rv, q⟩
  cases fl with
  | ret u =>
    obtain ⟨v, σ', H', J, rv, q⟩ := hs
    exact fin J rv q
  | next =>
    obtain ⟨σ', H', J, q⟩ := hs
    exact fin (v := V.non) (u := Value.none) J rfl q
  | brk =>
    obtain ⟨_, _, _, q⟩ := hs
    exact False.elim q
  | cont =>
    obtain ⟨_, _, _, q⟩ := hs
    exact False.elim q
section
variable {X : Cx} {x : Str} {p pos : Pos} {e : Expr} {es : List Expr} {t : TA} {id T : String} {r : List V → Hp → VK → Prop}
def Eg (r : List V → Hp → VK → Prop) (t : TA) : TE := fun σ H Q => t σ H fun vs H1 => r vs H1 Q
theorem kO (hc : dO X (.builtin id) r) (hg : Gl X x) (hm : X.mg x = none) (hv : bootBuiltins x = some (.builtin id)) (ha : PA X (e :: es) t) (hn : x ≠ "__name__" := by decide) (hdb : (x == ("__debug__" : Str)) = false := by decide)
    (he : starEach (e :: es) X.env = (false, eval e X.env) :: starEach es X.env := by rfl) (hpl : (backTo pos (starEach es X.env)).any (·.1) = false := by rfl) : PE X (.Call (.Name x p) (e :: es) [] pos) (Eg r t) := by
  intro pins s σ H Q I h
  refine wpAny_Call_Name_kw (il I hg hm hv ?_ hn hdb)
  exact PyProof.Rows.callWith_builtin1 (cR (ha pos pins s σ H _ I h) fun us s1 ⟨vs, H1, I1, r1, q1⟩ => hc pins s1 σ H1 vs us Q I1 r1 q1) he hpl
theorem vM (hc : dO X (.type T) r) (hg : Gl X x) (hm : X.mg x = none) (hv : bootBuiltins x = some (.type T)) (ha : PA X (e :: es) t) (hn : x ≠ "__name__" := by decide) (hdb : (x == ("__debug__" : Str)) = false := by decide)
    (he : starEach (e :: es) X.env = (false, eval e X.env) :: starEach es X.env := by rfl) (hpl : (backTo pos (starEach es X.env)).any (·.1) = false := by rfl) : PE X (.Call (.Name x p) (e :: es) [] pos) (Eg r t) := by
  intro pins s σ H Q I h
  refine wpAny_Call_Name_kw (il I hg hm hv ?_ hn hdb)
  exact PyProof.Rows.callWith_type1 (cR (ha pos pins s σ H _ I h) fun us s1 ⟨vs, H1, I1, r1, q1⟩ => hc pins s1 σ H1 vs us Q I1 r1 q1) he hpl
end
end L2
namespace HT
open PySem PyProof.Rows
section
open PySem.SeqAt
open PySem.AutoSeq1 (wpAny_loadPart')
open PySem.MeetsSeq PySem.MeetsSeq2 PySem.MeetsSeq3
end
section
variable {prog : Program} {w : World} {A : Around} {E : Value → Shared → Prop} {s : Shared}
theorem cat_tup {t b : Addr} {vs ws : List Value} {Q : Value → Shared → Prop} (ht : IsTup s.heap t vs.toArray) (hb : IsTup s.heap b ws.toArray) (hv : vs ≠ [])
    (h1 : ws = [] → Q (.ref t) s) (h2 : ws ≠ [] → Q (.ref s.heap.objs.size) { s with heap := s.heap.push { cls := .type "tuple", data := .seq (vs ++ ws).toArray } })
    (hsz : vs.length + ws.length ≤ sizeLine) : wpAny (model prog w) A (binaryOp .Add (.ref t) (.ref b)) Q E s := by
  obtain ⟨⟨cls, dd, data, sl⟩, ho, hc, n, hd⟩ := id ht
  obtain ⟨⟨cls2, dd2, data2, sl2⟩, ho2, hc2, n2, hd2⟩ := id hb
  simp only at hc hd hc2 hd2
  subst hc hd hc2 hd2
  have e : vs.toArray ++ ws.toArray = (vs ++ ws).toArray := by simp
  by_cases hw : ws = []
  · exact concat_meets ⟨_, ho, rfl⟩ ⟨_, ho2, rfl⟩ noFill_tuple_add seq_tuple_add PySem.F.slot_tuple_add PySem.F.entry_tuple_add (PySem.F.args_tuple_add_2 _ _)
      (tuple_addW1 t b vs.toArray ws.toArray n n2 dd dd2 sl sl2 (by simpa using hv) (by simp [hw])) ⟨ho, ho2, h1 hw⟩
  · refine concat_meets ⟨_, ho, rfl⟩ ⟨_, ho2, rfl⟩ noFill_tuple_add seq_tuple_add PySem.F.slot_tuple_add PySem.F.entry_tuple_add (PySem.F.args_tuple_add_2 _ _)
      (tuple_addW2 t b vs.toArray ws.toArray n n2 dd dd2 sl sl2 (by simpa using hv) (by simpa using hw) (by rw [List.size_toArray, List.size_toArray]; exact hsz)) ⟨ho, ho2, ?_⟩
    rw [e]
    exact h2 hw
def sIx (n d : Nat) : Option Int → Nat
  | none => d
  | some v => if v < 0 then (v + (n : Int)).toNat else min v.toNat n
theorem AO (n d : Nat) (hd : d ≤ n) (o : Option Int) : sIx n d o ≤ n := by
  cases o with
  | none => exact hd
  | some v =>
    show (if v < 0 then (v + (n : Int)).toNat else min v.toNat n) ≤ n
    by_cases hv : v < 0
    · rw [if_pos hv]; omega
    · rw [if_neg hv]; exact Nat.min_le_right _ _
theorem vg (v : Int) (n d : Nat) : (if v < 0 then max (v + (n : Int)) 0 else min v (n : Int)) = ((sIx n d (some v) : Nat) : Int) := by
  show (if v < 0 then max (v + (n : Int)) 0 else min v (n : Int)) = (((if v < 0 then (v + (n : Int)).toNat else min v.toNat n) : Nat) : Int)
  by_cases hv : v < 0
  · simp only [if_pos hv]; omega
  · simp only [if_neg hv]; omega
theorem tX (lo hi : Option Int) (n : Nat) : Builtin.Slice.sliceAdjust lo hi 1 (n : Int) = (((sIx n 0 lo : Nat) : Int), ((sIx n n hi : Nat) : Int)) := by
  have h1 : ¬ ((1 : Int) < 0) := by omega
  unfold Builtin.Slice.sliceAdjust
  simp only [h1, if_false]
  refine Prod.ext ?_ ?_
  · cases lo with
    | none => rfl
    | some v => exact vg v n 0
  · cases hi with
    | none => rfl
    | some v => exact vg v n n
theorem sU (i j : Nat) : Builtin.Slice.slicePlaces (i : Int) (j : Int) 1 = j - i := by
  unfold Builtin.Slice.slicePlaces
  have h1 : (1 : Int) > 0 := by omega
  simp only [h1, if_true, Int.ediv_one]
  split <;> omega
theorem nJ {v : Value} {o : Option Int} {Q : Option Int → Shared → Prop} (p : IsPart v o) (h : Q o s) : wpAny (model prog w) A (Builtin.Slice.slicePartIndex v) Q E s := by
  cases p with
  | none => exact slicePart_none h
  | int i t => exact slicePart_int h
theorem sliceApplied_gen {sl : Addr} {vl vu : Value} {lo hi : Option Int} {n : Nat} {Q : Int × Int × Nat → Shared → Prop} (hs : s.heap.IsSliceOf sl vl vu .none) (pl : IsPart vl lo) (pu : IsPart vu hi)
    (h : Q (((sIx n 0 lo : Nat) : Int), 1, sIx n n hi - sIx n 0 lo) s) : wpAny (model prog w) A (Builtin.Slice.sliceApplied (.ref sl) (pure (n : Int))) Q E s := by
  obtain ⟨os, hos, hcs, hds⟩ := id hs
  unfold Builtin.Slice.sliceApplied Builtin.Slice.sliceFields
  refine wpAny_bind (wpAny_bind (wpAny_field hos hds (x := vl) rfl (wpAny_bind (wpAny_field hos hds (x := vu) rfl (wpAny_bind (wpAny_field hos hds (x := .none) rfl (wpAny_pure ?_)))))))
  refine wpAny_bind (slicePart_none ?_)
  show wpAny _ _ (if ((1 : Int) == 0) = true then _ else _) _ _ s
  rw [if_neg (by decide)]
  refine wpAny_bind (nJ pl (wpAny_bind (nJ pu (wpAny_bind (wpAny_pure ?_)))))
  show wpAny _ _ (match Builtin.Slice.sliceAdjust lo hi 1 (n : Int) with | (lo, hi) => pure (lo, (1 : Int), Builtin.Slice.slicePlaces lo hi 1)) _ _ s
  rw [tX lo hi n]
  show wpAny _ _ (pure (((sIx n 0 lo : Nat) : Int), (1 : Int), Builtin.Slice.slicePlaces ((sIx n 0 lo : Nat) : Int) ((sIx n n hi : Nat) : Int) 1)) _ _ s
  rw [sU]
  exact wpAny_pure h
theorem xk (xs : Array Value) (i k : Nat) : ((List.range k).filterMap fun (m : Nat) => xs[((i : Int) + (m : Int) * 1).toNat]?).toArray = ((xs.toList.drop i).take k).toArray := by
  have e : (fun (m : Nat) => xs[((i : Int) + (m : Int) * 1).toNat]?) = fun m => xs[i + m]? := by
    funext m
    have : ((i : Int) + (m : Int) * 1).toNat = i + m := by omega
    rw [this]
  rw [e]
  have := pick_run xs i k
  rw [List.filterMap_map] at this
  have e2 : ((fun x => xs[x]?) ∘ fun x => i + x) = fun m => xs[i + m]? := rfl
  rw [e2] at this
  rw [this]
theorem getItem_tuple_cut {t sl : Addr} {items : Array Value} {vl vu : Value} {lo hi : Option Int} {Q : Value → Shared → Prop} (ht : IsTup s.heap t items) (hs : s.heap.IsSliceOf sl vl vu .none) (pl : IsPart vl lo) (pu : IsPart vu hi)
    (hw : ¬ (sIx items.size 0 lo = 0 ∧ sIx items.size items.size hi = items.size))
    (h : Q (.ref s.heap.objs.size) { s with heap := s.heap.push { cls := .type "tuple", data := .seq ((items.toList.drop (sIx items.size 0 lo)).take (sIx items.size items.size hi - sIx items.size 0 lo)).toArray } })
    (hsz : items.size ≤ sizeLine) : wpAny (model prog w) A (getItem (.ref t) (.ref sl)) Q E s := by
  have htake : sizeOk (.seq ((items.toList.drop (sIx items.size 0 lo)).take (sIx items.size items.size hi - sIx items.size 0 lo)).toArray) := by
    show ((items.toList.drop (sIx items.size 0 lo)).take (sIx items.size items.size hi - sIx items.size 0 lo)).toArray.size ≤ sizeLine
    rw [List.size_toArray, List.length_take, List.length_drop, Array.length_toList]
    omega
  have hj : sIx items.size items.size hi ≤ items.size := AO _ _ (Nat.le_refl _) hi
  obtain ⟨os, hos, hcs, hds⟩ := id hs
  have hTs : s.TypeIs (.ref sl) "slice" := ⟨os, hos, hcs⟩
  unfold getItem
  try with_reducible refine wpAny_holding ?_
  first | refine wpAny_bind (wpAny_pure ?_) | skip
  refine wpAny_bind (wpAny_sequenceKey ht.typeIs (by decide) ?_)
  refine wpAny_bind (wpAny_callSpecial?_slot (name := Str.ofString "__getitem__") ht.typeIs PyProof.Rows.slot_tuple_getitem
    (wpAny_call_entry PyProof.Rows.slot_tuple_getitem ht.typeIs entry_tuple_getitem ?_ (args_tuple_getitem _ _)))
  show wpAny _ _ (Builtin.Tuple.tupleItemsOf (.ref t) >>= _) _ _ s
  refine wpAny_bind (tupleItemsOf_ ht ?_)
  refine wpAny_bind (wpAny_typeOf hTs ?_)
  rw [if_pos (by decide)]
  refine wpAny_bind (sliceApplied_gen hs pl pu ?_)
  have hno : ¬ ((((sIx items.size 0 lo : Nat) : Int) == 0 && (1 : Int) == 1 && (sIx items.size items.size hi - sIx items.size 0 lo) == items.size) = true) := by
    intro q
    rw [Bool.and_eq_true, Bool.and_eq_true] at q
    have q1 : ((sIx items.size 0 lo : Nat) : Int) = 0 := eq_of_beq q.1.1
    have q2 : sIx items.size items.size hi - sIx items.size 0 lo = items.size := eq_of_beq q.2
    exact hw ⟨by omega, by omega⟩
  show wpAny _ _ (if (((sIx items.size 0 lo : Nat) : Int) == 0 && (1 : Int) == 1 && (sIx items.size items.size hi - sIx items.size 0 lo) == items.size) = true then _ else _) _ _ s
  rw [if_neg hno, xk]
  first
    | exact wpAny_bind (m := Builtin.Tuple.tupleExact _) (wpAny_newObj_type (wpAny_pure ⟨_, rfl, wpAny_pure h⟩) htake)
    | exact wpAny_bind (m := Builtin.Tuple.tupleExact _) (wpAny_newObj_type (wpAny_bind (wpAny_pure (wpAny_pure ⟨_, rfl, wpAny_pure h⟩))) htake)
    | exact wpAny_bind (wpAny_bind (m := Builtin.Tuple.tupleExact _) (wpAny_newObj_type (wpAny_pure (wpAny_pure ⟨_, rfl, wpAny_pure h⟩)) htake))
    | exact wpAny_bind (wpAny_bind (m := Builtin.Tuple.tupleExact _) (wpAny_newObj_type (wpAny_pure ⟨_, rfl, wpAny_pure h⟩) htake))
end
end HT
namespace L2
open PySem PySem.Spec PyProof.Rows
abbrev TO := St → Hp → (Option Int → Hp → Prop) → Prop
def PO (X : Cx) (e : Option Expr) (t : TO) : Prop :=
  ∀ (pins : List (Addr × Obj)) (s : Shared) (σ : St) (H : Hp) (Q : Option Int → Hp → Prop), aC X pins σ H s → t σ H Q →
    wpAny (model X.prog X.w) X.A (evalPart e X.env) (fun u s' => ∃ o H', aC X pins σ H' s' ∧ IsPart u o ∧ Q o H') X.xe s
def zk : TO := fun _ H Q => Q none H
def Cc (t : TE) : TO := fun σ H Q => t σ H fun x H1 => ∃ i, x = .int i ∧ Q (some i) H1
theorem tI {ns : List Int} : ∀ {us : List Value}, bh (ns.map V.int) us → IntsAre us ns := by
  induction ns with
  | nil => intro us r; rw [List.map_nil] at r; cases r; exact .nil
  | cons n ns ih =>
    intro us r
    rw [List.map_cons] at r
    cases r with
    | cons r1 r2 =>
      obtain ⟨t, e⟩ := r1
      subst e
      exact .cons n t (ih r2)
section
variable {X : Cx} {e : Expr} {te : TE} {lo hi : Option Expr} {tl th : TO} {pos p2 : Pos}
theorem yN : PO X none zk := by
  intro pins s σ H Q I h
  rw [evalPart_none]
  exact wpAny_pure ⟨none, H, I, .none, h⟩
theorem zK (h : PE X e te) : PO X (some e) (Cc te) := by
  intro pins s σ H Q I hw
  rw [evalPart_some]
  refine cR (h pins s σ H _ I hw) fun u s1 ⟨x, H1, I1, r1, q1⟩ => ?_
  obtain ⟨i, rfl, q⟩ := q1
  obtain ⟨t, rfl⟩ := r1
  exact ⟨some i, H1, I1, .int i t, q⟩
def Aw (X : Cx) (r : V → Option Int → Option Int → Hp → VK → Prop) : Prop :=
  ∀ (pins : List (Addr × Obj)) (s : Shared) (σ : St) (H : Hp) (x : V) (v vl vu : Value) (lo hi : Option Int) (sl : Addr) (Q : VK), aC X pins σ H s → bf x v → s.heap.IsSliceOf sl vl vu .none → IsPart vl lo → IsPart vu hi → r x lo hi H Q →
    ∃ T id, typeLookup (.type T) "__getitem__" = pure (some (.builtin id)) ∧ s.TypeIs v T ∧ wpAny (model X.prog X.w) X.A (getItem v (.ref sl)) (EP X pins σ Q) X.xe s
theorem Aw.or {r r' : V → Option Int → Option Int → Hp → VK → Prop} (h : Aw X r) (h' : Aw X r') : Aw X (fun x lo hi H Q => r x lo hi H Q ∨ r' x lo hi H Q) := by
  intro pins s σ H x v vl vu lo hi sl Q I rx hs pl pu q
  rcases q with q | q
  · exact h pins s σ H x v vl vu lo hi sl Q I rx hs pl pu q
  · exact h' pins s σ H x v vl vu lo hi sl Q I rx hs pl pu q
def EL (r : V → Option Int → Option Int → Hp → VK → Prop) (te : TE) (tl th : TO) : TE := fun σ H Q => te σ H fun x H1 => tl σ H1 fun l H2 => th σ H2 fun u H3 => r x l u H3 Q
theorem yh {r : V → Option Int → Option Int → Hp → VK → Prop} (hr : Aw X r) (he : PE X e te) (hl : PO X lo tl) (hu : PO X hi th) : PE X (.Subscript e (.Slice lo hi none p2) pos) (EL r te tl th) := by
  intro pins s σ H Q I h
  refine Subscript_ (cR (he pins s σ H _ I h) fun v s1 ⟨x, H1, I1, r1, q1⟩ => ?_)
  refine wpAny_Slice (cR (hl pins s1 σ H1 _ I1 q1) fun vl s2 ⟨l, H2, I2, pl, q2⟩ => cR (hu pins s2 σ H2 _ I2 q2) fun vu s3 ⟨u, H3, I3, pu, q3⟩ => ?_)
  rw [evalPart_none]
  refine wpAny_pure ?_
  have I4 : aC X pins σ H3 { s3 with heap := s3.heap.push { cls := .type "slice", data := .fields #[vl, vu, .none] } } := I3.kept (t' := s3.toks) fun b ob q => Heap.get?_push_of_some _ q
  obtain ⟨T, id, hT, ht, hg⟩ := hr pins { s3 with heap := s3.heap.push { cls := .type "slice", data := .fields #[vl, vu, .none] } } σ H3 x v vl vu l u s3.heap.objs.size Q I4 r1 (Heap.IsSliceOf.new ..) pl pu q3
  show wpAny (model X.prog X.w) X.A (subscriptTail e (.Slice lo hi none p2) v (.ref s3.heap.objs.size)) (EP X pins σ Q) X.xe { s3 with heap := s3.heap.push { cls := .type "slice", data := .fields #[vl, vu, .none] } }
  exact tail_any (ops := [.ref s3.heap.objs.size, v]) ht hT hg (by with_unfolding_all rfl)
def r9 (xs : List V) (lo hi : Option Int) : List V := (xs.drop (HT.sIx xs.length 0 lo)).take (HT.sIx xs.length xs.length hi - HT.sIx xs.length 0 lo)
theorem lD (xs : List V) (lo hi : Option Int) : (r9 xs lo hi).length ≤ xs.length := by
  unfold r9
  rw [List.length_take, List.length_drop]
  omega
def DY (K : PySem.W.Frag) : V → Option Int → Option Int → Hp → VK → Prop := fun x lo hi H Q => ∃ a xs, x = .ref a ∧ dS K H a xs ∧
  ¬ (HT.sIx xs.length 0 lo = 0 ∧ HT.sIx xs.length xs.length hi = xs.length) ∧ ∀ p, H p = none → Q (.ref p) (ci H p (.tup (r9 xs lo hi)))
theorem BT : Aw X (DY X.K) := by
  intro pins s σ H x v vl vu lo hi sl Q I rx hs pl pu h
  obtain ⟨a, xs, rfl, hx, hw, q⟩ := h
  cases rx
  obtain ⟨its, r, ht, hz⟩ := I.tuple hx
  have hlen : its.toArray.size = xs.length := by rw [List.size_toArray]; exact r.length.symm
  refine ⟨"tuple", _, PyProof.Rows.slot_tuple_getitem.lookup, ht.typeIs, ?_⟩
  refine HT.getItem_tuple_cut ht hs pl pu (by rw [hlen]; exact hw) ?_ (by rw [hlen]; exact hz)
  rw [hlen]
  refine ⟨.ref s.heap.objs.size, _, I.laid (t' := s.toks) (o := .tup (r9 xs lo hi)) (fun b ob q => Heap.get?_push_of_some _ q) (Nat.le_refl _) ?_, rfl, q _ (I.hok.fresh (Nat.le_refl _))⟩
  exact ⟨Nat.le_trans (lD xs lo hi) hz, _, (r.drop (HT.sIx xs.length 0 lo)).take (HT.sIx xs.length xs.length hi - HT.sIx xs.length 0 lo), IsTup.new _ _⟩
def AJ (K : PySem.W.Frag) : R2 := fun x y H Q => ∃ a b xs ys, x = .ref a ∧ y = .ref b ∧ dS K H a xs ∧ dS K H b ys ∧ xs ≠ [] ∧ xs.length + ys.length ≤ sizeLine ∧
  (ys = [] → Q (.ref a) H) ∧ (ys ≠ [] → ∀ p, H p = none → Q (.ref p) (ci H p (.tup (xs ++ ys))))
theorem bh.nil_iff {xs : List V} {us : List Value} (r : bh xs us) : us = [] ↔ xs = [] := by
  cases r with
  | nil => simp
  | cons _ _ => simp
theorem yT : iS X (binaryOp .Add) (AJ X.K) := by
  intro pins s σ H x y v u Q I rx ry h
  obtain ⟨a, b, xs, ys, rfl, rfl, ha, hb, hx, hz, q1, q2⟩ := h
  cases rx
  cases ry
  obtain ⟨its, r1, p1, _⟩ := I.tuple ha
  obtain ⟨its2, r2, p2, _⟩ := I.tuple hb
  refine HT.cat_tup p1 p2 (fun z => hx (r1.nil_iff.mp z)) (fun z => ⟨.ref a, H, I, rfl, q1 (r2.nil_iff.mp z)⟩) (fun z => ?_) (by rw [← r1.length, ← r2.length]; exact hz)
  refine ⟨.ref s.heap.objs.size, _, I.laid (t' := s.toks) (o := .tup (xs ++ ys)) (fun b ob q => Heap.get?_push_of_some _ q) (Nat.le_refl _) ?_, rfl, q2 (fun w => z (r2.nil_iff.mpr w)) _ (I.hok.fresh (Nat.le_refl _))⟩
  exact ⟨by rw [List.length_append]; exact hz, _, r1.append r2, IsTup.new _ _⟩
end
def uJ (n : Nat) (i : Int) : Option Nat := if 0 ≤ i then (if i < n then some i.toNat else none) else if -(n : Int) ≤ i then some (i + n).toNat else none
def atI {α : Type} (xs : List α) (i : Int) : Option α := (uJ xs.length i).bind fun j => xs[j]?
theorem vd {n : Nat} {i : Int} {j : Nat} (h : uJ n i = some j) : seqIndex? i n = some j ∧ j < n ∧ -(n : Int) ≤ i ∧ i < n := by
  unfold uJ at h
  by_cases h0 : 0 ≤ i
  · rw [if_pos h0] at h
    by_cases h1 : i < n
    · rw [if_pos h1] at h
      have e : i.toNat = j := Option.some.inj h
      exact ⟨by rw [seqIndex_of h0 h1, e], by omega, by omega, h1⟩
    · rw [if_neg h1] at h; cases h
  · rw [if_neg h0] at h
    by_cases h1 : -(n : Int) ≤ i
    · rw [if_pos h1] at h
      have e : (i + n).toNat = j := Option.some.inj h
      exact ⟨by rw [seqIndex_neg (by omega) h1, e], by omega, h1, by omega⟩
    · rw [if_neg h1] at h; cases h
theorem qD {α : Type} {xs : List α} {i : Int} {v : α} (h : atI xs i = some v) : ∃ j, seqIndex? i xs.length = some j ∧ xs[j]? = some v ∧ j < xs.length ∧ -(xs.length : Int) ≤ i ∧ i < xs.length := by
  unfold atI at h
  cases e : uJ xs.length i with
  | none => rw [e] at h; cases h
  | some j =>
    rw [e] at h
    obtain ⟨h1, h2, h3, h4⟩ := vd e
    exact ⟨j, h1, h, h2, h3, h4⟩
theorem qE {α : Type} {xs : List α} {j : Nat} {v : α} (h : xs[j]? = some v) : atI xs (j : Int) = some v := by
  have hj : j < xs.length := (List.getElem?_eq_some_iff.mp h).1
  have e : uJ xs.length (j : Int) = some j := by
    unfold uJ
    rw [if_pos (by omega), if_pos (by omega)]; simp
  unfold atI; rw [e]; exact h
def pG (b : Expr) : Prop := ∀ o i, subscripted b false o i = operate [o, i] (getItem o i)
def zS (X : Cx) (r : R2) : Prop :=
  ∀ (value slice : Expr) (pins : List (Addr × Obj)) (s : Shared) (σ : St) (H : Hp) (x y : V) (v u : Value) (Q : VK), aC X pins σ H s → bf x v → bf y u → r x y H Q →
    subscripted slice false v u = operate [v, u] (getItem v u) → wpAny (model X.prog X.w) X.A (subscriptTail value slice v u) (EP X pins σ Q) X.xe s
def EJ (X : Cx) (id : String) (r : V → List V → Hp → VK → Prop) : Prop :=
  ∀ (pins : List (Addr × Obj)) (s : Shared) (σ : St) (H : Hp) (x : V) (xs : List V) (v : Value) (us : List Value) (Q : VK), aC X pins σ H s → bf x v → bh xs us → r x xs H Q →
    wpAny (model X.prog X.w) X.A (call (.builtin id) (v :: us)) (EP X pins σ Q) X.xe s
section
variable {X : Cx} {a b : Expr} {ta tb : TE} {pos : Pos}
theorem zS.or {r r' : R2} (h : zS X r) (h' : zS X r') : zS X (fun x y H Q => r x y H Q ∨ r' x y H Q) := by
  intro value slice pins s σ H x y v u Q I rx ry q hs
  rcases q with q | q
  · exact h value slice pins s σ H x y v u Q I rx ry q hs
  · exact h' value slice pins s σ H x y v u Q I rx ry q hs
theorem Cn {r : R2} (hr : zS X r) (ha : PE X a ta) (hb : PE X b tb) (hs : pG b) : PE X (.Subscript a b pos) (CV r ta tb) := by
  intro pins s σ H Q I h
  exact Subscript_ (Bt ha hb I h fun v u s2 x y H2 I2 rx ry q => hr a b pins s2 σ H2 x y v u Q I2 rx ry q (hs _ _))
def CA (K : PySem.W.Frag) : R2 := fun x y H Q => ∃ p xs i v, x = .ref p ∧ y = .int i ∧ oa K H p xs ∧ atI xs i = some v ∧ Q v H
def Cu (K : PySem.W.Frag) : R2 := fun x y H Q => ∃ p xs i v, x = .ref p ∧ y = .int i ∧ dS K H p xs ∧ atI xs i = some v ∧ Q v H
def Dj : R2 := fun x y H Q => ∃ z i c, x = .str z ∧ y = .int i ∧ z.length ≤ sizeLine ∧ atI z.cps.toList i = some c ∧ Q (.str ⟨#[c]⟩) H
theorem zi : zS X (CA X.K) := by
  intro value slice pins s σ H x y v u Q I rx ry h hs
  obtain ⟨p, xs, i, z, rfl, rfl, hq, he, q⟩ := h
  cases rx
  obtain ⟨t, rfl⟩ := ry
  obtain ⟨its, r, pl, hz⟩ := I.list hq
  obtain ⟨j, h1, h2, h3, h4, h5⟩ := qD he
  obtain ⟨w, ew, rw'⟩ := r.get h2
  have hl := r.length
  have hn := lu
  have fin : EP X pins σ Q w s := ⟨z, H, I, rw', q⟩
  by_cases h0 : 0 ≤ i
  · have hj : i.toNat = j := by
      rw [seqIndex_of h0 h5] at h1
      exact Option.some.inj h1
    exact item_listR pl.isList h0 (by omega) (by rw [hj]; simpa using ew) fin hs
  · have hj : (i + (its.toArray.size : Int)).toNat = j := by
      rw [seqIndex_neg (by omega) h4] at h1
      rw [List.size_toArray, ← hl]
      exact Option.some.inj h1
    exact subscriptTail_builtinR (x := w) pl.isList.typeIs slot_list_getitem.lookup
      (wpAny_getItem_list_neg (Q := fun r s' => r = w ∧ EP X pins σ Q r s') pl.isList (by omega) (by rw [List.size_toArray] <;> omega) (by omega) (by rw [hj]; simpa using ew) ⟨rfl, fin⟩) hs
theorem BO : zS X (Cu X.K) := by
  intro value slice pins s σ H x y v u Q I rx ry h hs
  obtain ⟨p, xs, i, z, rfl, rfl, hq, he, q⟩ := h
  cases rx
  obtain ⟨t, rfl⟩ := ry
  obtain ⟨its, r, pl, hz⟩ := I.tuple hq
  obtain ⟨j, h1, h2, h3, h4, h5⟩ := qD he
  obtain ⟨w, ew, rw'⟩ := r.get h2
  have hl := r.length
  have hn := lu
  have fin : EP X pins σ Q w s := ⟨z, H, I, rw', q⟩
  exact subscriptTail_builtinR (x := w) pl.typeIs slot_tuple_getitem.lookup
    (getItem_tuple (j := j) (Q := fun r s' => r = w ∧ EP X pins σ Q r s') pl (by omega) (by omega) (by rw [List.size_toArray, ← hl]; exact h1) (by simpa using ew) ⟨rfl, fin⟩) hs
theorem BX : zS X Dj := by
  intro value slice pins s σ H x y v u Q I rx ry h hs
  obtain ⟨z, i, c, rfl, rfl, hz, he, q⟩ := h
  obtain ⟨t, rfl⟩ := rx
  obtain ⟨t', rfl⟩ := ry
  obtain ⟨j, h1, h2, h3, h4, h5⟩ := qD he
  have hl : z.cps.toList.length = z.length := by simp [Str.length]
  rw [hl] at h1 h4 h5
  have hn := lu
  exact tail_any (typeIs_str s z t) slot_str_getitem.lookup (getItem_str (c := c) (by
    have e1 : decide (i < -(2 ^ 63 : Int)) = false := decide_eq_false (by omega)
    have e2 : decide (i ≥ 2 ^ 63) = false := decide_eq_false (by omega)
    rw [e1, e2, Bool.or_false]) (by rw [h1]; simpa using h2) ⟨.str ⟨#[c]⟩, H, I.tok _, ⟨_, rfl⟩, q⟩) hs
theorem sZ (its : List Value) (n j : Nat) (u : Value) : Obj.mapSeq (·.setIfInBounds j u) { cls := .type "list", data := .seq its.toArray n } = { cls := .type "list", data := .seq (its.set j u).toArray n } := by
  simp [Obj.mapSeq]
theorem aC.lst {pins : List (Addr × Obj)} {σ : St} {H : Hp} {s : Shared} {p : Addr} {xs : List V} (I : aC X pins σ H s) (h : H p = some (.lst xs)) :
    ∃ (its : List Value) (n : Nat), bh xs its ∧ s.heap.get? p = some { cls := .type "list", data := .seq its.toArray n } ∧ xs.length ≤ sizeLine := by
  obtain ⟨z, its, n, r, e⟩ := I.hok p _ h
  exact ⟨its, n, r, e, z⟩
theorem aC.lstUpd {pins : List (Addr × Obj)} {σ : St} {H : Hp} {s : Shared} {p : Addr} {xs ys : List V} {its its' : List Value} {n n' : Nat} {f : Obj → Obj} (I : aC X pins σ H s) (h : H p = some (.lst xs))
    (ho : s.heap.get? p = some { cls := .type "list", data := .seq its.toArray n }) (hf : f { cls := .type "list", data := .seq its.toArray n } = { cls := .type "list", data := .seq its'.toArray n' }) (r : bh ys its') (hz : ys.length ≤ sizeLine) (t : Nat) :
    aC X pins σ (ci H p (.lst ys)) { s with heap := s.heap.update p f, toks := t } := by
  have e : (s.heap.update p f).get? p = some { cls := .type "list", data := .seq its'.toArray n' } := by
    rw [Heap.get?_update_self f ho (by rw [hf] <;> rfl), hf]
  refine I.write (x := p) (e := p) (by rw [h]; trivial) (.inl rfl) (fun b u hb q => (Heap.get?_update_other _ _ (Ne.symm hb)).trans q) ⟨_, e⟩ ?_
  exact ⟨hz, its', n', r, e⟩
def CB : V → V → V → Hp → (Hp → Prop) → Prop := fun o i v H Q => ∃ p xs k j, o = .ref p ∧ i = .int k ∧ H p = some (.lst xs) ∧ uJ xs.length k = some j ∧ Q (ci H p (.lst (xs.set j v)))
theorem xX : Ci X CB := by
  intro pins s σ H o i v ov iv u Q I ro ri rv h
  obtain ⟨p, xs, k, j, rfl, rfl, hp, hj, q⟩ := h
  cases ro
  obtain ⟨t, rfl⟩ := ri
  obtain ⟨its, n, r, ho, hz⟩ := I.lst hp
  obtain ⟨h1, h2, h3, h4⟩ := vd hj
  have hl := r.length
  have hn := lu
  have I' : aC X pins σ (ci H p (.lst (xs.set j v))) { s with heap := s.heap.update p (Obj.mapSeq (·.setIfInBounds j u)) } :=
    I.lstUpd hp ho (sZ its n j u) (r.set rv j) (by rw [List.length_set]; exact hz) s.toks
  by_cases h0 : 0 ≤ k
  · have hk : k.toNat = j := by
      rw [seqIndex_of h0 h4] at h1
      exact Option.some.inj h1
    exact PySem.W.ki_setAt ho h0 (by omega) (by rw [List.size_toArray, ← hl]; exact h4) (by rw [hk]; exact ⟨_, I', q⟩)
  · have hk : (k + (its.toArray.size : Int)).toNat = j := by
      rw [seqIndex_neg (by omega) h3] at h1
      rw [List.size_toArray, ← hl]
      exact Option.some.inj h1
    exact PySem.W.ki_setBack ho (by omega) (by rw [List.size_toArray, ← hl]; exact h3) (by omega) (by rw [hk]; exact ⟨_, I', q⟩)
theorem qy (lo hi : Option Int) (n : Nat) : (sliceBounds lo hi none n).1 = ((HT.sIx n 0 lo : Nat) : Int) ∧ (sliceBounds lo hi none n).2.1 = ((HT.sIx n n hi : Nat) : Int) ∧ (sliceBounds lo hi none n).2.2 = 1 := by
  refine ⟨?_, ?_, rfl⟩
  · cases lo with
    | none => simp [sliceBounds, HT.sIx]
    | some i =>
      simp only [sliceBounds, HT.sIx, Option.getD_none, show (1 : Int) > 0 by decide, if_true]
      by_cases h : i < 0
      · simp only [h, if_true] <;> omega
      · simp only [h, if_false] <;> omega
  · cases hi with
    | none => simp [sliceBounds, HT.sIx]
    | some i =>
      simp only [sliceBounds, HT.sIx, Option.getD_none, show (1 : Int) > 0 by decide, if_true]
      by_cases h : i < 0
      · simp only [h, if_true] <;> omega
      · simp only [h, if_false] <;> omega
theorem ox (its : List Value) (lo hi : Option Int) : slicePick its.toArray lo hi none = ((its.drop (HT.sIx its.length 0 lo)).take (HT.sIx its.length its.length hi - HT.sIx its.length 0 lo)).toArray := by
  obtain ⟨h1, h2, h3⟩ := qy lo hi its.toArray.size
  unfold slicePick
  rw [h1, h2, h3]
  simp only [sliceRange_one, pick_run, List.size_toArray] <;> rfl
def DM (K : PySem.W.Frag) : V → Option Int → Option Int → Hp → VK → Prop := fun x lo hi H Q => ∃ a xs, x = .ref a ∧ oa K H a xs ∧ ∀ p, H p = none → Q (.ref p) (ci H p (.lst (r9 xs lo hi)))
theorem Ab : Aw X (DM X.K) := by
  intro pins s σ H x v vl vu lo hi sl Q I rx hs pl pu h
  obtain ⟨a, xs, rfl, hx, q⟩ := h
  cases rx
  obtain ⟨its, r, ht, hz⟩ := I.list hx
  have hlen := r.length
  refine ⟨"list", _, slot_list_getitem.lookup, ht.isList.typeIs, ?_⟩
  refine wpAny_getItem_list_slice ht.isList hs pl pu .none (by simp) ?_ (by rw [List.size_toArray] <;> omega)
  rw [ox, ← hlen]
  refine ⟨.ref s.heap.objs.size, _, I.laid (t' := s.toks) (o := .lst (r9 xs lo hi)) (fun b ob q => Heap.get?_push_of_some _ q) (Nat.le_refl _) ?_, rfl, q _ (I.hok.fresh (Nat.le_refl _))⟩
  exact ⟨Nat.le_trans (lD xs lo hi) hz, _, 0, (r.drop (HT.sIx xs.length 0 lo)).take (HT.sIx xs.length xs.length hi - HT.sIx xs.length 0 lo), Heap.get?_push_size _ rfl⟩
theorem pO : dO X (.builtin "len") (fun xs H Q => ∃ p ys, xs = [.ref p] ∧ (oa X.K H p ys ∨ dS X.K H p ys) ∧ Q (.int ys.length) H) := by
  intro pins s σ H xs us Q I r h
  obtain ⟨p, ys, rfl, hq, q⟩ := h
  obtain ⟨u, rfl, rx⟩ := ja r
  cases rx
  have hn := lu
  rcases hq with hq | hq
  · obtain ⟨its, r', pl, hz⟩ := I.list hq
    have hlen := r'.length
    exact Calls.call_len_list pl.isList (by simp only [List.size_toArray] <;> omega) ⟨.int ys.length, H, I.tok _, ⟨s.toks + 1, by rw [List.size_toArray, hlen]⟩, q⟩
  · obtain ⟨its, r', pl, hz⟩ := I.tuple hq
    have hlen := r'.length
    exact len_tuple pl (by simp only [List.size_toArray] <;> omega) ⟨.int ys.length, H, I.tok _, ⟨s.toks + 1, by rw [List.size_toArray, hlen]⟩, q⟩
theorem ph : dO X (.builtin "len") (fun xs H Q => ∃ z, xs = [.str z] ∧ z.length ≤ sizeLine ∧ Q (.int z.length) H) := by
  intro pins s σ H xs us Q I r h
  obtain ⟨z, rfl, hz, q⟩ := h
  obtain ⟨u, rfl, t, rfl⟩ := ja r
  have hn := lu
  exact len_str (by omega) ⟨.int z.length, H, I.tok _, ⟨_, rfl⟩, q⟩
theorem dO.or {f : Value} {r r' : List V → Hp → VK → Prop} (h : dO X f r) (h' : dO X f r') : dO X f (fun xs H Q => r xs H Q ∨ r' xs H Q) := by
  intro pins s σ H xs us Q I rs q
  rcases q with q | q
  · exact h pins s σ H xs us Q I rs q
  · exact h' pins s σ H xs us Q I rs q
theorem qC : dO X (.type "list") (fun xs H Q => ∃ p ys, xs = [.ref p] ∧ (oa X.K H p ys ∨ dS X.K H p ys) ∧ ∀ l, H l = none → Q (.ref l) (ci H l (.lst ys))) := by
  intro pins s σ H xs us Q I r h
  obtain ⟨p, ys, rfl, hq, q⟩ := h
  obtain ⟨u, rfl, rx⟩ := ja r
  cases rx
  have fin : ∀ (its : List Value), bh ys its → ys.length ≤ sizeLine → ∀ (h' : Heap) (c' : Nat), (∀ b o', s.heap.get? b = some o' → h'.get? b = some o') →
      h'.get? s.heap.objs.size = some { cls := .type "list", dict := none, data := .seq its.toArray c', slots := #[] } → EP X pins σ Q (.ref s.heap.objs.size) { s with heap := h' } := fun its r' hz h' c' kp e =>
    ⟨.ref s.heap.objs.size, _, I.laid (t' := s.toks) kp (Nat.le_refl _) (show bI X.prog X.w _ h' _ (.lst ys) from ⟨hz, its, c', r', e⟩), rfl, q _ (I.hok.fresh (Nat.le_refl _))⟩
  rcases hq with hq | hq
  · obtain ⟨its, r', pl, hz⟩ := I.list hq
    have hlen := r'.length
    obtain ⟨o, ho, hc, n, hd⟩ := pl.isList
    exact call_list_seq p (.inl rfl) ho hc hd (fun h' c' kp e => fin its r' hz h' c' kp e) (by simp only [List.size_toArray] <;> omega)
  · obtain ⟨its, r', pl, hz⟩ := I.tuple hq
    have hlen := r'.length
    obtain ⟨o, ho, hc, n, hd⟩ := pl
    exact call_list_seq p (.inr rfl) ho hc hd (fun h' c' kp e => fin its r' hz h' c' kp e) (by simp only [List.size_toArray] <;> omega)
theorem oo : dO X (.type "tuple") (fun xs H Q => ∃ p ys, xs = [.ref p] ∧ ((oa X.K H p ys ∧ ∀ l, H l = none → Q (.ref l) (ci H l (.tup ys))) ∨ (dS X.K H p ys ∧ Q (.ref p) H))) := by
  intro pins s σ H xs us Q I r h
  obtain ⟨p, ys, rfl, h⟩ := h
  obtain ⟨u, rfl, rx⟩ := ja r
  cases rx
  rcases h with ⟨hq, q⟩ | ⟨hq, q⟩
  · obtain ⟨its, r', pl, hz⟩ := I.list hq
    have hlen := r'.length
    refine call_tuple_list pl.isList (fun h' kp => ?_) (by simp only [List.size_toArray] <;> omega)
    have I1 : aC X pins σ H { s with heap := h' } := I.kept (t' := s.toks) kp
    have I2 : aC X pins σ (ci H h'.objs.size (.tup ys)) { s with heap := h'.push { cls := .type "tuple", data := .seq its.toArray } } :=
      I1.laid (t' := s.toks) (fun b o e => Heap.get?_push_of_some _ e) (Nat.le_refl _) (show bI X.prog X.w _ _ _ (.tup ys) from ⟨hz, its, r', IsTup.new _ _⟩)
    exact ⟨.ref h'.objs.size, _, I2, rfl, q _ (I1.hok.fresh (Nat.le_refl _))⟩
  · obtain ⟨its, r', pl, hz⟩ := I.tuple hq
    exact call_tuple_same pl ⟨.ref p, H, I, rfl, q⟩
def Ex (K : PySem.W.Frag) (T : String) (x : V) (H : Hp) : Prop := match x with
  | .str _ => T = "str"
  | .int _ => T = "int"
  | .ref p => (T = "list" ∧ ∃ xs, oa K H p xs) ∨ (T = "tuple" ∧ ∃ o, K.lookup p = some o ∧ o.cls = .type "tuple" ∧ o.dict = none) ∨
      (T = "dict" ∧ ((∃ kvs, H p = some (.dK kvs)) ∨ ∃ kvs, H p = some (.dT kvs))) ∨ (T = "set" ∧ ∃ S n, H p = some (.set S n))
  | _ => False
theorem Bd {pins : List (Addr × Obj)} {σ : St} {H : Hp} {s : Shared} {T : String} {x : V} {v : Value} (I : aC X pins σ H s) (r : bf x v) (ty : Ex X.K T x H) :
    s.TypeIs v T ∧ ∀ a, v = .ref a → ∃ ob, s.heap.get? a = some ob ∧ ob.dict = none := by
  cases x with
  | str z =>
    obtain ⟨t, rfl⟩ := r
    cases (show T = "str" from ty)
    exact ⟨typeIs_str s z t, fun _ e => nomatch e⟩
  | int i =>
    obtain ⟨t, rfl⟩ := r
    cases (show T = "int" from ty)
    exact ⟨typeIs_int s i t, fun _ e => nomatch e⟩
  | ref p =>
    cases r
    rcases ty with ⟨rfl, xs, hq⟩ | ⟨rfl, o, hk, hc, hd⟩ | ⟨rfl, hk⟩ | ⟨rfl, S, n, hk⟩
    · obtain ⟨its, _, pl, _⟩ := I.list hq
      refine ⟨pl.isList.typeIs, fun a e => ?_⟩
      cases e
      obtain ⟨o, n, e, c, hd, _⟩ := pl
      exact ⟨o, e, hd⟩
    · refine ⟨⟨o, I.kIn p o hk, hc⟩, fun a e => ?_⟩
      cases e
      exact ⟨o, I.kIn _ o hk, hd⟩
    · have z : ∃ o, s.heap.get? p = some o ∧ o.ExactDict := by
        rcases hk with ⟨kvs, hk⟩ | ⟨kvs, hk⟩
        · obtain ⟨_, _, _, _, o, _, _, e, ex, _⟩ := I.hok p _ hk
          exact ⟨o, e, ex⟩
        · obtain ⟨_, _, _, _, o, _, _, e, ex, _⟩ := I.hok p _ hk
          exact ⟨o, e, ex⟩
      obtain ⟨o, e, ex⟩ := z
      refine ⟨⟨o, e, ex.1⟩, fun a e2 => ?_⟩
      cases e2
      exact ⟨o, e, ex.2.1⟩
    · obtain ⟨o, _, _, _, e, ex, _⟩ := I.hok p _ hk
      refine ⟨⟨o, e, ex.1⟩, fun a e2 => ?_⟩
      cases e2
      exact ⟨o, e, ex.2.1⟩
  | _ => exact False.elim ty
def EK (K : PySem.W.Frag) (T : String) (r : V → List V → Hp → VK → Prop) (to : TE) (t : TA) : TE := fun σ H Q => to σ H fun x H1 => Ex K T x H1 ∧ t σ H1 fun xs H2 => r x xs H2 Q
variable {o e : Expr} {es : List Expr} {to : TE} {t : TA} {name : Str} {apos cpos : Pos} {T id : String} {r : V → List V → Hp → VK → Prop}
theorem Dk (pa : PlainAttrs T) (slot : Slot T name id) (hty : typeOf (.builtin id) = pure (.type "method_descriptor")) (hm : EJ X id r) (ho : PE X o to) (ha : PA X (e :: es) t)
    (hbase : attributeBase o name X.env (eval o X.env) = eval o X.env := by rfl)
    (hfew : ((backTo cpos (starEach (e :: es) X.env)).all (fun x => !x.1) && (backToKw cpos (keywordEach [] X.env)).all (fun x => x.1.isSome)
      && decide ((e :: es).length + ([] : List Keyword).length + (if ([] : List Keyword).isEmpty then 0 else 1) < 30)) = true := by rfl)
    (hline : (apos.endLine == cpos.line) = true := by rfl) (hs : starEach (e :: es) X.env = (false, eval e X.env) :: starEach es X.env := by rfl) (hplain : (backTo cpos (starEach es X.env)).any (·.1) = false := by rfl) :
    PE X (.Call (.Attribute o name apos) (e :: es) [] cpos) (EK X.K T r to t) := by
  intro pins s σ H Q I h
  refine wpAny_Call_method_late hbase hfew hline rfl (cR (ho pins s σ H _ I h) fun v s1 ⟨x, H1, I1, r1, ty, q1⟩ => ?_)
  obtain ⟨h1, h2⟩ := Bd I1 r1 ty
  refine ⟨T, id, pa, slot, hty, h1, h2, ?_⟩
  have hA := ha cpos pins s1 σ H1 _ I1 q1
  rw [hs] at hA ⊢
  refine Calls.callWith_builtin (by show (false || (backTo cpos (starEach es X.env)).any (·.1)) = false; rw [hplain] <;> rfl) (Calls.evalArgs_plain ?_)
  exact cR hA fun us s2 ⟨vs, H2, I2, r2, q2⟩ => hm pins s2 σ H2 x vs v us Q I2 r1 r2 q2
end
def EA (X : Cx) (id : String) (r : V → List V → Hp → VK → Prop) : Prop :=
  ∀ (pins : List (Addr × Obj)) (s : Shared) (σ : St) (H : Hp) (x : V) (xs : List V) (v : Value) (us : List Value) (Q : VK), aC X pins σ H s → bf x v → bh xs us → r x xs H Q →
    wpAny (model X.prog X.w) X.A (call (.builtin id) (v :: us)) (EP X pins σ Q) X.xe s
theorem bh.one : ∀ {x : V} {us : List Value}, bh [x] us → ∃ u, us = [u] ∧ bf x u
  | _, _, .cons r .nil => ⟨_, rfl, r⟩
theorem bh.rep {xs : List V} {us : List Value} (h : bh xs us) : ∀ k : Nat, bh (List.replicate k xs).flatten (List.replicate k us).flatten
  | 0 => .nil
  | k + 1 => by
    rw [List.replicate_succ, List.replicate_succ, List.flatten_cons, List.flatten_cons]
    exact bh.append h (bh.rep h k)
theorem oG (its : List Value) : ∀ (k : Nat) (acc : List Value),
    List.foldl (fun x1 x2 => x1 ++ x2) acc.toArray (List.replicate k its.toArray) = (acc ++ (List.replicate k its).flatten).toArray
  | 0, acc => by simp
  | k + 1, acc => by
    have e : acc.toArray ++ its.toArray = (acc ++ its).toArray := by simp
    have e2 : (acc ++ its) ++ (List.replicate k its).flatten = acc ++ (List.replicate (k + 1) its).flatten := by
      rw [List.replicate_succ, List.flatten_cons, List.append_assoc]
    rw [← e2, ← oG its k (acc ++ its), ← e, List.replicate_succ, List.foldl_cons]
section
variable {X : Cx} {pins : List (Addr × Obj)} {σ : St} {H : Hp} {s : Shared} {l b : Addr} {xs ys zs : List V}
theorem aC.lset {its its' : List Value} {n : Nat} {f : Array Value → Array Value} {t' : Nat} (I : aC X pins σ H s) (hH : H l = some (.lst xs))
    (e : s.heap.get? l = some { cls := .type "list", data := .seq its.toArray n }) (hf : f its.toArray = its'.toArray) (hv : bh ys its') (hz : ys.length ≤ sizeLine) :
    aC X pins σ (ci H l (.lst ys)) { s with heap := s.heap.update l (Obj.mapSeq f), toks := t' } := by
  have q := PySem.IsL.update e f
  rw [hf] at q
  refine I.write (x := l) (e := l) (by rw [hH]; exact trivial) (.inl rfl) (fun b' u hb hu => (Heap.get?_update_other s.heap (Obj.mapSeq f) (Ne.symm hb)).trans hu) ⟨_, q⟩ ?_
  exact ⟨hz, its', _, hv, q⟩
theorem aC.lnew {its : List Value} {t' : Nat} (I : aC X pins σ H s) (hv : bh ys its) (hz : ys.length ≤ sizeLine) :
    aC X pins σ (ci H s.heap.objs.size (.lst ys)) { s with heap := s.heap.push { cls := .type "list", data := .seq its.toArray }, toks := t' } :=
  I.laid (fun _ _ q => Heap.get?_push_of_some _ q) (Nat.le_refl _) ⟨hz, its, 0, hv, Heap.get?_push_size _ rfl⟩
theorem aC.fresh (I : aC X pins σ H s) : H s.heap.objs.size = none := I.hok.fresh (Nat.le_refl _)
theorem aC.lstM (I : aC X pins σ H s) (hH : H l = some (.lst xs)) : xs.length ≤ sizeLine ∧ ∃ (its : List Value) (n : Nat), bh xs its ∧ xs.length = its.length ∧ s.heap.get? l = some { cls := .type "list", data := .seq its.toArray n } := by
  obtain ⟨z, its, n, r, e⟩ := I.hok l _ hH
  exact ⟨z, its, n, r, r.length, e⟩
end
section
variable {X : Cx}
def Aa : V → List V → Hp → VK → Prop := fun x vs H Q => ∃ l xs y, x = .ref l ∧ vs = [y] ∧ H l = some (.lst xs) ∧ xs.length < sizeLine ∧ Q .non (ci H l (.lst (xs ++ [y])))
theorem oY : EA X "list.append" Aa := by
  intro pins s σ H x vs v us Q I rx rv h
  obtain ⟨l, xs, y, rfl, rfl, hH, hz, q⟩ := h
  cases rx
  obtain ⟨u, rfl, ru⟩ := rv.one
  obtain ⟨z, its, n, r, hl, e⟩ := I.lstM hH
  refine call_meets F.slot_list_append ⟨_, e, rfl⟩ F.entry_list_append (F.args_list_append_2 _ _) (PySem.list_append l its.toArray n u (by rw [List.size_toArray]; omega)) ⟨e, ?_⟩
  refine ⟨.non, _, I.lset (its' := its ++ [u]) hH e (by simp) (r.append (.cons ru .nil)) ?_, rfl, q⟩
  rw [List.length_append, List.length_singleton]
  omega
theorem uZ {α : Type} (xs : List α) (k : Nat) : (List.replicate k xs).flatten.length = k * xs.length := by
  induction k with
  | zero => simp
  | succ k ih => rw [List.replicate_succ, List.flatten_cons, List.length_append, ih, Nat.succ_mul, Nat.add_comm]
end
end L2
namespace Att
open PySem PySem.W PySem.Calls PyProof.Rows
theorem l6 {P : Params} {h : Heap} : ∀ (ns : List Int) (vs : List Value), WellAll P h vs (ns.map WData.int) → IntsAre vs ns := by
  intro ns
  induction ns with
  | nil =>
    intro vs w
    rw [List.map_nil] at w
    cases w
    exact .nil
  | cons n ns ih =>
    intro vs w
    rw [List.map_cons] at w
    cases w with
    | cons a b =>
      cases a
      exact .cons _ _ (ih _ b)
theorem vN {l : OpenLaw} {n : Nat} (hn : l.most = some n) {P : Params} {h : Heap} {args : List WData} {vals : List Value}
    (hpre : l.row.toRowW.claim.pre args = true) (hwl : WellAll P h vals args) :
    ∃ a vs ns, vals = [Value.ref a] ∧ args = [WData.list (ns.map WData.int)] ∧ h.get? a = some { cls := .type "list", data := .seq vs.toArray } ∧ IntsAre vs ns ∧ ns.length ≤ n := by
  have hsh : WShape.hasAll [] args [.list .int] = true := (pre_splitW hpre).1
  have hc : l.pre.holds [] { args := args } = true := (pre_splitW hpre).2
  obtain ⟨d, r, rfl, h1, h2⟩ := hasAllW_cons hsh
  obtain rfl := hasAllW_nil h2
  obtain ⟨xs, rfl, h3⟩ := hasW_list h1
  obtain ⟨ns, rfl⟩ := items_int h3
  have hlen : ns.length ≤ n := by
    unfold OpenLaw.pre at hc
    have h4 : (WTm.not (.lt (.lit (.int (n : Int))) (.len (.arg 0)))).holds [] { args := [.list (ns.map .int)] } = true := by
      have h4 := (holds_andW hc).1
      rw [hn] at h4
      exact h4
    have h5 := condW_of h4 (w_not (w_lt w_lit (w_len_list (w_arg rfl))))
    rw [List.length_map] at h5
    refine Nat.le_of_not_lt fun q => ?_
    have q' : (n : Int) < ((ns.length : Nat) : Int) := by omega
    first
      | (rw [decide_eq_true q'] at h5; exact absurd h5 (by decide))
      | (simp at h5; omega)
  cases hwl with
  | cons w1 w2 =>
    cases w2
    cases w1 with
    | list ho hall => exact ⟨_, _, ns, rfl, rfl, ho, l6 ns _ hall, hlen⟩
theorem vK (l : OpenLaw) (args : List WData) : l.row.toRowW.claim.post args (.bool true) args = true :=
  postW_of (r := l.row.toRowW) (X := (true == true))
    (show WShape.has [] (.bool true) .bool = true by first | rfl | decide | simp [WShape.has, WShape.arms, WShape.armsAll])
    (show (WTm.eq .res (.lit (.bool true))).value [] { args := args, res := some (.bool true), after := args } = some (.bool (true == true)) from w_eq_bool (w_res rfl) w_lit) rfl
theorem attach_call {l : OpenLaw} {n : Nat} {q : Program} {loose : List Str} {XP : (Str → Option Value) → Heap → Prop} {YP : World → Heap → Prop} {d : DefRec}
    (hn : l.most = some n) (hdf : d.params.defaults = [])
    (call : ∀ (w : World) (s₀ s₁ : Shared) (mg mb : Str → Option Value) (fa : Addr) (o : Obj) (pm cd doc : Value) (a : Addr) (vs : List Value) (ns : List Int),
      Ground q loose [] XP w s₀ mg mb s₁.heap → YP w s₁.heap →
      s₁.heap.get? fa = some o → o.data = .func (docDef d.name d.params d.body d.scope pm cd doc) → s₁.heap.CodeRec cd d.name → mg d.name = some (.ref fa) →
      s₁.heap.get? a = some { cls := .type "list", data := .seq vs.toArray } → IntsAre vs ns → ns.length ≤ n → s₁.gens = #[] →
      codeAny (model l.prog w) callerA (.call (.ref fa) ⟨[.ref a], []⟩) (fun r s' => r = .ok (.ret (.bool true)) ∧ OldK s₁.heap s'.heap ∧ s'.os = s₁.os ∧ AllBare s'.gens) s₁) :
    WalkO q loose XP YP l.row.toRowW d [] (fun f vs => PySem.call f vs) := by
  intro w s₀ s₁ mg mb G Y fa o pm cd doc dV kV ho hd hcd hD hmg hg args vals as hpre hlay hrd hwl hlo
  obtain rfl : dV = .none := Dflts.none hD hdf
  obtain rfl : kV = .none := Dflts.noKw hD
  obtain ⟨a, vs, ns, rfl, rfl, hobj, hints, hlen⟩ := vN hn hpre hwl
  refine enter_call (codeAny_mono (call w s₀ s₁ mg mb fa o pm cd doc a vs ns G Y ho (fd_plain hd) hcd hmg hobj hints hlen hg) fun r s' hq => ?_)
  obtain ⟨rfl, h2, h3, h4⟩ := hq
  exact ⟨.inl ⟨.bool true, .bool true, [], rfl, fun _ => rfl, .bool true, vK l _, fun _ => ⟨List.Pairwise.nil, fun _ hm => (nomatch hm)⟩⟩, h2, h3, h4⟩
end Att
namespace L2
open PySem PySem.Spec PyProof.Rows
theorem jy : ∀ {vs : List Value} {ns : List Int}, IntsAre vs ns → bh (ns.map V.int) vs
  | _, _, .nil => .nil
  | _, _, .cons n t h => .cons ⟨t, rfl⟩ (jy h)
def Di (H : Hp) : Prop := ∀ b, H b = none ∨ ∃ o xs, H b = some (.frz o (.lst xs))
theorem x5 {P : Program} {w : World} {K : PySem.W.Frag} {mg mb : Str → Option Value} {CX : ww} {k : Nat} {fa a : Addr} {fd : FuncData} {x : Str} {sp : Sp} {s₁ : Shared} {vs : List Value} {ns : List Int}
    (KX : K.In s₁.heap) (hns : s₁.heap.Ns mainGlobals mg) (hb : s₁.heap.Ns builtinsNs mb) (hbb : ∀ x : Str, x ≠ "__name__" → mb x = bootBuiltins x) (hlim : s₁.heap.NoLimit) (hg : s₁.gens = #[])
    (ha : s₁.heap.get? a = some { cls := .type "list", data := .seq vs.toArray }) (hi : IntsAre vs ns) (hl : ns.length ≤ sizeLine) (hr : dD k callerA)
    (F : ∀ base : Heap, K.In base → base.Ns mainGlobals mg → aV P w K mg base CX k fa fd [x] sp) (hbind : ∀ (s : Shared) (u : Value), BindsTo s fd ⟨[u], []⟩ [(x, u)])
    (hsp : ∀ H : Hp, Di H → oa K H a (ns.map V.int) → sp [.ref a] H (fun v _ => v = .bl true) fun _ _ _ => False)
    (hCX : ∀ H e s', CX [] H s₁ (fun _ _ _ => False) e s' → False) :
    codeAny (model P w) callerA (.call (.ref fa) ⟨[.ref a], []⟩) (fun r s' => r = .ok (.ret (.bool true)) ∧ OldK s₁.heap s'.heap ∧ s'.os = s₁.os ∧ AllBare s'.gens) s₁ := by
  have rv := jy hi
  have lenV := hi.length
  -- from an abstract heap in which nothing but the script may be tracked
  have core : ∀ H : Hp, Di H → oa K H a (ns.map V.int) → iX P w H s₁.heap → (∀ b, H b ≠ none → b = a) → (H a ≠ none → K.lookup a = none) →
      codeAny (model P w) callerA (.call (.ref fa) ⟨[.ref a], []⟩) (fun r s' => r = .ok (.ret (.bool true)) ∧ OldK s₁.heap s'.heap ∧ s'.os = s₁.os ∧ AllBare s'.gens) s₁ := by
    intro H hO hS hok hA hK
    have base_of : ∀ {b : Addr} {o : Obj}, s₁.heap.get? b = some o → H b = none → (pD s₁.heap H).get? b = some o := fun e n => w8 e n
    have noA : ∀ {b : Addr} {o : Obj} {es : Array DictEntry} {ep : Nat}, s₁.heap.get? b = some o → o.data = .dict es ep → H b = none := fun {b o es ep} e d => by
      cases q : H b with
      | none => rfl
      | some u =>
        have e' : b = a := hA b (by rw [q]; simp)
        subst e'
        rw [ha] at e; cases e
        have d' : Data.seq vs.toArray _ = Data.dict es ep := d
        cases d'
    have nsK : ∀ {b : Addr} {m : Str → Option Value}, s₁.heap.Ns b m → (pD s₁.heap H).Ns b m := fun {b m} ⟨o, es, ep, e, d, r⟩ => ⟨o, es, ep, base_of e (noA e d), d, r⟩
    have hKb : K.In (pD s₁.heap H) := fun b o e => base_of (KX b o e) (by
      cases q : H b with
      | none => rfl
      | some u =>
        have e' : b = a := hA b (by rw [q]; simp)
        subst e'
        rw [hK (by rw [q]; simp)] at e; cases e)
    have hM : Mod K mg (pD s₁.heap H) := ⟨hKb, nsK hns, ⟨mb, nsK hb, hbb⟩, let ⟨mc, h1, h2⟩ := hlim; ⟨mc, nsK h1, h2⟩⟩
    have e0 : sQ P w K mg (pD s₁.heap H) callerA [] s₁ H := ⟨rfl, hM, fun b o e => zC e, Nat.le_of_eq (vV _ _), trivial, fun b hb => absurd (show b ∈ ([] : List Addr) from hb) (by simp), hok, .of_eq hg⟩
    refine codeAny_mono ((F _ hKb (nsK hns)).run callerA [] s₁ H ⟨[.ref a], []⟩ [.ref a] [.ref a] _ _ hr e0 (hbind s₁ (.ref a)) (.cons rfl .nil) (hsp H hO hS)) fun r s' h => ?_
    cases r with
    | error e => exact (hCX H e s' h).elim
    | ok fl =>
      cases fl with
      | next => exact False.elim h
      | brk => exact False.elim h
      | cont => exact False.elim h
      | ret u =>
        obtain ⟨v, H', os, bare, un, hok', r', q⟩ := h
        have q' : v = .bl true := q
        subst q'
        obtain rfl : u = Value.bool true := r'
        refine ⟨rfl, OldK.of_keep fun b o e => ?_, os, bare⟩
        cases q : H b with
        | none => exact un.keep b o e q (by intro z; exact absurd (show b ∈ ([] : List Addr) from z) (by simp)) (by simp)
        | some u =>
          rcases hO b with z | ⟨ob, xs, z⟩
          · rw [q] at z; cases z
          · have z2 := un.frzs b ob _ z
            obtain ⟨e1, _⟩ := hok b _ z
            obtain ⟨e2, _⟩ := hok' b _ z2
            rw [e] at e1; cases e1
            exact e2
  cases hk : K.lookup a with
  | some o =>
    -- the script is one of the module's own objects
    have e := KX a o hk
    rw [ha] at e
    cases e
    refine core (fun _ => none) (fun _ => .inl rfl) (.inr ⟨_, vs.toArray, _, hk, rfl, rfl, rfl, by rw [List.size_toArray, lenV]; exact hl, by simpa using rv⟩) (fun b u z => by have z' : (none : Option HO) = some u := z; cases z') (fun b z => absurd rfl z) fun z => absurd rfl z
  | none =>
    refine core (fun b => if b = a then some (.frz { cls := .type "list", data := .seq vs.toArray } (.lst (ns.map V.int))) else none) (fun b => ?_) (.inl (.inr ⟨{ cls := .type "list", data := .seq vs.toArray }, if_pos rfl⟩)) (fun b u z => ?_) (fun b z => ?_) fun _ => hk
    · by_cases hb : b = a
      · exact .inr ⟨_, _, if_pos hb⟩
      · exact .inl (if_neg hb)
    · by_cases hb : b = a
      · have z' := (if_pos hb).symm.trans z
        cases z'
        subst hb
        exact ⟨ha, by rw [List.length_map]; exact hl, vs, _, rv, ha⟩
      · have z' := (if_neg hb).symm.trans z
        cases z'
    · by_cases hb : b = a
      · exact hb
      · exact absurd (if_neg hb) z
def Ac (s : Stmt) (j : Nat) : Stmt := match s with
  | .ClassDef _ _ _ body _ _ _ _ _ _ _ => body.getD j (.Pass ⟨0, 0, 0, 0⟩)
  | _ => .Pass ⟨0, 0, 0, 0⟩
def fX (s : Stmt) : Arguments := match s with
  | .FunctionDef _ a _ _ _ _ _ _ _ _ => a
  | _ => { posonlyargs := [], args := [], vararg := none, kwonlyargs := [], kw_defaults := [], kwarg := none, defaults := [] }
def dE (s : Stmt) : List Stmt := match s with
  | .FunctionDef _ _ b _ _ _ _ _ _ _ => b
  | _ => []
def ai (s : Stmt) : Scope := match s with
  | .FunctionDef _ _ _ _ _ _ sc _ _ _ => sc
  | _ => { kind := .function, names := [], isGenerator := false, isCoroutine := false }
abbrev Eo : ww := fun _ _ _ _ _ _ => False
structure ie (K : PySem.W.Frag) (x qual : Str) (st : Stmt) (f : Addr) (fd : FuncData) : Prop where
  ex : ∃ (oc : Value) (od : Option Addr) (kV doc pm : Value) (an : Option Addr) (cdv ct : Value) (osl : Array (Option Value)),
    fd = PySem.W.fnOf x qual (fX st) (dE st) (ai st) .none kV doc pm an cdv ct ∧ K.lookup f = some ⟨oc, od, .func fd, osl⟩ ∧ PySem.W.codeIn K cdv qual = true
  kp : PySem.W.keepIn K (.ref f) = true
section
variable {P : Program} {w : World} {K : PySem.W.Frag} {mg : Str → Option Value} {base : Heap}
theorem ie.ok {x qual : Str} {st : Stmt} {f : Addr} {fd : FuncData} {N ps : List Str} {k : Nat} {sp : Sp} (F : ie K x qual st f fd) (S : aQ N ps (ai st)) (len : ∀ vs H Q E, sp vs H Q E → vs.length = ps.length)
    (hbody : ∀ (cdv : Value) (A : Around) (outer : List Env) (s : Shared) (H : Hp) (vs : List V) (Q : VK) (E : XK), dD k (A.deeper (envOfC qual (ai st) s.heap.objs.size f cdv)) → sp vs H Q E →
      ∃ t, pW (fw Eo P w K mg base N qual (ai st) f cdv A outer s H E).nox (dE st) t ∧ t { nx := fun _ H' => Q .non H', rt := Q } (iQ N vs) H) : aV P w K mg base Eo (k + 1) f fd ps sp := by
  obtain ⟨oc, od, kV, doc, pm, an, cdv, ct, osl, rfl, lk, hcd⟩ := F.ex
  refine xR lk hcd S len fun A outer s H vs Q E hr hsp => ?_
  obtain ⟨t, h, q⟩ := hbody cdv A outer s H vs Q E hr hsp
  exact ⟨t, h.nox, q⟩
theorem ie.binds {x qual : Str} {st : Stmt} {f : Addr} {fd : FuncData} {ps : List Str} (F : ie K x qual st f fd)
    (h : ∀ (kV doc pm : Value) (an : Option Addr) (cdv ct : Value) (us : List Value), us.length = ps.length → bindArgs (PySem.W.fnOf x qual (fX st) (dE st) (ai st) .none kV doc pm an cdv ct) ⟨us, []⟩ = pure (ps.zip us)) : gk K fd ps [] := by
  obtain ⟨oc, od, kV, doc, pm, an, cdv, ct, osl, rfl, lk, hcd⟩ := F.ex
  exact .all (h kV doc pm an cdv ct)
theorem sN {x qual : Str} {st : Stmt} {f : Addr} {oc : Value} {od an : Option Addr} {osl : Array (Option Value)} {kV doc pm cdv ct : Value} (l : K.lookup f = some ⟨oc, od, .func (PySem.W.fnOf x qual (fX st) (dE st) (ai st) .none kV doc pm an cdv ct), osl⟩)
    (c : PySem.W.codeIn K cdv qual = true) (k : PySem.W.keepIn K (.ref f) = true) : ie K x qual st f (PySem.W.fnOf x qual (fX st) (dE st) (ai st) .none kV doc pm an cdv ct) := ⟨⟨oc, od, kV, doc, pm, an, cdv, ct, osl, rfl, l, c⟩, k⟩
end
section
variable {X : Cx}
theorem pv (i : Nat) {x : Str} {pos : Pos} (hN : X.N[i]? = some x := by rfl) (hv : BP X.env.scope x := by first | exact Or.inl rfl | exact Or.inr (Or.inl rfl) | exact Or.inr (Or.inr rfl)) (hd : (x == ("__debug__" : Str)) = false := by decide)
    (hcd : (x == ("__classdict__" : Str)) = false := by decide) : PE X (.Name x pos) (A0 i) := im hN hv hd hcd
end
def az (H H' : Hp) : Prop := ∀ b o, H b = some o → H' b = some o
theorem az.refl (H : Hp) : az H H := fun _ _ h => h
theorem az.trans {H H1 H2 : Hp} (a : az H H1) (b : az H1 H2) : az H H2 := fun c o h => b c o (a c o h)
theorem az.free {H H' : Hp} (e : az H H') {l : Addr} (h : H' l = Option.none) : H l = Option.none := by
  cases q : H l with
  | none => rfl
  | some o =>
    rw [e l o q] at h
    cases h
section
variable {κ : Type} [DecidableEq κ]
def jP (kvs : List (κ × V)) (k : κ) : Option V := (kvs.find? fun kv => decide (kv.1 = k)).map (·.2)
def kK (kvs : List (κ × V)) (k : κ) (v : V) : List (κ × V) :=
  if (kvs.any fun kv => decide (kv.1 = k)) = true then kvs.map (fun kv => if kv.1 = k then (kv.1, v) else kv) else kvs ++ [(k, v)]
theorem nG {p : κ × V} {r : List (κ × V)} {k : κ} (e : p.1 = k) : jP (p :: r) k = some p.2 := by simp [jP, List.find?_cons, e]
theorem nU {p : κ × V} {r : List (κ × V)} {k : κ} (e : ¬ p.1 = k) : jP (p :: r) k = jP r k := by simp [jP, List.find?_cons, e]
theorem rM (k : κ) : ∀ kvs : List (κ × V), (kvs.any fun kv => decide (kv.1 = k)) = (jP kvs k).isSome
  | [] => rfl
  | p :: r => by
    rw [List.any_cons]
    by_cases e : p.1 = k
    · simp only [nG e, decide_eq_true e, Bool.true_or, Option.isSome_some]
    · rw [nU e, decide_eq_false e, Bool.false_or]; exact rM k r
theorem lQ (kvs : List (κ × V)) (k : κ) (v : V) : (kK kvs k v).length ≤ kvs.length + 1 := by
  unfold kK
  split
  · rw [List.length_map]; omega
  · rw [List.length_append, List.length_cons, List.length_nil]; omega
theorem lr.isSome_eq {o : Option V} {u : Option Value} (r : lr o u) : o.isSome = u.isSome := by
  cases o with
  | none => cases u with
    | none => rfl
    | some _ => exact (show False from r).elim
  | some _ => cases u with
    | none => exact (show False from r).elim
    | some _ => rfl
theorem KV.val {kvs : List (κ × V)} {vs : List (κ × Value)} (r : KV kvs vs) (k : κ) : lr (jP kvs k) (valueAt vs k) := by
  unfold KV at r
  induction r with
  | nil => exact True.intro
  | @cons p q ps qs h t ih =>
    obtain ⟨h1, h2⟩ := h
    by_cases e : p.1 = k
    · have e' : q.1 = k := h1.symm.trans e
      have b : valueAt (q :: qs) k = some q.2 := by simp [valueAt, List.find?_cons, e']
      rw [nG e, b]; exact h2
    · have e' : ¬ q.1 = k := fun z => e (h1.trans z)
      have b : valueAt (q :: qs) k = valueAt qs k := by simp [valueAt, List.find?_cons, e']
      rw [nU e, b]; exact ih
theorem KV.any {kvs : List (κ × V)} {vs : List (κ × Value)} (r : KV kvs vs) (k : κ) : (kvs.any fun kv => decide (kv.1 = k)) = vs.any fun kv => decide (kv.1 = k) := by
  unfold KV at r
  induction r with
  | nil => rfl
  | cons h t ih => rw [List.any_cons, List.any_cons, ih, h.1]
theorem KV.repl {kvs : List (κ × V)} {vs : List (κ × Value)} (r : KV kvs vs) (k : κ) {y : V} {u : Value} (ry : bf y u) :
    KV (kvs.map fun kv => if kv.1 = k then (kv.1, y) else kv) (vs.map fun kv => if kv.1 = k then (kv.1, u) else kv) := by
  unfold KV at r ⊢
  induction r with
  | nil => exact .nil
  | @cons p q ps qs h t ih =>
    rw [List.map_cons, List.map_cons]
    refine .cons ?_ ih
    obtain ⟨h1, h2⟩ := h
    by_cases e : p.1 = k
    · rw [if_pos e, if_pos (h1.symm.trans e)]; exact ⟨h1, ry⟩
    · rw [if_neg e, if_neg (fun z => e (h1.trans z))]; exact ⟨h1, h2⟩
theorem KV.put {kvs : List (κ × V)} {vs : List (κ × Value)} (r : KV kvs vs) (k : κ) {y : V} {u : Value} (ry : bf y u) : KV (kK kvs k y) (stored vs k u) := by
  unfold kK stored
  rw [r.any k]
  by_cases e : (vs.any fun kv => decide (kv.1 = k)) = true
  · rw [if_pos e, if_pos e]; exact r.repl k ry
  · rw [if_neg e, if_neg e]; exact Paired.snoc r ⟨rfl, ry⟩
theorem KV.keys {kvs : List (κ × V)} {vs : List (κ × Value)} (r : KV kvs vs) : kvs.map (·.1) = vs.map (·.1) := by
  unfold KV at r
  induction r with
  | nil => rfl
  | cons h t ih => rw [List.map_cons, List.map_cons, ih, h.1]
theorem KV.length {kvs : List (κ × V)} {vs : List (κ × Value)} (r : KV kvs vs) : kvs.length = vs.length := Paired.length r
end
theorem qM {P : Program} {w : World} {k : cV} {u : Value} (r : bf (kV k) u) : (df P w).is k u = true := by
  cases k with
  | inl i => obtain ⟨t, e⟩ := (show ∃ t, u = Value.int i t from r); subst e; exact rz P w i t
  | inr x => obtain ⟨t, e⟩ := (show ∃ t, u = Value.str x t from r); subst e; exact rg P w x t
theorem oJ {P : Program} {w : World} : ∀ {ks : List cV} {us : List Value}, bh (ks.map kV) us → ItemsAre (df P w) ks us
  | [], _, r => by rw [List.map_nil] at r; cases r; exact .nil
  | k :: ks, _, r => by
    rw [List.map_cons] at r
    cases r with
    | cons h t => exact .cons (qM h) (oJ t)
abbrev KT (H : Hp) : List (List cV × V) → List (List cV × Addr × Value) → Prop := Paired fun p q => p.1 = q.1 ∧ H q.2.1 = some (.tup (p.1.map kV)) ∧ bf p.2 q.2.2
theorem KT.val {H : Hp} {kvs : List (List cV × V)} {xs : List (List cV × Addr × Value)} (r : KT H kvs xs) (k : List cV) : lr (jP kvs k) ((atKey xs k).map (·.2)) := by
  induction r with
  | nil => exact True.intro
  | @cons p q ps qs h t ih =>
    obtain ⟨h1, _, h2⟩ := h
    by_cases e : p.1 = k
    · have e' : q.1 = k := h1.symm.trans e
      have b : atKey (q :: qs) k = some q.2 := by simp [atKey, List.find?_cons, e']
      rw [nG e, b]; exact h2
    · have e' : ¬ q.1 = k := fun z => e (h1.trans z)
      have b : atKey (q :: qs) k = atKey qs k := by simp [atKey, List.find?_cons, e']
      rw [nU e, b]; exact ih
theorem KT.repl {H : Hp} {kvs : List (List cV × V)} {xs : List (List cV × Addr × Value)} (r : KT H kvs xs) (k : List cV) {y : V} {u : Value} (ry : bf y u) :
    KT H (kvs.map fun kv => if kv.1 = k then (kv.1, y) else kv) (xs.map (putAt k u)) := by
  induction r with
  | nil => exact .nil
  | @cons p q ps qs h t ih =>
    rw [List.map_cons, List.map_cons]
    refine .cons ?_ ih
    obtain ⟨h1, h2, h3⟩ := h
    unfold putAt
    by_cases e : p.1 = k
    · rw [if_pos e, if_pos (h1.symm.trans e)]; exact ⟨h1, h2, ry⟩
    · rw [if_neg e, if_neg (fun z => e (h1.trans z))]; exact ⟨h1, h2, h3⟩
theorem KT.put {H : Hp} {kvs : List (List cV × V)} {xs : List (List cV × Addr × Value)} (r : KT H kvs xs) (k : List cV) {b : Addr} {y : V} {u : Value} (hb : H b = some (.tup (k.map kV))) (ry : bf y u) :
    KT H (kK kvs k y) (storedH xs k b u) := by
  have e : (kvs.any fun kv => decide (kv.1 = k)) = (atKey xs k).isSome := by
    rw [rM, (r.val k).isSome_eq, Option.isSome_map]
  unfold kK storedH
  rw [e]
  by_cases q : (atKey xs k).isSome = true
  · rw [if_pos q, if_pos q]; exact r.repl k ry
  · rw [if_neg q, if_neg q]; exact Paired.snoc r ⟨rfl, hb, ry⟩
theorem KT.keeps {H H' : Hp} {kvs : List (List cV × V)} {xs : List (List cV × Addr × Value)} (r : KT H kvs xs) (ht : ∀ b ys, H b = some (.tup ys) → H' b = some (.tup ys)) : KT H' kvs xs :=
  Paired.mapP r fun _ _ z => ⟨z.1, ht _ _ z.2.1, z.2.2⟩
section
variable {P : Program} {w : World} {H : Hp} {h : Heap} {a : Addr}
theorem As {u : HO} (ok : iX P w H h) (e : Rd H a u) : bI P w H h a u := e.ok ok
theorem mJ {kvs : List (cV × V)} (ok : iX P w H h) (e : Rd H a (.dK kvs)) : kvs.length ≤ sizeLine ∧ (a == sysModules) = false ∧ ∃ vs, KV kvs vs ∧ h.DictOf (df P w) a vs :=
  show bI P w H h a (.dK kvs) from As ok e
theorem CC {kvs : List (cV × V)} (ok : iX P w H h) (e : H a = some (.dK kvs)) : kvs.length ≤ sizeLine ∧ (a == sysModules) = false ∧ ∃ vs, KV kvs vs ∧ h.DictOf (df P w) a vs := mJ ok (.inl e)
theorem nN {ks : List cV} (ok : iX P w H h) (e : H a = some (.tup (ks.map kV))) : (tupleKind (df P w)).is h ks a := by
  obtain ⟨_, its, r, o, h1, h2, n, h3⟩ := (show bI P w H h a (.tup (ks.map kV)) from ok a _ e)
  exact ⟨o, its.toArray, n, h1, h2, h3, by simpa using oJ r⟩
theorem rF {kvs : List (List cV × V)} (ok : iX P w H h) (e : Rd H a (.dT kvs)) : kvs.length ≤ sizeLine ∧ (a == sysModules) = false ∧
    ∃ xs, KT H kvs xs ∧ h.DictOfH (tupleKind (df P w)) a xs := by
  obtain ⟨z, y, xs, r, o, es, ep, h1, h2, h3, h4, h5⟩ := (show bI P w H h a (.dT kvs) from As ok e)
  refine ⟨z, y, xs, r, o, es, ep, h1, h2, h3, h4, fun x hx => ?_, h5⟩
  have all : ∀ {l : List (List cV × V)} {m : List (List cV × Addr × Value)}, KT H l m → ∀ x ∈ m, (tupleKind (df P w)).is h x.1 x.2.1 := by
    intro l m q
    induction q with
    | nil => intro x hx; exact nomatch hx
    | @cons p q ps qs hq t ih =>
      intro x hx
      rcases List.mem_cons.mp hx with e | hx
      · subst e
        exact nN ok (by rw [← hq.1]; exact hq.2.1)
      · exact ih x hx
  exact all r x hx
theorem Dp {kvs : List (List cV × V)} (ok : iX P w H h) (e : H a = some (.dT kvs)) : kvs.length ≤ sizeLine ∧ (a == sysModules) = false ∧
    ∃ xs, KT H kvs xs ∧ h.DictOfH (tupleKind (df P w)) a xs := rF ok (.inl e)
end
def nD (H : Hp) (a : Addr) (y : V) (r : Option V) : Prop :=
  (∃ kvs k, Rd H a (.dK kvs) ∧ y = kV k ∧ r = jP kvs k) ∨ ∃ kvs k b, Rd H a (.dT kvs) ∧ y = .ref b ∧ H b = some (.tup (k.map kV)) ∧ r = jP kvs k
def t6 (H : Hp) (a : Addr) (y v : V) (H' : Hp) : Prop :=
  (∃ kvs k, H a = some (.dK kvs) ∧ y = kV k ∧ kvs.length < sizeLine ∧ H' = ci H a (.dK (kK kvs k v))) ∨
  ∃ kvs k b, H a = some (.dT kvs) ∧ y = .ref b ∧ H b = some (.tup (k.map kV)) ∧ kvs.length < sizeLine ∧ H' = ci H a (.dT (kK kvs k v))
theorem nD.k {H : Hp} {a : Addr} {kvs : List (cV × V)} {k : cV} (e : H a = some (.dK kvs)) : nD H a (kV k) (jP kvs k) := .inl ⟨kvs, k, .inl e, rfl, rfl⟩
theorem nD.t {H : Hp} {a b : Addr} {kvs : List (List cV × V)} {k : List cV} (e : H a = some (.dT kvs)) (eb : H b = some (.tup (k.map kV))) : nD H a (.ref b) (jP kvs k) := .inr ⟨kvs, k, b, .inl e, rfl, eb, rfl⟩
theorem t6.k {H : Hp} {a : Addr} {kvs : List (cV × V)} {k : cV} {v : V} (e : H a = some (.dK kvs)) (hl : kvs.length < sizeLine) : t6 H a (kV k) v (ci H a (.dK (kK kvs k v))) := .inl ⟨kvs, k, e, rfl, hl, rfl⟩
theorem t6.t {H : Hp} {a b : Addr} {kvs : List (List cV × V)} {k : List cV} {v : V} (e : H a = some (.dT kvs)) (eb : H b = some (.tup (k.map kV))) (hl : kvs.length < sizeLine) :
    t6 H a (.ref b) v (ci H a (.dT (kK kvs k v))) := .inr ⟨kvs, k, b, e, rfl, eb, hl, rfl⟩
section
variable {X : Cx} {pins : List (Addr × Obj)} {σ : St} {H : Hp} {s : Shared} {a : Addr} {y v : V} {u r : Value} {o : Option V} {A : Around} {E : Value → Shared → Prop}
theorem aC.big (I : aC X pins σ H s) : sysModules < s.heap.objs.size := by
  have h : mainGlobals < s.heap.objs.size := (I.mod.glob.keeps I.bk).lt
  exact Nat.lt_trans (by decide) h
theorem vk {Q : Value → Shared → Prop} (hu : A.units + 1 < cLine) (I : aC X pins σ H s) (g : nD H a y (some v)) (ry : bf y u) (h : ∀ w' s', aC X pins σ H s' → bf v w' → Q w' s') :
    wpAny (model X.prog X.w) A (getItem (.ref a) u) Q E s := by
  rcases g with ⟨kvs, k, e, ey, l⟩ | ⟨kvs, k, b, e, ey, eb, l⟩
  · subst ey
    obtain ⟨z, hd, vs, rel, dd⟩ := mJ I.hok e
    obtain ⟨w', hw, rw'⟩ := lr.some_of (v := v) (o := valueAt vs k) (by rw [l]; exact rel.val k)
    exact wpAny_getItem_of (qM ry) dd.mapOf hw (h w' _ (I.tok _) rw')
  · subst ey
    cases (show u = Value.ref b from ry)
    obtain ⟨z, hd, xs, rel, dd⟩ := rF I.hok e
    obtain ⟨w', hw, rw'⟩ := lr.some_of (v := v) (o := (atKey xs k).map (·.2)) (by rw [l]; exact rel.val k)
    obtain ⟨p, hp, hp2⟩ := Option.map_eq_some_iff.mp hw
    refine wpAny_getItem_heap (tupleKind_room_in1 hu) (nN I.hok eb) dd hp ?_
    rw [hp2]
    exact h w' _ (I.tok _) rw'
theorem DI {Q : Value → Shared → Prop} (hu : A.units + 1 < cLine) (I : aC X pins σ H s) (g : nD H a y o) (ry : bf y u) (h : ∀ s', aC X pins σ H s' → Q (.bool o.isSome) s') :
    wpAny (model X.prog X.w) A (compareOp .In u (.ref a)) Q E s := by
  rcases g with ⟨kvs, k, e, ey, l⟩ | ⟨kvs, k, b, e, ey, eb, l⟩
  · subst ey
    obtain ⟨z, hd, vs, rel, dd⟩ := mJ I.hok e
    refine wpAny_in_of (qM ry) hd dd.mapOf ?_
    rw [← (rel.val k).isSome_eq, ← l]
    exact h _ (I.tok _)
  · subst ey
    cases (show u = Value.ref b from ry)
    obtain ⟨z, hd, xs, rel, dd⟩ := rF I.hok e
    refine wpAny_in_heap (tupleKind_room_in1 hu) (nN I.hok eb) hd dd ?_
    have q := (rel.val k).isSome_eq
    rw [Option.isSome_map] at q
    rw [← q, ← l]
    exact h _ (I.tok _)
theorem zD {Q : Value → Shared → Prop} (hu : A.units + 1 < cLine) (I : aC X pins σ H s) (g : nD H a y o) (ry : bf y u) (h : ∀ s', aC X pins σ H s' → Q (.bool (!o.isSome)) s') :
    wpAny (model X.prog X.w) A (compareOp .NotIn u (.ref a)) Q E s := by
  rcases g with ⟨kvs, k, e, ey, l⟩ | ⟨kvs, k, b, e, ey, eb, l⟩
  · subst ey
    obtain ⟨z, hd, vs, rel, dd⟩ := mJ I.hok e
    refine wpAny_notIn_of (qM ry) hd dd.mapOf ?_
    rw [← (rel.val k).isSome_eq, ← l]
    exact h _ (I.tok _)
  · subst ey
    cases (show u = Value.ref b from ry)
    obtain ⟨z, hd, xs, rel, dd⟩ := rF I.hok e
    refine wpAny_notIn_heap (tupleKind_room_in1 hu) (nN I.hok eb) hd dd ?_
    have q := (rel.val k).isSome_eq
    rw [Option.isSome_map] at q
    rw [← q, ← l]
    exact h _ (I.tok _)
theorem uI {h' : Heap} {t' : Nat} {ob : HO} (I : aC X pins σ H s) (mu : CW (H a)) (hs : Heap.SameBut a s.heap h') (he : ∃ q, h'.get? a = some q) (new : bI X.prog X.w (ci H a ob) h' a ob) :
    aC X pins σ (ci H a ob) { s with heap := h', toks := t' } :=
  I.write (x := a) (e := a) mu (.inl rfl) (fun b q hb z => (hs.2 b hb).trans z) he new
theorem BS {P : Program} {w : World} {H' : Hp} {h' : Heap} {kvs : List (cV × V)} {vs : List (cV × Value)} (z : kvs.length ≤ sizeLine) (hd : (a == sysModules) = false) (rel : KV kvs vs) (dd : h'.DictOf (df P w) a vs) :
    bI P w H' h' a (.dK kvs) := ⟨z, hd, vs, rel, dd⟩
theorem vp {H' : Hp} {Q : Unit → Shared → Prop} (hu : A.units + 1 < cLine) (I : aC X pins σ H s) (g : t6 H a y v H') (ry : bf y u) (rv : bf v r) (h : ∀ s', aC X pins σ H' s' → Q () s') :
    wpAny (model X.prog X.w) A (setItem (.ref a) u r) Q E s := by
  rcases g with ⟨kvs, k, e, ey, l, eH⟩ | ⟨kvs, k, b, e, ey, eb, l, eH⟩
  · subst ey eH
    obtain ⟨z, hd, vs, rel, dd⟩ := CC I.hok e
    have hz : vs.length ≤ sizeLine := by rw [← rel.length]; exact z
    have hl : (kK kvs k v).length ≤ sizeLine := by have := lQ kvs k v; omega
    refine wpAny_setItem_pairs (hsz := hz) (qM ry) dd fun h' dd' hs => h _ ?_
    have he : ∃ q, h'.get? a = some q := let ⟨q, _, _, hq, _⟩ := dd'; ⟨q, hq⟩
    exact uI I (by rw [e]; exact True.intro) hs he (BS hl hd (rel.put k rv) dd')
  · subst ey eH
    cases (show u = Value.ref b from ry)
    obtain ⟨z, hd, xs, rel, dd⟩ := Dp I.hok e
    have hz : xs.length ≤ sizeLine := by rw [← Paired.length rel]; exact z
    have hl : (kK kvs k v).length ≤ sizeLine := by have := lQ kvs k v; omega
    refine wpAny_setItem_heap (hsz := hz) (tupleKind_room_in1 hu) (nN I.hok eb) dd fun h' dd' hs => h _ ?_
    obtain ⟨q, es, ep, hq, h2, h3, h4, _, h5⟩ := dd'
    refine uI I (by rw [e]; exact True.intro) hs ⟨q, hq⟩ ⟨hl, hd, _, (rel.put k eb rv).keeps fun c ys ec => ?_, q, es, ep, hq, h2, h3, h4, h5⟩
    rw [ar (Dc ec e (fun z => nomatch z))]
    exact ec
end
section
variable {X : Cx} {pins : List (Addr × Obj)} {σ : St} {H : Hp} {s : Shared} {a : Addr} {kvs : List (cV × V)} {k : cV} {u : Value} {A : Around} {E : Value → Shared → Prop}
theorem Cm {Q : Value → Shared → Prop} (I : aC X pins σ H s) (e : Rd H a (.dK kvs)) (h : ∀ t s', aC X pins σ H s' → Q (.int kvs.length t) s') : wpAny (model X.prog X.w) A (call (.builtin "len") [.ref a]) Q E s := by
  obtain ⟨z, hd, vs, rel, dd⟩ := mJ I.hok e
  refine call_len_dict hd dd (by rw [← rel.length]; rw [sizeLine_eq] at z; omega) ?_
  rw [← rel.length]
  exact h _ _ (I.tok _)
end
theorem rB {X : Cx} {pins : List (Addr × Obj)} {σ : St} {H : Hp} {s : Shared} {a : Addr} {y : V} {o : Option V} (I : aC X pins σ H s) (g : nD H a y o) : s.TypeIs (.ref a) "dict" := by
  rcases g with ⟨kvs, k, e, _, _⟩ | ⟨kvs, k, b, e, _, _, _⟩
  · obtain ⟨_, _, vs, _, dd⟩ := mJ I.hok e
    exact dd.typeIs
  · obtain ⟨_, _, xs, _, dd⟩ := rF I.hok e
    exact dd.typeIs
def Cr (td ty tv : TE) : TS := fun D σ H => tv σ H fun v H1 => td σ H1 fun x H2 => ty σ H2 fun y H3 => ∃ a H4, x = .ref a ∧ t6 H3 a y v H4 ∧ D.nx σ H4
section
variable {X : Cx} {o i e value : Expr} {pos pos' tpos : Pos} {td ty tv : TE}
theorem zH (hu : X.A.units + 1 < cLine) (ho : PE X o td) (hi : PE X i ty) (hv : PE X value tv) (hs : swapsWith value (some (.Subscript o i pos')) pos.line X.env = pure false) :
    PS X (.Assign [.Subscript o i pos'] value pos) (Cr td ty tv) := by
  intro pins s σ H D I h
  refine wpAny_Assign_Subscript (cR (hv pins s σ H _ I h) fun r s1 ⟨v, H1, I1, rv, q1⟩ => cR (ho pins s1 σ H1 _ I1 q1) fun u s2 ⟨x, H2, I2, rx, q2⟩ => cR (hi pins s2 σ H2 _ I2 q2) fun iv s3 ⟨y, H3, I3, ry, a, H4, ex, g, q3⟩ => ?_) hs
  subst ex
  obtain rfl : u = Value.ref a := rx
  exact vp hu I3 g ry rv fun s4 I4 => ⟨σ, H4, I4, q3⟩
end
theorem wK {P : Program} {w : World} {H : Hp} (h : Heap) (hb : sysModules < h.objs.size) : bI P w H (h.push { cls := .type "dict", data := .dict #[] }) h.objs.size (.dK []) :=
  ⟨Nat.zero_le _, beq_eq_false_iff_ne.mpr (Ne.symm (Nat.ne_of_lt hb)), [], .nil, Heap.DictOf.new h⟩
def Bz : TE := fun _ H Q => ∀ p, H p = none → Q (.ref p) (ci H p (.dK []))
section
variable {X : Cx} {pos : Pos}
theorem yq : PE X (.Dict [] [] pos) Bz := fun pins s σ H Q I h =>
  wpAny_Dict_empty ⟨.ref s.heap.objs.size, _, I.laid (a := s.heap.objs.size) (o := .dK []) (t' := s.toks) (fun _ _ q => Heap.get?_push_of_some _ q) (Nat.le_refl _) (wK s.heap I.big), rfl, h _ (I.hok.fresh (Nat.le_refl _))⟩
end
end L2
set_option maxHeartbeats 4000000
namespace D2
open PySem PySem.Spec PyProof.Rows L2
abbrev St := L2.St
abbrev aC := @L2.aC
def fI : cV → PyData
  | .inl i => .int i
  | .inr x => .str x
mutual
def Rp (H : Hp) : PyData → V → Prop
  | .none, v => v = .non
  | .bool b, v => v = .bl b
  | .int i, v => v = .int i
  | .str x, v => v = .str x
  | .tuple ds, v => ∃ a vs, v = .ref a ∧ H a = some (.tup vs) ∧ bg H ds vs
  | .list ds, v => ∃ a o vs, v = .ref a ∧ H a = some (.frz o (.lst vs)) ∧ bg H ds vs
  | .dict kvs, v => (∃ a o ks, v = .ref a ∧ H a = some (.frz o (.dK ks)) ∧ dJ H kvs ks) ∨ ∃ a o C dx fs, v = .ref a ∧ H a = some (.frz o (.ins C dx fs)) ∧ wz H C fs kvs
def bg (H : Hp) : List PyData → List V → Prop
  | [], vs => vs = []
  | d :: ds, vs => ∃ v r, vs = v :: r ∧ Rp H d v ∧ bg H ds r
def dJ (H : Hp) : List (PyData × PyData) → List (cV × V) → Prop
  | [], ks => ks = []
  | kd :: kvs, ks => ∃ x v r, ks = (x, v) :: r ∧ yz H kd x v ∧ dJ H kvs r
def yz (H : Hp) : PyData × PyData → cV → V → Prop
  | (k, d), x, v => k = fI x ∧ Rp H d v
def wz (H : Hp) (C : Addr) (fs : List (Str × V)) : List (PyData × PyData) → Prop
  | [] => False
  | kd :: kvs => kd = (.none, .int C) ∧ sg H kvs fs
def sg (H : Hp) : List (PyData × PyData) → List (Str × V) → Prop
  | [], fs => fs = []
  | kd :: kvs, fs => ∃ x v r, fs = (x, v) :: r ∧ AE H kd x v ∧ sg H kvs r
def AE (H : Hp) : PyData × PyData → Str → V → Prop
  | (k, d), x, v => k = .str x ∧ Rp H d v
end
def oK : List (PyData × PyData) → Bool
  | (.none, _) :: _ => true
  | _ => false
def Kp (H H' : Hp) : Prop := (∀ b xs, H b = some (.tup xs) → H' b = some (.tup xs)) ∧ ∀ b o u, H b = some (.frz o u) → H' b = some (.frz o u)
theorem Kp.trans {H H1 H2 : Hp} (a : Kp H H1) (b : Kp H1 H2) : Kp H H2 := ⟨fun c xs h => b.1 c xs (a.1 c xs h), fun c o u h => b.2 c o u (a.2 c o u h)⟩
theorem Kp.of {H H' : Hp} (s : az H H') : Kp H H' := ⟨fun b xs h => s b _ h, fun b o u h => s b _ h⟩
mutual
theorem Rp.kp {H H' : Hp} (k : Kp H H') : ∀ (d : PyData) (v : V), Rp H d v → Rp H' d v
  | .none, v, h => by simpa only [Rp] using h
  | .bool b, v, h => by simpa only [Rp] using h
  | .int i, v, h => by simpa only [Rp] using h
  | .str x, v, h => by simpa only [Rp] using h
  | .tuple ds, v, h => by
    simp only [Rp] at h ⊢
    obtain ⟨a, vs, e, ha, r⟩ := h
    exact ⟨a, vs, e, k.1 _ _ ha, bg.kp k ds vs r⟩
  | .list ds, v, h => by
    simp only [Rp] at h ⊢
    obtain ⟨a, o, vs, e, ha, r⟩ := h
    exact ⟨a, o, vs, e, k.2 _ _ _ ha, bg.kp k ds vs r⟩
  | .dict kvs, v, h => by
    simp only [Rp] at h ⊢
    rcases h with ⟨a, o, ks, e, ha, r⟩ | ⟨a, o, C, dx, fs, e, ha, r⟩
    · exact .inl ⟨a, o, ks, e, k.2 _ _ _ ha, dJ.kp k kvs ks r⟩
    · exact .inr ⟨a, o, C, dx, fs, e, k.2 _ _ _ ha, wz.kp k C fs kvs r⟩
theorem bg.kp {H H' : Hp} (k : Kp H H') : ∀ (ds : List PyData) (vs : List V), bg H ds vs → bg H' ds vs
  | [], vs, h => by simpa only [bg] using h
  | d :: ds, vs, h => by
    simp only [bg] at h ⊢
    obtain ⟨v, r, e, h1, h2⟩ := h
    exact ⟨v, r, e, Rp.kp k d v h1, bg.kp k ds r h2⟩
theorem dJ.kp {H H' : Hp} (k : Kp H H') : ∀ (kvs : List (PyData × PyData)) (ks : List (cV × V)), dJ H kvs ks → dJ H' kvs ks
  | [], ks, h => by simpa only [dJ] using h
  | kd :: kvs, ks, h => by
    simp only [dJ] at h ⊢
    obtain ⟨x, v, r, e, h1, h2⟩ := h
    exact ⟨x, v, r, e, yz.kp k kd x v h1, dJ.kp k kvs r h2⟩
theorem yz.kp {H H' : Hp} (k : Kp H H') : ∀ (kd : PyData × PyData) (x : cV) (v : V), yz H kd x v → yz H' kd x v
  | (c, d), x, v, h => by
    simp only [yz] at h ⊢
    exact ⟨h.1, Rp.kp k d v h.2⟩
theorem wz.kp {H H' : Hp} (k : Kp H H') (C : Addr) (fs : List (Str × V)) : ∀ (kvs : List (PyData × PyData)), wz H C fs kvs → wz H' C fs kvs
  | [], h => by simpa only [wz] using h
  | kd :: kvs, h => by
    simp only [wz] at h ⊢
    exact ⟨h.1, sg.kp k kvs fs h.2⟩
theorem sg.kp {H H' : Hp} (k : Kp H H') : ∀ (kvs : List (PyData × PyData)) (fs : List (Str × V)), sg H kvs fs → sg H' kvs fs
  | [], fs, h => by simpa only [sg] using h
  | kd :: kvs, fs, h => by
    simp only [sg] at h ⊢
    obtain ⟨x, v, r, e, h1, h2⟩ := h
    exact ⟨x, v, r, e, AE.kp k kd x v h1, sg.kp k kvs r h2⟩
theorem AE.kp {H H' : Hp} (k : Kp H H') : ∀ (kd : PyData × PyData) (x : Str) (v : V), AE H kd x v → AE H' kd x v
  | (c, d), x, v, h => by
    simp only [AE] at h ⊢
    exact ⟨h.1, Rp.kp k d v h.2⟩
end
theorem Rp.mono {H H' : Hp} {d : PyData} {v : V} (h : Rp H d v) (s : az H H') : Rp H' d v := Rp.kp (Kp.of s) d v h
theorem bg.mono {H H' : Hp} {ds : List PyData} {vs : List V} (h : bg H ds vs) (s : az H H') : bg H' ds vs := bg.kp (Kp.of s) ds vs h
def iU (H : Hp) : PyData → V → Prop
  | .list ds, v => ∃ a vs, v = .ref a ∧ H a = some (.lst vs) ∧ bg H ds vs
  | .dict kvs, v => ∃ a ks, v = .ref a ∧ H a = some (.dK ks) ∧ dJ H kvs ks
  | _, _ => False
theorem iU.mono {H H' : Hp} {d : PyData} {v : V} (h : iU H d v) (s : az H H') : iU H' d v := by
  cases d <;> simp only [iU] at h ⊢
  · obtain ⟨a, vs, e, ha, r⟩ := h
    exact ⟨a, vs, e, s _ _ ha, bg.mono r s⟩
  · obtain ⟨a, vs, e, ha, r⟩ := h
    exact ⟨a, vs, e, s _ _ ha, dJ.kp (Kp.of s) _ _ r⟩
def hR (H : Hp) (d : PyData) (v : V) : Prop := Rp H d v ∨ iU H d v
theorem hR.mono {H H' : Hp} {d : PyData} {v : V} (h : hR H d v) (s : az H H') : hR H' d v := h.elim (fun h => .inl (h.mono s)) fun h => .inr (h.mono s)
def B4 (H H' : Hp) (d : PyData) (v : V) : Prop := iU H' d v ∧ ∃ a, v = .ref a ∧ H a = none
inductive aW where
  | non
  | val (d : PyData)
  | own (d : PyData)
  | exc (p : Addr)
abbrev aI := List aW
def jq (H : Hp) : aW → Option V → Prop
  | .non, _ => True
  | .val d, o => ∃ v, o = some v ∧ Rp H d v
  | .own d, o => ∃ v, o = some v ∧ iU H d v
  | .exc p, o => o = some (.ref p)
def Sl (H : Hp) (σ : St) (ρ : aI) : Prop := σ.length = ρ.length ∧ ∀ (i : Nat) (c : aW) (o : Option V), ρ[i]? = some c → σ[i]? = some o → jq H c o
theorem jq.mono {H H' : Hp} {c : aW} {o : Option V} (h : jq H c o) (s : az H H') : jq H' c o := by
  cases c <;> simp only [jq] at h ⊢
  · obtain ⟨v, e, h⟩ := h; exact ⟨v, e, h.mono s⟩
  · obtain ⟨v, e, h⟩ := h; exact ⟨v, e, h.mono s⟩
  · exact h
theorem Sl.mono {H H' : Hp} {σ : St} {ρ : aI} (h : Sl H σ ρ) (s : az H H') : Sl H' σ ρ := ⟨h.1, fun i c o h1 h2 => (h.2 i c o h1 h2).mono s⟩
inductive R (α : Type) where
  | ok (a : α)
  | ex (c : Str)
  | no
def R.bind {α β : Type} : R α → (α → R β) → R β
  | .ok a, f => f a
  | .ex c, _ => .ex c
  | .no, _ => .no
instance : Monad R where
  pure := .ok
  bind := R.bind
@[simp] theorem R.ok_bind {α β : Type} (a : α) (f : α → R β) : (R.ok a >>= f) = f a := (rfl)
structure mf (P : Program) (w : World) (outer : List Env) (H : Hp) (s : Shared) (C : Addr) (H' : Hp) (e : Value) (s' : Shared) : Prop where
  os : s'.os = s.os
  bare : AllBare s'.gens
  same : az H H'
  ex : ∃ (p : Addr) (a0 : Value) (B : Heap), e = .ref p ∧ Heap.FlyingW B outer p (.ref C) a0 s'.heap ∧ iX P w H' B ∧ H' p = none ∧ ∀ b o, s.heap.get? b = some o → H b = none → b ∉ md outer → B.get? b = some o ∧ H' b = none
  slot : ∀ b o, s.heap.get? b = some o → H b = none → b ∈ md outer → (∃ sl, s'.heap.get? b = some { o with slots := sl }) ∧ H' b = none
def cK (P : Program) (w : World) (mg : Str → Option Value) : ww := fun outer H s E e s' => ∃ n C H', mg n = some (.ref C) ∧ mf P w outer H s C H' e s' ∧ E (.str n 0) none H'
def EX (X : Cx) : XK := fun v _ H' => ∀ (n : Str) (C : Addr), v = .str n 0 → X.mg n = some (.ref C) → ∀ (pins : List (Addr × Obj)) (σ : St) (H : Hp) (s : Shared) (e : Value) (s' : Shared), aC X pins σ H s → mf X.prog X.w X.stack H s C H' e s' → X.xe e s'
theorem uq {X : Cx} : mS (cK X.prog X.w X.mg) X (EX X) := fun pins σ H s e s' I ⟨n, C, H', hm, f, q⟩ => q n C rfl hm pins σ H s e s' I f
def Xw (X : Cx) (c : Str) (H : Hp) : Prop := ∀ H1, az H H1 → EX X (.str c 0) none H1
theorem Xw.mono {X : Cx} {c : Str} {H H' : Hp} (h : Xw X c H) (s : az H H') : Xw X c H' := fun H1 s1 => h H1 (s.trans s1)
def Cj (X : Cx) (c : Str) (Fm : Hp) : Prop := ∀ C, X.mg c = some (.ref C) → ∀ (pins : List (Addr × Obj)) (σ : St) (H : Hp) (s : Shared), az Fm H → aC X pins σ H s → ∀ (h' : Heap) (p : Addr) (vs : List Value), Heap.MadeExcOf s.heap h' p (.ref C) vs → X.xe (.ref p) { s with heap := h' }
theorem Cj.mono {X : Cx} {c : Str} {H H' : Hp} (h : Cj X c H) (s : az H H') : Cj X c H' := fun C hm pins σ H1 s1 e => h C hm pins σ H1 s1 (s.trans e)
def tz (X : Cx) (P : Hp → Hp → PyData → V → Prop) (r : R PyData) (H : Hp) (Q : VK) : Prop :=
  match r with
  | .ok d => ∀ v H', az H H' → P H H' d v → Q v H'
  | .ex c => Xw X c H
  | .no => False
abbrev gB : Hp → Hp → PyData → V → Prop := fun _ H' d v => Rp H' d v
abbrev tQ : Hp → Hp → PyData → V → Prop := fun _ H' d v => hR H' d v
abbrev Dw : Hp → Hp → PyData → V → Prop := fun H H' d v => Rp H' d v ∨ B4 H H' d v
abbrev Fe := aI → R PyData
def iW (X : Cx) (P : Hp → Hp → PyData → V → Prop) (f : Fe) : TE := fun σ H Q => ∃ ρ, Sl H σ ρ ∧ tz X P (f ρ) H Q
def ah (X : Cx) (e : Expr) (f : Fe) : Prop := PE X e (iW X gB f)
structure Z.ah (X : Cx) (e : Expr) (f : Fe) : Prop where
  un : D2.ah X e f
def bD (X : Cx) (e : Expr) (f : Fe) : Prop := PE X e (iW X tQ f)
structure Z.bD (X : Cx) (e : Expr) (f : Fe) : Prop where
  un : D2.bD X e f
def yw (X : Cx) (e : Expr) (f : Fe) : Prop := PE X e (iW X Dw f)
structure Z.yw (X : Cx) (e : Expr) (f : Fe) : Prop where
  un : D2.yw X e f
def fO (X : Cx) (e : Expr) (f : Fe) : Prop := PE X e (iW X B4 f)
structure Z.fO (X : Cx) (e : Expr) (f : Fe) : Prop where
  un : D2.fO X e f
def RA (I : Hp → PyData → V → Prop) (H : Hp) : List PyData → List V → Prop
  | [], vs => vs = []
  | d :: ds, vs => ∃ v r, vs = v :: r ∧ I H d v ∧ RA I H ds r
theorem lw {H : Hp} : ∀ {ds : List PyData} {vs : List V}, RA Rp H ds vs ↔ bg H ds vs
  | [], vs => by simp only [RA, bg]
  | d :: ds, vs => by simp only [RA, bg, lw (ds := ds)]
def xM (X : Cx) (I : Hp → PyData → V → Prop) (f : aI → R (List PyData)) : TA := fun σ H Q => ∃ ρ, Sl H σ ρ ∧ match f ρ with
  | .ok ds => ∀ vs H', az H H' → RA I H' ds vs → Q vs H'
  | .ex c => Xw X c H
  | .no => False
def me (X : Cx) (es : List Expr) (f : aI → R (List PyData)) : Prop := PA X es (xM X Rp f)
structure Z.me (X : Cx) (es : List Expr) (f : aI → R (List PyData)) : Prop where
  un : D2.me X es f
def BY (X : Cx) (es : List Expr) (f : aI → R (List PyData)) : Prop := PA X es (xM X hR f)
def yO (X : Cx) (f : aI → R Bool) : TT := fun σ H Q => ∃ ρ, Sl H σ ρ ∧ match f ρ with
  | .ok b => ∀ H', az H H' → Q b H'
  | .ex c => Xw X c H
  | .no => False
def gH (X : Cx) (e : Expr) (f : aI → R Bool) : Prop := PT X e (yO X f)
structure Z.gH (X : Cx) (e : Expr) (f : aI → R Bool) : Prop where
  un : D2.gH X e f
def jN (X : Cx) (e : Expr) (f : aI → R Bool) : Prop := PW X e (yO X f)
structure Z.jN (X : Cx) (e : Expr) (f : aI → R Bool) : Prop where
  un : D2.jN X e f
theorem PE.imp {X : Cx} {e : Expr} {t t' : TE} (h : PE X e t) (i : ∀ σ H Q, t' σ H Q → t σ H Q) : PE X e t' := fun pins s σ H Q I q => h pins s σ H Q I (i σ H Q q)
theorem PT.imp {X : Cx} {e : Expr} {t t' : TT} (h : PT X e t) (i : ∀ σ H Q, t' σ H Q → t σ H Q) : PT X e t' := fun pins s σ H Q I q => h pins s σ H Q I (i σ H Q q)
theorem PW.imp {X : Cx} {e : Expr} {t t' : TT} (h : PW X e t) (i : ∀ σ H Q, t' σ H Q → t σ H Q) : PW X e t' := fun wh pins s σ H Q I q => h wh pins s σ H Q I (i σ H Q q)
theorem PA.imp {X : Cx} {e : List Expr} {t t' : TA} (h : PA X e t) (i : ∀ σ H Q, t' σ H Q → t σ H Q) : PA X e t' := fun pos pins s σ H Q I q => h pos pins s σ H Q I (i σ H Q q)
theorem iW.post {X : Cx} {P : Hp → Hp → PyData → V → Prop} {f : Fe} {σ : St} {H : Hp} {Q Q' : VK} (h : iW X P f σ H Q) (i : ∀ v H', Q v H' → Q' v H') : iW X P f σ H Q' := by
  obtain ⟨ρ, sl, q⟩ := h
  refine ⟨ρ, sl, ?_⟩
  cases e : f ρ with
  | ok d => rw [e] at q; exact fun v H' s p => i _ _ (q v H' s p)
  | ex c => rw [e] at q; exact q
  | no => rw [e] at q; exact q
theorem yO.post {X : Cx} {f : aI → R Bool} {σ : St} {H : Hp} {Q Q' : Bool → Hp → Prop} (h : yO X f σ H Q) (i : ∀ b H', Q b H' → Q' b H') : yO X f σ H Q' := by
  obtain ⟨ρ, sl, q⟩ := h
  refine ⟨ρ, sl, ?_⟩
  cases e : f ρ with
  | ok d => rw [e] at q; exact fun H' s => i _ _ (q H' s)
  | ex c => rw [e] at q; exact q
  | no => rw [e] at q; exact q
theorem xM.post {X : Cx} {I : Hp → PyData → V → Prop} {f : aI → R (List PyData)} {σ : St} {H : Hp} {Q Q' : List V → Hp → Prop} (h : xM X I f σ H Q) (i : ∀ vs H', Q vs H' → Q' vs H') : xM X I f σ H Q' := by
  obtain ⟨ρ, sl, q⟩ := h
  refine ⟨ρ, sl, ?_⟩
  cases e : f ρ with
  | ok d => rw [e] at q; exact fun vs H' s p => i _ _ (q vs H' s p)
  | ex c => rw [e] at q; exact q
  | no => rw [e] at q; exact q
theorem iW.weaken {X : Cx} {P P' : Hp → Hp → PyData → V → Prop} {f : Fe} (h : ∀ H H' d v, P H H' d v → P' H H' d v) (σ : St) (H : Hp) (Q : VK) (q : iW X P' f σ H Q) : iW X P f σ H Q := by
  obtain ⟨ρ, sl, q⟩ := q
  refine ⟨ρ, sl, ?_⟩
  cases e : f ρ with
  | ok d => rw [e] at q; exact fun v H' s p => q v H' s (h _ _ _ _ p)
  | ex c => rw [e] at q; exact q
  | no => rw [e] at q; exact q
section
variable {X : Cx} {e : Expr} {f : Fe}
theorem ah.b (h : ah X e f) : bD X e f := PE.imp h (iW.weaken fun _ _ _ _ p => Or.inl p)
theorem Z.ah.b (h : Z.ah X e f) : Z.bD X e f :=
  ⟨D2.ah.b h.un⟩
theorem fO.b (h : fO X e f) : bD X e f := PE.imp h (iW.weaken fun _ _ _ _ p => Or.inr p.1)
theorem Z.fO.b (h : Z.fO X e f) : Z.bD X e f :=
  ⟨D2.fO.b h.un⟩
theorem fO.toF (h : fO X e f) : yw X e f := PE.imp h (iW.weaken fun _ _ _ _ p => Or.inr p)
end
section
variable {X : Cx} {pins : List (Addr × Obj)} {σ : St} {H : Hp} {s : Shared} {a : Addr} {u : HO}
theorem gp (I : aC X pins σ H s) (h : H a = some u) (hm : (∃ xs, u = .lst xs) ∨ ∃ ks, u = .dK ks) : ∃ o, aC X pins σ (ci H a (.frz o u)) s := by
  have ob := I.hok a u h
  have hg : ∃ o, s.heap.get? a = some o := by
    rcases hm with ⟨xs, rfl⟩ | ⟨ks, rfl⟩
    · obtain ⟨_, _, _, _, e⟩ := ob; exact ⟨_, e⟩
    · obtain ⟨_, _, _, _, o, _, _, e, _⟩ := ob; exact ⟨_, e⟩
  obtain ⟨o, hg⟩ := hg
  have nt : ∀ b xs, H b = some (.tup xs) → b ≠ a := fun b xs q z => by subst z; rw [h] at q; rcases hm with ⟨_, rfl⟩ | ⟨_, rfl⟩ <;> cases q
  have nf : ∀ b o' u', H b = some (.frz o' u') → b ≠ a := fun b o' u' q z => by subst z; rw [h] at q; rcases hm with ⟨_, rfl⟩ | ⟨_, rfl⟩ <;> cases q
  have nb : ∀ b ps, H b = some (.tbl ps) → b ≠ a := fun b ps q z => by subst z; rw [h] at q; rcases hm with ⟨_, rfl⟩ | ⟨_, rfl⟩ <;> cases q
  have nw : ∀ b y, H b = some (.own y) → b ≠ a := fun b y q z => by subst z; rw [h] at q; rcases hm with ⟨_, rfl⟩ | ⟨_, rfl⟩ <;> cases q
  have nn : ∀ b, H b = none → b ≠ a := fun b q z => by subst z; rw [h] at q; cases q
  have st : ∀ b x, bI X.prog X.w H s.heap b x → bI X.prog X.w (ci H a (.frz o u)) s.heap b x := fun b x q =>
    q.stay (fun c v _ e => e) (fun c e => by rw [ar (nw _ _ e)]; exact e) fun c xs e => by rw [ar (nt _ _ e)]; exact e
  refine ⟨o, ⟨I.ok, I.os, I.bare, ⟨I.base.keep, I.base.slot, fun b ob' e n hx => ?_, I.base.there, fun b xs e => ?_, fun b ob' v e => ?_, fun b ps e => ?_⟩, I.loc, I.cell, ?_, fun x c e => ?_, fun p hp => ?_, fun b x e => ?_, I.len⟩⟩
  · have := I.base.free b ob' e n hx
    rw [ar (nn _ this)]; exact this
  · have := I.base.tups b xs e
    rw [ar (nt _ _ this)]; exact this
  · have := I.base.frzs b ob' v e
    rw [ar (nf _ _ _ this)]; exact this
  · obtain ⟨m, q⟩ := I.base.tbls b ps e
    exact ⟨m, by rw [ar (nb _ _ q)]; exact q⟩
  · rw [ar (nn _ I.free)]; exact I.free
  · rw [ar (nn _ (I.freeC x c e))]; exact I.freeC x c e
  · obtain ⟨p1, p2, p3⟩ := I.pin p hp
    exact ⟨p1, by rw [ar (nn _ p2)]; exact p2, p3⟩
  · by_cases hb : b = a
    · subst hb
      rw [aX] at e; cases e
      exact ⟨hg, st b u ob⟩
    · rw [ar hb] at e
      exact st b x (I.hok b x e)
theorem gq {o' : HO} (h : H a = some u) (hm : (∃ xs, u = .lst xs) ∨ ∃ ks, u = .dK ks) : Kp H (ci H a o') := by
  refine ⟨fun b xs e => ?_, fun b o v e => ?_⟩
  · rw [ar]; exact e
    rintro rfl; rw [h] at e; rcases hm with ⟨_, rfl⟩ | ⟨_, rfl⟩ <;> cases e
  · rw [ar]; exact e
    rintro rfl; rw [h] at e; rcases hm with ⟨_, rfl⟩ | ⟨_, rfl⟩ <;> cases e
theorem A4 {H0 : Hp} {d : PyData} {v : V} (I : aC X pins σ H s) (hs : az H0 H) (n : B4 H0 H d v) : ∃ H', aC X pins σ H' s ∧ az H0 H' ∧ Rp H' d v := by
  obtain ⟨n, a, rfl, h0⟩ := n
  have go : ∀ u : HO, H a = some u → ((∃ xs, u = .lst xs) ∨ ∃ ks, u = .dK ks) → ∃ o, aC X pins σ (ci H a (.frz o u)) s ∧ az H0 (ci H a (.frz o u)) ∧ Kp H (ci H a (.frz o u)) := fun u hu hm => by
    obtain ⟨o, J⟩ := gp I hu hm
    refine ⟨o, J, fun b x e => ?_, gq hu hm⟩
    rw [ar (aS e h0)]; exact hs b x e
  cases d <;> simp only [iU] at n
  · obtain ⟨a', vs, e, ha, r⟩ := n
    cases e
    obtain ⟨o, J, S, K⟩ := go _ ha (.inl ⟨_, rfl⟩)
    refine ⟨_, J, S, ?_⟩
    simp only [Rp]
    exact ⟨a, o, vs, rfl, aX, bg.kp K _ _ r⟩
  · obtain ⟨a', vs, e, ha, r⟩ := n
    cases e
    obtain ⟨o, J, S, K⟩ := go _ ha (.inr ⟨_, rfl⟩)
    refine ⟨_, J, S, ?_⟩
    simp only [Rp]
    exact .inl ⟨a, o, vs, rfl, aX, dJ.kp K _ _ r⟩
end
theorem yw.e {X : Cx} {e : Expr} {f : Fe} (h : yw X e f) : ah X e f := by
  intro pins s σ H Q I q
  obtain ⟨ρ, sl, q⟩ := q
  cases ef : f ρ with
  | ok d =>
    rw [ef] at q
    refine cR (h pins s σ H (fun v H' => az H H' ∧ Dw H H' d v) I ⟨ρ, sl, by rw [ef]; exact fun v H' hs p => ⟨hs, p⟩⟩) fun u s' ⟨v, H', I', r, hs, p⟩ => ?_
    rcases p with p | p
    · exact ⟨v, H', I', r, q v H' hs p⟩
    · obtain ⟨H2, I2, S2, p2⟩ := A4 I' hs p
      exact ⟨v, H2, I2, r, q v H2 S2 p2⟩
  | ex c => rw [ef] at q; exact cR (h pins s σ H (fun _ _ => False) I ⟨ρ, sl, by rw [ef]; exact q⟩) fun u s' ⟨v, H', I', r, z⟩ => z.elim
  | no => rw [ef] at q; exact q.elim
theorem Z.yw.e {X : Cx} {e : Expr} {f : Fe} (h : Z.yw X e f) : Z.ah X e f :=
  ⟨D2.yw.e h.un⟩
theorem fO.e {X : Cx} {e : Expr} {f : Fe} (h : fO X e f) : ah X e f := (fO.toF h).e
theorem Z.fO.e {X : Cx} {e : Expr} {f : Fe} (h : Z.fO X e f) : Z.ah X e f :=
  ⟨D2.fO.e h.un⟩
structure zQ {β : Type} (X : Cx) (T : R β → Hp → Prop) : Prop where
  mono : ∀ r H H', T r H → az H H' → T r H'
  ex : ∀ c H, T (.ex c) H → Xw X c H
  no : ∀ H, ¬ T .no H
def Dn (P : Hp → Hp → PyData → V → Prop) : Prop := ∀ H H1 H' d v, az H H1 → P H1 H' d v → P H H' d v
theorem gi : Dn gB := fun _ _ _ _ _ _ p => p
theorem zW : Dn B4 := fun _ _ _ _ _ s p => ⟨p.1, let ⟨a, e, h⟩ := p.2; ⟨a, e, s.free h⟩⟩
theorem yP : Dn Dw := fun _ _ _ _ _ s p => p.elim .inl fun p => .inr (zW _ _ _ _ _ s p)
section
variable {X : Cx} {σ : St} {H : Hp}
theorem eV {P : Hp → Hp → PyData → V → Prop} (hP : Dn P) (Q : VK) : zQ X (fun r H => tz X P r H Q) where
  mono := fun r H H' h s => by
    cases r with
    | ok d => exact fun v H2 s2 p => h v H2 (s.trans s2) (hP _ _ _ _ _ s p)
    | ex c => exact Xw.mono h s
    | no => exact h
  ex := fun c H h => h
  no := fun H h => h
theorem uH (Q : Bool → Hp → Prop) : zQ X (fun (r : R Bool) H => match r with | .ok b => ∀ H', az H H' → Q b H' | .ex c => Xw X c H | .no => False) where
  mono := fun r H H' h s => by
    cases r with
    | ok d => exact fun H2 s2 => h H2 (s.trans s2)
    | ex c => exact Xw.mono h s
    | no => exact h
  ex := fun c H h => h
  no := fun H h => h
theorem Ax (I : Hp → PyData → V → Prop) (Q : List V → Hp → Prop) : zQ X (fun (r : R (List PyData)) H => match r with | .ok ds => ∀ vs H', az H H' → RA I H' ds vs → Q vs H' | .ex c => Xw X c H | .no => False) where
  mono := fun r H H' h s => by
    cases r with
    | ok d => exact fun vs H2 s2 => h vs H2 (s.trans s2)
    | ex c => exact Xw.mono h s
    | no => exact h
  ex := fun c H h => h
  no := fun H h => h
theorem eG {β : Type} {T : R β → Hp → Prop} (t : zQ X T) {P : Hp → Hp → PyData → V → Prop} {f : Fe} {k : aI → PyData → R β} (h : ∃ ρ, Sl H σ ρ ∧ T (f ρ >>= k ρ) H) :
    iW X P f σ H (fun v H1 => ∃ ρ d, Sl H1 σ ρ ∧ az H H1 ∧ P H H1 d v ∧ T (k ρ d) H1) := by
  obtain ⟨ρ, sl, q⟩ := h
  refine ⟨ρ, sl, ?_⟩
  cases e : f ρ with
  | ok d => rw [e] at q; exact fun v H1 s p => ⟨ρ, d, sl.mono s, s, p, t.mono _ _ _ q s⟩
  | ex c => rw [e] at q; exact t.ex _ _ q
  | no => rw [e] at q; exact (t.no _ q).elim
theorem qA {β : Type} {T : R β → Hp → Prop} (t : zQ X T) {f : aI → R Bool} {k : aI → Bool → R β} (h : ∃ ρ, Sl H σ ρ ∧ T (f ρ >>= k ρ) H) :
    yO X f σ H (fun b H1 => ∃ ρ, Sl H1 σ ρ ∧ az H H1 ∧ T (k ρ b) H1) := by
  obtain ⟨ρ, sl, q⟩ := h
  refine ⟨ρ, sl, ?_⟩
  cases e : f ρ with
  | ok d => rw [e] at q; exact fun H1 s => ⟨ρ, sl.mono s, s, t.mono _ _ _ q s⟩
  | ex c => rw [e] at q; exact t.ex _ _ q
  | no => rw [e] at q; exact (t.no _ q).elim
theorem mQ {β : Type} {T : R β → Hp → Prop} (t : zQ X T) {I : Hp → PyData → V → Prop} {f : aI → R (List PyData)} {k : aI → List PyData → R β} (h : ∃ ρ, Sl H σ ρ ∧ T (f ρ >>= k ρ) H) :
    xM X I f σ H (fun vs H1 => ∃ ρ ds, Sl H1 σ ρ ∧ az H H1 ∧ RA I H1 ds vs ∧ T (k ρ ds) H1) := by
  obtain ⟨ρ, sl, q⟩ := h
  refine ⟨ρ, sl, ?_⟩
  cases e : f ρ with
  | ok d => rw [e] at q; exact fun vs H1 s p => ⟨ρ, d, sl.mono s, s, p, t.mono _ _ _ q s⟩
  | ex c => rw [e] at q; exact t.ex _ _ q
  | no => rw [e] at q; exact (t.no _ q).elim
end
def ad (i : Nat) : Fe := fun ρ => match ρ[i]? with
  | some (.val d) => .ok d
  | _ => .no
def fu (i : Nat) : Fe := fun ρ => match ρ[i]? with
  | some (.val d) => .ok d
  | some (.own d) => .ok d
  | _ => .no
def eC (d : PyData) : Fe := fun _ => .ok d
structure Tb (X : Cx) (nl : Nat) (G : List Str) : Prop where
  hu : X.A.units + 64 < cLine
  calm : X.calm = true
  nd : X.N.Nodup
  vis : ∀ x ∈ X.N, BP X.env.scope x ∧ (x == ("__debug__" : Str)) = false ∧ (x == ("__classdict__" : Str)) = false
  loc : ∀ x ∈ X.N.take nl, Ar X.env.scope x ∧ (X.fn x = true ∨ X.env.scope.names.lookup x = some .local)
  gl : ∀ x ∈ G, Gl X x ∧ (x == ("__debug__" : Str)) = false ∧ x ≠ ("__name__" : Str)
section
variable {X : Cx} {nl : Nat} {G : List Str} {x : Str} {pos : Pos}
theorem Sl.at {H : Hp} {σ : St} {ρ : aI} {i : Nat} {c : aW} (h : Sl H σ ρ) (e : ρ[i]? = some c) : ∃ o, σ[i]? = some o ∧ jq H c o := by
  have hi : i < σ.length := by rw [h.1]; exact (List.getElem?_eq_some_iff.mp e).1
  exact ⟨σ[i], List.getElem?_eq_getElem hi, h.2 i c _ e (List.getElem?_eq_getElem hi)⟩
theorem aa (T : Tb X nl G) (i : Nat) (hN : X.N[i]? = some x) : ah X (.Name x pos) (ad i) := by
  have hm := T.vis x (List.mem_of_getElem? hN)
  refine PE.imp (im hN hm.1 hm.2.1 hm.2.2) fun σ H Q ⟨ρ, sl, q⟩ => ?_
  unfold ad at q
  split at q
  · rename_i d e
    obtain ⟨o, h1, v, rfl, h2⟩ := sl.at e
    exact ⟨v, h1, q v H (az.refl H) h2⟩
  · exact q.elim
theorem Z.aa (T : Tb X nl G) (i : Nat) (hN : X.N[i]? = some x) : Z.ah X (.Name x pos) (ad i) :=
  ⟨D2.aa T i hN⟩
theorem eJ (T : Tb X nl G) (i : Nat) (hN : X.N[i]? = some x) : bD X (.Name x pos) (fu i) := by
  have hm := T.vis x (List.mem_of_getElem? hN)
  refine PE.imp (im hN hm.1 hm.2.1 hm.2.2) fun σ H Q ⟨ρ, sl, q⟩ => ?_
  unfold fu at q
  split at q
  · rename_i d e
    obtain ⟨o, h1, v, rfl, h2⟩ := sl.at e
    exact ⟨v, h1, q v H (az.refl H) (.inl h2)⟩
  · rename_i d e
    obtain ⟨o, h1, v, rfl, h2⟩ := sl.at e
    exact ⟨v, h1, q v H (az.refl H) (.inr h2)⟩
  · exact q.elim
theorem Z.eJ (T : Tb X nl G) (i : Nat) (hN : X.N[i]? = some x) : Z.bD X (.Name x pos) (fu i) :=
  ⟨D2.eJ T i hN⟩
theorem ny {e : Expr} {d : PyData} {v : V} (h : PE X e (tC v)) (r : ∀ H, Rp H d v) : ah X e (eC d) :=
  PE.imp h fun σ H Q ⟨ρ, sl, q⟩ => q v H (az.refl H) (r H)
theorem ak {i j} : ah X (.Constant (.int i) j pos) (eC (.int i)) := ny BD fun H => by simp only [Rp]
theorem Z.ak {i j} : Z.ah X (.Constant (.int i) j pos) (eC (.int i)) :=
  ⟨D2.ak⟩
theorem bx {b j} : ah X (.Constant (.bool b) j pos) (eC (.bool b)) := ny CQ fun H => by simp only [Rp]
theorem Z.bx {b j} : Z.ah X (.Constant (.bool b) j pos) (eC (.bool b)) :=
  ⟨D2.bx⟩
theorem de {j} : ah X (.Constant .none j pos) (eC .none) := ny Bb fun H => by simp only [Rp]
theorem Z.de {j} : Z.ah X (.Constant .none j pos) (eC .none) :=
  ⟨D2.de⟩
theorem t5 {y j} : ah X (.Constant (.str y) j pos) (eC (.str y)) := ny A8 fun H => by simp only [Rp]
theorem Z.t5 {y j} : Z.ah X (.Constant (.str y) j pos) (eC (.str y)) :=
  ⟨D2.t5⟩
theorem gx {i : Int} {t : Tok} (T : Tb X nl G) (j : Nat) (hG : G[j]? = some x) (hm : X.mg x = some (.int i t)) : ah X (.Name x pos) (eC (.int i)) := by
  have g := T.gl x (List.mem_of_getElem? hG)
  exact ny (uK g.1 hm (v := .int i) ⟨t, rfl⟩ g.2.1) fun H => by simp only [Rp]
theorem Z.gx {i : Int} {t : Tok} (T : Tb X nl G) (j : Nat) (hG : G[j]? = some x) (hm : X.mg x = some (.int i t)) : Z.ah X (.Name x pos) (eC (.int i)) :=
  ⟨D2.gx T j hG hm⟩
end
section
variable {X : Cx} {a b c : Expr} {fa fb fc : Fe} {pos : Pos}
def e2 (g : PyData → PyData → R PyData) (fa fb : Fe) : Fe := fun ρ => fa ρ >>= fun x => fb ρ >>= fun y => g x y
def e1 (g : PyData → R PyData) (fa : Fe) : Fe := fun ρ => fa ρ >>= fun x => g x
def bQ (X : Cx) (P : Hp → Hp → PyData → V → Prop) (r : R2) (g : PyData → PyData → R PyData) : Prop :=
  ∀ H x y dx dy Q, hR H dx x → hR H dy y → tz X P (g dx dy) H Q → r x y H Q
theorem two {P : Hp → Hp → PyData → V → Prop} {r : R2} {g : PyData → PyData → R PyData} (hP : Dn P) (hg : bQ X P r g) (σ : St) (H : Hp) (Q : VK) (h : iW X P (e2 g fa fb) σ H Q) :
    CV r (iW X tQ fa) (iW X tQ fb) σ H Q :=
  (eG (P := tQ) (eV (X := X) hP Q) h).post fun v H1 ⟨ρ1, d1, sl1, _, p1, q1⟩ =>
    (eG (P := tQ) (f := fb) (k := fun _ y => g d1 y) (eV (X := X) hP Q) ⟨ρ1, sl1, q1⟩).post fun u H2 ⟨_, d2, _, s2, p2, q2⟩ => hg H2 v u d1 d2 Q (hR.mono p1 s2) p2 q2
theorem mF {op : Operator} {P : Hp → Hp → PyData → V → Prop} {r : R2} {g : PyData → PyData → R PyData} (hP : Dn P) (ho : iS X (binaryOp op) r) (hg : bQ X P r g) (ha : bD X a fa) (hb : bD X b fb) :
    PE X (.BinOp a op b pos) (iW X P (e2 g fa fb)) := PE.imp (Dg ho ha hb) (two hP hg)
theorem pf {op : CmpOp} {r : R2} {g : PyData → PyData → R PyData} (ho : iS X (compareOp op) r) (hg : bQ X gB r g) (ha : bD X a fa) (hb : bD X b fb) (hm : behindInMarks op b = false) :
    ah X (.Compare a [op] [b] pos) (e2 g fa fb) := PE.imp (zA ho ha hb hm) (two gi hg)
end
def u6 : PyData → R Bool
  | .bool b => .ok b
  | _ => .no
def tE (f : Fe) : aI → R Bool := fun ρ => f ρ >>= u6
theorem uS {X : Cx} {f : Fe} {σ : St} {H : Hp} {Q : Bool → Hp → Prop} (h : yO X (tE f) σ H Q) : iW X gB f σ H (fun x H' => ∃ k, x = .bl k ∧ Q k H') :=
  (eG (P := gB) (f := f) (k := fun _ => u6) (uH (X := X) Q) h).post fun v H1 ⟨ρ1, d1, _, _, p1, q1⟩ => by
    cases d1 with
    | bool b =>
      have p2 : v = .bl b := by simpa only [Rp] using p1
      exact ⟨b, p2, q1 H1 (az.refl _)⟩
    | _ => exact q1.elim
section
variable {X : Cx} {a b c : Expr} {fa fb fc : Fe} {pos : Pos}
theorem gz {op : CmpOp} {r : R2} {g : PyData → PyData → R PyData} (ho : iS X (compareOp op) r) (hg : bQ X gB r g) (ha : bD X a fa) (hb : bD X b fb) (hm : behindInMarks op b = false) :
    gH X (.Compare a [op] [b] pos) (tE (e2 g fa fb)) :=
  PT.imp (zq ho ha hb hm) fun σ H Q h => two gi hg σ H _ (uS h)
theorem cA {e : Expr} {f : Fe} (h : ah X e f) (he : ∀ whole, isTrue e X.env whole = (do let v ← whole; standAt e.pos; holding [v] (truthy v)) := by intro _; rfl) : gH X e (tE f) :=
  PT.imp (BJ h he) fun σ H Q h => uS h
theorem Z.cA {e : Expr} {f : Fe} (h : Z.ah X e f) (he : ∀ whole, isTrue e X.env whole = (do let v ← whole; standAt e.pos; holding [v] (truthy v)) := by intro _; rfl) : Z.gH X e (tE f) :=
  ⟨D2.cA h.un he⟩
def gj (f g : aI → R Bool) : aI → R Bool := fun ρ => f ρ >>= fun b => if b = true then g ρ else .ok false
def hZ (f g : aI → R Bool) : aI → R Bool := fun ρ => f ρ >>= fun b => if b = true then .ok true else g ρ
def ej (f : aI → R Bool) : aI → R Bool := fun ρ => f ρ >>= fun b => .ok (!b)
variable {ga gb : aI → R Bool} {rest : List Expr}
theorem gn (ha : gH X a ga) : jN X (.BoolOp .And [a] pos) ga := pw_and1 ha
theorem Z.gn (ha : Z.gH X a ga) : Z.jN X (.BoolOp .And [a] pos) ga :=
  ⟨D2.gn ha.un⟩
theorem eI (ha : gH X a ga) : jN X (.BoolOp .Or [a] pos) ga := pw_or1 ha
theorem Z.eI (ha : Z.gH X a ga) : Z.jN X (.BoolOp .Or [a] pos) ga :=
  ⟨D2.eI ha.un⟩
theorem iH (ha : gH X a ga) (hb : jN X (.BoolOp .And (b :: rest) pos) gb) : jN X (.BoolOp .And (a :: b :: rest) pos) (gj ga gb) :=
  PW.imp (pw_and ha hb) fun σ H Q h => (qA (f := ga) (k := fun ρ b => if b = true then gb ρ else .ok false) (uH (X := X) Q) h).post fun d H1 ⟨ρ1, sl1, _, q1⟩ => by
    cases d with
    | true => exact ⟨ρ1, sl1, q1⟩
    | false => exact q1 H1 (az.refl _)
theorem Z.iH (ha : Z.gH X a ga) (hb : Z.jN X (.BoolOp .And (b :: rest) pos) gb) : Z.jN X (.BoolOp .And (a :: b :: rest) pos) (gj ga gb) :=
  ⟨D2.iH ha.un hb.un⟩
theorem ff (ha : gH X a ga) (hb : jN X (.BoolOp .Or (b :: rest) pos) gb) : jN X (.BoolOp .Or (a :: b :: rest) pos) (hZ ga gb) :=
  PW.imp (pw_or ha hb) fun σ H Q h => (qA (f := ga) (k := fun ρ b => if b = true then .ok true else gb ρ) (uH (X := X) Q) h).post fun d H1 ⟨ρ1, sl1, _, q1⟩ => by
    cases d with
    | false => exact ⟨ρ1, sl1, q1⟩
    | true => exact q1 H1 (az.refl _)
theorem Z.ff (ha : Z.gH X a ga) (hb : Z.jN X (.BoolOp .Or (b :: rest) pos) gb) : Z.jN X (.BoolOp .Or (a :: b :: rest) pos) (hZ ga gb) :=
  ⟨D2.ff ha.un hb.un⟩
theorem jN.t {e : Expr} (h : jN X e ga) : gH X e ga := PW.pt h
theorem Z.jN.t {e : Expr} (h : Z.jN X e ga) : Z.gH X e ga :=
  ⟨D2.jN.t h.un⟩
theorem c6 (ha : gH X a ga) : gH X (.UnaryOp .Not a pos) (ej ga) :=
  PT.imp (BQ ha) fun σ H Q h => (qA (f := ga) (k := fun _ b => .ok (!b)) (uH (X := X) Q) h).post fun d H1 ⟨ρ1, sl1, _, q1⟩ => q1 H1 (az.refl _)
theorem Z.c6 (ha : Z.gH X a ga) : Z.gH X (.UnaryOp .Not a pos) (ej ga) :=
  ⟨D2.c6 ha.un⟩
def xx (f g : Fe) : Fe := fun ρ => f ρ >>= fun d => u6 d >>= fun b => if b = true then g ρ else .ok (.bool false)
def Bs (f : Fe) : Fe := fun ρ => f ρ >>= fun d => u6 d >>= fun b => .ok (.bool (!b))
theorem uX {k : aI → Bool → R PyData} {f : Fe} {σ : St} {H : Hp} {Q : VK} (h : iW X gB (fun ρ => f ρ >>= fun d => u6 d >>= fun b => k ρ b) σ H Q) :
    iW X gB f σ H (fun x H' => ∃ c, x = .bl c ∧ iW X gB (fun ρ => k ρ c) σ H' Q) :=
  (eG (P := gB) (f := f) (k := fun ρ d => u6 d >>= fun b => k ρ b) (eV (X := X) gi Q) h).post fun v H1 ⟨ρ1, d1, sl1, _, p1, q1⟩ => by
    cases d1 with
    | bool b =>
      have p2 : v = .bl b := by simpa only [Rp] using p1
      exact ⟨b, p2, ρ1, sl1, q1⟩
    | _ => exact q1.elim
theorem pH {op} (h : ah X a fa) : ah X (.BoolOp op [a] pos) fa := Br h
theorem Z.pH {op} (h : Z.ah X a fa) : Z.ah X (.BoolOp op [a] pos) fa :=
  ⟨D2.pH h.un⟩
theorem o9 (ha : ah X a fa) (hb : ah X (.BoolOp .And (b :: rest) pos) fb) : ah X (.BoolOp .And (a :: b :: rest) pos) (xx fa fb) :=
  PE.imp (AN ha hb) fun σ H Q h => (uX (k := fun ρ b => if b = true then fb ρ else .ok (.bool false)) h).post fun v H1 ⟨c, e1, q1⟩ => by
    refine ⟨c, e1, ?_⟩
    cases c with
    | true => exact q1
    | false =>
      obtain ⟨_, _, q2⟩ := q1
      exact q2 _ H1 (az.refl _) (by simp only [Rp])
theorem Z.o9 (ha : Z.ah X a fa) (hb : Z.ah X (.BoolOp .And (b :: rest) pos) fb) : Z.ah X (.BoolOp .And (a :: b :: rest) pos) (xx fa fb) :=
  ⟨D2.o9 ha.un hb.un⟩
theorem sE (ha : ah X a fa) : ah X (.UnaryOp .Not a pos) (Bs fa) :=
  PE.imp (BL ha) fun σ H Q h => (uX (k := fun ρ b => .ok (.bool (!b))) h).post fun v H1 ⟨c, e1, _, _, q2⟩ => ⟨c, e1, q2 _ H1 (az.refl _) (by simp only [Rp])⟩
theorem Z.sE (ha : Z.ah X a fa) : Z.ah X (.UnaryOp .Not a pos) (Bs fa) :=
  ⟨D2.sE ha.un⟩
def AX (t : aI → R Bool) (f g : Fe) : Fe := fun ρ => t ρ >>= fun b => if b = true then f ρ else g ρ
theorem kr {e : Expr} (hc : gH X e ga) (ha : ah X a fa) (hb : ah X b fb) : ah X (.IfExp e a b pos) (AX ga fa fb) :=
  PE.imp (wV hc ha hb) fun σ H Q h => (qA (f := ga) (k := fun ρ b => if b = true then fa ρ else fb ρ) (eV (X := X) gi Q) h).post fun d H1 ⟨ρ1, sl1, _, q1⟩ => by
    cases d with
    | true => exact ⟨ρ1, sl1, q1⟩
    | false => exact ⟨ρ1, sl1, q1⟩
theorem Z.kr {e : Expr} (hc : Z.gH X e ga) (ha : Z.ah X a fa) (hb : Z.ah X b fb) : Z.ah X (.IfExp e a b pos) (AX ga fa fb) :=
  ⟨D2.kr hc.un ha.un hb.un⟩
end
def au : Expr → Bool
  | .Starred .. => false
  | _ => true
theorem a4 {e : Expr} {es : List Expr} {env : Env} (h : au e = true) : starEach (e :: es) env = (false, eval e env) :: starEach es env := by
  cases e <;> first | rfl | (cases h)
theorem kM {es : List Expr} {env : Env} {pos : Pos} (h : es.all au = true) : (backTo pos (starEach es env)).any (·.1) = false := by
  induction es with
  | nil => rfl
  | cons e es ih =>
    rw [List.all_cons, Bool.and_eq_true] at h
    rw [a4 h.1]
    have := ih h.2
    simpa [backTo] using this
def ay : aI → R (List PyData) := fun _ => .ok []
def ag (f : Fe) (g : aI → R (List PyData)) : aI → R (List PyData) := fun ρ => f ρ >>= fun d => g ρ >>= fun ds => .ok (d :: ds)
section
variable {X : Cx} {e : Expr} {es : List Expr} {f : Fe} {g : aI → R (List PyData)}
theorem uO {I : Hp → PyData → V → Prop} : PA X [] (xM X I ay) := PA.imp tZ fun σ H Q ⟨ρ, sl, q⟩ => q [] H (az.refl _) (by simp only [RA])
theorem aq : me X [] ay := uO
theorem Z.aq  : Z.me X [] ay :=
  ⟨D2.aq⟩
theorem ui : BY X [] ay := uO
theorem qO {I : Hp → PyData → V → Prop} (hI : ∀ H H' d v, I H d v → az H H' → I H' d v) (ha : PE X e (iW X (fun _ H' d v => I H' d v) f)) (hr : PA X es (xM X I g))
    (hs : starEach (e :: es) X.env = (false, eval e X.env) :: starEach es X.env := by rfl) : PA X (e :: es) (xM X I (ag f g)) :=
  PA.imp (kX ha hr hs) fun σ H Q h =>
    (eG (P := fun _ H' d v => I H' d v) (f := f) (k := fun ρ d => g ρ >>= fun ds => .ok (d :: ds)) (Ax (X := X) I Q) h).post fun v H1 ⟨ρ1, d1, sl1, _, p1, q1⟩ =>
      (mQ (I := I) (f := g) (k := fun _ ds => .ok (d1 :: ds)) (Ax (X := X) I Q) ⟨ρ1, sl1, q1⟩).post fun vs H2 ⟨_, ds1, _, s2, p3, q3⟩ =>
        q3 (v :: vs) H2 (az.refl _) (by simp only [RA]; exact ⟨v, vs, rfl, hI _ _ _ _ p1 s2, p3⟩)
theorem af (ha : ah X e f) (hr : me X es g) (hs : au e = true := by rfl) : me X (e :: es) (ag f g) := qO (fun _ _ _ _ h s => h.mono s) ha hr (a4 hs)
theorem Z.af (ha : Z.ah X e f) (hr : Z.me X es g) (hs : au e = true := by rfl) : Z.me X (e :: es) (ag f g) :=
  ⟨D2.af ha.un hr.un hs⟩
theorem mm (ha : bD X e f) (hr : BY X es g) (hs : au e = true := by rfl) : BY X (e :: es) (ag f g) := qO (fun _ _ _ _ h s => h.mono s) ha hr (a4 hs)
end
section
variable {K : PySem.W.Frag} {H : Hp} {x : V}
theorem kH (h : hR H .none x) : x = .non := by
  rcases h with h | h
  · simpa only [Rp] using h
  · simp only [iU] at h
theorem nH {b : Bool} (h : hR H (.bool b) x) : x = .bl b := by
  rcases h with h | h
  · simpa only [Rp] using h
  · simp only [iU] at h
theorem bz {i : Int} (h : hR H (.int i) x) : x = .int i := by
  rcases h with h | h
  · simpa only [Rp] using h
  · simp only [iU] at h
theorem iE {y : Str} (h : hR H (.str y) x) : x = .str y := by
  rcases h with h | h
  · simpa only [Rp] using h
  · simp only [iU] at h
theorem di {ds : List PyData} (h : hR H (.tuple ds) x) : ∃ a vs, x = .ref a ∧ H a = some (.tup vs) ∧ bg H ds vs := by
  rcases h with h | h
  · simpa only [Rp] using h
  · simp only [iU] at h
theorem gf {ds : List PyData} (h : hR H (.list ds) x) : ∃ a vs, x = .ref a ∧ oa K H a vs ∧ bg H ds vs := by
  rcases h with h | h
  · simp only [Rp] at h
    obtain ⟨a, o, vs, e, ha, r⟩ := h
    exact ⟨a, vs, e, .inl (.inr ⟨o, ha⟩), r⟩
  · simp only [iU] at h
    obtain ⟨a, vs, e, ha, r⟩ := h
    exact ⟨a, vs, e, .inl (.inl ha), r⟩
theorem zu {C : Addr} {fs : List (Str × V)} {kvs : List (PyData × PyData)} (h : wz H C fs kvs) : oK kvs = true := by
  cases kvs with
  | nil => simp only [wz] at h
  | cons kd kvs => simp only [wz] at h; rw [h.1]; rfl
theorem xt {kvs : List (PyData × PyData)} (h : hR H (.dict kvs) x) : ∃ a, x = .ref a := by
  rcases h with h | h
  · simp only [Rp] at h
    rcases h with ⟨a, o, vs, e, _⟩ | ⟨a, o, C, dx, fs, e, _⟩
    · exact ⟨a, e⟩
    · exact ⟨a, e⟩
  · simp only [iU] at h
    obtain ⟨a, vs, e, _⟩ := h
    exact ⟨a, e⟩
theorem kN {kvs : List (PyData × PyData)} (hi : oK kvs = false) (h : hR H (.dict kvs) x) : ∃ a ks, x = .ref a ∧ Rd H a (.dK ks) ∧ dJ H kvs ks := by
  rcases h with h | h
  · simp only [Rp] at h
    rcases h with ⟨a, o, vs, e, ha, r⟩ | ⟨a, o, C, dx, fs, e, ha, r⟩
    · exact ⟨a, vs, e, .inr ⟨o, ha⟩, r⟩
    · rw [zu r] at hi; cases hi
  · simp only [iU] at h
    obtain ⟨a, vs, e, ha, r⟩ := h
    exact ⟨a, vs, e, .inl ha, r⟩
end
theorem bg.nil {H : Hp} : bg H [] [] := by simp only [bg]
theorem bg.cons {H : Hp} {d : PyData} {ds : List PyData} {v : V} {vs : List V} (h : Rp H d v) (t : bg H ds vs) : bg H (d :: ds) (v :: vs) := by simp only [bg]; exact ⟨v, vs, rfl, h, t⟩
theorem bg.nil_inv {H : Hp} {vs : List V} (h : bg H [] vs) : vs = [] := by simpa only [bg] using h
theorem bg.cons_inv {H : Hp} {d : PyData} {ds : List PyData} {vs : List V} (h : bg H (d :: ds) vs) : ∃ v r, vs = v :: r ∧ Rp H d v ∧ bg H ds r := by simpa only [bg] using h
theorem bg.length {H : Hp} : ∀ {ds : List PyData} {vs : List V}, bg H ds vs → vs.length = ds.length
  | [], vs, h => by rw [h.nil_inv]; rfl
  | d :: ds, vs, h => by
    obtain ⟨v, r, rfl, _, t⟩ := h.cons_inv
    rw [List.length_cons, List.length_cons, bg.length t]
theorem bg.get {H : Hp} : ∀ {ds : List PyData} {vs : List V} {i : Nat} {d : PyData}, bg H ds vs → ds[i]? = some d → ∃ v, vs[i]? = some v ∧ Rp H d v
  | [], vs, i, d, h, e => by simp at e
  | d0 :: ds, vs, 0, d, h, e => by
    obtain ⟨v, r, rfl, p, _⟩ := h.cons_inv
    simp at e; subst e
    exact ⟨v, rfl, p⟩
  | d0 :: ds, vs, i + 1, d, h, e => by
    obtain ⟨v, r, rfl, _, t⟩ := h.cons_inv
    obtain ⟨u, e1, p⟩ := bg.get (i := i) t (by simpa using e)
    exact ⟨u, by simpa using e1, p⟩
theorem bg.append {H : Hp} : ∀ {ds es : List PyData} {vs us : List V}, bg H ds vs → bg H es us → bg H (ds ++ es) (vs ++ us)
  | [], es, vs, us, h, g => by rw [h.nil_inv]; exact g
  | d :: ds, es, vs, us, h, g => by
    obtain ⟨v, r, rfl, p, t⟩ := h.cons_inv
    exact bg.cons p (bg.append t g)
theorem bg.take {H : Hp} : ∀ {ds : List PyData} {vs : List V} (n : Nat), bg H ds vs → bg H (ds.take n) (vs.take n)
  | ds, vs, 0, h => by simp only [List.take_zero]; exact bg.nil
  | [], vs, n + 1, h => by rw [h.nil_inv]; exact bg.nil
  | d :: ds, vs, n + 1, h => by
    obtain ⟨v, r, rfl, p, t⟩ := h.cons_inv
    exact bg.cons p (bg.take n t)
theorem bg.drop {H : Hp} : ∀ {ds : List PyData} {vs : List V} (n : Nat), bg H ds vs → bg H (ds.drop n) (vs.drop n)
  | ds, vs, 0, h => h
  | [], vs, n + 1, h => by rw [h.nil_inv]; exact bg.nil
  | d :: ds, vs, n + 1, h => by
    obtain ⟨v, r, rfl, p, t⟩ := h.cons_inv
    exact bg.drop n t
theorem bg.rep {H : Hp} {ds : List PyData} {vs : List V} (h : bg H ds vs) : ∀ k : Nat, bg H (List.replicate k ds).flatten (List.replicate k vs).flatten
  | 0 => bg.nil
  | k + 1 => by rw [List.replicate_succ, List.replicate_succ, List.flatten_cons, List.flatten_cons]; exact bg.append h (bg.rep h k)
theorem bg.ints {H : Hp} : ∀ ns : List Int, bg H (ns.map PyData.int) (ns.map V.int)
  | [] => bg.nil
  | n :: ns => bg.cons (by simp only [Rp]) (bg.ints ns)
theorem bY {H : Hp} {p : Addr} (h : H p = none) (o : HO) : az H (ci H p o) := fun b u q => by rw [ar (aS q h)]; exact q
theorem dc {H : Hp} {p : Addr} {ds : List PyData} {vs : List V} (h : H p = none) (r : bg H ds vs) : Rp (ci H p (.tup vs)) (.tuple ds) (.ref p) := by
  simp only [Rp]; exact ⟨p, vs, rfl, aX, r.mono (bY h _)⟩
theorem dq {H : Hp} {p : Addr} {ds : List PyData} {vs : List V} (h : H p = none) (r : bg H ds vs) : B4 H (ci H p (.lst vs)) (.list ds) (.ref p) := by
  refine ⟨?_, p, rfl, h⟩
  simp only [iU]; exact ⟨p, vs, rfl, aX, r.mono (bY h _)⟩
section
variable {P : Program} {w : World} {H : Hp} {h : Heap}
mutual
theorem qZ (ok : iX P w H h) : ∀ (d : PyData) (v : V) (u : Value), d.canLay0 = true → Rp H d v → bf v u → ∃ as, Reads h u d as
  | .none, v, u, _, r, e => by simp only [Rp] at r; subst r; cases e; exact ⟨_, .none⟩
  | .bool b, v, u, _, r, e => by simp only [Rp] at r; subst r; cases e; exact ⟨_, .bool b⟩
  | .int i, v, u, _, r, e => by simp only [Rp] at r; subst r; obtain ⟨t, rfl⟩ := e; exact ⟨_, .int i t⟩
  | .str x, v, u, _, r, e => by simp only [Rp] at r; subst r; obtain ⟨t, rfl⟩ := e; exact ⟨_, .str x t⟩
  | .tuple ds, v, u, c, r, e => by
    simp only [Rp] at r
    obtain ⟨a, vs, rfl, ha, r⟩ := r
    cases e
    obtain ⟨_, its, rv, o, h1, h2, n, h3⟩ := (show bI P w H h a (.tup vs) from ok a _ ha)
    obtain ⟨as, q⟩ := gC ok ds vs its (by simpa only [PyData.canLay0] using c) r rv
    exact ⟨as, .tuple h1 h2 h3 (by simpa using q)⟩
  | .list ds, v, u, c, r, e => by
    simp only [Rp] at r
    obtain ⟨a, ob, vs, rfl, ha, r⟩ := r
    cases e
    obtain ⟨_, _, its, n, rv, h1⟩ := (show bI P w H h a (.frz ob (.lst vs)) from ok a _ ha)
    obtain ⟨as, q⟩ := gC ok ds vs its (by simpa only [PyData.canLay0] using c) r rv
    exact ⟨a :: as, .list h1 rfl rfl (by simpa using q)⟩
  | .dict kvs, v, u, c, r, e => by simp [PyData.canLay0] at c
theorem gC (ok : iX P w H h) : ∀ (ds : List PyData) (vs : List V) (us : List Value), PyData.canLayAll0 ds = true → bg H ds vs → bh vs us → ∃ as, ReadsAll h us ds as
  | [], vs, us, _, r, e => by rw [r.nil_inv] at e; cases e; exact ⟨_, .nil⟩
  | d :: ds, vs, us, c, r, e => by
    obtain ⟨v, r', rfl, p, t⟩ := r.cons_inv
    have c' : d.canLay0 = true ∧ PyData.canLayAll0 ds = true := by simpa [PyData.canLayAll0] using c
    cases e with
    | cons e1 e2 =>
      obtain ⟨as, q1⟩ := qZ ok d v _ c'.1 p e1
      obtain ⟨bs, q2⟩ := gC ok ds r' _ c'.2 t e2
      exact ⟨as ++ bs, .cons q1 q2⟩
end
theorem dj (ok : iX P w H h) {d : PyData} {v : V} {u : Value} (c : d.canLay0 = true) (r : hR H d v) (e : bf v u) : ∃ as, Reads h u d as := by
  rcases r with r | r
  · exact qZ ok d v u c r e
  · cases d <;> simp only [iU] at r
    · rename_i ds
      obtain ⟨a, vs, rfl, ha, r⟩ := r
      cases e
      obtain ⟨_, its, n, rv, h1⟩ := (show bI P w H h a (.lst vs) from ok a _ ha)
      obtain ⟨as, q⟩ := gC ok ds vs its (by simpa only [PyData.canLay0] using c) r rv
      exact ⟨a :: as, .list h1 rfl rfl (by simpa using q)⟩
    · simp [PyData.canLay0] at c
end
def ia : PyData → Option cV
  | .int i => some (.inl i)
  | .str y => some (.inr y)
  | _ => none
def gF : PyData → PyData → Bool
  | .int i, .int j => decide (i = j)
  | .str i, .str j => decide (i = j)
  | _, _ => false
def tW (kvs : List (PyData × PyData)) (k v : PyData) : List (PyData × PyData) :=
  if (kvs.any fun kv => gF kv.1 k) = true then kvs.map (fun kv => if gF kv.1 k = true then (kv.1, v) else kv) else kvs ++ [(k, v)]
theorem jE (κ κ' : cV) : gF (fI κ) (fI κ') = decide (κ = κ') := by
  cases κ with
  | inl i =>
    cases κ' with
    | inl j => simp [fI, gF]
    | inr j => simp [fI, gF]
  | inr i =>
    cases κ' with
    | inl j => simp [fI, gF]
    | inr j => simp [fI, gF]
theorem dJ.cons {H : Hp} {k d : PyData} {kvs : List (PyData × PyData)} {κ : cV} {v : V} {ks : List (cV × V)} (e : k = fI κ) (h : Rp H d v) (t : dJ H kvs ks) : dJ H ((k, d) :: kvs) ((κ, v) :: ks) := by
  simp only [dJ, yz]; exact ⟨κ, v, ks, rfl, ⟨e, h⟩, t⟩
theorem dJ.cons_inv {H : Hp} {k d : PyData} {kvs : List (PyData × PyData)} {ks : List (cV × V)} (h : dJ H ((k, d) :: kvs) ks) : ∃ κ v r, ks = (κ, v) :: r ∧ k = fI κ ∧ Rp H d v ∧ dJ H kvs r := by
  simp only [dJ, yz] at h
  obtain ⟨κ, v, r, e, ⟨e1, p⟩, t⟩ := h
  exact ⟨κ, v, r, e, e1, p, t⟩
theorem dJ.nil_inv {H : Hp} {ks : List (cV × V)} (h : dJ H [] ks) : ks = [] := by simpa only [dJ] using h
theorem dJ.any {H : Hp} (κ : cV) : ∀ {kvs : List (PyData × PyData)} {ks : List (cV × V)}, dJ H kvs ks → (kvs.any fun kv => gF kv.1 (fI κ)) = ks.any fun kv => decide (kv.1 = κ)
  | [], ks, h => by rw [h.nil_inv]; rfl
  | (k, d) :: kvs, ks, h => by
    obtain ⟨κ', v, r, rfl, rfl, p, t⟩ := h.cons_inv
    rw [List.any_cons, List.any_cons, dJ.any κ t, jE]
theorem dJ.repl {H : Hp} (κ : cV) {d : PyData} {v : V} (hv : Rp H d v) : ∀ {kvs : List (PyData × PyData)} {ks : List (cV × V)}, dJ H kvs ks →
    dJ H (kvs.map fun kv => if gF kv.1 (fI κ) = true then (kv.1, d) else kv) (ks.map fun kv => if kv.1 = κ then (kv.1, v) else kv)
  | [], ks, h => by rw [h.nil_inv]; simp only [List.map_nil, dJ]
  | (k, d') :: kvs, ks, h => by
    obtain ⟨κ', v', r, rfl, rfl, p, t⟩ := h.cons_inv
    rw [List.map_cons, List.map_cons]
    dsimp only
    rw [jE]
    by_cases e : κ' = κ
    · rw [if_pos (decide_eq_true e), if_pos e]; exact dJ.cons rfl hv (dJ.repl κ hv t)
    · rw [if_neg (by rw [decide_eq_false e]; exact Bool.false_ne_true), if_neg e]; exact dJ.cons rfl p (dJ.repl κ hv t)
theorem dJ.snoc {H : Hp} {κ : cV} {d : PyData} {v : V} (hv : Rp H d v) : ∀ {kvs : List (PyData × PyData)} {ks : List (cV × V)}, dJ H kvs ks → dJ H (kvs ++ [(fI κ, d)]) (ks ++ [(κ, v)])
  | [], ks, h => by rw [h.nil_inv]; exact dJ.cons rfl hv (by simp only [dJ])
  | (k, d') :: kvs, ks, h => by
    obtain ⟨κ', v', r, rfl, rfl, p, t⟩ := h.cons_inv
    exact dJ.cons rfl p (dJ.snoc hv t)
theorem dJ.put {H : Hp} (κ : cV) {d : PyData} {v : V} (hv : Rp H d v) {kvs : List (PyData × PyData)} {ks : List (cV × V)} (h : dJ H kvs ks) : dJ H (tW kvs (fI κ) d) (kK ks κ v) := by
  unfold tW kK
  rw [h.any κ]
  split
  · exact h.repl κ hv
  · exact h.snoc hv
def lJ (kvs : List (PyData × PyData)) (k : PyData) : Option PyData := (kvs.find? fun kv => gF kv.1 k).map (·.2)
theorem dJ.look {H : Hp} (κ : cV) : ∀ {kvs : List (PyData × PyData)} {ks : List (cV × V)}, dJ H kvs ks → (lJ kvs (fI κ) = none ∧ jP ks κ = none) ∨ ∃ d v, lJ kvs (fI κ) = some d ∧ jP ks κ = some v ∧ Rp H d v
  | [], ks, h => .inl (by rw [h.nil_inv]; exact ⟨rfl, rfl⟩)
  | (k, d) :: kvs, ks, h => by
    obtain ⟨κ', v, r, rfl, rfl, p, t⟩ := h.cons_inv
    unfold lJ jP
    by_cases e : κ' = κ
    · rw [List.find?_cons_of_pos (by rw [jE]; exact decide_eq_true e), List.find?_cons_of_pos (by exact decide_eq_true e)]
      exact .inr ⟨d, v, rfl, rfl, p⟩
    · rw [List.find?_cons_of_neg (by rw [jE, decide_eq_false e]; exact Bool.false_ne_true), List.find?_cons_of_neg (by rw [decide_eq_false e]; exact Bool.false_ne_true)]
      exact dJ.look κ t
theorem rc {d : PyData} {κ : cV} (h : ia d = some κ) : d = fI κ := by
  cases d <;> simp only [ia] at h <;> cases h <;> rfl
theorem uA {H : Hp} {d : PyData} {x : V} {κ : cV} (h : hR H d x) (e : ia d = some κ) : x = kV κ := by
  cases d <;> simp only [ia] at e <;> cases e
  · exact bz h
  · exact iE h
theorem vh {H : Hp} {a : Addr} {kvs : List (PyData × PyData)} {ks : List (cV × V)} {κ : cV} (h : Rd H a (.dK ks)) (r : dJ H kvs ks) : ∃ o, nD H a (kV κ) o ∧ o.isSome = (lJ kvs (fI κ)).isSome ∧ ∀ d, lJ kvs (fI κ) = some d → ∃ v, o = some v ∧ Rp H d v := by
  refine ⟨jP ks κ, .inl ⟨ks, κ, h, rfl, rfl⟩, ?_⟩
  rcases r.look κ with ⟨e1, e2⟩ | ⟨d, v, e1, e2, p⟩
  · rw [e1, e2]; exact ⟨rfl, fun d z => by cases z⟩
  · rw [e1, e2]; exact ⟨rfl, fun d z => by cases z; exact ⟨v, rfl, p⟩⟩
def jK : PyData → PyData → R PyData
  | .int i, .int j => .ok (.int (i - j))
  | _, _ => .no
def eS : PyData → PyData → R PyData
  | .int i, .int j => if 0 < j then .ok (.int (i % j)) else .no
  | _, _ => .no
def kD : PyData → PyData → R PyData
  | .int i, .int j => if 0 < j ∧ j < 1073741824 then .ok (.int (i / j)) else .no
  | _, _ => .no
def fo (p : Int → Int → Bool) : PyData → PyData → R PyData
  | .int i, .int j => .ok (.bool (p i j))
  | _, _ => .no
def pK (x y : PyData) : Bool := x.canLay0 && y.canLay0 && decide (min x.depth y.depth ≤ 60)
def iV (x y : PyData) : R PyData := if pK x y = true then .ok (.bool (PyData.eqv x y)) else .no
def jR (x y : PyData) : R PyData := if pK x y = true then .ok (.bool (!PyData.eqv x y)) else .no
def eD : PyData → Bool
  | .none => true
  | _ => false
def kI (x y : PyData) : R PyData := if eD y = true then .ok (.bool (eD x)) else .no
def eW (x y : PyData) : R PyData := if eD y = true then .ok (.bool (!eD x)) else .no
def pY (xs : List PyData) (d : PyData) : Bool := PyData.canLayAll0 xs && d.canLay0 && decide (min (PyData.depthAll xs) d.depth ≤ 60)
def iJ (neg : Bool) (d : PyData) : PyData → R PyData
  | .list xs => if pY xs d = true then .ok (.bool (if neg then !(xs.any fun y => PyData.eqv y d) else xs.any fun y => PyData.eqv y d)) else .no
  | .tuple xs => if pY xs d = true then .ok (.bool (if neg then !(xs.any fun y => PyData.eqv y d) else xs.any fun y => PyData.eqv y d)) else .no
  | .dict kvs => if oK kvs = true then .no else match ia d with
    | some _ => .ok (.bool (if neg then !(lJ kvs d).isSome else (lJ kvs d).isSome))
    | none => .no
  | _ => .no
section
variable {X : Cx} {a b c : Expr} {fa fb fc : Fe} {pos : Pos}
theorem dk {H : Hp} {i : Int} : Rp H (.int i) (.int i) := by simp only [Rp]
theorem eF {H : Hp} {i : Bool} : Rp H (.bool i) (.bl i) := by simp only [Rp]
theorem xb {H : Hp} {i : Str} : Rp H (.str i) (.str i) := by simp only [Rp]
theorem BI : bQ X gB (yA fun i j => .int (i - j)) jK := fun H x y dx dy Q hx hy q => by
  unfold jK at q
  split at q
  · exact ⟨_, _, bz hx, bz hy, q _ H (az.refl _) dk⟩
  · exact q.elim
theorem BF : bQ X gB (rI (fun _ j => 0 < j) fun i j => .int (i % j)) eS := fun H x y dx dy Q hx hy q => by
  unfold eS at q
  split at q
  · split at q
    · rename_i h; exact ⟨_, _, bz hx, bz hy, h, q _ H (az.refl _) dk⟩
    · exact q.elim
  · exact q.elim
theorem BV : bQ X gB (rI Da fun i j => .int (i / j)) kD := fun H x y dx dy Q hx hy q => by
  unfold kD at q
  split at q
  · split at q
    · rename_i h; exact ⟨_, _, bz hx, bz hy, h, q _ H (az.refl _) dk⟩
    · exact q.elim
  · exact q.elim
theorem mw {p : Int → Int → Bool} : bQ X gB (yA fun i j => .bl (p i j)) (fo p) := fun H x y dx dy Q hx hy q => by
  unfold fo at q
  split at q
  · exact ⟨_, _, bz hx, bz hy, q _ H (az.refl _) eF⟩
  · exact q.elim
theorem ig (ha : bD X a fa) (hb : bD X b fb) : ah X (.BinOp a .Sub b pos) (e2 jK fa fb) := mF gi A5 BI ha hb
theorem Z.ig (ha : Z.bD X a fa) (hb : Z.bD X b fb) : Z.ah X (.BinOp a .Sub b pos) (e2 jK fa fb) :=
  ⟨D2.ig ha.un hb.un⟩
theorem cL (ha : bD X a fa) (hb : bD X b fb) : ah X (.BinOp a .Mod b pos) (e2 eS fa fb) := mF gi AZ BF ha hb
theorem Z.cL (ha : Z.bD X a fa) (hb : Z.bD X b fb) : Z.ah X (.BinOp a .Mod b pos) (e2 eS fa fb) :=
  ⟨D2.cL ha.un hb.un⟩
theorem gI (ha : bD X a fa) (hb : bD X b fb) : ah X (.BinOp a .FloorDiv b pos) (e2 kD fa fb) := mF gi zg BV ha hb
theorem Z.gI (ha : Z.bD X a fa) (hb : Z.bD X b fb) : Z.ah X (.BinOp a .FloorDiv b pos) (e2 kD fa fb) :=
  ⟨D2.gI ha.un hb.un⟩
abbrev Cq : Int → Int → Bool := fun i j => decide (i < j)
abbrev Eu : Int → Int → Bool := fun i j => decide (i ≤ j)
abbrev rC : Int → Int → Bool := fun i j => decide (j < i)
theorem xK (ha : bD X a fa) (hb : bD X b fb) : ah X (.Compare a [.Gt] [b] pos) (e2 (fo rC) fa fb) := pf Av mw ha hb (gY _)
theorem Z.xK (ha : Z.bD X a fa) (hb : Z.bD X b fb) : Z.ah X (.Compare a [.Gt] [b] pos) (e2 (fo rC) fa fb) :=
  ⟨D2.xK ha.un hb.un⟩
theorem qe (ha : bD X a fa) (hb : bD X b fb) : gH X (.Compare a [.Lt] [b] pos) (tE (e2 (fo Cq) fa fb)) := gz Ct mw ha hb (gY _)
theorem Z.qe (ha : Z.bD X a fa) (hb : Z.bD X b fb) : Z.gH X (.Compare a [.Lt] [b] pos) (tE (e2 (fo Cq) fa fb)) :=
  ⟨D2.qe ha.un hb.un⟩
theorem mB (ha : bD X a fa) (hb : bD X b fb) : gH X (.Compare a [.Gt] [b] pos) (tE (e2 (fo rC) fa fb)) := gz Av mw ha hb (gY _)
theorem Z.mB (ha : Z.bD X a fa) (hb : Z.bD X b fb) : Z.gH X (.Compare a [.Gt] [b] pos) (tE (e2 (fo rC) fa fb)) :=
  ⟨D2.mB ha.un hb.un⟩
def yZ (X : Cx) (neg : Bool) : R2 := fun x y H Q => ∃ dx dy, hR H dx x ∧ hR H dy y ∧ pK dx dy = true ∧ Q (.bl (if neg then !PyData.eqv dx dy else PyData.eqv dx dy)) H
theorem mI {x y : PyData} (h : pK x y = true) : x.canLay0 = true ∧ y.canLay0 = true ∧ min x.depth y.depth ≤ 60 := by
  unfold pK at h
  rw [Bool.and_eq_true, Bool.and_eq_true, decide_eq_true_eq] at h
  exact ⟨h.1.1, h.1.2, h.2⟩
theorem xE (hu : X.A.units + 64 < cLine) : iS X (compareOp .Eq) (yZ X false) := by
  intro pins s σ H x y v u Q I rx ry h
  obtain ⟨dx, dy, hx, hy, ho, q⟩ := h
  obtain ⟨c1, c2, c3⟩ := mI ho
  obtain ⟨as, r1⟩ := dj I.hok c1 hx rx
  obtain ⟨bs, r2⟩ := dj I.hok c2 hy ry
  exact PySem.SeqAt.compareEq_reads r1 r2 c1 c2 (by omega) ⟨.bl _, H, I, rfl, q⟩
theorem yg (hu : X.A.units + 64 < cLine) : iS X (compareOp .NotEq) (yZ X true) := by
  intro pins s σ H x y v u Q I rx ry h
  obtain ⟨dx, dy, hx, hy, ho, q⟩ := h
  obtain ⟨c1, c2, c3⟩ := mI ho
  obtain ⟨as, r1⟩ := dj I.hok c1 hx rx
  obtain ⟨bs, r2⟩ := dj I.hok c2 hy ry
  exact PySem.SeqAt.compareNe_reads r1 r2 c1 c2 (by omega) ⟨.bl _, H, I, rfl, q⟩
theorem AH : bQ X gB (yZ X false) iV := fun H x y dx dy Q hx hy q => by
  unfold iV at q
  split at q
  · rename_i h; exact ⟨dx, dy, hx, hy, h, q _ H (az.refl _) eF⟩
  · exact q.elim
theorem Az : bQ X gB (yZ X true) jR := fun H x y dx dy Q hx hy q => by
  unfold jR at q
  split at q
  · rename_i h; exact ⟨dx, dy, hx, hy, h, q _ H (az.refl _) eF⟩
  · exact q.elim
theorem ux (hu : X.A.units + 64 < cLine) (ha : bD X a fa) (hb : bD X b fb) : ah X (.Compare a [.Eq] [b] pos) (e2 iV fa fb) := pf (xE hu) AH ha hb (gY _)
theorem Z.ux (hu : X.A.units + 64 < cLine) (ha : Z.bD X a fa) (hb : Z.bD X b fb) : Z.ah X (.Compare a [.Eq] [b] pos) (e2 iV fa fb) :=
  ⟨D2.ux hu ha.un hb.un⟩
theorem xl (hu : X.A.units + 64 < cLine) (ha : bD X a fa) (hb : bD X b fb) : ah X (.Compare a [.NotEq] [b] pos) (e2 jR fa fb) := pf (yg hu) Az ha hb (gY _)
theorem Z.xl (hu : X.A.units + 64 < cLine) (ha : Z.bD X a fa) (hb : Z.bD X b fb) : Z.ah X (.Compare a [.NotEq] [b] pos) (e2 jR fa fb) :=
  ⟨D2.xl hu ha.un hb.un⟩
theorem fj (hu : X.A.units + 64 < cLine) (ha : bD X a fa) (hb : bD X b fb) : gH X (.Compare a [.Eq] [b] pos) (tE (e2 iV fa fb)) := gz (xE hu) AH ha hb (gY _)
theorem Z.fj (hu : X.A.units + 64 < cLine) (ha : Z.bD X a fa) (hb : Z.bD X b fb) : Z.gH X (.Compare a [.Eq] [b] pos) (tE (e2 iV fa fb)) :=
  ⟨D2.fj hu ha.un hb.un⟩
theorem gS (hu : X.A.units + 64 < cLine) (ha : bD X a fa) (hb : bD X b fb) : gH X (.Compare a [.NotEq] [b] pos) (tE (e2 jR fa fb)) := gz (yg hu) Az ha hb (gY _)
theorem Z.gS (hu : X.A.units + 64 < cLine) (ha : Z.bD X a fa) (hb : Z.bD X b fb) : Z.gH X (.Compare a [.NotEq] [b] pos) (tE (e2 jR fa fb)) :=
  ⟨D2.gS hu ha.un hb.un⟩
theorem uP {H : Hp} {d : PyData} {x : V} (h : hR H d x) : decide (x = .non) = eD d := by
  cases d with
  | none => rw [kH h]; rfl
  | bool b => rw [nH h]; rfl
  | int i => rw [bz h]; rfl
  | str y => rw [iE h]; rfl
  | tuple ds => obtain ⟨a, vs, rfl, _⟩ := di h; rfl
  | list ds => obtain ⟨a, vs, rfl, _⟩ := gf (K := default) h; rfl
  | dict kvs => obtain ⟨a, rfl⟩ := xt h; rfl
theorem xB : bQ X gB (fun x y H Q => y = .non ∧ Q (.bl (decide (x = .non))) H) kI := fun H x y dx dy Q hx hy q => by
  unfold kI at q
  split at q
  · rename_i h
    cases dy <;> simp only [eD, Bool.false_eq_true] at h
    exact ⟨kH hy, by rw [uP hx]; exact q _ H (az.refl _) eF⟩
  · exact q.elim
theorem zn : bQ X gB (fun x y H Q => y = .non ∧ Q (.bl (!decide (x = .non))) H) eW := fun H x y dx dy Q hx hy q => by
  unfold eW at q
  split at q
  · rename_i h
    cases dy <;> simp only [eD, Bool.false_eq_true] at h
    exact ⟨kH hy, by rw [uP hx]; exact q _ H (az.refl _) eF⟩
  · exact q.elim
theorem sM (ha : bD X a fa) (hb : bD X b fb) : ah X (.Compare a [.Is] [b] pos) (e2 kI fa fb) := pf xP xB ha hb (gY _)
theorem Z.sM (ha : Z.bD X a fa) (hb : Z.bD X b fb) : Z.ah X (.Compare a [.Is] [b] pos) (e2 kI fa fb) :=
  ⟨D2.sM ha.un hb.un⟩
theorem ma (ha : bD X a fa) (hb : bD X b fb) : gH X (.Compare a [.Is] [b] pos) (tE (e2 kI fa fb)) := gz xP xB ha hb (gY _)
theorem Z.ma (ha : Z.bD X a fa) (hb : Z.bD X b fb) : Z.gH X (.Compare a [.Is] [b] pos) (tE (e2 kI fa fb)) :=
  ⟨D2.ma ha.un hb.un⟩
theorem gm (ha : bD X a fa) (hb : bD X b fb) : gH X (.Compare a [.IsNot] [b] pos) (tE (e2 eW fa fb)) := gz zG zn ha hb (gY _)
theorem Z.gm (ha : Z.bD X a fa) (hb : Z.bD X b fb) : Z.gH X (.Compare a [.IsNot] [b] pos) (tE (e2 eW fa fb)) :=
  ⟨D2.gm ha.un hb.un⟩
def D8 (X : Cx) (neg : Bool) : R2 := fun x y H Q => ∃ d xs, hR H d x ∧ (hR H (.list xs) y ∨ hR H (.tuple xs) y) ∧ pY xs d = true ∧ Q (.bl (if neg then !(xs.any fun z => PyData.eqv z d) else xs.any fun z => PyData.eqv z d)) H
def BM (X : Cx) (neg : Bool) : R2 := fun x y H Q => D8 X neg x y H Q ∨ ∃ a o, y = .ref a ∧ nD H a x o ∧ Q (.bl (if neg then !o.isSome else o.isSome)) H
theorem mV {xs : List PyData} {d : PyData} (h : pY xs d = true) : PyData.canLayAll0 xs = true ∧ d.canLay0 = true ∧ min (PyData.depthAll xs) d.depth ≤ 60 := by
  unfold pY at h
  rw [Bool.and_eq_true, Bool.and_eq_true, decide_eq_true_eq] at h
  exact ⟨h.1.1, h.1.2, h.2⟩
theorem BC (hu : X.A.units + 64 < cLine) : iS X (compareOp .In) (BM X false) := by
  intro pins s σ H x y v u Q I rx ry h
  rcases h with h | ⟨a, o, rfl, g, q⟩
  case inr =>
    cases ry
    exact DI (by omega) I g rx fun s' I' => ⟨.bl _, H, I', rfl, q⟩
  obtain ⟨d, xs, hx, hy, ho, q⟩ := h
  obtain ⟨c1, c2, c3⟩ := mV ho
  obtain ⟨as, r1⟩ := dj I.hok c2 hx rx
  rcases hy with hy | hy
  · obtain ⟨bs, r2⟩ := dj I.hok (d := .list xs) (by simpa only [PyData.canLay0] using c1) hy ry
    exact PySem.SeqAt.in_list_reads r2 r1 c1 c2 (by omega) ⟨.bl _, H, I, rfl, q⟩
  · obtain ⟨bs, r2⟩ := dj I.hok (d := .tuple xs) (by simpa only [PyData.canLay0] using c1) hy ry
    exact PySem.SeqAt.in_tuple_reads r2 r1 c1 c2 (by omega) ⟨.bl _, H, I, rfl, q⟩
theorem vS (hu : X.A.units + 64 < cLine) : iS X (compareOp .NotIn) (BM X true) := by
  intro pins s σ H x y v u Q I rx ry h
  rcases h with h | ⟨a, o, rfl, g, q⟩
  case inr =>
    cases ry
    exact zD (by omega) I g rx fun s' I' => ⟨.bl _, H, I', rfl, q⟩
  obtain ⟨d, xs, hx, hy, ho, q⟩ := h
  obtain ⟨c1, c2, c3⟩ := mV ho
  obtain ⟨as, r1⟩ := dj I.hok c2 hx rx
  rcases hy with hy | hy
  · obtain ⟨bs, r2⟩ := dj I.hok (d := .list xs) (by simpa only [PyData.canLay0] using c1) hy ry
    exact PySem.SeqAt.notIn_list_reads r2 r1 c1 c2 (by omega) ⟨.bl _, H, I, rfl, q⟩
  · obtain ⟨bs, r2⟩ := dj I.hok (d := .tuple xs) (by simpa only [PyData.canLay0] using c1) hy ry
    exact PySem.SeqAt.notIn_tuple_reads r2 r1 c1 c2 (by omega) ⟨.bl _, H, I, rfl, q⟩
theorem AB {neg : Bool} : bQ X gB (BM X neg) (iJ neg) := fun H x y dx dy Q hx hy q => by
  unfold iJ at q
  split at q
  · split at q
    · rename_i h; exact .inl ⟨dx, _, hx, .inl hy, h, q _ H (az.refl _) eF⟩
    · exact q.elim
  · split at q
    · rename_i h; exact .inl ⟨dx, _, hx, .inr hy, h, q _ H (az.refl _) eF⟩
    · exact q.elim
  · split at q
    · exact q.elim
    rename_i hi
    split at q
    · rename_i κ e
      obtain ⟨a, ks, rfl, h, r⟩ := kN (Bool.not_eq_true _ ▸ hi) hy
      obtain ⟨o, g, e1, _⟩ := vh (κ := κ) h r
      rw [← uA hx e] at g
      rw [← rc e] at e1
      exact .inr ⟨a, o, rfl, g, by rw [e1]; exact q _ H (az.refl _) eF⟩
    · exact q.elim
  · exact q.elim
theorem jm (hu : X.A.units + 64 < cLine) (ha : bD X a fa) (hb : bD X b fb) (hm : behindInMarks .In b = false) : gH X (.Compare a [.In] [b] pos) (tE (e2 (iJ false) fa fb)) := gz (BC hu) AB ha hb hm
theorem Z.jm (hu : X.A.units + 64 < cLine) (ha : Z.bD X a fa) (hb : Z.bD X b fb) (hm : behindInMarks .In b = false) : Z.gH X (.Compare a [.In] [b] pos) (tE (e2 (iJ false) fa fb)) :=
  ⟨D2.jm hu ha.un hb.un hm⟩
theorem em (hu : X.A.units + 64 < cLine) (ha : bD X a fa) (hb : bD X b fb) (hm : behindInMarks .NotIn b = false) : gH X (.Compare a [.NotIn] [b] pos) (tE (e2 (iJ true) fa fb)) := gz (vS hu) AB ha hb hm
theorem Z.em (hu : X.A.units + 64 < cLine) (ha : Z.bD X a fa) (hb : Z.bD X b fb) (hm : behindInMarks .NotIn b = false) : Z.gH X (.Compare a [.NotIn] [b] pos) (tE (e2 (iJ true) fa fb)) :=
  ⟨D2.em hu ha.un hb.un hm⟩
end
inductive tJ where
  | nx (ρ : aI)
  | rt (d : PyData)
  | bk (ρ : aI)
  | ct (ρ : aI)
abbrev Fs := aI → R tJ
structure ic (Fm H : Hp) (σ : St) (ρ : aI) : Prop where
  fm : az Fm H
  sl : Sl H σ ρ
  own : ∀ (i : Nat) (d : PyData) (a : Addr), ρ[i]? = some (.own d) → σ[i]? = some (some (.ref a)) → Fm a = none
  apart : ∀ (i j : Nat) (d e : PyData) (a : Addr), ρ[i]? = some (.own d) → ρ[j]? = some (.own e) → σ[i]? = some (some (.ref a)) → σ[j]? = some (some (.ref a)) → i = j
theorem ic.mono {Fm H H' : Hp} {σ : St} {ρ : aI} (h : ic Fm H σ ρ) (s : az H H') : ic Fm H' σ ρ := ⟨h.fm.trans s, h.sl.mono s, h.own, h.apart⟩
def yx (X : Cx) (Fm : Hp) (r : R tJ) (D : o7) : Prop :=
  match r with
  | .ok (.nx ρ) => ∀ σ H, ic Fm H σ ρ → D.nx σ H
  | .ok (.rt d) => ∀ v H, az Fm H → Rp H d v → D.rt v H
  | .ok (.bk ρ) => ∀ σ H, ic Fm H σ ρ → D.bk σ H
  | .ok (.ct ρ) => ∀ σ H, ic Fm H σ ρ → D.ct σ H
  | .ex c => Xw X c Fm ∧ Cj X c Fm
  | .no => False
def AG (X : Cx) (Fm : Hp) (g : Fs) : TS := fun D σ H => ∃ ρ, ic Fm H σ ρ ∧ yx X Fm (g ρ) D
def eU (X : Cx) (st : Stmt) (g : Fs) : Prop := ∀ Fm, PS X st (AG X Fm g)
structure Z.eU (X : Cx) (st : Stmt) (g : Fs) : Prop where
  un : D2.eU X st g
def gK (X : Cx) (st : List Stmt) (g : Fs) : Prop := ∀ Fm, pW X st (AG X Fm g)
structure Z.gK (X : Cx) (st : List Stmt) (g : Fs) : Prop where
  un : D2.gK X st g
theorem PS.imp {X : Cx} {e : Stmt} {t t' : TS} (h : PS X e t) (i : ∀ D σ H, t' D σ H → t D σ H) : PS X e t' := fun pins s σ H D I q => h pins s σ H D I (i D σ H q)
theorem pW.imp {X : Cx} {e : List Stmt} {t t' : TS} (h : pW X e t) (i : ∀ D σ H, t' D σ H → t D σ H) : pW X e t' := fun pins s σ H D I q => h pins s σ H D I (i D σ H q)
section
variable {X : Cx} {Fm : Hp} {σ : St} {H : Hp} {D : o7}
theorem mC {P : Hp → Hp → PyData → V → Prop} {f : Fe} {k : aI → PyData → R tJ} (h : AG X Fm (fun ρ => f ρ >>= k ρ) D σ H) :
    iW X P f σ H (fun v H1 => ∃ ρ d, ic Fm H1 σ ρ ∧ az H H1 ∧ P H H1 d v ∧ yx X Fm (k ρ d) D) := by
  obtain ⟨ρ, sl, q⟩ := h
  refine ⟨ρ, sl.sl, ?_⟩
  dsimp only at q
  cases e : f ρ with
  | ok d => rw [e] at q; exact fun v H1 s p => ⟨ρ, d, sl.mono s, s, p, q⟩
  | ex c => rw [e] at q; exact q.1.mono sl.fm
  | no => rw [e] at q; exact q
theorem ut {f : aI → R Bool} {k : aI → Bool → R tJ} (h : AG X Fm (fun ρ => f ρ >>= k ρ) D σ H) : yO X f σ H (fun b H1 => ∃ ρ, ic Fm H1 σ ρ ∧ az H H1 ∧ yx X Fm (k ρ b) D) := by
  obtain ⟨ρ, sl, q⟩ := h
  refine ⟨ρ, sl.sl, ?_⟩
  dsimp only at q
  cases e : f ρ with
  | ok d => rw [e] at q; exact fun H1 s => ⟨ρ, sl.mono s, s, q⟩
  | ex c => rw [e] at q; exact q.1.mono sl.fm
  | no => rw [e] at q; exact q
end
def bB : Fs := fun ρ => .ok (.nx ρ)
def uV (h : Fs) : tJ → R tJ
  | .nx ρ => h ρ
  | o => .ok o
def aO (g h : Fs) : Fs := fun ρ => g ρ >>= uV h
def hJ (t : aI → R Bool) (g h : Fs) : Fs := fun ρ => t ρ >>= fun b => if b = true then g ρ else h ρ
def bG (f : Fe) : Fs := fun ρ => f ρ >>= fun d => .ok (.rt d)
def bJ (i : Nat) (f : Fe) : Fs := fun ρ => f ρ >>= fun d => .ok (.nx (ρ.set i (.val d)))
def hW (i : Nat) (f : Fe) : Fs := fun ρ => f ρ >>= fun d => .ok (.nx (ρ.set i (.own d)))
section
variable {X : Cx} {nl : Nat} {G : List Str} {st : Stmt} {sts : List Stmt} {g h : Fs} {f : Fe} {e : Expr} {pos pos' : Pos} {x : Str}
theorem bT : gK X [] bB := fun Fm => pW.imp zE fun D σ H ⟨ρ, sl, q⟩ => q σ H sl
theorem Z.bT  : Z.gK X [] bB :=
  ⟨D2.bT⟩
theorem am (h1 : eU X st g) (h2 : gK X sts h) : gK X (st :: sts) (aO g h) := fun Fm => by
  refine pW.imp (nV (h1 Fm) (h2 Fm)) fun D σ H ⟨ρ, sl, q⟩ => ⟨ρ, sl, ?_⟩
  unfold aO at q
  cases e : g ρ with
  | ex c => rw [e] at q; exact q
  | no => rw [e] at q; exact q
  | ok o =>
    rw [e] at q
    cases o with
    | nx ρ' => exact fun σ' H' s' => ⟨ρ', s', q⟩
    | rt d => exact q
    | bk ρ' => exact q
    | ct ρ' => exact q
theorem Z.am (h1 : Z.eU X st g) (h2 : Z.gK X sts h) : Z.gK X (st :: sts) (aO g h) :=
  ⟨D2.am h1.un h2.un⟩
theorem ax (h1 : eU X st g) : gK X [st] g := fun Fm => va (h1 Fm)
theorem Z.ax (h1 : Z.eU X st g) : Z.gK X [st] g :=
  ⟨D2.ax h1.un⟩
theorem aM (he : ah X e f) : eU X (.Return (some e) pos) (bG f) := fun Fm =>
  PS.imp (sv he) fun D σ H h => (mC (P := gB) (f := f) (k := fun _ d => .ok (.rt d)) h).post fun v H1 ⟨ρ, d, sl, _, p, q⟩ => q v H1 sl.fm p
theorem Z.aM (he : Z.ah X e f) : Z.eU X (.Return (some e) pos) (bG f) :=
  ⟨D2.aM he.un⟩
theorem cX {c : Expr} {a b : List Stmt} {t : aI → R Bool} (hc : gH X c t) (ha : gK X a g) (hb : gK X b h) : eU X (.If c a b pos) (hJ t g h) := fun Fm =>
  PS.imp (Ca hc (ha Fm) (hb Fm)) fun D σ H q => (ut (f := t) (k := fun ρ b => if b = true then g ρ else h ρ) q).post fun b H1 ⟨ρ, sl, _, q⟩ => by
    cases b with
    | true => exact ⟨ρ, sl, q⟩
    | false => exact ⟨ρ, sl, q⟩
theorem Z.cX {c : Expr} {a b : List Stmt} {t : aI → R Bool} (hc : Z.gH X c t) (ha : Z.gK X a g) (hb : Z.gK X b h) : Z.eU X (.If c a b pos) (hJ t g h) :=
  ⟨D2.cX hc.un ha.un hb.un⟩
theorem Sl.set {H : Hp} {σ : St} {ρ : aI} {c : aW} {o : Option V} (h : Sl H σ ρ) (i : Nat) (hc : jq H c o) : Sl H (σ.set i o) (ρ.set i c) := by
  refine ⟨by rw [List.length_set, List.length_set]; exact h.1, fun j c' o' h1 h2 => ?_⟩
  rw [List.getElem?_set] at h1 h2
  by_cases hij : i = j
  · rw [if_pos hij] at h1 h2
    by_cases hi : i < ρ.length
    · rw [if_pos hi] at h1
      rw [if_pos (by rw [h.1]; exact hi)] at h2
      cases h1; cases h2; exact hc
    · rw [if_neg hi] at h1; cases h1
  · rw [if_neg hij] at h1 h2
    exact h.2 j c' o' h1 h2
theorem bP {ρ : aI} {i j : Nat} {c : aW} {d : PyData} (hc : ∀ e, c ≠ .own e) (h : (ρ.set i c)[j]? = some (.own d)) : i ≠ j ∧ ρ[j]? = some (.own d) := by
  rw [List.getElem?_set] at h
  by_cases hij : i = j
  · rw [if_pos hij] at h
    split at h
    · exact absurd (Option.some.inj h) (hc d)
    · cases h
  · rw [if_neg hij] at h; exact ⟨hij, h⟩
theorem ic.set {Fm H : Hp} {σ : St} {ρ : aI} {c : aW} {o : Option V} (h : ic Fm H σ ρ) (i : Nat) (hn : ∀ e, c ≠ .own e) (hc : jq H c o) : ic Fm H (σ.set i o) (ρ.set i c) := by
  refine ⟨h.fm, h.sl.set i hc, fun j d a h1 h2 => ?_, fun j k d e a h1 h2 h3 h4 => ?_⟩
  · obtain ⟨ne, h1⟩ := bP hn h1
    rw [List.getElem?_set, if_neg ne] at h2
    exact h.own j d a h1 h2
  · obtain ⟨ne, h1⟩ := bP hn h1
    obtain ⟨ne', h2⟩ := bP hn h2
    rw [List.getElem?_set, if_neg ne] at h3
    rw [List.getElem?_set, if_neg ne'] at h4
    exact h.apart j k d e a h1 h2 h3 h4
theorem pb {H : Hp} {d : PyData} {v : V} (h : iU H d v) : ∃ a o, v = .ref a ∧ H a = some o := by
  cases d <;> simp only [iU] at h
  · obtain ⟨a, vs, e, ha, _⟩ := h; exact ⟨a, _, e, ha⟩
  · obtain ⟨a, vs, e, ha, _⟩ := h; exact ⟨a, _, e, ha⟩
theorem ic.setOwn {Fm H0 H : Hp} {σ : St} {ρ : aI} {d : PyData} {v : V} (h0 : ic Fm H0 σ ρ) (h : ic Fm H σ ρ) (hs : az H0 H) (i : Nat) (hn : B4 H0 H d v) : ic Fm H (σ.set i (some v)) (ρ.set i (.own d)) := by
  obtain ⟨p, a, rfl, ha⟩ := hn
  have old : ∀ (j : Nat) (e : PyData) (b : Addr), i ≠ j → (ρ.set i (.own d))[j]? = some (.own e) → (σ.set i (some (.ref a)))[j]? = some (some (.ref b)) → ρ[j]? = some (.own e) ∧ σ[j]? = some (some (.ref b)) := fun j e b ne h1 h2 => by
    rw [List.getElem?_set, if_neg ne] at h1 h2
    exact ⟨h1, h2⟩
  have notA : ∀ (j : Nat) (e : PyData), ρ[j]? = some (.own e) → σ[j]? = some (some (.ref a)) → False := fun j e h1 h2 => by
    obtain ⟨u, e1, q⟩ := h0.sl.2 j _ _ h1 h2
    cases e1
    obtain ⟨b, o, e2, hb⟩ := pb q
    cases e2
    rw [ha] at hb; cases hb
  have here : ∀ (b : Addr), (σ.set i (some (.ref a)))[i]? = some (some (.ref b)) → b = a := fun b h2 => by
    rw [List.getElem?_set, if_pos rfl] at h2
    split at h2
    · cases h2; rfl
    · cases h2
  refine ⟨h.fm, h.sl.set i ⟨_, rfl, p⟩, fun j e b h1 h2 => ?_, fun j k e f b h1 h2 h3 h4 => ?_⟩
  · by_cases hij : i = j
    · subst hij
      rw [here b h2]
      exact (h0.fm).free ha
    · obtain ⟨h1, h2⟩ := old j e b hij h1 h2
      exact h.own j e b h1 h2
  · by_cases hij : i = j
    · subst hij
      have eb := here b h3
      by_cases hik : i = k
      · exact hik
      · obtain ⟨h2, h4⟩ := old k f b hik h2 h4
        rw [eb] at h4
        exact (notA k f h2 h4).elim
    · obtain ⟨h1, h3⟩ := old j e b hij h1 h3
      by_cases hik : i = k
      · subst hik
        have eb := here b h4
        rw [eb] at h3
        exact (notA j e h1 h3).elim
      · obtain ⟨h2, h4⟩ := old k f b hik h2 h4
        exact h.apart j k e f b h1 h2 h3 h4
theorem ba (T : Tb X nl G) (i : Nat) (hN : (X.N.take nl)[i]? = some x) (he : ah X e f) (hs : swapsWith e (some (.Name x pos')) pos.line X.env = pure false := by rfl) : eU X (.Assign [.Name x pos'] e pos) (bJ i f) := fun Fm => by
  have hm := T.loc x (List.mem_of_getElem? hN)
  have hi : X.N[i]? = some x := by
    rw [List.getElem?_take] at hN
    split at hN
    · exact hN
    · cases hN
  exact PS.imp (xp T.nd hi hm.1 he hs hm.2) fun D σ H h => (mC (P := gB) (f := f) (k := fun ρ d => .ok (.nx (ρ.set i (.val d)))) h).post fun v H1 ⟨ρ, d, sl, _, p, q⟩ =>
    q _ H1 (sl.set i (fun e z => by cases z) ⟨v, rfl, p⟩)
theorem Z.ba (T : Tb X nl G) (i : Nat) (hN : (X.N.take nl)[i]? = some x) (he : Z.ah X e f) (hs : swapsWith e (some (.Name x pos')) pos.line X.env = pure false := by rfl) : Z.eU X (.Assign [.Name x pos'] e pos) (bJ i f) :=
  ⟨D2.ba T i hN he.un hs⟩
theorem j6 (T : Tb X nl G) (i : Nat) (hN : (X.N.take nl)[i]? = some x) (he : fO X e f) (hs : swapsWith e (some (.Name x pos')) pos.line X.env = pure false := by rfl) : eU X (.Assign [.Name x pos'] e pos) (hW i f) := fun Fm => by
  have hm := T.loc x (List.mem_of_getElem? hN)
  have hi : X.N[i]? = some x := by
    rw [List.getElem?_take] at hN
    split at hN
    · exact hN
    · cases hN
  refine PS.imp (xp T.nd hi hm.1 he hs hm.2) fun D σ H h => ?_
  obtain ⟨ρ0, sl0, q0⟩ := h
  refine ⟨ρ0, sl0.sl, ?_⟩
  unfold hW at q0
  cases ef : f ρ0 with
  | ex c => rw [ef] at q0; exact q0.1.mono sl0.fm
  | no => rw [ef] at q0; exact q0
  | ok d =>
    rw [ef] at q0
    exact fun v H1 s p => q0 _ H1 (ic.setOwn sl0 (sl0.mono s) s i p)
theorem Z.j6 (T : Tb X nl G) (i : Nat) (hN : (X.N.take nl)[i]? = some x) (he : Z.fO X e f) (hs : swapsWith e (some (.Name x pos')) pos.line X.env = pure false := by rfl) : Z.eU X (.Assign [.Name x pos'] e pos) (hW i f) :=
  ⟨D2.j6 T i hN he.un hs⟩
end
structure yB (J : It) (Gd : Hp → Prop) (ds : List PyData) : Prop where
  go : ∀ i H, Gd H → i < ds.length → J.go i H
  yld : ∀ i H x H' d, Gd H → ds[i]? = some d → J.yld i H x H' → az H H' ∧ Rp H' d x
  stop : ∀ i H, Gd H → ds.length ≤ i → J.stop i H
def DF (H0 : Hp) (B : Addr → Prop) (Gd : Hp → Prop) : Prop := ∀ H, Kp H0 H → (∀ b o, B b → H0 b = some o → H b = some o) → Gd H
def Ep (X : Cx) (f : aI → R (List PyData)) : TI := fun σ H Rk => ∃ ρ, Sl H σ ρ ∧ match f ρ with
  | .ok ds => ∀ J H', az H H' → (∃ Gd, yB J Gd ds ∧ DF H' (fun _ => False) Gd) → Rk J H'
  | .ex c => Xw X c H
  | .no => False
def nZ (X : Cx) (tg iter : Expr) (f : aI → R (List PyData)) : Prop := PI X tg iter (Ep X f)
structure Z.nZ (X : Cx) (tg iter : Expr) (f : aI → R (List PyData)) : Prop where
  un : D2.nZ X tg iter f
def Et (X : Cx) (b : PyData → aI → Option aI) : TG := fun v σ H Q => ∃ ρ d, Sl H σ ρ ∧ Rp H d v ∧ match b d ρ with
  | some ρ' => ∀ σ', Sl H σ' ρ' → (∀ (i : Nat) (e : PyData), ρ'[i]? = some (.own e) → ρ[i]? = some (.own e) ∧ σ'[i]? = σ[i]?) → Q σ' H
  | none => False
def pX (X : Cx) (tg : Expr) (b : PyData → aI → Option aI) : Prop := PG X tg (Et X b)
structure Z.pX (X : Cx) (tg : Expr) (b : PyData → aI → Option aI) : Prop where
  un : D2.pX X tg b
def aP (i : Nat) : PyData → aI → Option aI := fun d ρ => some (ρ.set i (.val d))
theorem PG.imp {X : Cx} {e : Expr} {t t' : TG} (h : PG X e t) (i : ∀ v σ H Q, t' v σ H Q → t v σ H Q) : PG X e t' := fun pins s σ H v u Q I r q => h pins s σ H v u Q I r (i v σ H Q q)
theorem PI.imp {X : Cx} {tg e : Expr} {t t' : TI} (h : PI X tg e t) (i : ∀ σ H Q, t' σ H Q → t σ H Q) : PI X tg e t' := fun pins s σ H Q I q => h pins s σ H Q I (i σ H Q q)
section
variable {X : Cx} {nl : Nat} {G : List Str} {x : Str} {pos : Pos}
theorem Tb.nm (T : Tb X nl G) {i : Nat} (hN : (X.N.take nl)[i]? = some x) : X.N[i]? = some x ∧ Ar X.env.scope x ∧ (X.fn x = true ∨ X.env.scope.names.lookup x = some .local) := by
  have hm := T.loc x (List.mem_of_getElem? hN)
  have hi : X.N[i]? = some x := by
    rw [List.getElem?_take] at hN
    split at hN
    · exact hN
    · cases hN
  exact ⟨hi, hm⟩
theorem a9 (T : Tb X nl G) (i : Nat) (hN : (X.N.take nl)[i]? = some x) : pX X (.Name x pos) (aP i) := by
  obtain ⟨hi, h1, h2⟩ := T.nm hN
  refine PG.imp (jB T.nd hi h1 h2) fun v σ H Q ⟨ρ, d, sl, p, q⟩ => ?_
  refine q _ (sl.set i ⟨v, rfl, p⟩) fun j e h => ?_
  obtain ⟨ne, h⟩ := bP (fun e z => by cases z) h
  exact ⟨h, by rw [List.getElem?_set, if_neg ne]⟩
theorem Z.a9 (T : Tb X nl G) (i : Nat) (hN : (X.N.take nl)[i]? = some x) : Z.pX X (.Name x pos) (aP i) :=
  ⟨D2.a9 T i hN⟩
end
def dP (b : PyData → aI → Option aI) (g : Fs) : List PyData → Fs
  | [], ρ => .ok (.nx ρ)
  | d :: ds, ρ => match b d ρ with
    | none => .no
    | some ρ1 => g ρ1 >>= fun o => match o with
      | .nx ρ2 => dP b g ds ρ2
      | .ct ρ2 => dP b g ds ρ2
      | .bk ρ2 => .ok (.nx ρ2)
      | .rt r => .ok (.rt r)
def iO (it : aI → R (List PyData)) (b : PyData → aI → Option aI) (g : Fs) : Fs := fun ρ => it ρ >>= fun ds => dP b g ds ρ
def stab (Fm H : Hp) : Hp := fun b => match H b with
  | some (.tup xs) => some (.tup xs)
  | some (.frz o u) => some (.frz o u)
  | _ => Fm b
theorem vt {Fm H : Hp} (h : az Fm H) : az (stab Fm H) H := fun b o e => by
  unfold stab at e
  split at e
  · rename_i q; rw [q]; exact e
  · rename_i q; rw [q]; exact e
  · exact h b o e
theorem yM {Fm H : Hp} : Kp H (stab Fm H) := ⟨fun b xs e => by unfold stab; rw [e], fun b o u e => by unfold stab; rw [e]⟩
theorem yG {Fm H : Hp} (h : az Fm H) : az Fm (stab Fm H) := fun b o e => by
  have := h b o e
  unfold stab
  split
  · rename_i q; rw [this] at q; exact q.symm
  · rename_i q; rw [this] at q; exact q.symm
  · exact e
theorem ic.stab {Fm H : Hp} {σ : St} {ρ : aI} (h : ic Fm H σ ρ) : ic (stab Fm H) H σ ρ := by
  refine ⟨vt h.fm, h.sl, fun i d a h1 h2 => ?_, h.apart⟩
  have f := h.own i d a h1 h2
  obtain ⟨u, e1, q⟩ := h.sl.2 i _ _ h1 h2
  cases e1
  unfold D2.stab
  cases d <;> simp only [iU] at q
  · obtain ⟨b, vs, e, hb, _⟩ := q; cases e; rw [hb]; exact f
  · obtain ⟨b, vs, e, hb, _⟩ := q; cases e; rw [hb]; exact f
theorem ic.unstab {Fm F H : Hp} {σ : St} {ρ : aI} (hF : az Fm F) (h : ic F H σ ρ) : ic Fm H σ ρ := ⟨hF.trans h.fm, h.sl, fun i d a h1 h2 => hF.free (h.own i d a h1 h2), h.apart⟩
theorem eN {X : Cx} {tg iter : Expr} {body : List Stmt} {it : aI → R (List PyData)} {b : PyData → aI → Option aI} {g : Fs} {pos : Pos} (hp : PassesOwn (model X.prog X.w) X.A X.env X.xe) (hc : X.calm = true) (hi : nZ X tg iter it) (hg : pX X tg b)
    (hb : gK X body g) (hs : ∀ x, foldedSetIterable iter X.env x = pure x := by intro _; rfl) : eU X (.For tg iter body [] pos) (iO it b g) := fun Fm => by
  intro pins s σ H D I h
  obtain ⟨ρ, sl, q⟩ := h
  unfold iO at q
  -- the frame: what is stable at the loop's iQ is only known behind the iterator's making: the body is taken at every frame
  refine Bv (wi := Ep X it) (g := Et X b) (tb := fun D' σ' H' => ∃ F, AG X F g D' σ' H') hp hc hi hg (fun pins' s' σ' H' D' I' ⟨F, q'⟩ => hb F pins' s' σ' H' D' I' q') hs pins s σ H D I ?_
  refine ⟨ρ, sl.sl, ?_⟩
  cases ei : it ρ with
  | ex c => rw [ei] at q; exact q.1.mono sl.fm
  | no => rw [ei] at q; exact q
  | ok ds =>
    rw [ei] at q
    intro J H1 s1 ⟨Gd, idt, sta⟩
    have sl1 := sl.mono s1
    let F := stab Fm H1
    have hF : az Fm F := yG sl1.fm
    -- the word: so many items are taken, and the rest gives what the whole gives
    refine ⟨fun i m σ' H' => m = ds.length - i ∧ i ≤ ds.length ∧ ∃ ρ', ic F H' σ' ρ' ∧ yx X Fm (dP b g (ds.drop i) ρ') D, ⟨ds.length, by simp, Nat.zero_le _, ρ, sl1.stab, by simpa using q⟩, ?_⟩
    rintro i m σ2 H2 ⟨rfl, hi', ρ2, sl2, q2⟩
    have gd : Gd H2 := sta H2 (Kp.trans yM (Kp.of sl2.fm)) fun _ _ z => z.elim
    by_cases hlt : i < ds.length
    · refine .inr ⟨idt.go i H2 gd hlt, fun σ' H' => i + 1 ≤ ds.length ∧ ∃ ρ', ic F H' σ' ρ' ∧ yx X Fm (dP b g (ds.drop (i + 1)) ρ') D, fun σ' H' ⟨z, p⟩ => ⟨ds.length - (i + 1), by omega, rfl, z, p⟩, fun x H3 y => ?_⟩
      obtain ⟨d, hd⟩ : ∃ d, ds[i]? = some d := ⟨ds[i], List.getElem?_eq_getElem hlt⟩
      obtain ⟨s3, p3⟩ := idt.yld i H2 x H3 d gd hd y
      have hdrop : ds.drop i = d :: ds.drop (i + 1) := by
        rw [List.drop_eq_getElem_cons hlt]
        congr 1
        exact Option.some.inj ((List.getElem?_eq_getElem hlt).symm.trans hd)
      rw [hdrop] at q2
      unfold dP at q2
      have sl3 := sl2.mono s3
      refine ⟨ρ2, d, sl3.sl, p3, ?_⟩
      cases eb : b d ρ2 with
      | none => rw [eb] at q2; exact q2
      | some ρ3 =>
        rw [eb] at q2
        intro σ4 sl4 hown
        refine ⟨F, ρ3, ⟨sl3.fm, sl4, fun j e a h1 h2 => ?_, fun j k e f a h1 h2 h3 h4 => ?_⟩, ?_⟩
        · obtain ⟨z1, z2⟩ := hown j e h1
          exact sl3.own j e a z1 (by rw [← z2]; exact h2)
        · obtain ⟨z1, z2⟩ := hown j e h1
          obtain ⟨z3, z4⟩ := hown k f h2
          exact sl3.apart j k e f a z1 z3 (by rw [← z2]; exact h3) (by rw [← z4]; exact h4)
        · have q3 : yx X Fm (g ρ3 >>= fun o => match o with
            | .nx ρ2 => dP b g (ds.drop (i + 1)) ρ2
            | .ct ρ2 => dP b g (ds.drop (i + 1)) ρ2
            | .bk ρ2 => .ok (.nx ρ2)
            | .rt r => .ok (.rt r)) D := q2
          cases eg : g ρ3 with
          | ex c => rw [eg] at q3; exact ⟨q3.1.mono hF, q3.2.mono hF⟩
          | no => rw [eg] at q3; exact q3
          | ok o =>
            rw [eg] at q3
            cases o with
            | nx ρ4 => exact fun σ' H' s' => ⟨hlt, ρ4, s', q3⟩
            | ct ρ4 => exact fun σ' H' s' => ⟨hlt, ρ4, s', q3⟩
            | bk ρ4 => exact fun σ' H' s' => q3 σ' H' (s'.unstab hF)
            | rt r => exact fun v H' s' p' => q3 v H' (hF.trans s') p'
    · have e : i = ds.length := by omega
      subst e
      refine .inl ⟨idt.stop _ H2 gd (Nat.le_refl _), ?_⟩
      rw [List.drop_length] at q2
      exact q2 σ2 H2 (sl2.unstab hF)
theorem Z.eN {X : Cx} {tg iter : Expr} {body : List Stmt} {it : aI → R (List PyData)} {b : PyData → aI → Option aI} {g : Fs} {pos : Pos} (hp : PassesOwn (model X.prog X.w) X.A X.env X.xe) (hc : X.calm = true) (hi : Z.nZ X tg iter it) (hg : Z.pX X tg b) (hb : Z.gK X body g) (hs : ∀ x, foldedSetIterable iter X.env x = pure x := by intro _; rfl) : Z.eU X (.For tg iter body [] pos) (iO it b g) :=
  ⟨D2.eN hp hc hi.un hg.un hb.un hs⟩
def dL (n : Nat) (g : Fs) : List PyData → R PyData := fun ds => g (ds.map aW.val ++ List.replicate (n - ds.length) .non) >>= fun o => match o with
  | .rt d => .ok d
  | .nx _ => .ok .none
  | _ => .no
def dm (F : List PyData → R PyData) (n : Nat) : Sp := fun vs H Q E => ∃ ds, bg H ds vs ∧ ds.length = n ∧ match F ds with
  | .ok d => ∀ v H', az H H' → Rp H' d v → Q v H'
  | .ex c => ∀ H', az H H' → E (.str c 0) none H'
  | .no => False
theorem wN {H : Hp} {N : List Str} : ∀ {ds : List PyData} {vs : List V}, bg H ds vs → Sl H (L2.iQ N vs) (ds.map aW.val ++ List.replicate (N.length - ds.length) .non) := fun {ds vs} r => by
  have hl := r.length
  refine ⟨by unfold L2.iQ; rw [List.length_append, List.length_append, List.length_map, List.length_map, List.length_replicate, List.length_replicate, hl], fun i c o h1 h2 => ?_⟩
  by_cases hi : i < ds.length
  · rw [List.getElem?_append_left (by simpa using hi), List.getElem?_map] at h1
    cases e : ds[i]? with
    | none => rw [e] at h1; cases h1
    | some d =>
      rw [e] at h1
      cases h1
      obtain ⟨v, e1, p⟩ := r.get e
      unfold L2.iQ at h2
      rw [List.getElem?_append_left (by rw [List.length_map, hl]; exact hi), List.getElem?_map, e1] at h2
      cases h2
      exact ⟨v, rfl, p⟩
  · rw [List.getElem?_append_right (by simpa using hi), List.getElem?_replicate] at h1
    split at h1
    · cases h1; exact True.intro
    · cases h1
section
variable {P : Program} {w : World} {H : Hp} {h : Heap} {a : Addr}
theorem qp : ∀ {o : HO}, bI P w H h a o → ∃ u, h.get? a = some u
  | .lst xs, x => by obtain ⟨_, _, _, _, e⟩ := x; exact ⟨_, e⟩
  | .tup xs, x => by obtain ⟨_, _, _, o, e, _⟩ := x; exact ⟨_, e⟩
  | .dK kvs, x => by obtain ⟨_, _, _, _, o, _, _, e, _⟩ := x; exact ⟨_, e⟩
  | .dT kvs, x => by obtain ⟨_, _, _, _, o, _, _, e, _⟩ := x; exact ⟨_, e⟩
  | .set S n, x => by obtain ⟨o, _, _, _, e, _⟩ := x; exact ⟨_, e⟩
  | .ins C dx fs, x => by obtain ⟨_, _, _, e, _⟩ := x; exact ⟨_, e⟩
  | .own y, x => by obtain ⟨_, e⟩ := x; exact ⟨_, e⟩
  | .xd fs, x => by obtain ⟨_, ⟨_, _, _, e, _⟩, _⟩ := x; exact ⟨_, e⟩
  | .rng lo hi, x => by obtain ⟨_, _, _, e⟩ := x; exact ⟨_, e⟩
  | .frz ob u, x => by obtain ⟨e, _⟩ := x; exact ⟨_, e⟩
  | .tbl ps, x => ⟨_, (show h.get? a = some _ from x)⟩
  | .met f y, x => ⟨_, (show h.get? a = some _ from x)⟩
  | .ext φ, x => by obtain ⟨_, ⟨_, e⟩, _⟩ := x; exact ⟨_, e⟩
end
theorem mf.un {P : Program} {w : World} {outer : List Env} {H H' : Hp} {s s' : Shared} {C : Addr} {e : Value} (f : mf P w outer H s C H' e s') : Un (md outer) [] H H' s.heap s'.heap := by
  obtain ⟨p, a0, B, _, fl, ok, _, cov⟩ := f.ex
  refine ⟨fun b o q n hb _ => fl.1 _ _ (cov b o q n hb).1, fun b o q n hb _ => (f.slot b o q n hb).1, fun b o q n _ => ?_, fun b o q _ => ?_, fun b xs q => f.same _ _ q, fun b o u q => f.same _ _ q, fun b ps q => ⟨#[], by rw [f.same _ _ q]; simp⟩⟩
  · by_cases hb : b ∈ md outer
    · exact (f.slot b o q n hb).2
    · exact (cov b o q n hb).2
  · cases n : H b with
    | none =>
      by_cases hb : b ∈ md outer
      · obtain ⟨sl, z⟩ := (f.slot b o q n hb).1; exact ⟨_, z⟩
      · exact ⟨o, fl.1 _ _ (cov b o q n hb).1⟩
    | some u =>
      obtain ⟨o', z⟩ := qp (ok b u (f.same _ _ n))
      exact ⟨o', fl.1 _ _ z⟩
theorem mf.hok {P : Program} {w : World} {outer : List Env} {H H' : Hp} {s s' : Shared} {C : Addr} {e : Value} (f : mf P w outer H s C H' e s') : iX P w H' s'.heap := by
  obtain ⟨p, a0, B, _, fl, ok, _, _⟩ := f.ex
  exact ok.kept fun b u q => fl.1 b u q
section
variable {P : Program} {w : World} {K : PySem.W.Frag} {mg : Str → Option Value} {base : Heap} {N : List Str} {qual : Str} {sc : Scope} {f : Addr} {cdv : Value} {A : Around} {outer : List Env} {s : Shared} {H : Hp} {E : XK} {c : Str}
theorem Bn (h : ∀ H', az H H' → E (.str c 0) none H') : Xw (fw (cK P w mg) P w K mg base N qual sc f cdv A outer s H E) c H := by
  intro H1 s1 n C en hm pins σ Hc sc' e s' I fl
  have en' : c = n := by injection en
  subst en'
  obtain ⟨p, a0, B, rfl, fly, okB, hp, cov⟩ := fl.ex
  have old : ∀ b o, s.heap.get? b = some o → b ≠ s.heap.objs.size := fun b o q => Nat.ne_of_lt (Heap.lt_size q)
  refine wpAny_leaves_onW I.ok.frames rfl fly fun h' fl' up => ⟨c, C, H1, hm, ⟨fl.os.trans I.os, fl.bare, s1, ⟨p, a0, B, rfl, fl', okB, hp, fun b o q n hb => ?_⟩, fun b o q n hb => ?_⟩, h H1 s1⟩
  · have q1 := I.base.keep b o q n hb (by simp [fw])
    have n1 := I.base.free b o q n (by simp [fw])
    refine cov b o q1 n1 fun z => ?_
    have z' : b ∈ (s.heap.objs.size :: md outer) := z
    rcases List.mem_cons.mp z' with z2 | z2
    · exact old b o q z2
    · exact hb z2
  · obtain ⟨sl, q1⟩ := I.base.slot b o q n hb (by simp [fw])
    have n1 := I.base.free b o q n (by simp [fw])
    have hb' : b ∈ md (fw (cK P w mg) P w K mg base N qual sc f cdv A outer s H E).stack := List.mem_cons_of_mem _ hb
    obtain ⟨⟨sl', q2⟩, n2⟩ := fl.slot b _ q1 n1 hb'
    obtain ⟨_, o3, q3, nf⟩ := fly.2.2.1.mem hb'
    rw [q2] at q3
    cases q3
    obtain ⟨sl3, q4⟩ := up b _ q2 nf
    exact ⟨⟨sl3, q4⟩, n2⟩
theorem zO (h : ∀ H', az H H' → E (.str c 0) none H') : Cj (fw (cK P w mg) P w K mg base N qual sc f cdv A outer s H E) c H := by
  intro C hm pins σ Hm sm sH I h' p vs hx
  have hin : ∀ env ∈ (fw (cK P w mg) P w K mg base N qual sc f cdv A outer s H E).stack, ∀ b, env.frame = some b → b ∈ md (fw (cK P w mg) P w K mg base N qual sc f cdv A outer s H E).stack := fun env he b hb => List.mem_filterMap.mpr ⟨env, he, hb⟩
  have old : ∀ b o, s.heap.get? b = some o → b ≠ s.heap.objs.size := fun b o q => Nat.ne_of_lt (Heap.lt_size q)
  refine wpAny_leaves_madeW (s := { sm with heap := h' }) (base := PySem.W.hideAll sm.heap (md (fw (cK P w mg) P w K mg base N qual sc f cdv A outer s H E).stack)) I.ok.frames rfl (fun b o q => PySem.W.of_hideAll _ q) (PySem.W.funFrames_hide I.stack hin) hx fun h'' t fl' _ _ up =>
    ⟨c, C, Hm, hm, ⟨I.os, I.bare, sH, ⟨p, .ref t, _, rfl, fl', fun b u q => ?_, ?_, fun b o q n hb => ?_⟩, fun b o q n hb => ?_⟩, h Hm sH⟩
  · refine (I.hok b u q).stay (fun c' v hc z => PySem.W.hideAll_get _ z fun m => ?_) (fun _ z => z) fun _ _ z => z
    have hn := I.stkFree c' m
    rcases hc with rfl | hc
    · rw [hn] at q; cases q
    · rw [hn] at hc; cases hc
  · cases q : Hm p with
    | none => rfl
    | some u =>
      obtain ⟨o', z⟩ := qp (I.hok p u q)
      rw [hx.new] at z; cases z
  · have q1 := I.base.keep b o q n hb (by simp [fw])
    have n1 := I.base.free b o q n (by simp [fw])
    refine ⟨PySem.W.hideAll_get _ q1 fun z => ?_, n1⟩
    have z' : b ∈ (s.heap.objs.size :: md outer) := z
    rcases List.mem_cons.mp z' with z2 | z2
    · exact old b o q z2
    · exact hb z2
  · obtain ⟨sl, q1⟩ := I.base.slot b o q n hb (by simp [fw])
    have n1 := I.base.free b o q n (by simp [fw])
    have hb' : b ∈ md (fw (cK P w mg) P w K mg base N qual sc f cdv A outer s H E).stack := List.mem_cons_of_mem _ hb
    obtain ⟨_, o3, q3, nf⟩ := I.stack.mem hb'
    rw [q1] at q3
    cases q3
    obtain ⟨sl3, q4⟩ := up b _ (hx.keeps _ _ q1) nf
    exact ⟨⟨sl3, q4⟩, n1⟩
end
theorem pR {P : Program} {w : World} {K : PySem.W.Frag} {mg : Str → Option Value} {base : Heap} {x qual : Str} {st : Stmt} {f : Addr} {fd : FuncData} {N ps : List Str} {k : Nat} {g : Fs} (F : ie K x qual st f fd) (S : aQ N ps (ai st))
    (body : ∀ (cdv : Value) (A : Around) (outer : List Env) (s : Shared) (H : Hp) (E : XK), dD k (A.deeper (envOfC qual (ai st) s.heap.objs.size f cdv)) →
      gK (fw (cK P w mg) P w K mg base N qual (ai st) f cdv A outer s H E) (dE st) g) : aV P w K mg base (cK P w mg) (k + 1) f fd ps (dm (dL N.length g) ps.length) := by
  obtain ⟨oc, od, kV, doc, pm, an, cdv, ct, osl, rfl, lk, hcd⟩ := F.ex
  refine xR lk hcd S (fun vs H Q E ⟨ds, r, hl, _⟩ => by rw [r.length]; exact hl) fun A outer s H vs Q E hr h => ?_
  obtain ⟨ds, r, hl, q⟩ := h
  have noOwn : ∀ (i : Nat) (d : PyData), (ds.map aW.val ++ List.replicate (N.length - ds.length) aW.non)[i]? = some (.own d) → False := fun i d h1 => by
    by_cases hi : i < ds.length
    · rw [List.getElem?_append_left (by simpa using hi), List.getElem?_map] at h1
      cases e : ds[i]? with
      | none => rw [e] at h1; cases h1
      | some d => rw [e] at h1; cases h1
    · rw [List.getElem?_append_right (by simpa using hi), List.getElem?_replicate] at h1
      split at h1
      · cases h1
      · cases h1
  refine ⟨_, body cdv A outer s H E hr H, _, ⟨az.refl _, wN r, fun i d a h1 h2 => (noOwn i d h1).elim, fun i j d e a h1 h2 h3 h4 => (noOwn i d h1).elim⟩, ?_⟩
  unfold dL at q
  cases eg : g (ds.map aW.val ++ List.replicate (N.length - ds.length) .non) with
  | ex c => rw [eg] at q; exact ⟨Bn q, zO q⟩
  | no => rw [eg] at q; exact q.elim
  | ok o =>
    rw [eg] at q
    cases o with
    | rt d => exact fun v H' s' p => q v H' s' p
    | nx ρ => exact fun σ' H' s' => q .non H' s'.fm (by simp only [Rp])
    | bk ρ => exact q.elim
    | ct ρ => exact q.elim
def aD (F : List PyData → R PyData) (fs : aI → R (List PyData)) : Fe := fun ρ => fs ρ >>= F
theorem zM {X : Cx} {k n : Nat} {f : Addr} {fd : FuncData} {ps : List Str} {F : List PyData → R PyData} {x : Str} {p pos : Pos} {e : Expr} {es : List Expr} {fs : aI → R (List PyData)} {nl : Nat} {G : List Str}
    (C : aV X.prog X.w X.K X.mg X.base (cK X.prog X.w X.mg) k f fd ps (dm F n)) (hr : dD k X.A) (T : Tb X nl G) (j : Nat) (hG : G[j]? = some x) (hm : X.mg x = some (.ref f)) (hk : PySem.W.keepIn X.K (.ref f) = true) (hb : gk X.K fd ps []) (ha : me X (e :: es) fs)
    (hlen : (e :: es).length = n) (hfs : ∀ ρ ds, fs ρ = .ok ds → ds.length = n)
    (he : (e :: es).all au = true := by rfl) : ah X (.Call (.Name x p) (e :: es) [] pos) (aD F fs) := by
  rw [List.all_cons, Bool.and_eq_true] at he
  have g := T.gl x (List.mem_of_getElem? hG)
  refine PE.imp (zf C hr g.1 hm hk hb .nil uq ha g.2.1 (a4 he.1) (kM he.2)) fun σ H Q ⟨ρ, sl, q⟩ => ?_
  refine ⟨ρ, sl, ?_⟩
  unfold aD at q
  cases e1 : fs ρ with
  | ex c => rw [e1] at q; exact q
  | no => rw [e1] at q; exact q
  | ok ds =>
    rw [e1] at q
    intro vs H1 s1 r1
    rw [List.append_nil]
    refine ⟨ds, lw.mp r1, hfs ρ ds e1, ?_⟩
    have q' : tz X gB (F ds) H Q := q
    cases e2 : F ds with
    | ok d => rw [e2] at q'; exact fun v H' s' p' => q' v H' (s1.trans s') p'
    | ex c => rw [e2] at q'; exact fun H' s' => q' H' (s1.trans s')
    | no => rw [e2] at q'; exact q'
theorem ap : ∀ ρ ds, ay ρ = .ok ds → ds.length = 0 := fun ρ ds e => by cases e; rfl
theorem ae {f : Fe} {g : aI → R (List PyData)} {n : Nat} (h : ∀ ρ ds, g ρ = .ok ds → ds.length = n) : ∀ ρ ds, ag f g ρ = .ok ds → ds.length = n + 1 := fun ρ ds e => by
  unfold ag at e
  cases e1 : f ρ with
  | ex c => rw [e1] at e; cases e
  | no => rw [e1] at e; cases e
  | ok d =>
    rw [e1] at e
    cases e2 : g ρ with
    | ex c => rw [e2] at e; cases e
    | no => rw [e2] at e; cases e
    | ok ds' => rw [e2] at e; cases e; rw [List.length_cons, h ρ ds' e2]
theorem tu {scope : Scope} {env : Env} (h : ∀ x ∈ scope.names, x.2 = .free → ∃ c, env.cells.lookup x.1 = some c) :
    ∃ cl, closureFor scope env = pure cl ∧ (∀ x c, cl.lookup x = some c → env.cells.lookup x = some c) ∧ ∀ x ∈ scope.names, x.2 = .free → ∃ c, cl.lookup x.1 = some c := by
  suffices gen : ∀ (names : List (Str × NameKind)) (acc : List (Str × Addr)), (∀ x ∈ names, x.2 = .free → ∃ c, env.cells.lookup x.1 = some c) → (∀ x c, acc.lookup x = some c → env.cells.lookup x = some c) →
      ∃ cl, (forIn names acc fun x r => if (x.snd == NameKind.free) = true then do let a ← cellOf env x.fst; pure (ForInStep.yield ((x.fst, a) :: r)) else pure (ForInStep.yield r) : Sem (List (Str × Addr))) = pure cl ∧
        (∀ x c, cl.lookup x = some c → env.cells.lookup x = some c) ∧ (∀ x c, acc.lookup x = some c → ∃ c', cl.lookup x = some c') ∧ ∀ x ∈ names, x.2 = .free → ∃ c, cl.lookup x.1 = some c by
    obtain ⟨cl, h1, h2, _, h4⟩ := gen scope.names [] h fun x c e => by simp at e
    refine ⟨cl, ?_, h2, h4⟩
    simp only [closureFor]
    rw [h1]
    rfl
  intro names
  induction names with
  | nil => intro acc _ ha; exact ⟨acc, rfl, ha, fun x c e => ⟨c, e⟩, fun x hx => by cases hx⟩
  | cons y r ih =>
    intro acc hn ha
    obtain ⟨n, k⟩ := y
    by_cases hk : k = .free
    · subst hk
      obtain ⟨c, hc⟩ := hn (n, .free) List.mem_cons_self rfl
      obtain ⟨cl, e1, e2, e3, e4⟩ := ih ((n, c) :: acc) (fun x hx => hn x (List.mem_cons_of_mem _ hx)) (fun x c' e => by
        rw [List.lookup_cons] at e
        split at e
        · rename_i q
          have : x = n := by simpa using q
          subst this; cases e; exact hc
        · exact ha x c' e)
      refine ⟨cl, ?_, e2, fun x c' e => ?_, fun x hx hf => ?_⟩
      · rw [List.forIn_cons]
        have : cellOf env n = pure c := by unfold cellOf; rw [hc]
        simp only [beq_self_eq_true, if_true, this, pure_bind]
        exact e1
      · by_cases hx : x = n
        · subst hx; exact e3 x c (by rw [List.lookup_cons]; simp)
        · have hb : (x == n) = false := by simpa using hx
          exact e3 x c' (by rw [List.lookup_cons, hb]; exact e)
      · rcases List.mem_cons.mp hx with rfl | hx
        · exact e3 n c (by rw [List.lookup_cons]; simp)
        · exact e4 x hx hf
    · obtain ⟨cl, e1, e2, e3, e4⟩ := ih acc (fun x hx => hn x (List.mem_cons_of_mem _ hx)) ha
      refine ⟨cl, ?_, e2, e3, fun x hx hf => ?_⟩
      · rw [List.forIn_cons]
        have : (k == NameKind.free) = false := by simpa using hk
        simp only [this, Bool.false_eq_true, if_false, pure_bind]
        exact e1
      · rcases List.mem_cons.mp hx with rfl | hx
        · exact absurd hf hk
        · exact e4 x hx hf
def Ch (env : Env) (p : Str × NameKind) : NameKind := if (p.2 == .free && env.scope.kind == .function && env.kindOf p.1 == some .cell) = true then .cell else p.2
theorem om (scope : Scope) (env : Env) : (relabel scope env).names = scope.names.map fun p => (p.1, Ch env p) := by
  unfold relabel
  refine List.map_congr_left fun p _ => ?_
  obtain ⟨n, k⟩ := p
  unfold Ch
  dsimp only
  split <;> rfl
theorem lP (g : Str × NameKind → NameKind) (x : Str) : ∀ l : List (Str × NameKind), (l.map fun p => (p.1, g p)).lookup x = (l.lookup x).map fun k => g (x, k)
  | [] => rfl
  | (n, k) :: r => by
    rw [List.map_cons]
    cases hx : x == n with
    | true =>
      have e : x = n := by simpa using hx
      subst e
      simp
    | false =>
      have ne : ¬ x = n := by simpa using hx
      simp only [List.lookup_cons, hx]
      exact lP g x r
theorem kb (scope : Scope) (env : Env) (x : Str) : (relabel scope env).names.lookup x = (scope.names.lookup x).map fun k => Ch env (x, k) := by
  rw [om]; exact lP _ _ _
theorem eK {scope : Scope} {env : Env} {x : Str} {k : NameKind} (h : scope.names.lookup x = some k) (hk : k ≠ .free) : (relabel scope env).names.lookup x = some k := by
  rw [kb, h]
  have : (k == NameKind.free) = false := by simpa using hk
  simp only [Ch, this, Bool.false_and, Bool.false_eq_true, if_false, Option.map_some]
theorem ky {scope : Scope} {env : Env} {x : Str} (h : scope.names.lookup x = some .free) : (relabel scope env).names.lookup x = some .free ∨ (relabel scope env).names.lookup x = some .cell := by
  rw [kb, h]
  unfold Ch
  dsimp only [Option.map_some]
  split
  · exact .inr rfl
  · exact .inl rfl
theorem rW {scope : Scope} {env : Env} {x : Str} (hc : ∀ y ∈ scope.names, y.2 ≠ .cell) (h : (relabel scope env).names.lookup x = some .free ∨ (relabel scope env).names.lookup x = some .cell) : (x, NameKind.free) ∈ scope.names := by
  cases e : scope.names.lookup x with
  | none =>
    rw [kb, e] at h
    rcases h with h | h <;> cases h
  | some k =>
    by_cases hk : k = .free
    · subst hk; exact PySem.mem_of_lookup e
    · exfalso
      have := eK (env := env) e hk
      rw [this] at h
      rcases h with h | h
      · cases h; exact hk rfl
      · cases h; exact hc _ (PySem.mem_of_lookup e) rfl
def a8 (X : Cx) (N : List Str) (scope : Scope) (cl : List (Str × Addr)) (C : Addr) (s : Shared) (H : Hp) (fp : List Addr) : Cx :=
  { X with N := N, s₀ := s, H₀ := H, env := compEnvC scope cl C X.env, outer := X.stack, stack := X.stack, ex := fp, fn := fun _ => false, pn := [], xe := fun _ _ => False }
def fF (sc : Scope) (N : List Str) (own : Nat) (G : List Str) (oN : List Str) (fr : List Nat) : Prop :=
  sc.kind = .function ∧ (∀ y ∈ sc.names, y.2 ≠ .cell) ∧ (∀ y ∈ sc.names, y.2 = .local → sc.names.lookup y.1 = some .local) ∧ N.Nodup ∧ (∀ x ∈ N.take own, sc.names.lookup x = some .local) ∧ (∀ x ∈ N.drop own, sc.names.lookup x = some .free) ∧
  (∀ x ∈ N, (x == ("__debug__" : Str)) = false ∧ (x == ("__classdict__" : Str)) = false) ∧ (∀ x ∈ G, sc.names.lookup x = some .globalImplicit ∧ (x == ("__debug__" : Str)) = false ∧ x ≠ ("__name__" : Str)) ∧
  own ≤ N.length ∧ (N.drop own).map some = fr.map fun i => oN[i]?
instance {sc : Scope} {N : List Str} {own : Nat} {G oN : List Str} {fr : List Nat} : Decidable (fF sc N own G oN fr) := by unfold fF; infer_instance
theorem zb {X : Cx} {nl : Nat} {G0 : List Str} (T : Tb X nl G0) {sc : Scope} {N : List Str} {own : Nat} {G oN : List Str} {fr : List Nat} (ck : fF sc N own G oN fr) (cl : List (Str × Addr)) (C : Addr) (s : Shared) (H : Hp) (fp : List Addr) :
    Tb (a8 X N sc cl C s H fp) own G := by
  obtain ⟨_, _, _, nd, l, f, db, g, _, _⟩ := ck
  refine ⟨T.hu, T.calm, nd, fun x hx => ?_, fun x hx => ?_, fun x hx => ?_⟩
  · refine ⟨?_, db x hx⟩
    have hx' : x ∈ N.take own ++ N.drop own := by rw [List.take_append_drop]; exact hx
    rcases List.mem_append.mp hx' with z | z
    · exact .inl (eK (l x z) (by decide))
    · rcases ky (env := X.env) (f x z) with q | q
      · exact .inr (.inr q)
      · exact .inr (.inl q)
  · have q := eK (env := X.env) (l x hx) (by decide)
    exact ⟨.inl q, .inr q⟩
  · obtain ⟨g1, g2, g3⟩ := g x hx
    exact ⟨eK (env := X.env) g1 (by decide), g2, g3⟩
def Ey (X : Cx) (ifs : List Expr) (t : TT) : Prop :=
  ∀ (pins : List (Addr × Obj)) (s : Shared) (σ : St) (H : Hp) (Q : Bool → Hp → Prop), aC X pins σ H s → t σ H Q → wpAny (model X.prog X.w) X.A (forIn ifs true fun c r => if r = true then do let ok ← isTrue c X.env (eval c X.env); pure (ForInStep.yield ok) else pure (ForInStep.yield r))
    (TP X pins σ Q) X.xe s
def tF (X : Cx) (ifs : List Expr) (t : aI → R Bool) : Prop := Ey X ifs (yO X t)
structure Z.tF (X : Cx) (ifs : List Expr) (t : aI → R Bool) : Prop where
  un : D2.tF X ifs t
theorem io {X : Cx} : tF X [] (fun _ => .ok true) := fun pins s σ H Q I ⟨ρ, sl, q⟩ => wpAny_tests_nil ⟨H, I, q H (az.refl _)⟩
theorem Z.io {X : Cx} : Z.tF X [] (fun _ => .ok true) :=
  ⟨D2.io⟩
theorem dZ {X : Cx} {c : Expr} {t : aI → R Bool} (h : gH X c t) : tF X [c] t := fun pins s σ H Q I q => wpAny_tests_one (h pins s σ H Q I q)
theorem Z.dZ {X : Cx} {c : Expr} {t : aI → R Bool} (h : Z.gH X c t) : Z.tF X [c] t :=
  ⟨D2.dZ h.un⟩
def bV (b : PyData → aI → Option aI) (t : aI → R Bool) (f : Fe) (ρ : aI) : List PyData → R (List PyData)
  | [] => .ok []
  | d :: ds => match b d ρ with
    | none => .no
    | some ρ1 => t ρ1 >>= fun k => if k = true then f ρ1 >>= fun x => bV b t f ρ ds >>= fun xs => .ok (x :: xs) else bV b t f ρ ds
def aA (own : Nat) (fr : List Nat) (ρ : aI) : aI := List.replicate own .non ++ fr.map fun i => ρ.getD i .non
def km {α : Type} : R α → R α
  | .ex _ => .no
  | r => r
def bR (it : aI → R (List PyData)) (own : Nat) (fr : List Nat) (b : PyData → aI → Option aI) (t : aI → R Bool) (f : Fe) : Fe := fun ρ =>
  km (it ρ) >>= fun ds => if ds.length ≤ sizeLine then match bV b t f (aA own fr ρ) ds with
    | .ok xs => .ok (.list xs)
    | _ => .no
  else .no
def gO (own : Nat) (fr : List Nat) (σ : St) : St := List.replicate own none ++ fr.map fun i => (σ[i]?).join
theorem Af {H : Hp} {σ : St} {ρ : aI} (h : Sl H σ ρ) (own : Nat) (fr : List Nat) (hin : ∀ i ∈ fr, i < ρ.length) : Sl H (gO own fr σ) (aA own fr ρ) := by
  refine ⟨by simp [gO, aA], fun i c o h1 h2 => ?_⟩
  unfold aA at h1
  unfold gO at h2
  by_cases hi : i < own
  · rw [List.getElem?_append_left (by simpa using hi), List.getElem?_replicate, if_pos hi] at h1
    cases h1; exact True.intro
  · rw [List.getElem?_append_right (by simpa using hi), List.getElem?_map, List.length_replicate] at h1 h2
    cases e : fr[i - own]? with
    | none => rw [e] at h1; cases h1
    | some j =>
      rw [e] at h1 h2
      have hj := hin j (List.mem_of_getElem? e)
      have hj' : j < σ.length := by rw [h.1]; exact hj
      cases h1; cases h2
      refine h.2 j _ _ ?_ ?_
      · show ρ[j]? = some (ρ.getD j .non)
        rw [List.getD_eq_getElem?_getD, List.getElem?_eq_getElem hj]; rfl
      · show σ[j]? = some ((σ[j]?).join)
        rw [List.getElem?_eq_getElem hj']; rfl
section
variable {X : Cx} {pins : List (Addr × Obj)} {σ : St} {H : Hp} {s : Shared} {nl : Nat} {G0 : List Str} {sc : Scope} {N : List Str} {own : Nat} {G : List Str} {fr : List Nat} {cl : List (Str × Addr)} {fp : List Addr} {a C : Addr} {h4 : Heap} {t4 : Nat} {m : Str → Option Value}
theorem yn (I : aC X pins σ H s) (ck : fF sc N own G X.N fr) (hf : ∀ b ∈ fp, lp X pins H b) (hob : ∀ b ∈ fp, b < s.heap.objs.size) (hcl1 : ∀ x c, cl.lookup x = some c → X.env.cells.lookup x = some c) (hcl2 : ∀ x ∈ sc.names, x.2 = .free → ∃ c, cl.lookup x.1 = some c)
    (vis : ∀ x ∈ X.N, BP X.env.scope x) (hout : ∀ y ∈ sc.names, y.2 = .free → X.env.kindOf y.1 = some .cell ∨ X.env.kindOf y.1 = some .free)
    (ha : s.heap.objs.size ≤ a) (hC : s.heap.objs.size ≤ C) (hac : a ≠ C) (keep : ∀ b o, s.heap.get? b = some o → h4.get? b = some o) (hl : h4.get? a = some { cls := .type "list", data := .seq #[] 0 }) (hn : h4.Ns C m) :
    aC (a8 X N sc cl C s H fp) [] (gO own fr σ) (ci H a (.lst [])) { s with heap := h4, toks := t4 } := by
  obtain ⟨ck1, ck2, ck3, nd, l, f, db, g, ol, ofr⟩ := ck
  have hHa : H a = none := I.hok.fresh ha
  have hHC : H C = none := I.hok.fresh hC
  have lt : ∀ {b : Addr} {o : Obj}, s.heap.get? b = some o → b < s.heap.objs.size := fun e => Heap.lt_size e
  have cellLt : ∀ x c, cl.lookup x = some c → c < s.heap.objs.size := fun x c e => by
    obtain ⟨v, q⟩ := I.cell x c (hcl1 x c e)
    exact q.lt
  refine ⟨⟨I.ok.mod, ck1, I.ok.glob, I.ok.blt, hC, fun x y c h1 h2 => I.ok.inj x y c (hcl1 x c h1) (hcl1 y c h2), fun x hx => ?_, fun x c hx => (Bool.false_ne_true hx).elim, I.ok.hd, I.ok.frames, .inl rfl, fun b hb => ⟨?_, fun x c e => ?_⟩, I.bs, Nat.le_trans I.ok.bsz I.sz, fun b o e hb => ?_, fun b hb hs => ?_, I.stack, I.stkFree⟩,
    rfl, I.bare, Un.laid keep ha hHa, ⟨m, hn, fun i x v h1 h2 h3 => ?_⟩, fun x c e => ?_, ?_, fun x c e => ?_, fun p hp => ?_, ?_, ?_⟩
  · have q := rW (env := X.env) ck2 (show (relabel sc X.env).names.lookup x = some .free ∨ (relabel sc X.env).names.lookup x = some .cell from hx.elim .inr .inl)
    exact hcl2 _ q rfl
  · exact Nat.ne_of_lt (Nat.lt_of_lt_of_le (hob b hb) hC)
  · exact (hf b hb).2.2.2.2.1 x c (hcl1 x c e)
  · rcases (hf b hb).2.2.2.1 with z | z
    · exact I.ok.noex b o e z
    · exact absurd (Nat.lt_of_lt_of_le (Heap.lt_size e) I.ok.bsz) (Nat.not_lt.mpr z)
  · rcases List.mem_cons.mp (I.stkSub b hs) with z | z
    · exact (hf b hb).2.1 z
    · exact (hf b hb).2.2.1 z
  · -- a captured name
    have hi : ¬ i < own := fun hi => by
      unfold gO at h2
      rw [List.getElem?_append_left (by simpa using hi), List.getElem?_replicate, if_pos hi] at h2
      cases h2
    unfold gO at h2
    rw [List.getElem?_append_right (by simpa using hi), List.getElem?_map, List.length_replicate] at h2
    cases e : fr[i - own]? with
    | none => rw [e] at h2; cases h2
    | some j =>
      rw [e] at h2
      have h2' : (σ[j]?).join = some v := Option.some.inj h2
      have hσ : σ[j]? = some (some v) := by
        cases q : σ[j]? with
        | none => rw [q] at h2'; cases h2'
        | some o => rw [q] at h2'; exact congrArg some h2'
      have hx : (N.drop own)[i - own]? = some x := by
        rw [List.getElem?_drop]
        have : own + (i - own) = i := by omega
        rw [this]; exact h1
      have hj : X.N[j]? = some x := by
        have q := congrArg (fun l => l[i - own]?) ofr
        simp only [List.getElem?_map, hx, e, Option.map_some] at q
        exact (Option.some.inj q).symm
      have hfree := f x (List.mem_of_getElem? hx)
      obtain ⟨c, hc⟩ := hcl2 _ (PySem.mem_of_lookup hfree) rfl
      have hXc := hcl1 x c hc
      obtain ⟨m0, hn0, hl0⟩ := I.loc
      obtain ⟨u, ru, lk⟩ := hl0 j x v hj hσ (vis x (List.mem_of_getElem? hj))
      have ko := hout _ (PySem.mem_of_lookup hfree) rfl
      refine ⟨u, ru, .inr ⟨(ky (env := X.env) hfree).symm, c, hc, ?_⟩⟩
      rcases lk with ⟨k1, _⟩ | ⟨_, c', e1, ob, q1, q2⟩
      · exfalso
        rcases ko with k | k <;> (rw [k] at k1; cases k1)
      · rw [hXc] at e1
        cases e1
        exact ⟨ob, keep _ _ q1, q2⟩
  · obtain ⟨v, o, q, d⟩ := I.cell x c (hcl1 x c e)
    exact ⟨v, o, keep _ _ q, d⟩
  · show ci H a (.lst []) C = none
    rw [ar (Ne.symm hac)]; exact hHC
  · have q := I.freeC x c (hcl1 x c e)
    show ci H a (.lst []) c = none
    rw [ar (Nat.ne_of_lt (Nat.lt_of_lt_of_le (cellLt x c e) ha))]; exact q
  · exact absurd (show p ∈ ([] : List (Addr × Obj)) from hp) (by simp)
  · exact I.hok.laid keep ha ⟨Nat.zero_le _, [], 0, .nil, hl⟩
  · show (gO own fr σ).length = N.length
    have q := congrArg List.length ofr
    rw [List.length_map, List.length_map, List.length_drop] at q
    unfold gO
    rw [List.length_append, List.length_replicate, List.length_map]
    omega
end
def lW (ρ0 ρ1 : aI) : Prop := ρ1.length = ρ0.length ∧ ∀ (i : Nat) (c : aW), ρ0[i]? = some c → c = .non ∨ ρ1[i]? = some c
theorem Sl.unfit {H : Hp} {σ : St} {ρ0 ρ1 : aI} (h : Sl H σ ρ1) (f : lW ρ0 ρ1) : Sl H σ ρ0 := by
  refine ⟨h.1.trans f.1, fun i c o h1 h2 => ?_⟩
  rcases f.2 i c h1 with rfl | q
  · exact True.intro
  · exact h.2 i c o q h2
def xA (H0 : Hp) (σ : St) (ρ : aI) : Prop := ∀ (i : Nat) (e : PyData), ρ[i]? = some (.own e) → ∃ v, σ[i]? = some (some v) ∧ iU H0 e v
theorem vz {X : Cx} {J : It} {tn : Nat → Heap → Prop} {it a : Addr} {fp : List Addr} {tg iter elt : Expr} {ifs : List Expr} {scope : Scope} {pos : Pos} {b : PyData → aI → Option aI} {t : aI → R Bool} {f : Fe} {ds xs : List PyData} {Gd : Hp → Prop} {H0 : Hp} {ρ0 : aI}
    {Rk : Result → Shared → Prop} (T : rT X.prog X.w X.K tg J fp it tn) (calm : X.calm = true) (hfp : ∀ H : Hp, (∀ b ∈ fp, H b = none) → ∀ b ∈ fp, lp X [] H b) (hxe : X.xe = fun _ _ => False) (hg : pX X tg b) (ht : tF X ifs t) (hf : ah X elt f)
    (idt : yB J Gd ds) (sta : DF H0 (fun _ => False) Gd) (hsz : ds.length ≤ sizeLine) (ha0 : H0 a = none) (hb0 : ∀ d ρ1, b d ρ0 = some ρ1 → lW ρ0 ρ1)
    (fin : ∀ s' σ' H' vs, aC X [] σ' H' s' → az H0 H' → H' a = some (.lst vs) → bg H' xs vs → Rk (.ok .next) s') :
    ∀ {s : Shared} {σ : St} {H : Hp} {rest : List PyData}, aC X [] σ H s → tn 0 s.heap → (∀ b ∈ fp, H b = none) → az H0 H → H a = some (.lst []) → bV b t f ρ0 ds = .ok xs → Sl H σ ρ0 → xA H0 σ ρ0 →
      codeAny (model X.prog X.w) X.A (.compLoop (.ListComp elt [⟨tg, iter, ifs, 0⟩] scope pos) 0 (.ref it) (.ref a) X.env) Rk s := by
  intro s σ H rest I st fr s0 hla hc sl ow
  refine codeAny_loop rfl (fun n s => ∃ i acc rest σ H vs, n = ds.length - i ∧ i ≤ ds.length ∧ acc.length ≤ i ∧ aC X [] σ H s ∧ tn i s.heap ∧ (∀ b ∈ fp, H b = none) ∧ az H0 H ∧ H a = some (.lst vs) ∧ bg H acc vs ∧ bV b t f ρ0 (ds.drop i) = .ok rest ∧
    acc ++ rest = xs ∧ Sl H σ ρ0 ∧ xA H0 σ ρ0) (fun n s hI => ?_) ds.length ⟨0, [], xs, σ, H, [], by simp, Nat.zero_le _, Nat.le_refl _, I, st, fr, s0, hla, bg.nil, by simpa using hc, by simp, sl, ow⟩
  clear I st fr s0 hla hc sl ow
  obtain ⟨i, acc, rest, σ, H, vs, rfl, hi, hal, I, st, fr, s0, hla, ra, hc, hxs, sl, ow⟩ := hI
  show wpAny _ X.A ((compTurn (.ListComp elt [⟨tg, iter, ifs, 0⟩] scope pos) 0 (.ref it) (.ref a) X.env).onRaise (fun x => do noteFrame x X.env; theTreesLotGoes x)) _ _ s
  refine wpAny_noted ?_
  rw [compTurn_list]
  have gd : Gd H := sta H (Kp.of s0) fun _ _ z => z.elim
  have noex : ∀ {α : Type} {m : Sem α} {Q Q' : α → Shared → Prop} {E : Value → Shared → Prop} {s : Shared}, wpAny (model X.prog X.w) X.A m Q X.xe s → (∀ v s, Q v s → Q' v s) → wpAny (model X.prog X.w) X.A m Q' E s := fun h k => by
    rw [hxe] at h
    exact wpAny_mono h k fun _ _ z => z.elim
  by_cases hlt : i < ds.length
  · obtain ⟨d, hd⟩ : ∃ d, ds[i]? = some d := ⟨ds[i], List.getElem?_eq_getElem hlt⟩
    have hdrop : ds.drop i = d :: ds.drop (i + 1) := by
      rw [List.drop_eq_getElem_cons hlt]
      congr 1
      exact Option.some.inj ((List.getElem?_eq_getElem hlt).symm.trans hd)
    rw [hdrop] at hc
    unfold bV at hc
    refine wpAny_bind (wpAny_standAt (wpAny_bind (cR (T.item X rfl rfl rfl calm i [] s σ H _ I (hfp H fr) st (idt.go i H gd hlt)) fun r s1 ⟨u, hr, h1⟩ => ?_)))
    subst hr
    refine wpAny_bind (cR h1 fun _ s2 ⟨x, H2, I2, r2, y2, st2, fr2⟩ => ?_)
    obtain ⟨s02, p2⟩ := idt.yld i H x H2 d gd hd y2
    have I2' := I2.pinned (hfp H2 fr2) (T.obj _ _ st2)
    have back : ∀ {σ' : St} {H' : Hp} {s' : Shared}, aC X ([] ++ mO fp s2.heap) σ' H' s' → aC X [] σ' H' s' ∧ tn (i + 1) s'.heap ∧ ∀ b ∈ fp, H' b = none := fun {σ' H' s'} J' =>
      ⟨J'.unpinned, T.keep _ _ _ st2 fun b hb o e => (J'.pin (b, o) (List.mem_append_right _ (List.mem_append_right _ (iM hb e)))).1, fun b hb => by
        obtain ⟨o, e, _⟩ := T.obj _ _ st2 b hb
        exact (J'.pin (b, o) (List.mem_append_right _ (List.mem_append_right _ (iM hb e)))).2.1⟩
    cases eb : b d ρ0 with
    | none => rw [eb] at hc; cases hc
    | some ρ1 =>
      rw [eb] at hc
      dsimp only at hc
      have hfit := hb0 d ρ1 eb
      refine wpAny_bind (noex (hg _ s2 σ H2 x u (fun σ' H' => H' = H2 ∧ Sl H2 σ' ρ1 ∧ ∀ (i : Nat) (e : PyData), ρ1[i]? = some (.own e) → ρ0[i]? = some (.own e) ∧ σ'[i]? = σ[i]?) I2' r2 ⟨ρ0, d, sl.mono s02, p2, by rw [eb]; exact fun σ' sl' w' => ⟨rfl, sl', w'⟩⟩) fun _ s3 ⟨σ3, H3, I3, e3, sl3, w3⟩ => ?_)
      subst e3
      have ow3 : xA H0 σ3 ρ0 := fun j e h => by
        obtain ⟨v, z1, z2⟩ := ow j e h
        rcases hfit.2 j _ h with z | z
        · cases z
        · exact ⟨v, by rw [(w3 j e z).2]; exact z1, z2⟩
      cases et : t ρ1 with
      | ex c => rw [et] at hc; cases hc
      | no => rw [et] at hc; cases hc
      | ok k =>
        rw [et] at hc
        refine wpAny_bind (noex (ht _ s3 σ3 H3 (fun b' H' => b' = k ∧ az H3 H') I3 ⟨ρ1, sl3, by rw [et]; exact fun H' s' => ⟨rfl, s'⟩⟩) fun ok s4 ⟨H4, I4, e4, s34⟩ => ?_)
        subst e4
        have s04 := (s0.trans s02).trans s34
        have hla4 : H4 a = some (.lst vs) := s34 _ _ (s02 _ _ hla)
        have ra4 : bg H4 acc vs := (ra.mono s02).mono s34
        cases ok with
        | false =>
          obtain ⟨J1, J2, J3⟩ := back I4
          have hc' : bV b t f ρ0 (ds.drop (i + 1)) = .ok rest := hc
          exact wpAny_pure ⟨rfl, ds.length - (i + 1), by omega, i + 1, acc, rest, σ3, H4, vs, rfl, hlt, by omega, J1, J2, J3, s04, hla4, ra4, hc', hxs, (sl3.unfit hfit).mono s34, ow3⟩
        | true =>
          have hc' : (f ρ1 >>= fun x => bV b t f ρ0 (ds.drop (i + 1)) >>= fun xs => .ok (x :: xs)) = .ok rest := hc
          cases ef : f ρ1 with
          | ex c => rw [ef] at hc'; cases hc'
          | no => rw [ef] at hc'; cases hc'
          | ok y =>
            rw [ef] at hc'
            cases er : bV b t f ρ0 (ds.drop (i + 1)) with
            | ex c => rw [R.ok_bind, er] at hc'; cases hc'
            | no => rw [R.ok_bind, er] at hc'; cases hc'
            | ok rest' =>
              rw [R.ok_bind, er] at hc'
              have hr : y :: rest' = rest := by cases hc'; rfl
              refine wpAny_bind (wpAny_bind (noex (hf _ s4 σ3 H4 (fun v H' => az H4 H' ∧ Rp H' y v) I4 ⟨ρ1, sl3.mono s34, by rw [ef]; exact fun v H' s' p' => ⟨s', p'⟩⟩) fun yv s5 ⟨v5, H5, I5, r5, s45, p5⟩ => ?_))
              have hla5 : H5 a = some (.lst vs) := s45 _ _ hla4
              have hlen : vs.length < sizeLine := by
                rw [ra.length]; omega
              refine wpAny_bind (noex (oY _ s5 σ3 H5 (.ref a) [v5] (.ref a) [yv] (fun _ H' => H' = ci H5 a (.lst (vs ++ [v5]))) I5 rfl (.cons r5 .nil) ⟨a, vs, v5, rfl, rfl, hla5, hlen, rfl⟩) fun _ s6 ⟨v6, H6, I6, r6, e6⟩ => ?_)
              subst e6
              obtain ⟨J1, J2, J3⟩ := back I6
              have kp : Kp H5 (ci H5 a (.lst (vs ++ [v5]))) := gq hla5 (.inl ⟨_, rfl⟩)
              have s06 : az H0 (ci H5 a (.lst (vs ++ [v5]))) := fun b o e => by
                rw [ar (aS e ha0)]; exact (s04.trans s45) b o e
              refine wpAny_pure (wpAny_pure ⟨rfl, ds.length - (i + 1), by omega, i + 1, acc ++ [y], rest', σ3, _, vs ++ [v5], rfl, hlt, by rw [List.length_append, List.length_singleton]; omega, J1, J2, J3, s06, aX, ?_, er, by rw [List.append_assoc, List.singleton_append, hr]; exact hxs, ?_, ow3⟩)
              · exact bg.append (bg.kp kp _ _ (ra4.mono s45)) (bg.cons (Rp.kp kp _ _ p5) bg.nil)
              · have sl5 : Sl H5 σ3 ρ0 := ((sl3.unfit hfit).mono s34).mono s45
                refine ⟨sl5.1, fun j c o h1 h2 => ?_⟩
                cases c with
                | exc p => exact sl5.2 j _ o h1 h2
                | non => exact True.intro
                | val d' =>
                  obtain ⟨v', z1, z2⟩ := sl5.2 j _ o h1 h2
                  exact ⟨v', z1, Rp.kp kp _ _ z2⟩
                | own e' =>
                  obtain ⟨v', z1, z2⟩ := ow3 j e' h1
                  rw [z1] at h2
                  cases h2
                  exact ⟨v', rfl, z2.mono s06⟩
  · have e : i = ds.length := by omega
    subst e
    rw [List.drop_length] at hc
    have hr : rest = [] := by cases hc; rfl
    subst hr
    rw [List.append_nil] at hxs
    subst hxs
    refine wpAny_bind (wpAny_standAt (wpAny_bind (cR (T.done X rfl rfl rfl calm _ [] s σ H _ I (hfp H fr) st (idt.stop _ H gd (Nat.le_refl _))) fun r s1 ⟨hr, I1⟩ => ?_)))
    subst hr
    exact wpAny_pure (fin s1 σ H vs I1 s0 hla ra)
theorem rX {X : Cx} {tg iter elt : Expr} {ifs : List Expr} {sc : Scope} {pos pos' : Pos} {it : aI → R (List PyData)} {b : PyData → aI → Option aI} {t : aI → R Bool} {f : Fe} {N : List Str} {own : Nat} {G G0 : List Str} {fr : List Nat} {nl : Nat}
    (T : Tb X nl G0) (ck : fF sc N own G X.N fr) (hout : ∀ y ∈ sc.names, y.2 = .free → X.env.kindOf y.1 = some .cell ∨ X.env.kindOf y.1 = some .free) (hi : nZ X tg iter it)
    (hb0 : ∀ ρ d ρ1, b d (aA own fr ρ) = some ρ1 → lW (aA own fr ρ) ρ1)
    (hbody : ∀ cl C s H fp, Tb (a8 X N sc cl C s H fp) own G → pX (a8 X N sc cl C s H fp) tg b ∧ tF (a8 X N sc cl C s H fp) ifs t ∧ ah (a8 X N sc cl C s H fp) elt f)
    (hs : ∀ x, foldedSetIterable iter X.env x = pure x) {use : Option (Value → Sem Unit)} {Qc : Value → Shared → Prop} {pins : List (Addr × Obj)} {s : Shared} {σ : St} {H : Hp} (I : aC X pins σ H s) {ρ : aI} {ds xs : List PyData} (sl : Sl H σ ρ) (ei : it ρ = .ok ds)
    (hsz : ds.length ≤ sizeLine) (ec : bV b t f (aA own fr ρ) ds = .ok xs)
    (fin : ∀ (a C : Addr) (H' : Hp) (s' : Shared) (m : Str → Option Value) (vs : List V), aC X pins σ H' s' → lp X pins H' C → s'.heap.Ns C m → az H H' → H a = none → H' a = some (.lst vs) → bg H' xs vs → compPost (model X.prog X.w) X.A X.xe use Qc (.ref a) C (.ok .next) s') :
    wpAny (model X.prog X.w) X.A (comprehension (.ListComp elt [⟨tg, iter, ifs, 0⟩] sc pos) sc X.env pos' (newList []) false (eval iter X.env) use) Qc X.xe s := by
  obtain ⟨cl, hcl, hcl1, hcl2⟩ := tu (scope := sc) (env := X.env) fun x hx hf => I.ok.has _ (hout x hx hf)
  have ck' := ck
  obtain ⟨ck1, ck2, ck3, _, _, _, _, _, _, ofr⟩ := ck'
  have hin : ∀ i ∈ fr, i < ρ.length := fun i hi => by
    have e1 : ρ.length = X.N.length := by rw [← sl.1]; exact I.len
    rw [e1]
    obtain ⟨k, hk⟩ := List.getElem?_of_mem hi
    have q := congrArg (fun l => l[k]?) ofr
    simp only [List.getElem?_map, hk, Option.map_some] at q
    cases z : (N.drop own)[k]? with
    | none => rw [z] at q; cases q
    | some y =>
      rw [z] at q
      have q' : some y = X.N[i]? := Option.some.inj q
      exact (List.getElem?_eq_some_iff.mp q'.symm).1
  refine wpAny_comprehension_free (use := use) rfl hs hcl ck1 ck3 ?_
  refine cR (hi pins s σ H (fun J H1 => az H H1 ∧ ∃ Gd, yB J Gd ds ∧ DF H1 (fun _ => False) Gd) I ⟨ρ, sl, by rw [ei]; exact fun J H1 s1 z => ⟨s1, z⟩⟩) fun xv s1 h1 => cR h1 fun itv s2 h2 => ?_
  obtain ⟨itA, fp, tn, J, H2, e, I2, T2, st2, f2, s02, Gd, idt, sta⟩ := h2
  subst e
  refine wpAny_newObj_type (wpAny_newFunctionEnv ck2 (by intro y hy; simp at hy) (fun h₁ hns₁ hsb₁ => ?_) ck1)
  dsimp only at hns₁ hsb₁ ⊢
  generalize hHp : s2.heap.push { cls := .type "list", dict := none, data := .seq ([] : List Value).toArray } = Hp2 at hns₁ hsb₁ ⊢
  have hC : Hp2.objs.size = s2.heap.objs.size + 1 := by rw [← hHp, Heap.size_push]
  have hDC : s2.heap.objs.size ≠ Hp2.objs.size := by rw [hC]; exact Nat.ne_of_lt (Nat.lt_succ_self _)
  have hCle : s2.heap.objs.size ≤ Hp2.objs.size := by rw [hC]; exact Nat.le_succ _
  have below : ∀ b, b < s2.heap.objs.size → b ≠ Hp2.objs.size := fun b hb => by rw [hC]; exact Nat.ne_of_lt (Nat.lt_succ_of_lt hb)
  have old : ∀ b o, s2.heap.get? b = some o → h₁.get? b = some o := fun b o e => hsb₁.extBut b o (below b (Heap.lt_size e)) (Heap.get?_push_of_some _ (hHp ▸ Heap.get?_push_of_some _ e))
  have hacc : h₁.get? s2.heap.objs.size = some { cls := .type "list", dict := none, data := .seq ([] : List Value).toArray } := hsb₁.extBut _ _ hDC (Heap.get?_push_of_some _ (hHp ▸ Heap.get?_push_size _ rfl))
  have hob : ∀ b ∈ fp, b < s2.heap.objs.size := fun b hb => by
    obtain ⟨o, e, _⟩ := T2.obj _ _ st2 b hb
    exact Heap.lt_size e
  have sl2 : Sl H2 σ ρ := sl.mono s02
  have IC : aC (a8 X N sc cl Hp2.objs.size s2 H2 fp) [] (gO own fr σ) (ci H2 s2.heap.objs.size (.lst [])) { s2 with heap := h₁, toks := s2.toks + ([] : List (Str × Value)).length } :=
    yn I2 ck f2 hob hcl1 hcl2 (fun x hx => (T.vis x hx).1) hout (Nat.le_refl _) hCle hDC old hacc hns₁
  obtain ⟨hg, ht, hf⟩ := hbody cl Hp2.objs.size s2 H2 fp (zb T ck cl Hp2.objs.size s2 H2 fp)
  have ha0 : H2 s2.heap.objs.size = none := I2.hok.fresh (Nat.le_refl _)
  have hfp : ∀ H' : Hp, (∀ b ∈ fp, H' b = none) → ∀ b ∈ fp, lp (a8 X N sc cl Hp2.objs.size s2 H2 fp) [] H' b := fun H' hn b hb =>
    ⟨hn b hb, below b (hob b hb), fun z => by
      rcases List.mem_cons.mp (I2.stkSub b z) with y | y
      · exact (f2 b hb).2.1 y
      · exact (f2 b hb).2.2.1 y, .inl hb, fun x c e => (f2 b hb).2.2.2.2.1 x c (hcl1 x c e), fun p hp => absurd (show p ∈ ([] : List (Addr × Obj)) from hp) (by simp)⟩
  have st3 : tn 0 h₁ := T2.keep _ _ _ st2 fun b _ o e => old b o e
  have slC : Sl H2 (gO own fr σ) (aA own fr ρ) := Af sl2 own fr hin
  have fin' : ∀ s' σ' H' vs, aC (a8 X N sc cl Hp2.objs.size s2 H2 fp) [] σ' H' s' → az H2 H' → H' s2.heap.objs.size = some (.lst vs) → bg H' xs vs →
      compPost (model X.prog X.w) X.A X.xe use Qc (.ref s2.heap.objs.size) Hp2.objs.size (.ok .next) s' := fun s' σ' H' vs J' s2' hv rv => by
    obtain ⟨m, hn, _⟩ := J'.loc
    exact fin _ _ H' s' m vs (I2.call' (s' := s') (ch := fp) J'.os J'.base J'.hok J'.bare (fun b hb => ⟨(f2 b hb).2.2.2.1, (f2 b hb).2.1, (f2 b hb).2.2.2.2.1, (f2 b hb).2.2.2.2.2⟩)) (I2.fpOk hCle J'.free) hn (s02.trans s2') (s02.free ha0) hv rv
  have loop := vz (X := a8 X N sc cl Hp2.objs.size s2 H2 fp) (iter := iter) (scope := sc) (pos := pos) (rest := []) T2 T.calm hfp rfl hg ht hf idt sta hsz ha0 (fun d ρ1 e => hb0 ρ d ρ1 e) fin' IC st3 (fun b hb => by
      show ci H2 s2.heap.objs.size (.lst []) b = none
      rw [ar (Nat.ne_of_lt (hob b hb))]; exact (f2 b hb).1) (bY ha0 _) aX ec (slC.mono (bY ha0 _)) (fun i e h => by
      obtain ⟨o, z1, v, rfl, z2⟩ := slC.at h
      exact ⟨v, z1, z2⟩)
  exact codeAny_compStart_list loop (T2.self _ 0 _ _ _ st3 loop)
theorem ni {X : Cx} {tg iter elt : Expr} {ifs : List Expr} {sc : Scope} {pos : Pos} {it : aI → R (List PyData)} {b : PyData → aI → Option aI} {t : aI → R Bool} {f : Fe} {N : List Str} {own : Nat} {G G0 : List Str} {fr : List Nat} {nl : Nat}
    (T : Tb X nl G0) (ck : fF sc N own G X.N fr) (hout : ∀ y ∈ sc.names, y.2 = .free → X.env.kindOf y.1 = some .cell ∨ X.env.kindOf y.1 = some .free) (hi : nZ X tg iter it)
    (hb0 : ∀ ρ d ρ1, b d (aA own fr ρ) = some ρ1 → lW (aA own fr ρ) ρ1)
    (hbody : ∀ cl C s H fp, Tb (a8 X N sc cl C s H fp) own G → pX (a8 X N sc cl C s H fp) tg b ∧ tF (a8 X N sc cl C s H fp) ifs t ∧ ah (a8 X N sc cl C s H fp) elt f)
    (hs : ∀ x, foldedSetIterable iter X.env x = pure x := by intro _; rfl) : fO X (.ListComp elt [⟨tg, iter, ifs, 0⟩] sc pos) (bR it own fr b t f) := by
  intro pins s σ H Q I h
  obtain ⟨ρ, sl, q⟩ := h
  unfold bR at q
  rw [eval_ListComp]
  cases ei : it ρ with
  | ex c => rw [ei] at q; exact q.elim
  | no => rw [ei] at q; exact q.elim
  | ok ds =>
    rw [ei] at q
    simp only [km, R.ok_bind] at q
    split at q
    · rename_i hsz
      cases ec : bV b t f (aA own fr ρ) ds with
      | ex c => rw [ec] at q; exact q.elim
      | no => rw [ec] at q; exact q.elim
      | ok xs =>
        rw [ec] at q
        refine rX (use := none) T ck hout hi hb0 hbody hs I sl ei hsz ec fun a C H' s' m vs I' fC hn s2' ha hv rv => ?_
        obtain ⟨f0, f1, f2, f3, f4, f5⟩ := fC
        refine ⟨m, hn, fun h' sb => ⟨.ref a, H', I'.turned (t' := s'.toks) (fun b o hb e => sb.extBut b o hb e) f0 f1 f3 f4 f5, rfl, ?_⟩⟩
        refine q _ H' s2' ⟨?_, _, rfl, ha⟩
        simp only [iU]
        exact ⟨_, vs, rfl, hv, rv⟩
    · exact q.elim
theorem Z.ni {X : Cx} {tg iter elt : Expr} {ifs : List Expr} {sc : Scope} {pos : Pos} {it : aI → R (List PyData)} {b : PyData → aI → Option aI} {t : aI → R Bool} {f : Fe} {N : List Str} {own : Nat} {G G0 : List Str} {fr : List Nat} {nl : Nat} (T : Tb X nl G0) (ck : fF sc N own G X.N fr) (hout : ∀ y ∈ sc.names, y.2 = .free → X.env.kindOf y.1 = some .cell ∨ X.env.kindOf y.1 = some .free) (hi : Z.nZ X tg iter it) (hb0 : ∀ ρ d ρ1, b d (aA own fr ρ) = some ρ1 → lW (aA own fr ρ) ρ1) (hbody : ∀ cl C s H fp, Tb (a8 X N sc cl C s H fp) own G → Z.pX (a8 X N sc cl C s H fp) tg b ∧ Z.tF (a8 X N sc cl C s H fp) ifs t ∧ Z.ah (a8 X N sc cl C s H fp) elt f) (hs : ∀ x, foldedSetIterable iter X.env x = pure x := by intro _; rfl) : Z.fO X (.ListComp elt [⟨tg, iter, ifs, 0⟩] sc pos) (bR it own fr b t f) :=
  ⟨D2.ni T ck hout hi.un hb0 (fun cl C s H fp T => let ⟨q1, q2, q3⟩ := hbody cl C s H fp T; ⟨q1.un, q2.un, q3.un⟩) hs⟩
theorem Ah {X : Cx} {tg iter elt : Expr} {ifs : List Expr} {sc : Scope} {pos py spos : Pos} {it : aI → R (List PyData)} {b : PyData → aI → Option aI} {t : aI → R Bool} {f : Fe} {N : List Str} {own : Nat} {G G0 : List Str} {fr : List Nat} {nl : Nat} {y : Str} {i : Nat}
    (T : Tb X nl G0) (ck : fF sc N own G X.N fr) (hout : ∀ y ∈ sc.names, y.2 = .free → X.env.kindOf y.1 = some .cell ∨ X.env.kindOf y.1 = some .free) (hi : nZ X tg iter it)
    (hb0 : ∀ ρ d ρ1, b d (aA own fr ρ) = some ρ1 → lW (aA own fr ρ) ρ1)
    (hbody : ∀ cl C s H fp, Tb (a8 X N sc cl C s H fp) own G → pX (a8 X N sc cl C s H fp) tg b ∧ tF (a8 X N sc cl C s H fp) ifs t ∧ ah (a8 X N sc cl C s H fp) elt f)
    (hN : (X.N.take nl)[i]? = some y) (hsw : swapsWith (.ListComp elt [⟨tg, iter, ifs, 0⟩] sc pos) (some (.Name y py)) spos.line X.env = pure true)
    (hs : ∀ x, foldedSetIterable iter X.env x = pure x := by intro _; rfl) : eU X (.Assign [.Name y py] (.ListComp elt [⟨tg, iter, ifs, 0⟩] sc pos) spos) (hW i (bR it own fr b t f)) := fun Fm => by
  intro pins s σ H D I h
  obtain ⟨ρ, sl, q⟩ := h
  unfold hW bR at q
  obtain ⟨hNi, hl, hf⟩ := T.nm hN
  cases ei : it ρ with
  | ex c => rw [ei] at q; exact q.elim
  | no => rw [ei] at q; exact q.elim
  | ok ds =>
    rw [ei] at q
    simp only [km, R.ok_bind] at q
    by_cases hsz : ds.length ≤ sizeLine
    · rw [if_pos hsz] at q
      cases ec : bV b t f (aA own fr ρ) ds with
      | ex c => rw [ec] at q; exact q.elim
      | no => rw [ec] at q; exact q.elim
      | ok xs =>
        rw [ec] at q
        rw [exec_Assign_Name_used _ _ _ _ hsw]
        refine wpAny_bind (wpAny_standAt (wpAny_bind ?_))
        show wpAny _ X.A (do let _ ← comprehension (.ListComp elt [⟨tg, iter, ifs, 0⟩] sc pos) sc X.env _ (newList []) false (eval iter X.env) (some (assign (.Name y py) X.env))) _ _ s
        refine wpAny_bind (cR (rX (use := some (assign (.Name y py) X.env)) (Qc := fun _ s' => SP X pins D .next s') T ck hout hi hb0 hbody hs I sl.sl ei hsz ec fun a C H' s' m vs I' fC hn s2' ha hv rv => ?_) fun _ s' hq => wpAny_pure (wpAny_pure hq))
        obtain ⟨f0, f1, f2, f3, f4, f5⟩ := fC
        show wpAny _ X.A (assign (.Name y py) X.env (.ref a)) _ _ _
        refine wpAny_assign_Name (oH I' T.nd hNi hl (v := .ref a) rfl (fun s'' I'' k => ?_) hf)
        have sls : ic Fm H' (σ.set i (some (.ref a))) (ρ.set i (.own (.list xs))) := ic.setOwn sl (sl.mono s2') s2' i ⟨by simp only [iU]; exact ⟨a, vs, rfl, hv, rv⟩, a, rfl, ha⟩
        refine ⟨m, ?_, fun h' sb => ⟨_, H', I''.turned (t' := s''.toks) (fun b o hb e => sb.extBut b o hb e) f0 f1 f3 f4 f5, q _ H' sls⟩⟩
        obtain ⟨a', sb', ha'⟩ := k
        refine hn.sameBut sb' ?_
        rcases ha' with rfl | ha'
        · exact f1
        · exact Ne.symm (f4 y a' ha')
    · rw [if_neg hsz] at q; exact q.elim
theorem ic.freeze {Fm H : Hp} {σ : St} {ρ : aI} {i : Nat} {d : PyData} {a : Addr} {u : HO} {o : Obj} (h : ic Fm H σ ρ) (h1 : ρ[i]? = some (.own d)) (h2 : σ[i]? = some (some (.ref a))) (hu : H a = some u) (hm : (∃ xs, u = .lst xs) ∨ ∃ ks, u = .dK ks)
    (hr : Rp (ci H a (.frz o u)) d (.ref a)) : ic Fm (ci H a (.frz o u)) σ (ρ.set i (.val d)) := by
  have hFa := h.own i d a h1 h2
  have kp : Kp H (ci H a (.frz o u)) := gq hu hm
  refine ⟨fun b x e => ?_, ⟨by rw [List.length_set]; exact h.sl.1, fun j c w' e1 e2 => ?_⟩, fun j e b e1 e2 => ?_, fun j k e f b e1 e2 e3 e4 => ?_⟩
  · rw [ar (aS e hFa)]; exact h.fm b x e
  · rw [List.getElem?_set] at e1
    by_cases hij : i = j
    · subst hij
      rw [if_pos rfl] at e1
      split at e1
      · cases e1
        rw [h2] at e2
        cases e2
        exact ⟨_, rfl, hr⟩
      · cases e1
    · rw [if_neg hij] at e1
      have q := h.sl.2 j c w' e1 e2
      cases c with
      | exc p => exact q
      | non => exact True.intro
      | val d' => obtain ⟨v, z1, z2⟩ := q; exact ⟨v, z1, Rp.kp kp _ _ z2⟩
      | own d' =>
        obtain ⟨v, z1, z2⟩ := q
        subst z1
        obtain ⟨b, ob, rfl, hb⟩ := pb z2
        have nb : b ≠ a := fun z => hij (by subst z; exact h.apart i j d d' b h1 e1 h2 e2)
        refine ⟨_, rfl, ?_⟩
        cases d' <;> simp only [iU] at z2 ⊢
        · obtain ⟨b', vs, e, hb', r⟩ := z2
          cases e
          exact ⟨b, vs, rfl, by rw [ar nb]; exact hb', bg.kp kp _ _ r⟩
        · obtain ⟨b', vs, e, hb', r⟩ := z2
          cases e
          exact ⟨b, vs, rfl, by rw [ar nb]; exact hb', dJ.kp kp _ _ r⟩
  · obtain ⟨ne, e1⟩ := bP (fun e z => by cases z) e1
    exact h.own j e b e1 e2
  · obtain ⟨ne, e1⟩ := bP (fun e z => by cases z) e1
    obtain ⟨ne', e2⟩ := bP (fun e z => by cases z) e2
    exact h.apart j k e f b e1 e2 e3 e4
theorem xh {X : Cx} {pins : List (Addr × Obj)} {s : Shared} {Fm H : Hp} {σ : St} {ρ : aI} {i : Nat} {d : PyData} (I : aC X pins σ H s) (h : ic Fm H σ ρ) (h1 : ρ[i]? = some (.own d)) :
    ∃ H' v, aC X pins σ H' s ∧ ic Fm H' σ (ρ.set i (.val d)) ∧ σ[i]? = some (some v) ∧ Rp H' d v := by
  obtain ⟨w', h2, v, rfl, q⟩ := h.sl.at h1
  cases d <;> simp only [iU] at q
  · rename_i ds
    obtain ⟨a, vs, rfl, ha, r⟩ := q
    obtain ⟨o, J⟩ := gp I ha (.inl ⟨_, rfl⟩)
    have hr : Rp (ci H a (.frz o (.lst vs))) (.list ds) (.ref a) := by
      simp only [Rp]
      exact ⟨a, o, vs, rfl, aX, bg.kp (gq ha (.inl ⟨_, rfl⟩)) _ _ r⟩
    exact ⟨_, _, J, h.freeze h1 h2 ha (.inl ⟨_, rfl⟩) hr, h2, hr⟩
  · rename_i ds
    obtain ⟨a, vs, rfl, ha, r⟩ := q
    obtain ⟨o, J⟩ := gp I ha (.inr ⟨_, rfl⟩)
    have hr : Rp (ci H a (.frz o (.dK vs))) (.dict ds) (.ref a) := by
      simp only [Rp]
      exact .inl ⟨a, o, vs, rfl, aX, dJ.kp (gq ha (.inr ⟨_, rfl⟩)) _ _ r⟩
    exact ⟨_, _, J, h.freeze h1 h2 ha (.inr ⟨_, rfl⟩) hr, h2, hr⟩
theorem eU.fz {X : Cx} {st : Stmt} {i : Nat} {f : Fe} (h : eU X st (hW i f)) (hi : i < X.N.length) : eU X st (bJ i f) := fun Fm => by
  intro pins s σ H D I ⟨ρ, sl, q⟩
  unfold bJ at q
  cases ef : f ρ with
  | ex c => rw [ef] at q; exact h Fm pins s σ H D I ⟨ρ, sl, by unfold hW; rw [ef]; exact q⟩
  | no => rw [ef] at q; exact q.elim
  | ok d =>
    rw [ef] at q
    have hr : AG X Fm (hW i f) { nx := fun σ' H' => ic Fm H' σ' (ρ.set i (.own d)), rt := fun _ _ => False } σ H := ⟨ρ, sl, by unfold hW; rw [ef]; exact fun σ' H' s' => s'⟩
    refine cR (h Fm pins s σ H _ I hr) fun fl s' z => ?_
    cases fl with
    | next =>
      obtain ⟨σ', H', I', sls⟩ := z
      have hi' : i < ρ.length := by rw [← sl.sl.1, I.len]; exact hi
      obtain ⟨H2, v, I2, sl2, _, _⟩ := xh I' sls (i := i) (d := d) (by rw [List.getElem?_set, if_pos rfl, if_pos hi'])
      rw [List.set_set] at sl2
      exact ⟨σ', H2, I2, q σ' H2 sl2⟩
    | brk => obtain ⟨_, _, _, z⟩ := z; exact z.elim
    | cont => obtain ⟨_, _, _, z⟩ := z; exact z.elim
    | ret u => obtain ⟨_, _, _, _, _, z⟩ := z; exact z.elim
theorem Z.eU.fz {X : Cx} {st : Stmt} {i : Nat} {f : Fe} (h : Z.eU X st (hW i f)) (hi : i < X.N.length) : Z.eU X st (bJ i f) :=
  ⟨D2.eU.fz h.un hi⟩
def uW (i : Nat) : Fs := fun ρ => match ρ[i]? with
  | some (.own d) => .ok (.rt d)
  | some (.val d) => .ok (.rt d)
  | _ => .no
theorem p8 {X : Cx} {nl : Nat} {G : List Str} {x : Str} {p pos : Pos} (T : Tb X nl G) (i : Nat) (hN : X.N[i]? = some x) : eU X (.Return (some (.Name x p)) pos) (uW i) := fun Fm => by
  intro pins s σ H D I ⟨ρ, sl, q⟩
  have hm := T.vis x (List.mem_of_getElem? hN)
  unfold uW at q
  split at q
  · rename_i d e
    obtain ⟨H2, v, I2, sl2, h2, r⟩ := xh I sl e
    exact sv (im hN hm.1 hm.2.1 hm.2.2) pins s σ H2 D I2 ⟨v, h2, q v H2 sl2.fm r⟩
  · rename_i d e
    obtain ⟨o, h1, v, rfl, h2⟩ := sl.sl.at e
    exact sv (im hN hm.1 hm.2.1 hm.2.2) pins s σ H D I ⟨v, h1, q v H sl.fm h2⟩
  · exact q.elim
theorem Z.p8 {X : Cx} {nl : Nat} {G : List Str} {x : Str} {p pos : Pos} (T : Tb X nl G) (i : Nat) (hN : X.N[i]? = some x) : Z.eU X (.Return (some (.Name x p)) pos) (uW i) :=
  ⟨D2.p8 T i hN⟩
theorem cc {X : Cx} {tg iter elt : Expr} {ifs : List Expr} {sc : Scope} {pos : Pos} {it : aI → R (List PyData)} {b : PyData → aI → Option aI} {t : aI → R Bool} {f : Fe} {N : List Str} {own : Nat} {G G0 : List Str} {fr : List Nat} {nl : Nat}
    (T : Tb X nl G0) {oN : List Str} {on : List (Str × NameKind)} (hoN : X.N = oN) (hon : X.env.scope.names = on)
    (ck : fF sc N own G oN fr ∧ ∀ y ∈ sc.names, y.2 = .free → on.lookup y.1 = some .cell ∨ on.lookup y.1 = some .free) (hi : nZ X tg iter it)
    (hb0 : ∀ ρ d ρ1, b d (aA own fr ρ) = some ρ1 → lW (aA own fr ρ) ρ1)
    (hbody : ∀ cl C s H fp, Tb (a8 X N sc cl C s H fp) own G → pX (a8 X N sc cl C s H fp) tg b ∧ tF (a8 X N sc cl C s H fp) ifs t ∧ ah (a8 X N sc cl C s H fp) elt f)
    (hs : ∀ x, foldedSetIterable iter X.env x = pure x := by intro _; rfl) : fO X (.ListComp elt [⟨tg, iter, ifs, 0⟩] sc pos) (bR it own fr b t f) :=
  ni T (by rw [hoN]; exact ck.1) (fun y hy hf => by unfold Env.kindOf; rw [hon]; exact ck.2 y hy hf) hi hb0 hbody hs
theorem Z.cc {X : Cx} {tg iter elt : Expr} {ifs : List Expr} {sc : Scope} {pos : Pos} {it : aI → R (List PyData)} {b : PyData → aI → Option aI} {t : aI → R Bool} {f : Fe} {N : List Str} {own : Nat} {G G0 : List Str} {fr : List Nat} {nl : Nat} (T : Tb X nl G0) {oN : List Str} {on : List (Str × NameKind)} (hoN : X.N = oN) (hon : X.env.scope.names = on) (ck : fF sc N own G oN fr ∧ ∀ y ∈ sc.names, y.2 = .free → on.lookup y.1 = some .cell ∨ on.lookup y.1 = some .free) (hi : Z.nZ X tg iter it) (hb0 : ∀ ρ d ρ1, b d (aA own fr ρ) = some ρ1 → lW (aA own fr ρ) ρ1) (hbody : ∀ cl C s H fp, Tb (a8 X N sc cl C s H fp) own G → Z.pX (a8 X N sc cl C s H fp) tg b ∧ Z.tF (a8 X N sc cl C s H fp) ifs t ∧ Z.ah (a8 X N sc cl C s H fp) elt f) (hs : ∀ x, foldedSetIterable iter X.env x = pure x := by intro _; rfl) : Z.fO X (.ListComp elt [⟨tg, iter, ifs, 0⟩] sc pos) (bR it own fr b t f) :=
  ⟨D2.cc T hoN hon ck hi.un hb0 (fun cl C s H fp T => let ⟨q1, q2, q3⟩ := hbody cl C s H fp T; ⟨q1.un, q2.un, q3.un⟩) hs⟩
theorem ft {X : Cx} {tg iter elt : Expr} {ifs : List Expr} {sc : Scope} {pos py spos : Pos} {it : aI → R (List PyData)} {b : PyData → aI → Option aI} {t : aI → R Bool} {f : Fe} {N : List Str} {own : Nat} {G G0 : List Str} {fr : List Nat} {nl : Nat} {y : Str} (i : Nat)
    (hN : (X.N.take nl)[i]? = some y) (T : Tb X nl G0) {oN : List Str} {on : List (Str × NameKind)} (hoN : X.N = oN) (hon : X.env.scope.names = on)
    (ck : fF sc N own G oN fr ∧ ∀ y ∈ sc.names, y.2 = .free → on.lookup y.1 = some .cell ∨ on.lookup y.1 = some .free) (hi : nZ X tg iter it)
    (hb0 : ∀ ρ d ρ1, b d (aA own fr ρ) = some ρ1 → lW (aA own fr ρ) ρ1)
    (hbody : ∀ cl C s H fp, Tb (a8 X N sc cl C s H fp) own G → pX (a8 X N sc cl C s H fp) tg b ∧ tF (a8 X N sc cl C s H fp) ifs t ∧ ah (a8 X N sc cl C s H fp) elt f)
    (hsw : swapsWith (.ListComp elt [⟨tg, iter, ifs, 0⟩] sc pos) (some (.Name y py)) spos.line X.env = pure true := by rfl)
    (hs : ∀ x, foldedSetIterable iter X.env x = pure x := by intro _; rfl) : eU X (.Assign [.Name y py] (.ListComp elt [⟨tg, iter, ifs, 0⟩] sc pos) spos) (hW i (bR it own fr b t f)) :=
  Ah T (by rw [hoN]; exact ck.1) (fun y hy hf => by unfold Env.kindOf; rw [hon]; exact ck.2 y hy hf) hi hb0 hbody hN hsw hs
theorem Z.ft {X : Cx} {tg iter elt : Expr} {ifs : List Expr} {sc : Scope} {pos py spos : Pos} {it : aI → R (List PyData)} {b : PyData → aI → Option aI} {t : aI → R Bool} {f : Fe} {N : List Str} {own : Nat} {G G0 : List Str} {fr : List Nat} {nl : Nat} {y : Str} (i : Nat) (hN : (X.N.take nl)[i]? = some y) (T : Tb X nl G0) {oN : List Str} {on : List (Str × NameKind)} (hoN : X.N = oN) (hon : X.env.scope.names = on) (ck : fF sc N own G oN fr ∧ ∀ y ∈ sc.names, y.2 = .free → on.lookup y.1 = some .cell ∨ on.lookup y.1 = some .free) (hi : Z.nZ X tg iter it) (hb0 : ∀ ρ d ρ1, b d (aA own fr ρ) = some ρ1 → lW (aA own fr ρ) ρ1) (hbody : ∀ cl C s H fp, Tb (a8 X N sc cl C s H fp) own G → Z.pX (a8 X N sc cl C s H fp) tg b ∧ Z.tF (a8 X N sc cl C s H fp) ifs t ∧ Z.ah (a8 X N sc cl C s H fp) elt f) (hsw : swapsWith (.ListComp elt [⟨tg, iter, ifs, 0⟩] sc pos) (some (.Name y py)) spos.line X.env = pure true := by rfl) (hs : ∀ x, foldedSetIterable iter X.env x = pure x := by intro _; rfl) : Z.eU X (.Assign [.Name y py] (.ListComp elt [⟨tg, iter, ifs, 0⟩] sc pos) spos) (hW i (bR it own fr b t f)) :=
  ⟨D2.ft i hN T hoN hon ck hi.un hb0 (fun cl C s H fp T => let ⟨q1, q2, q3⟩ := hbody cl C s H fp T; ⟨q1.un, q2.un, q3.un⟩) hsw hs⟩
theorem bu {own : Nat} {fr : List Nat} {i : Nat} (h : i < own) : ∀ ρ d ρ1, aP i d (aA own fr ρ) = some ρ1 → lW (aA own fr ρ) ρ1 := fun ρ d ρ1 e => by
  have e' : ρ1 = (aA own fr ρ).set i (.val d) := (Option.some.inj e).symm
  subst e'
  refine ⟨by rw [List.length_set], fun j c hj => ?_⟩
  by_cases hij : i = j
  · subst hij
    left
    unfold aA at hj
    rw [List.getElem?_append_left (by simpa using h), List.getElem?_replicate, if_pos h] at hj
    exact (Option.some.inj hj).symm
  · right
    rw [List.getElem?_set, if_neg hij]; exact hj
def uB (sc : Scope) (N G : List Str) : Prop :=
  N.Nodup ∧ (∀ x ∈ N, (sc.names.lookup x = some .local ∨ sc.names.lookup x = some .cell) ∧ (x == ("__debug__" : Str)) = false ∧ (x == ("__classdict__" : Str)) = false) ∧ ∀ x ∈ G, sc.names.lookup x = some .globalImplicit ∧ (x == ("__debug__" : Str)) = false ∧ x ≠ ("__name__" : Str)
instance {sc : Scope} {N G : List Str} : Decidable (uB sc N G) := by unfold uB; infer_instance
theorem A6 {P : Program} {w : World} {K : PySem.W.Frag} {mg : Str → Option Value} {base : Heap} {N : List Str} {qual : Str} {sc : Scope} {f : Addr} {cdv : Value} {A : Around} {outer : List Env} {s : Shared} {H : Hp} {E : XK} {G : List Str} {k : Nat}
    (hr : dD k (A.deeper (envOfC qual sc s.heap.objs.size f cdv))) (ck : uB sc N G) : Tb (fw (cK P w mg) P w K mg base N qual sc f cdv A outer s H E) N.length G := by
  obtain ⟨nd, l, g⟩ := ck
  refine ⟨hr.units, rfl, nd, fun x hx => ⟨?_, (l x hx).2⟩, fun x hx => ⟨?_, .inl rfl⟩, fun x hx => ?_⟩
  · rcases (l x hx).1 with q | q
    · exact .inl q
    · exact .inr (.inl q)
  · exact (l x (List.mem_of_mem_take hx)).1
  · exact g x hx
section
variable {X : Cx} {a b c : Expr} {fa fb fc : Fe} {pos : Pos}
def uv (X : Cx) (P : Hp → Hp → PyData → V → Prop) (r : V → Hp → VK → Prop) (g : PyData → R PyData) : Prop := ∀ H x dx Q, hR H dx x → tz X P (g dx) H Q → r x H Q
theorem DL {P : Hp → Hp → PyData → V → Prop} {r : V → Hp → VK → Prop} {g : PyData → R PyData} (hP : Dn P) (hg : uv X P r g) (σ : St) (H : Hp) (Q : VK) (h : iW X P (e1 g fa) σ H Q) : Es r (iW X tQ fa) σ H Q :=
  (eG (P := tQ) (k := fun _ x => g x) (eV (X := X) hP Q) h).post fun v H1 ⟨_, d1, _, _, p1, q1⟩ => hg H1 v d1 Q p1 q1
def sd : PyData → R PyData
  | .int i => .ok (.int (-i))
  | _ => .no
theorem Bg : uv X gB (rU fun i => .int (-i)) sd := fun H x dx Q hx q => by
  unfold sd at q
  split at q
  · exact ⟨_, bz hx, q _ H (az.refl _) dk⟩
  · exact q.elim
theorem tU (ha : bD X a fa) : ah X (.UnaryOp .USub a pos) (e1 sd fa) := PE.imp (Dh Bx ha) (DL gi Bg)
theorem Z.tU (ha : Z.bD X a fa) : Z.ah X (.UnaryOp .USub a pos) (e1 sd fa) :=
  ⟨D2.tU ha.un⟩
def nW (g g' : PyData → PyData → R PyData) (fa fb fc : Fe) : Fe := fun ρ => fa ρ >>= fun x => fb ρ >>= fun y => g x y >>= fun d => u6 d >>= fun k => if k = true then fc ρ >>= fun z => g' y z else .ok (.bool false)
theorem xq {r r' : R2} {g g' : PyData → PyData → R PyData} (hg : bQ X gB r g) (hg' : bQ X gB r' g') (σ : St) (H : Hp) (Q : VK) (h : iW X gB (nW g g' fa fb fc) σ H Q) :
    yk r r' (iW X tQ fa) (iW X tQ fb) (iW X tQ fc) σ H Q :=
  (eG (P := tQ) (k := fun ρ x => fb ρ >>= fun y => g x y >>= fun d => u6 d >>= fun k => if k = true then fc ρ >>= fun z => g' y z else .ok (.bool false)) (eV (X := X) gi Q) h).post fun v H1 ⟨ρ1, d1, sl1, _, p1, q1⟩ =>
    (eG (P := tQ) (f := fb) (k := fun ρ y => g d1 y >>= fun d => u6 d >>= fun k => if k = true then fc ρ >>= fun z => g' y z else .ok (.bool false)) (eV (X := X) gi Q) ⟨ρ1, sl1, q1⟩).post fun u H2 ⟨ρ2, d2, sl2, s2, p2, q2⟩ => by
      refine hg H2 v u d1 d2 _ (hR.mono p1 s2) p2 ?_
      cases e : g d1 d2 with
      | ex c => rw [e] at q2; exact q2
      | no => rw [e] at q2; exact q2
      | ok d =>
        rw [e] at q2
        intro w' H3 s3 p3
        have q3 : tz X gB (u6 d >>= fun k => if k = true then fc ρ2 >>= fun z => g' d2 z else .ok (.bool false)) H2 Q := q2
        cases d with
        | bool k =>
          have e3 : w' = .bl k := by simpa only [Rp] using p3
          refine ⟨k, e3, ?_⟩
          cases k with
          | false => exact q3 _ H3 s3 eF
          | true =>
            have q4 : tz X gB (fc ρ2 >>= fun z => g' d2 z) H2 Q := q3
            exact (eG (P := tQ) (f := fc) (k := fun _ z => g' d2 z) (eV (X := X) gi Q) ⟨ρ2, sl2.mono s3, (eV (X := X) gi Q).mono _ _ _ q4 s3⟩).post fun z H4 ⟨_, d4, _, s4, p4, q5⟩ => hg' H4 u z d2 d4 Q (hR.mono p2 (s3.trans s4)) p4 q5
        | none => exact q3.elim
        | int i => exact q3.elim
        | str i => exact q3.elim
        | list i => exact q3.elim
        | tuple i => exact q3.elim
        | dict i => exact q3.elim
theorem nF {op op' : CmpOp} {r r' : R2} {g g' : PyData → PyData → R PyData} (ho : iS X (compareOp op) r) (hg : bQ X gB r g) (ho' : iS X (compareOp op') r') (hg' : bQ X gB r' g') (ha : bD X a fa) (hb : bD X b fb) (hc : bD X c fc)
    (hm : lastMarks [op, op'] [b, c] = false := by with_unfolding_all rfl) : ah X (.Compare a [op, op'] [b, c] pos) (nW g g' fa fb fc) := PE.imp (wF ho ho' ha hb hc hm) (xq hg hg')
theorem Z.nF {op op' : CmpOp} {r r' : R2} {g g' : PyData → PyData → R PyData} (ho : iS X (compareOp op) r) (hg : bQ X gB r g) (ho' : iS X (compareOp op') r') (hg' : bQ X gB r' g') (ha : Z.bD X a fa) (hb : Z.bD X b fb) (hc : Z.bD X c fc) (hm : lastMarks [op, op'] [b, c] = false := by with_unfolding_all rfl) : Z.ah X (.Compare a [op, op'] [b, c] pos) (nW g g' fa fb fc) :=
  ⟨D2.nF ho hg ho' hg' ha.un hb.un hc.un hm⟩
variable {es : List Expr} {fs : aI → R (List PyData)}
def gt (fs : aI → R (List PyData)) : Fe := fun ρ => fs ρ >>= fun ds => if ds.length ≤ sizeLine then .ok (.tuple ds) else .no
def gr (fs : aI → R (List PyData)) : Fe := fun ρ => fs ρ >>= fun ds => if ds.length ≤ sizeLine then .ok (.list ds) else .no
theorem gZ {x1} (h : me X es fs) : ah X (.Tuple es x1 pos) (gt fs) :=
  PE.imp (Bk h) fun σ H Q q => (mQ (I := Rp) (f := fs) (k := fun _ ds => if ds.length ≤ sizeLine then .ok (.tuple ds) else .no) (eV (X := X) gi Q) q).post fun vs H1 ⟨_, ds, _, _, p, q1⟩ => by
    have p := lw.mp p
    split at q1
    · rename_i hz
      exact ⟨by rw [p.length]; exact hz, fun a ha => q1 _ _ (bY ha _) (dc ha p)⟩
    · exact q1.elim
theorem Z.gZ {x1} (h : Z.me X es fs) : Z.ah X (.Tuple es x1 pos) (gt fs) :=
  ⟨D2.gZ h.un⟩
theorem eP (h : me X es fs) : fO X (.List es pos) (gr fs) :=
  PE.imp (Bw h) fun σ H Q q => (mQ (I := Rp) (f := fs) (k := fun _ ds => if ds.length ≤ sizeLine then .ok (.list ds) else .no) (eV (X := X) zW Q) q).post fun vs H1 ⟨_, ds, _, _, p, q1⟩ => by
    have p := lw.mp p
    split at q1
    · rename_i hz
      exact ⟨by rw [p.length]; exact hz, fun a ha => q1 _ _ (bY ha _) (dq ha p)⟩
    · exact q1.elim
theorem Z.eP (h : Z.me X es fs) : Z.fO X (.List es pos) (gr fs) :=
  ⟨D2.eP h.un⟩
theorem lC : fO X (.Dict [] [] pos) (eC (.dict [])) :=
  PE.imp yq fun σ H Q ⟨ρ, sl, q⟩ p hp => q _ _ (bY hp _) ⟨by simp only [iU]; exact ⟨p, [], rfl, aX, by simp only [dJ]⟩, p, rfl, hp⟩
theorem Z.lC  : Z.fO X (.Dict [] [] pos) (eC (.dict [])) :=
  ⟨D2.lC⟩
def bU : PyData → PyData → R PyData
  | .list ds, .int i => match atI ds i with
    | some d => .ok d
    | none => .no
  | .tuple ds, .int i => match atI ds i with
    | some d => .ok d
    | none => .no
  | .str z, .int i => if z.length ≤ sizeLine then match atI z.cps.toList i with
    | some c => .ok (.str ⟨#[c]⟩)
    | none => .no else .no
  | .dict kvs, k => if oK kvs = true then .no else match ia k with
    | some _ => match lJ kvs k with
      | some d => .ok d
      | none => .no
    | none => .no
  | _, _ => .no
theorem bg.atI {H : Hp} {ds : List PyData} {vs : List V} {i : Int} {d : PyData} (r : bg H ds vs) (e : L2.atI ds i = some d) : ∃ v, L2.atI vs i = some v ∧ Rp H d v := by
  unfold L2.atI at e ⊢
  rw [r.length]
  cases h : uJ ds.length i with
  | none => rw [h] at e; cases e
  | some j =>
    rw [h] at e
    obtain ⟨v, e1, p⟩ := r.get (show ds[j]? = some d from e)
    exact ⟨v, e1, p⟩
def Ck : R2 := fun x y H Q => ∃ a v, x = .ref a ∧ nD H a y (some v) ∧ Q v H
theorem zI (hu : X.A.units + 1 < cLine) : zS X Ck := by
  intro value slice pins s σ H x y v u Q I rx ry h hs
  obtain ⟨a, z, rfl, g, q⟩ := h
  cases rx
  exact tail_any (rB I g) PySem.F.slot_dict_getitem.lookup (vk hu I g ry fun w' s3 I3 rw' => ⟨z, H, I3, rw', q⟩) hs
theorem CY : bQ X gB (fun x y H Q => CA X.K x y H Q ∨ Cu X.K x y H Q ∨ Dj x y H Q ∨ Ck x y H Q) bU := fun H x y dx dy Q hx hy q => by
  unfold bU at q
  split at q
  · rename_i ds i
    split at q
    · rename_i d e
      obtain ⟨a, vs, rfl, hq, r⟩ := gf (K := X.K) hx
      obtain ⟨v, e1, p⟩ := r.atI e
      exact .inl ⟨a, vs, i, v, rfl, bz hy, hq, e1, q v H (az.refl _) p⟩
    · exact q.elim
  · rename_i ds i
    split at q
    · rename_i d e
      obtain ⟨a, vs, rfl, hq, r⟩ := di hx
      obtain ⟨v, e1, p⟩ := r.atI e
      exact .inr (.inl ⟨a, vs, i, v, rfl, bz hy, dS.of hq, e1, q v H (az.refl _) p⟩)
    · exact q.elim
  · rename_i z i
    split at q
    · rename_i hz
      split at q
      · rename_i c e
        exact .inr (.inr (.inl ⟨z, i, c, iE hx, bz hy, hz, e, q _ H (az.refl _) xb⟩))
      · exact q.elim
    · exact q.elim
  · rename_i kvs k
    split at q
    · exact q.elim
    rename_i hi
    split at q
    · rename_i κ e
      split at q
      · rename_i d e1
        obtain ⟨a, ks, rfl, h, r⟩ := kN (Bool.not_eq_true _ ▸ hi) hx
        obtain ⟨o, g, _, e2⟩ := vh (κ := κ) h r
        rw [rc e] at e1
        obtain ⟨v, rfl, p⟩ := e2 d e1
        rw [← uA hy e] at g
        exact .inr (.inr (.inr ⟨a, v, rfl, g, q v H (az.refl _) p⟩))
      · exact q.elim
    · exact q.elim
  · exact q.elim
theorem br (hu : X.A.units + 64 < cLine) (ha : bD X a fa) (hb : bD X b fb) (hs : pG b) : ah X (.Subscript a b pos) (e2 bU fa fb) := PE.imp (Cn (zi.or (BO.or (BX.or (zI (by omega))))) ha hb hs) (two gi CY)
theorem Z.br (hu : X.A.units + 64 < cLine) (ha : Z.bD X a fa) (hb : Z.bD X b fb) (hs : pG b) : Z.ah X (.Subscript a b pos) (e2 bU fa fb) :=
  ⟨D2.br hu ha.un hb.un hs⟩
variable {nl : Nat} {G : List Str} {x : Str} {p : Pos}
def qd (X : Cx) (P : Hp → Hp → PyData → V → Prop) (r : List V → Hp → VK → Prop) (g : List PyData → R PyData) : Prop := ∀ H xs ds Q, RA hR H ds xs → tz X P (g ds) H Q → r xs H Q
theorem xw {P : Hp → Hp → PyData → V → Prop} {r : List V → Hp → VK → Prop} {g : List PyData → R PyData} (hP : Dn P) (hg : qd X P r g) (σ : St) (H : Hp) (Q : VK) (h : iW X P (fun ρ => fs ρ >>= g) σ H Q) : Eg r (xM X hR fs) σ H Q :=
  (mQ (I := hR) (k := fun _ => g) (eV (X := X) hP Q) h).post fun vs H1 ⟨_, ds, _, _, p1, q1⟩ => hg H1 vs ds Q p1 q1
def one (g : PyData → R PyData) : List PyData → R PyData
  | [d] => g d
  | _ => .no
def BG (g : PyData → PyData → R PyData) : List PyData → R PyData
  | [d, e] => g d e
  | _ => .no
theorem ym (g : PyData → R PyData) (fa : Fe) : (fun ρ => ag fa ay ρ >>= one g) = e1 g fa := by
  funext ρ
  unfold ag ay e1
  cases fa ρ <;> rfl
theorem Be (g : PyData → PyData → R PyData) (fa fb : Fe) : (fun ρ => ag fa (ag fb ay) ρ >>= BG g) = e2 g fa fb := by
  funext ρ
  unfold ag ay e2
  cases fa ρ with
  | ok a => cases fb ρ <;> rfl
  | ex c => rfl
  | no => rfl
theorem xW {P : Hp → Hp → PyData → V → Prop} {r : List V → Hp → VK → Prop} {g : PyData → R PyData} (h : ∀ H x d Q, hR H d x → tz X P (g d) H Q → r [x] H Q) : qd X P r (one g) := fun H xs ds Q ra q => by
  unfold one at q
  split at q
  · rename_i d
    simp only [RA] at ra
    obtain ⟨v, r', e, p, e2⟩ := ra
    subst e2; subst e
    exact h H v d Q p q
  · exact q.elim
theorem B2 {P : Hp → Hp → PyData → V → Prop} {r : List V → Hp → VK → Prop} {g : PyData → PyData → R PyData} (h : ∀ H x y d e Q, hR H d x → hR H e y → tz X P (g d e) H Q → r [x, y] H Q) : qd X P r (BG g) := fun H xs ds Q ra q => by
  unfold BG at q
  split at q
  · rename_i d e
    simp only [RA] at ra
    obtain ⟨v, r', e1, p, v', r'', e2, p', e3⟩ := ra
    subst e3; subst e2; subst e1
    exact h H v v' d e Q p p' q
  · exact q.elim
section
variable {P : Hp → Hp → PyData → V → Prop} {r : List V → Hp → VK → Prop} {g : PyData → R PyData} {g2 : PyData → PyData → R PyData} {id ty : String}
theorem Cg (T : Tb X nl G) (j : Nat) (hG : G[j]? = some x) (hm : X.mg x = none) (hP : Dn P) (hv : bootBuiltins x = some (.builtin id)) (hc : dO X (.builtin id) r) (hg : ∀ H x d Q, hR H d x → tz X P (g d) H Q → r [x] H Q) (ha : bD X a fa)
    (he : au a = true := by rfl) : PE X (.Call (.Name x p) [a] [] pos) (iW X P (e1 g fa)) := by
  have q := T.gl x (List.mem_of_getElem? hG)
  rw [← ym]
  exact PE.imp (kO hc q.1 hm hv (mm ha ui he) q.2.2 q.2.1 (a4 he)) (xw hP (xW hg))
theorem AK (T : Tb X nl G) (j : Nat) (hG : G[j]? = some x) (hm : X.mg x = none) (hP : Dn P) (hv : bootBuiltins x = some (.type ty)) (hc : dO X (.type ty) r) (hg : ∀ H x d Q, hR H d x → tz X P (g d) H Q → r [x] H Q) (ha : bD X a fa)
    (he : au a = true := by rfl) : PE X (.Call (.Name x p) [a] [] pos) (iW X P (e1 g fa)) := by
  have q := T.gl x (List.mem_of_getElem? hG)
  rw [← ym]
  exact PE.imp (vM hc q.1 hm hv (mm ha ui he) q.2.2 q.2.1 (a4 he)) (xw hP (xW hg))
theorem Df (T : Tb X nl G) (j : Nat) (hG : G[j]? = some x) (hm : X.mg x = none) (hP : Dn P) (hv : bootBuiltins x = some (.builtin id)) (hc : dO X (.builtin id) r) (hg : ∀ H x y d e Q, hR H d x → hR H e y → tz X P (g2 d e) H Q → r [x, y] H Q) (ha : bD X a fa) (hb : bD X b fb)
    (he : au a = true := by rfl) (he2 : au b = true := by rfl) : PE X (.Call (.Name x p) [a, b] [] pos) (iW X P (e2 g2 fa fb)) := by
  have q := T.gl x (List.mem_of_getElem? hG)
  rw [← Be]
  exact PE.imp (kO hc q.1 hm hv (mm ha (mm hb ui he2) he) q.2.2 q.2.1 (a4 he) (kM (by rw [List.all_cons, he2]; rfl))) (xw hP (B2 hg))
end
end
theorem lf : fillsNumberSlot (.type "tuple") "mul" = pure false :=
  PySem.fillsNumberSlot_seq (id := "tuple.__mul__") (r := some (.builtin "tuple.__rmul__")) F.slot_tuple_mul.lookup (by decide +kernel) F.slot_tuple_rmul.lookup (by decide +kernel)
theorem p0 : seqRepeat? (.type "tuple") = pure (some (.builtin "tuple.__mul__")) := by
  unfold seqRepeat?
  rw [PySem.seqSlot_of (T := "tuple") (name := "__mul__") (id := "tuple.__mul__") F.slot_tuple_mul.lookup (by decide +kernel), PySem.seqSlot_of (T := "tuple") (name := "__rmul__") (id := "tuple.__rmul__") F.slot_tuple_rmul.lookup (by decide +kernel)]
  rfl
theorem mY (a : Int) (t : Tok) (l : Addr) (items : Array Value) (n : Nat) (dd : Option Addr) (sl : Array (Option Value)) :
    Meets (Builtin.«int.__rmul__» ⟨[.int a t, .ref l], []⟩) (fun _ R s => s.heap.get? l = some { cls := .type "tuple", dict := dd, data := .seq items n, slots := sl } ∧ R (.ok (.ret Value.notImplemented)) s) :=
  .of_wp fun prog w A R s h => by obtain ⟨hp, g, d, tk, os⟩ := s; obtain ⟨hl, h⟩ := h; wp_walk; exact ⟨_, rfl, h⟩
theorem tN (l : Addr) (items : Array Value) (n : Nat) (dd : Option Addr) (sl : Array (Option Value)) (x : Int) (u : Tok) (h1 : 2 ≤ x) (h2 : x < 2 ^ 63) (h0 : ¬ items.isEmpty = true) (hc1 : ¬ (items.size : Int) * x > (2 ^ 63 - 1) / 8) (hbig : Builtin.Tuple.tupleTooMany ((items.size : Int) * x) = false) (hsz : ¬ (List.foldl (fun x1 x2 => x1 ++ x2) #[] (List.replicate x.toNat items)).size > sizeLine) :
    Meets (Builtin.«tuple.__mul__» ⟨[.ref l, .int x u], []⟩) (fun _ R s => s.heap.get? l = some { cls := .type "tuple", dict := dd, data := .seq items n, slots := sl } ∧ R (.ok (.ret (Value.ref s.heap.objs.size))) { s with heap := s.heap.push { cls := Value.type "tuple", data := Data.seq (List.foldl (fun x1 x2 => x1 ++ x2) #[] (List.replicate x.toNat items)) }, toks := s.toks }) :=
  .of_wp fun prog w A R s h => by
    obtain ⟨hp, g, d, tk, os⟩ := s; obtain ⟨hl, h⟩ := h
    have f1 := AutoSeq1.idx_int; have f2 := AutoSeq1.sub_tuple_tuple; have f3 := AutoSeq1.sub_list_list; have f4 := AutoSeq1.sub_tuple_list; have f5 := AutoSeq1.sub_list_tuple
    have e0 : (decide (x < -2 ^ 63) || decide (x ≥ 2 ^ 63)) = false := by
      rw [decide_eq_false (by omega), decide_eq_false (by omega)]; rfl
    have e1 : (items.isEmpty || x == 1) = false := by
      have : (x == 1) = false := by simp; omega
      rw [this, Bool.or_false]; exact Bool.eq_false_iff.mpr h0
    have e2 : (decide (x ≤ 0) || items.isEmpty) = false := by
      rw [decide_eq_false (by omega), Bool.false_or]; exact Bool.eq_false_iff.mpr h0
    have e3 : decide ((items.size : Int) * x > (2 ^ 63 - 1) / 8) = false := decide_eq_false hc1
    have e4 : Builtin.Tuple.tupleTooMany ((items.size : Int) * x) = false := hbig
    wp_walk using wpAny_loadPart' hl
    refine wpAny_ite_false (decide_eq_false (by rw [e0]; exact Bool.false_ne_true)) ?_
    wp_walk using wpAny_loadPart' hl
    refine wpAny_ite_false (decide_eq_false (by rw [e1]; exact Bool.false_ne_true)) ?_
    wp_walk using wpAny_loadPart' hl
    refine wpAny_ite_false (decide_eq_false (by rw [e2]; exact Bool.false_ne_true)) ?_
    wp_walk using wpAny_loadPart' hl
    refine wpAny_ite_false e3 ?_
    wp_walk using wpAny_loadPart' hl
    exact ⟨_, rfl, h⟩
section
variable {X : Cx} {a b c : Expr} {fa fb fc : Fe} {pos : Pos} {nl : Nat} {G : List Str} {x : Str} {p : Pos}
def Aq (K : PySem.W.Frag) : R2 := fun x y H Q => ∃ l k xs, x = .ref l ∧ y = .int k ∧ dS K H l xs ∧ xs ≠ [] ∧ 2 ≤ k ∧ k < 2 ^ 63 ∧ xs.length * k.toNat ≤ sizeLine ∧ ∀ p, H p = none → Q (.ref p) (ci H p (.tup (List.replicate k.toNat xs).flatten))
theorem zc : iS X (binaryOp .Mult) (Aq X.K) := by
  intro pins s σ H x y v u Q I rx ry h
  obtain ⟨l, k, xs, rfl, rfl, hH, hne, h1, h2, hz, q⟩ := h
  cases rx
  obtain ⟨t, rfl⟩ := ry
  obtain ⟨its, r, pl, hz0⟩ := I.tuple hH
  obtain ⟨⟨cls, dd, data, sl⟩, e, hc, n, hd⟩ := id pl
  simp only at hc hd
  subst hc hd
  have hl := r.length
  have hnew : List.foldl (fun x1 x2 => x1 ++ x2) #[] (List.replicate k.toNat its.toArray) = (List.replicate k.toNat its).flatten.toArray := by
    have := oG its k.toNat []
    rw [List.nil_append] at this
    exact this
  have hlen : (List.replicate k.toNat its).flatten.length ≤ sizeLine := by rw [uZ, ← hl, Nat.mul_comm]; exact hz
  have hprod : (its.length : Int) * k ≤ (sizeLine : Int) := by
    have h3 : ((its.length * k.toNat : Nat) : Int) ≤ (sizeLine : Int) := by rw [← hl]; exact Int.ofNat_le.mpr hz
    have h4 : ((k.toNat : Nat) : Int) = k := Int.toNat_of_nonneg (by omega)
    rw [Int.natCast_mul, h4] at h3
    exact h3
  have hcap : ¬ (its.toArray.size : Int) * k > (2 ^ 63 - 1) / 8 := by
    rw [List.size_toArray]
    have hs : sizeLine = 16777216 := sizeLine_eq
    omega
  have hbig : Builtin.Tuple.tupleTooMany ((its.toArray.size : Int) * k) = false := by
    unfold Builtin.Tuple.tupleTooMany
    rw [List.size_toArray]
    exact decide_eq_false (by omega)
  refine wpAny_binaryOp_repeat_ref (T := "tuple") (U := "int") (by decide) ⟨_, e, rfl⟩ (fun s' => typeIs_int s' k t) lf F.fills_int_mul F.slot_int_rmul p0 F.slot_int_index.lookup
    (call_meets F.slot_int_rmul (typeIs_int s k t) F.entry_int_rmul (F.args_int_rmul_2 _ _) (mY k t l its.toArray n dd sl)
      ⟨e, rfl, ⟨_, e, rfl⟩, call_meets F.slot_tuple_mul ⟨_, e, rfl⟩ F.entry_tuple_mul (F.args_tuple_mul_2 _ _) (tN l its.toArray n dd sl k t h1 h2 (by
        intro z
        apply hne
        have : its = [] := by simpa using z
        rw [this] at hl
        exact List.length_eq_zero_iff.mp hl) hcap hbig (by rw [hnew, List.size_toArray]; omega)) ⟨e, ?_⟩⟩)
  rw [hnew]
  refine ⟨.ref s.heap.objs.size, _, I.laid (t' := s.toks) (o := .tup (List.replicate k.toNat xs).flatten) (fun b ob q => Heap.get?_push_of_some _ q) (Nat.le_refl _) ?_, rfl, q _ (I.hok.fresh (Nat.le_refl _))⟩
  exact ⟨by rw [uZ, Nat.mul_comm]; exact hz, _, r.rep k.toNat, IsTup.new _ _⟩
def dM : PyData → PyData → R PyData
  | .int i, .int j => if (-(2 ^ 64) < i ∧ i < 2 ^ 64) ∨ (-(2 ^ 64) < j ∧ j < 2 ^ 64) then .ok (.int (i * j)) else .no
  | .tuple xs, .int k => if xs ≠ [] ∧ 2 ≤ k ∧ k < 2 ^ 63 ∧ xs.length * k.toNat ≤ sizeLine then .ok (.tuple (List.replicate k.toNat xs).flatten) else .no
  | _, _ => .no
theorem Ba : bQ X gB (fun x y H Q => rI zU (fun i j => .int (i * j)) x y H Q ∨ Aq X.K x y H Q) dM := fun H x y dx dy Q hx hy q => by
  cases dx with
  | int i =>
    cases dy with
    | int j =>
      simp only [dM] at q
      split at q
      · rename_i h; exact .inl ⟨_, _, bz hx, bz hy, h, q _ H (az.refl _) dk⟩
      · exact q.elim
    | _ => exact q.elim
  | tuple xs =>
    cases dy with
    | int k =>
      simp only [dM] at q
      split at q
      · rename_i h
        obtain ⟨a, vs, rfl, ha, r⟩ := di hx
        have hl := r.length
        refine .inr ⟨a, k, vs, rfl, bz hy, dS.of ha, fun z => h.1 ?_, h.2.1, h.2.2.1, by rw [hl]; exact h.2.2.2, fun p hp => q _ _ (bY hp _) (dc hp (r.rep _))⟩
        rw [z] at hl
        exact List.length_eq_zero_iff.mp hl.symm
      · exact q.elim
    | _ => exact q.elim
  | _ => exact q.elim
theorem fN (ha : bD X a fa) (hb : bD X b fb) : ah X (.BinOp a .Mult b pos) (e2 dM fa fb) := mF gi (BU.or zc) Ba ha hb
theorem Z.fN (ha : Z.bD X a fa) (hb : Z.bD X b fb) : Z.ah X (.BinOp a .Mult b pos) (e2 dM fa fb) :=
  ⟨D2.fN ha.un hb.un⟩
theorem zo : iS X (binaryOp .Add) (fun x y H Q => ∃ i j, x = .str i ∧ y = .str j ∧ i.length + j.length ≤ sizeLine ∧ Q (.str (i ++ j)) H) := by
  intro pins s σ H x y v u Q I rx ry h
  obtain ⟨i, j, rfl, rfl, hz, q⟩ := h
  obtain ⟨t, rfl⟩ := rx
  obtain ⟨t', rfl⟩ := ry
  exact PyProof.Rows.add_str (fun t' tk => ⟨.str (i ++ j), H, I.tok _, ⟨_, rfl⟩, q⟩) hz
def wM (K : PySem.W.Frag) : R2 := fun x y H Q => ∃ a b ys, x = .ref a ∧ y = .ref b ∧ dS K H a [] ∧ dS K H b ys ∧ Q (.ref b) H
theorem xH : iS X (binaryOp .Add) (wM X.K) := by
  intro pins s σ H x y v u Q I rx ry h
  obtain ⟨a, b, ys, rfl, rfl, ha, hb, q⟩ := h
  cases rx
  cases ry
  obtain ⟨its, r1, p1, _⟩ := I.tuple ha
  obtain ⟨its2, r2, p2, _⟩ := I.tuple hb
  cases r1
  obtain ⟨⟨cls, dd, data, sl⟩, ho, hc, n, hd⟩ := id p1
  obtain ⟨⟨cls2, dd2, data2, sl2⟩, ho2, hc2, n2, hd2⟩ := id p2
  simp only at hc hd hc2 hd2
  subst hc hd hc2 hd2
  exact concat_meets ⟨_, ho, rfl⟩ ⟨_, ho2, rfl⟩ noFill_tuple_add seq_tuple_add PySem.F.slot_tuple_add PySem.F.entry_tuple_add (PySem.F.args_tuple_add_2 _ _)
    (tuple_addW0 a b _ its2.toArray n n2 dd dd2 sl sl2 (by rfl)) ⟨ho, ho2, ⟨.ref b, H, I, rfl, q⟩⟩
def AD (K : PySem.W.Frag) : R2 := fun x y H Q => ∃ l b xs zs, x = .ref l ∧ y = .ref b ∧ Rd H l (.lst xs) ∧ Rd H b (.lst zs) ∧ xs.length + zs.length ≤ sizeLine ∧ ∀ p, H p = none → Q (.ref p) (ci H p (.lst (xs ++ zs)))
theorem yK : iS X (binaryOp .Add) (AD X.K) := by
  intro pins s σ H x y v u Q I rx ry h
  obtain ⟨l, b, xs, zs, rfl, rfl, hH, hB, hz, q⟩ := h
  cases rx
  cases ry
  obtain ⟨z, its, n, r, e⟩ := hH.ok I.hok
  obtain ⟨z2, its2, n2, r2, e2⟩ := hB.ok I.hok
  have hl := r.length
  have hl2 := r2.length
  refine PySem.P.add_list e e2 ?_ (by rw [List.size_toArray, List.size_toArray]; omega)
  have ea : its.toArray ++ its2.toArray = (its ++ its2).toArray := by simp
  rw [ea]
  exact ⟨.ref _, _, I.lnew (t' := s.toks) (r.append r2) (by rw [List.length_append]; omega), rfl, q _ I.fresh⟩
def ez : PyData → PyData → R PyData
  | .int i, .int j => .ok (.int (i + j))
  | .str x, .str y => if x.length + y.length ≤ sizeLine then .ok (.str (x ++ y)) else .no
  | .tuple xs, .tuple ys => if xs.length + ys.length ≤ sizeLine then .ok (.tuple (xs ++ ys)) else .no
  | .list xs, .list ys => if xs.length + ys.length ≤ sizeLine then .ok (.list (xs ++ ys)) else .no
  | _, _ => .no
theorem qw {H : Hp} {ds : List PyData} {x : V} (h : hR H (.list ds) x) : ∃ a vs, x = .ref a ∧ Rd H a (.lst vs) ∧ bg H ds vs := by
  rcases h with h | h
  · simp only [Rp] at h
    obtain ⟨a, o, vs, e, ha, r⟩ := h
    exact ⟨a, vs, e, .inr ⟨o, ha⟩, r⟩
  · simp only [iU] at h
    obtain ⟨a, vs, e, ha, r⟩ := h
    exact ⟨a, vs, e, .inl ha, r⟩
theorem A1 : bQ X Dw (fun x y H Q => yA (fun i j => .int (i + j)) x y H Q ∨ (∃ i j, x = .str i ∧ y = .str j ∧ i.length + j.length ≤ sizeLine ∧ Q (.str (i ++ j)) H) ∨ AJ X.K x y H Q ∨ wM X.K x y H Q ∨ AD X.K x y H Q) ez := fun H x y dx dy Q hx hy q => by
  cases dx with
  | int i =>
    cases dy with
    | int j => exact .inl ⟨_, _, bz hx, bz hy, q _ H (az.refl _) (.inl dk)⟩
    | _ => exact q.elim
  | str i =>
    cases dy with
    | str j =>
      simp only [ez] at q
      split at q
      · rename_i h; exact .inr (.inl ⟨_, _, iE hx, iE hy, h, q _ H (az.refl _) (.inl xb)⟩)
      · exact q.elim
    | _ => exact q.elim
  | tuple xs =>
    cases dy with
    | tuple ys =>
      simp only [ez] at q
      split at q
      · rename_i h
        have hx' := hx
        obtain ⟨a, vs, rfl, ha, r⟩ := di hx
        obtain ⟨b, us, rfl, hb, r2⟩ := di hy
        cases xs with
        | nil =>
          have := r.nil_inv
          subst this
          refine .inr (.inr (.inr (.inl ⟨a, b, us, rfl, rfl, dS.of ha, dS.of hb, q _ H (az.refl _) (.inl ?_)⟩)))
          simp only [Rp, List.nil_append]
          exact ⟨b, us, rfl, hb, r2⟩
        | cons d ds =>
          refine .inr (.inr (.inl ⟨a, b, vs, us, rfl, rfl, dS.of ha, dS.of hb, fun z => ?_, by rw [r.length, r2.length]; exact h, fun z => ?_, fun _ p hp => q _ _ (bY hp _) (.inl (dc hp (r.append r2)))⟩))
          · rw [z] at r
            obtain ⟨_, _, e, _⟩ := r.cons_inv
            cases e
          · have hy0 : ys = [] := by
              have := r2.length
              rw [z] at this
              exact List.length_eq_zero_iff.mp this.symm
            refine q _ H (az.refl _) (.inl ?_)
            rw [hy0, List.append_nil]
            simp only [Rp]
            exact ⟨a, vs, rfl, ha, r⟩
      · exact q.elim
    | _ => exact q.elim
  | list xs =>
    cases dy with
    | list ys =>
      simp only [ez] at q
      split at q
      · rename_i h
        obtain ⟨a, vs, rfl, ha, r⟩ := qw hx
        obtain ⟨b, us, rfl, hb, r2⟩ := qw hy
        exact .inr (.inr (.inr (.inr ⟨a, b, vs, us, rfl, rfl, ha, hb, by rw [r.length, r2.length]; exact h, fun p hp => q _ _ (bY hp _) (.inr (dq hp (r.append r2)))⟩)))
      · exact q.elim
    | _ => exact q.elim
  | _ => exact q.elim
theorem dl (ha : bD X a fa) (hb : bD X b fb) : ah X (.BinOp a .Add b pos) (e2 ez fa fb) :=
  yw.e (mF yP (AU.or (zo.or (yT.or (xH.or yK)))) A1 ha hb)
theorem Z.dl (ha : Z.bD X a fa) (hb : Z.bD X b fb) : Z.ah X (.BinOp a .Add b pos) (e2 ez fa fb) :=
  ⟨D2.dl ha.un hb.un⟩
end
section
variable {prog : Program} {w : World} {A : Around} {E : Value → Shared → Prop} {s : Shared}
theorem jM {t sl : Addr} {items : Array Value} {vl vu : Value} {lo hi : Option Int} {Q : Value → Shared → Prop} (ht : IsTup s.heap t items) (hs : s.heap.IsSliceOf sl vl vu .none) (pl : IsPart vl lo) (pu : IsPart vu hi)
    (hw : HT.sIx items.size 0 lo = 0 ∧ HT.sIx items.size items.size hi = items.size) (h : Q (.ref t) s) : wpAny (model prog w) A (getItem (.ref t) (.ref sl)) Q E s := by
  obtain ⟨os, hos, hcs, hds⟩ := id hs
  have hTs : s.TypeIs (.ref sl) "slice" := ⟨os, hos, hcs⟩
  unfold getItem
  try with_reducible refine wpAny_holding ?_
  first | refine wpAny_bind (wpAny_pure ?_) | skip
  refine wpAny_bind (wpAny_sequenceKey ht.typeIs (by decide) ?_)
  refine wpAny_bind (wpAny_callSpecial?_slot (name := Str.ofString "__getitem__") ht.typeIs PyProof.Rows.slot_tuple_getitem
    (wpAny_call_entry PyProof.Rows.slot_tuple_getitem ht.typeIs entry_tuple_getitem ?_ (args_tuple_getitem _ _)))
  show wpAny _ _ (Builtin.Tuple.tupleItemsOf (.ref t) >>= _) _ _ s
  refine wpAny_bind (tupleItemsOf_ ht ?_)
  refine wpAny_bind (wpAny_typeOf hTs ?_)
  rw [if_pos (by decide)]
  refine wpAny_bind (HT.sliceApplied_gen hs pl pu ?_)
  have hyes : (((HT.sIx items.size 0 lo : Nat) : Int) == 0 && (1 : Int) == 1 && (HT.sIx items.size items.size hi - HT.sIx items.size 0 lo) == items.size) = true := by
    rw [hw.1, hw.2]; simp
  show wpAny _ _ (if (((HT.sIx items.size 0 lo : Nat) : Int) == 0 && (1 : Int) == 1 && (HT.sIx items.size items.size hi - HT.sIx items.size 0 lo) == items.size) = true then _ else _) _ _ s
  rw [if_pos hyes]
  refine wpAny_bind (m := Builtin.Tuple.tupleIsExact _) ?_
  unfold Builtin.Tuple.tupleIsExact
  refine wpAny_bind (wpAny_typeOf ht.typeIs (wpAny_pure ?_))
  show wpAny _ _ (if (Value.type "tuple" == Value.type "tuple") = true then _ else _) _ _ s
  rw [if_pos (by decide)]
  refine wpAny_bind (wpAny_rule ?_)
  first
    | exact wpAny_pure ⟨_, rfl, wpAny_pure h⟩
    | exact wpAny_bind (wpAny_pure (wpAny_pure ⟨_, rfl, wpAny_pure h⟩))
end
section
variable {X : Cx} {a b c : Expr} {fa fb fc : Fe} {pos p2 : Pos} {nl : Nat} {G : List Str} {x : Str} {p : Pos}
def qN (xs : List PyData) (lo hi : Option Int) : List PyData := (xs.drop (HT.sIx xs.length 0 lo)).take (HT.sIx xs.length xs.length hi - HT.sIx xs.length 0 lo)
theorem bg.cut {H : Hp} {ds : List PyData} {vs : List V} (r : bg H ds vs) (lo hi : Option Int) : bg H (qN ds lo hi) (r9 vs lo hi) := by
  unfold qN r9
  rw [r.length]
  exact (r.drop _).take _
def D1 (K : PySem.W.Frag) : V → Option Int → Option Int → Hp → VK → Prop := fun x lo hi H Q => ∃ a xs, x = .ref a ∧ dS K H a xs ∧ (HT.sIx xs.length 0 lo = 0 ∧ HT.sIx xs.length xs.length hi = xs.length) ∧ Q (.ref a) H
theorem yd : Aw X (D1 X.K) := by
  intro pins s σ H x v vl vu lo hi sl Q I rx hs pl pu h
  obtain ⟨a, xs, rfl, hx, hw, q⟩ := h
  cases rx
  obtain ⟨its, r, ht, hz⟩ := I.tuple hx
  have hlen : its.toArray.size = xs.length := by rw [List.size_toArray]; exact r.length.symm
  refine ⟨"tuple", _, PyProof.Rows.slot_tuple_getitem.lookup, ht.typeIs, ?_⟩
  exact jM ht hs pl pu (by rw [hlen]; exact hw) ⟨.ref a, H, I, rfl, q⟩
def B5 : PyData → Option Int → Option Int → R PyData
  | .tuple xs, lo, hi => .ok (.tuple (qN xs lo hi))
  | .list xs, lo, hi => .ok (.list (qN xs lo hi))
  | _, _, _ => .no
abbrev Fo := aI → R (Option Int)
def rA : Fo := fun _ => .ok none
def Dx : PyData → R Int
  | .int i => .ok i
  | _ => .no
def rD (f : Fe) : Fo := fun ρ => f ρ >>= fun d => Dx d >>= fun i => .ok (some i)
def xC (X : Cx) (f : Fo) : TO := fun σ H Q => ∃ ρ, Sl H σ ρ ∧ match f ρ with
  | .ok o => ∀ H', az H H' → Q o H'
  | .ex c => Xw X c H
  | .no => False
def yy (X : Cx) (e : Option Expr) (f : Fo) : Prop := PO X e (xC X f)
structure Z.yy (X : Cx) (e : Option Expr) (f : Fo) : Prop where
  un : D2.yy X e f
theorem qF : yy X none rA := fun pins s σ H Q I ⟨ρ, sl, q⟩ => yN pins s σ H Q I (q H (az.refl _))
theorem Z.qF  : Z.yy X none rA :=
  ⟨D2.qF⟩
theorem Cl (Q : Option Int → Hp → Prop) : zQ X (fun (r : R (Option Int)) H => match r with | .ok b => ∀ H', az H H' → Q b H' | .ex c => Xw X c H | .no => False) where
  mono := fun r H H' h s => by
    cases r with
    | ok d => exact fun H2 s2 => h H2 (s.trans s2)
    | ex c => exact Xw.mono h s
    | no => exact h
  ex := fun c H h => h
  no := fun H h => h
theorem p7 {e : Expr} {f : Fe} (h : ah X e f) : yy X (some e) (rD f) := fun pins s σ H Q I q =>
  zK h pins s σ H Q I ((eG (P := gB) (f := f) (k := fun _ d => Dx d >>= fun i => .ok (some i)) (Cl (X := X) Q) q).post fun v H1 ⟨_, d, _, _, p, q1⟩ => by
    cases d with
    | int i =>
      have e1 : v = .int i := by simpa only [Rp] using p
      exact ⟨i, e1, q1 H1 (az.refl _)⟩
    | _ => exact q1.elim)
theorem Z.p7 {e : Expr} {f : Fe} (h : Z.ah X e f) : Z.yy X (some e) (rD f) :=
  ⟨D2.p7 h.un⟩
def CM (f : Fe) (lo hi : Fo) : Fe := fun ρ => f ρ >>= fun d => lo ρ >>= fun l => hi ρ >>= fun u => B5 d l u
theorem yj {β : Type} {Tg : R β → Hp → Prop} {σ : St} {H : Hp} (t : zQ X Tg) {f : Fo} {k : aI → Option Int → R β} (h : ∃ ρ, Sl H σ ρ ∧ Tg (f ρ >>= k ρ) H) : xC X f σ H (fun o H1 => ∃ ρ, Sl H1 σ ρ ∧ az H H1 ∧ Tg (k ρ o) H1) := by
  obtain ⟨ρ, sl, q⟩ := h
  refine ⟨ρ, sl, ?_⟩
  cases e : f ρ with
  | ok d => rw [e] at q; exact fun H1 s => ⟨ρ, sl.mono s, s, t.mono _ _ _ q s⟩
  | ex c => rw [e] at q; exact t.ex _ _ q
  | no => rw [e] at q; exact (t.no _ q).elim
theorem xC.post {f : Fo} {σ : St} {H : Hp} {Q Q' : Option Int → Hp → Prop} (h : xC X f σ H Q) (i : ∀ b H', Q b H' → Q' b H') : xC X f σ H Q' := by
  obtain ⟨ρ, sl, q⟩ := h
  refine ⟨ρ, sl, ?_⟩
  cases e : f ρ with
  | ok d => rw [e] at q; exact fun H' s => i _ _ (q H' s)
  | ex c => rw [e] at q; exact q
  | no => rw [e] at q; exact q
theorem mG {lo hi : Option Expr} {fl fh : Fo} (ha : bD X a fa) (hl : yy X lo fl) (hu : yy X hi fh) : ah X (.Subscript a (.Slice lo hi none p2) pos) (CM fa fl fh) := by
  refine yw.e (PE.imp (yh (yd.or (BT.or Ab)) ha hl hu) fun σ H Q h => ?_)
  refine (eG (P := tQ) (f := fa) (k := fun ρ d => fl ρ >>= fun l => fh ρ >>= fun u => B5 d l u) (eV (X := X) yP Q) h).post fun v H1 ⟨ρ1, d1, sl1, _, p1, q1⟩ => ?_
  refine (yj (f := fl) (k := fun ρ l => fh ρ >>= fun u => B5 d1 l u) (eV (X := X) yP Q) ⟨ρ1, sl1, q1⟩).post fun l H2 ⟨ρ2, sl2, s2, q2⟩ => ?_
  refine (yj (f := fh) (k := fun ρ u => B5 d1 l u) (eV (X := X) yP Q) ⟨ρ2, sl2, q2⟩).post fun u H3 ⟨ρ3, sl3, s3, q3⟩ => ?_
  have p3 : hR H3 d1 v := hR.mono (hR.mono p1 s2) s3
  cases d1 with
  | tuple xs =>
    obtain ⟨a', vs, rfl, ha', r⟩ := di p3
    have hlen := r.length
    by_cases hw : HT.sIx vs.length 0 l = 0 ∧ HT.sIx vs.length vs.length u = vs.length
    · refine .inl ⟨a', vs, rfl, dS.of ha', hw, q3 _ H3 (az.refl _) (.inl ?_)⟩
      have e : qN xs l u = xs := by
        unfold qN
        rw [← hlen, hw.1, hw.2]
        simp [hlen]
      rw [e]
      simp only [Rp]
      exact ⟨a', vs, rfl, ha', r⟩
    · exact .inr (.inl ⟨a', vs, rfl, dS.of ha', hw, fun p hp => q3 _ _ (bY hp _) (.inl (dc hp (r.cut l u)))⟩)
  | list xs =>
    obtain ⟨a', vs, rfl, ha', r⟩ := gf (K := X.K) p3
    exact .inr (.inr ⟨a', vs, rfl, ha', fun p hp => q3 _ _ (bY hp _) (.inr (dq hp (r.cut l u)))⟩)
  | _ => exact q3.elim
theorem Z.mG {lo hi : Option Expr} {fl fh : Fo} (ha : Z.bD X a fa) (hl : Z.yy X lo fl) (hu : Z.yy X hi fh) : Z.ah X (.Subscript a (.Slice lo hi none p2) pos) (CM fa fl fh) :=
  ⟨D2.mG ha.un hl.un hu.un⟩
end
section
variable {X : Cx} {a b c : Expr} {fa fb fc : Fe} {pos p2 : Pos} {nl : Nat} {G : List Str} {x : Str} {p : Pos}
theorem vY : dO X (.builtin "len") (fun xs H Q => ∃ a kvs, xs = [V.ref a] ∧ Rd H a (.dK kvs) ∧ Q (.int kvs.length) H) := by
  intro pins s σ H xs us Q I r h
  obtain ⟨a, kvs, rfl, ha, q⟩ := h
  obtain ⟨u, rfl, ru⟩ := ja r
  cases ru
  exact Cm I ha fun t s' I' => ⟨.int kvs.length, H, I', ⟨t, rfl⟩, q⟩
theorem dJ.length {H : Hp} : ∀ {kvs : List (PyData × PyData)} {ks : List (cV × V)}, dJ H kvs ks → ks.length = kvs.length
  | [], ks, h => by simp only [dJ] at h; rw [h]; rfl
  | kd :: kvs, ks, h => by
    simp only [dJ] at h
    obtain ⟨x, v, r, rfl, _, t⟩ := h
    rw [List.length_cons, List.length_cons, dJ.length t]
def cQ : PyData → R PyData
  | .list ds => .ok (.int ds.length)
  | .tuple ds => .ok (.int ds.length)
  | .dict kvs => if oK kvs = true then .no else .ok (.int kvs.length)
  | .str y => if y.length ≤ sizeLine then .ok (.int y.length) else .no
  | _ => .no
theorem cG (T : Tb X nl G) (j : Nat) (hG : G[j]? = some ("len" : Str)) (hm : X.mg "len" = none) (ha : bD X a fa) (he : au a = true := by rfl) : ah X (.Call (.Name "len" p) [a] [] pos) (e1 cQ fa) := by
  refine Cg T j hG hm gi PySem.boot_len (pO.or (ph.or vY)) (fun H x d Q hx q => ?_) ha he
  cases d with
  | list ds =>
    obtain ⟨a', vs, rfl, h, r⟩ := gf (K := X.K) hx
    exact .inl ⟨a', vs, rfl, .inl h, by rw [r.length]; exact q _ H (az.refl _) dk⟩
  | tuple ds =>
    obtain ⟨a', vs, rfl, h, r⟩ := di hx
    exact .inl ⟨a', vs, rfl, .inr (dS.of h), by rw [r.length]; exact q _ H (az.refl _) dk⟩
  | dict kvs =>
    simp only [cQ] at q
    split at q
    · exact q.elim
    rename_i hi
    obtain ⟨a', vs, rfl, h, r⟩ := kN (Bool.not_eq_true _ ▸ hi) hx
    exact .inr (.inr ⟨a', vs, rfl, h, by rw [r.length]; exact q _ H (az.refl _) dk⟩)
  | str y =>
    simp only [cQ] at q
    split at q
    · rename_i hz; exact .inr (.inl ⟨y, by rw [iE hx], hz, q _ H (az.refl _) dk⟩)
    · exact q.elim
  | _ => exact q.elim
theorem Z.cG (T : Tb X nl G) (j : Nat) (hG : G[j]? = some ("len" : Str)) (hm : X.mg "len" = none) (ha : Z.bD X a fa) (he : au a = true := by rfl) : Z.ah X (.Call (.Name "len" p) [a] [] pos) (e1 cQ fa) :=
  ⟨D2.cG T j hG hm ha.un he⟩
def zl : PyData → R PyData
  | .int i => .ok (.int i)
  | .bool k => .ok (.int (if k then 1 else 0))
  | _ => .no
theorem pE (T : Tb X nl G) (j : Nat) (hG : G[j]? = some ("int" : Str)) (hm : X.mg "int" = none) (ha : bD X a fa) (he : au a = true := by rfl) : ah X (.Call (.Name "int" p) [a] [] pos) (e1 zl fa) := by
  refine AK T j hG hm gi PyProof.Rows.boot_int wp (fun H x d Q hx q => ?_) ha he
  cases d with
  | int i => exact .inl ⟨i, by rw [bz hx], q _ H (az.refl _) dk⟩
  | bool k => exact .inr ⟨k, by rw [nH hx], q _ H (az.refl _) dk⟩
  | _ => exact q.elim
theorem Z.pE (T : Tb X nl G) (j : Nat) (hG : G[j]? = some ("int" : Str)) (hm : X.mg "int" = none) (ha : Z.bD X a fa) (he : au a = true := by rfl) : Z.ah X (.Call (.Name "int" p) [a] [] pos) (e1 zl fa) :=
  ⟨D2.pE T j hG hm ha.un he⟩
def EE : PyData → R PyData
  | .int i => if i.natAbs.log2 < 1920 then .ok (.str (toString i)) else .no
  | _ => .no
def zm : PyData → PyData → R PyData
  | .int i, .int j => .ok (.int (if j < i then j else i))
  | _, _ => .no
def zT : PyData → PyData → R PyData
  | .int i, .int j => .ok (.int (if j > i then j else i))
  | _, _ => .no
theorem si (T : Tb X nl G) (j : Nat) (hG : G[j]? = some ("min" : Str)) (hm : X.mg "min" = none) (ha : bD X a fa) (hb : bD X b fb) (he : au a = true := by rfl) (he2 : au b = true := by rfl) :
    ah X (.Call (.Name "min" p) [a, b] [] pos) (e2 zm fa fb) := by
  refine Df T j hG hm gi PyProof.Rows.boot_min (vj T.calm) (fun H x y d e Q hx hy q => ?_) ha hb he he2
  cases d with
  | int i =>
    cases e with
    | int j => exact ⟨i, j, by rw [bz hx, bz hy], q _ H (az.refl _) dk⟩
    | _ => exact q.elim
  | _ => exact q.elim
theorem Z.si (T : Tb X nl G) (j : Nat) (hG : G[j]? = some ("min" : Str)) (hm : X.mg "min" = none) (ha : Z.bD X a fa) (hb : Z.bD X b fb) (he : au a = true := by rfl) (he2 : au b = true := by rfl) : Z.ah X (.Call (.Name "min" p) [a, b] [] pos) (e2 zm fa fb) :=
  ⟨D2.si T j hG hm ha.un hb.un he he2⟩
theorem tT (T : Tb X nl G) (j : Nat) (hG : G[j]? = some ("max" : Str)) (hm : X.mg "max" = none) (ha : bD X a fa) (hb : bD X b fb) (he : au a = true := by rfl) (he2 : au b = true := by rfl) :
    ah X (.Call (.Name "max" p) [a, b] [] pos) (e2 zT fa fb) := by
  refine Df T j hG hm gi PyProof.Rows.boot_max (vR T.calm) (fun H x y d e Q hx hy q => ?_) ha hb he he2
  cases d with
  | int i =>
    cases e with
    | int j => exact ⟨i, j, by rw [bz hx, bz hy], q _ H (az.refl _) dk⟩
    | _ => exact q.elim
  | _ => exact q.elim
theorem Z.tT (T : Tb X nl G) (j : Nat) (hG : G[j]? = some ("max" : Str)) (hm : X.mg "max" = none) (ha : Z.bD X a fa) (hb : Z.bD X b fb) (he : au a = true := by rfl) (he2 : au b = true := by rfl) : Z.ah X (.Call (.Name "max" p) [a, b] [] pos) (e2 zT fa fb) :=
  ⟨D2.tT T j hG hm ha.un hb.un he he2⟩
def dY : PyData → R PyData
  | .list ds => .ok (.tuple ds)
  | .tuple ds => .ok (.tuple ds)
  | _ => .no
theorem cH (T : Tb X nl G) (j : Nat) (hG : G[j]? = some ("tuple" : Str)) (hm : X.mg "tuple" = none) (ha : bD X a fa) (he : au a = true := by rfl) : ah X (.Call (.Name "tuple" p) [a] [] pos) (e1 dY fa) := by
  refine AK T j hG hm gi PyProof.Rows.boot_tuple oo (fun H x d Q hx q => ?_) ha he
  cases d with
  | list ds =>
    obtain ⟨a', vs, rfl, h, r⟩ := gf (K := X.K) hx
    exact ⟨a', vs, rfl, .inl ⟨h, fun l hl => q _ _ (bY hl _) (dc hl r)⟩⟩
  | tuple ds =>
    obtain ⟨a', vs, rfl, h, r⟩ := di hx
    exact ⟨a', vs, rfl, .inr ⟨dS.of h, q _ H (az.refl _) (by simp only [Rp]; exact ⟨a', vs, rfl, h, r⟩)⟩⟩
  | _ => exact q.elim
theorem Z.cH (T : Tb X nl G) (j : Nat) (hG : G[j]? = some ("tuple" : Str)) (hm : X.mg "tuple" = none) (ha : Z.bD X a fa) (he : au a = true := by rfl) : Z.ah X (.Call (.Name "tuple" p) [a] [] pos) (e1 dY fa) :=
  ⟨D2.cH T j hG hm ha.un he⟩
def nI : PyData → R PyData
  | .list ds => .ok (.list ds)
  | .tuple ds => .ok (.list ds)
  | _ => .no
theorem jh (T : Tb X nl G) (j : Nat) (hG : G[j]? = some ("list" : Str)) (hm : X.mg "list" = none) (ha : bD X a fa) (he : au a = true := by rfl) : fO X (.Call (.Name "list" p) [a] [] pos) (e1 nI fa) := by
  refine AK T j hG hm zW PyProof.Rows.boot_list qC (fun H x d Q hx q => ?_) ha he
  cases d with
  | list ds =>
    obtain ⟨a', vs, rfl, h, r⟩ := gf (K := X.K) hx
    exact ⟨a', vs, rfl, .inl h, fun l hl => q _ _ (bY hl _) (dq hl r)⟩
  | tuple ds =>
    obtain ⟨a', vs, rfl, h, r⟩ := di hx
    exact ⟨a', vs, rfl, .inr (dS.of h), fun l hl => q _ _ (bY hl _) (dq hl r)⟩
  | _ => exact q.elim
theorem Z.jh (T : Tb X nl G) (j : Nat) (hG : G[j]? = some ("list" : Str)) (hm : X.mg "list" = none) (ha : Z.bD X a fa) (he : au a = true := by rfl) : Z.fO X (.Call (.Name "list" p) [a] [] pos) (e1 nI fa) :=
  ⟨D2.jh T j hG hm ha.un he⟩
inductive Ty where
  | int | bool | str | list | tuple
def Ty.nm : Ty → String
  | .int => "int"
  | .bool => "bool"
  | .str => "str"
  | .list => "list"
  | .tuple => "tuple"
def wx : Ty → PyData → Bool
  | .int, .int _ => true
  | .int, .bool _ => true
  | .bool, .bool _ => true
  | .str, .str _ => true
  | .list, .list _ => true
  | .tuple, .tuple _ => true
  | _, _ => false
def du (T : Ty) : PyData → R PyData
  | .dict _ => .no
  | d => .ok (.bool (wx T d))
theorem wZ : dO X (.builtin "isinstance") (fun xs H Q => ∃ x t T k, xs = [x, .ty T] ∧ kL X.K H x t ∧ PySem.W.kitOne X.K t (.type T) = some k ∧ Q (.bl k) H) := by
  intro pins s σ H xs us Q I r h
  obtain ⟨x, t, T, k, rfl, ty, e, q⟩ := h
  obtain ⟨u, w', rfl, rx, ry⟩ := qR r
  cases ry
  exact wr I rx ty e fun tk => ⟨.bl k, H, I.tok tk, rfl, q⟩
theorem CU {K : PySem.W.Frag} {H : Hp} {d : PyData} {v : V} (h : hR H d v) : (∃ kvs, d = .dict kvs) ∨ ∃ t, kL K H v t ∧ ∀ T : Ty, PySem.W.kitOne K t (.type T.nm) = some (wx T d) := by
  cases d with
  | none => rw [kH h]; exact .inr ⟨_, .non, fun T => by cases T <;> rfl⟩
  | bool k => rw [nH h]; exact .inr ⟨_, .bl k, fun T => by cases T <;> rfl⟩
  | int i => rw [bz h]; exact .inr ⟨_, .int i, fun T => by cases T <;> rfl⟩
  | str y => rw [iE h]; exact .inr ⟨_, .str y, fun T => by cases T <;> rfl⟩
  | tuple ds => obtain ⟨a, vs, rfl, ha, _⟩ := di h; exact .inr ⟨_, .tup ha, fun T => by cases T <;> rfl⟩
  | list ds =>
    obtain ⟨a, vs, rfl, ha, _⟩ := qw h
    rcases ha with ha | ⟨o, ha⟩
    · exact .inr ⟨_, .lst ha, fun T => by cases T <;> rfl⟩
    · exact .inr ⟨_, .frz ha, fun T => by cases T <;> rfl⟩
  | dict kvs => exact .inl ⟨kvs, rfl⟩
theorem sW (ty : Ty) {y : Str} {py : Pos} (T : Tb X nl G) (j : Nat) (hG : G[j]? = some ("isinstance" : Str)) (hm : X.mg "isinstance" = none) (hy : bootBuiltins y = some (.type ty.nm)) (T' : Tb X nl G) (j' : Nat) (hG' : G[j']? = some y) (hm' : X.mg y = none) (ha : bD X a fa)
    (he : au a = true := by rfl) : ah X (.Call (.Name "isinstance" p) [a, .Name y py] [] pos) (e1 (du ty) fa) := by
  have g := T.gl _ (List.mem_of_getElem? hG)
  have g' := T.gl _ (List.mem_of_getElem? hG')
  have hp : PE X (.Name y py) (tC (.ty ty.nm)) := yJ g'.1 hm' hy rfl g'.2.2 g'.2.1
  refine PE.imp (kO wZ g.1 hm PyProof.Rows.boot_isinstance (kX ha (kX hp tZ) (a4 he)) g.2.2 g.2.1 (a4 he)) fun σ H Q h => ?_
  refine (eG (P := tQ) (f := fa) (k := fun _ d => du ty d) (eV (X := X) gi Q) h).post fun v H1 ⟨_, d, _, _, p1, q1⟩ => ?_
  show ∃ x t T k, _ ∧ _ ∧ _ ∧ _
  rcases CU (K := X.K) p1 with ⟨kvs, rfl⟩ | ⟨t, ht, hk⟩
  · exact q1.elim
  · refine ⟨v, t, ty.nm, wx ty d, rfl, ht, hk ty, ?_⟩
    cases d with
    | dict kvs => exact q1.elim
    | _ => exact q1 _ H1 (az.refl _) eF
theorem gh {py : Pos} (T : Tb X nl G) (j : Nat) (hG : G[j]? = some ("isinstance" : Str)) (hm : X.mg "isinstance" = none) (T' : Tb X nl G) (j' : Nat) (hG' : G[j']? = some ("int" : Str)) (hm' : X.mg "int" = none) (ha : bD X a fa)
    (he : au a = true := by rfl) : ah X (.Call (.Name "isinstance" p) [a, .Name "int" py] [] pos) (e1 (du .int) fa) := sW .int T j hG hm PyProof.Rows.boot_int T' j' hG' hm' ha he
theorem Z.gh {py : Pos} (T : Tb X nl G) (j : Nat) (hG : G[j]? = some ("isinstance" : Str)) (hm : X.mg "isinstance" = none) (T' : Tb X nl G) (j' : Nat) (hG' : G[j']? = some ("int" : Str)) (hm' : X.mg "int" = none) (ha : Z.bD X a fa) (he : au a = true := by rfl) : Z.ah X (.Call (.Name "isinstance" p) [a, .Name "int" py] [] pos) (e1 (du .int) fa) :=
  ⟨D2.gh T j hG hm T' j' hG' hm' ha.un he⟩
theorem fB {py : Pos} (T : Tb X nl G) (j : Nat) (hG : G[j]? = some ("isinstance" : Str)) (hm : X.mg "isinstance" = none) (T' : Tb X nl G) (j' : Nat) (hG' : G[j']? = some ("bool" : Str)) (hm' : X.mg "bool" = none) (ha : bD X a fa)
    (he : au a = true := by rfl) : ah X (.Call (.Name "isinstance" p) [a, .Name "bool" py] [] pos) (e1 (du .bool) fa) := sW .bool T j hG hm PyProof.Rows.boot_bool T' j' hG' hm' ha he
theorem Z.fB {py : Pos} (T : Tb X nl G) (j : Nat) (hG : G[j]? = some ("isinstance" : Str)) (hm : X.mg "isinstance" = none) (T' : Tb X nl G) (j' : Nat) (hG' : G[j']? = some ("bool" : Str)) (hm' : X.mg "bool" = none) (ha : Z.bD X a fa) (he : au a = true := by rfl) : Z.ah X (.Call (.Name "isinstance" p) [a, .Name "bool" py] [] pos) (e1 (du .bool) fa) :=
  ⟨D2.fB T j hG hm T' j' hG' hm' ha.un he⟩
theorem dH {py : Pos} (T : Tb X nl G) (j : Nat) (hG : G[j]? = some ("isinstance" : Str)) (hm : X.mg "isinstance" = none) (T' : Tb X nl G) (j' : Nat) (hG' : G[j']? = some ("tuple" : Str)) (hm' : X.mg "tuple" = none) (ha : bD X a fa)
    (he : au a = true := by rfl) : ah X (.Call (.Name "isinstance" p) [a, .Name "tuple" py] [] pos) (e1 (du .tuple) fa) := sW .tuple T j hG hm PyProof.Rows.boot_tuple T' j' hG' hm' ha he
theorem Z.dH {py : Pos} (T : Tb X nl G) (j : Nat) (hG : G[j]? = some ("isinstance" : Str)) (hm : X.mg "isinstance" = none) (T' : Tb X nl G) (j' : Nat) (hG' : G[j']? = some ("tuple" : Str)) (hm' : X.mg "tuple" = none) (ha : Z.bD X a fa) (he : au a = true := by rfl) : Z.ah X (.Call (.Name "isinstance" p) [a, .Name "tuple" py] [] pos) (e1 (du .tuple) fa) :=
  ⟨D2.dH T j hG hm T' j' hG' hm' ha.un he⟩
end
section
variable {X : Cx} {tg a b c : Expr} {fa fb fc : Fe} {pos p2 : Pos} {nl : Nat} {G : List Str} {x : Str} {p : Pos} {fs : aI → R (List PyData)} {es : List Expr}
def iw : PyData → R (List PyData)
  | .list ds => .ok ds
  | .tuple ds => .ok ds
  | _ => .no
def dG (f : Fe) : aI → R (List PyData) := fun ρ => f ρ >>= iw
theorem xg {K : PySem.W.Frag} {a : Addr} {ds : List PyData} : yB (DR K a) (fun H => ∃ o vs, H a = some (.frz o (.lst vs)) ∧ bg H ds vs) ds where
  go := fun i H ⟨o, vs, h, r⟩ hi => by
    have hl := r.length
    exact ⟨vs, vs[i], .inl (.inr ⟨o, h⟩), List.getElem?_eq_getElem (by omega)⟩
  yld := fun i H x H' d ⟨o, vs, h, r⟩ hd ⟨e, y⟩ => by
    subst e
    obtain ⟨v, e1, p⟩ := r.get hd
    have := y vs (.inl (.inr ⟨o, h⟩))
    rw [e1] at this
    cases this
    exact ⟨az.refl _, p⟩
  stop := fun i H ⟨o, vs, h, r⟩ hi => ⟨vs, .inl (.inr ⟨o, h⟩), by rw [r.length]; exact hi⟩
theorem zr {K : PySem.W.Frag} {a : Addr} {ds : List PyData} : yB (DV K a) (fun H => ∃ vs, H a = some (.tup vs) ∧ bg H ds vs) ds where
  go := fun i H ⟨vs, h, r⟩ hi => by
    have hl := r.length
    exact ⟨vs, vs[i], dS.of h, List.getElem?_eq_getElem (by omega)⟩
  yld := fun i H x H' d ⟨vs, h, r⟩ hd ⟨e, y⟩ => by
    subst e
    obtain ⟨v, e1, p⟩ := r.get hd
    have := y vs (dS.of h)
    rw [e1] at this
    cases this
    exact ⟨az.refl _, p⟩
  stop := fun i H ⟨vs, h, r⟩ hi => ⟨vs, dS.of h, by rw [r.length]; exact hi⟩
def EF (K : PySem.W.Frag) (tl : TE) : TI := fun σ H R => tl σ H fun x H1 => ∃ a, x = .ref a ∧ ((∃ xs, oa K H1 a xs ∧ R (DR K a) H1) ∨ ∃ xs, dS K H1 a xs ∧ R (DV K a) H1)
theorem Ds {l : Expr} {tl : TE} (hl : PE X l tl) : PI X tg l (EF X.K tl) := by
  intro pins s σ H R I h
  refine cR (hl pins s σ H _ I h) fun v s1 ⟨x, H1, I1, r1, q1⟩ => ?_
  obtain ⟨a, e, q⟩ := q1
  subst e
  cases r1
  rcases q with ⟨xs, hq, q⟩ | ⟨xs, hq, q⟩
  · obtain ⟨its, rv, p, hz⟩ := I1.list hq
    refine wpAny_pyIter_list p.isList ?_
    refine ⟨s1.heap.objs.size, [s1.heap.objs.size], _, _, H1, rfl, I1.kept (t' := s1.toks) fun b o e => Heap.get?_push_of_some _ e, vD a _, ⟨_, Heap.get?_push_size _ rfl, rfl, rfl⟩, fun b hb => ?_, q⟩
    have e : b = s1.heap.objs.size := by simpa using hb
    subst e
    exact I1.fpOk (Nat.le_refl _) (I1.hok.fresh (Nat.le_refl _))
  · obtain ⟨its, rv, p, hz⟩ := I1.tuple hq
    refine wpAny_pyIter_tuple (show s1.heap.IsTuple a its.toArray from p) ?_
    refine ⟨s1.heap.objs.size, [s1.heap.objs.size], _, _, H1, rfl, I1.kept (t' := s1.toks) fun b o e => Heap.get?_push_of_some _ e, tw a _, ⟨_, Heap.get?_push_size _ rfl, rfl, rfl⟩, fun b hb => ?_, q⟩
    have e : b = s1.heap.objs.size := by simpa using hb
    subst e
    exact I1.fpOk (Nat.le_refl _) (I1.hok.fresh (Nat.le_refl _))
theorem De (Rk : It → Hp → Prop) : zQ X (fun (r : R (List PyData)) H => match r with | .ok ds => ∀ J H', az H H' → (∃ Gd, yB J Gd ds ∧ DF H' (fun _ => False) Gd) → Rk J H' | .ex c => Xw X c H | .no => False) where
  mono := fun r H H' h s => by
    cases r with
    | ok d => exact fun J H2 s2 => h J H2 (s.trans s2)
    | ex c => exact Xw.mono h s
    | no => exact h
  ex := fun c H h => h
  no := fun H h => h
theorem cn (ha : ah X a fa) : nZ X tg a (dG fa) :=
  PI.imp (Ds ha) fun σ H Rk h => (eG (P := gB) (f := fa) (k := fun _ => iw) (De (X := X) Rk) h).post fun v H1 ⟨_, d, _, _, p1, q1⟩ => by
    cases d with
    | list ds =>
      simp only [Rp] at p1
      obtain ⟨a', o, vs, rfl, h, r⟩ := p1
      exact ⟨a', rfl, .inl ⟨vs, .inl (.inr ⟨o, h⟩), q1 _ H1 (az.refl _) ⟨_, xg, fun H2 k _ => ⟨o, vs, k.2 _ _ _ h, bg.kp k _ _ r⟩⟩⟩⟩
    | tuple ds =>
      simp only [Rp] at p1
      obtain ⟨a', vs, rfl, h, r⟩ := p1
      exact ⟨a', rfl, .inr ⟨vs, dS.of h, q1 _ H1 (az.refl _) ⟨_, zr, fun H2 k _ => ⟨vs, k.1 _ _ h, bg.kp k _ _ r⟩⟩⟩⟩
    | _ => exact q1.elim
theorem Z.cn (ha : Z.ah X a fa) : Z.nZ X tg a (dG fa) :=
  ⟨D2.cn ha.un⟩
def bi (lo : Int) (n : Nat) : List PyData := (List.range n).map fun (k : Nat) => .int (lo + k)
def oy : List PyData → R (List PyData)
  | [.int j] => if -(2 ^ 62) ≤ j ∧ j < 2 ^ 62 then .ok (bi 0 j.toNat) else .no
  | [.int i, .int j] => if -(2 ^ 62) ≤ i ∧ i < 2 ^ 62 ∧ -(2 ^ 62) ≤ j ∧ j < 2 ^ 62 then .ok (bi i (j - i).toNat) else .no
  | _ => .no
def gW (fs : aI → R (List PyData)) : aI → R (List PyData) := fun ρ => fs ρ >>= oy
theorem vF {lo : Int} {n : Nat} : yB (DB lo n) (fun _ => True) (bi lo n) where
  go := fun i H _ hi => by
    show i < n
    simpa [bi] using hi
  yld := fun i H x H' d _ hd ⟨e, y⟩ => by
    subst e
    subst y
    refine ⟨az.refl _, ?_⟩
    unfold bi at hd
    rw [List.getElem?_map] at hd
    cases h : (List.range n)[i]? with
    | none => rw [h] at hd; cases hd
    | some k =>
      rw [h] at hd
      have hk : k = i := by
        rw [List.getElem?_range] at h
        · exact (Option.some.inj h).symm
        · have := (List.getElem?_eq_some_iff.mp h).1
          simpa using this
      subst hk
      cases hd
      exact dk
  stop := fun i H _ hi => by
    show n ≤ i
    simpa [bi] using hi
theorem eh (T : Tb X nl G) (j : Nat) (hG : G[j]? = some ("range" : Str)) (hm : X.mg "range" = none) (ha : me X [a] fs) (hl : ∀ ρ ds, fs ρ = .ok ds → ds.length = 1) (hs : au a = true := by rfl) : nZ X tg (.Call (.Name "range" p) [a] [] pos) (gW fs) :=
  PI.imp (vm (T.gl _ (List.mem_of_getElem? hG)).1 hm ha (a4 hs)) fun σ H Rk ⟨ρ, sl, q⟩ => by
    refine ⟨ρ, sl, ?_⟩
    dsimp only [gW] at q
    cases e : fs ρ with
    | ex c => rw [e] at q; exact q
    | no => rw [e] at q; exact q
    | ok ds =>
      rw [e] at q
      have hlen := hl ρ ds e
      intro vs H1 s1 r1
      match ds, hlen with
      | [d], _ =>
        simp only [RA] at r1
        obtain ⟨v, r', rfl, p1, rfl⟩ := r1
        cases d with
        | int j =>
          have ev : v = .int j := by simpa only [Rp] using p1
          subst ev
          by_cases hz : -(2 ^ 62) ≤ j ∧ j < 2 ^ 62
          · have e2 : oy [.int j] = .ok (bi 0 j.toNat) := if_pos hz
            rw [R.ok_bind, e2] at q
            exact ⟨j, rfl, hz.1, hz.2, q _ H1 s1 ⟨_, vF, fun _ _ _ => True.intro⟩⟩
          · have e2 : oy [.int j] = .no := if_neg hz
            rw [R.ok_bind, e2] at q
            exact q.elim
        | _ => exact q.elim
theorem Z.eh (T : Tb X nl G) (j : Nat) (hG : G[j]? = some ("range" : Str)) (hm : X.mg "range" = none) (ha : Z.me X [a] fs) (hl : ∀ ρ ds, fs ρ = .ok ds → ds.length = 1) (hs : au a = true := by rfl) : Z.nZ X tg (.Call (.Name "range" p) [a] [] pos) (gW fs) :=
  ⟨D2.eh T j hG hm ha.un hl hs⟩
end
def sF (x : Int) : List Int → List Int
  | [] => [x]
  | y :: r => if x ≤ y then x :: y :: r else y :: sF x r
def fP : List Int → List Int
  | [] => []
  | x :: r => sF x (fP r)
theorem la (x : Int) : ∀ l, (sF x l).Perm (x :: l)
  | [] => List.Perm.refl _
  | y :: r => by
    unfold sF
    split
    · exact List.Perm.refl _
    · exact ((la x r).cons y).trans (List.Perm.swap x y r)
theorem fi : ∀ l, (fP l).Perm l
  | [] => List.Perm.refl _
  | x :: r => (la x (fP r)).trans ((fi r).cons x)
theorem lL (x : Int) : ∀ l, l.Pairwise (· ≤ ·) → (sF x l).Pairwise (· ≤ ·)
  | [], _ => by unfold sF; exact List.pairwise_singleton _ _
  | y :: r, h => by
    have h' := List.pairwise_cons.mp h
    unfold sF
    split
    · rename_i hxy
      refine List.pairwise_cons.mpr ⟨fun z hz => ?_, h⟩
      rcases List.mem_cons.mp hz with rfl | hz
      · exact hxy
      · exact Int.le_trans hxy (h'.1 z hz)
    · rename_i hxy
      refine List.pairwise_cons.mpr ⟨fun z hz => ?_, lL x r h'.2⟩
      rcases List.mem_cons.mp ((la x r).mem_iff.mp hz) with rfl | hz
      · omega
      · exact h'.1 z hz
theorem iK : ∀ l, (fP l).Pairwise (· ≤ ·)
  | [] => List.Pairwise.nil
  | x :: r => lL x _ (iK r)
theorem rE {a b : List Int} (hp : a.Perm b) (hs : a.Pairwise (· ≤ ·)) : a = fP b := PySem.W.ksm_same (hp.trans (fi b).symm) hs (iK b)
section
variable {prog : Program} {w : World} {A : Around} {E : Value → Shared → Prop} {s : Shared}
theorem qV {d : Addr} {kvs : List (cV × Value)} {ns : List Int} {Q : Value → Shared → Prop} (hh : A.handled = none) (lo : (d == sysModules) = false) (hd : s.heap.DictOf (df prog w) d kvs) (hk : kvs.map (·.1) = ns.map Sum.inl) (h64 : ns.length < 64)
    (h : ∀ (D : Addr) (h' : Heap) (tk : Nat) (vs : List Value) (e : Nat), s.heap.get? D = none → (∀ b o, s.heap.get? b = some o → h'.get? b = some o) → h'.get? D = some (seqObj "list" vs.toArray e) → IntsAre vs (fP ns) → Q (.ref D) { s with heap := h', toks := tk }) :
    wpAny (model prog w) A (call (.builtin "sorted") [.ref d]) Q E s := by
  obtain ⟨ep, hat⟩ := hd.dictAt
  have hlen : kvs.length = ns.length := by have := congrArg List.length hk; simpa using this
  have hn : kvs.length ≤ sizeLine := by rw [sizeLine_eq]; omega
  refine Calls.call_function_entry kind_sorted plain_sorted entry_sorted (args_sorted1 _) ?_
  unfold Builtin.«sorted»
  refine wpAny_bind (m := checkCount "sorted" 1 1 _) (wpAny_pure ?_)
  refine wpAny_bind (PySem.W.kdu_collect (A := A.in1) (PySem.W.kdl_dict (knd := df prog w) (kvs := kvs) (ep := ep) lo) hh hat hn fun h1 tk acc hk1 hacc => ?_)
  have hl : acc.toList.length = kvs.length := by rw [Array.length_toList]; exact hacc.1
  have hI : IntsAre acc.toList ns := by
    have key : ∀ (l : List Value) (ms : List Int) (k : Nat), l.length = ms.length → (∀ (j : Nat) (v : Value), l[j]? = some v → ∃ n : Int, ms[j]? = some n ∧ ∃ t, v = Value.int n t) → IntsAre l ms := by
      intro l
      induction l with
      | nil => intro ms k e _; have : ms = [] := List.length_eq_zero_iff.mp e.symm; subst this; exact .nil
      | cons v r ih =>
        intro ms k e hv
        cases ms with
        | nil => cases e
        | cons n ms =>
          obtain ⟨n', e1, t, rfl⟩ := hv 0 v rfl
          have : n = n' := Option.some.inj e1
          subst this
          exact .cons n t (ih ms (k + 1) (by simpa using e) fun j u hu => hv (j + 1) u (by simpa using hu))
    refine key acc.toList ns 0 (by rw [hl, hlen]) fun j v hv => ?_
    obtain ⟨κ, x, hx, his⟩ := hacc.2 j v (by rw [← Array.getElem?_toList]; exact hv)
    have e1 : (kvs.map (·.1))[j]? = some κ := by rw [List.getElem?_map, hx]; rfl
    rw [hk, List.getElem?_map] at e1
    cases e2 : ns[j]? with
    | none => rw [e2] at e1; cases e1
    | some n =>
      rw [e2] at e1
      have e3 : Sum.inl n = κ := Option.some.inj e1
      subst e3
      rcases cs (show mZ (Sum.inl n) v = true from his) with ⟨i, t, e4, e5⟩ | ⟨y, t, e4, _⟩
      · cases e4; exact ⟨n, rfl, t, e5⟩
      · cases e4
  refine wpAny_bind (wpAny_newList ?_ (by rw [hl]; exact hn))
  have hoL : (h1.push (seqObj "list" acc.toList.toArray 0)).get? h1.objs.size = some (seqObj "list" acc.toList.toArray 0) := Heap.get?_push_size _ rfl
  show wpAny _ _ _ _ _ { s with heap := h1.push (seqObj "list" acc.toList.toArray 0), toks := tk }
  refine wpAny_bind (wpAny_holding (wpAny_call_entry slot_list_sort ⟨_, hoL, rfl⟩ entry_list_sort (list_sort_tree hoL hI (by rw [hl, hlen]; exact h64) fun out ns' a1 a2 a3 => ⟨_, rfl, ?_⟩) (args_list_sort _)))
  refine wpAny_pure ⟨_, rfl, ?_⟩
  obtain ⟨e, he⟩ := sortedHeap_at (out := out) hoL
  have hsz : s.heap.get? h1.objs.size = none := by
    cases q : s.heap.get? h1.objs.size with
    | none => rfl
    | some o => exact absurd (Heap.lt_size (hk1 _ _ q)) (Nat.lt_irrefl _)
  refine h h1.objs.size _ tk out.toList e hsz (fun b o q => ?_) he (by rw [rE a2 a3] at a1; exact a1)
  have q1 := hk1 b o q
  have hlt : b < h1.objs.size := Heap.lt_size q1
  show (sortedHeap (h1.push (seqObj "list" acc.toList.toArray 0)) h1.objs.size acc.toList out).get? b = some o
  rw [sortedHeap_old (Nat.ne_of_lt hlt) (by rw [size_push']; exact Nat.lt_succ_of_lt hlt)]
  exact Heap.get?_push_of_some _ q1
end
theorem yI {fs ex : List Addr} {H : Hp} {h h' : Heap} {a : Addr} {o : HO} (k : ∀ b u, h.get? b = some u → h'.get? b = some u) (hg : h.get? a = none) (hn : H a = none) : Un fs ex H (ci H a o) h h' := by
  have ne : ∀ {b : Addr} {u : Obj}, h.get? b = some u → b ≠ a := fun e z => by subst z; rw [hg] at e; cases e
  exact ⟨fun b u q _ _ _ => k b u q, fun b u q _ _ _ => ⟨u.slots, k b u q⟩, fun b u q n _ => by rw [ar (ne q)]; exact n, fun b u q _ => ⟨u, k b u q⟩, fun b xs q => by rw [ar (aS q hn)]; exact q, fun b u xs q => by rw [ar (aS q hn)]; exact q,
    fun b ps q => ⟨#[], by rw [ar (aS q hn), q]; simp⟩⟩
theorem qP {X : Cx} {pins : List (Addr × Obj)} {σ : St} {H : Hp} {s : Shared} {h' : Heap} {a : Addr} {o : HO} {t' : Nat} (I : aC X pins σ H s) (k : ∀ b u, s.heap.get? b = some u → h'.get? b = some u) (hg : s.heap.get? a = none) (hn : H a = none)
    (new : bI X.prog X.w (ci H a o) h' a o) : aC X pins σ (ci H a o) { s with heap := h', toks := t' } := by
  refine I.un (yI k hg hn) fun b u e => ?_
  by_cases hb : b = a
  · subst hb; rw [aX] at e; cases e; exact new
  · rw [ar hb] at e
    exact (I.hok b u e).stay (fun c v _ q => k c v q) (fun c q => by rw [ar (aS q hn)]; exact q) fun c xs q => by rw [ar (aS q hn)]; exact q
theorem rn {X : Cx} {pins : List (Addr × Obj)} {σ : St} {H : Hp} {s : Shared} {a : Addr} (I : aC X pins σ H s) (hg : s.heap.get? a = none) : H a = none := by
  cases q : H a with
  | none => rfl
  | some o => obtain ⟨u, e⟩ := qp (I.hok a o q); rw [hg] at e; cases e
section
variable {X : Cx} {a b c : Expr} {fa fb fc : Fe} {pos p2 : Pos} {nl : Nat} {G : List Str} {x : Str} {p : Pos}
def eZ : List PyData → Option (List Int)
  | [] => some []
  | .int i :: ds => (eZ ds).map fun r => i :: r
  | _ => none
theorem jU : ∀ {ds : List PyData} {ns : List Int}, eZ ds = some ns → ds = ns.map PyData.int
  | [], ns, h => by cases h; rfl
  | d :: ds, ns, h => by
    cases d with
    | int i =>
      simp only [eZ] at h
      cases e : eZ ds with
      | none => rw [e] at h; cases h
      | some r =>
        rw [e] at h
        cases h
        rw [List.map_cons, jU e]
    | _ => cases h
theorem lK : ∀ ns : List Int, eZ (ns.map PyData.int) = some ns
  | [] => rfl
  | n :: ns => by simp only [List.map_cons, eZ, lK ns, Option.map_some]
def jw : PyData → R PyData
  | .list ds => match eZ ds with
    | some ns => if ns.length < 64 then .ok (.list ((fP ns).map PyData.int)) else .no
    | none => .no
  | .dict kvs => match eZ (kvs.map (·.1)) with
    | some ns => if ns.length < 64 then .ok (.list ((fP ns).map PyData.int)) else .no
    | none => .no
  | _ => .no
def Bm (K : PySem.W.Frag) : List V → Hp → VK → Prop := fun xs H Q => ∃ p ns, xs = [.ref p] ∧ oa K H p (ns.map V.int) ∧ ns.length < 64 ∧ ∀ l, H l = none → Q (.ref l) (ci H l (.lst ((fP ns).map V.int)))
def B0 : List V → Hp → VK → Prop := fun xs H Q => ∃ p ks ns, xs = [.ref p] ∧ Rd H p (.dK ks) ∧ ks.map (·.1) = ns.map Sum.inl ∧ ns.length < 64 ∧ ∀ l, H l = none → Q (.ref l) (ci H l (.lst ((fP ns).map V.int)))
theorem oV (ns : List Int) : (fP ns).length = ns.length := (fi ns).length_eq
theorem sI : dO X (.builtin "sorted") (Bm X.K) := by
  intro pins s σ H xs us Q I r h
  obtain ⟨p, ns, rfl, hq, h64, q⟩ := h
  obtain ⟨u, rfl, rx⟩ := ja r
  cases rx
  obtain ⟨its, rv, pl, hz⟩ := I.list hq
  have hI : IntsAre its ns := tI rv
  have hl := IntsAre.length hI
  refine sorted_ints pl.isList hI (by omega) fun out ns' a1 a2 a3 => ?_
  rw [rE a2 a3] at a1
  obtain ⟨e, he⟩ := sortedAll_at s.heap its out
  refine ⟨.ref (s.heap.objs.size + 1), _, I.laid (t' := s.toks) (o := .lst ((fP ns).map V.int)) (fun b o e => sortedAll_old e) (Nat.le_succ _) ⟨?_, out.toList, e, jy a1, by simpa [seqObj] using he⟩, rfl, q _ (I.hok.fresh (Nat.le_succ _))⟩
  rw [List.length_map, oV, sizeLine_eq]; omega
theorem sT (hc : X.calm = true) : dO X (.builtin "sorted") B0 := by
  intro pins s σ H xs us Q I r h
  obtain ⟨p, ks, ns, rfl, hq, hk, h64, q⟩ := h
  obtain ⟨u, rfl, rx⟩ := ja r
  cases rx
  obtain ⟨hz, hlo, vs, kv, hd⟩ := mJ I.hok hq
  refine qV (I.ok.hd hc) hlo hd (by rw [← kv.keys]; exact hk) h64 fun D h' tk vs' e hg kp hD hI => ?_
  have hn := rn I hg
  refine ⟨.ref D, _, qP (t' := tk) (o := .lst ((fP ns).map V.int)) I kp hg hn ⟨?_, vs', e, jy hI, by simpa [seqObj] using hD⟩, rfl, q _ hn⟩
  rw [List.length_map, oV, sizeLine_eq]; omega
theorem rl : ∀ {H : Hp} {ns : List Int} {vs : List V}, bg H (ns.map PyData.int) vs → vs = ns.map V.int
  | H, [], vs, r => by rw [List.map_nil] at r; rw [r.nil_inv]; rfl
  | H, n :: ns, vs, r => by
    rw [List.map_cons] at r
    obtain ⟨v, r', rfl, p, t⟩ := r.cons_inv
    have : v = .int n := by simpa only [Rp] using p
    rw [this, rl t]; rfl
theorem rh : ∀ {H : Hp} {kvs : List (PyData × PyData)} {ks : List (cV × V)}, dJ H kvs ks → kvs.map (·.1) = ks.map fun k => fI k.1
  | H, [], ks, r => by simp only [dJ] at r; rw [r]; rfl
  | H, (k, d) :: kvs, ks, r => by
    simp only [dJ, yz] at r
    obtain ⟨x, v, r', rfl, ⟨e, _⟩, t⟩ := r
    rw [List.map_cons, List.map_cons, rh t, e]
theorem oI : ∀ {ks : List (cV × V)} {ns : List Int}, (ks.map fun k => fI k.1) = ns.map PyData.int → ks.map (·.1) = ns.map Sum.inl
  | [], [], _ => rfl
  | [], _ :: _, h => by cases h
  | _ :: _, [], h => by cases h
  | (k, v) :: ks, n :: ns, h => by
    rw [List.map_cons, List.map_cons] at h
    injection h with h1 h2
    rw [List.map_cons, List.map_cons, oI h2]
    cases k with
    | inl i => simp only [fI] at h1; cases h1; rfl
    | inr y => simp only [fI] at h1; cases h1
theorem j9 (T : Tb X nl G) (j : Nat) (hG : G[j]? = some ("sorted" : Str)) (hm : X.mg "sorted" = none) (ha : bD X a fa) (he : au a = true := by rfl) : fO X (.Call (.Name "sorted" p) [a] [] pos) (e1 jw fa) := by
  refine Cg T j hG hm zW PyProof.Rows.boot_sorted (sI.or (sT T.calm)) (fun H x d Q hx q => ?_) ha he
  cases d with
  | list ds =>
    simp only [jw] at q
    cases ei : eZ ds with
    | none => rw [ei] at q; exact q.elim
    | some ns =>
      rw [ei] at q
      dsimp only at q
      by_cases h64 : ns.length < 64
      · rw [if_pos h64] at q
        obtain ⟨a', vs, rfl, h, r⟩ := gf (K := X.K) hx
        rw [jU ei] at r
        rw [rl r] at h
        exact .inl ⟨a', ns, rfl, h, h64, fun l hl => q _ _ (bY hl _) (dq hl (bg.ints _))⟩
      · rw [if_neg h64] at q; exact q.elim
  | dict kvs =>
    simp only [jw] at q
    cases ei : eZ (kvs.map (·.1)) with
    | none => rw [ei] at q; exact q.elim
    | some ns =>
      rw [ei] at q
      dsimp only at q
      by_cases h64 : ns.length < 64
      · rw [if_pos h64] at q
        have hi : oK kvs = false := by
          cases kvs with
          | nil => rfl
          | cons kd kvs =>
            obtain ⟨k, d⟩ := kd
            cases k <;> first | rfl | (simp [eZ] at ei)
        obtain ⟨a', ks, rfl, h, r⟩ := kN hi hx
        have hk := oI ((rh r).symm.trans (jU ei))
        exact .inr ⟨a', ks, ns, rfl, h, hk, h64, fun l hl => q _ _ (bY hl _) (dq hl (bg.ints _))⟩
      · rw [if_neg h64] at q; exact q.elim
  | _ => exact q.elim
theorem Z.j9 (T : Tb X nl G) (j : Nat) (hG : G[j]? = some ("sorted" : Str)) (hm : X.mg "sorted" = none) (ha : Z.bD X a fa) (he : au a = true := by rfl) : Z.fO X (.Call (.Name "sorted" p) [a] [] pos) (e1 jw fa) :=
  ⟨D2.j9 T j hG hm ha.un he⟩
end
section
variable {X : Cx} {a b c : Expr} {fa fb fc : Fe} {pos p2 : Pos} {nl : Nat} {G : List Str} {x : Str} {p : Pos}
theorem ic.change {Fm H : Hp} {σ : St} {ρ : aI} {i : Nat} {d d' : PyData} {a : Addr} {u u' : HO} (h : ic Fm H σ ρ) (h1 : ρ[i]? = some (.own d)) (h2 : σ[i]? = some (some (.ref a))) (hu : H a = some u) (hm : (∃ xs, u = .lst xs) ∨ ∃ ks, u = .dK ks)
    (hr : iU (ci H a u') d' (.ref a)) : ic Fm (ci H a u') σ (ρ.set i (.own d')) := by
  have hFa := h.own i d a h1 h2
  have kp : Kp H (ci H a u') := gq hu hm
  have at_i : ∀ (j : Nat) (e : PyData), (ρ.set i (.own d'))[j]? = some (.own e) → ∃ e0, ρ[j]? = some (.own e0) := fun j e q => by
    rw [List.getElem?_set] at q
    by_cases hij : i = j
    · subst hij; exact ⟨d, h1⟩
    · rw [if_neg hij] at q; exact ⟨e, q⟩
  refine ⟨fun b x e => ?_, ⟨by rw [List.length_set]; exact h.sl.1, fun j c w' e1 e2 => ?_⟩, fun j e b e1 e2 => ?_, fun j k e f b e1 e2 e3 e4 => ?_⟩
  · rw [ar (aS e hFa)]; exact h.fm b x e
  · rw [List.getElem?_set] at e1
    by_cases hij : i = j
    · subst hij
      rw [if_pos rfl] at e1
      split at e1
      · cases e1
        rw [h2] at e2
        cases e2
        exact ⟨_, rfl, hr⟩
      · cases e1
    · rw [if_neg hij] at e1
      have q := h.sl.2 j c w' e1 e2
      cases c with
      | exc p => exact q
      | non => exact True.intro
      | val d1 => obtain ⟨v, z1, z2⟩ := q; exact ⟨v, z1, Rp.kp kp _ _ z2⟩
      | own d1 =>
        obtain ⟨v, z1, z2⟩ := q
        subst z1
        obtain ⟨b, ob, rfl, hb⟩ := pb z2
        have nb : b ≠ a := fun z => hij (by subst z; exact h.apart i j d d1 b h1 e1 h2 e2)
        refine ⟨_, rfl, ?_⟩
        cases d1 <;> simp only [iU] at z2 ⊢
        · obtain ⟨b', vs, e, hb', r⟩ := z2
          cases e
          exact ⟨b, vs, rfl, by rw [ar nb]; exact hb', bg.kp kp _ _ r⟩
        · obtain ⟨b', vs, e, hb', r⟩ := z2
          cases e
          exact ⟨b, vs, rfl, by rw [ar nb]; exact hb', dJ.kp kp _ _ r⟩
  · obtain ⟨e0, q⟩ := at_i j e e1
    exact h.own j e0 b q e2
  · obtain ⟨e0, q⟩ := at_i j e e1
    obtain ⟨f0, q'⟩ := at_i k f e2
    exact h.apart j k e0 f0 b q q' e3 e4
def yt (i : Nat) (fk fv : Fe) : Fs := fun ρ => fv ρ >>= fun v => km (fk ρ) >>= fun k => match ρ[i]? with
  | some (.own (.dict kvs)) => match ia k with
    | some _ => if kvs.length < sizeLine then .ok (.nx (ρ.set i (.own (.dict (tW kvs k v))))) else .no
    | none => .no
  | _ => .no
theorem wk {k : PyData} {κ : cV} (h : ia k = some κ) : k = fI κ := by
  cases k <;> simp only [ia] at h <;> cases h <;> rfl
theorem BA {H : Hp} {κ : cV} {y : V} (h : Rp H (fI κ) y) : y = kV κ := by
  cases κ <;> simp only [fI, Rp] at h <;> exact h
theorem uc {k v : Expr} {fk fv : Fe} {q1 q2 q3 : Pos} (T : Tb X nl G) (n : Nat) (hN : X.N[n]? = some x) (hk : ah X k fk) (hv : ah X v fv) (hs : swapsWith v (some (.Subscript (.Name x q1) k q2)) q3.line X.env = pure false := by rfl) :
    eU X (.Assign [.Subscript (.Name x q1) k q2] v q3) (yt n fk fv) := fun Fm => by
  have hm := T.vis x (List.mem_of_getElem? hN)
  refine PS.imp (zH (by have := T.hu; omega) (im hN hm.1 hm.2.1 hm.2.2) hk hv hs) fun D σ H h => ?_
  refine (mC (P := gB) (f := fv) (k := fun ρ v => km (fk ρ) >>= fun k => match ρ[n]? with
    | some (.own (.dict kvs)) => match ia k with
      | some _ => if kvs.length < sizeLine then .ok (.nx (ρ.set n (.own (.dict (tW kvs k v))))) else .no
      | none => .no
    | _ => .no) h).post fun vv H1 ⟨ρ1, dv, sl1, _, p1, q1⟩ => ?_
  have sl0 : AG X Fm (fun ρ => km (fk ρ) >>= fun k => match ρ[n]? with
    | some (.own (.dict kvs)) => match ia k with
      | some _ => if kvs.length < sizeLine then .ok (.nx (ρ.set n (.own (.dict (tW kvs k dv))))) else .no
      | none => .no
    | _ => .no) D σ H1 := ⟨ρ1, sl1, q1⟩
  cases e : ρ1[n]? with
  | none =>
    exfalso
    rw [e] at q1
    cases e2 : fk ρ1 with
    | ok _ => rw [e2] at q1; exact q1
    | ex _ => rw [e2] at q1; exact q1
    | no => rw [e2] at q1; exact q1
  | some c =>
    rw [e] at q1
    cases c with
    | own d =>
      cases d with
      | dict kvs =>
        obtain ⟨o, h2, w', rfl, p2⟩ := sl1.sl.at e
        simp only [iU] at p2
        obtain ⟨a', ks, rfl, ha, r⟩ := p2
        refine ⟨.ref a', h2, ?_⟩
        refine ⟨ρ1, sl1.sl, ?_⟩
        cases e2 : fk ρ1 with
        | ex _ => rw [e2] at q1; exact q1.elim
        | no => rw [e2] at q1; exact q1
        | ok kd =>
          rw [e2] at q1
          simp only [km, R.ok_bind] at q1
          intro yv H3 s3 p3
          cases e3 : ia kd with
          | none => rw [e3] at q1; exact q1.elim
          | some κ =>
            rw [e3] at q1
            dsimp only at q1
            by_cases hz : kvs.length < sizeLine
            · rw [if_pos hz] at q1
              have ek := wk e3
              subst ek
              have ey := BA p3
              subst ey
              have ha3 := s3 _ _ ha
              have r3 : dJ H3 kvs ks := dJ.kp (Kp.of s3) _ _ r
              refine ⟨a', _, rfl, t6.k ha3 (by rw [r3.length]; exact hz), q1 _ _ ((sl1.mono s3).change e h2 ha3 (.inr ⟨_, rfl⟩) ?_)⟩
              simp only [iU]
              exact ⟨a', _, rfl, aX, dJ.kp (gq ha3 (.inr ⟨_, rfl⟩)) _ _ (dJ.put κ (p1.mono s3) r3)⟩
            · rw [if_neg hz] at q1; exact q1.elim
      | _ =>
        exfalso
        cases e2 : fk ρ1 with
        | ok _ => rw [e2] at q1; exact q1
        | ex _ => rw [e2] at q1; exact q1
        | no => rw [e2] at q1; exact q1
    | _ =>
      exfalso
      cases e2 : fk ρ1 with
      | ok _ => rw [e2] at q1; exact q1
      | ex _ => rw [e2] at q1; exact q1
      | no => rw [e2] at q1; exact q1
theorem Z.uc {k v : Expr} {fk fv : Fe} {q1 q2 q3 : Pos} (T : Tb X nl G) (n : Nat) (hN : X.N[n]? = some x) (hk : Z.ah X k fk) (hv : Z.ah X v fv) (hs : swapsWith v (some (.Subscript (.Name x q1) k q2)) q3.line X.env = pure false := by rfl) : Z.eU X (.Assign [.Subscript (.Name x q1) k q2] v q3) (yt n fk fv) :=
  ⟨D2.uc T n hN hk.un hv.un hs⟩
def fT (i : Nat) (f : Fe) : Fs := fun ρ => km (f ρ) >>= fun d => match ρ[i]? with
  | some (.own (.list ds)) => if ds.length < sizeLine then .ok (.nx (ρ.set i (.own (.list (ds ++ [d]))))) else .no
  | _ => .no
end
section
variable {prog : Program} {w : World} {A : Around} {E : Value → Shared → Prop} {s : Shared}
theorem ug {it t : Addr} {i : Nat} {items : Array Value} {x : Value} {Q : Value → Shared → Prop} (hit : s.heap.IsTupleIter it t i) (ht : s.heap.IsTuple t items) (hx : items[i]? = some x)
    (hQ : ∀ h', h'.IsTupleIter it t (i + 1) → Heap.SameBut it s.heap h' → Q x { s with heap := h' }) : wpAny (model prog w) A (Builtin.SmallTypes.nextOf (.ref it)) Q E s := by
  obtain ⟨ob, hob, hcl, hdt⟩ := id hit
  obtain ⟨ot, hot, _, nt, hdtt⟩ := ht
  unfold Builtin.SmallTypes.nextOf
  refine wpAny_bind (wpAny_callSpecial?_slot (name := Str.ofString "__next__") hit.typeIs F.slot_tuple_iterator_next (wpAny_call_entry F.slot_tuple_iterator_next hit.typeIs F.entry_tuple_iterator_next ?_ (F.args_tuple_iterator_next_1 _)))
  show wpAny _ _ (field (Value.ref it) 0 >>= _) _ _ s
  refine wpAny_bind (wpAny_field hob hdt (x := Value.ref t) rfl ?_)
  show wpAny _ _ (if (Value.ref t == Value.none) = true then _ else _) _ _ s
  rw [if_neg (by intro z; cases z)]
  show wpAny _ _ (field (Value.ref it) 1 >>= _) _ _ s
  refine wpAny_bind (wpAny_field hob hdt (x := Value.int i 0) rfl ?_)
  show wpAny _ _ (seqItems? (Value.ref t) >>= _) _ _ s
  refine wpAny_bind (wpAny_seqItems hot hdtt ?_)
  simp only [hx, Int.toNat_natCast]
  refine wpAny_bind (wpAny_setField hob hdt (by simp) (wpAny_pure ⟨x, rfl, wpAny_pure (hQ _ ⟨_, Heap.get?_update_self _ hob (Obj.isFreed_of_fields (Obj.data_mapFields hdt _)), (Obj.cls_mapFields ..).trans hcl, ?_⟩ (Heap.SameBut.update ..))⟩))
  rw [Obj.data_mapFields hdt]
  simp [rawInt]
theorem mE {it t : Addr} {i : Nat} {items : Array Value} {Q : Value → Shared → Prop} (hh : A.handled = none) (hit : s.heap.IsTupleIter it t i) (ht : s.heap.IsTuple t items) (hx : items[i]? = none)
    (hE : ∀ h' e, Heap.ExtBut it s.heap h' → (∃ o, h'.get? e = some o ∧ o.cls = .type "StopIteration") → E (.ref e) { s with heap := h' }) : wpAny (model prog w) A (Builtin.SmallTypes.nextOf (.ref it)) Q E s := by
  obtain ⟨ob, hob, hcl, hdt⟩ := id hit
  obtain ⟨ot, hot, _, nt, hdtt⟩ := ht
  unfold Builtin.SmallTypes.nextOf
  refine wpAny_bind (wpAny_callSpecial?_slot (name := Str.ofString "__next__") hit.typeIs F.slot_tuple_iterator_next (wpAny_call_entry F.slot_tuple_iterator_next hit.typeIs F.entry_tuple_iterator_next ?_ (F.args_tuple_iterator_next_1 _)))
  show wpAny _ _ (field (Value.ref it) 0 >>= _) _ _ s
  refine wpAny_bind (wpAny_field hob hdt (x := Value.ref t) rfl ?_)
  show wpAny _ _ (if (Value.ref t == Value.none) = true then _ else _) _ _ s
  rw [if_neg (by intro z; cases z)]
  show wpAny _ _ (field (Value.ref it) 1 >>= _) _ _ s
  refine wpAny_bind (wpAny_field hob hdt (x := Value.int i 0) rfl ?_)
  show wpAny _ _ (seqItems? (Value.ref t) >>= _) _ _ s
  refine wpAny_bind (wpAny_seqItems hot hdtt ?_)
  simp only [hx, Int.toNat_natCast]
  refine wpAny_bind (wpAny_rule (wpAny_bind (wpAny_setField hob hdt (by simp) ?_)))
  show wpAny _ _ (newExc (Value.type "StopIteration") [] >>= _) _ _ _
  refine wpAny_bind ?_
  simp only [newTuple, newExc]
  refine wpAny_bind (wpAny_newObj_type ?_ (by size_fits))
  refine wpAny_bind (m := firstArgMember _ _) (wpAny_of_eq (a := Value.none) (by first | rfl | (simp only [firstArgMember]; rfl)) ?_)
  refine wpAny_newObj_type ?_ (by size_fits)
  simp only [raiseNew]
  refine wpAny_bind (wpAny_handled ?_)
  first | rw [show A.in1.handled = none from hh] | rw [hh]
  exact wpAny_bind (wpAny_pure (wpAny_throw (hE _ _ (((Heap.SameBut.update ..).extBut.push _).push _) ⟨_, Heap.get?_push_size _ rfl, rfl⟩)))
end
def gE (h : Heap) (i l : Addr) (k : Nat) (xs : Array Value) : Prop := (h.IsListIter i l k ∧ h.IsList l xs) ∨ (h.IsTupleIter i l k ∧ h.IsTuple l xs)
section
variable {h h' : Heap} {i l : Addr} {k : Nat} {xs : Array Value}
theorem gE.keep (x : gE h i l k xs) (hi : ∀ o, h.get? i = some o → h'.get? i = some o) (hl : ∀ o, h.get? l = some o → h'.get? l = some o) : gE h' i l k xs := by
  rcases x with ⟨⟨o, e, r⟩, ⟨o', e', r'⟩⟩ | ⟨⟨o, e, r⟩, ⟨o', e', r'⟩⟩
  · exact .inl ⟨⟨o, hi _ e, r⟩, ⟨o', hl _ e', r'⟩⟩
  · exact .inr ⟨⟨o, hi _ e, r⟩, ⟨o', hl _ e', r'⟩⟩
end
section
variable {prog : Program} {w : World} {A : Around} {E : Value → Shared → Prop} {s : Shared} {i l : Addr} {k : Nat} {xs : Array Value}
theorem kz {x : Value} {Q : Value → Shared → Prop} (it : gE s.heap i l k xs) (hne : l ≠ i) (hx : xs[k]? = some x) (hQ : ∀ h', gE h' i l (k + 1) xs → Heap.SameBut i s.heap h' → Q x { s with heap := h' }) :
    wpAny (model prog w) A (Builtin.SmallTypes.nextOf (.ref i)) Q E s := by
  rcases it with ⟨h1, h2⟩ | ⟨h1, h2⟩
  · exact wpAny_nextOf_list_item h1 h2 hx fun h' a b => hQ h' (.inl ⟨a, h2.extBut b.extBut hne⟩) b
  · exact ug h1 h2 hx fun h' a b => hQ h' (.inr ⟨a, h2.extBut b.extBut hne⟩) b
theorem gc {Q : Value → Shared → Prop} (hh : A.handled = none) (it : gE s.heap i l k xs) (hx : xs[k]? = none)
    (hE : ∀ h' e, Heap.ExtBut i s.heap h' → (∃ o, h'.get? e = some o ∧ o.cls = .type "StopIteration") → E (.ref e) { s with heap := h' }) : wpAny (model prog w) A (Builtin.SmallTypes.nextOf (.ref i)) Q E s := by
  rcases it with ⟨h1, h2⟩ | ⟨h1, h2⟩
  · exact wpAny_nextOf_list_end hh h1 h2 hx hE
  · exact mE hh h1 h2 hx hE
def t9 (h : Heap) (l : Addr) (xs : Array Value) : Prop := h.IsList l xs ∨ h.IsTuple l xs
end
structure ZA (z p q i j l m : Addr) : Prop where
  pz : p ≠ z
  qz : q ≠ z
  iz : i ≠ z
  jz : j ≠ z
  pq : p ≠ q
  pi : p ≠ i
  pj : p ≠ j
  qi : q ≠ i
  qj : q ≠ j
  ij : i ≠ j
  lz : l ≠ z
  lq : l ≠ q
  li : l ≠ i
  lj : l ≠ j
  mz : m ≠ z
  mq : m ≠ q
  mi : m ≠ i
  mj : m ≠ j
structure yD (h : Heap) (z p q i j l m : Addr) (f0 : Value) (k : Nat) (xs ys : Array Value) : Prop where
  zz : IsZip h z p q f0
  pp : IsPair h p (.ref i) (.ref j)
  qq : ∃ a b, IsPair h q a b
  ii : gE h i l k xs
  jj : gE h j m k ys
section
variable {prog : Program} {w : World} {A : Around} {E : Value → Shared → Prop} {s : Shared} {z p q i j l m : Addr} {k : Nat} {xs ys : Array Value}
theorem xi {x y : Value} {Q : Value → Shared → Prop} (D : ZA z p q i j l m) (S : yD s.heap z p q i j l m .none k xs ys) (hx : xs[k]? = some x) (hy : ys[k]? = some y)
    (hQ : ∀ h', yD h' z p q i j l m (rawInt s.heap.objs.size) (k + 1) xs ys → IsPair h' s.heap.objs.size x y → (∀ c o, c ≠ z → c ≠ q → c ≠ i → c ≠ j → s.heap.get? c = some o → h'.get? c = some o) → Q (.ref s.heap.objs.size) { s with heap := h' }) :
    wpAny (model prog w) A (Builtin.«zip.__next__» ⟨[.ref z], []⟩) (fun fin s' => ∃ v, fin = .done (.ret v) ∧ Q v s') E s := by
  obtain ⟨hz, hp, ⟨a, b, hq⟩, hi, hj⟩ := S
  show wpAny _ _ (field (Value.ref z) 2 >>= _) _ _ _
  refine wpAny_bind (wpAny_field hz rfl (x := Value.bool false) rfl ?_)
  show wpAny _ _ (field (Value.ref z) 3 >>= _) _ _ _
  refine wpAny_bind (wpAny_field hz rfl (x := Value.ref p) rfl ?_)
  refine wpAny_bind (wpAny_seqItems hp rfl ?_)
  show wpAny _ _ (Builtin.SmallTypes.ownedTupleIsFree (Value.ref z) >>= _) _ _ _
  refine wpAny_bind ?_
  unfold Builtin.SmallTypes.ownedTupleIsFree
  refine wpAny_bind (wpAny_field hz rfl (x := Value.none) rfl (wpAny_pure ?_))
  simp only [if_true]
  refine wpAny_bind (wpAny_rule ?_)
  refine wpAny_bind (wpAny_field hz rfl (x := Value.ref q) rfl ?_)
  refine wpAny_bind (wpAny_setField_rec hz (by simp) fun g1 z1 s1 => ?_)
  replace z1 : IsZip g1 z p q .ellipsis := z1
  refine wpAny_bind ?_
  simp only [List.zipIdx_cons, List.zipIdx_nil, List.forIn_cons, List.forIn_nil]
  refine wpAny_bind (wpAny_bind (wpAny_onRaise ?_))
  show wpAny _ _ (Builtin.SmallTypes.nextOf (Value.ref i) >>= _) _ _ _
  have hi1 : gE g1 i l k xs := hi.keep (fun o e => s1.extBut _ _ D.iz e) fun o e => s1.extBut _ _ D.lz e
  refine wpAny_bind (kz hi1 D.li hx fun g2 i2 s2 => wpAny_pure ?_)
  have q2 : IsPair g2 q a b := s2.extBut _ _ D.qi (s1.extBut _ _ D.qz hq)
  refine wpAny_bind (wpAny_seqItems q2 rfl ?_)
  refine wpAny_bind (wpAny_updateSeq_pair q2 fun g3 q3 s3 => ?_)
  replace q3 : IsPair g3 q x b := q3
  refine wpAny_bind (wpAny_letGo (wpAny_pure ?_))
  refine wpAny_bind (wpAny_bind (wpAny_onRaise ?_))
  show wpAny _ _ (Builtin.SmallTypes.nextOf (Value.ref j) >>= _) _ _ _
  have hj3 : gE g3 j m k ys := hj.keep (fun o e => s3.extBut _ _ D.qj.symm (s2.extBut _ _ D.ij.symm (s1.extBut _ _ D.jz e))) fun o e => s3.extBut _ _ D.mq (s2.extBut _ _ D.mi (s1.extBut _ _ D.mz e))
  refine wpAny_bind (kz hj3 D.mj hy fun g4 j4 s4 => wpAny_pure ?_)
  have q4 : IsPair g4 q x b := s4.extBut _ _ D.qj q3
  refine wpAny_bind (wpAny_seqItems q4 rfl ?_)
  refine wpAny_bind (wpAny_updateSeq_pair q4 fun g5 q5 s5 => ?_)
  replace q5 : IsPair g5 q x y := q5
  refine wpAny_bind (wpAny_letGo (wpAny_pure (wpAny_pure ?_)))
  refine wpAny_bind (wpAny_seqItems q5 rfl ?_)
  refine wpAny_bind (wpAny_newTuple ?_)
  have hsz : g5.objs.size = s.heap.objs.size := by rw [s5.1, s4.1, s3.1, s2.1, s1.1]
  have z5 : IsZip g5 z p q .ellipsis := s5.extBut _ _ D.qz.symm (s4.extBut _ _ D.jz.symm (s3.extBut _ _ D.qz.symm (s2.extBut _ _ D.iz.symm z1)))
  have k5 : ∀ c o, c ≠ z → c ≠ q → c ≠ i → c ≠ j → s.heap.get? c = some o → g5.get? c = some o := fun c o c1 c2 c3 c4 e => s5.extBut _ _ c2 (s4.extBut _ _ c4 (s3.extBut _ _ c2 (s2.extBut _ _ c3 (s1.extBut _ _ c1 e))))
  have i5 : gE g5 i l (k + 1) xs := i2.keep (fun o e => s5.extBut _ _ D.qi.symm (s4.extBut _ _ D.ij (s3.extBut _ _ D.qi.symm e))) fun o e => s5.extBut _ _ D.lq (s4.extBut _ _ D.lj (s3.extBut _ _ D.lq e))
  have j5 : gE g5 j m (k + 1) ys := j4.keep (fun o e => s5.extBut _ _ D.qj.symm e) fun o e => s5.extBut _ _ D.mq e
  have zlt : z < g5.objs.size := Heap.lt_size z5
  show wpAny _ _ (Builtin.SmallTypes.ownedTupleHandOut (Value.ref z) (Value.ref g5.objs.size) >>= _) _ _ _
  refine wpAny_bind ?_
  unfold Builtin.SmallTypes.ownedTupleHandOut
  have z6 : IsZip (g5.push { cls := .type "tuple", data := .seq #[x, y] }) z p q .ellipsis := Heap.get?_push_of_some _ z5
  refine wpAny_bind (wpAny_setField_rec z6 (by simp) fun g7 z7 s7 => ?_)
  replace z7 : IsZip g7 z p q (rawInt g5.objs.size) := z7
  refine wpAny_setField_rec z7 (by simp) fun g8 z8 s8 => ?_
  replace z8 : IsZip g8 z p q (rawInt g5.objs.size) := z8
  have up : ∀ c o, c ≠ z → g5.get? c = some o → g8.get? c = some o := fun c o c1 e => s8.extBut _ _ c1 (s7.extBut _ _ c1 (Heap.get?_push_of_some _ e))
  have t8 : IsPair g8 g5.objs.size x y := s8.extBut _ _ (Nat.ne_of_gt zlt) (s7.extBut _ _ (Nat.ne_of_gt zlt) (Heap.get?_push_size _ rfl))
  rw [hsz] at z8 t8
  refine wpAny_pure ⟨_, rfl, ?_⟩
  show Q (.ref g5.objs.size) _
  rw [hsz]
  exact hQ g8 ⟨z8, up _ _ D.pz (k5 _ _ D.pz D.pq D.pi D.pj hp), ⟨x, y, up _ _ D.qz q5⟩, i5.keep (fun o e => up _ _ D.iz e) fun o e => up _ _ D.lz e, j5.keep (fun o e => up _ _ D.jz e) fun o e => up _ _ D.mz e⟩ t8 fun c o c1 c2 c3 c4 e => up c o c1 (k5 c o c1 c2 c3 c4 e)
theorem An {Q : PySem.Fin → Shared → Prop} (hh : A.handled = none) (D : ZA z p q i j l m) (S : yD s.heap z p q i j l m .none k xs ys) (hend : xs[k]? = none ∨ ys[k]? = none)
    (hE : ∀ h' e, (∀ c o, c ≠ z → c ≠ q → c ≠ i → c ≠ j → s.heap.get? c = some o → h'.get? c = some o) → (∃ o, h'.get? e = some o ∧ o.cls = .type "StopIteration") → E (.ref e) { s with heap := h' }) :
    wpAny (model prog w) A (Builtin.«zip.__next__» ⟨[.ref z], []⟩) Q E s := by
  obtain ⟨hz, hp, ⟨a, b, hq⟩, hi, hj⟩ := S
  show wpAny _ _ (field (Value.ref z) 2 >>= _) _ _ _
  refine wpAny_bind (wpAny_field hz rfl (x := Value.bool false) rfl ?_)
  show wpAny _ _ (field (Value.ref z) 3 >>= _) _ _ _
  refine wpAny_bind (wpAny_field hz rfl (x := Value.ref p) rfl ?_)
  refine wpAny_bind (wpAny_seqItems hp rfl ?_)
  show wpAny _ _ (Builtin.SmallTypes.ownedTupleIsFree (Value.ref z) >>= _) _ _ _
  refine wpAny_bind ?_
  unfold Builtin.SmallTypes.ownedTupleIsFree
  refine wpAny_bind (wpAny_field hz rfl (x := Value.none) rfl (wpAny_pure ?_))
  simp only [if_true]
  refine wpAny_bind (wpAny_rule ?_)
  refine wpAny_bind (wpAny_field hz rfl (x := Value.ref q) rfl ?_)
  refine wpAny_bind (wpAny_setField_rec hz (by simp) fun g1 z1 s1 => ?_)
  replace z1 : IsZip g1 z p q .ellipsis := z1
  refine wpAny_bind ?_
  simp only [List.zipIdx_cons, List.zipIdx_nil, List.forIn_cons, List.forIn_nil]
  refine wpAny_bind (wpAny_bind (wpAny_onRaise ?_))
  show wpAny _ _ (Builtin.SmallTypes.nextOf (Value.ref i) >>= _) _ _ _
  have hi1 : gE g1 i l k xs := hi.keep (fun o e => s1.extBut _ _ D.iz e) fun o e => s1.extBut _ _ D.lz e
  cases hx : xs[k]? with
  | none =>
    refine wpAny_bind (gc hh hi1 hx fun g2 e s2 he => ?_)
    obtain ⟨oe, hoe, hce⟩ := he
    have z2 : IsZip g2 z p q .ellipsis := s2 _ _ D.iz.symm z1
    have hez : e ≠ z := fun t => by subst t; rw [z2] at hoe; cases hoe; simp at hce
    exact wpAny_setField_rec z2 (by simp) fun g3 _ s3 => hE g3 e (fun c o c1 _ c3 _ t => s3.extBut _ _ c1 (s2 _ _ c3 (s1.extBut _ _ c1 t))) ⟨oe, s3.extBut _ _ hez hoe, hce⟩
  | some x =>
    have hy : ys[k]? = none := by rcases hend with t | t; rw [hx] at t; cases t; exact t
    refine wpAny_bind (kz hi1 D.li hx fun g2 i2 s2 => wpAny_pure ?_)
    have q2 : IsPair g2 q a b := s2.extBut _ _ D.qi (s1.extBut _ _ D.qz hq)
    refine wpAny_bind (wpAny_seqItems q2 rfl ?_)
    refine wpAny_bind (wpAny_updateSeq_pair q2 fun g3 q3 s3 => ?_)
    refine wpAny_bind (wpAny_letGo (wpAny_pure ?_))
    refine wpAny_bind (wpAny_bind (wpAny_onRaise ?_))
    show wpAny _ _ (Builtin.SmallTypes.nextOf (Value.ref j) >>= _) _ _ _
    have hj3 : gE g3 j m k ys := hj.keep (fun o e => s3.extBut _ _ D.qj.symm (s2.extBut _ _ D.ij.symm (s1.extBut _ _ D.jz e))) fun o e => s3.extBut _ _ D.mq (s2.extBut _ _ D.mi (s1.extBut _ _ D.mz e))
    refine wpAny_bind (gc hh hj3 hy fun g4 e s4 he => ?_)
    obtain ⟨oe, hoe, hce⟩ := he
    have z4 : IsZip g4 z p q .ellipsis := s4 _ _ D.jz.symm (s3.extBut _ _ D.qz.symm (s2.extBut _ _ D.iz.symm z1))
    have hez : e ≠ z := fun t => by subst t; rw [z4] at hoe; cases hoe; simp at hce
    exact wpAny_setField_rec z4 (by simp) fun g5 _ s5 => hE g5 e (fun c o c1 c2 c3 c4 t => s5.extBut _ _ c1 (s4 _ _ c4 (s3.extBut _ _ c2 (s2.extBut _ _ c3 (s1.extBut _ _ c1 t))))) ⟨oe, s5.extBut _ _ hez hoe, hce⟩
theorem tf {x y : Value} {Q : Option Value → Shared → Prop} (D : ZA z p q i j l m) (S : yD s.heap z p q i j l m .none k xs ys) (hx : xs[k]? = some x) (hy : ys[k]? = some y)
    (hQ : ∀ h', yD h' z p q i j l m (rawInt s.heap.objs.size) (k + 1) xs ys → IsPair h' s.heap.objs.size x y → (∀ c o, c ≠ z → c ≠ q → c ≠ i → c ≠ j → s.heap.get? c = some o → h'.get? c = some o) → Q (some (.ref s.heap.objs.size)) { s with heap := h' }) :
    wpAny (model prog w) A (pyNext (.ref z)) Q E s := by
  have hT : s.TypeIs (.ref z) "zip" := ⟨_, S.zz, rfl⟩
  unfold pyNext
  exact wpAny_bind (wpAny_attempt (wpAny_callSpecial?_slot (name := Str.ofString "__next__") hT F.slot_zip_next (wpAny_call_entry F.slot_zip_next hT F.entry_zip_next (xi D S hx hy fun h' a b c => wpAny_pure (hQ h' a b c)) (F.args_zip_next_1 _))))
theorem vq {Q : Option Value → Shared → Prop} (hh : A.handled = none) (D : ZA z p q i j l m) (S : yD s.heap z p q i j l m .none k xs ys) (hend : xs[k]? = none ∨ ys[k]? = none)
    (hQ : ∀ h', (∀ c o, c ≠ z → c ≠ q → c ≠ i → c ≠ j → s.heap.get? c = some o → h'.get? c = some o) → Q none { s with heap := h' }) : wpAny (model prog w) A (pyNext (.ref z)) Q E s := by
  have hT : s.TypeIs (.ref z) "zip" := ⟨_, S.zz, rfl⟩
  unfold pyNext
  refine wpAny_bind (wpAny_attempt (wpAny_callSpecial?_slot (name := Str.ofString "__next__") hT F.slot_zip_next (wpAny_call_entry F.slot_zip_next hT F.entry_zip_next (An hh D S hend fun h' e hk he => ?_) (F.args_zip_next_1 _))))
  obtain ⟨o, ho, hc⟩ := he
  exact wpAny_bind (wpAny_isInstance (T := "StopIteration") (b := true) ⟨o, ho, hc⟩ isSubtype_stop (wpAny_pure (hQ _ hk)))
theorem yF (l m : Addr) (xs ys : Array Value) : Meets (Builtin.«zip.__new__» ⟨[.type "zip", .ref l, .ref m], []⟩) (fun _ R s => t9 s.heap l xs ∧ t9 s.heap m ys ∧
    ∀ h', h'.objs.size = s.heap.objs.size + 5 → yD h' (s.heap.objs.size + 4) (s.heap.objs.size + 2) (s.heap.objs.size + 3) s.heap.objs.size (s.heap.objs.size + 1) l m .none 0 xs ys → (∀ c o, s.heap.get? c = some o → h'.get? c = some o) →
      R (.ok (.ret (.ref (s.heap.objs.size + 4)))) { s with heap := h' }) :=
  .of_wp fun prog w A R s h => by
    obtain ⟨hp, g, d, tk, os⟩ := s; obtain ⟨h1, h2, h⟩ := h
    have hsub := sub_zip
    have fin : ∀ (oi oj : Obj), gE (hp.push oi) hp.objs.size l 0 xs → gE ((hp.push oi).push oj) (hp.push oi).objs.size m 0 ys →
        R (.ok (.ret (.ref ((((hp.push oi).push oj).push { cls := .type "tuple", data := .seq #[.ref hp.objs.size, .ref (hp.push oi).objs.size] }).push { cls := .type "tuple", data := .seq #[.none, .none] }).objs.size)))
          ⟨((((hp.push oi).push oj).push { cls := .type "tuple", data := .seq #[.ref hp.objs.size, .ref (hp.push oi).objs.size] }).push { cls := .type "tuple", data := .seq #[.none, .none] }).push { cls := .type "zip", data := .fields #[.none, .bool false, .bool false, .ref ((hp.push oi).push oj).objs.size, .ref (((hp.push oi).push oj).push { cls := .type "tuple", data := .seq #[.ref hp.objs.size, .ref (hp.push oi).objs.size] }).objs.size] }, g, d, tk, os⟩ := fun oi oj hi hj => by
      have e1 : (hp.push oi).objs.size = hp.objs.size + 1 := Heap.size_push ..
      have e2 : ((hp.push oi).push oj).objs.size = hp.objs.size + 2 := by rw [Heap.size_push, e1]
      have e3 : (((hp.push oi).push oj).push { cls := .type "tuple", data := .seq #[.ref hp.objs.size, .ref (hp.push oi).objs.size] }).objs.size = hp.objs.size + 3 := by rw [Heap.size_push, e2]
      have e4 : ((((hp.push oi).push oj).push { cls := .type "tuple", data := .seq #[.ref hp.objs.size, .ref (hp.push oi).objs.size] }).push { cls := .type "tuple", data := .seq #[.none, .none] }).objs.size = hp.objs.size + 4 := by rw [Heap.size_push, e3]
      rw [e4, e3, e2]
      rw [e1] at hj ⊢
      have kk : ∀ (c : Addr) (o a b c' : Obj), ((hp.push oi).push oj).get? c = some o → (((((hp.push oi).push oj).push a).push b).push c').get? c = some o := fun c o a b c' e => Heap.get?_push_of_some _ (Heap.get?_push_of_some _ (Heap.get?_push_of_some _ e))
      refine h _ (by rw [Heap.size_push, Heap.size_push, Heap.size_push, e2]) ⟨?_, ?_, ⟨.none, .none, ?_⟩, ?_, ?_⟩ fun c o e => kk _ _ _ _ _ (Heap.get?_push_of_some _ (Heap.get?_push_of_some _ e))
      · have : hp.objs.size + 4 = ((((hp.push oi).push oj).push { cls := .type "tuple", data := .seq #[.ref hp.objs.size, .ref (hp.objs.size + 1)] }).push { cls := .type "tuple", data := .seq #[.none, .none] }).objs.size := by rw [Heap.size_push, Heap.size_push, e2]
        show Heap.get? _ (hp.objs.size + 4) = _
        rw [this]
        exact Heap.get?_push_size _ rfl
      · refine Heap.get?_push_of_some _ (Heap.get?_push_of_some _ ?_)
        show Heap.get? _ (hp.objs.size + 2) = _
        rw [← e2]
        exact Heap.get?_push_size _ rfl
      · refine Heap.get?_push_of_some _ ?_
        have : hp.objs.size + 3 = (((hp.push oi).push oj).push { cls := .type "tuple", data := .seq #[.ref hp.objs.size, .ref (hp.objs.size + 1)] }).objs.size := by rw [Heap.size_push, e2]
        show Heap.get? _ (hp.objs.size + 3) = _
        rw [this]
        exact Heap.get?_push_size _ rfl
      · exact hi.keep (fun o e => kk _ _ _ _ _ (Heap.get?_push_of_some _ e)) fun o e => kk _ _ _ _ _ (Heap.get?_push_of_some _ e)
      · exact hj.keep (fun o e => kk _ _ _ _ _ e) fun o e => kk _ _ _ _ _ e
    rcases h1 with h1 | h1 <;> rcases h2 with h2 | h2
    · have l1 : Heap.IsList (Shared.heap ⟨hp, g, d, tk, os⟩) l xs := h1
      have l2 : Heap.IsList (Shared.heap ⟨hp.push { cls := .type "list_iterator", data := .fields #[.ref l, .int 0 0] }, g, d, tk, os⟩) m ys := Heap.IsList.push h2 _
      wp_walk using wpAny_pyIter_list l1, wpAny_pyIter_list l2
      exact ⟨_, rfl, fin _ _ (.inl ⟨⟨_, Heap.get?_push_size _ rfl, rfl, rfl⟩, Heap.IsList.push h1 _⟩) (.inl ⟨⟨_, Heap.get?_push_size _ rfl, rfl, rfl⟩, Heap.IsList.push l2 _⟩)⟩
    · have l1 : Heap.IsList (Shared.heap ⟨hp, g, d, tk, os⟩) l xs := h1
      have l2 : Heap.IsTuple (Shared.heap ⟨hp.push { cls := .type "list_iterator", data := .fields #[.ref l, .int 0 0] }, g, d, tk, os⟩) m ys := Heap.IsTuple.push h2 _
      wp_walk using wpAny_pyIter_list l1, wpAny_pyIter_tuple l2
      exact ⟨_, rfl, fin _ _ (.inl ⟨⟨_, Heap.get?_push_size _ rfl, rfl, rfl⟩, Heap.IsList.push h1 _⟩) (.inr ⟨⟨_, Heap.get?_push_size _ rfl, rfl, rfl⟩, Heap.IsTuple.push l2 _⟩)⟩
    · have l1 : Heap.IsTuple (Shared.heap ⟨hp, g, d, tk, os⟩) l xs := h1
      have l2 : Heap.IsList (Shared.heap ⟨hp.push { cls := .type "tuple_iterator", data := .fields #[.ref l, .int 0 0] }, g, d, tk, os⟩) m ys := Heap.IsList.push h2 _
      wp_walk using wpAny_pyIter_tuple l1, wpAny_pyIter_list l2
      exact ⟨_, rfl, fin _ _ (.inr ⟨⟨_, Heap.get?_push_size _ rfl, rfl, rfl⟩, Heap.IsTuple.push h1 _⟩) (.inl ⟨⟨_, Heap.get?_push_size _ rfl, rfl, rfl⟩, Heap.IsList.push l2 _⟩)⟩
    · have l1 : Heap.IsTuple (Shared.heap ⟨hp, g, d, tk, os⟩) l xs := h1
      have l2 : Heap.IsTuple (Shared.heap ⟨hp.push { cls := .type "tuple_iterator", data := .fields #[.ref l, .int 0 0] }, g, d, tk, os⟩) m ys := Heap.IsTuple.push h2 _
      wp_walk using wpAny_pyIter_tuple l1, wpAny_pyIter_tuple l2
      exact ⟨_, rfl, fin _ _ (.inr ⟨⟨_, Heap.get?_push_size _ rfl, rfl, rfl⟩, Heap.IsTuple.push h1 _⟩) (.inr ⟨⟨_, Heap.get?_push_size _ rfl, rfl, rfl⟩, Heap.IsTuple.push l2 _⟩)⟩
theorem x9 {Q : Value → Shared → Prop} {l m : Addr} (h1 : t9 s.heap l xs) (h2 : t9 s.heap m ys)
    (h : ∀ h', h'.objs.size = s.heap.objs.size + 5 → yD h' (s.heap.objs.size + 4) (s.heap.objs.size + 2) (s.heap.objs.size + 3) s.heap.objs.size (s.heap.objs.size + 1) l m .none 0 xs ys → (∀ c o, s.heap.get? c = some o → h'.get? c = some o) →
      Q (.ref (s.heap.objs.size + 4)) { s with heap := h' }) : wpAny (model prog w) A (call (.type "zip") [.ref l, .ref m]) Q E s := by
  refine callType_new F.called_zip (by decide) (F.typeCall_zip_2 _ _) (F.newCall_zip_2 _ _) (fun obj => F.args_object_init_3 obj _ _) F.entry_zip_new (yF l m xs ys) ⟨h1, h2, fun h' e S k => ?_⟩
  exact ⟨⟨_, S.zz, rfl⟩, h h' e S k⟩
end
section
variable {X : Cx} {pins : List (Addr × Obj)} {σ : St} {H : Hp} {s : Shared} {h' : Heap}
theorem fD {t' : Nat} {fp : List Addr} (I : aC X pins σ H s) (k : ∀ b o, b ∉ fp → s.heap.get? b = some o → h'.get? b = some o) (hf : ∀ b ∈ fp, lp X pins H b) : aC X pins σ H { s with heap := h', toks := t' } := by
  have away : ∀ b u, H b = some u → b ∉ fp := fun b u e z => by rw [(hf b z).1] at e; cases e
  have frame : X.env.locals ∉ fp := fun z => (hf _ z).2.1 rfl
  refine I.step (g' := s.gens) (d' := s.drawn) (ch := fp) (fun b hb => ⟨(hf b hb).2.2.2.1, (hf b hb).2.1, (hf b hb).2.2.2.2.1, (hf b hb).2.2.2.2.2⟩) (fun b o _ _ hc e _ => k b o hc e) (fun b o _ _ hc e _ => ⟨o.slots, k b o hc e⟩) (fun _ _ _ _ n => n)
    (fun b o hc e => ⟨o, k b o hc e⟩) (fun _ _ e => e) (fun _ _ _ e => e) (fun b ps e => ⟨#[], by rw [e]; simp⟩) (fun m ⟨o, es, ep, ho, r⟩ => ⟨o, es, ep, k _ o frame ho, r⟩) (fun b u e => ?_) I.bare
  refine (I.hok b u e).stay (fun c v hc q => k c v ?_ q) (fun _ q => q) fun _ _ q => q
  rcases hc with z | z
  · rw [z]; exact away b u e
  · exact away c _ z
theorem rf {h : Heap} {o o' : Obj} {b : Addr} (hb : b ≠ h.objs.size) (e : (h.push o).get? b = some o') : h.get? b = some o' := by
  unfold Heap.get? Heap.push at e
  unfold Heap.get?
  simp only [Array.getElem?_push] at e
  rw [if_neg hb] at e
  exact e
theorem uM {t' : Nat} {fp : List Addr} {u1 u2 : Value} {v1 v2 : V} (I : aC X pins σ H s) (hf : ∀ b ∈ fp, lp X pins H b) (hob : ∀ b ∈ fp, b < s.heap.objs.size) (ht : IsPair h' s.heap.objs.size u1 u2) (k : ∀ b o, b ∉ fp → s.heap.get? b = some o → h'.get? b = some o)
    (r1 : bf v1 u1) (r2 : bf v2 u2) : aC X pins σ (ci H s.heap.objs.size (.tup [v1, v2])) { s with heap := h', toks := t' } := by
  have I1 : aC X pins σ (ci H s.heap.objs.size (.tup [v1, v2])) { s with heap := s.heap.push { cls := .type "tuple", data := .seq #[u1, u2] }, toks := s.toks } :=
    I.laid (fun b u e => Heap.get?_push_of_some _ e) (Nat.le_refl _) ⟨by show 2 ≤ sizeLine; decide, [u1, u2], .cons r1 (.cons r2 .nil), _, Heap.get?_push_size _ rfl, rfl, _, rfl⟩
  refine fD (fp := fp) (s := { s with heap := s.heap.push { cls := .type "tuple", data := .seq #[u1, u2] }, toks := s.toks }) I1 (fun b o hb e => ?_) fun b hb => ?_
  · by_cases hz : b = s.heap.objs.size
    · subst hz
      have e' : (s.heap.push { cls := .type "tuple", data := .seq #[u1, u2] }).get? s.heap.objs.size = some o := e
      rw [Heap.get?_push_size _ rfl] at e'
      cases e'
      exact ht
    · exact k b o hb (rf hz e)
  · obtain ⟨f0, f1, f2, f3, f4, f5⟩ := hf b hb
    exact ⟨by rw [ar (Nat.ne_of_lt (hob b hb))]; exact f0, f1, f2, f3, f4, f5⟩
end
def qY (K : PySem.W.Frag) (H : Hp) (a : Addr) (xs : List V) : Bool → Prop
  | true => dS K H a xs
  | false => oa K H a xs
def fR (h : Heap) (i l : Addr) (k : Nat) : Bool → Prop
  | true => h.IsTupleIter i l k
  | false => h.IsListIter i l k
theorem fR.keep {h h' : Heap} {i l : Addr} {k : Nat} {b : Bool} (x : fR h i l k b) (hi : ∀ o, h.get? i = some o → h'.get? i = some o) : fR h' i l k b := by
  cases b
  · obtain ⟨o, e, r⟩ := x; exact ⟨o, hi _ e, r⟩
  · obtain ⟨o, e, r⟩ := x; exact ⟨o, hi _ e, r⟩
theorem fR.there {h : Heap} {i l : Addr} {k : Nat} {b : Bool} (x : fR h i l k b) : ∃ o, h.get? i = some o ∧ ∀ v, o.data ≠ .cell v := by
  cases b
  · obtain ⟨o, e, c, d⟩ := x; exact ⟨o, e, fun v z => by rw [d] at z; cases z⟩
  · obtain ⟨o, e, c, d⟩ := x; exact ⟨o, e, fun v z => by rw [d] at z; cases z⟩
section
variable {X : Cx} {pins : List (Addr × Obj)} {σ : St} {H : Hp} {s : Shared}
theorem ik {a : Addr} {xs : List V} {b : Bool} (I : aC X pins σ H s) (h : qY X.K H a xs b) : ∃ its : List Value, bh xs its ∧ t9 s.heap a its.toArray ∧ ∀ (i : Addr) (k : Nat), fR s.heap i a k b → gE s.heap i a k its.toArray := by
  cases b
  · obtain ⟨its, rv, p, _⟩ := I.list h
    exact ⟨its, rv, .inl p.isList, fun i k z => .inl ⟨z, p.isList⟩⟩
  · obtain ⟨its, rv, p, _⟩ := I.tuple h
    exact ⟨its, rv, .inr p, fun i k z => .inr ⟨z, p⟩⟩
theorem j8 {a : Addr} {xs ys : List V} {b : Bool} (I : aC X pins σ H s) (h : qY X.K H a xs b) (h' : qY X.K H a ys b) : ys = xs := by
  cases b
  · exact I.list_inj h' h
  · exact I.tuple_inj h' h
theorem gE.toB {h : Heap} {i l : Addr} {k : Nat} {xs : Array Value} {b : Bool} (hl : ∀ ys, (b = true → ¬ h.IsList l ys) ∧ (b = false → ¬ h.IsTuple l ys)) (x : gE h i l k xs) : fR h i l k b := by
  cases b
  · rcases x with ⟨z, w⟩ | ⟨z, w⟩
    · exact z
    · exact absurd w ((hl xs).2 rfl)
  · rcases x with ⟨z, w⟩ | ⟨z, w⟩
    · exact absurd w ((hl xs).1 rfl)
    · exact z
theorem cZ {h : Heap} {l : Addr} {xs ys : Array Value} (a : h.IsList l xs) (b : h.IsTuple l ys) : False := by
  obtain ⟨o, e, c, _⟩ := a
  obtain ⟨o', e', c', _⟩ := b
  rw [e] at e'; cases e'
  rw [c] at c'
  injection c' with z
  exact absurd z (by decide)
theorem nR {a : Addr} {xs : List V} {b : Bool} (I : aC X pins σ H s) (h : qY X.K H a xs b) {h' : Heap} (kp : ∀ c o, s.heap.get? c = some o → h'.get? c = some o) : ∀ ys, (b = true → ¬ h'.IsList a ys) ∧ (b = false → ¬ h'.IsTuple a ys) := fun ys => by
  cases b
  · obtain ⟨its, rv, p, _⟩ := I.list h
    refine ⟨fun z => (by cases z), fun _ w => ?_⟩
    obtain ⟨o, e, r⟩ := p.isList
    exact cZ (h := h') (xs := its.toArray) ⟨o, kp _ _ e, r⟩ w
  · obtain ⟨its, rv, p, _⟩ := I.tuple h
    refine ⟨fun _ w => ?_, fun z => by cases z⟩
    obtain ⟨o, e, r⟩ := p
    exact cZ (h := h') w ⟨o, kp _ _ e, r⟩
end
def Eh (K : PySem.W.Frag) (l m : Addr) (b c : Bool) : It :=
  ⟨fun i H => ∃ xs ys x y, qY K H l xs b ∧ qY K H m ys c ∧ xs[i]? = some x ∧ ys[i]? = some y,
   fun i H v H' => ∃ a x y, H a = none ∧ v = .ref a ∧ H' = ci H a (.tup [x, y]) ∧ (∀ xs, qY K H l xs b → xs[i]? = some x) ∧ ∀ ys, qY K H m ys c → ys[i]? = some y,
   fun i H => ∃ xs ys, qY K H l xs b ∧ qY K H m ys c ∧ (xs.length ≤ i ∨ ys.length ≤ i)⟩
structure ED (z p q i j l m : Addr) (b c : Bool) (k : Nat) (h : Heap) : Prop where
  zz : IsZip h z p q .none
  pp : IsPair h p (.ref i) (.ref j)
  qq : ∃ a b, IsPair h q a b
  ii : fR h i l k b
  jj : fR h j m k c
theorem xc {P : Program} {w : World} {K : PySem.W.Frag} {elts : List Expr} {x1} {pos : Pos} {z p q i j l m : Addr} {b c : Bool} (D : ZA z p q i j l m) : rT P w K (.Tuple elts x1 pos) (Eh K l m b c) [z, p, q, i, j] z (ED z p q i j l m b c) where
  mem := by simp
  obj := fun k h st a ha => by
    simp only [List.mem_cons, List.not_mem_nil, or_false] at ha
    rcases ha with rfl | rfl | rfl | rfl | rfl
    · exact ⟨_, st.zz, fun v e => by cases e⟩
    · exact ⟨_, st.pp, fun v e => by cases e⟩
    · obtain ⟨_, _, e⟩ := st.qq; exact ⟨_, e, fun v e => by cases e⟩
    · exact st.ii.there
    · exact st.jj.there
  keep := fun k h h' st kp => ⟨kp z (by simp) _ st.zz, kp p (by simp) _ st.pp, let ⟨a, b, e⟩ := st.qq; ⟨a, b, kp q (by simp) _ e⟩, st.ii.keep fun o e => kp i (by simp) o e, st.jj.keep fun o e => kp j (by simp) o e⟩
  item := by
    intro X hP hw hK hc k pins s σ H E I hf st hg
    subst hP hw hK
    obtain ⟨xs, ys, x, y, h1, h2, hx, hy⟩ := hg
    obtain ⟨its, rv, _, p1⟩ := ik I h1
    obtain ⟨jts, rw', _, p2⟩ := ik I h2
    obtain ⟨u, hu, ru⟩ := rv.get hx
    obtain ⟨v, hv, ry⟩ := rw'.get hy
    have S : yD s.heap z p q i j l m .none k its.toArray jts.toArray := ⟨st.zz, st.pp, st.qq, p1 _ _ st.ii, p2 _ _ st.jj⟩
    refine tf D S (x := u) (y := v) (by simpa using hu) (by simpa using hv) fun h' S' hp kp => ⟨_, rfl, ?_⟩
    have zlt : z < s.heap.objs.size := Heap.lt_size st.zz
    refine wpAny_letOwnedTupleGo_zip (s := { s with heap := h' }) S'.zz fun h2' hz2 sb => ?_
    have up : ∀ a o, a ≠ z → h'.get? a = some o → h2'.get? a = some o := fun a o ha e => sb.extBut a o ha e
    have hob : ∀ a ∈ [z, p, q, i, j], a < s.heap.objs.size := fun a ha => by
      simp only [List.mem_cons, List.not_mem_nil, or_false] at ha
      rcases ha with rfl | rfl | rfl | rfl | rfl
      · exact Heap.lt_size st.zz
      · exact Heap.lt_size st.pp
      · obtain ⟨_, _, e⟩ := st.qq; exact Heap.lt_size e
      · obtain ⟨o, e, _⟩ := st.ii.there; exact Heap.lt_size e
      · obtain ⟨o, e, _⟩ := st.jj.there; exact Heap.lt_size e
    have hn : H s.heap.objs.size = none := I.hok.fresh (Nat.le_refl _)
    refine ⟨.ref s.heap.objs.size, _, uM (s := s) (t' := s.toks) (fp := [z, p, q, i, j]) (h' := h2') (u1 := u) (u2 := v) (v1 := x) (v2 := y) I hf hob (up _ _ (Nat.ne_of_gt zlt) hp) (fun a o ha e => ?_) ru ry, rfl, ⟨_, x, y, hn, rfl, rfl, fun zs hz => by rw [j8 I h1 hz]; exact hx, fun zs hz => by rw [j8 I h2 hz]; exact hy⟩, ?_, fun a ha => ?_⟩
    · simp only [List.mem_cons, List.not_mem_nil, or_false, not_or] at ha
      exact up a o ha.1 (kp a o ha.1 ha.2.2.1 ha.2.2.2.1 ha.2.2.2.2 e)
    · have i2 : fR h' i l (k + 1) b := by
        refine S'.ii.toB fun ys => ?_
        cases hb : b
        · subst hb
          refine ⟨fun z => (by cases z), fun _ w => ?_⟩
          obtain ⟨_, _, pl, _⟩ := I.list h1
          obtain ⟨o, e, r⟩ := pl.isList
          exact cZ (h := h') (xs := _) ⟨o, kp _ _ D.lz D.lq D.li D.lj e, r⟩ w
        · subst hb
          refine ⟨fun _ w => ?_, fun z => by cases z⟩
          obtain ⟨_, _, pl, _⟩ := I.tuple h1
          obtain ⟨o, e, r⟩ := pl
          exact cZ (h := h') w ⟨o, kp _ _ D.lz D.lq D.li D.lj e, r⟩
      have j2 : fR h' j m (k + 1) c := by
        refine S'.jj.toB fun ys => ?_
        cases hb : c
        · subst hb
          refine ⟨fun z => (by cases z), fun _ w => ?_⟩
          obtain ⟨_, _, pl, _⟩ := I.list h2
          obtain ⟨o, e, r⟩ := pl.isList
          exact cZ (h := h') (xs := _) ⟨o, kp _ _ D.mz D.mq D.mi D.mj e, r⟩ w
        · subst hb
          refine ⟨fun _ w => ?_, fun z => by cases z⟩
          obtain ⟨_, _, pl, _⟩ := I.tuple h2
          obtain ⟨o, e, r⟩ := pl
          exact cZ (h := h') w ⟨o, kp _ _ D.mz D.mq D.mi D.mj e, r⟩
      exact ⟨hz2, up _ _ D.pz S'.pp, let ⟨a, b, e⟩ := S'.qq; ⟨a, b, up _ _ D.qz e⟩, i2.keep fun o e => up _ _ D.iz e, j2.keep fun o e => up _ _ D.jz e⟩
    · rw [ar (Nat.ne_of_lt (hob a ha))]; exact (hf a ha).1
  done := by
    intro X hP hw hK hc k pins s σ H E I hf st hg
    subst hP hw hK
    obtain ⟨xs, ys, h1, h2, hl⟩ := hg
    obtain ⟨its, rv, _, p1⟩ := ik I h1
    obtain ⟨jts, rw', _, p2⟩ := ik I h2
    have S : yD s.heap z p q i j l m .none k its.toArray jts.toArray := ⟨st.zz, st.pp, st.qq, p1 _ _ st.ii, p2 _ _ st.jj⟩
    have e1 := rv.length
    have e2 := rw'.length
    refine vq (I.ok.hd hc) D S ?_ fun h' kp => ⟨rfl, fD (t' := s.toks) (fp := [z, p, q, i, j]) I (fun a o ha e => ?_) hf⟩
    · rcases hl with hl | hl
      · left; simp; omega
      · right; simp; omega
    · simp only [List.mem_cons, List.not_mem_nil, or_false, not_or] at ha
      exact kp a o ha.1 ha.2.2.1 ha.2.2.2.1 ha.2.2.2.2 e
  self := fun _ _ _ _ _ st h => wpAny_pyIter_zip st.zz h
def yX (H : Hp) (a : Addr) (ds : List PyData) : Bool → Prop
  | true => ∃ vs, H a = some (.tup vs) ∧ bg H ds vs
  | false => ∃ o vs, H a = some (.frz o (.lst vs)) ∧ bg H ds vs
theorem yX.sq {K : PySem.W.Frag} {H : Hp} {a : Addr} {ds : List PyData} {b : Bool} (h : yX H a ds b) : ∃ vs, qY K H a vs b ∧ bg H ds vs := by
  cases b
  · obtain ⟨o, vs, e, r⟩ := h; exact ⟨vs, .inl (.inr ⟨o, e⟩), r⟩
  · obtain ⟨vs, e, r⟩ := h; exact ⟨vs, dS.of e, r⟩
theorem yX.kp {H H' : Hp} {a : Addr} {ds : List PyData} {b : Bool} (h : yX H a ds b) (k : Kp H H') : yX H' a ds b := by
  cases b
  · obtain ⟨o, vs, e, r⟩ := h; exact ⟨o, vs, k.2 _ _ _ e, bg.kp k _ _ r⟩
  · obtain ⟨vs, e, r⟩ := h; exact ⟨vs, k.1 _ _ e, bg.kp k _ _ r⟩
def Db (p : PyData × PyData) : PyData := .tuple [p.1, p.2]
def jo (xs ys : List PyData) : List PyData := (xs.zip ys).map Db
theorem wW {xs ys : List PyData} {i : Nat} {d : PyData} (h : (jo xs ys)[i]? = some d) : ∃ x y, xs[i]? = some x ∧ ys[i]? = some y ∧ d = .tuple [x, y] := by
  unfold jo at h
  rw [List.getElem?_map] at h
  cases e : (xs.zip ys)[i]? with
  | none => rw [e] at h; cases h
  | some p =>
    rw [e] at h
    obtain ⟨h1, h2⟩ := List.getElem?_zip_eq_some.mp e
    exact ⟨p.1, p.2, h1, h2, (Option.some.inj h).symm⟩
theorem nL (xs ys : List PyData) : (jo xs ys).length = min xs.length ys.length := by unfold jo; simp
theorem yH {K : PySem.W.Frag} {l m : Addr} {b c : Bool} {xs ys : List PyData} : yB (Eh K l m b c) (fun H => yX H l xs b ∧ yX H m ys c) (jo xs ys) where
  go := fun i H ⟨h1, h2⟩ hi => by
    rw [nL] at hi
    obtain ⟨vs, s1, r1⟩ := h1.sq (K := K)
    obtain ⟨us, s2, r2⟩ := h2.sq (K := K)
    obtain ⟨x, hx, _⟩ := r1.get (List.getElem?_eq_getElem (show i < xs.length by omega))
    obtain ⟨y, hy, _⟩ := r2.get (List.getElem?_eq_getElem (show i < ys.length by omega))
    exact ⟨vs, us, x, y, s1, s2, hx, hy⟩
  yld := fun i H v H' d ⟨h1, h2⟩ hd h => by
    obtain ⟨a, x, y, ha, rfl, rfl, k1, k2⟩ := h
    obtain ⟨vs, s1, r1⟩ := h1.sq (K := K)
    obtain ⟨us, s2, r2⟩ := h2.sq (K := K)
    obtain ⟨dx, dy, e1, e2, rfl⟩ := wW hd
    obtain ⟨x', hx, px⟩ := r1.get e1
    obtain ⟨y', hy, py⟩ := r2.get e2
    have q1 := k1 vs s1
    have q2 := k2 us s2
    rw [hx] at q1; rw [hy] at q2
    cases q1; cases q2
    exact ⟨bY ha _, dc ha (bg.cons px (bg.cons py bg.nil))⟩
  stop := fun i H ⟨h1, h2⟩ hi => by
    rw [nL] at hi
    obtain ⟨vs, s1, r1⟩ := h1.sq (K := K)
    obtain ⟨us, s2, r2⟩ := h2.sq (K := K)
    have l1 := r1.length
    have l2 := r2.length
    exact ⟨vs, us, s1, s2, by omega⟩
theorem B1 {n l m : Nat} (hl : l < n) (hm : m < n) : ZA (n + 4) (n + 2) (n + 3) n (n + 1) l m := by
  refine ⟨?_, ?_, ?_, ?_, ?_, ?_, ?_, ?_, ?_, ?_, ?_, ?_, ?_, ?_, ?_, ?_, ?_, ?_⟩ <;> (intro z; have z' : (_ : Nat) = _ := z; omega)
section
variable {X : Cx} {elts : List Expr} {x1 : Nat} {tp : Pos} {a b : Expr} {fa fb : Fe} {pos p : Pos} {nl : Nat} {G : List Str} {fs : aI → R (List PyData)}
def EH (K : PySem.W.Frag) (ta : TA) : TI := fun σ H R => ta σ H fun vs H1 => ∃ l m xs ys b c, vs = [.ref l, .ref m] ∧ qY K H1 l xs b ∧ qY K H1 m ys c ∧ R (Eh K l m b c) H1
theorem AY {ta : TA} (hg : Gl X "zip") (hm : X.mg "zip" = none) (ha : PA X [a, b] ta) (hs : starEach [a, b] X.env = [(false, eval a X.env), (false, eval b X.env)]) (hs2 : starEach [b] X.env = [(false, eval b X.env)]) :
    PI X (.Tuple elts x1 tp) (.Call (.Name "zip" p) [a, b] [] pos) (EH X.K ta) := by
  intro pins s σ H R I h
  refine Call_ (il I hg hm boot_zip (PyProof.Rows.callWith_type1 (cR (ha pos pins s σ H _ I h) fun us s1 ⟨vs, H1, I1, r1, q1⟩ => ?_) (by rw [hs, hs2]) (by rw [hs2]; rfl)))
  obtain ⟨l, m, xs, ys, b, c, e, h1, h2, q⟩ := q1
  subst e
  obtain ⟨u, v, rfl, ru, rv⟩ := qR r1
  cases ru
  cases rv
  obtain ⟨its, w1, p1, g1⟩ := ik I1 h1
  obtain ⟨jts, w2, p2, g2⟩ := ik I1 h2
  have ll : l < s1.heap.objs.size := by rcases p1 with ⟨o, e, _⟩ | ⟨o, e, _⟩ <;> exact Heap.lt_size e
  have lm : m < s1.heap.objs.size := by rcases p2 with ⟨o, e, _⟩ | ⟨o, e, _⟩ <;> exact Heap.lt_size e
  refine x9 p1 p2 fun h' hz S kp => wpAny_pyIter_zip S.zz ?_
  have D := B1 ll lm
  have I2 : aC X pins σ H1 { s1 with heap := h' } := I1.kept (t' := s1.toks) kp
  have i2 : fR h' s1.heap.objs.size l 0 b := S.ii.toB (nR I1 h1 kp)
  have j2 : fR h' (s1.heap.objs.size + 1) m 0 c := S.jj.toB (nR I1 h2 kp)
  refine ⟨_, [s1.heap.objs.size + 4, s1.heap.objs.size + 2, s1.heap.objs.size + 3, s1.heap.objs.size, s1.heap.objs.size + 1], _, _, H1, rfl, I2, xc (b := b) (c := c) D, ⟨S.zz, S.pp, S.qq, i2, j2⟩, fun a ha => ?_, q⟩
  have hle : s1.heap.objs.size ≤ a := by
    simp only [List.mem_cons, List.not_mem_nil, or_false] at ha
    rcases ha with rfl | rfl | rfl | rfl | rfl
    · exact Nat.le_add_right _ 4
    · exact Nat.le_add_right _ 2
    · exact Nat.le_add_right _ 3
    · exact Nat.le_refl _
    · exact Nat.le_add_right _ 1
  exact I1.fpOk hle (I1.hok.fresh hle)
def wa (fa fb : Fe) : aI → R (List PyData) := fun ρ => fa ρ >>= fun x => fb ρ >>= fun y => iw x >>= fun xs => iw y >>= fun ys => .ok (jo xs ys)
theorem tH {H : Hp} {d : PyData} {v : V} {ds : List PyData} (h : Rp H d v) (e : iw d = .ok ds) : ∃ a b, v = .ref a ∧ yX H a ds b := by
  cases d with
  | list xs =>
    cases e
    simp only [Rp] at h
    obtain ⟨a, o, vs, rfl, h, r⟩ := h
    exact ⟨a, false, rfl, o, vs, h, r⟩
  | tuple xs =>
    cases e
    simp only [Rp] at h
    obtain ⟨a, vs, rfl, h, r⟩ := h
    exact ⟨a, true, rfl, vs, h, r⟩
  | _ => cases e
theorem pP (T : Tb X nl G) (j : Nat) (hG : G[j]? = some ("zip" : Str)) (hm : X.mg "zip" = none) (ha : ah X a fa) (hb : ah X b fb) (h1 : au a = true := by rfl) (h2 : au b = true := by rfl) :
    nZ X (.Tuple elts x1 tp) (.Call (.Name "zip" p) [a, b] [] pos) (wa fa fb) := by
  have g := T.gl _ (List.mem_of_getElem? hG)
  refine PI.imp (AY g.1 hm (af ha (af hb aq h2) h1) (by rw [a4 h1, a4 h2]; rfl) (by rw [a4 h2]; rfl)) fun σ H Rk h => ?_
  obtain ⟨ρ, sl, q⟩ := h
  unfold wa at q
  refine ⟨ρ, sl, ?_⟩
  unfold ag ay
  cases e1 : fa ρ with
  | ex c => rw [e1] at q; exact q
  | no => rw [e1] at q; exact q
  | ok x =>
    rw [e1] at q
    simp only [R.ok_bind] at q ⊢
    cases e2 : fb ρ with
    | ex c => rw [e2] at q; exact q
    | no => rw [e2] at q; exact q
    | ok y =>
      rw [e2] at q
      simp only [R.ok_bind] at q ⊢
      cases e3 : iw x with
      | ex c => exact absurd e3 (by cases x <;> simp [iw])
      | no => rw [e3] at q; exact q.elim
      | ok xs =>
        rw [e3] at q
        simp only [R.ok_bind] at q
        cases e4 : iw y with
        | ex c => exact absurd e4 (by cases y <;> simp [iw])
        | no => rw [e4] at q; exact q.elim
        | ok ys =>
          rw [e4] at q
          simp only [R.ok_bind] at q
          intro vs H1 s1 ra
          simp only [RA] at ra
          obtain ⟨v, r', rfl, p1, v', r'', rfl, p2, rfl⟩ := ra
          obtain ⟨l, b1, rfl, d1⟩ := tH p1 e3
          obtain ⟨m, b2, rfl, d2⟩ := tH p2 e4
          obtain ⟨us, u1, _⟩ := d1.sq (K := X.K)
          obtain ⟨ws, u2, _⟩ := d2.sq (K := X.K)
          exact ⟨l, m, us, ws, b1, b2, rfl, u1, u2, q _ H1 s1 ⟨_, yH, fun H2 k _ => ⟨d1.kp k, d2.kp k⟩⟩⟩
theorem Z.pP (T : Tb X nl G) (j : Nat) (hG : G[j]? = some ("zip" : Str)) (hm : X.mg "zip" = none) (ha : Z.ah X a fa) (hb : Z.ah X b fb) (h1 : au a = true := by rfl) (h2 : au b = true := by rfl) : Z.nZ X (.Tuple elts x1 tp) (.Call (.Name "zip" p) [a, b] [] pos) (wa fa fb) :=
  ⟨D2.pP T j hG hm ha.un hb.un h1 h2⟩
end
def fA (i j : Nat) : PyData → aI → Option aI
  | .tuple [x, y], ρ => some ((ρ.set i (.val x)).set j (.val y))
  | _, _ => none
section
variable {X : Cx} {nl : Nat} {G : List Str} {x y : Str} {k : Nat} {p1 p2 pos : Pos}
theorem kE (T : Tb X nl G) (i j : Nat) (hi : (X.N.take nl)[i]? = some x) (hj : (X.N.take nl)[j]? = some y) : pX X (.Tuple [.Name x p1, .Name y p2] k pos) (fA i j) := by
  obtain ⟨i1, i2, i3⟩ := T.nm hi
  obtain ⟨j1, j2, j3⟩ := T.nm hj
  refine PG.imp (yr T.calm (jg (jB T.nd i1 i2 i3) (jg (jB T.nd j1 j2 j3) uE))) fun v σ H Q ⟨ρ, d, sl, p, q⟩ => ?_
  unfold fA at q
  split at q
  · rename_i e
    split at e
    · rename_i ρ0 dx dy
      cases e
      simp only [Rp] at p
      obtain ⟨a, vs, rfl, ha, r⟩ := p
      obtain ⟨u, r1, rfl, pu, r⟩ := r.cons_inv
      obtain ⟨w, r2, rfl, pw, r⟩ := r.cons_inv
      rw [r.nil_inv] at ha
      refine ⟨a, [u, w], rfl, dS.of ha, rfl, u, [w], rfl, w, [], rfl, rfl, ?_⟩
      refine q _ (Sl.set (c := .val dy) (o := some w) (Sl.set (c := .val dx) (o := some u) sl i ⟨u, rfl, pu⟩) j ⟨w, rfl, pw⟩) fun n e h => ?_
      obtain ⟨n1, h⟩ := bP (fun e z => by cases z) h
      obtain ⟨n2, h⟩ := bP (fun e z => by cases z) h
      exact ⟨h, by rw [List.getElem?_set, if_neg n1, List.getElem?_set, if_neg n2]⟩
    · cases e
  · exact q.elim
theorem Z.kE (T : Tb X nl G) (i j : Nat) (hi : (X.N.take nl)[i]? = some x) (hj : (X.N.take nl)[j]? = some y) : Z.pX X (.Tuple [.Name x p1, .Name y p2] k pos) (fA i j) :=
  ⟨D2.kE T i j hi hj⟩
end
theorem oU {own : Nat} {fr : List Nat} {i j : Nat} (hi : i < own) (hj : j < own) : ∀ ρ d ρ1, fA i j d (aA own fr ρ) = some ρ1 → lW (aA own fr ρ) ρ1 := fun ρ d ρ1 e => by
  unfold fA at e
  split at e
  · rename_i x y _
    cases e
    refine ⟨by rw [List.length_set, List.length_set], fun n c hn => ?_⟩
    have at_own : n < own → c = .non := fun h => by
      unfold aA at hn
      rw [List.getElem?_append_left (by simpa using h), List.getElem?_replicate, if_pos h] at hn
      exact (Option.some.inj hn).symm
    by_cases h1 : j = n
    · exact .inl (at_own (by omega))
    · by_cases h2 : i = n
      · exact .inl (at_own (by omega))
      · exact .inr (by rw [List.getElem?_set, if_neg h1, List.getElem?_set, if_neg h2]; exact hn)
  · cases e
open AutoSeq1 (wpAny_loadPart')
abbrev jO (h : Heap) (e i : Addr) (k : Int) (f0 old : Value) : Prop := h.get? e = some { cls := .type "enumerate", dict := none, data := .fields #[f0, .bool false, .ref i, rawInt k, .none, old], slots := #[] }
section
variable {prog : Program} {w : World} {A : Around} {E : Value → Shared → Prop} {s : Shared} {e i l : Addr} {k : Nat} {xs : Array Value}
theorem vP {x old : Value} {Q : Value → Shared → Prop} (he : jO s.heap e i k .none old) (it : gE s.heap i l k xs) (hli : l ≠ i) (hle : l ≠ e) (hei : e ≠ i) (hx : xs[k]? = some x)
    (hQ : ∀ h' old', jO h' e i ((k : Int) + 1) (rawInt s.heap.objs.size) old' → gE h' i l (k + 1) xs → IsPair h' s.heap.objs.size (.int k s.toks) x → (∀ c o, c ≠ e → c ≠ i → s.heap.get? c = some o → h'.get? c = some o) → Q (.ref s.heap.objs.size) { s with heap := h', toks := s.toks + 1 }) :
    wpAny (model prog w) A (Builtin.«enumerate.__next__» ⟨[.ref e], []⟩) (fun fin s' => ∃ v, fin = .done (.ret v) ∧ Q v s') E s := by
  obtain ⟨hp, g, d, tk, os⟩ := s
  show wpAny _ _ (field (Value.ref e) 2 >>= _) _ _ _
  refine wpAny_bind (wpAny_field he rfl (x := Value.ref i) rfl ?_)
  refine wpAny_bind (kz it hli hx fun g1 i1 s1 => ?_)
  replace s1 : Heap.SameBut i hp g1 := s1
  have e1 : jO g1 e i k .none old := (s1.2 e hei).trans he
  show wpAny _ _ (field (Value.ref e) 3 >>= _) _ _ (Shared.mk g1 g d tk os)
  refine wpAny_bind (wpAny_field e1 rfl (x := rawInt (k : Int)) rfl ?_)
  show wpAny _ _ (field (Value.ref e) 4 >>= _) _ _ (Shared.mk g1 g d tk os)
  refine wpAny_bind (wpAny_field e1 rfl (x := Value.none) rfl ?_)
  show wpAny _ _ (mkInt (k : Int) >>= _) _ _ (Shared.mk g1 g d tk os)
  refine wpAny_bind (wpAny_mkInt ?_)
  show wpAny _ _ (setField (Value.ref e) 3 (rawInt ((k : Int) + 1)) >>= _) _ _ (Shared.mk g1 g d (tk + 1) os)
  refine wpAny_bind (wpAny_setField_rec e1 (by simp) fun g2 e2 s2 => ?_)
  replace s2 : Heap.SameBut e g1 g2 := s2
  replace e2 : jO g2 e i ((k : Int) + 1) .none old := e2
  show wpAny _ _ (setField (Value.ref e) 4 Value.none >>= _) _ _ (Shared.mk g2 g d (tk + 1) os)
  refine wpAny_bind (wpAny_setField_rec e2 (by simp) fun g3 e3 s3 => ?_)
  replace s3 : Heap.SameBut e g2 g3 := s3
  replace e3 : jO g3 e i ((k : Int) + 1) .none old := e3
  show wpAny _ _ (newTuple [Value.int k tk, x] >>= _) _ _ (Shared.mk g3 g d (tk + 1) os)
  refine wpAny_bind (wpAny_newTuple ?_)
  have hsz : g3.objs.size = hp.objs.size := by rw [s3.1, s2.1, s1.1]
  have elt : e < g3.objs.size := Heap.lt_size e3
  have e4 : jO (g3.push { cls := .type "tuple", data := .seq #[.int k tk, x] }) e i ((k : Int) + 1) .none old := Heap.get?_push_of_some _ e3
  have t4 : IsPair (g3.push { cls := .type "tuple", data := .seq #[.int k tk, x] }) g3.objs.size (.int k tk) x := Heap.get?_push_size _ rfl
  have i3 : gE g3 i l (k + 1) xs := i1.keep (fun o q => s3.extBut _ _ hei.symm (s2.extBut _ _ hei.symm q)) fun o q => s3.extBut _ _ hle (s2.extBut _ _ hle q)
  have k3 : ∀ c o, c ≠ e → c ≠ i → hp.get? c = some o → g3.get? c = some o := fun c o c1 c2 q => s3.extBut _ _ c1 (s2.extBut _ _ c1 (s1.extBut _ _ c2 q))
  show wpAny _ _ (Builtin.SmallTypes.ownedTupleIsFree (Value.ref e) >>= _) _ _ (Shared.mk (g3.push { cls := .type "tuple", data := .seq #[.int k tk, x] }) g d (tk + 1) os)
  refine wpAny_bind ?_
  unfold Builtin.SmallTypes.ownedTupleIsFree
  refine wpAny_bind (wpAny_field e4 rfl (x := Value.none) rfl (wpAny_pure ?_))
  simp only [if_true]
  refine wpAny_bind (wpAny_rule ?_)
  refine wpAny_bind (wpAny_field e4 rfl (x := old) rfl ?_)
  refine wpAny_bind (wpAny_setField_rec e4 (by simp) fun g5 e5 s5 => ?_)
  replace s5 : Heap.SameBut e (g3.push { cls := .type "tuple", data := .seq #[.int k tk, x] }) g5 := s5
  replace e5 : jO g5 e i ((k : Int) + 1) .none x := e5
  show wpAny _ _ (Builtin.SmallTypes.ownedTupleHandOut (Value.ref e) (Value.ref g3.objs.size) >>= _) _ _ (Shared.mk g5 g d (tk + 1) os)
  refine wpAny_bind ?_
  unfold Builtin.SmallTypes.ownedTupleHandOut
  refine wpAny_bind (wpAny_setField_rec e5 (by simp) fun g6 e6 s6 => ?_)
  replace s6 : Heap.SameBut e g5 g6 := s6
  replace e6 : jO g6 e i ((k : Int) + 1) (rawInt g3.objs.size) x := e6
  refine wpAny_setField_rec e6 (by simp) fun g7 e7 s7 => ?_
  replace s7 : Heap.SameBut e g6 g7 := s7
  replace e7 : jO g7 e i ((k : Int) + 1) (rawInt g3.objs.size) x := e7
  have up : ∀ c o, c ≠ e → g3.get? c = some o → g7.get? c = some o := fun c o c1 q => s7.extBut _ _ c1 (s6.extBut _ _ c1 (s5.extBut _ _ c1 (Heap.get?_push_of_some _ q)))
  have t7 : IsPair g7 g3.objs.size (.int k tk) x := s7.extBut _ _ (Nat.ne_of_gt elt) (s6.extBut _ _ (Nat.ne_of_gt elt) (s5.extBut _ _ (Nat.ne_of_gt elt) t4))
  rw [hsz] at e7 t7
  refine wpAny_bind (wpAny_letGo (wpAny_pure ⟨_, rfl, ?_⟩))
  show Q (.ref g3.objs.size) _
  rw [hsz]
  exact hQ g7 x e7 (i3.keep (fun o q => up _ _ hei.symm q) fun o q => up _ _ hle q) t7 fun c o c1 c2 q => up c o c1 (k3 c o c1 c2 q)
theorem we {x old : Value} {Q : Option Value → Shared → Prop} (he : jO s.heap e i k .none old) (it : gE s.heap i l k xs) (hli : l ≠ i) (hle : l ≠ e) (hei : e ≠ i) (hx : xs[k]? = some x)
    (hQ : ∀ h' old', jO h' e i ((k : Int) + 1) (rawInt s.heap.objs.size) old' → gE h' i l (k + 1) xs → IsPair h' s.heap.objs.size (.int k s.toks) x → (∀ c o, c ≠ e → c ≠ i → s.heap.get? c = some o → h'.get? c = some o) → Q (some (.ref s.heap.objs.size)) { s with heap := h', toks := s.toks + 1 }) :
    wpAny (model prog w) A (pyNext (.ref e)) Q E s := by
  have hT : s.TypeIs (.ref e) "enumerate" := ⟨_, he, rfl⟩
  unfold pyNext
  exact wpAny_bind (wpAny_attempt (wpAny_callSpecial?_slot (name := Str.ofString "__next__") hT F.slot_enumerate_next (wpAny_call_entry F.slot_enumerate_next hT F.entry_enumerate_next (vP he it hli hle hei hx fun h' o a b c d => wpAny_pure (hQ h' o a b c d)) (F.args_enumerate_next_1 _))))
theorem w4 {old : Value} {Q : Option Value → Shared → Prop} (hh : A.handled = none) (he : jO s.heap e i k .none old) (it : gE s.heap i l k xs) (hx : xs[k]? = none) (hQ : ∀ h', (∀ c o, c ≠ i → s.heap.get? c = some o → h'.get? c = some o) → Q none { s with heap := h' }) :
    wpAny (model prog w) A (pyNext (.ref e)) Q E s := by
  have hT : s.TypeIs (.ref e) "enumerate" := ⟨_, he, rfl⟩
  unfold pyNext
  refine wpAny_bind (wpAny_attempt (wpAny_callSpecial?_slot (name := Str.ofString "__next__") hT F.slot_enumerate_next (wpAny_call_entry F.slot_enumerate_next hT F.entry_enumerate_next ?_ (F.args_enumerate_next_1 _))))
  show wpAny _ _ (field (Value.ref e) 2 >>= _) _ _ _
  refine wpAny_bind (wpAny_field he rfl (x := Value.ref i) rfl ?_)
  refine wpAny_bind (gc hh it hx fun h' x k1 ⟨o, ho, hc⟩ => ?_)
  exact wpAny_bind (wpAny_isInstance (T := "StopIteration") (b := true) ⟨o, ho, hc⟩ isSubtype_stop (wpAny_pure (hQ _ fun c o c1 q => k1 c o c1 q)))
theorem xT (l : Addr) (xs : Array Value) : Meets (Builtin.«enumerate.__new__» ⟨[.type "enumerate", .ref l], []⟩) (fun _ R s => t9 s.heap l xs ∧
    ∀ h', jO h' (s.heap.objs.size + 1) s.heap.objs.size 0 .none .none → gE h' s.heap.objs.size l 0 xs → (∀ c o, s.heap.get? c = some o → h'.get? c = some o) → R (.ok (.ret (.ref (s.heap.objs.size + 1)))) { s with heap := h' }) :=
  .of_wp fun prog w A R s h => by
    obtain ⟨hp, g, d, tk, os⟩ := s
    obtain ⟨h1, h⟩ := h
    have hsub := sub_enumerate
    have fin : ∀ oi : Obj, gE (hp.push oi) hp.objs.size l 0 xs → R (.ok (.ret (.ref (hp.push oi).objs.size))) ⟨(hp.push oi).push { cls := .type "enumerate", data := .fields #[.none, .bool false, .ref hp.objs.size, rawInt 0, .none, .none] }, g, d, tk, os⟩ := fun oi hi => by
      have e1 : (hp.push oi).objs.size = hp.objs.size + 1 := Heap.size_push ..
      rw [e1]
      refine h _ ?_ (hi.keep (fun o q => Heap.get?_push_of_some _ q) fun o q => Heap.get?_push_of_some _ q) fun c o q => Heap.get?_push_of_some _ (Heap.get?_push_of_some _ q)
      show Heap.get? _ (hp.objs.size + 1) = _
      rw [← e1]
      exact Heap.get?_push_size _ rfl
    rcases h1 with h1 | h1
    · have l1 : Heap.IsList (Shared.heap ⟨hp, g, d, tk, os⟩) l xs := h1
      obtain ⟨o, ho, _, _, _⟩ := id h1
      have ho' : (Shared.heap ⟨hp, g, d, tk, os⟩).get? l = some o := ho
      wp_walk using wpAny_loadPart' ho'
      refine wpAny_stack_any fun st => wpAny_pure ?_
      split
      · rename_i c _ _ _ _ _
        cases (c == Value.type "enumerate")
        · wp_walk using wpAny_loadPart' ho', wpAny_pyIter_list l1
          exact ⟨_, rfl, fin _ (.inl ⟨⟨_, Heap.get?_push_size _ rfl, rfl, rfl⟩, Heap.IsList.push h1 _⟩)⟩
        · wp_walk using wpAny_loadPart' ho', wpAny_pyIter_list l1
          exact ⟨_, rfl, fin _ (.inl ⟨⟨_, Heap.get?_push_size _ rfl, rfl, rfl⟩, Heap.IsList.push h1 _⟩)⟩
      · wp_walk using wpAny_loadPart' ho', wpAny_pyIter_list l1
        exact ⟨_, rfl, fin _ (.inl ⟨⟨_, Heap.get?_push_size _ rfl, rfl, rfl⟩, Heap.IsList.push h1 _⟩)⟩
    · have l1 : Heap.IsTuple (Shared.heap ⟨hp, g, d, tk, os⟩) l xs := h1
      obtain ⟨o, ho, _, _, _⟩ := id h1
      have ho' : (Shared.heap ⟨hp, g, d, tk, os⟩).get? l = some o := ho
      wp_walk using wpAny_loadPart' ho'
      refine wpAny_stack_any fun st => wpAny_pure ?_
      split
      · rename_i c _ _ _ _ _
        cases (c == Value.type "enumerate")
        · wp_walk using wpAny_loadPart' ho', wpAny_pyIter_tuple l1
          exact ⟨_, rfl, fin _ (.inr ⟨⟨_, Heap.get?_push_size _ rfl, rfl, rfl⟩, Heap.IsTuple.push h1 _⟩)⟩
        · wp_walk using wpAny_loadPart' ho', wpAny_pyIter_tuple l1
          exact ⟨_, rfl, fin _ (.inr ⟨⟨_, Heap.get?_push_size _ rfl, rfl, rfl⟩, Heap.IsTuple.push h1 _⟩)⟩
      · wp_walk using wpAny_loadPart' ho', wpAny_pyIter_tuple l1
        exact ⟨_, rfl, fin _ (.inr ⟨⟨_, Heap.get?_push_size _ rfl, rfl, rfl⟩, Heap.IsTuple.push h1 _⟩)⟩
theorem wb {Q : Value → Shared → Prop} {l : Addr} (h1 : t9 s.heap l xs)
    (h : ∀ h', jO h' (s.heap.objs.size + 1) s.heap.objs.size 0 .none .none → gE h' s.heap.objs.size l 0 xs → (∀ c o, s.heap.get? c = some o → h'.get? c = some o) → Q (.ref (s.heap.objs.size + 1)) { s with heap := h' }) :
    wpAny (model prog w) A (call (.type "enumerate") [.ref l]) Q E s := by
  refine callType_new F.called_enumerate (by decide) (F.typeCall_enumerate_1 _) (F.newCall_enumerate_1 _) (fun obj => F.args_object_init_2 obj _) F.entry_enumerate_new (xT l xs) ⟨h1, fun h' e S k => ?_⟩
  exact ⟨⟨_, e, rfl⟩, h h' e S k⟩
end
end D2
namespace D2
open PySem PySem.Spec PyProof.Rows L2
def D6 (K : PySem.W.Frag) (l : Addr) (b : Bool) : It :=
  ⟨fun i H => ∃ xs x, qY K H l xs b ∧ xs[i]? = some x, fun i H v H' => ∃ a x, H a = none ∧ v = .ref a ∧ H' = ci H a (.tup [.int i, x]) ∧ ∀ xs, qY K H l xs b → xs[i]? = some x, fun i H => ∃ xs, qY K H l xs b ∧ xs.length ≤ i⟩
structure EG (e i l : Addr) (b : Bool) (k : Nat) (h : Heap) : Prop where
  ee : ∃ old, jO h e i k .none old
  ii : fR h i l k b
theorem vB {P : Program} {w : World} {K : PySem.W.Frag} {elts : List Expr} {x1} {pos : Pos} {e i l : Addr} {b : Bool} (hei : e ≠ i) (hle : l ≠ e) (hli : l ≠ i) : rT P w K (.Tuple elts x1 pos) (D6 K l b) [e, i] e (EG e i l b) where
  mem := by simp
  obj := fun k h st a ha => by
    simp only [List.mem_cons, List.not_mem_nil, or_false] at ha
    rcases ha with rfl | rfl
    · obtain ⟨_, q⟩ := st.ee; exact ⟨_, q, fun v e => by cases e⟩
    · exact st.ii.there
  keep := fun k h h' st kp => ⟨let ⟨o, q⟩ := st.ee; ⟨o, kp e (by simp) _ q⟩, st.ii.keep fun o q => kp i (by simp) o q⟩
  item := by
    intro X hP hw hK hc k pins s σ H E I hf st hg
    subst hP hw hK
    obtain ⟨xs, x, h1, hx⟩ := hg
    obtain ⟨its, rv, _, p1⟩ := ik I h1
    obtain ⟨u, hu, ru⟩ := rv.get hx
    obtain ⟨old, he⟩ := st.ee
    refine we he (p1 _ _ st.ii) hli hle hei (x := u) (by simpa using hu) fun h' old' e' i' hp kp => ⟨_, rfl, ?_⟩
    have elt : e < s.heap.objs.size := Heap.lt_size he
    have hob : ∀ a ∈ [e, i], a < s.heap.objs.size := fun a ha => by
      simp only [List.mem_cons, List.not_mem_nil, or_false] at ha
      rcases ha with rfl | rfl
      · exact elt
      · obtain ⟨o, q, _⟩ := st.ii.there; exact Heap.lt_size q
    have hn : H s.heap.objs.size = none := I.hok.fresh (Nat.le_refl _)
    refine wpAny_letOwnedTupleGo_enum (s := { s with heap := h', toks := s.toks + 1 }) e' fun h2' e2 sb => ?_
    have up : ∀ a o, a ≠ e → h'.get? a = some o → h2'.get? a = some o := fun a o ha q => sb.extBut a o ha q
    refine ⟨.ref s.heap.objs.size, _, uM (s := s) (t' := s.toks + 1) (fp := [e, i]) (h' := h2') (u1 := .int k s.toks) (u2 := u) (v1 := .int k) (v2 := x) I hf hob (up _ _ (Nat.ne_of_gt elt) hp) (fun a o ha q => ?_) ⟨_, rfl⟩ ru, rfl, ⟨_, x, hn, rfl, rfl, fun zs hz => by rw [j8 I h1 hz]; exact hx⟩, ?_, fun a ha => ?_⟩
    · simp only [List.mem_cons, List.not_mem_nil, or_false, not_or] at ha
      exact up a o ha.1 (kp a o ha.1 ha.2 q)
    · have i2 : fR h' i l (k + 1) b := by
        refine i'.toB fun ys => ?_
        cases hb : b
        · subst hb
          refine ⟨fun z => (by cases z), fun _ w => ?_⟩
          obtain ⟨_, _, pl, _⟩ := I.list h1
          obtain ⟨o, q, r⟩ := pl.isList
          exact cZ (h := h') (xs := _) ⟨o, kp _ _ hle hli q, r⟩ w
        · subst hb
          refine ⟨fun _ w => ?_, fun z => by cases z⟩
          obtain ⟨_, _, pl, _⟩ := I.tuple h1
          obtain ⟨o, q, r⟩ := pl
          exact cZ (h := h') w ⟨o, kp _ _ hle hli q, r⟩
      exact ⟨⟨_, by have q : jO h2' e i ((k : Int) + 1) .none old' := e2; simpa using q⟩, i2.keep fun o q => up _ _ hei.symm q⟩
    · rw [ar (Nat.ne_of_lt (hob a ha))]; exact (hf a ha).1
  done := by
    intro X hP hw hK hc k pins s σ H E I hf st hg
    subst hP hw hK
    obtain ⟨xs, h1, hl⟩ := hg
    obtain ⟨its, rv, _, p1⟩ := ik I h1
    obtain ⟨old, he⟩ := st.ee
    have e1 := rv.length
    refine w4 (I.ok.hd hc) he (p1 _ _ st.ii) (by simp; omega) fun h' kp => ⟨rfl, fD (t' := s.toks) (fp := [e, i]) I (fun a o ha q => ?_) hf⟩
    simp only [List.mem_cons, List.not_mem_nil, or_false, not_or] at ha
    exact kp a o ha.2 q
  self := fun _ _ _ _ _ st h => let ⟨_, q⟩ := st.ee; wpAny_pyIter_enum q h
def fQ : Nat → List PyData → List PyData
  | _, [] => []
  | k, d :: ds => .tuple [.int k, d] :: fQ (k + 1) ds
theorem jI : ∀ (k : Nat) (ds : List PyData), (fQ k ds).length = ds.length
  | _, [] => rfl
  | k, d :: ds => by unfold fQ; rw [List.length_cons, List.length_cons, jI]
theorem o2 : ∀ {k : Nat} {ds : List PyData} {i : Nat} {d : PyData}, (fQ k ds)[i]? = some d → ∃ x, ds[i]? = some x ∧ d = .tuple [.int ((k + i : Nat) : Int), x]
  | k, [], i, d, h => by unfold fQ at h; simp at h
  | k, x :: ds, 0, d, h => by
    unfold fQ at h
    simp at h
    exact ⟨x, rfl, by rw [← h]; simp⟩
  | k, x :: ds, i + 1, d, h => by
    unfold fQ at h
    rw [List.getElem?_cons_succ] at h
    obtain ⟨y, h1, h2⟩ := o2 h
    refine ⟨y, by simpa using h1, ?_⟩
    rw [h2]
    have : k + 1 + i = k + (i + 1) := by omega
    rw [this]
theorem wU {K : PySem.W.Frag} {l : Addr} {b : Bool} {xs : List PyData} : yB (D6 K l b) (fun H => yX H l xs b) (fQ 0 xs) where
  go := fun i H h1 hi => by
    rw [jI] at hi
    obtain ⟨vs, s1, r1⟩ := h1.sq (K := K)
    obtain ⟨x, hx, _⟩ := r1.get (List.getElem?_eq_getElem hi)
    exact ⟨vs, x, s1, hx⟩
  yld := fun i H v H' d h1 hd h => by
    obtain ⟨a, x, ha, rfl, rfl, k1⟩ := h
    obtain ⟨vs, s1, r1⟩ := h1.sq (K := K)
    obtain ⟨dx, e1, rfl⟩ := o2 hd
    obtain ⟨x', hx, px⟩ := r1.get e1
    have q1 := k1 vs s1
    rw [hx] at q1
    cases q1
    refine ⟨bY ha _, dc ha (bg.cons ?_ (bg.cons px bg.nil))⟩
    rw [Nat.zero_add]
    exact dk
  stop := fun i H h1 hi => by
    rw [jI] at hi
    obtain ⟨vs, s1, r1⟩ := h1.sq (K := K)
    have l1 := r1.length
    exact ⟨vs, s1, by omega⟩
section
variable {X : Cx} {elts : List Expr} {x1 : Nat} {tp : Pos} {a b : Expr} {fa fb : Fe} {pos p : Pos} {nl : Nat} {G : List Str} {fs : aI → R (List PyData)}
def EC (K : PySem.W.Frag) (ta : TA) : TI := fun σ H R => ta σ H fun vs H1 => ∃ l xs b, vs = [.ref l] ∧ qY K H1 l xs b ∧ R (D6 K l b) H1
theorem zB {ta : TA} (hg : Gl X "enumerate") (hm : X.mg "enumerate" = none) (ha : PA X [a] ta) (hs : starEach [a] X.env = [(false, eval a X.env)]) : PI X (.Tuple elts x1 tp) (.Call (.Name "enumerate" p) [a] [] pos) (EC X.K ta) := by
  intro pins s σ H R I h
  refine Call_ (il I hg hm boot_enumerate (PyProof.Rows.callWith_type1 (cR (ha pos pins s σ H _ I h) fun us s1 ⟨vs, H1, I1, r1, q1⟩ => ?_) hs rfl))
  obtain ⟨l, xs, b, e, h1, q⟩ := q1
  subst e
  obtain ⟨u, rfl, ru⟩ := ja r1
  cases ru
  obtain ⟨its, w1, p1, g1⟩ := ik I1 h1
  have ll : l < s1.heap.objs.size := by rcases p1 with ⟨o, e, _⟩ | ⟨o, e, _⟩ <;> exact Heap.lt_size e
  refine wb p1 fun h' hz S kp => wpAny_pyIter_enum hz ?_
  have I2 : aC X pins σ H1 { s1 with heap := h' } := I1.kept (t' := s1.toks) kp
  have i2 : fR h' s1.heap.objs.size l 0 b := S.toB (nR I1 h1 kp)
  refine ⟨_, [s1.heap.objs.size + 1, s1.heap.objs.size], _, _, H1, rfl, I2, vB (b := b) (Nat.ne_of_gt (Nat.lt_succ_self _)) (Nat.ne_of_lt (Nat.lt_succ_of_lt ll)) (Nat.ne_of_lt ll), ⟨⟨_, hz⟩, i2⟩, fun a ha => ?_, q⟩
  have hle : s1.heap.objs.size ≤ a := by
    simp only [List.mem_cons, List.not_mem_nil, or_false] at ha
    rcases ha with rfl | rfl
    · exact Nat.le_add_right _ 1
    · exact Nat.le_refl _
  exact I1.fpOk hle (I1.hok.fresh hle)
def rO (fa : Fe) : aI → R (List PyData) := fun ρ => fa ρ >>= fun x => iw x >>= fun xs => .ok (fQ 0 xs)
theorem pC (T : Tb X nl G) (j : Nat) (hG : G[j]? = some ("enumerate" : Str)) (hm : X.mg "enumerate" = none) (ha : ah X a fa) (h1 : au a = true := by rfl) : nZ X (.Tuple elts x1 tp) (.Call (.Name "enumerate" p) [a] [] pos) (rO fa) := by
  have g := T.gl _ (List.mem_of_getElem? hG)
  refine PI.imp (zB g.1 hm (af ha aq h1) (by rw [a4 h1]; rfl)) fun σ H Rk h => ?_
  obtain ⟨ρ, sl, q⟩ := h
  unfold rO at q
  refine ⟨ρ, sl, ?_⟩
  unfold ag ay
  cases e1 : fa ρ with
  | ex c => rw [e1] at q; exact q
  | no => rw [e1] at q; exact q
  | ok x =>
    rw [e1] at q
    simp only [R.ok_bind] at q ⊢
    cases e3 : iw x with
    | ex c => exact absurd e3 (by cases x <;> simp [iw])
    | no => rw [e3] at q; exact q.elim
    | ok xs =>
      rw [e3] at q
      simp only [R.ok_bind] at q
      intro vs H1 s1 ra
      simp only [RA] at ra
      obtain ⟨v, r', rfl, p1, rfl⟩ := ra
      obtain ⟨l, b1, rfl, d1⟩ := tH p1 e3
      obtain ⟨us, u1, _⟩ := d1.sq (K := X.K)
      exact ⟨l, us, b1, rfl, u1, q _ H1 s1 ⟨_, wU, fun H2 k _ => d1.kp k⟩⟩
theorem Z.pC (T : Tb X nl G) (j : Nat) (hG : G[j]? = some ("enumerate" : Str)) (hm : X.mg "enumerate" = none) (ha : Z.ah X a fa) (h1 : au a = true := by rfl) : Z.nZ X (.Tuple elts x1 tp) (.Call (.Name "enumerate" p) [a] [] pos) (rO fa) :=
  ⟨D2.pC T j hG hm ha.un h1⟩
end
abbrev eX (h : Heap) (T : Addr) (a b c : Value) : Prop := h.get? T = some { cls := .type "tuple", data := .seq #[a, b, c] }
structure Z3 (h : Heap) (N l m o : Nat) (f0 : Value) (k : Nat) (xs ys zs : Array Value) : Prop where
  zz : IsZip h (N + 5) (N + 3) (N + 4) f0
  pp : eX h (N + 3) (.ref N) (.ref (N + 1)) (.ref (N + 2))
  qq : ∃ a b c, eX h (N + 4) a b c
  ii : gE h N l k xs
  jj : gE h (N + 1) m k ys
  kk : gE h (N + 2) o k zs
theorem my (a b c : Value) : checkTypeCall "zip" ⟨[a, b, c], []⟩ = pure () := by kernel_rfl
theorem oh (a b c : Value) : checkBuiltinCall "zip.__new__" ⟨[.type "zip", a, b, c], []⟩ = pure () := by kernel_rfl
theorem kg (a b c d : Value) : argsOk "object.__init__" ⟨[a, b, c, d], []⟩ := by unfold argsOk; kernel_rfl
section
variable {prog : Program} {w : World} {A : Around} {E : Value → Shared → Prop} {s : Shared} {N l m o : Nat} {k : Nat} {xs ys zs : Array Value}
theorem dN {T : Addr} {a b c x : Value} {k : Nat} {Q : Unit → Shared → Prop} (hT : eX s.heap T a b c)
    (h : ∀ h', h'.get? T = some { cls := .type "tuple", data := .seq ((#[a, b, c] : Array Value).setIfInBounds k x) } → Heap.SameBut T s.heap h' → Q () { s with heap := h' }) :
    wpAny (model prog w) A (updateSeq T (·.setIfInBounds k x)) Q E s := by
  refine wpAny_updateSeq hT rfl (h _ ?_ (Heap.SameBut.update ..))
  rw [Heap.get?_update_self _ hT rfl]
  simp [Obj.mapSeq]
theorem wl {x y v : Value} {Q : Value → Shared → Prop} (hl : l < N) (hm : m < N) (ho : o < N) (S : Z3 s.heap N l m o .none k xs ys zs) (hx : xs[k]? = some x) (hy : ys[k]? = some y) (hv : zs[k]? = some v)
    (hQ : ∀ h', Z3 h' N l m o (rawInt s.heap.objs.size) (k + 1) xs ys zs → eX h' s.heap.objs.size x y v → (∀ (c : Nat) o, c ≠ N + 5 → c ≠ N + 4 → c ≠ N → c ≠ N + 1 → c ≠ N + 2 → s.heap.get? c = some o → h'.get? c = some o) → Q (.ref s.heap.objs.size) { s with heap := h' }) :
    wpAny (model prog w) A (Builtin.«zip.__next__» ⟨[.ref (N + 5)], []⟩) (fun fin s' => ∃ v, fin = .done (.ret v) ∧ Q v s') E s := by
  obtain ⟨hz, hp, ⟨a, b, c, hq⟩, hi, hj, hk⟩ := S
  have n1 : ∀ {a b : Nat}, a ≠ b → (show Addr from a) ≠ (show Addr from b) := fun h => h
  show wpAny _ _ (field (Value.ref (N + 5)) 2 >>= _) _ _ _
  refine wpAny_bind (wpAny_field hz rfl (x := Value.bool false) rfl ?_)
  show wpAny _ _ (field (Value.ref (N + 5)) 3 >>= _) _ _ _
  refine wpAny_bind (wpAny_field hz rfl (x := Value.ref (N + 3)) rfl ?_)
  refine wpAny_bind (wpAny_seqItems hp rfl ?_)
  show wpAny _ _ (Builtin.SmallTypes.ownedTupleIsFree (Value.ref (N + 5)) >>= _) _ _ _
  refine wpAny_bind ?_
  unfold Builtin.SmallTypes.ownedTupleIsFree
  refine wpAny_bind (wpAny_field hz rfl (x := Value.none) rfl (wpAny_pure ?_))
  simp only [if_true]
  refine wpAny_bind (wpAny_rule ?_)
  refine wpAny_bind (wpAny_field hz rfl (x := Value.ref (N + 4)) rfl ?_)
  refine wpAny_bind (wpAny_setField_rec hz (by simp) fun g1 z1 s1 => ?_)
  replace z1 : IsZip g1 (N + 5) (N + 3) (N + 4) .ellipsis := z1
  refine wpAny_bind ?_
  simp only [List.zipIdx_cons, List.zipIdx_nil, List.forIn_cons, List.forIn_nil]
  refine wpAny_bind (wpAny_bind (wpAny_onRaise ?_))
  show wpAny _ _ (Builtin.SmallTypes.nextOf (Value.ref N) >>= _) _ _ _
  have hi1 : gE g1 N l k xs := hi.keep (fun o e => s1.extBut _ _ (n1 (by omega)) e) fun o e => s1.extBut _ _ (n1 (by omega)) e
  refine wpAny_bind (kz hi1 (n1 (by omega)) hx fun g2 i2 s2 => wpAny_pure ?_)
  have q2 : eX g2 (N + 4) a b c := s2.extBut _ _ (n1 (by omega)) (s1.extBut _ _ (n1 (by omega)) hq)
  refine wpAny_bind (wpAny_seqItems q2 rfl ?_)
  refine wpAny_bind (dN q2 fun g3 q3 s3 => ?_)
  replace q3 : eX g3 (N + 4) x b c := q3
  refine wpAny_bind (wpAny_letGo (wpAny_pure ?_))
  refine wpAny_bind (wpAny_bind (wpAny_onRaise ?_))
  show wpAny _ _ (Builtin.SmallTypes.nextOf (Value.ref (N + 1)) >>= _) _ _ _
  have hj3 : gE g3 (N + 1) m k ys := hj.keep (fun o e => s3.extBut _ _ (n1 (by omega)) (s2.extBut _ _ (n1 (by omega)) (s1.extBut _ _ (n1 (by omega)) e))) fun o e => s3.extBut _ _ (n1 (by omega)) (s2.extBut _ _ (n1 (by omega)) (s1.extBut _ _ (n1 (by omega)) e))
  refine wpAny_bind (kz hj3 (n1 (by omega)) hy fun g4 j4 s4 => wpAny_pure ?_)
  have q4 : eX g4 (N + 4) x b c := s4.extBut _ _ (n1 (by omega)) q3
  refine wpAny_bind (wpAny_seqItems q4 rfl ?_)
  refine wpAny_bind (dN q4 fun g5 q5 s5 => ?_)
  replace q5 : eX g5 (N + 4) x y c := q5
  refine wpAny_bind (wpAny_letGo (wpAny_pure ?_))
  refine wpAny_bind (wpAny_bind (wpAny_onRaise ?_))
  show wpAny _ _ (Builtin.SmallTypes.nextOf (Value.ref (N + 2)) >>= _) _ _ _
  have hk5 : gE g5 (N + 2) o k zs := hk.keep (fun o e => s5.extBut _ _ (n1 (by omega)) (s4.extBut _ _ (n1 (by omega)) (s3.extBut _ _ (n1 (by omega)) (s2.extBut _ _ (n1 (by omega)) (s1.extBut _ _ (n1 (by omega)) e))))) fun o e => s5.extBut _ _ (n1 (by omega)) (s4.extBut _ _ (n1 (by omega)) (s3.extBut _ _ (n1 (by omega)) (s2.extBut _ _ (n1 (by omega)) (s1.extBut _ _ (n1 (by omega)) e))))
  refine wpAny_bind (kz hk5 (n1 (by omega)) hv fun g6 k6 s6 => wpAny_pure ?_)
  have q6 : eX g6 (N + 4) x y c := s6.extBut _ _ (n1 (by omega)) q5
  refine wpAny_bind (wpAny_seqItems q6 rfl ?_)
  refine wpAny_bind (dN q6 fun g7 q7 s7 => ?_)
  replace q7 : eX g7 (N + 4) x y v := q7
  refine wpAny_bind (wpAny_letGo (wpAny_pure (wpAny_pure ?_)))
  refine wpAny_bind (wpAny_seqItems q7 rfl ?_)
  refine wpAny_bind (wpAny_newTuple ?_)
  have hsz : g7.objs.size = s.heap.objs.size := by rw [s7.1, s6.1, s5.1, s4.1, s3.1, s2.1, s1.1]
  have z7 : IsZip g7 (N + 5) (N + 3) (N + 4) .ellipsis := s7.extBut _ _ (n1 (by omega)) (s6.extBut _ _ (n1 (by omega)) (s5.extBut _ _ (n1 (by omega)) (s4.extBut _ _ (n1 (by omega)) (s3.extBut _ _ (n1 (by omega)) (s2.extBut _ _ (n1 (by omega)) z1)))))
  have k7 : ∀ (c : Nat) o, c ≠ N + 5 → c ≠ N + 4 → c ≠ N → c ≠ N + 1 → c ≠ N + 2 → s.heap.get? c = some o → g7.get? c = some o := fun c o c1 c2 c3 c4 c5 e => s7.extBut _ _ (n1 c2) (s6.extBut _ _ (n1 c5) (s5.extBut _ _ (n1 c2) (s4.extBut _ _ (n1 c4) (s3.extBut _ _ (n1 c2) (s2.extBut _ _ (n1 c3) (s1.extBut _ _ (n1 c1) e))))))
  have i7 : gE g7 N l (k + 1) xs := i2.keep (fun o e => s7.extBut _ _ (n1 (by omega)) (s6.extBut _ _ (n1 (by omega)) (s5.extBut _ _ (n1 (by omega)) (s4.extBut _ _ (n1 (by omega)) (s3.extBut _ _ (n1 (by omega)) e))))) fun o e => s7.extBut _ _ (n1 (by omega)) (s6.extBut _ _ (n1 (by omega)) (s5.extBut _ _ (n1 (by omega)) (s4.extBut _ _ (n1 (by omega)) (s3.extBut _ _ (n1 (by omega)) e))))
  have j7 : gE g7 (N + 1) m (k + 1) ys := j4.keep (fun o e => s7.extBut _ _ (n1 (by omega)) (s6.extBut _ _ (n1 (by omega)) (s5.extBut _ _ (n1 (by omega)) e))) fun o e => s7.extBut _ _ (n1 (by omega)) (s6.extBut _ _ (n1 (by omega)) (s5.extBut _ _ (n1 (by omega)) e))
  have l7 : gE g7 (N + 2) o (k + 1) zs := k6.keep (fun o e => s7.extBut _ _ (n1 (by omega)) e) fun o e => s7.extBut _ _ (n1 (by omega)) e
  have zlt : N + 5 < g7.objs.size := Heap.lt_size z7
  show wpAny _ _ (Builtin.SmallTypes.ownedTupleHandOut (Value.ref (N + 5)) (Value.ref g7.objs.size) >>= _) _ _ _
  refine wpAny_bind ?_
  unfold Builtin.SmallTypes.ownedTupleHandOut
  have z8 : IsZip (g7.push { cls := .type "tuple", data := .seq #[x, y, v] }) (N + 5) (N + 3) (N + 4) .ellipsis := Heap.get?_push_of_some _ z7
  refine wpAny_bind (wpAny_setField_rec z8 (by simp) fun g9 z9 s9 => ?_)
  replace z9 : IsZip g9 (N + 5) (N + 3) (N + 4) (rawInt g7.objs.size) := z9
  refine wpAny_setField_rec z9 (by simp) fun g10 z10 s10 => ?_
  replace z10 : IsZip g10 (N + 5) (N + 3) (N + 4) (rawInt g7.objs.size) := z10
  have up : ∀ (c : Nat) o, c ≠ N + 5 → g7.get? c = some o → g10.get? c = some o := fun c o c1 e => s10.extBut _ _ (n1 c1) (s9.extBut _ _ (n1 c1) (Heap.get?_push_of_some _ e))
  have t10 : eX g10 g7.objs.size x y v := s10.extBut _ _ (Nat.ne_of_gt zlt) (s9.extBut _ _ (Nat.ne_of_gt zlt) (Heap.get?_push_size _ rfl))
  rw [hsz] at z10 t10
  refine wpAny_pure ⟨_, rfl, ?_⟩
  show Q (.ref g7.objs.size) _
  rw [hsz]
  exact hQ g10 ⟨z10, up _ _ (by omega) (k7 _ _ (by omega) (by omega) (by omega) (by omega) (by omega) hp), ⟨x, y, v, up _ _ (by omega) q7⟩, i7.keep (fun o e => up _ _ (by omega) e) fun o e => up _ _ (by omega) e, j7.keep (fun o e => up _ _ (by omega) e) fun o e => up _ _ (by omega) e,
    l7.keep (fun o e => up _ _ (by omega) e) fun o e => up _ _ (by omega) e⟩ t10 fun c o c1 c2 c3 c4 c5 e => up c o c1 (k7 c o c1 c2 c3 c4 c5 e)
theorem xn {Q : PySem.Fin → Shared → Prop} (hh : A.handled = none) (hl : l < N) (hm : m < N) (ho : o < N) (S : Z3 s.heap N l m o .none k xs ys zs) (hend : xs[k]? = none ∨ ys[k]? = none ∨ zs[k]? = none)
    (hE : ∀ h' e, (∀ (c : Nat) o, c ≠ N + 5 → c ≠ N + 4 → c ≠ N → c ≠ N + 1 → c ≠ N + 2 → s.heap.get? c = some o → h'.get? c = some o) → (∃ o, h'.get? e = some o ∧ o.cls = .type "StopIteration") → E (.ref e) { s with heap := h' }) :
    wpAny (model prog w) A (Builtin.«zip.__next__» ⟨[.ref (N + 5)], []⟩) Q E s := by
  obtain ⟨hz, hp, ⟨a, b, c, hq⟩, hi, hj, hk⟩ := S
  have n1 : ∀ {a b : Nat}, a ≠ b → (show Addr from a) ≠ (show Addr from b) := fun h => h
  show wpAny _ _ (field (Value.ref (N + 5)) 2 >>= _) _ _ _
  refine wpAny_bind (wpAny_field hz rfl (x := Value.bool false) rfl ?_)
  show wpAny _ _ (field (Value.ref (N + 5)) 3 >>= _) _ _ _
  refine wpAny_bind (wpAny_field hz rfl (x := Value.ref (N + 3)) rfl ?_)
  refine wpAny_bind (wpAny_seqItems hp rfl ?_)
  show wpAny _ _ (Builtin.SmallTypes.ownedTupleIsFree (Value.ref (N + 5)) >>= _) _ _ _
  refine wpAny_bind ?_
  unfold Builtin.SmallTypes.ownedTupleIsFree
  refine wpAny_bind (wpAny_field hz rfl (x := Value.none) rfl (wpAny_pure ?_))
  simp only [if_true]
  refine wpAny_bind (wpAny_rule ?_)
  refine wpAny_bind (wpAny_field hz rfl (x := Value.ref (N + 4)) rfl ?_)
  refine wpAny_bind (wpAny_setField_rec hz (by simp) fun g1 z1 s1 => ?_)
  replace z1 : IsZip g1 (N + 5) (N + 3) (N + 4) .ellipsis := z1
  refine wpAny_bind ?_
  simp only [List.zipIdx_cons, List.zipIdx_nil, List.forIn_cons, List.forIn_nil]
  refine wpAny_bind (wpAny_bind (wpAny_onRaise ?_))
  show wpAny _ _ (Builtin.SmallTypes.nextOf (Value.ref N) >>= _) _ _ _
  have hi1 : gE g1 N l k xs := hi.keep (fun o e => s1.extBut _ _ (n1 (by omega)) e) fun o e => s1.extBut _ _ (n1 (by omega)) e
  cases hx : xs[k]? with
  | none =>
    refine wpAny_bind (gc hh hi1 hx fun g2 e s2 he => ?_)
    obtain ⟨oe, hoe, hce⟩ := he
    have z2 : IsZip g2 (N + 5) (N + 3) (N + 4) .ellipsis := s2 _ _ (n1 (by omega)) z1
    have hez : e ≠ (N + 5 : Nat) := fun t => by subst t; rw [z2] at hoe; cases hoe; simp at hce
    exact wpAny_setField_rec z2 (by simp) fun g3 _ s3 => hE g3 e (fun c o c1 _ c3 _ _ t => s3.extBut _ _ (n1 c1) (s2 _ _ (n1 c3) (s1.extBut _ _ (n1 c1) t))) ⟨oe, s3.extBut _ _ hez hoe, hce⟩
  | some x =>
    refine wpAny_bind (kz hi1 (n1 (by omega)) hx fun g2 i2 s2 => wpAny_pure ?_)
    have q2 : eX g2 (N + 4) a b c := s2.extBut _ _ (n1 (by omega)) (s1.extBut _ _ (n1 (by omega)) hq)
    refine wpAny_bind (wpAny_seqItems q2 rfl ?_)
    refine wpAny_bind (dN q2 fun g3 q3 s3 => ?_)
    replace q3 : eX g3 (N + 4) x b c := q3
    refine wpAny_bind (wpAny_letGo (wpAny_pure ?_))
    refine wpAny_bind (wpAny_bind (wpAny_onRaise ?_))
    show wpAny _ _ (Builtin.SmallTypes.nextOf (Value.ref (N + 1)) >>= _) _ _ _
    have hj3 : gE g3 (N + 1) m k ys := hj.keep (fun o e => s3.extBut _ _ (n1 (by omega)) (s2.extBut _ _ (n1 (by omega)) (s1.extBut _ _ (n1 (by omega)) e))) fun o e => s3.extBut _ _ (n1 (by omega)) (s2.extBut _ _ (n1 (by omega)) (s1.extBut _ _ (n1 (by omega)) e))
    have z3 : IsZip g3 (N + 5) (N + 3) (N + 4) .ellipsis := s3.extBut _ _ (n1 (by omega)) (s2.extBut _ _ (n1 (by omega)) z1)
    have k3 : ∀ (c : Nat) o, c ≠ N + 5 → c ≠ N + 4 → c ≠ N → s.heap.get? c = some o → g3.get? c = some o := fun c o c1 c2 c3 t => s3.extBut _ _ (n1 c2) (s2.extBut _ _ (n1 c3) (s1.extBut _ _ (n1 c1) t))
    cases hy : ys[k]? with
    | none =>
      refine wpAny_bind (gc hh hj3 hy fun g4 e s4 he => ?_)
      obtain ⟨oe, hoe, hce⟩ := he
      have z4 : IsZip g4 (N + 5) (N + 3) (N + 4) .ellipsis := s4 _ _ (n1 (by omega)) z3
      have hez : e ≠ (N + 5 : Nat) := fun t => by subst t; rw [z4] at hoe; cases hoe; simp at hce
      exact wpAny_setField_rec z4 (by simp) fun g5 _ s5 => hE g5 e (fun c o c1 c2 c3 c4 _ t => s5.extBut _ _ (n1 c1) (s4 _ _ (n1 c4) (k3 c o c1 c2 c3 t))) ⟨oe, s5.extBut _ _ hez hoe, hce⟩
    | some y =>
      have hv : zs[k]? = none := by
        rcases hend with t | t | t
        · rw [hx] at t; cases t
        · rw [hy] at t; cases t
        · exact t
      refine wpAny_bind (kz hj3 (n1 (by omega)) hy fun g4 j4 s4 => wpAny_pure ?_)
      have q4 : eX g4 (N + 4) x b c := s4.extBut _ _ (n1 (by omega)) q3
      refine wpAny_bind (wpAny_seqItems q4 rfl ?_)
      refine wpAny_bind (dN q4 fun g5 q5 s5 => ?_)
      refine wpAny_bind (wpAny_letGo (wpAny_pure ?_))
      refine wpAny_bind (wpAny_bind (wpAny_onRaise ?_))
      show wpAny _ _ (Builtin.SmallTypes.nextOf (Value.ref (N + 2)) >>= _) _ _ _
      have hk5 : gE g5 (N + 2) o k zs := hk.keep (fun o e => s5.extBut _ _ (n1 (by omega)) (s4.extBut _ _ (n1 (by omega)) (k3 _ o (by omega) (by omega) (by omega) e))) fun o e => s5.extBut _ _ (n1 (by omega)) (s4.extBut _ _ (n1 (by omega)) (k3 _ o (by omega) (by omega) (by omega) e))
      refine wpAny_bind (gc hh hk5 hv fun g6 e s6 he => ?_)
      obtain ⟨oe, hoe, hce⟩ := he
      have z6 : IsZip g6 (N + 5) (N + 3) (N + 4) .ellipsis := s6 _ _ (n1 (by omega)) (s5.extBut _ _ (n1 (by omega)) (s4.extBut _ _ (n1 (by omega)) z3))
      have hez : e ≠ (N + 5 : Nat) := fun t => by subst t; rw [z6] at hoe; cases hoe; simp at hce
      exact wpAny_setField_rec z6 (by simp) fun g7 _ s7 => hE g7 e (fun c o c1 c2 c3 c4 c5 t => s7.extBut _ _ (n1 c1) (s6 _ _ (n1 c5) (s5.extBut _ _ (n1 c2) (s4.extBut _ _ (n1 c4) (k3 c o c1 c2 c3 t))))) ⟨oe, s7.extBut _ _ hez hoe, hce⟩
theorem rd {x y v : Value} {Q : Option Value → Shared → Prop} (hl : l < N) (hm : m < N) (ho : o < N) (S : Z3 s.heap N l m o .none k xs ys zs) (hx : xs[k]? = some x) (hy : ys[k]? = some y) (hv : zs[k]? = some v)
    (hQ : ∀ h', Z3 h' N l m o (rawInt s.heap.objs.size) (k + 1) xs ys zs → eX h' s.heap.objs.size x y v → (∀ (c : Nat) o, c ≠ N + 5 → c ≠ N + 4 → c ≠ N → c ≠ N + 1 → c ≠ N + 2 → s.heap.get? c = some o → h'.get? c = some o) → Q (some (.ref s.heap.objs.size)) { s with heap := h' }) :
    wpAny (model prog w) A (pyNext (.ref (N + 5))) Q E s := by
  have hT : s.TypeIs (.ref (N + 5)) "zip" := ⟨_, S.zz, rfl⟩
  unfold pyNext
  exact wpAny_bind (wpAny_attempt (wpAny_callSpecial?_slot (name := Str.ofString "__next__") hT F.slot_zip_next (wpAny_call_entry F.slot_zip_next hT F.entry_zip_next (wl hl hm ho S hx hy hv fun h' a b c => wpAny_pure (hQ h' a b c)) (F.args_zip_next_1 _))))
theorem tj {Q : Option Value → Shared → Prop} (hh : A.handled = none) (hl : l < N) (hm : m < N) (ho : o < N) (S : Z3 s.heap N l m o .none k xs ys zs) (hend : xs[k]? = none ∨ ys[k]? = none ∨ zs[k]? = none)
    (hQ : ∀ h', (∀ (c : Nat) o, c ≠ N + 5 → c ≠ N + 4 → c ≠ N → c ≠ N + 1 → c ≠ N + 2 → s.heap.get? c = some o → h'.get? c = some o) → Q none { s with heap := h' }) : wpAny (model prog w) A (pyNext (.ref (N + 5))) Q E s := by
  have hT : s.TypeIs (.ref (N + 5)) "zip" := ⟨_, S.zz, rfl⟩
  unfold pyNext
  refine wpAny_bind (wpAny_attempt (wpAny_callSpecial?_slot (name := Str.ofString "__next__") hT F.slot_zip_next (wpAny_call_entry F.slot_zip_next hT F.entry_zip_next (xn hh hl hm ho S hend fun h' e hk he => ?_) (F.args_zip_next_1 _))))
  obtain ⟨o, ho, hc⟩ := he
  exact wpAny_bind (wpAny_isInstance (T := "StopIteration") (b := true) ⟨o, ho, hc⟩ isSubtype_stop (wpAny_pure (hQ _ hk)))
theorem wA (l m o : Addr) (xs ys zs : Array Value) : Meets (Builtin.«zip.__new__» ⟨[.type "zip", .ref l, .ref m, .ref o], []⟩) (fun _ R s => s.heap.IsTuple l xs ∧ s.heap.IsTuple m ys ∧ s.heap.IsTuple o zs ∧
    ∀ h', h'.objs.size = s.heap.objs.size + 6 → Z3 h' s.heap.objs.size l m o .none 0 xs ys zs → (∀ c o, s.heap.get? c = some o → h'.get? c = some o) →
      R (.ok (.ret (.ref (s.heap.objs.size + 5)))) { s with heap := h' }) :=
  .of_wp fun prog w A R s h => by
    obtain ⟨hp, g, d, tk, os⟩ := s; obtain ⟨h1, h2, h3, h⟩ := h
    have hsub := sub_zip
    have l1 : Heap.IsTuple (Shared.heap ⟨hp, g, d, tk, os⟩) l xs := h1
    have l2 : Heap.IsTuple (Shared.heap ⟨hp.push { cls := .type "tuple_iterator", data := .fields #[.ref l, .int 0 0] }, g, d, tk, os⟩) m ys := Heap.IsTuple.push h2 _
    have l3 : Heap.IsTuple (Shared.heap ⟨(hp.push { cls := .type "tuple_iterator", data := .fields #[.ref l, .int 0 0] }).push { cls := .type "tuple_iterator", data := .fields #[.ref m, .int 0 0] }, g, d, tk, os⟩) o zs := Heap.IsTuple.push (Heap.IsTuple.push h3 _) _
    have fin : ∀ (oi oj ok : Obj), gE (hp.push oi) hp.objs.size l 0 xs → gE ((hp.push oi).push oj) (hp.push oi).objs.size m 0 ys → gE (((hp.push oi).push oj).push ok) ((hp.push oi).push oj).objs.size o 0 zs →
        R (.ok (.ret (.ref (((((hp.push oi).push oj).push ok).push { cls := .type "tuple", data := .seq #[.ref hp.objs.size, .ref (hp.push oi).objs.size, .ref ((hp.push oi).push oj).objs.size] }).push { cls := .type "tuple", data := .seq #[.none, .none, .none] }).objs.size)))
          ⟨(((((hp.push oi).push oj).push ok).push { cls := .type "tuple", data := .seq #[.ref hp.objs.size, .ref (hp.push oi).objs.size, .ref ((hp.push oi).push oj).objs.size] }).push { cls := .type "tuple", data := .seq #[.none, .none, .none] }).push { cls := .type "zip", data := .fields #[.none, .bool false, .bool false, .ref (((hp.push oi).push oj).push ok).objs.size, .ref ((((hp.push oi).push oj).push ok).push { cls := .type "tuple", data := .seq #[.ref hp.objs.size, .ref (hp.push oi).objs.size, .ref ((hp.push oi).push oj).objs.size] }).objs.size] }, g, d, tk, os⟩ := fun oi oj ok hi hj hk => by
      have e1 : (hp.push oi).objs.size = hp.objs.size + 1 := Heap.size_push ..
      have e2 : ((hp.push oi).push oj).objs.size = hp.objs.size + 2 := by rw [Heap.size_push, e1]
      rw [e2] at hk ⊢
      rw [e1] at hj ⊢
      generalize hT : ({ cls := .type "tuple", data := .seq #[.ref hp.objs.size, .ref (hp.objs.size + 1), .ref (hp.objs.size + 2)] } : Obj) = T
      have e3 : (((hp.push oi).push oj).push ok).objs.size = hp.objs.size + 3 := by rw [Heap.size_push, e2]
      have e4 : ((((hp.push oi).push oj).push ok).push T).objs.size = hp.objs.size + 4 := by rw [Heap.size_push, e3]
      have e5 : (((((hp.push oi).push oj).push ok).push T).push { cls := .type "tuple", data := .seq #[.none, .none, .none] }).objs.size = hp.objs.size + 5 := by rw [Heap.size_push, e4]
      rw [e5, e4, e3]
      have kk : ∀ (c : Addr) (o' a b c' : Obj), (((hp.push oi).push oj).push ok).get? c = some o' → ((((((hp.push oi).push oj).push ok).push a).push b).push c').get? c = some o' := fun c o' a b c' e => Heap.get?_push_of_some _ (Heap.get?_push_of_some _ (Heap.get?_push_of_some _ e))
      refine h _ (by rw [Heap.size_push, e5]) ⟨?_, ?_, ⟨.none, .none, .none, ?_⟩, ?_, ?_, ?_⟩ fun c o' e => kk _ _ _ _ _ (Heap.get?_push_of_some _ (Heap.get?_push_of_some _ (Heap.get?_push_of_some _ e)))
      · show Heap.get? _ (hp.objs.size + 5) = _
        rw [← e5]
        exact Heap.get?_push_size _ rfl
      · refine Heap.get?_push_of_some _ (Heap.get?_push_of_some _ ?_)
        show Heap.get? _ (hp.objs.size + 3) = _
        rw [← e3, hT]
        exact Heap.get?_push_size _ (by rw [← hT]; rfl)
      · refine Heap.get?_push_of_some _ ?_
        show Heap.get? _ (hp.objs.size + 4) = _
        rw [← e4]
        exact Heap.get?_push_size _ rfl
      · exact hi.keep (fun o' e => kk _ _ _ _ _ (Heap.get?_push_of_some _ (Heap.get?_push_of_some _ e))) fun o' e => kk _ _ _ _ _ (Heap.get?_push_of_some _ (Heap.get?_push_of_some _ e))
      · exact hj.keep (fun o' e => kk _ _ _ _ _ (Heap.get?_push_of_some _ e)) fun o' e => kk _ _ _ _ _ (Heap.get?_push_of_some _ e)
      · exact hk.keep (fun o' e => kk _ _ _ _ _ e) fun o' e => kk _ _ _ _ _ e
    wp_walk using wpAny_pyIter_tuple l1, wpAny_pyIter_tuple l2, wpAny_pyIter_tuple l3
    exact ⟨_, rfl, fin _ _ _ (.inr ⟨⟨_, Heap.get?_push_size _ rfl, rfl, rfl⟩, Heap.IsTuple.push h1 _⟩) (.inr ⟨⟨_, Heap.get?_push_size _ rfl, rfl, rfl⟩, Heap.IsTuple.push l2 _⟩) (.inr ⟨⟨_, Heap.get?_push_size _ rfl, rfl, rfl⟩, Heap.IsTuple.push l3 _⟩)⟩
theorem wc {Q : Value → Shared → Prop} {l m o : Addr} (h1 : s.heap.IsTuple l xs) (h2 : s.heap.IsTuple m ys) (h3 : s.heap.IsTuple o zs)
    (h : ∀ h', h'.objs.size = s.heap.objs.size + 6 → Z3 h' s.heap.objs.size l m o .none 0 xs ys zs → (∀ c o, s.heap.get? c = some o → h'.get? c = some o) → Q (.ref (s.heap.objs.size + 5)) { s with heap := h' }) : wpAny (model prog w) A (call (.type "zip") [.ref l, .ref m, .ref o]) Q E s := by
  refine callType_new F.called_zip (by decide) (my _ _ _) (oh _ _ _) (fun obj => kg obj _ _ _) F.entry_zip_new (wA l m o xs ys zs) ⟨h1, h2, h3, fun h' e S k => ?_⟩
  exact ⟨⟨_, S.zz, rfl⟩, h h' e S k⟩
end
section
variable {X : Cx} {pins : List (Addr × Obj)} {σ : St} {H : Hp} {s : Shared} {h' : Heap}
theorem wI {t' : Nat} {fp : List Addr} {u1 u2 u3 : Value} {v1 v2 v3 : V} (I : aC X pins σ H s) (hf : ∀ b ∈ fp, lp X pins H b) (hob : ∀ b ∈ fp, b < s.heap.objs.size) (ht : eX h' s.heap.objs.size u1 u2 u3) (k : ∀ b o, b ∉ fp → s.heap.get? b = some o → h'.get? b = some o)
    (r1 : bf v1 u1) (r2 : bf v2 u2) (r3 : bf v3 u3) : aC X pins σ (ci H s.heap.objs.size (.tup [v1, v2, v3])) { s with heap := h', toks := t' } := by
  have I1 : aC X pins σ (ci H s.heap.objs.size (.tup [v1, v2, v3])) { s with heap := s.heap.push { cls := .type "tuple", data := .seq #[u1, u2, u3] }, toks := s.toks } :=
    I.laid (fun b u e => Heap.get?_push_of_some _ e) (Nat.le_refl _) ⟨by show 3 ≤ sizeLine; decide, [u1, u2, u3], .cons r1 (.cons r2 (.cons r3 .nil)), _, Heap.get?_push_size _ rfl, rfl, _, rfl⟩
  refine fD (fp := fp) (s := { s with heap := s.heap.push { cls := .type "tuple", data := .seq #[u1, u2, u3] }, toks := s.toks }) I1 (fun b o hb e => ?_) fun b hb => ?_
  · by_cases hz : b = s.heap.objs.size
    · subst hz
      have e' : (s.heap.push { cls := .type "tuple", data := .seq #[u1, u2, u3] }).get? s.heap.objs.size = some o := e
      rw [Heap.get?_push_size _ rfl] at e'
      cases e'
      exact ht
    · exact k b o hb (rf hz e)
  · obtain ⟨f0, f1, f2, f3, f4, f5⟩ := hf b hb
    exact ⟨by rw [ar (Nat.ne_of_lt (hob b hb))]; exact f0, f1, f2, f3, f4, f5⟩
end
def BR (K : PySem.W.Frag) (l m o : Addr) : It :=
  ⟨fun i H => ∃ xs ys zs x y z, dS K H l xs ∧ dS K H m ys ∧ dS K H o zs ∧ xs[i]? = some x ∧ ys[i]? = some y ∧ zs[i]? = some z,
   fun i H v H' => ∃ a x y z, H a = none ∧ v = .ref a ∧ H' = ci H a (.tup [x, y, z]) ∧ (∀ xs, dS K H l xs → xs[i]? = some x) ∧ (∀ ys, dS K H m ys → ys[i]? = some y) ∧ ∀ zs, dS K H o zs → zs[i]? = some z,
   fun i H => ∃ xs ys zs, dS K H l xs ∧ dS K H m ys ∧ dS K H o zs ∧ (xs.length ≤ i ∨ ys.length ≤ i ∨ zs.length ≤ i)⟩
structure DG (N l m o : Nat) (k : Nat) (h : Heap) : Prop where
  zz : IsZip h (N + 5) (N + 3) (N + 4) .none
  pp : eX h (N + 3) (.ref N) (.ref (N + 1)) (.ref (N + 2))
  qq : ∃ a b c, eX h (N + 4) a b c
  ii : h.IsTupleIter N l k
  jj : h.IsTupleIter (N + 1) m k
  kk : h.IsTupleIter (N + 2) o k
theorem eY {h : Heap} {i l : Addr} {k : Nat} {xs ys : Array Value} (x : gE h i l k xs) (t : h.IsTuple l ys) : h.IsTupleIter i l k := by
  rcases x with ⟨z, w⟩ | ⟨z, w⟩
  · exact (cZ w t).elim
  · exact z
theorem dF {h h' : Heap} {i l : Addr} {k : Nat} (x : h.IsTupleIter i l k) (hi : ∀ o, h.get? i = some o → h'.get? i = some o) : h'.IsTupleIter i l k := by
  obtain ⟨o, e, r⟩ := x; exact ⟨o, hi _ e, r⟩
theorem gV {h : Heap} {i l : Addr} {k : Nat} (x : h.IsTupleIter i l k) : ∃ o, h.get? i = some o ∧ ∀ v, o.data ≠ .cell v := by
  obtain ⟨o, e, c, d⟩ := x; exact ⟨o, e, fun v z => by rw [d] at z; cases z⟩
abbrev yC (N : Nat) : List Addr := [N + 5, N + 3, N + 4, N, N + 1, N + 2]
theorem vG {P : Program} {w : World} {K : PySem.W.Frag} {elts : List Expr} {x1} {pos : Pos} {N l m o : Nat} (hl : l < N) (hm : m < N) (ho : o < N) : rT P w K (.Tuple elts x1 pos) (BR K l m o) (yC N) (N + 5) (DG N l m o) where
  mem := by simp
  obj := fun k h st a ha => by
    simp only [yC, List.mem_cons, List.not_mem_nil, or_false] at ha
    rcases ha with rfl | rfl | rfl | rfl | rfl | rfl
    · exact ⟨_, st.zz, fun v e => by cases e⟩
    · exact ⟨_, st.pp, fun v e => by cases e⟩
    · obtain ⟨_, _, _, e⟩ := st.qq; exact ⟨_, e, fun v e => by cases e⟩
    · exact gV st.ii
    · exact gV st.jj
    · exact gV st.kk
  keep := fun k h h' st kp => ⟨kp (N + 5) (by simp) _ st.zz, kp (N + 3) (by simp) _ st.pp, let ⟨a, b, c, e⟩ := st.qq; ⟨a, b, c, kp (N + 4) (by simp) _ e⟩, dF st.ii fun o e => kp N (by simp) o e, dF st.jj fun o e => kp (N + 1) (by simp) o e, dF st.kk fun o e => kp (N + 2) (by simp) o e⟩
  item := by
    intro X hP hw hK hc k pins s σ H E I hf st hg
    subst hP hw hK
    obtain ⟨xs, ys, zs, x, y, z, h1, h2, h3, hx, hy, hz⟩ := hg
    obtain ⟨its, rv, t1, _⟩ := I.tuple h1
    obtain ⟨jts, rw', t2, _⟩ := I.tuple h2
    obtain ⟨kts, rz', t3, _⟩ := I.tuple h3
    obtain ⟨u, hu, ru⟩ := rv.get hx
    obtain ⟨v, hv, ry⟩ := rw'.get hy
    obtain ⟨q, hq, rq⟩ := rz'.get hz
    have S : Z3 s.heap N l m o .none k its.toArray jts.toArray kts.toArray := ⟨st.zz, st.pp, st.qq, .inr ⟨st.ii, t1⟩, .inr ⟨st.jj, t2⟩, .inr ⟨st.kk, t3⟩⟩
    refine rd hl hm ho S (x := u) (y := v) (v := q) (by simpa using hu) (by simpa using hv) (by simpa using hq) fun h' S' hp kp => ⟨_, rfl, ?_⟩
    have zlt : N + 5 < s.heap.objs.size := Heap.lt_size st.zz
    refine wpAny_letOwnedTupleGo_zip (s := { s with heap := h' }) S'.zz fun h2' hz2 sb => ?_
    have up : ∀ (a : Nat) o, a ≠ N + 5 → h'.get? a = some o → h2'.get? a = some o := fun a o ha e => sb.extBut a o ha e
    have hob : ∀ a ∈ yC N, a < s.heap.objs.size := fun a ha => by
      have : ∃ j : Nat, a = N + j ∧ j ≤ 5 := by
        simp only [yC, List.mem_cons, List.not_mem_nil, or_false] at ha
        rcases ha with rfl | rfl | rfl | rfl | rfl | rfl
        · exact ⟨5, rfl, by omega⟩
        · exact ⟨3, rfl, by omega⟩
        · exact ⟨4, rfl, by omega⟩
        · exact ⟨0, rfl, by omega⟩
        · exact ⟨1, rfl, by omega⟩
        · exact ⟨2, rfl, by omega⟩
      obtain ⟨j, rfl, hj⟩ := this
      exact Nat.lt_of_le_of_lt (Nat.add_le_add_left hj N) zlt
    have hn : H s.heap.objs.size = none := I.hok.fresh (Nat.le_refl _)
    have kq : ∀ (a : Nat) o, a < N → s.heap.get? a = some o → h'.get? a = some o := fun a o ha e => kp a o (by omega) (by omega) (by omega) (by omega) (by omega) e
    refine ⟨.ref s.heap.objs.size, _, wI (s := s) (t' := s.toks) (fp := yC N) (h' := h2') (u1 := u) (u2 := v) (u3 := q) (v1 := x) (v2 := y) (v3 := z) I hf hob (up _ _ (Nat.ne_of_gt zlt) hp) (fun a o ha e => ?_) ru ry rq, rfl, ⟨_, x, y, z, hn, rfl, rfl, fun zs hz => by rw [I.tuple_inj hz h1]; exact hx, fun zs hz => by rw [I.tuple_inj hz h2]; exact hy, fun zs hz' => by rw [I.tuple_inj hz' h3]; exact hz⟩, ?_, fun a ha => ?_⟩
    · simp only [yC, List.mem_cons, List.not_mem_nil, or_false, not_or] at ha
      exact up a o ha.1 (kp a o ha.1 ha.2.2.1 ha.2.2.2.1 ha.2.2.2.2.1 ha.2.2.2.2.2 e)
    · have i2 : h'.IsTupleIter N l (k + 1) := eY S'.ii (ys := its.toArray) (by obtain ⟨o, e, r⟩ := t1; exact ⟨o, kq _ _ hl e, r⟩)
      have j2 : h'.IsTupleIter (N + 1) m (k + 1) := eY S'.jj (ys := jts.toArray) (by obtain ⟨o, e, r⟩ := t2; exact ⟨o, kq _ _ hm e, r⟩)
      have k2 : h'.IsTupleIter (N + 2) o (k + 1) := eY S'.kk (ys := kts.toArray) (by obtain ⟨o, e, r⟩ := t3; exact ⟨o, kq _ _ ho e, r⟩)
      exact ⟨hz2, up _ _ (by omega) S'.pp, let ⟨a, b, c, e⟩ := S'.qq; ⟨a, b, c, up _ _ (by omega) e⟩, dF i2 fun o e => up _ _ (by omega) e, dF j2 fun o e => up _ _ (by omega) e, dF k2 fun o e => up _ _ (by omega) e⟩
    · rw [ar (Nat.ne_of_lt (hob a ha))]; exact (hf a ha).1
  done := by
    intro X hP hw hK hc k pins s σ H E I hf st hg
    subst hP hw hK
    obtain ⟨xs, ys, zs, h1, h2, h3, hle⟩ := hg
    obtain ⟨its, rv, t1, _⟩ := I.tuple h1
    obtain ⟨jts, rw', t2, _⟩ := I.tuple h2
    obtain ⟨kts, rz', t3, _⟩ := I.tuple h3
    have S : Z3 s.heap N l m o .none k its.toArray jts.toArray kts.toArray := ⟨st.zz, st.pp, st.qq, .inr ⟨st.ii, t1⟩, .inr ⟨st.jj, t2⟩, .inr ⟨st.kk, t3⟩⟩
    have e1 := rv.length
    have e2 := rw'.length
    have e3 := rz'.length
    refine tj (I.ok.hd hc) hl hm ho S ?_ fun h' kp => ⟨rfl, fD (t' := s.toks) (fp := yC N) I (fun a o ha e => ?_) hf⟩
    · rcases hle with z | z | z
      · left; simp; omega
      · right; left; simp; omega
      · right; right; simp; omega
    · simp only [yC, List.mem_cons, List.not_mem_nil, or_false, not_or] at ha
      exact kp a o ha.1 ha.2.2.1 ha.2.2.2.1 ha.2.2.2.2.1 ha.2.2.2.2.2 e
  self := fun _ _ _ _ _ st h => wpAny_pyIter_zip st.zz h
def fx : List PyData → List PyData → List PyData → List PyData
  | x :: xs, y :: ys, z :: zs => .tuple [x, y, z] :: fx xs ys zs
  | _, _, _ => []
theorem oW : ∀ {xs ys zs : List PyData} {i : Nat} {d : PyData}, (fx xs ys zs)[i]? = some d → ∃ x y z, xs[i]? = some x ∧ ys[i]? = some y ∧ zs[i]? = some z ∧ d = .tuple [x, y, z]
  | x :: xs, y :: ys, z :: zs, 0, d, h => by
    simp only [fx, List.getElem?_cons_zero] at h
    cases h
    exact ⟨x, y, z, rfl, rfl, rfl, rfl⟩
  | x :: xs, y :: ys, z :: zs, i + 1, d, h => by
    simp only [fx, List.getElem?_cons_succ] at h
    obtain ⟨a, b, c, h1, h2, h3, h4⟩ := oW h
    exact ⟨a, b, c, by simpa using h1, by simpa using h2, by simpa using h3, h4⟩
  | [], _, _, i, d, h => by simp [fx] at h
  | _ :: _, [], _, i, d, h => by simp [fx] at h
  | _ :: _, _ :: _, [], i, d, h => by simp [fx] at h
theorem lB : ∀ (xs ys zs : List PyData), (fx xs ys zs).length = min xs.length (min ys.length zs.length)
  | x :: xs, y :: ys, z :: zs => by simp only [fx, List.length_cons, lB xs ys zs]; omega
  | [], _, _ => by simp [fx]
  | _ :: _, [], _ => by simp [fx]
  | _ :: _, _ :: _, [] => by simp [fx]
def tD (H : Hp) (a : Addr) (ds : List PyData) : Prop := ∃ vs, H a = some (.tup vs) ∧ bg H ds vs
theorem tD.kp {H H' : Hp} {a : Addr} {ds : List PyData} (h : tD H a ds) (k : Kp H H') : tD H' a ds := by
  obtain ⟨vs, e, r⟩ := h; exact ⟨vs, k.1 _ _ e, bg.kp k _ _ r⟩
theorem xI {K : PySem.W.Frag} {l m o : Addr} {xs ys zs : List PyData} : yB (BR K l m o) (fun H => tD H l xs ∧ tD H m ys ∧ tD H o zs) (fx xs ys zs) where
  go := fun i H ⟨⟨vs, e1, r1⟩, ⟨us, e2, r2⟩, ⟨ws, e3, r3⟩⟩ hi => by
    rw [lB] at hi
    obtain ⟨x, hx, _⟩ := r1.get (List.getElem?_eq_getElem (show i < xs.length by omega))
    obtain ⟨y, hy, _⟩ := r2.get (List.getElem?_eq_getElem (show i < ys.length by omega))
    obtain ⟨z, hz, _⟩ := r3.get (List.getElem?_eq_getElem (show i < zs.length by omega))
    exact ⟨vs, us, ws, x, y, z, dS.of e1, dS.of e2, dS.of e3, hx, hy, hz⟩
  yld := fun i H v H' d ⟨⟨vs, e1, r1⟩, ⟨us, e2, r2⟩, ⟨ws, e3, r3⟩⟩ hd h => by
    obtain ⟨a, x, y, z, ha, rfl, rfl, k1, k2, k3⟩ := h
    obtain ⟨dx, dy, dz, g1, g2, g3, rfl⟩ := oW hd
    obtain ⟨x', hx, px⟩ := r1.get g1
    obtain ⟨y', hy, py⟩ := r2.get g2
    obtain ⟨z', hz, pz⟩ := r3.get g3
    have q1 := k1 vs (dS.of e1)
    have q2 := k2 us (dS.of e2)
    have q3 := k3 ws (dS.of e3)
    rw [hx] at q1; rw [hy] at q2; rw [hz] at q3
    cases q1; cases q2; cases q3
    exact ⟨bY ha _, dc ha (bg.cons px (bg.cons py (bg.cons pz bg.nil)))⟩
  stop := fun i H ⟨⟨vs, e1, r1⟩, ⟨us, e2, r2⟩, ⟨ws, e3, r3⟩⟩ hi => by
    rw [lB] at hi
    have l1 := r1.length
    have l2 := r2.length
    have l3 := r3.length
    exact ⟨vs, us, ws, dS.of e1, dS.of e2, dS.of e3, by omega⟩
theorem BW {a b c : V} {us : List Value} (r : bh [a, b, c] us) : ∃ u v w, us = [u, v, w] ∧ bf a u ∧ bf b v ∧ bf c w := by
  cases r with
  | cons r1 r =>
    cases r with
    | cons r2 r =>
      cases r with
      | cons r3 r =>
        cases r
        exact ⟨_, _, _, rfl, r1, r2, r3⟩
section
variable {X : Cx} {elts : List Expr} {x1 : Nat} {tp : Pos} {a b c : Expr} {fa fb fc : Fe} {pos p : Pos} {nl : Nat} {G : List Str} {fs : aI → R (List PyData)}
def DP (K : PySem.W.Frag) (ta : TA) : TI := fun σ H R => ta σ H fun vs H1 => ∃ l m o xs ys zs, vs = [.ref l, .ref m, .ref o] ∧ dS K H1 l xs ∧ dS K H1 m ys ∧ dS K H1 o zs ∧ R (BR K l m o) H1
theorem za {ta : TA} (hg : Gl X "zip") (hm : X.mg "zip" = none) (ha : PA X [a, b, c] ta) (hs : starEach [a, b, c] X.env = (false, eval a X.env) :: starEach [b, c] X.env) (hs2 : (backTo pos (starEach [b, c] X.env)).any (·.1) = false) :
    PI X (.Tuple elts x1 tp) (.Call (.Name "zip" p) [a, b, c] [] pos) (DP X.K ta) := by
  intro pins s σ H R I h
  refine Call_ (il I hg hm boot_zip (PyProof.Rows.callWith_type1 (cR (ha pos pins s σ H _ I h) fun us s1 ⟨vs, H1, I1, r1, q1⟩ => ?_) hs hs2))
  obtain ⟨l, m, o, xs, ys, zs, e, h1, h2, h3, q⟩ := q1
  subst e
  obtain ⟨u, v, w, rfl, ru, rv, rw'⟩ := BW r1
  cases ru
  cases rv
  cases rw'
  obtain ⟨its, w1, p1, g1⟩ := I1.tuple h1
  obtain ⟨jts, w2, p2, g2⟩ := I1.tuple h2
  obtain ⟨kts, w3, p3, g3⟩ := I1.tuple h3
  have ll : l < s1.heap.objs.size := by obtain ⟨o, e, _⟩ := p1; exact Heap.lt_size e
  have lm : m < s1.heap.objs.size := by obtain ⟨o, e, _⟩ := p2; exact Heap.lt_size e
  have lo : o < s1.heap.objs.size := by obtain ⟨o, e, _⟩ := p3; exact Heap.lt_size e
  refine wc p1 p2 p3 fun h' hz S kp => wpAny_pyIter_zip S.zz ?_
  have I2 : aC X pins σ H1 { s1 with heap := h' } := I1.kept (t' := s1.toks) kp
  have kt : ∀ {l : Addr} {xs : Array Value}, s1.heap.IsTuple l xs → h'.IsTuple l xs := fun ⟨o, e, r⟩ => ⟨o, kp _ _ e, r⟩
  refine ⟨_, yC s1.heap.objs.size, _, _, H1, rfl, I2, vG ll lm lo, ⟨S.zz, S.pp, S.qq, eY S.ii (kt p1), eY S.jj (kt p2), eY S.kk (kt p3)⟩, fun a ha => ?_, q⟩
  have hle : s1.heap.objs.size ≤ a := by
    simp only [yC, List.mem_cons, List.not_mem_nil, or_false] at ha
    rcases ha with rfl | rfl | rfl | rfl | rfl | rfl
    · exact Nat.le_add_right _ 5
    · exact Nat.le_add_right _ 3
    · exact Nat.le_add_right _ 4
    · exact Nat.le_refl _
    · exact Nat.le_add_right _ 1
    · exact Nat.le_add_right _ 2
  exact I1.fpOk hle (I1.hok.fresh hle)
def lT : PyData → R (List PyData)
  | .tuple ds => .ok ds
  | _ => .no
def se (fa fb fc : Fe) : aI → R (List PyData) := fun ρ => fa ρ >>= fun x => fb ρ >>= fun y => fc ρ >>= fun z => lT x >>= fun xs => lT y >>= fun ys => lT z >>= fun zs => .ok (fx xs ys zs)
theorem qm {H : Hp} {d : PyData} {v : V} {ds : List PyData} (h : Rp H d v) (e : lT d = .ok ds) : ∃ a, v = .ref a ∧ tD H a ds := by
  cases d with
  | tuple xs =>
    cases e
    simp only [Rp] at h
    obtain ⟨a, vs, rfl, h, r⟩ := h
    exact ⟨a, rfl, vs, h, r⟩
  | _ => cases e
theorem pQ {d : PyData} {c : Str} (e : lT d = .ex c) : False := by cases d <;> cases e
theorem pS (T : Tb X nl G) (j : Nat) (hG : G[j]? = some ("zip" : Str)) (hm : X.mg "zip" = none) (ha : ah X a fa) (hb : ah X b fb) (hc : ah X c fc) (h1 : au a = true := by rfl) (h2 : au b = true := by rfl) (h3 : au c = true := by rfl) :
    nZ X (.Tuple elts x1 tp) (.Call (.Name "zip" p) [a, b, c] [] pos) (se fa fb fc) := by
  have g := T.gl _ (List.mem_of_getElem? hG)
  refine PI.imp (za g.1 hm (af ha (af hb (af hc aq h3) h2) h1) (a4 h1) (by rw [a4 h2, a4 h3]; rfl)) fun σ H Rk h => ?_
  obtain ⟨ρ, sl, q⟩ := h
  unfold se at q
  refine ⟨ρ, sl, ?_⟩
  unfold ag ay
  cases e1 : fa ρ with
  | ex c => rw [e1] at q; exact q
  | no => rw [e1] at q; exact q
  | ok x =>
    rw [e1] at q
    simp only [R.ok_bind] at q ⊢
    cases e2 : fb ρ with
    | ex c => rw [e2] at q; exact q
    | no => rw [e2] at q; exact q
    | ok y =>
      rw [e2] at q
      simp only [R.ok_bind] at q ⊢
      cases e3 : fc ρ with
      | ex c => rw [e3] at q; exact q
      | no => rw [e3] at q; exact q
      | ok z =>
        rw [e3] at q
        simp only [R.ok_bind] at q ⊢
        cases g1 : lT x with
        | ex c => exact (pQ g1).elim
        | no => rw [g1] at q; exact q.elim
        | ok xs =>
          rw [g1] at q
          simp only [R.ok_bind] at q
          cases g2 : lT y with
          | ex c => exact (pQ g2).elim
          | no => rw [g2] at q; exact q.elim
          | ok ys =>
            rw [g2] at q
            simp only [R.ok_bind] at q
            cases g3 : lT z with
            | ex c => exact (pQ g3).elim
            | no => rw [g3] at q; exact q.elim
            | ok zs =>
              rw [g3] at q
              simp only [R.ok_bind] at q
              intro vs H1 s1 ra
              simp only [RA] at ra
              obtain ⟨v, r', rfl, p1, v', r'', rfl, p2, v'', r3, rfl, p3, rfl⟩ := ra
              obtain ⟨l, rfl, d1⟩ := qm p1 g1
              obtain ⟨m, rfl, d2⟩ := qm p2 g2
              obtain ⟨o, rfl, d3⟩ := qm p3 g3
              obtain ⟨us, u1, _⟩ := id d1
              obtain ⟨ws, u2, _⟩ := id d2
              obtain ⟨ts, u3, _⟩ := id d3
              exact ⟨l, m, o, us, ws, ts, rfl, dS.of u1, dS.of u2, dS.of u3, q _ H1 s1 ⟨_, xI, fun H2 k _ => ⟨d1.kp k, d2.kp k, d3.kp k⟩⟩⟩
theorem Z.pS (T : Tb X nl G) (j : Nat) (hG : G[j]? = some ("zip" : Str)) (hm : X.mg "zip" = none) (ha : Z.ah X a fa) (hb : Z.ah X b fb) (hc : Z.ah X c fc) (h1 : au a = true := by rfl) (h2 : au b = true := by rfl) (h3 : au c = true := by rfl) : Z.nZ X (.Tuple elts x1 tp) (.Call (.Name "zip" p) [a, b, c] [] pos) (se fa fb fc) :=
  ⟨D2.pS T j hG hm ha.un hb.un hc.un h1 h2 h3⟩
end
def ud (i j k : Nat) : PyData → aI → Option aI
  | .tuple [x, y, z], ρ => some (((ρ.set i (.val x)).set j (.val y)).set k (.val z))
  | _, _ => none
section
variable {X : Cx} {nl : Nat} {G : List Str} {x y z : Str} {kx : Nat} {p1 p2 p3 pos : Pos}
theorem tY (T : Tb X nl G) (i j k : Nat) (hi : (X.N.take nl)[i]? = some x) (hj : (X.N.take nl)[j]? = some y) (hk : (X.N.take nl)[k]? = some z) : pX X (.Tuple [.Name x p1, .Name y p2, .Name z p3] kx pos) (ud i j k) := by
  obtain ⟨i1, i2, i3⟩ := T.nm hi
  obtain ⟨j1, j2, j3⟩ := T.nm hj
  obtain ⟨k1, k2, k3⟩ := T.nm hk
  refine PG.imp (yr T.calm (jg (jB T.nd i1 i2 i3) (jg (jB T.nd j1 j2 j3) (jg (jB T.nd k1 k2 k3) uE)))) fun v σ H Q ⟨ρ, d, sl, p, q⟩ => ?_
  unfold ud at q
  split at q
  · rename_i e
    split at e
    · rename_i ρ0 dx dy dz
      cases e
      simp only [Rp] at p
      obtain ⟨a, vs, rfl, ha, r⟩ := p
      obtain ⟨u, r1, rfl, pu, r⟩ := r.cons_inv
      obtain ⟨w, r2, rfl, pw, r⟩ := r.cons_inv
      obtain ⟨t, r3, rfl, pt, r⟩ := r.cons_inv
      rw [r.nil_inv] at ha
      refine ⟨a, [u, w, t], rfl, dS.of ha, rfl, u, [w, t], rfl, w, [t], rfl, t, [], rfl, rfl, ?_⟩
      refine q _ (Sl.set (c := .val dz) (o := some t) (Sl.set (c := .val dy) (o := some w) (Sl.set (c := .val dx) (o := some u) sl i ⟨u, rfl, pu⟩) j ⟨w, rfl, pw⟩) k ⟨t, rfl, pt⟩) fun n e h => ?_
      obtain ⟨n1, h⟩ := bP (fun e z => by cases z) h
      obtain ⟨n2, h⟩ := bP (fun e z => by cases z) h
      obtain ⟨n3, h⟩ := bP (fun e z => by cases z) h
      exact ⟨h, by rw [List.getElem?_set, if_neg n1, List.getElem?_set, if_neg n2, List.getElem?_set, if_neg n3]⟩
    · cases e
  · exact q.elim
theorem Z.tY (T : Tb X nl G) (i j k : Nat) (hi : (X.N.take nl)[i]? = some x) (hj : (X.N.take nl)[j]? = some y) (hk : (X.N.take nl)[k]? = some z) : Z.pX X (.Tuple [.Name x p1, .Name y p2, .Name z p3] kx pos) (ud i j k) :=
  ⟨D2.tY T i j k hi hj hk⟩
end
section
variable {X : Cx} {nl : Nat} {G : List Str} {x : Str} {e : Expr} {f : Fe} {q1 q2 q3 q4 : Pos}
theorem jD (T : Tb X nl G) (n : Nat) (hN : X.N[n]? = some x) (he : ah X e f) (hst : au e = true := by rfl) (hline : (q2.endLine == q3.line) = true := by rfl)
    (hs : swapsWith (.Call (.Attribute (.Name x q1) "append" q2) [e] [] q3) none q4.line X.env = pure false := by rfl)
    (hbase : attributeBase (.Name x q1) "append" X.env (eval (.Name x q1) X.env) = eval (.Name x q1) X.env := by rfl) : eU X (.Expr (.Call (.Attribute (.Name x q1) "append" q2) [e] [] q3) q4) (fT n f) := fun Fm => by
  have hm := T.vis x (List.mem_of_getElem? hN)
  have sc : starEach [e] X.env = (false, eval e X.env) :: starEach [] X.env := a4 hst
  refine PS.imp (zJ (Dk PySem.F.plainAttrs_list PySem.F.slot_list_append PySem.F.type_list_append oY (im hN hm.1 hm.2.1 hm.2.2) (af he aq hst) hbase (by rw [sc]; rfl) hline sc rfl) hs) fun D σ H h => ?_
  obtain ⟨ρ, sl, q⟩ := h
  unfold fT at q
  cases ef : f ρ with
  | ex c => rw [ef] at q; exact q.elim
  | no => rw [ef] at q; exact q.elim
  | ok d =>
    rw [ef] at q
    simp only [km, R.ok_bind] at q
    cases er : ρ[n]? with
    | none => rw [er] at q; exact q.elim
    | some c =>
      rw [er] at q
      cases c with
      | non => exact q.elim
      | exc p => exact q.elim
      | val d' => exact q.elim
      | own d' =>
        cases d' with
        | list ds =>
          dsimp only at q
          by_cases hz : ds.length < sizeLine
          · rw [if_pos hz] at q
            obtain ⟨o, h2, w', rfl, p2⟩ := sl.sl.at er
            simp only [iU] at p2
            obtain ⟨a', vs, rfl, ha, r⟩ := p2
            refine ⟨.ref a', h2, .inl ⟨rfl, _, oa.of ha⟩, ρ, sl.sl, ?_⟩
            unfold ag ay
            rw [ef]
            intro us H1 s1 ra
            simp only [RA] at ra
            obtain ⟨v, r', rfl, p1, rfl⟩ := ra
            have ha1 := s1 _ _ ha
            refine ⟨a', vs, v, rfl, rfl, ha1, by rw [r.length]; exact hz, q _ _ ((sl.mono s1).change er h2 ha1 (.inl ⟨_, rfl⟩) ?_)⟩
            simp only [iU]
            exact ⟨a', _, rfl, aX, bg.kp (gq ha1 (.inl ⟨_, rfl⟩)) _ _ (bg.append (r.mono s1) (bg.cons p1 bg.nil))⟩
          · rw [if_neg hz] at q; exact q.elim
        | _ => exact q.elim
theorem Z.jD (T : Tb X nl G) (n : Nat) (hN : X.N[n]? = some x) (he : Z.ah X e f) (hst : au e = true := by rfl) (hline : (q2.endLine == q3.line) = true := by rfl) (hs : swapsWith (.Call (.Attribute (.Name x q1) "append" q2) [e] [] q3) none q4.line X.env = pure false := by rfl) (hbase : attributeBase (.Name x q1) "append" X.env (eval (.Name x q1) X.env) = eval (.Name x q1) X.env := by rfl) : Z.eU X (.Expr (.Call (.Attribute (.Name x q1) "append" q2) [e] [] q3) q4) (fT n f) :=
  ⟨D2.jD T n hN he.un hst hline hs hbase⟩
end
def gu (g : Fs) : Fs := fun ρ => km (g ρ)
theorem Tb.nox {X : Cx} {nl : Nat} {G : List Str} (T : Tb X nl G) : Tb X.nox nl G := ⟨T.hu, T.calm, T.nd, T.vis, T.loc, T.gl⟩
section
variable {X : Cx} {nl : Nat} {G : List Str} {st : Stmt} {g : Fs} {pos : Pos}
theorem cJ (h : eU X.nox st g) : eU X st (gu g) := fun Fm => by
  intro pins s σ H D I ⟨ρ, sl, q⟩
  refine wpAny_mono (h Fm pins s σ H D (I.wish _) ⟨ρ, sl, ?_⟩) (fun _ _ q => q.unwish) fun _ _ z => False.elim z
  unfold gu at q
  cases e : g ρ with
  | ok o =>
    rw [e] at q
    cases o <;> exact q
  | ex c => rw [e] at q; exact q.elim
  | no => rw [e] at q; exact q.elim
theorem Z.cJ (h : Z.eU X.nox st g) : Z.eU X st (gu g) :=
  ⟨D2.cJ h.un⟩
def cw (t : aI → R Bool) (g : Fs) : Nat → Fs
  | 0, _ => .no
  | n + 1, ρ => t ρ >>= fun b => if b = true then g ρ >>= fun o => (match o with
      | .nx ρ2 => cw t g n ρ2
      | .ct ρ2 => cw t g n ρ2
      | .bk ρ2 => .ok (.nx ρ2)
      | .rt r => .ok (.rt r)) else .ok (.nx ρ)
def nK (n : Nat) (t : aI → R Bool) (g : Fs) : Fs := cw t g n
theorem jd {c : Expr} {body : List Stmt} {t : aI → R Bool} (n : Nat) (hp : PassesOwn (model X.prog X.w) X.A X.env X.xe) (ht : gH X c t) (hb : gK X body g) : eU X (.While c body [] pos) (nK n t g) := fun Fm => by
  refine PS.imp (xu hp ht (hb Fm)) fun D σ H ⟨ρ, sl, q⟩ => ⟨fun m σ' H' => ∃ ρ', ic Fm H' σ' ρ' ∧ yx X Fm (cw t g m ρ') D, ⟨n, ρ, sl, q⟩, fun m σ1 H1 ⟨ρ1, sl1, q1⟩ => ?_⟩
  cases m with
  | zero => exact q1.elim
  | succ k =>
    have q2 : AG X Fm (fun ρ => t ρ >>= fun b => if b = true then g ρ >>= fun o => (match o with
      | .nx ρ2 => cw t g k ρ2
      | .ct ρ2 => cw t g k ρ2
      | .bk ρ2 => .ok (.nx ρ2)
      | .rt r => .ok (.rt r)) else .ok (.nx ρ)) D σ1 H1 := ⟨ρ1, sl1, q1⟩
    refine (ut (f := t) (k := fun ρ b => if b = true then g ρ >>= fun o => (match o with
      | .nx ρ2 => cw t g k ρ2
      | .ct ρ2 => cw t g k ρ2
      | .bk ρ2 => .ok (.nx ρ2)
      | .rt r => .ok (.rt r)) else .ok (.nx ρ)) q2).post fun b H2 ⟨ρ2, sl2, _, q3⟩ => ?_
    cases b with
    | false => exact q3 σ1 H2 sl2
    | true =>
      have q4 : yx X Fm (g ρ2 >>= fun o => (match o with
      | .nx ρ2 => cw t g k ρ2
      | .ct ρ2 => cw t g k ρ2
      | .bk ρ2 => .ok (.nx ρ2)
      | .rt r => .ok (.rt r))) D := q3
      show if true = true then _ else _
      rw [if_pos rfl]
      refine ⟨fun σ' H' => ∃ ρ', ic Fm H' σ' ρ' ∧ yx X Fm (cw t g k ρ') D, fun σ' H' z => ⟨k, Nat.lt_succ_self k, z⟩, ρ2, sl2, ?_⟩
      cases eg : g ρ2 with
      | ex c => rw [eg] at q4; exact q4
      | no => rw [eg] at q4; exact q4
      | ok o =>
        rw [eg] at q4
        cases o with
        | nx ρ4 => exact fun σ' H' s' => ⟨ρ4, s', q4⟩
        | ct ρ4 => exact fun σ' H' s' => ⟨ρ4, s', q4⟩
        | bk ρ4 => exact q4
        | rt r => exact q4
theorem Z.jd {c : Expr} {body : List Stmt} {t : aI → R Bool} (n : Nat) (hp : PassesOwn (model X.prog X.w) X.A X.env X.xe) (ht : Z.gH X c t) (hb : Z.gK X body g) : Z.eU X (.While c body [] pos) (nK n t g) :=
  ⟨D2.jd n hp ht.un hb.un⟩
end
abbrev wd : List Value := [.type "ValueError", .type "Exception", .type "BaseException", .type "object"]
abbrev uz : String := "ValueError.__new__"
section
variable {K : PySem.W.Frag} {h : Heap} {C : Addr}
def oB (h : Heap) (C : Addr) (bm : List Value) : Prop := ∃ N nm q bs hdct sn sub ab col dd k0 k1 k2 k3 k5 mN, h.get? C = some (excClassObj nm q C N bs bm hdct sn sub ab col dd k0 k1 k2 k3 k5 uz) ∧ h.Ns N mN ∧ mN "__init__" = none ∧ OwnTail h wd bm
theorem oB.keep {h' : Heap} {bm : List Value} (c : oB h C bm) (k : ∀ b o, h.get? b = some o → h'.get? b = some o) : oB h' C bm :=
  let ⟨N, nm, q, bs, hdct, sn, sub, ab, col, dd, k0, k1, k2, k3, k5, mN, hC, hN, hni, T⟩ := c
  ⟨N, nm, q, bs, hdct, sn, sub, ab, col, dd, k0, k1, k2, k3, k5, mN, k _ _ hC, hN.keeps k, hni, T.keeps k⟩
def i9 (K : PySem.W.Frag) (C : Addr) : List Value := match K.lookup C with
  | some ⟨_, _, .cls cd, _⟩ => cd.mro.drop 1
  | _ => []
theorem nM (X : K.In h) (q : PySem.W.excIn K C wd uz = true) : oB h C (i9 K C) := by
  unfold PySem.W.excIn at q
  unfold i9
  cases hk : K.lookup C with
  | none => rw [hk] at q; cases q
  | some ob =>
    rw [hk] at q
    split at q
    · rename_i dd cd sl ho
      cases ho
      split at q
      · rename_i C' bm k0 k1 k2 k3 n k5 hm hs
        simp only [Bool.not_eq_true', beq_iff_eq, Bool.and_eq_true] at q
        obtain ⟨⟨⟨⟨⟨e1, e2⟩, hdel⟩, ht⟩, hok⟩, hni⟩ := q
        subst e1; subst e2
        obtain ⟨nm, bs, mro, ns, qn, hd, sn, sub, ab, col, del⟩ := cd
        dsimp only at hm hdel hok hni ⊢
        subst hm; subst hdel
        have hsl : sl = #[k0, k1, k2, k3, some (.builtin uz), k5] := by
          obtain ⟨l⟩ := sl
          simp only at hs
          rw [hs]
        subst hsl
        exact ⟨ns, nm, qn, bs, hd, sn, sub, ab, col, dd, k0, k1, k2, k3, k5, _, X _ _ hk, .of_isNs (PySem.W.isNs_of_in X hok), PySem.W.nsMap_none_of_in X hok hni, PySem.W.tail_of_in X ht⟩
      · cases q
    · cases q
end
def qr (x : Str) (f : Fe) : Fs := fun ρ => km (f ρ) >>= fun _ => .ex x
section
variable {X : Cx} {nl : Nat} {G : List Str} {x : Str} {e : Expr} {f : Fe} {np cp pos : Pos} {C : Addr}
theorem mU (T : Tb X nl G) (j : Nat) (hG : G[j]? = some x) (hm : X.mg x = some (.ref C)) (hq : PySem.W.excIn X.K C wd uz = true) (he : ah X.nox e f) (hst : au e = true := by rfl) : eU X (.Raise (some (.Call (.Name x np) [e] [] cp)) none pos) (qr x f) := fun Fm => by
  intro pins s σ H D I ⟨ρ, sl, q⟩
  have hg := T.gl x (List.mem_of_getElem? hG)
  have sc : starEach [e] X.env = (false, eval e X.env) :: starEach [] X.env := a4 hst
  obtain ⟨N, nm, qn, bs, hdct, sn, sub, ab, col, dd, k0, k1, k2, k3, k5, mN, hC, hN, hni, TL⟩ := nM (I.ok.mod.kin) hq
  unfold qr at q
  cases ef : f ρ with
  | ex c => rw [ef] at q; exact q.elim
  | no => rw [ef] at q; exact q.elim
  | ok d =>
    rw [ef] at q
    simp only [km, R.ok_bind] at q
    refine wpAny_Raise_call_subT (C := C) (nm := nm) (q := qn) (N := N) (bs := bs) (bm := i9 X.K C) (hdct := hdct) (sn := sn) (sub := sub) (ab := ab) (col := col) (dd := dd) (k0 := k0) (k1 := k1) (k2 := k2) (k3 := k3) (k5 := k5) PySem.F.excBase_ValueError (mN := mN) (TL.hasType rfl) (I.ok.hd T.calm) (by rw [sc]; rfl) hni (kC I hg.1 hm ⟨rfl, ?_⟩ hg.2.1)
    rw [sc]
    refine Calls.evalArgs_plain (wpAny_mono ?_ (fun vs s2 z => ⟨rfl, z⟩) fun _ _ y => y)
    have ha : PA X.nox [e] (xM X.nox Rp (ag f ay)) := af he aq hst
    have hw := ha cp pins s σ H (fun vs H' => vs.length = 1 ∧ az H H') (I.wish _) ⟨ρ, sl.sl, by
      unfold ag ay
      rw [ef]
      intro vs H' s' ra
      simp only [RA] at ra
      obtain ⟨v, r, rfl, _, rfl⟩ := ra
      exact ⟨rfl, s'⟩⟩
    rw [show (X.nox.env) = X.env from rfl, sc] at hw
    refine wpAny_mono hw (fun us s2 ⟨vs, H2, I2, r2, hl, s12⟩ => ?_) fun _ _ z => False.elim z
    have I2 := I2.unwish
    have hlen : us.length = 1 := by rw [← r2.length]; exact hl
    exact ⟨by rw [hlen]; decide, I2.bk _ _ hC, hN.keeps I2.bk, TL.keeps I2.bk, fun h' p mk => q.2 C hm pins σ H2 s2 (sl.fm.trans s12) I2 h' p us mk⟩
theorem Z.mU (T : Tb X nl G) (j : Nat) (hG : G[j]? = some x) (hm : X.mg x = some (.ref C)) (hq : PySem.W.excIn X.K C wd uz = true) (he : Z.ah X.nox e f) (hst : au e = true := by rfl) : Z.eU X (.Raise (some (.Call (.Name x np) [e] [] cp)) none pos) (qr x f) :=
  ⟨D2.mU T j hG hm hq he.un hst⟩
end
section
variable {P : Program} {w : World} {l : List Env} {H H' : Hp} {s s' : Shared} {C p : Addr} {e : Value}
theorem mf.again {a0 : Value} {B h' : Heap} (f : mf P w l H s C H' e s') (fly : Heap.FlyingW B l p (.ref C) a0 s'.heap) (fly' : Heap.FlyingW B l p (.ref C) a0 h') (up : s'.heap.UpToSlots h') (okB : iX P w H' B) (hp : H' p = none)
    (cov : ∀ b o, s.heap.get? b = some o → H b = none → b ∉ md l → B.get? b = some o ∧ H' b = none) : mf P w l H s C H' (.ref p) { s' with heap := h' } := by
  refine ⟨f.os, f.bare, f.same, ⟨p, a0, B, rfl, fly', okB, hp, cov⟩, fun b o q n hb => ?_⟩
  obtain ⟨⟨sl, q2⟩, n2⟩ := f.slot b o q n hb
  obtain ⟨_, o3, q3, nf⟩ := fly.2.2.1.mem hb
  rw [q2] at q3
  cases q3
  obtain ⟨sl3, q4⟩ := up b _ q2 nf
  exact ⟨⟨sl3, q4⟩, n2⟩
theorem mf.land {M : Model} {A : Around} {E : Value → Shared → Prop} {Q : Unit → Shared → Prop} (f : mf P w l H s C H' (.ref p) s') (k : ∀ h', mf P w l H s C H' (.ref p) { s' with heap := h' } → Q () { s' with heap := h' }) : wpAny M A (setFlight (.ref p) none) Q E s' := by
  obtain ⟨p', a0, B, ep, fly, okB, hp, cov⟩ := f.ex
  cases ep
  exact lands_againW fly fun h' fly' up => k h' (f.again fly fly' up okB hp cov)
theorem mf.look {M : Model} {A : Around} {E : Value → Shared → Prop} {Q : Unit → Shared → Prop} {env : Env} {outer : List Env} {L : Addr} (f : mf P w (env :: outer) H s C H' e s') (hfr : A.frames = some (env :: outer)) (hf : env.frame = some L)
    (k : ∀ p h', e = .ref p → mf P w (env :: outer) H s C H' (.ref p) { s' with heap := h' } → Q () { s' with heap := h' }) : wpAny M A (noteFrame e env) (fun _ s2 => wpAny M A (setFlight e none) Q E s2) E s' := by
  obtain ⟨p, a0, B, rfl, fly, okB, hp, cov⟩ := f.ex
  refine wpAny_looks_onW hfr hf fly fun h4 held up4 => ?_
  exact wpAny_landsW (s := { s' with heap := h4 }) held fun h5 fly5 up5 => k p h5 rfl (f.again fly fly5 (up4.trans up5) okB hp cov)
theorem mf.obj (f : mf P w l H s C H' (.ref p) s') : ∃ ob vs, s'.heap.get? p = some ob ∧ ob.cls = .ref C ∧ ob.data = .fields vs ∧ H' p = none ∧ p ∉ md l := by
  obtain ⟨p', a0, B, ep, fly, okB, hp, cov⟩ := f.ex
  cases ep
  obtain ⟨oe, ws, h1, h2, h3, _⟩ := fly.first
  refine ⟨oe, ws, h1, h2, h3, hp, fun hm => ?_⟩
  obtain ⟨_, o, ho, hnf⟩ := fly.2.2.1.mem hm
  rw [h1] at ho
  cases ho
  exact hnf ws h3
end
theorem mf.inv {X : Cx} {pins : List (Addr × Obj)} {σ : St} {Hc H1 : Hp} {sc s' : Shared} {C : Addr} {e : Value} (f : mf X.prog X.w X.stack Hc sc C H1 e s') (I : aC X pins σ Hc sc) : aC X pins σ H1 s' :=
  I.call' f.os f.un f.hok f.bare fun b z => absurd z (by simp)
def Xh (X : Cx) (p : Addr) (ob : Obj) : Cx := { X with A := X.A.mark (some (.ref p)), calm := false, xe := fun _ _ => False, pn := (p, ob) :: X.pn }
section
variable {X : Cx} {pins : List (Addr × Obj)} {σ : St} {H : Hp} {s : Shared} {p : Addr} {ob : Obj}
theorem xU (I : aC X pins σ H s) (hp : s.heap.get? p = some ob) (hn : H p = none) (hl : p ≠ X.env.locals) (hf : p ∉ X.fs) (hc : ∀ v, ob.data ≠ .cell v) : aC (Xh X p ob) pins σ H s := by
  refine ⟨⟨I.ok.mod, I.ok.kind, I.ok.glob, I.ok.blt, I.ok.above, I.ok.inj, I.ok.has, I.ok.cab, fun z => (by cases z), I.ok.frames, I.ok.stk, I.ok.exf, I.ok.bs, I.ok.bsz, I.ok.noex, I.ok.exfs, I.ok.funs, I.ok.frf⟩, I.os, I.bare, I.base, I.loc, I.cell, I.free, I.freeC, fun q hq => ?_, I.hok, I.len⟩
  have hq' : q ∈ (p, ob) :: (X.pn ++ pins) := hq
  rcases List.mem_cons.mp hq' with rfl | z
  · exact ⟨hp, hn, hl, hf, hc⟩
  · exact I.pin q z
theorem tO (ok : X.Ok) (I : aC (Xh X p ob) pins σ H s) : aC X pins σ H s :=
  ⟨ok, I.os, I.bare, I.base, I.loc, I.cell, I.free, I.freeC, fun q hq => I.pin q (List.mem_cons_of_mem _ hq), I.hok, I.len⟩
end
structure DA (X : Cx) (nl : Nat) (G : List Str) : Prop where
  hu : X.A.units + 64 < cLine
  nd : X.N.Nodup
  vis : ∀ x ∈ X.N, BP X.env.scope x ∧ (x == ("__debug__" : Str)) = false ∧ (x == ("__classdict__" : Str)) = false
  loc : ∀ x ∈ X.N.take nl, Ar X.env.scope x ∧ (X.fn x = true ∨ X.env.scope.names.lookup x = some .local)
  gl : ∀ x ∈ G, Gl X x ∧ (x == ("__debug__" : Str)) = false ∧ x ≠ ("__name__" : Str)
theorem Tb.h {X : Cx} {nl : Nat} {G : List Str} (T : Tb X nl G) (p : Addr) (ob : Obj) : DA (Xh X p ob) nl G := ⟨T.hu, T.nd, T.vis, T.loc, T.gl⟩
section
variable {M : Model} {A : Around} {E : Value → Shared → Prop} {s : Shared} {C C2 p : Addr} {bm bm2 : List Value} {ob : Obj} {Q : Bool → Shared → Prop}
theorem wg (hC : oB s.heap C bm) (hC2 : oB s.heap C2 bm2) (he : s.heap.get? p = some ob) (hc : ob.cls = .ref C) (h : Q ((Value.ref C :: bm).contains (.ref C2)) s) : wpAny M A (excMatches (.ref p) (.ref C2)) Q E s := by
  obtain ⟨N, nm, qn, bs, hdct, sn, sub, ab, col, dd, k0, k1, k2, k3, k5, mN, hC, hN, hni, TL⟩ := hC
  obtain ⟨N', nm', qn', bs', hdct', sn', sub', ab', col', dd', k0', k1', k2', k3', k5', mN', hC2, hN', hni', TL'⟩ := hC2
  obtain ⟨hp, g, d, tk, os⟩ := s
  have hb2 : (Value.ref C2 :: bm2).contains (.type "BaseException") = true := by rw [List.contains_cons, show bm2.contains (.type "BaseException") = true from TL'.hasType (by decide), Bool.or_true]
  have f := tc_notTuple
  unfold excMatches
  repeat (first | (with_reducible refine wpAny_loadPart_at he ?_; rw [hc]) | with_reducible refine wpAny_loadPart_at hC2 ?_ | (with_reducible refine wpAny_isSubtype_exc hC2 ?_; rw [hb2]) | with_reducible refine wpAny_isSubtype_exc hC ?_ | wp_step)
  cases hb : (Value.ref C :: bm).contains (.ref C2) with
  | true => rw [hb] at h; wp_walk; exact h
  | false => rw [hb] at h; wp_walk; exact h
end
section
variable {K : PySem.W.Frag} {x t : Value} {Hh : Heap → Prop}
theorem yR {c : Value} (ty : ∀ (M : Model) (h : Heap), K.In h → Hh h → PySem.W.Looks M h (typeOf x) t) (e : PySem.W.kitOne K t c = some true) : Answers (fun s => K.In s.heap ∧ Hh s.heap) x c true := by
  intro dep tk prog w A R s hs
  obtain ⟨h0, g, d, tt, os⟩ := s
  obtain ⟨⟨X, p⟩, hq⟩ := hs
  have look := ty (model prog w) h0 X p
  unfold PySem.W.kitOne at e
  unfold Builtin.«isinstance.nested»
  refine wpAny_bind (look.at ?_)
  by_cases q : (t == c) = true
  · rw [if_pos q]
    exact wpAny_bind (wpAny_rule (wpAny_pure (hq tt)))
  · rw [if_neg q] at e
    rw [if_neg q]
    obtain ⟨hty, his, hsub⟩ := PySem.W.kit_cls (M := model prog w) X e
    have both : PySem.W.Looks (model prog w) h0 (isInstance x c) true := look.andThen hsub
    refine wpAny_bind (hty.at ?_)
    rw [if_pos (by decide)]
    k_delta "plainIsInstance"
    refine wpAny_bind (wpAny_bind (his.at ?_))
    simp only [if_false, Bool.false_eq_true, Bool.not_true]
    refine wpAny_bind (both.at ?_)
    first | exact wpAny_pure (wpAny_pure (hq tt)) | (simp only [if_true]; exact wpAny_pure (wpAny_pure (hq tt))) | (simp only [if_true]; exact wpAny_pure (hq tt)) | exact wpAny_bind (wpAny_pure (wpAny_pure (hq tt)))
end
def ou (i : Nat) (p : Addr) : Fe := fun ρ => match ρ[i]? with
  | some (.exc q) => if q = p then .ok (.bool true) else .no
  | _ => .no
section
variable {X : Cx} {nl : Nat} {G : List Str} {p C C2 : Addr} {ob : Obj} {n cx : Str} {pi pe pc pos : Pos}
theorem wT (hp : (p, ob) ∈ X.pn) (hc : ob.cls = .ref C) : dO X (.builtin "isinstance") (fun xs H Q => ∃ cv, xs = [.ref p, cv] ∧ (∀ u, bf cv u → PySem.W.kitOne X.K (.ref C) u = some true) ∧ Q (.bl true) H) := by
  intro pins s σ H xs us Q I r h
  obtain ⟨cv, rfl, hk, q⟩ := h
  obtain ⟨u, v, rfl, rx, ry⟩ := qR r
  cases rx
  have pin := (I.pin (p, ob) (List.mem_append_left _ hp)).1
  refine call_isinstance (S := fun _ R s => (X.K.In s.heap ∧ s.heap.get? p = some ob) ∧ ∀ tk, R (.ok (.ret (.bool true))) { s with toks := tk })
    (fun prog w A R s hs => isinstance_outer (yR (K := X.K) (x := .ref p) (t := .ref C) (Hh := fun h => h.get? p = some ob) (fun M h _ hp => hc ▸ (PySem.W.Looks.ld hp).andThen .now) (hk _ ry) 0 _ prog w A R s hs) (fun z => nomatch z)) ⟨⟨I.kIn, pin⟩, fun tk => ⟨.bl true, H, I.tok tk, rfl, q⟩⟩
theorem AR {i : Nat} {σ : St} {H : Hp} {Q : VK} (h : iW X gB (ou i p) σ H Q) : σ[i]? = some (some (.ref p)) ∧ Q (.bl true) H := by
  obtain ⟨ρ, sl, q⟩ := h
  unfold ou at q
  split at q
  · rename_i q' e
    split at q
    · rename_i e'
      subst e'
      obtain ⟨o, h1, h2⟩ := sl.at e
      have h2' : o = some (.ref q') := h2
      subst h2'
      exact ⟨h1, q _ H (az.refl _) eF⟩
    · exact q.elim
  · exact q.elim
theorem ub (T : DA X nl G) (hp : (p, ob) ∈ X.pn) (hc : ob.cls = .ref C) (i : Nat) (hN : X.N[i]? = some n) (j : Nat) (hG : G[j]? = some ("isinstance" : Str)) (hm : X.mg "isinstance" = none) (j' : Nat) (hG' : G[j']? = some cx) (hm' : X.mg cx = some (.ref C2))
    (hk : PySem.W.kitOne X.K (.ref C) (.ref C2) = some true) : ah X (.Call (.Name "isinstance" pi) [.Name n pe, .Name cx pc] [] pos) (ou i p) := by
  have g := T.gl _ (List.mem_of_getElem? hG)
  have g' := T.gl _ (List.mem_of_getElem? hG')
  have v := T.vis n (List.mem_of_getElem? hN)
  have h1 : PE X (.Name n pe) (A0 i) := im hN v.1 v.2.1 v.2.2
  have h2 : PE X (.Name cx pc) (tC (.ref C2)) := uK g'.1 hm' rfl g'.2.1
  refine PE.imp (kO (wT hp hc) g.1 hm PyProof.Rows.boot_isinstance (kX h1 (kX h2 tZ)) g.2.2 g.2.1) fun σ H Q h => ?_
  obtain ⟨a, b⟩ := AR h
  exact ⟨_, a, .ref C2, rfl, fun u r => by cases r; exact hk, b⟩
theorem Z.ub (T : DA X nl G) (hp : (p, ob) ∈ X.pn) (hc : ob.cls = .ref C) (i : Nat) (hN : X.N[i]? = some n) (j : Nat) (hG : G[j]? = some ("isinstance" : Str)) (hm : X.mg "isinstance" = none) (j' : Nat) (hG' : G[j']? = some cx) (hm' : X.mg cx = some (.ref C2)) (hk : PySem.W.kitOne X.K (.ref C) (.ref C2) = some true) : Z.ah X (.Call (.Name "isinstance" pi) [.Name n pe, .Name cx pc] [] pos) (ou i p) :=
  ⟨D2.ub T hp hc i hN j hG hm j' hG' hm' hk⟩
end
def D3 (X : Cx) (C : Addr) (hs : List ExceptHandler) (F : Addr → aI → R PyData) : Prop :=
  ∀ (pins : List (Addr × Obj)) (σ : St) (Hc H : Hp) (sc s : Shared) (p : Addr) (Fm : Hp) (ρ : aI) (D : o7), aC X pins σ Hc sc → mf X.prog X.w X.stack Hc sc C H (.ref p) s → ic Fm H σ ρ →
    (match F p ρ with
      | .ok d => ∀ v H', az Fm H' → Rp H' d v → D.rt v H'
      | _ => False) → wpAny (model X.prog X.w) X.A (handleBy (.ref p) X.env hs) (SP X pins D) X.xe s
section
variable {X : Cx} {nl : Nat} {G : List Str} {C C2 : Addr} {n cx : Str} {np rp hp : Pos} {e : Expr} {rest : List ExceptHandler} {F : Addr → aI → R PyData} {f : Addr → Fe} {name : Option Str} {body : List Stmt}
theorem Bh {pins : List (Addr × Obj)} {σ : St} {Hc H : Hp} {sc s : Shared} {p : Addr} {Q : Flow → Shared → Prop} {E : Value → Shared → Prop} (T : Tb X nl G) (j : Nat) (hG : G[j]? = some cx) (hm : X.mg cx = some (.ref C2)) (hq : PySem.W.excIn X.K C wd uz = true) (hq2 : PySem.W.excIn X.K C2 wd uz = true)
    (I : aC X pins σ Hc sc) (fl : mf X.prog X.w X.stack Hc sc C H (.ref p) s)
    (h : if (Value.ref C :: i9 X.K C).contains (.ref C2) = true then codeAny (model X.prog X.w) (X.A.mark (some (.ref p))) (.handlers (.ref p) [.ExceptHandler none name body hp] X.env) (fun r s₂ => match r with
          | .ok f => (match name with
            | none => Q f s₂
            | some n => wpAny (model X.prog X.w) X.A (do bindName X.env n .none; unbindBehindTheSuite X.env n hp) (fun _ s₃ => Q f s₃) E s₂)
          | .error x => cameBackBy (model X.prog X.w) X.A X.env E x s₂) s
      else wpAny (model X.prog X.w) X.A (handleBy (.ref p) X.env rest) Q E s) :
    wpAny (model X.prog X.w) X.A (handleBy (.ref p) X.env (.ExceptHandler (some (.Name cx np)) name body hp :: rest)) Q E s := by
  have I1 := fl.inv I
  obtain ⟨ob, vs, ho, hcls, hd, hn, hfr⟩ := fl.obj
  have g := T.gl cx (List.mem_of_getElem? hG)
  have hl : X.A.frames = some X.stack := I.ok.frames
  refine wpAny_handleBy_cons (codeAny_handlers_test ?_) (by intro z; cases z)
  refine Calls.Name_function_global I1.ok.kind g.1 (Calls.loadGlobal_global (by rw [I1.ok.glob]; exact I1.mod.glob.keeps I1.bk) hm ?_) g.2.1
  refine wg ((nM I1.ok.mod.kin hq).keep I1.bk) ((nM I1.ok.mod.kin hq2).keep I1.bk) ho hcls ?_
  cases hb : (Value.ref C :: i9 X.K C).contains (.ref C2) with
  | true => rw [hb] at h; exact h
  | false => rw [hb] at h; exact h
end
theorem BK {X : Cx} {pins : List (Addr × Obj)} {σ : St} {H : Hp} {s : Shared} {M : Model} {A : Around} {E : Value → Shared → Prop} {i : Nat} {x : Str} {v : V} {Q : Unit → Shared → Prop} (I : aC X pins σ H s) (hN : X.N.Nodup) (hi : X.N[i]? = some x) (hk : X.env.scope.names.lookup x = some .local)
    (hv : σ[i]? = some (some v)) (h : ∀ s', aC X pins (σ.set i none) H s' → Q () s') : wpAny M A (unbindName X.env x) Q E s := by
  obtain ⟨m, hn, hl⟩ := id I.loc
  obtain ⟨u, ru, lk⟩ := hl i x v hi hv (.inl hk)
  have hm : m x = some u := by
    rcases lk with ⟨_, z⟩ | ⟨k, _⟩
    · exact z
    · rcases k with k | k <;> (have k' : X.env.scope.names.lookup x = _ := k; rw [hk] at k'; cases k')
  have plain : (X.env.scope.kind == .class || (X.env.scope.kind == .module && X.env.locals != X.env.globals)) = false := by rw [I.ok.kind]; rfl
  refine wpAny_unbindName_local hk hn hm plain fun h' w' hn' sb => h _ ?_
  obtain ⟨oL, _, _, hoL, _⟩ := id hn
  have young : ∀ b o, X.s₀.heap.get? b = some o → b ≠ X.env.locals := fun b o q => Nat.ne_of_lt (Nat.lt_of_lt_of_le (Heap.lt_size q) I.ok.above)
  refine ⟨I.ok, I.os, I.bare, ⟨fun b o q n hb hx => (sb.2 b (young b o q)).trans (I.base.keep b o q n hb hx), fun b o q n hb hx => ?_, I.base.free, fun b o q hx => ?_, I.base.tups, I.base.frzs, I.base.tbls⟩, ⟨_, hn', fun j y v' q1 q2 q3 => ?_⟩, fun y c q => ?_, I.free, I.freeC, fun p hp => ?_, fun b ob q => ?_, by simpa using I.len⟩
  · obtain ⟨sl, q1⟩ := I.base.slot b o q n hb hx
    exact ⟨sl, (sb.2 b (young b o q)).trans q1⟩
  · obtain ⟨o', q1⟩ := I.base.there b o q hx
    exact ⟨o', (sb.2 b (young b o q)).trans q1⟩
  · by_cases hj : i = j
    · subst hj
      rw [List.getElem?_set, if_pos rfl] at q2
      split at q2 <;> cases q2
    · rw [List.getElem?_set, if_neg hj] at q2
      obtain ⟨u', r', z⟩ := hl j y v' q1 q2 q3
      refine ⟨u', r', ?_⟩
      rcases z with ⟨k, z⟩ | ⟨k, c, z1, z2⟩
      · refine .inl ⟨k, ?_⟩
        have ne : y ≠ x := fun t => hj (nS hN hi (t ▸ q1))
        simp [ne, z]
      · exact .inr ⟨k, c, z1, z2.sameBut sb (I.cne y c z1)⟩
  · obtain ⟨w2, z⟩ := I.cell y c q
    exact ⟨w2, z.sameBut sb (I.cne y c q)⟩
  · obtain ⟨q, n, ne, nf, d⟩ := I.pin p hp
    exact ⟨(sb.2 p.1 ne).trans q, n, ne, nf, d⟩
  · refine (I.hok b ob q).stay (fun c w2 hc z => (sb.2 c ?_).trans z) (fun _ z => z) fun _ _ z => z
    rintro rfl
    rcases hc with rfl | hc
    · rw [I.free] at q; cases q
    · rw [I.free] at hc; cases hc
section
variable {X : Cx} {nl : Nat} {G : List Str} {C C2 : Addr} {n cx : Str} {np rp hp : Pos} {e : Expr} {rest : List ExceptHandler} {f : Addr → Fe}
theorem vn {pins : List (Addr × Obj)} {σ : St} {Hc H : Hp} {sc s : Shared} {p : Addr} (I : aC X pins σ Hc sc) (fl : mf X.prog X.w X.stack Hc sc C H (.ref p) s) : ∃ ob, s.heap.get? p = some ob ∧ ob.cls = .ref C ∧ aC (Xh X p ob) pins σ H s := by
  have I1 := fl.inv I
  obtain ⟨ob, vs, ho, hcls, hd, hn, hfr⟩ := fl.obj
  refine ⟨ob, ho, hcls, xU I1 ho hn (fun z => ?_) (fun z => ?_) (fun v z => by rw [hd] at z; cases z)⟩
  · obtain ⟨m, ⟨o, es, ep, q1, q2, _⟩, _⟩ := I1.loc
    rw [← z, ho] at q1
    cases q1
    rw [hd] at q2
    cases q2
  · apply hfr
    rcases I.ok.stk with e | ⟨e, _⟩
    · rw [e]; exact z
    · rw [e]
      obtain ⟨env, he, hf⟩ := List.mem_filterMap.mp (show p ∈ X.outer.filterMap (·.frame) from z)
      exact List.mem_filterMap.mpr ⟨env, List.mem_cons_of_mem _ he, hf⟩
theorem ye (T : Tb X nl G) (j : Nat) (hG : G[j]? = some cx) (hm : X.mg cx = some (.ref C2)) (hq : PySem.W.excIn X.K C wd uz = true) (hq2 : PySem.W.excIn X.K C2 wd uz = true) (hb : (Value.ref C :: i9 X.K C).contains (.ref C2) = true)
    (i : Nat) (hN : (X.N.take nl)[i]? = some n) (hk : X.env.scope.names.lookup n = some .local)
    (he : ∀ p ob, ob.cls = .ref C → DA (Xh X p ob) nl G → ah (Xh X p ob) e (f p)) : D3 X C (.ExceptHandler (some (.Name cx np)) (some n) [.Return (some e) rp] hp :: rest) (fun p ρ => f p (ρ.set i (.exc p))) := fun pins σ Hc H sc s p Fm ρ D I fl sl q => by
  obtain ⟨hi, hl, hf⟩ := T.nm hN
  refine Bh T j hG hm hq hq2 I fl ?_
  rw [hb]
  refine codeAny_handlers_suite_as (fl.land fun h' fl' => ?_)
  obtain ⟨ob, ho, hcls, Ih⟩ := vn I fl'
  refine i6 (X := Xh X p ob) (v := .ref p) Ih T.nd hi hl rfl (fun s2 I2 => ?_) hf
  dsimp only at q
  have hi' : i < σ.length := by rw [I.len]; exact (List.getElem?_eq_some_iff.mp hi).1
  cases ef : f p (ρ.set i (.exc p)) with
  | ex c => rw [ef] at q; exact q.elim
  | no => rw [ef] at q; exact q.elim
  | ok d =>
    rw [ef] at q
    have sl2 : Sl H (σ.set i (some (.ref p))) (ρ.set i (.exc p)) := Sl.set (c := .exc p) (o := some (.ref p)) sl.sl i rfl
    have hw := he p ob hcls (T.h p ob) pins _ (σ.set i (some (.ref p))) H (fun v H' => az H H' ∧ Rp H' d v) I2 ⟨_, sl2, by rw [ef]; exact fun v H' s' r => ⟨s', r⟩⟩
    refine wpAny_execs_cons (wpAny_Return_some (wpAny_mono hw (fun u s3 ⟨v, H3, I3, r3, s13, rp⟩ => ?_) fun _ _ z => False.elim z))
    have I4 := tO I.ok I3
    show wpAny _ X.A (do bindName X.env n .none; unbindBehindTheSuite X.env n hp) _ _ s3
    refine wpAny_bind (wpAny_bindName (i6 (v := .non) I4 T.nd hi hl rfl (fun s5 I5 => ?_) hf))
    unfold unbindBehindTheSuite
    refine wpAny_onRaise (BK (v := .non) I5 T.nd hi hk (by rw [List.getElem?_set, if_pos rfl, if_pos (by simpa using hi')]) fun s6 I6 => ?_)
    exact ⟨v, _, H3, I6, r3, q v H3 (sl.fm.trans s13) rp⟩
end
open Classical in
noncomputable def v9 (F : Addr → R PyData) : R PyData := if h : ∃ r, ∀ p, F p = r then h.choose else .no
theorem sB (r : R PyData) : v9 (fun _ => r) = r := by
  have h : ∃ r', ∀ p : Addr, (fun _ => r) p = r' := ⟨r, fun _ => rfl⟩
  unfold v9
  rw [dif_pos h]
  exact (h.choose_spec 0).symm
theorem zw {F : Addr → R PyData} {d : PyData} (h : v9 F = .ok d) (p : Addr) : F p = .ok d := by
  unfold v9 at h
  split at h
  · rename_i q
    rw [q.choose_spec p]
    exact h
  · cases h
abbrev Hs := List (Str × (Addr → aI → R PyData))
noncomputable def Am (hs : Hs) (ρ : aI) (k : PyData → tJ) : R PyData → R tJ
  | .ok d => .ok (k d)
  | .no => .no
  | .ex c => match hs.lookup c with
    | some h => km (v9 (fun p => h p ρ)) >>= fun d => .ok (.rt d)
    | none => .no
inductive nr (X : Cx) (src : List ExceptHandler) : Hs → Prop
  | nil : nr X src []
  | cons {c : Str} {C : Addr} {h : Addr → aI → R PyData} {hs : Hs} (hm : X.mg c = some (.ref C)) (he : D3 X C src h) (r : nr X src hs) : nr X src ((c, h) :: hs)
theorem nr.at {X : Cx} {src : List ExceptHandler} {c : Str} {h : Addr → aI → R PyData} : ∀ {hs : Hs}, nr X src hs → hs.lookup c = some h → ∃ C, X.mg c = some (.ref C) ∧ D3 X C src h
  | _, .nil, e => by cases e
  | _, .cons (c := c') hm he r, e => by
    rw [List.lookup_cons] at e
    split at e
    · rename_i q
      have : c = c' := by simpa using q
      subst this
      cases e
      exact ⟨_, hm, he⟩
    · exact nr.at r e
section
variable {X : Cx} {k n : Nat} {f : Addr} {fd : FuncData} {ps : List Str} {F : List PyData → R PyData} {x : Str} {p pos sp tp : Pos} {e : Expr} {es : List Expr} {fs : aI → R (List PyData)} {nl : Nat} {G : List Str}
theorem xz {pins : List (Addr × Obj)} {σ : St} {H : Hp} {s : Shared} {ρ : aI} {ds : List PyData} {Qv : Value → Shared → Prop} {Ev : Value → Shared → Prop}
    (C : aV X.prog X.w X.K X.mg X.base (cK X.prog X.w X.mg) k f fd ps (dm F n)) (hr : dD k X.A) (T : Tb X nl G) (j : Nat) (hG : G[j]? = some x) (hm : X.mg x = some (.ref f)) (hk : PySem.W.keepIn X.K (.ref f) = true) (hb : gk X.K fd ps []) (ha : me X.nox (e :: es) fs)
    (hfs : ∀ ρ ds, fs ρ = .ok ds → ds.length = n) (he : (e :: es).all au = true) (I : aC X pins σ H s) (sl : Sl H σ ρ) (efs : fs ρ = .ok ds) (hno : F ds ≠ .no)
    (hok : ∀ d, F ds = .ok d → ∀ v u H' s', aC X pins σ H' s' → az H H' → Rp H' d v → bf v u → Qv u s')
    (hex : ∀ c, F ds = .ex c → ∀ C Hc sc H1 e s', X.mg c = some (.ref C) → aC X pins σ Hc sc → az H Hc → mf X.prog X.w X.stack Hc sc C H1 e s' → Ev e s') :
    wpAny (model X.prog X.w) X.A (eval (.Call (.Name x p) (e :: es) [] pos) X.env) Qv Ev s := by
  rw [List.all_cons, Bool.and_eq_true] at he
  have g := T.gl x (List.mem_of_getElem? hG)
  refine wpAny_Call_Name_kw (kC I g.1 hm ?_ g.2.1)
  have hw := ha pos pins s σ H (fun vs H' => az H H' ∧ RA Rp H' ds vs) (I.wish _) ⟨ρ, sl, by rw [efs]; exact fun vs H' s' r => ⟨s', r⟩⟩
  refine PySem.W.callWith_K (h₀ := X.base) I.ok.mod.kin hk (wpAny_mono hw (fun us s1 ⟨vs, H1, I1, r, s1', ra⟩ => ⟨I1.unwish.kIn, ?_⟩) fun _ _ z => False.elim z) (a4 he.1) (kM he.2)
  have I1 := I1.unwish
  have ra' := lw.mp ra
  have hsp : dm F n vs H1 (fun v H' => az H1 H' ∧ ∃ d, F ds = .ok d ∧ Rp H' d v) (fun v _ H' => ∃ c, F ds = .ex c ∧ v = .str c 0) := by
    refine ⟨ds, ra', hfs ρ ds efs, ?_⟩
    cases ef : F ds with
    | ok d => exact fun v H' s' r => ⟨s', d, rfl, r⟩
    | ex c => exact fun H' s' => ⟨c, rfl, rfl⟩
    | no => exact absurd ef hno
  have hl : (us ++ []).length = ps.length := by rw [List.append_nil, ← r.length]; exact C.len _ _ _ _ hsp
  refine wpAny_call (codeAny_mono (C.run X.A X.stack s1 H1 ⟨us, []⟩ (us ++ []) vs _ _ hr I1.env0 (hb s1 us I1.kIn hl) (by rw [List.append_nil]; exact r) hsp) fun r' s' hq => ?_)
  cases r' with
  | error e' =>
    obtain ⟨c', C', H', hm', fl, c, ef, ev⟩ := hq
    have : c' = c := by injection ev
    subst this
    exact hex c' ef C' H1 s1 H' e' s' hm' I1 s1' fl
  | ok fl =>
    cases fl with
    | ret u =>
      obtain ⟨v, H', I', rv, s2, d, ef, rp⟩ := I1.after hq
      exact hok d ef v u H' s' I' (s1'.trans s2) rp rv
    | next => exact False.elim hq
    | brk => exact False.elim hq
    | cont => exact False.elim hq
theorem tq {pins : List (Addr × Obj)} {σ : St} {H Fm : Hp} {ρ : aI} {D : o7} {h0 : ExceptHandler} {src : List ExceptHandler} {hs : Hs} {kk : PyData → tJ} {c : Str} {r : R PyData} (hstk : X.stack = X.env :: X.outer ∧ X.env.frame = some X.env.locals) (hH : nr X (h0 :: src) hs) (ec : r = .ex c) (sl : ic Fm H σ ρ) (q : yx X Fm (Am hs ρ kk r) D)
    {C : Addr} {Hc H1 : Hp} {sc s' : Shared} {ev : Value} (hm : X.mg c = some (.ref C)) (I : aC X pins σ Hc sc) (sH : az H Hc) (fl : mf X.prog X.w X.stack Hc sc C H1 ev s') :
    wpAny (model X.prog X.w) X.A (noteFrame ev X.env) (fun _ s₂ => wpAny (model X.prog X.w) X.A (setFlight ev none) (fun _ s₃ => wpAny (model X.prog X.w) X.A (handleBy ev X.env (h0 :: src)) (SP X pins D) X.xe s₃) X.xe s₂) X.xe s' := by
  subst ec
  simp only [Am] at q
  cases el : hs.lookup c with
  | none => rw [el] at q; exact q.elim
  | some h =>
    rw [el] at q
    dsimp only at q
    obtain ⟨C', hm', hE⟩ := hH.at el
    rw [hm] at hm'
    cases hm'
    have fl' := fl
    rw [hstk.1] at fl'
    refine fl'.look (by rw [I.ok.frames, hstk.1]) hstk.2 fun p h' ep fl2 => ?_
    subst ep
    rw [← hstk.1] at fl2
    have sl1 : ic Fm H1 σ ρ := sl.mono (sH.trans fl.same)
    refine hE pins σ Hc H1 sc _ p Fm ρ D I fl2 sl1 ?_
    cases ep : v9 (fun p => h p ρ) with
    | ex c => rw [ep] at q; exact q.elim
    | no => rw [ep] at q; exact q.elim
    | ok d =>
      rw [ep] at q
      rw [zw ep p]
      exact q
noncomputable def r0 (F : List PyData → R PyData) (fs : aI → R (List PyData)) (hs : Hs) : Fs := fun ρ => km (fs ρ) >>= fun ds => Am hs ρ (fun _ => .nx ρ) (F ds)
variable {h0 : ExceptHandler} {src : List ExceptHandler} {hs : Hs}
theorem pU (C : aV X.prog X.w X.K X.mg X.base (cK X.prog X.w X.mg) k f fd ps (dm F n)) (hr : dD k X.A) (T : Tb X nl G) (hstk : X.stack = X.env :: X.outer ∧ X.env.frame = some X.env.locals) (j : Nat) (hG : G[j]? = some x) (hm : X.mg x = some (.ref f)) (hk : PySem.W.keepIn X.K (.ref f) = true) (hb : gk X.K fd ps [])
    (ha : me X.nox (e :: es) fs) (hfs : ∀ ρ ds, fs ρ = .ok ds → ds.length = n) (hH : nr X (h0 :: src) hs) (he : (e :: es).all au = true := by rfl) (hsw : swapsWith (.Call (.Name x p) (e :: es) [] pos) none sp.line X.env = pure false := by rfl) :
    eU X (.Try [.Expr (.Call (.Name x p) (e :: es) [] pos) sp] (h0 :: src) [] [] tp) (r0 F fs hs) := fun Fm => by
  intro pins s σ H D I ⟨ρ, sl, q⟩
  unfold r0 at q
  cases efs : fs ρ with
  | ex c => rw [efs] at q; exact q.elim
  | no => rw [efs] at q; exact q.elim
  | ok ds =>
    rw [efs] at q
    simp only [km, R.ok_bind] at q
    refine wpAny_Try_except (wpAny_execs_cons (wpAny_Expr_any (xz C hr T j hG hm hk hb ha hfs he I sl.sl efs (fun z => by rw [z] at q; exact q) (fun d ed v u H' s' I' sH rp rv => ?_) fun c ec C' Hc sc H1 ev s' hm' I' sH fl => tq hstk hH ec sl q hm' I' sH fl) I.quiet hsw))
    rw [ed] at q
    exact wpAny_execs_nil (wpAny_execs_nil ⟨σ, H', I', q σ H' (sl.mono sH)⟩)
theorem Z.pU (C : aV X.prog X.w X.K X.mg X.base (cK X.prog X.w X.mg) k f fd ps (dm F n)) (hr : dD k X.A) (T : Tb X nl G) (hstk : X.stack = X.env :: X.outer ∧ X.env.frame = some X.env.locals) (j : Nat) (hG : G[j]? = some x) (hm : X.mg x = some (.ref f)) (hk : PySem.W.keepIn X.K (.ref f) = true) (hb : gk X.K fd ps []) (ha : Z.me X.nox (e :: es) fs) (hfs : ∀ ρ ds, fs ρ = .ok ds → ds.length = n) (hH : nr X (h0 :: src) hs) (he : (e :: es).all au = true := by rfl) (hsw : swapsWith (.Call (.Name x p) (e :: es) [] pos) none sp.line X.env = pure false := by rfl) : Z.eU X (.Try [.Expr (.Call (.Name x p) (e :: es) [] pos) sp] (h0 :: src) [] [] tp) (r0 F fs hs) :=
  ⟨D2.pU C hr T hstk j hG hm hk hb ha.un hfs hH he hsw⟩
end
section
variable {X : Cx} {a b c : Expr} {fa fb fc : Fe} {pos p2 : Pos} {nl : Nat} {G : List Str} {x : Str} {p : Pos}
theorem uk : ∀ {xs : List V} {vs : List Value}, vs.length = xs.length → (∀ (j : Nat) (v : Value), vs[j]? = some v → ∃ x, xs[j]? = some x ∧ bf x v) → bh xs vs
  | [], [], _, _ => .nil
  | [], _ :: _, e, _ => by cases e
  | _ :: _, [], e, _ => by cases e
  | x :: xs, v :: vs, e, h => by
    obtain ⟨y, e1, r⟩ := h 0 v rfl
    cases e1
    exact .cons r (uk (by simpa using e) fun j u hu => by
      obtain ⟨z, e2, r2⟩ := h (j + 1) u (by simpa using hu)
      exact ⟨z, by simpa using e2, r2⟩)
end
section
variable {prog : Program} {w : World} {A : Around} {E : Value → Shared → Prop} {s : Shared}
theorem og {R : List Value → Shared → Prop} {r : Addr} {a b c : Int} {t u v : Tok} {n : Nat} (hh : A.handled = none) (hr : IsRange s.heap r a b c t u v) (hsmall : Builtin.Range.small a b c = true)
    (hn : Builtin.Range.rangeSize a b c = n) (hlen : n ≤ 2 ^ 24)
    (h : ∀ (h' : Heap) (tk : Nat) (acc : Array Value), (∀ b o, s.heap.get? b = some o → h'.get? b = some o) → ItemsOf (fun i v => ∃ t, v = .int (a + i * c) t) acc n → R acc.toList { s with heap := h', toks := tk }) :
    wpAny (model prog w) A (collect (.ref r)) R E s := by
  unfold collect
  refine wpAny_bind (wpAny_runValue (codeAny_builtin F.entry_proto_collect ?_))
  rw [Around.under_plainId PySem.F.plain_proto_collect _]
  show wpAny _ A.in1 (newList [] >>= fun l => again (.builtin "list.__iadd__" ⟨[l, .ref r], []⟩)) _ _ s
  refine wpAny_bind (wpAny_newObj_type ?_)
  refine wpAny_pure ⟨plainId_quiet PySem.F.plain_list_iadd _, codeAny_builtin F.entry_list_iadd ?_⟩
  rw [Around.under_plainId PySem.F.plain_list_iadd _]
  have hS₁ : (s.heap.push { cls := .type "list", data := .seq ([] : List Value).toArray }).get? s.heap.objs.size = some { cls := .type "list", data := .seq #[] } := Heap.get?_push_size _ rfl
  show wpAny _ A.in1 (Builtin.List.listExtendWith (.ref s.heap.objs.size) (.ref r) (.ref s.heap.objs.size)) _ _ _
  have key := wpAny_extend_range (prog := prog) (w := w) (A := A) (s := { s with heap := s.heap.push { cls := .type "list", data := .seq ([] : List Value).toArray } })
    (R := fun (q : Result) (s' : Shared) => ∃ (h' : Heap) (tk : Nat) (acc' : Array Value) (c' : Nat), q = .ok (.ret (.ref s.heap.objs.size)) ∧ s' = { s with heap := h', toks := tk } ∧
      (∀ b o, s.heap.get? b = some o → h'.get? b = some o) ∧ h'.get? s.heap.objs.size = some { cls := .type "list", dict := none, data := .seq acc' c', slots := #[] } ∧ ItemsOf (fun i v => ∃ t, v = .int (a + i * c) t) acc' n)
    hh (Heap.get?_push_of_some _ hr) hsmall hn hlen s.heap.objs.size (.ref s.heap.objs.size) 0 hS₁
    (fun h' tk acc' c' hk hS' hacc => ⟨h', tk, acc', c', rfl, rfl, fun b o e => hk b o (Nat.ne_of_lt (Heap.lt_size e)) (Heap.get?_push_of_some _ e), hS', hacc⟩)
  refine wpAny_mono key (fun fin s' x => ?_) fun e s' x => ?_
  · cases fin with
    | done f =>
      obtain ⟨h', tk, acc', c', e, rfl, hk, hS', hacc⟩ := x
      cases e
      show wpAny _ A (load s.heap.objs.size >>= _) _ _ _
      refine wpAny_bind (wpAny_load hS' ?_)
      exact wpAny_pure (h h' tk acc' hk hacc)
    | again c' =>
      obtain ⟨hq, hc⟩ := x
      refine ⟨hq, codeAny_mono hc fun q s' ⟨h', tk, acc', c', e, e2, hk, hS', hacc⟩ => ?_⟩
      subst e e2
      show wpAny _ A (load s.heap.objs.size >>= _) _ _ _
      refine wpAny_bind (wpAny_load hS' ?_)
      exact wpAny_pure (h h' tk acc' hk hacc)
  · obtain ⟨h', tk, acc', c', e, _⟩ := x
    cases e
theorem lZ (r : Addr) (a b c : Int) (t u v : Tok) (n : Nat) (hsmall : Builtin.Range.small a b c = true) (hn : Builtin.Range.rangeSize a b c = n) (hlen : n ≤ 2 ^ 24) : Meets (Builtin.«tuple.__new__» ⟨[.type "tuple", .ref r], []⟩)
      (fun A R s => A.handled = none ∧ IsRange s.heap r a b c t u v ∧ ∀ (h' : Heap) (tk : Nat) (acc : Array Value), (∀ b o, s.heap.get? b = some o → h'.get? b = some o) → ItemsOf (fun i v => ∃ t, v = .int (a + i * c) t) acc n →
        R (.ok (.ret (.ref h'.objs.size))) { s with heap := h'.push { cls := .type "tuple", data := .seq acc }, toks := tk }) :=
  .of_wp fun prog w A R s h => by
    obtain ⟨hh, hr, h⟩ := h
    have hsub := sub_tuple_self
    have hinit := init_tuple_lookup
    have hmh := madeHere_tuple
    have hT : s.TypeIs (.ref r) "range" := ⟨_, hr, rfl⟩
    have hh1 : A.in1.handled = none := hh
    wp_walk using wpAny_typeOf hT, og hh1 hr hsmall hn hlen
    intro h' tk acc hk hacc
    show wpAny _ _ (Builtin.Tuple.tupleExact acc.toList.toArray >>= fun v => ret v) _ _ _
    unfold Builtin.Tuple.tupleExact
    refine wpAny_bind (wpAny_newObj_type ?_ (show acc.toList.toArray.size ≤ sizeLine by simp only [Array.toArray_toList]; rw [hacc.1, sizeLine_eq]; omega))
    refine wpAny_pure ⟨_, rfl, ?_⟩
    have e : acc.toList.toArray = acc := by simp
    rw [e]
    exact h h' tk acc hk hacc
theorem lg {Q : Value → Shared → Prop} {r : Addr} {a b c : Int} {t u v : Tok} {n : Nat} (hh : A.handled = none) (hr : IsRange s.heap r a b c t u v) (hsmall : Builtin.Range.small a b c = true) (hn : Builtin.Range.rangeSize a b c = n) (hlen : n ≤ 2 ^ 24)
    (h : ∀ (h' : Heap) (tk : Nat) (acc : Array Value), (∀ b o, s.heap.get? b = some o → h'.get? b = some o) → ItemsOf (fun i v => ∃ t, v = .int (a + i * c) t) acc n → Q (.ref h'.objs.size) { s with heap := h'.push { cls := .type "tuple", data := .seq acc }, toks := tk }) :
    wpAny (model prog w) A (call (.type "tuple") [.ref r]) Q E s := by
  refine callType_new F.called_tuple (by decide) (F.typeCall_tuple_1 _) (F.newCall_tuple_1 _) (fun obj => F.args_object_init_2 obj _) F.entry_tuple_new
    (lZ r a b c t u v n hsmall hn hlen) ⟨hh, hr, fun h' tk acc hk hacc => ⟨⟨_, Heap.get?_push_size _ rfl, rfl⟩, h h' tk acc hk hacc⟩⟩
end
section
variable {X : Cx} {a b c : Expr} {fa fb fc : Fe} {pos p2 : Pos} {nl : Nat} {G : List Str} {x : Str} {p : Pos} {fs : aI → R (List PyData)} {pos2 : Pos}
def iZ (lo : Int) (n : Nat) : List V := (List.range n).map fun (k : Nat) => .int (lo + k)
theorem vT {H : Hp} (lo : Int) (n : Nat) : bg H (bi lo n) (iZ lo n) := by
  have key : ∀ l : List Nat, bg H (l.map fun (k : Nat) => PyData.int (lo + k)) (l.map fun (k : Nat) => V.int (lo + k)) := by
    intro l
    induction l with
    | nil => exact bg.nil
    | cons k l ih => exact bg.cons dk ih
  exact key _
theorem sj {lo : Int} {n : Nat} {acc : Array Value} (h : ItemsOf (fun i v => ∃ t, v = .int (lo + (i : Int) * 1) t) acc n) : bh (iZ lo n) acc.toList := by
  refine uk (by rw [Array.length_toList, h.1]; simp [iZ]) fun j v hj => ?_
  obtain ⟨t, e⟩ := h.2 j v (by rw [← Array.getElem?_toList]; exact hj)
  have hjn : j < n := by
    have := (List.getElem?_eq_some_iff.mp hj).1
    rw [Array.length_toList, h.1] at this
    exact this
  refine ⟨.int (lo + j), ?_, t, by rw [e]; simp⟩
  unfold iZ
  rw [List.getElem?_map, List.getElem?_range hjn]
  rfl
theorem sO (lo : Int) (n : Nat) : (iZ lo n).length = n := by simp [iZ]
def DW (mk : List V → HO) (ta : TA) : TE := fun σ H Q => ta σ H fun vs H1 => ∃ j : Int, vs = [.int j] ∧ j ≤ 16777216 ∧ -(2 ^ 62) ≤ j ∧ ∀ l, H1 l = none → Q (.ref l) (ci H1 l (mk (iZ 0 j.toNat)))
theorem w5 {ta : TA} (T : Tb X nl G) (i : Nat) (hGi : G[i]? = some ("tuple" : Str)) (hmi : X.mg "tuple" = none) (j : Nat) (hG : G[j]? = some ("range" : Str)) (hm : X.mg "range" = none) (ha : PA X [a] ta) (hs : au a = true := by rfl) :
    PE X (.Call (.Name "tuple" p) [.Call (.Name "range" p2) [a] [] pos2] [] pos) (DW .tup ta) := by
  intro pins s σ H Q I h
  have g1 := T.gl _ (List.mem_of_getElem? hGi)
  have g2 := T.gl _ (List.mem_of_getElem? hG)
  have sc : starEach [Expr.Call (.Name "range" p2) [a] [] pos2] X.env = (false, eval (Expr.Call (.Name "range" p2) [a] [] pos2) X.env) :: starEach [] X.env := a4 (by rfl)
  refine Call_ (il I g1.1 hmi PyProof.Rows.boot_tuple (PyProof.Rows.callWith_type1 ?_ sc rfl))
  rw [sc]
  refine Calls.spliced_cons ?_
  refine Call_ (il I g2.1 hm boot_range (PyProof.Rows.callWith_type1 (cR (ha pos2 pins s σ H _ I h) fun us s1 ⟨vs, H1, I1, r1, q1⟩ => ?_) (a4 hs) rfl))
  obtain ⟨n, e, h1, h2, q⟩ := q1
  subst e
  obtain ⟨u, rfl, t, rfl⟩ := ja r1
  refine call_range_1 (Calls.spliced_nil ?_)
  have hsz : Builtin.Range.rangeSize 0 n 1 = n.toNat := by rw [rangeSize_one]; split <;> omega
  refine lg (n := n.toNat) (I1.ok.hd T.calm) (IsRange.new ..) (small_one (by omega) (by omega) (by omega) (by omega)) hsz (by omega) fun h' tk acc kp hacc => ?_
  have kp' : ∀ b o, s1.heap.get? b = some o → h'.get? b = some o := fun b o e => kp b o (Heap.get?_push_of_some _ e)
  have hg : s1.heap.get? h'.objs.size = none := by
    cases e : s1.heap.get? h'.objs.size with
    | none => rfl
    | some o => exact absurd (Heap.lt_size (kp' _ _ e)) (Nat.lt_irrefl _)
  have hn := rn I1 hg
  refine ⟨.ref h'.objs.size, _, qP (s := s1) (t' := tk) (o := .tup (iZ 0 n.toNat)) I1 (fun b o e => Heap.get?_push_of_some _ (kp' b o e)) hg hn ⟨by rw [sO, sizeLine_eq]; omega, acc.toList, sj hacc, _, Heap.get?_push_size _ rfl, rfl, _, by simp; rfl⟩, rfl, q _ hn⟩
def B6 (mk : List PyData → PyData) : List PyData → R PyData
  | [.int j] => if j ≤ 16777216 ∧ -(2 ^ 62) ≤ j then .ok (mk (bi 0 j.toNat)) else .no
  | _ => .no
def uN (fs : aI → R (List PyData)) : Fe := fun ρ => fs ρ >>= B6 .tuple
theorem qG (T : Tb X nl G) (i : Nat) (hGi : G[i]? = some ("tuple" : Str)) (hmi : X.mg "tuple" = none) (j : Nat) (hG : G[j]? = some ("range" : Str)) (hm : X.mg "range" = none) (ha : me X [a] fs) (hs : au a = true := by rfl) :
    ah X (.Call (.Name "tuple" p) [.Call (.Name "range" p2) [a] [] pos2] [] pos) (uN fs) :=
  PE.imp (w5 T i hGi hmi j hG hm ha hs) fun σ H Q h => (mQ (I := Rp) (f := fs) (k := fun _ => B6 .tuple) (eV (X := X) gi Q) h).post fun vs H1 ⟨_, ds, _, _, p1, q1⟩ => by
    unfold B6 at q1
    split at q1
    · rename_i n
      split at q1
      · rename_i hz
        simp only [RA] at p1
        obtain ⟨v, r', rfl, p, rfl⟩ := p1
        have ev : v = .int n := by simpa only [Rp] using p
        subst ev
        exact ⟨n, rfl, hz.1, hz.2, fun l hl => q1 _ _ (bY hl _) (dc hl (vT 0 n.toNat))⟩
      · exact q1.elim
    · exact q1.elim
theorem Z.qG (T : Tb X nl G) (i : Nat) (hGi : G[i]? = some ("tuple" : Str)) (hmi : X.mg "tuple" = none) (j : Nat) (hG : G[j]? = some ("range" : Str)) (hm : X.mg "range" = none) (ha : Z.me X [a] fs) (hs : au a = true := by rfl) : Z.ah X (.Call (.Name "tuple" p) [.Call (.Name "range" p2) [a] [] pos2] [] pos) (uN fs) :=
  ⟨D2.qG T i hGi hmi j hG hm ha.un hs⟩
end
section
variable {X : Cx} {a b : Expr} {fa fb : Fe} {pos p2 : Pos}
def Er : PyData → PyData → R PyData
  | .list xs, .int k => if -(2 ^ 63) ≤ k ∧ k < 2 ^ 63 ∧ xs.length * k.toNat ≤ sizeLine then .ok (.list (List.replicate k.toNat xs).flatten) else .no
  | _, _ => .no
end
theorem bg.set {H : Hp} {d : PyData} {v : V} (p : Rp H d v) : ∀ {ds : List PyData} {vs : List V} (j : Nat), bg H ds vs → bg H (ds.set j d) (vs.set j v)
  | [], vs, j, r => by rw [r.nil_inv]; exact bg.nil
  | d' :: ds, vs, j, r => by
    obtain ⟨v', r', rfl, p', t⟩ := r.cons_inv
    cases j with
    | zero => exact bg.cons p t
    | succ j => exact bg.cons p' (bg.set p j t)
def gy (i : Nat) (fk fv : Fe) : Fs := fun ρ => fv ρ >>= fun v => km (fk ρ) >>= fun k => match ρ[i]?, k with
  | some (.own (.list ds)), .int n => match uJ ds.length n with
    | some j => .ok (.nx (ρ.set i (.own (.list (ds.set j v)))))
    | none => .no
  | _, _ => .no
section
variable {X : Cx} {nl : Nat} {G : List Str} {x : Str} {f : Fe} {e : Expr}
theorem jC {k v : Expr} {fk fv : Fe} {q1 q2 q3 : Pos} (T : Tb X nl G) (n : Nat) (hN : X.N[n]? = some x) (hk : ah X.nox k fk) (hv : ah X v fv) (hs : swapsWithSole [.Subscript (.Name x q1) k q2] v q3.line X.env = pure false := by rfl) (hw : swappedStores [.Subscript (.Name x q1) k q2] v X.env = pure none := by rfl)
    (h1 : (assignEach [.Subscript (.Name x q1) k q2] X.env).map (·.2) = [assign (.Subscript (.Name x q1) k q2) X.env] := by rfl)
    (ha : ∀ v, assign (.Subscript (.Name x q1) k q2) X.env v = (do
      let ov ← holding [v] (eval (.Name x q1) X.env)
      let iv ← holding [v, ov] (eval k X.env)
      standAt q2
      holding [v, ov, iv] (setItem ov iv v)
      release [v, ov, iv] []) := by intro _; rfl) :
    eU X (.Assign [.Subscript (.Name x q1) k q2] v q3) (gy n fk fv) := fun Fm => by
  have hm := T.vis x (List.mem_of_getElem? hN)
  have hkX : PE X k (fun σ H Q => iW X.nox gB fk σ H Q) := fun pins s σ H Q I h => wpAny_mono (hk pins s σ H Q (I.wish _) h) (fun v s' ⟨y, H', I', r, q⟩ => ⟨y, H', I'.unwish, r, q⟩) fun _ _ z => False.elim z
  refine PS.imp (Bl hv (A7 (im hN hm.1 hm.2.1 hm.2.2) hkX xX ha) hs hw h1) fun D σ H h => ?_
  refine (mC (P := gB) (f := fv) (k := fun ρ v => km (fk ρ) >>= fun k => match ρ[n]?, k with
    | some (.own (.list ds)), .int m => match uJ ds.length m with
      | some j => .ok (.nx (ρ.set n (.own (.list (ds.set j v)))))
      | none => .no
    | _, _ => .no) h).post fun vv H1 ⟨ρ1, dv, sl1, _, p1, q1⟩ => ?_
  cases ef : fk ρ1 with
  | ex c => rw [ef] at q1; exact q1.elim
  | no => rw [ef] at q1; exact q1.elim
  | ok kd =>
    rw [ef] at q1
    simp only [km, R.ok_bind] at q1
    cases er : ρ1[n]? with
    | none => rw [er] at q1; exact q1.elim
    | some c =>
      rw [er] at q1
      cases c with
      | non => exact q1.elim
      | exc p => exact q1.elim
      | val d' => exact q1.elim
      | own d' =>
        cases d' with
        | list ds =>
          cases kd with
          | int m =>
            dsimp only at q1
            cases ei : uJ ds.length m with
            | none => rw [ei] at q1; exact q1.elim
            | some j =>
              rw [ei] at q1
              obtain ⟨o, h2, w', rfl, p2⟩ := sl1.sl.at er
              simp only [iU] at p2
              obtain ⟨a', vs, rfl, ha', r⟩ := p2
              refine ⟨.ref a', h2, ρ1, sl1.sl, ?_⟩
              rw [ef]
              intro yv H3 s3 p3
              have ev : yv = .int m := by simpa only [Rp] using p3
              have ha3 := s3 _ _ ha'
              have r3 := r.mono s3
              refine ⟨a', vs, m, j, rfl, ev, ha3, by rw [r.length]; exact ei, q1 _ _ ((sl1.mono s3).change er h2 ha3 (.inl ⟨_, rfl⟩) ?_)⟩
              simp only [iU]
              exact ⟨a', _, rfl, aX, bg.kp (gq ha3 (.inl ⟨_, rfl⟩)) _ _ (bg.set (p1.mono s3) j r3)⟩
          | _ => exact q1.elim
        | _ => exact q1.elim
theorem Z.jC {k v : Expr} {fk fv : Fe} {q1 q2 q3 : Pos} (T : Tb X nl G) (n : Nat) (hN : X.N[n]? = some x) (hk : Z.ah X.nox k fk) (hv : Z.ah X v fv) (hs : swapsWithSole [.Subscript (.Name x q1) k q2] v q3.line X.env = pure false := by rfl) (hw : swappedStores [.Subscript (.Name x q1) k q2] v X.env = pure none := by rfl) (h1 : (assignEach [.Subscript (.Name x q1) k q2] X.env).map (·.2) = [assign (.Subscript (.Name x q1) k q2) X.env] := by rfl) (ha : ∀ v, assign (.Subscript (.Name x q1) k q2) X.env v = (do
      let ov ← holding [v] (eval (.Name x q1) X.env)
      let iv ← holding [v, ov] (eval k X.env)
      standAt q2
      holding [v, ov, iv] (setItem ov iv v)
      release [v, ov, iv] []) := by intro _; rfl) : Z.eU X (.Assign [.Subscript (.Name x q1) k q2] v q3) (gy n fk fv) :=
  ⟨D2.jC T n hN hk.un hv.un hs hw h1 ha⟩
def Dy (g : Int → Int → Int) : PyData → PyData → R PyData
  | .int i, .int j => .ok (.int (g i j))
  | _, _ => .no
def tm (i : Nat) (g : Int → Int → Int) (f : Fe) : Fs := fun ρ => ad i ρ >>= fun x => f ρ >>= fun y => Dy g x y >>= fun z => .ok (.nx (ρ.set i (.val z)))
theorem yU {op : Operator} {g : Int → Int → Int} {pos pos' : Pos} (ho : Ei X op (En g)) (T : Tb X nl G) (i : Nat) (hN : (X.N.take nl)[i]? = some x) (he : ah X e f) : eU X (.AugAssign (.Name x pos') op e pos) (tm i g f) := fun Fm => by
  obtain ⟨n1, n2, n3⟩ := T.nm hN
  refine PS.imp (BN T.nd n1 n2 he ho n3) fun D σ H h => ?_
  obtain ⟨ρ, sl, q⟩ := h
  unfold tm at q
  cases ev : ad i ρ with
  | ex c => exact absurd ev (by unfold ad; split <;> simp)
  | no => rw [ev] at q; exact q.elim
  | ok dx =>
    rw [ev] at q
    simp only [R.ok_bind] at q
    have hc : ρ[i]? = some (.val dx) := by
      unfold ad at ev
      split at ev
      · rename_i d hd; cases ev; exact hd
      · cases ev
    obtain ⟨o, h2, w', rfl, p2⟩ := sl.sl.at hc
    refine ⟨w', h2, ?_⟩
    refine (mC (P := gB) (f := f) (k := fun ρ y => Dy g dx y >>= fun z => .ok (.nx (ρ.set i (.val z)))) ⟨ρ, sl, q⟩).post fun v H1 ⟨ρ1, d, sl1, s1, p, q1⟩ => ?_
    cases dx with
    | int a =>
      cases d with
      | int b =>
        have e1 : w' = .int a := by simpa only [Rp] using p2
        have e2 : v = .int b := by simpa only [Rp] using p
        subst e1
        subst e2
        exact ⟨a, b, rfl, rfl, q1 _ H1 (sl1.set i (fun e z => by cases z) ⟨.int (g a b), rfl, dk⟩)⟩
      | _ => exact q1.elim
    | _ => exact q1.elim
theorem pM {pos pos' : Pos} (T : Tb X nl G) (i : Nat) (hN : (X.N.take nl)[i]? = some x) (he : ah X e f) : eU X (.AugAssign (.Name x pos') .Add e pos) (tm i (fun a b => a + b) f) := yU A3 T i hN he
theorem Z.pM {pos pos' : Pos} (T : Tb X nl G) (i : Nat) (hN : (X.N.take nl)[i]? = some x) (he : Z.ah X e f) : Z.eU X (.AugAssign (.Name x pos') .Add e pos) (tm i (fun a b => a + b) f) :=
  ⟨D2.pM T i hN he.un⟩
end
def Ay : aW → aW
  | .own _ => .non
  | c => c
def iG (i : Nat) (d : PyData) (ρ : aI) : aI := (ρ.map Ay).set i (.val d)
def oE : PyData → R PyData
  | .none => .ok .none
  | .bool b => .ok (.bool b)
  | .int k => .ok (.int k)
  | .str x => .ok (.str x)
  | _ => .no
def jS (i : Nat) (f : Fe) : Fe := fun ρ => match ρ[i]? with
  | some (.own d) => km (f (iG i d ρ)) >>= oE
  | _ => f ρ
section
variable {X : Cx} {pins : List (Addr × Obj)} {σ : St} {H H1 : Hp} {s s' : Shared} {a : Addr} {u : HO} {o : Obj}
theorem vx (h : H a = some u) (S : az (ci H a (.frz o u)) H1) : az H (ci H1 a u) := fun b x e => by
  by_cases hb : b = a
  · subst hb; rw [aX]; rw [h] at e; exact e
  · rw [ar hb]; exact S b x (by rw [ar hb]; exact e)
theorem wO (I : aC X pins σ H s) (h : H a = some u) (hm : (∃ xs, u = .lst xs) ∨ ∃ ks, u = .dK ks) (S : az (ci H a (.frz o u)) H1) (J : aC X pins σ H1 s') : aC X pins σ (ci H1 a u) s' := by
  have ha : H1 a = some (.frz o u) := S a _ aX
  have nt : ∀ b xs, H1 b = some (.tup xs) → b ≠ a := fun b xs q z => by subst z; rw [ha] at q; cases q
  have nb : ∀ b ps, H1 b = some (.tbl ps) → b ≠ a := fun b ps q z => by subst z; rw [ha] at q; cases q
  have nw : ∀ b y, H1 b = some (.own y) → b ≠ a := fun b y q z => by subst z; rw [ha] at q; cases q
  have nn : ∀ b, H1 b = none → b ≠ a := fun b q z => by subst z; rw [ha] at q; cases q
  have st : ∀ b x, bI X.prog X.w H1 s'.heap b x → bI X.prog X.w (ci H1 a u) s'.heap b x := fun b x q =>
    q.stay (fun c v _ e => e) (fun c e => by rw [ar (nw _ _ e)]; exact e) fun c xs e => by rw [ar (nt _ _ e)]; exact e
  refine ⟨J.ok, J.os, J.bare, ⟨J.base.keep, J.base.slot, fun b ob' e n hx => ?_, J.base.there, fun b xs e => ?_, fun b ob' v e => ?_, fun b ps e => ?_⟩, J.loc, J.cell, ?_, fun x c e => ?_, fun p hp => ?_, fun b x e => ?_, J.len⟩
  · have := J.base.free b ob' e n hx
    rw [ar (nn _ this)]; exact this
  · have := J.base.tups b xs e
    rw [ar (nt _ _ this)]; exact this
  · have q := I.base.frzs b ob' v e
    have hb : b ≠ a := fun z => by subst z; rw [h] at q; rcases hm with ⟨_, rfl⟩ | ⟨_, rfl⟩ <;> cases q
    rw [ar hb]; exact J.base.frzs b ob' v e
  · obtain ⟨m, q⟩ := J.base.tbls b ps e
    exact ⟨m, by rw [ar (nb _ _ q)]; exact q⟩
  · rw [ar (nn _ J.free)]; exact J.free
  · rw [ar (nn _ (J.freeC x c e))]; exact J.freeC x c e
  · obtain ⟨p1, p2, p3⟩ := J.pin p hp
    exact ⟨p1, by rw [ar (nn _ p2)]; exact p2, p3⟩
  · by_cases hb : b = a
    · subst hb
      rw [aX] at e; cases e
      obtain ⟨_, q⟩ := (show bI X.prog X.w H1 s'.heap b (.frz o u) from J.hok b _ ha)
      exact st b u q
    · rw [ar hb] at e
      exact st b x (J.hok b x e)
theorem uj {ρ : aI} {i : Nat} {d : PyData} {v : V} (sl : Sl H σ ρ) (k : Kp H H1) (hv : σ[i]? = some (some v)) (hr : Rp H1 d v) : Sl H1 σ (iG i d ρ) := by
  unfold iG
  refine ⟨by rw [List.length_set, List.length_map]; exact sl.1, fun j c w' e1 e2 => ?_⟩
  rw [List.getElem?_set] at e1
  by_cases hij : i = j
  · subst hij
    rw [if_pos rfl] at e1
    split at e1
    · cases e1
      rw [hv] at e2
      cases e2
      exact ⟨_, rfl, hr⟩
    · cases e1
  · rw [if_neg hij, List.getElem?_map] at e1
    cases ec : ρ[j]? with
    | none => rw [ec] at e1; cases e1
    | some c' =>
      rw [ec] at e1
      have e1' : Ay c' = c := Option.some.inj e1
      subst e1'
      have q := sl.2 j c' w' ec e2
      cases c' with
      | exc p => exact q
      | non => exact True.intro
      | val d' => obtain ⟨v, z1, z2⟩ := q; exact ⟨v, z1, Rp.kp k _ _ z2⟩
      | own d' => exact True.intro
end
theorem Ag {H H' : Hp} {d d' : PyData} {v : V} (h : oE d = .ok d') (r : Rp H d v) : Rp H' d' v := by
  cases d <;> first | (cases h; simp only [Rp] at r ⊢; exact r) | cases h
theorem ah.lent {X : Cx} {e : Expr} {f : Fe} (i : Nat) (h : ah X e f) : ah X e (jS i f) := by
  intro pins s σ H Q I q
  obtain ⟨ρ, sl, q⟩ := q
  by_cases ho : ∃ d, ρ[i]? = some (.own d)
  · obtain ⟨d, ho⟩ := ho
    have el : jS i f ρ = (km (f (iG i d ρ)) >>= oE) := by unfold jS; rw [ho]
    rw [el] at q
    have go : ∀ (a : Addr) (u : HO) (hu : H a = some u) (hm : (∃ xs, u = .lst xs) ∨ ∃ ks, u = .dK ks) (o : Obj) (J : aC X pins σ (ci H a (.frz o u)) s) (sl1 : Sl (ci H a (.frz o u)) σ (iG i d ρ)), wpAny (model X.prog X.w) X.A (eval e X.env) (EP X pins σ Q) X.xe s := fun a u hu hm o J sl1 => by
      cases ef : f (iG i d ρ) with
      | no => rw [ef] at q; exact q.elim
      | ex c => rw [ef] at q; exact q.elim
      | ok d1 =>
        rw [ef] at q
        change tz X gB (oE d1) H Q at q
        cases ea : oE d1 with
        | no => rw [ea] at q; exact q.elim
        | ex c => rw [ea] at q; cases d1 <;> cases ea
        | ok d2 =>
          rw [ea] at q
          refine cR (h pins s σ (ci H a (.frz o u)) (fun v H' => az (ci H a (.frz o u)) H' ∧ Rp H' d1 v) J ⟨iG i d ρ, sl1, by rw [ef]; exact fun v H' hs p => ⟨hs, p⟩⟩) fun w s' ⟨v, H', J', r, hs, p⟩ => ?_
          exact ⟨v, ci H' a u, wO I hu hm hs J', r, q v _ (vx hu hs) (Ag ea p)⟩
    obtain ⟨w', h2, v, rfl, qo⟩ := sl.at ho
    cases d <;> simp only [iU] at qo
    · rename_i ds
      obtain ⟨a, vs, rfl, ha, r⟩ := qo
      obtain ⟨o, J⟩ := gp I ha (.inl ⟨_, rfl⟩)
      have kp := gq (o' := .frz o (.lst vs)) ha (.inl ⟨_, rfl⟩)
      have hr : Rp (ci H a (.frz o (.lst vs))) (.list ds) (.ref a) := by
        simp only [Rp]
        exact ⟨a, o, vs, rfl, aX, bg.kp kp _ _ r⟩
      exact go a _ ha (.inl ⟨_, rfl⟩) o J (uj sl kp h2 hr)
    · rename_i ds
      obtain ⟨a, vs, rfl, ha, r⟩ := qo
      obtain ⟨o, J⟩ := gp I ha (.inr ⟨_, rfl⟩)
      have kp := gq (o' := .frz o (.dK vs)) ha (.inr ⟨_, rfl⟩)
      have hr : Rp (ci H a (.frz o (.dK vs))) (.dict ds) (.ref a) := by
        simp only [Rp]
        exact .inl ⟨a, o, vs, rfl, aX, dJ.kp kp _ _ r⟩
      exact go a _ ha (.inr ⟨_, rfl⟩) o J (uj sl kp h2 hr)
  · have el : jS i f ρ = f ρ := by
      unfold jS
      split
      · rename_i d e1; exact (ho ⟨d, e1⟩).elim
      · rfl
    rw [el] at q
    exact h pins s σ H Q I ⟨ρ, sl, q⟩
theorem Z.ah.lent {X : Cx} {e : Expr} {f : Fe} (i : Nat) (h : Z.ah X e f) : Z.ah X e (jS i f) :=
  ⟨D2.ah.lent i h.un⟩
def w9 (C : Addr) (names : List Str) (ds : List PyData) : PyData := .dict ((.none, .int C) :: (names.zip ds).map fun p => (.str p.1, p.2))
def tL (f : Str) : List (PyData × PyData) → R PyData
  | [] => .no
  | (.str x, d) :: r => if x = f then .ok d else tL f r
  | _ :: _ => .no
def jJ (C : Addr) (f : Str) : PyData → R PyData
  | .dict ((.none, .int c) :: kvs) => if c = (C : Int) then tL f kvs else .no
  | _ => .no
def wu (C : Addr) (names : List Str) (fs : aI → R (List PyData)) : Fe := fun ρ => fs ρ >>= fun ds => .ok (w9 C names ds)
def Cf (C : Addr) (names : List Str) : Sp := fun vs H Q _ => ∃ x dx ws, vs = .ref x :: ws ∧ H x = some (.ins C dx []) ∧ ws.length = names.length ∧ ∀ H', H' x = some (.ins C dx (names.zip ws)) → (∀ b, b ≠ x → H' b = H b) → Q .non H'
section
variable {X : Cx} {pins : List (Addr × Obj)} {σ : St} {H : Hp} {s : Shared} {a C dx : Addr} {fs : List (Str × V)}
theorem rG (I : aC X pins σ H s) (h : H a = some (.ins C dx fs)) : ∃ o, aC X pins σ (ci H a (.frz o (.ins C dx fs))) s := by
  have ob := I.hok a _ h
  obtain ⟨o, hg⟩ := qp ob
  have nt : ∀ b xs, H b = some (.tup xs) → b ≠ a := fun b xs q z => by subst z; rw [h] at q; cases q
  have nf : ∀ b o' u', H b = some (.frz o' u') → b ≠ a := fun b o' u' q z => by subst z; rw [h] at q; cases q
  have nb : ∀ b ps, H b = some (.tbl ps) → b ≠ a := fun b ps q z => by subst z; rw [h] at q; cases q
  have nw : ∀ b y, H b = some (.own y) → b ≠ a := fun b y q z => by subst z; rw [h] at q; cases q
  have nn : ∀ b, H b = none → b ≠ a := fun b q z => by subst z; rw [h] at q; cases q
  have st : ∀ b x, bI X.prog X.w H s.heap b x → bI X.prog X.w (ci H a (.frz o (.ins C dx fs))) s.heap b x := fun b x q =>
    q.stay (fun c v _ e => e) (fun c e => by rw [ar (nw _ _ e)]; exact e) fun c xs e => by rw [ar (nt _ _ e)]; exact e
  refine ⟨o, ⟨I.ok, I.os, I.bare, ⟨I.base.keep, I.base.slot, fun b ob' e n hx => ?_, I.base.there, fun b xs e => ?_, fun b ob' v e => ?_, fun b ps e => ?_⟩, I.loc, I.cell, ?_, fun x c e => ?_, fun p hp => ?_, fun b x e => ?_, I.len⟩⟩
  · have := I.base.free b ob' e n hx
    rw [ar (nn _ this)]; exact this
  · have := I.base.tups b xs e
    rw [ar (nt _ _ this)]; exact this
  · have := I.base.frzs b ob' v e
    rw [ar (nf _ _ _ this)]; exact this
  · obtain ⟨m, q⟩ := I.base.tbls b ps e
    exact ⟨m, by rw [ar (nb _ _ q)]; exact q⟩
  · rw [ar (nn _ I.free)]; exact I.free
  · rw [ar (nn _ (I.freeC x c e))]; exact I.freeC x c e
  · obtain ⟨p1, p2, p3⟩ := I.pin p hp
    exact ⟨p1, by rw [ar (nn _ p2)]; exact p2, p3⟩
  · by_cases hb : b = a
    · subst hb
      rw [aX] at e; cases e
      exact ⟨hg, st b _ ob⟩
    · rw [ar hb] at e
      exact st b x (I.hok b x e)
theorem zV {o' : HO} (h : H a = some (.ins C dx fs)) : Kp H (ci H a o') := by
  refine ⟨fun b xs e => ?_, fun b o v e => ?_⟩
  · rw [ar]; exact e
    rintro rfl; rw [h] at e; cases e
  · rw [ar]; exact e
    rintro rfl; rw [h] at e; cases e
end
theorem uC {H : Hp} : ∀ {names : List Str} {ds : List PyData} {vs : List V}, bg H ds vs → sg H ((names.zip ds).map fun p => (.str p.1, p.2)) (names.zip vs)
  | [], ds, vs, _ => by simp only [List.zip_nil_left, List.map_nil, sg]
  | n :: names, [], vs, r => by
    simp only [bg] at r
    subst r
    simp only [List.zip_nil_right, List.map_nil, sg]
  | n :: names, d :: ds, vs, r => by
    simp only [bg] at r
    obtain ⟨v, t, rfl, p, q⟩ := r
    simp only [List.zip_cons_cons, List.map_cons, sg, AE]
    exact ⟨n, v, _, rfl, ⟨rfl, p⟩, uC q⟩
theorem uw {H : Hp} {f : Str} {d : PyData} : ∀ {kvs : List (PyData × PyData)} {fs : List (Str × V)}, sg H kvs fs → tL f kvs = .ok d → ∃ v, fs.lookup f = some v ∧ Rp H d v
  | [], fs, _, e => by cases e
  | (k, d') :: kvs, fs, r, e => by
    simp only [sg, AE] at r
    obtain ⟨x, v, t, rfl, ⟨rfl, p⟩, q⟩ := r
    simp only [tL] at e
    by_cases h : x = f
    · rw [if_pos h] at e
      cases e
      subst h
      exact ⟨v, by rw [List.lookup_cons_self], p⟩
    · rw [if_neg h] at e
      obtain ⟨w, w1, w2⟩ := uw q e
      refine ⟨w, ?_, w2⟩
      rw [List.lookup_cons]
      have : (f == x) = false := by
        cases z : f == x with
        | false => rfl
        | true => exact (h (eq_of_beq z).symm).elim
      rw [this]
      exact w1
theorem ul {f : Str} {c : Str} : ∀ {kvs : List (PyData × PyData)}, tL f kvs ≠ .ex c
  | [], e => by cases e
  | (k, d) :: kvs, e => by
    cases k <;> simp only [tL] at e <;> try cases e
    split at e
    · cases e
    · exact ul e
section
variable {X : Cx} {e : Expr} {es : List Expr} {fe : Fe} {pos p : Pos} {nl : Nat} {G : List Str} {x : Str}
theorem pZ {k : Nat} {C f : Addr} {fd : FuncData} {ps names : List Str} {fs : aI → R (List PyData)} (M : Mk X.K C f) (F : aV X.prog X.w X.K X.mg X.base (cK X.prog X.w X.mg) k f fd ps (Cf C names)) (hr : dD (k + 1) X.A) (T : Tb X nl G) (j : Nat) (hG : G[j]? = some x) (hm : X.mg x = some (.ref C)) (hb : gk X.K fd ps []) (ha : me X (e :: es) fs)
    (hfs : ∀ ρ ds, fs ρ = .ok ds → ds.length = names.length) (he : (e :: es).all au = true := by rfl) : ah X (.Call (.Name x p) (e :: es) [] pos) (wu C names fs) := by
  rw [List.all_cons, Bool.and_eq_true] at he
  have g := T.gl x (List.mem_of_getElem? hG)
  intro pins s σ H Q I ⟨ρ, sl, q⟩
  unfold wu at q
  have base := ze (p := p) (pos := pos) M F hr g.1 hm hb .nil uq ha g.2.1 (a4 he.1) (kM he.2)
  cases e1 : fs ρ with
  | ex c => rw [e1] at q; exact cR (base pins s σ H (fun _ _ => False) I ⟨ρ, sl, by rw [e1]; exact q⟩) fun u s' ⟨v, H', I', r, z⟩ => z.elim
  | no => rw [e1] at q; exact q.elim
  | ok ds =>
    rw [e1] at q
    have q' : tz X gB (.ok (w9 C names ds)) H Q := q
    refine cR (base pins s σ H (fun v H' => ∃ a dx vs, v = .ref a ∧ H a = none ∧ H' a = some (.ins C dx (names.zip vs)) ∧ bg H' ds vs ∧ az H H') I ⟨ρ, sl, ?_⟩) fun u s' ⟨v, H', I', r, a, dx, vs, ev, hn, ha', rp, sm⟩ => ?_
    · rw [e1]
      intro vs H1 s1 r1 y dy hy hdy hne
      rw [List.append_nil]
      have r2 := lw.mp r1
      refine ⟨y, dy, vs, rfl, aX, by rw [r2.length]; exact hfs ρ ds e1, fun H' h1 h2 => ⟨rfl, y, dy, vs, rfl, s1.free hy, h1, ?_, ?_⟩⟩
      · have sm : az H1 H' := fun b o eb => by
          rw [h2 b (aS eb hy), ar (aS eb hy), ar (aS eb hdy)]; exact eb
        exact r2.mono sm
      · intro b o eb
        have eb1 := s1 b o eb
        rw [h2 b (aS eb1 hy), ar (aS eb1 hy), ar (aS eb1 hdy)]; exact eb1
    · subst ev
      obtain ⟨o, J⟩ := rG I' ha'
      have kp := zV (o' := .frz o (.ins C dx (names.zip vs))) ha'
      refine ⟨.ref a, _, J, r, q' _ _ (fun b x eb => by rw [ar (aS eb hn)]; exact sm b x eb) ?_⟩
      show Rp _ (w9 C names ds) _
      unfold w9
      simp only [Rp]
      refine .inr ⟨a, o, C, dx, _, rfl, aX, ?_⟩
      simp only [wz]
      exact ⟨True.intro, sg.kp kp _ _ (uC rp)⟩
theorem Z.pZ {k : Nat} {C f : Addr} {fd : FuncData} {ps names : List Str} {fs : aI → R (List PyData)} (M : Mk X.K C f) (F : aV X.prog X.w X.K X.mg X.base (cK X.prog X.w X.mg) k f fd ps (Cf C names)) (hr : dD (k + 1) X.A) (T : Tb X nl G) (j : Nat) (hG : G[j]? = some x) (hm : X.mg x = some (.ref C)) (hb : gk X.K fd ps []) (ha : Z.me X (e :: es) fs) (hfs : ∀ ρ ds, fs ρ = .ok ds → ds.length = names.length) (he : (e :: es).all au = true := by rfl) : Z.ah X (.Call (.Name x p) (e :: es) [] pos) (wu C names fs) :=
  ⟨D2.pZ M F hr T j hG hm hb ha.un hfs he⟩
def CN (K : PySem.W.Frag) (ta : TE) (f : Str) : TE := fun σ H Q => ta σ H fun x H1 => ∃ a o C dx fs v, x = .ref a ∧ H1 a = some (.frz o (.ins C dx fs)) ∧ vZ K C ∧ dw K C f ∧ fs.lookup f = some v ∧ Q v H1
theorem yS {f : Str} {ta : TE} (he : PE X e ta) (hb : attributeBase e f X.env (eval e X.env) = eval e X.env) : PE X (.Attribute e f pos) (CN X.K ta f) := by
  intro pins s σ H Q I h
  refine Ae hb (cR (he pins s σ H _ I h) fun u s1 ⟨x, H1, I1, rx, a, o, C, dx, fs, v, ex, ea, c, n, l, q⟩ => ?_)
  subst ex
  obtain rfl : u = Value.ref a := rx
  obtain ⟨_, d, z, ne, ob, mA, nn, r, qq⟩ := (show bI X.prog X.w H1 s1.heap a (.frz o (.ins C dx fs)) from I1.hok a _ ea)
  obtain ⟨u', hu, ru⟩ := lr.some_of (v := v) (o := mA f) (by rw [← l]; exact r f)
  exact zP I1.kIn ⟨ob, nn, ne⟩ (c.get f) c.hd n hu (vJ ru) ⟨v, H1, I1.tok _, ru, q⟩
theorem lb {C : Addr} {f : Str} (cl : vZ X.K C) (na : dw X.K C f) (he : ah X e fe) (hb : attributeBase e f X.env (eval e X.env) = eval e X.env := by rfl) : ah X (.Attribute e f pos) (e1 (jJ C f) fe) := by
  refine PE.imp (yS he hb) fun σ H Q h => ?_
  refine (eG (P := gB) (f := fe) (k := fun _ x => jJ C f x) (eV (X := X) gi Q) h).post fun v H1 ⟨_, d1, _, _, p1, q1⟩ => ?_
  unfold jJ at q1
  split at q1
  · rename_i c kvs
    split at q1
    · rename_i hc
      cases ef : tL f kvs with
      | no => rw [ef] at q1; exact q1.elim
      | ex c => exact (ul ef).elim
      | ok d =>
        rw [ef] at q1
        have p2 : Rp H1 (.dict ((.none, .int c) :: kvs)) v := p1
        simp only [Rp] at p2
        rcases p2 with ⟨a, o, ks, rfl, ha, r⟩ | ⟨a, o, C', dx, fs, rfl, ha, r⟩
        · simp only [dJ, yz] at r
          obtain ⟨κ, _, _, _, ⟨r1, _⟩, _⟩ := r
          cases κ <;> cases r1
        · simp only [wz] at r
          obtain ⟨r1, r2⟩ := r
          have hC : c = (C' : Int) := by injection r1 with _ r3; injection r3
          have hCC : C' = C := by
            have : (C' : Int) = (C : Int) := hC.symm.trans hc
            exact Int.ofNat.inj this
          subst hCC
          obtain ⟨w, w1, w2⟩ := uw r2 ef
          exact ⟨a, o, C', dx, fs, w, rfl, ha, cl, na, w1, q1 w H1 (az.refl _) w2⟩
    · exact q1.elim
  · exact q1.elim
theorem Z.lb {C : Addr} {f : Str} (cl : vZ X.K C) (na : dw X.K C f) (he : Z.ah X e fe) (hb : attributeBase e f X.env (eval e X.env) = eval e X.env := by rfl) : Z.ah X (.Attribute e f pos) (e1 (jJ C f) fe) :=
  ⟨D2.lb cl na he.un hb⟩
end
theorem Du {a b c : Str} {x y z : V} (h1 : ¬ a = b) (h2 : ¬ a = c) (h3 : ¬ b = c) : hV c z (hV b y (hV a x [])) = [(a, x), (b, y), (c, z)] := by
  simp only [hV, if_neg h1, if_neg h2, if_neg h3]
abbrev gM := List PyData → R PyData
structure hU (P : Program) (w : World) (K : PySem.W.Frag) (mg : Str → Option Value) (base : Heap) (k : Nat) (x : Str) (ps : List Str) (F : gM) (f : Addr) (fd : FuncData) : Prop where
  ok : aV P w K mg base (cK P w mg) k f fd ps (dm F ps.length)
  m : mg x = some (.ref f)
  kp : PySem.W.keepIn K (.ref f) = true
  b : gk K fd ps []
theorem aJ {X : Cx} {k : Nat} {f : Addr} {fd : FuncData} {ps : List Str} {F : gM} {x : Str} {p pos : Pos} {e : Expr} {es : List Expr} {fs : aI → R (List PyData)} {nl : Nat} {G : List Str} (C : hU X.prog X.w X.K X.mg X.base k x ps F f fd) (hr : dD k X.A) (T : Tb X nl G) (j : Nat) (hG : G[j]? = some x) (ha : me X (e :: es) fs) (hlen : (e :: es).length = ps.length) (hfs : ∀ ρ ds, fs ρ = .ok ds → ds.length = ps.length) (he : (e :: es).all au = true := by rfl) : ah X (.Call (.Name x p) (e :: es) [] pos) (aD F fs) :=
  zM C.ok hr T j hG C.m C.kp C.b ha hlen hfs he
theorem Z.aJ {X : Cx} {k : Nat} {f : Addr} {fd : FuncData} {ps : List Str} {F : gM} {x : Str} {p pos : Pos} {e : Expr} {es : List Expr} {fs : aI → R (List PyData)} {nl : Nat} {G : List Str} (C : hU X.prog X.w X.K X.mg X.base k x ps F f fd) (hr : dD k X.A) (T : Tb X nl G) (j : Nat) (hG : G[j]? = some x) (ha : Z.me X (e :: es) fs) (hlen : (e :: es).length = ps.length) (hfs : ∀ ρ ds, fs ρ = .ok ds → ds.length = ps.length) (he : (e :: es).all au = true := by rfl) : Z.ah X (.Call (.Name x p) (e :: es) [] pos) (aD F fs) :=
  ⟨D2.aJ C hr T j hG ha.un hlen hfs he⟩
structure cE (K : PySem.W.Frag) (x : Str) (st : Stmt) (f : Addr) (fd : FuncData) : Prop where
  ns : PySem.W.nsIn K mainGlobals x = some (some (.ref f))
  fn : ie K x x st f fd
theorem aT {K : PySem.W.Frag} {x : Str} {st : Stmt} {f : Addr} {oc : Value} {od an : Option Addr} {osl : Array (Option Value)} {kV doc pm cdv ct : Value} (a : PySem.W.nsIn K mainGlobals x = some (some (.ref f))) (l : K.lookup f = some ⟨oc, od, .func (PySem.W.fnOf x x (fX st) (dE st) (ai st) .none kV doc pm an cdv ct), osl⟩) (c : PySem.W.codeIn K cdv x = true) (k : PySem.W.keepIn K (.ref f) = true) :
    cE K x st f (PySem.W.fnOf x x (fX st) (dE st) (ai st) .none kV doc pm an cdv ct) := ⟨a, sN l c k⟩
def Cv (i : Nat) (g : Fs) : Fs := fun ρ => match ρ[i]? with
  | some (.own d) => g (ρ.set i (.val d))
  | _ => g ρ
theorem wX {X : Cx} {st : Stmt} {g : Fs} (i : Nat) (h : eU X st g) : eU X st (Cv i g) := fun Fm => by
  intro pins s σ H D I ⟨ρ, sl, q⟩
  unfold Cv at q
  split at q
  · rename_i d e
    obtain ⟨H2, v, I2, sl2, _, _⟩ := xh I sl e
    exact h Fm pins s σ H2 D I2 ⟨_, sl2, q⟩
  · exact h Fm pins s σ H D I ⟨ρ, sl, q⟩
theorem Z.wX {X : Cx} {st : Stmt} {g : Fs} (i : Nat) (h : Z.eU X st g) : Z.eU X st (Cv i g) :=
  ⟨D2.wX i h.un⟩
theorem Z.pR {P : Program} {w : World} {K : PySem.W.Frag} {mg : Str → Option Value} {base : Heap} {x qual : Str} {st : Stmt} {f : Addr} {fd : FuncData} {N ps : List Str} {k : Nat} {g : Fs} (F : ie K x qual st f fd) (S : aQ N ps (ai st))
    (body : ∀ (cdv : Value) (A : Around) (outer : List Env) (s : Shared) (H : Hp) (E : XK), dD k (A.deeper (envOfC qual (ai st) s.heap.objs.size f cdv)) →
      Z.gK (fw (cK P w mg) P w K mg base N qual (ai st) f cdv A outer s H E) (dE st) g) : aV P w K mg base (cK P w mg) (k + 1) f fd ps (dm (dL N.length g) ps.length) :=
  D2.pR F S fun cdv A outer s H E hr => (body cdv A outer s H E hr).un
theorem Z.fn_dataT {P : Program} {w : World} {K : PySem.W.Frag} {mg : Str → Option Value} {base : Heap} {x qual : Str} {st : Stmt} {f : Addr} {fd : FuncData} {N ps : List Str} {k : Nat} {g : Fs} {G : List Str} (F : ie K x qual st f fd) (S : aQ N ps (ai st)) (ck : uB (ai st) N G)
    (body : ∀ (cdv : Value) (A : Around) (outer : List Env) (s : Shared) (H : Hp) (E : XK), dD k (A.deeper (envOfC qual (ai st) s.heap.objs.size f cdv)) → Tb (fw (cK P w mg) P w K mg base N qual (ai st) f cdv A outer s H E) N.length G →
      Z.gK (fw (cK P w mg) P w K mg base N qual (ai st) f cdv A outer s H E) (dE st) g) : aV P w K mg base (cK P w mg) (k + 1) f fd ps (dm (dL N.length g) ps.length) :=
  Z.pR F S fun cdv A outer s H E hr => body cdv A outer s H E hr (A6 hr ck)
def mt (K : PySem.W.Frag) : Bool := K.all fun p => match p.2.cls with
  | .type n => !(n == "list")
  | _ => true
theorem mx {α β : Type} [BEq α] {a : α} {o : β} : ∀ {K : List (α × β)}, K.lookup a = some o → ∃ p ∈ K, p.2 = o
  | [], e => by cases e
  | (b, x) :: r, e => by
    rw [List.lookup_cons] at e
    split at e
    · cases e; exact ⟨_, List.mem_cons_self, rfl⟩
    · obtain ⟨p, h1, h2⟩ := mx e
      exact ⟨p, List.mem_cons_of_mem _ h1, h2⟩
theorem sk {K : PySem.W.Frag} (h : mt K = true) {a : Addr} {o : Obj} (e : K.lookup a = some o) (c : o.cls = .type "list") : False := by
  obtain ⟨p, m, rfl⟩ := mx e
  have q := List.all_eq_true.mp h _ m
  simp only [c] at q
  simp at q
def wR (F : List PyData → R PyData) : Prop := ∀ ns : List Int, ns.length ≤ 63 → F [.list (ns.map .int)] = .ok (.bool true)
theorem DZ {l : PySem.W.OpenLaw} {q : Program} {loose : List Str} {XP : (Str → Option Value) → Heap → Prop} {YP : World → Heap → Prop} {d : DefRec} {K : Params → PySem.W.Frag} {k : Nat} {x : Str} {F : List PyData → R PyData} (hn : l.most = some 63) (hdf : d.params.defaults = [])
    (hr : dD k callerA) (hY : ∀ (w : World) (h : Heap), YP w h → (K w.params).In h) (hF : wR F)
    (G : ∀ (w : World) (mg : Str → Option Value) (fa : Addr) (h : Heap), (K w.params).In h → h.Ns mainGlobals mg → mg d.name = some (.ref fa) →
      mt (K w.params) = true ∧ ∃ fd : FuncData, (∀ (s : Shared) (u : Value), BindsTo s fd ⟨[u], []⟩ [(x, u)]) ∧ ∀ base : Heap, (K w.params).In base → base.Ns mainGlobals mg → aV l.prog w (K w.params) mg base (cK l.prog w mg) k fa fd [x] (dm F 1)) :
    PySem.W.WalkO q loose XP YP l.row.toRowW d [] (fun f vs => PySem.call f vs) := by
  refine Att.attach_call hn hdf fun w s₀ s₁ mg mb fa o pm cd doc a vs ns G0 Y ho hd hcd hmg hobj hints hlen hg => ?_
  have KX := hY w _ Y
  obtain ⟨nl, fd, hb, hG⟩ := G w mg fa _ KX G0.T.g hmg
  refine L2.x5 (sp := dm F 1) KX G0.T.g G0.T.b G0.T.builtins G0.T.nolimit hg hobj hints (Nat.le_trans hlen (by decide)) hr hG hb (fun H hO hS => ?_) fun H e s' ⟨_, _, _, _, _, z⟩ => z
  refine ⟨[.list (ns.map .int)], bg.cons ?_ bg.nil, rfl, ?_⟩
  · rcases hS with (h | ⟨o, h⟩) | ⟨o, its, n, h, c, _⟩
    · rcases hO a with z | ⟨o, xs, z⟩
      · rw [z] at h; cases h
      · rw [z] at h; cases h
    · simp only [Rp]
      exact ⟨a, o, _, rfl, h, bg.ints ns⟩
    · exact (sk nl h c).elim
  · rw [hF ns hlen]
    intro v H' _ r
    simpa only [Rp] using r
@[simp] theorem cM {α : Type} (a : α) : km (R.ok a) = .ok a := (rfl)
def Do : tJ → R PyData
  | .rt d => .ok d
  | .nx _ => .ok .none
  | _ => .no
theorem eT (n : Nat) (g : Fs) (ds : List PyData) : dL n g ds = (g (ds.map aW.val ++ List.replicate (n - ds.length) .non) >>= Do) := by
  unfold dL
  congr 1
@[simp] theorem Dz (d : PyData) : Do (.rt d) = .ok d := (rfl)
section
variable (f g h : Fe) (ρ : aI) (i j : Nat) (t u : aI → R Bool) (a b : Fs) (fs : aI → R (List PyData)) (F : List PyData → R PyData) (d e : PyData)
@[simp] theorem bH : eC d ρ = .ok d := (rfl)
@[simp] theorem ao : ad 0 (.val d :: ρ) = .ok d := (rfl)
@[simp] theorem aj (c : aW) : ad (i + 1) (c :: ρ) = ad i ρ := (rfl)
@[simp] theorem pk : fu 0 (.own d :: ρ) = .ok d := (rfl)
@[simp] theorem pA (c : aW) : fu (i + 1) (c :: ρ) = fu i ρ := (rfl)
@[simp] theorem cz (k : PyData → R PyData) : e1 k f ρ = (f ρ >>= fun x => k x) := (rfl)
@[simp] theorem bj (k : PyData → PyData → R PyData) : e2 k f g ρ = (f ρ >>= fun x => g ρ >>= fun y => k x y) := (rfl)
@[simp] theorem cf : tE f ρ = (f ρ >>= u6) := (rfl)
@[simp] theorem cq (k : Bool) : u6 (.bool k) = .ok k := (rfl)
@[simp] theorem nQ : gj t u ρ = (t ρ >>= fun k => if k = true then u ρ else .ok false) := (rfl)
@[simp] theorem jv : hZ t u ρ = (t ρ >>= fun k => if k = true then .ok true else u ρ) := (rfl)
@[simp] theorem fy : ej t ρ = (t ρ >>= fun k => .ok (!k)) := (rfl)
@[simp] theorem DE : xx f g ρ = (f ρ >>= fun d => u6 d >>= fun k => if k = true then g ρ else .ok (.bool false)) := (rfl)
@[simp] theorem wD : AX t f g ρ = (t ρ >>= fun k => if k = true then f ρ else g ρ) := (rfl)
@[simp] theorem aH : ay ρ = .ok [] := (rfl)
@[simp] theorem aB : ag f fs ρ = (f ρ >>= fun d => fs ρ >>= fun ds => .ok (d :: ds)) := (rfl)
@[simp] theorem aN : aD F fs ρ = (fs ρ >>= F) := (rfl)
@[simp] theorem B3 (p q : PyData → PyData → R PyData) : nW p q f g h ρ = (f ρ >>= fun x => g ρ >>= fun y => p x y >>= fun d => u6 d >>= fun k => if k = true then h ρ >>= fun z => q y z else .ok (.bool false)) := (rfl)
@[simp] theorem qg : gt fs ρ = (fs ρ >>= fun ds => if ds.length ≤ sizeLine then .ok (.tuple ds) else .no) := (rfl)
@[simp] theorem kP : gr fs ρ = (fs ρ >>= fun ds => if ds.length ≤ sizeLine then .ok (.list ds) else .no) := (rfl)
@[simp] theorem yl : rA ρ = .ok none := (rfl)
@[simp] theorem x6 : rD f ρ = (f ρ >>= fun d => Dx d >>= fun i => .ok (some i)) := (rfl)
@[simp] theorem Cw (k : Int) : Dx (.int k) = .ok k := (rfl)
@[simp] theorem BH (lo hi : Fo) : CM f lo hi ρ = (f ρ >>= fun d => lo ρ >>= fun l => hi ρ >>= fun u => B5 d l u) := (rfl)
@[simp] theorem qK : bB ρ = .ok (.nx ρ) := (rfl)
@[simp] theorem pL : aO a b ρ = (a ρ >>= uV b) := (rfl)
@[simp] theorem CD : uV b (.nx ρ) = b ρ := (rfl)
@[simp] theorem CL : uV b (.rt d) = .ok (.rt d) := (rfl)
@[simp] theorem cu : hJ t a b ρ = (t ρ >>= fun k => if k = true then a ρ else b ρ) := (rfl)
@[simp] theorem dC : bG f ρ = (f ρ >>= fun d => .ok (.rt d)) := (rfl)
@[simp] theorem bd : bJ i f ρ = (f ρ >>= fun d => .ok (.nx (ρ.set i (.val d)))) := (rfl)
@[simp] theorem kA : hW i f ρ = (f ρ >>= fun d => .ok (.nx (ρ.set i (.own d)))) := (rfl)
@[simp] theorem bZ : dG f ρ = (f ρ >>= iw) := (rfl)
@[simp] theorem ln : gW fs ρ = (fs ρ >>= oy) := (rfl)
@[simp] theorem gX (ds : List PyData) : iw (.tuple ds) = .ok ds := (rfl)
@[simp] theorem iL (ds : List PyData) : iw (.list ds) = .ok ds := (rfl)
@[simp] theorem dU : gu a ρ = km (a ρ) := (rfl)
theorem dR (it : aI → R (List PyData)) (bb : PyData → aI → Option aI) : iO it bb a ρ = (it ρ >>= fun ds => dP bb a ds ρ) := rfl
@[simp] theorem dn (bb : PyData → aI → Option aI) : dP bb a [] ρ = .ok (.nx ρ) := by unfold dP; rfl
def mP (k : aI → R tJ) : tJ → R tJ
  | .nx ρ => k ρ
  | .ct ρ => k ρ
  | .bk ρ => .ok (.nx ρ)
  | .rt r => .ok (.rt r)
@[simp] theorem dh (k : aI → R tJ) : mP k (.nx ρ) = k ρ := (rfl)
@[simp] theorem B7 (k : aI → R tJ) : mP k (.rt d) = .ok (.rt d) := (rfl)
theorem cW (i : Nat) (ds : List PyData) : dP (aP i) a (d :: ds) ρ = (a (ρ.set i (.val d)) >>= mP (dP (aP i) a ds)) := by
  rw [dP]
  show (a (ρ.set i (.val d)) >>= _) = _
  congr 1
theorem vi (i j : Nat) (x y : PyData) (ds : List PyData) : dP (fA i j) a (.tuple [x, y] :: ds) ρ = (a ((ρ.set i (.val x)).set j (.val y)) >>= mP (dP (fA i j) a ds)) := by
  rw [dP]
  show (a ((ρ.set i (.val x)).set j (.val y)) >>= _) = _
  congr 1
theorem aE {a b : Fs} {ρ ρ' : aI} (h : a ρ = .ok (.nx ρ')) : aO a b ρ = b ρ' := by rw [pL, h]; rfl
theorem nA {a b : Fs} {ρ : aI} {d : PyData} (h : a ρ = .ok (.rt d)) : aO a b ρ = .ok (.rt d) := by rw [pL, h]; rfl
theorem eB {n : Nat} {g : Fs} {ds : List PyData} {d : PyData} (h : g (ds.map aW.val ++ List.replicate (n - ds.length) .non) = .ok (.rt d)) : dL n g ds = .ok d := by rw [eT, h]; rfl
theorem e9 (bb : PyData → aI → Option aI) : bV bb t f ρ [] = .ok [] := by unfold bV; rfl
theorem ge (i : Nat) (ds : List PyData) : bV (aP i) t f ρ (d :: ds) = (t (ρ.set i (.val d)) >>= fun k => if k = true then f (ρ.set i (.val d)) >>= fun x => bV (aP i) t f ρ ds >>= fun xs => .ok (x :: xs) else bV (aP i) t f ρ ds) := by
  rw [bV]; rfl
theorem mW (i j : Nat) (x y : PyData) (ds : List PyData) : bV (fA i j) t f ρ (.tuple [x, y] :: ds) = (t ((ρ.set i (.val x)).set j (.val y)) >>= fun k => if k = true then f ((ρ.set i (.val x)).set j (.val y)) >>= fun x => bV (fA i j) t f ρ ds >>= fun xs => .ok (x :: xs) else bV (fA i j) t f ρ ds) := by
  rw [bV]; rfl
theorem wP (i j k : Nat) (x y z : PyData) (ds : List PyData) : dP (ud i j k) a (.tuple [x, y, z] :: ds) ρ = (a (((ρ.set i (.val x)).set j (.val y)).set k (.val z)) >>= mP (dP (ud i j k) a ds)) := by
  rw [dP]
  show (a (((ρ.set i (.val x)).set j (.val y)).set k (.val z)) >>= _) = _
  congr 1
@[simp] theorem x3 : se f g h ρ = (f ρ >>= fun x => g ρ >>= fun y => h ρ >>= fun z => lT x >>= fun xs => lT y >>= fun ys => lT z >>= fun zs => .ok (fx xs ys zs)) := (rfl)
@[simp] theorem By (ds : List PyData) : lT (.tuple ds) = .ok ds := (rfl)
@[simp] theorem xG : uN fs ρ = (fs ρ >>= B6 .tuple) := (rfl)
theorem Dm {mk : List PyData → PyData} {n : Int} (h0 : 0 ≤ n) (h1 : n ≤ 1000000) : B6 mk [.int n] = .ok (mk (bi 0 n.toNat)) := by
  show (if n ≤ 16777216 ∧ -(2 ^ 62) ≤ n then R.ok (mk (bi 0 n.toNat)) else .no) = _
  rw [if_pos (by omega)]
@[simp] theorem zj (op : Int → Int → Int) : tm i op f ρ = (ad i ρ >>= fun x => f ρ >>= fun y => Dy op x y >>= fun z => .ok (.nx (ρ.set i (.val z)))) := (rfl)
@[simp] theorem CO (op : Int → Int → Int) (m n : Int) : Dy op (.int m) (.int n) = .ok (.int (op m n)) := (rfl)
theorem ml {ρ : aI} {i : Nat} {ds : List PyData} {fk fv : Fe} {n : Int} {v : PyData} (h : ρ[i]? = some (.own (.list ds))) (hk : fk ρ = .ok (.int n)) (hv : fv ρ = .ok v) (h0 : 0 ≤ n) (h1 : n < ds.length) : gy i fk fv ρ = .ok (.nx (ρ.set i (.own (.list (ds.set n.toNat v))))) := by
  unfold gy
  rw [hv, hk, h]
  simp only [km, R.ok_bind]
  have : L2.uJ ds.length n = some n.toNat := by unfold L2.uJ; rw [if_pos h0, if_pos h1]
  rw [this]
@[simp] theorem yY : wa f g ρ = (f ρ >>= fun x => g ρ >>= fun y => iw x >>= fun xs => iw y >>= fun ys => .ok (jo xs ys)) := (rfl)
@[simp] theorem wC : rO f ρ = (f ρ >>= fun x => iw x >>= fun xs => .ok (fQ 0 xs)) := (rfl)
theorem oZ {ρ : aI} {i : Nat} {ds : List PyData} (f : Fe) (h : ρ[i]? = some (.own (.list ds))) (hz : ds.length < sizeLine) : fT i f ρ = (km (f ρ) >>= fun d => .ok (.nx (ρ.set i (.own (.list (ds ++ [d])))))) := by
  unfold fT
  congr 1
  funext d
  rw [h]
  exact if_pos hz
def B8 : R (List PyData) → R PyData
  | .ok xs => .ok (.list xs)
  | _ => .no
@[simp] theorem Ai (xs : List PyData) : B8 (.ok xs) = .ok (.list xs) := (rfl)
theorem bF (it : aI → R (List PyData)) (own : Nat) (fr : List Nat) (bb : PyData → aI → Option aI) : bR it own fr bb t f ρ = (km (it ρ) >>= fun ds => if ds.length ≤ sizeLine then B8 (bV bb t f (aA own fr ρ) ds) else .no) := by
  unfold bR
  congr 1
theorem ib (i : Nat) (G : PyData → PyData) : ∀ (ds : List PyData), (∀ d ∈ ds, f (ρ.set i (.val d)) = .ok (G d)) → bV (aP i) (fun _ => .ok true) f ρ ds = .ok (ds.map G)
  | [], _ => e9 ..
  | d :: ds, hh => by
    rw [ge, hh d List.mem_cons_self, ib i G ds fun x hx => hh x (List.mem_cons_of_mem _ hx)]
    rfl
end
section
variable (i j : Int) (xs ys : List PyData)
@[simp] theorem Bp : sd (.int i) = .ok (.int (-i)) := (rfl)
@[simp] theorem Em : ez (.int i) (.int j) = .ok (.int (i + j)) := (rfl)
@[simp] theorem Bc : ez (.tuple xs) (.tuple ys) = if xs.length + ys.length ≤ sizeLine then .ok (.tuple (xs ++ ys)) else .no := (rfl)
@[simp] theorem pI : jK (.int i) (.int j) = .ok (.int (i - j)) := (rfl)
@[simp] theorem pN : eS (.int i) (.int j) = if 0 < j then .ok (.int (i % j)) else .no := (rfl)
@[simp] theorem wY : kD (.int i) (.int j) = if 0 < j ∧ j < 1073741824 then .ok (.int (i / j)) else .no := (rfl)
theorem AT : dM (.int i) (.int j) = if (-(2 ^ 64) < i ∧ i < 2 ^ 64) ∨ (-(2 ^ 64) < j ∧ j < 2 ^ 64) then .ok (.int (i * j)) else .no := rfl
@[simp] theorem qc (p : Int → Int → Bool) : fo p (.int i) (.int j) = .ok (.bool (p i j)) := (rfl)
@[simp] theorem DQ : zm (.int i) (.int j) = .ok (.int (if j < i then j else i)) := (rfl)
@[simp] theorem DS : zT (.int i) (.int j) = .ok (.int (if j > i then j else i)) := (rfl)
@[simp] theorem lv : cQ (.tuple xs) = .ok (.int xs.length) := (rfl)
@[simp] theorem tV : cQ (.list xs) = .ok (.int xs.length) := (rfl)
@[simp] theorem yf : dY (.list xs) = .ok (.tuple xs) := (rfl)
@[simp] theorem z0 : nI (.tuple xs) = .ok (.list xs) := (rfl)
@[simp] theorem D4 (k : Bool) : zl (.bool k) = .ok (.int (if k then 1 else 0)) := (rfl)
theorem qE {α : Type} {xs : List α} {i : Int} (h0 : 0 ≤ i) (h1 : i < xs.length) : L2.atI xs i = some (xs[i.toNat]'(by omega)) := by
  unfold L2.atI uJ
  rw [if_pos h0, if_pos h1]
  exact List.getElem?_eq_getElem (by omega)
theorem uG {xs : List PyData} {i : Int} (h0 : 0 ≤ i) (h1 : i < xs.length) : bU (.tuple xs) (.int i) = .ok (xs[i.toNat]'(by omega)) := by
  show (match L2.atI xs i with | some d => R.ok d | none => .no) = _
  rw [qE h0 h1]
theorem oS {xs : List PyData} {i : Int} (h0 : 0 ≤ i) (h1 : i < xs.length) : bU (.list xs) (.int i) = .ok (xs[i.toNat]'(by omega)) := by
  show (match L2.atI xs i with | some d => R.ok d | none => .no) = _
  rw [qE h0 h1]
theorem qb : PyData.eqv (.int i) (.int j) = decide (i = j) := by
  simp only [PyData.eqv]
  by_cases h : i = j
  · subst h; simp
  · simp [h]
theorem fS : iV (.int i) (.int j) = .ok (.bool (decide (i = j))) := by
  unfold iV
  rw [if_pos (by rfl), qb]
theorem oM : jR (.int i) (.int j) = .ok (.bool (!decide (i = j))) := by
  unfold jR
  rw [if_pos (by rfl), qb]
end
end D2
namespace G
open PySem PySem.Spec PyProof.Rows L2 D2
def Ef : PyData → Bool
  | .int _ => true
  | _ => false
def noD : PyData → Prop
  | .dict _ => False
  | _ => True
def AA (d : PyData) (lo hi : Int) : Bool := match d with
  | .int i => decide (lo ≤ i) && decide (i ≤ hi)
  | _ => false
def iF (c : Int) : Int → List PyData → Bool
  | _, [] => true
  | l, d :: r => match d with
    | .int i => (decide (l ≤ i) && decide (i < c)) && iF c (i + 1) r
    | _ => false
@[simp] def qQ (c : Int) : PyData → Bool
  | .tuple ds => iF c 0 ds
  | _ => false
abbrev eA (d : PyData) : Prop := d.canLay0 = true
theorem eA.noD {d : PyData} (h : eA d) : noD d := by
  cases d <;> first | trivial | (simp [eA, PyData.canLay0] at h)
theorem pr : ∀ {ds : List PyData}, PyData.canLayAll0 ds = true → ∀ x ∈ ds, eA x
  | [], _, x, hx => by cases hx
  | d :: ds, h, x, hx => by
    have h' : d.canLay0 = true ∧ PyData.canLayAll0 ds = true := by simpa [PyData.canLayAll0] using h
    rcases List.mem_cons.mp hx with rfl | hx
    · exact h'.1
    · exact pr h'.2 x hx
theorem kF : ∀ {ds : List PyData}, (∀ x ∈ ds, eA x) → PyData.canLayAll0 ds = true
  | [], _ => by simp [PyData.canLayAll0]
  | d :: ds, h => by
    have h1 := h d List.mem_cons_self
    have h2 := kF fun x hx => h x (List.mem_cons_of_mem _ hx)
    simp only [PyData.canLayAll0, Bool.and_eq_true]
    exact ⟨h1, h2⟩
theorem gg {ds : List PyData} : eA (.tuple ds) ↔ ∀ x ∈ ds, eA x := by
  constructor
  · intro h; exact pr (by simpa [eA, PyData.canLay0] using h)
  · intro h; simp only [eA, PyData.canLay0]; exact kF h
theorem v7 {ds : List PyData} : eA (.list ds) ↔ ∀ x ∈ ds, eA x := by
  constructor
  · intro h; exact pr (by simpa [eA, PyData.canLay0] using h)
  · intro h; simp only [eA, PyData.canLay0]; exact kF h
theorem nE (i : Int) : eA (.int i) := by simp [eA, PyData.canLay0]
theorem oQ : eA .none := by simp [eA, PyData.canLay0]
theorem vU (b : Bool) : eA (.bool b) := by simp [eA, PyData.canLay0]
theorem ce {n : Nat} (h : n ≤ 1000) : n ≤ sizeLine := Nat.le_trans h (by decide)
abbrev kZ (ns : List Int) : PyData := .list (ns.map .int)
theorem iq {i j : Int} (h : (-(2 ^ 64) < i ∧ i < 2 ^ 64) ∨ (-(2 ^ 64) < j ∧ j < 2 ^ 64)) : dM (.int i) (.int j) = .ok (.int (i * j)) := by rw [AT, if_pos h]
structure ss (c : Int) (n : Nat) (kvs : List (PyData × PyData)) : Prop where
  ex : ∃ ns : List Int, kvs.map (·.1) = ns.map PyData.int ∧ (∀ x ∈ ns, 0 ≤ x ∧ x < c) ∧ ns.length ≤ n ∧ (n = 0 ∨ ns ≠ []) ∧ ns.Nodup
theorem ss.put {c : Int} {n : Nat} {kvs : List (PyData × PyData)} (h : ss c n kvs) {k : Int} (h0 : 0 ≤ k) (h1 : k < c) (v : PyData) : ss c (n + 1) (tW kvs (.int k) v) := by
  obtain ⟨ns, e, hb, hl, hn, nd⟩ := h.ex
  have hany : (kvs.any fun kv => gF kv.1 (.int k)) = ns.any fun i => decide (i = k) := by
    have : (kvs.any fun kv => gF kv.1 (.int k)) = (kvs.map (·.1)).any fun d => gF d (.int k) := by rw [List.any_map]; rfl
    rw [this, e, List.any_map]; rfl
  unfold tW
  rw [hany]
  by_cases hm : k ∈ ns
  · have ha : (ns.any fun i => decide (i = k)) = true := by simp; exact hm
    rw [if_pos ha]
    refine ⟨ns, ?_, hb, by omega, .inr (by intro z; rw [z] at hm; cases hm), nd⟩
    rw [← e, List.map_map]
    apply List.map_congr_left
    intro kv _
    show (if gF kv.1 (.int k) = true then (kv.1, v) else kv).1 = kv.1
    split <;> rfl
  · have ha : ¬ (ns.any fun i => decide (i = k)) = true := by simp; exact hm
    rw [if_neg ha]
    refine ⟨ns ++ [k], by rw [List.map_append, List.map_append, e]; rfl, fun x hx => ?_, by simp; omega, .inr (by simp), ?_⟩
    · rcases List.mem_append.mp hx with z | z
      · exact hb x z
      · simp at z; subst z; exact ⟨h0, h1⟩
    · rw [List.nodup_append]
      refine ⟨nd, by simp, fun a hma b hb' => ?_⟩
      simp at hb'
      subst hb'
      rintro rfl
      exact hm hma
theorem ss.len {c : Int} {n : Nat} {kvs : List (PyData × PyData)} (h : ss c n kvs) : kvs.length ≤ n := by
  obtain ⟨ns, e, _, hl, _⟩ := h.ex
  have := congrArg List.length e
  simp at this
  omega
theorem r8 (lo : Int) (n : Nat) : ∀ d ∈ bi lo n, ∃ k, d = .int k := fun d hd => by
  unfold bi at hd
  obtain ⟨k, _, rfl⟩ := List.mem_map.mp hd
  exact ⟨_, rfl⟩
theorem dB (lo : Int) (n : Nat) : (bi lo n).length = n := by unfold bi; simp
theorem yQ {xs : List PyData} {i : Int} (h0 : 0 ≤ i) (h1 : i < xs.length) : ∃ x ∈ xs, bU (.list xs) (.int i) = .ok x := ⟨_, List.getElem_mem _, oS h0 h1⟩
structure P4 where
  w : Int
  m : Int
  g : Int
  ns : List Int
def P4.d (p : P4) : PyData := .tuple [.int p.w, .int p.m, .int p.g, .tuple (p.ns.map .int)]
structure Pl (c hi : Int) (p : P4) : Prop where
  w0 : 0 ≤ p.w
  w1 : p.w ≤ 1
  m0 : 0 ≤ p.m
  m1 : p.m ≤ hi
  g0 : -20 ≤ p.g
  g1 : p.g ≤ 20
  ne : p.ns ≠ []
  so : p.ns.Pairwise (· < ·)
  inn : ∀ x ∈ p.ns, 0 ≤ x ∧ x < c
theorem jT : ∀ (ns : List Int) (l c : Int), ns.Pairwise (· < ·) → (∀ x ∈ ns, l ≤ x ∧ x < c) → ns = [] ∨ l + (ns.length : Int) ≤ c
  | [], _, _, _, _ => .inl rfl
  | x :: r, l, c, hp, hb => by
    right
    obtain ⟨h1, h2⟩ := List.pairwise_cons.mp hp
    have hx := hb x List.mem_cons_self
    rcases jT r (x + 1) c h2 (fun y hy => ⟨by have := h1 y hy; omega, (hb y (List.mem_cons_of_mem _ hy)).2⟩) with rfl | z
    · simp; omega
    · rw [List.length_cons]; omega
theorem Pl.len {c hi : Int} {p : P4} (h : Pl c hi p) : (p.ns.length : Int) ≤ c := by
  rcases jT p.ns 0 c h.so h.inn with z | z
  · exact absurd z h.ne
  · omega
abbrev gD (ps : List P4) : PyData := .tuple (ps.map P4.d)
theorem wn {ns : List Int} (h : ns.Pairwise (· ≤ ·)) (nd : ns.Nodup) : ns.Pairwise (· < ·) := by
  have := h.and nd
  exact this.imp fun ⟨a, b⟩ => by omega
theorem u9 (c : Int) : ∀ (ns : List Int) (l : Int), ns.Pairwise (· < ·) → (∀ x ∈ ns, l ≤ x ∧ x < c) → iF c l (ns.map .int) = true
  | [], _, _, _ => rfl
  | x :: r, l, hp, hb => by
    obtain ⟨h1, h2⟩ := List.pairwise_cons.mp hp
    have hx := hb x List.mem_cons_self
    simp only [List.map_cons, iF, Bool.and_eq_true, decide_eq_true_eq]
    exact ⟨⟨hx.1, hx.2⟩, u9 c r (x + 1) h2 fun y hy => ⟨by have := h1 y hy; omega, (hb y (List.mem_cons_of_mem _ hy)).2⟩⟩
end G
noncomputable section
namespace G
open PySem PySem.Spec PyProof.Rows L2 D2
def gT : Fs :=
  (aO (hJ (tE (e2 (fo Cq) (ad 1) (e1 cQ (ad 0)))) (bG (e2 bU (ad 0) (ad 1))) bB) (bG (eC (.int 0))))
def bX : List PyData → R PyData := dL 2 (gT)
def i4 (bX : List PyData → R PyData) : Fs :=
  (aO (bJ 2 (e2 eS (e2 dM (e2 ez (e2 ez (aD bX (ag (ad 0) (ag (ad 1) ay))) (e2 dM (eC (.int 7919)) (ad 1))) (eC (.int 1))) (eC (.int 48271))) (eC (.int 2147483647)))) (bG (e2 eS (e2 ez (e2 ez (e2 dM (ad 2) (ad 2)) (e2 dM (eC (.int 7)) (ad 2))) (ad 1)) (eC (.int 2147483629)))))
def aL : List PyData → R PyData := dL 3 (i4 bX)
def i8 : Fs :=
  (aO (bJ 2 (e2 eS (e2 dM (e2 ez (e2 ez (ad 0) (e2 dM (eC (.int 104729)) (ad 1))) (eC (.int 17))) (eC (.int 69621))) (eC (.int 2147483647)))) (bG (e2 eS (e2 ez (e2 ez (e2 dM (ad 2) (ad 2)) (e2 dM (eC (.int 3)) (ad 2))) (ad 1)) (eC (.int 2147483629)))))
def aG : List PyData → R PyData := dL 3 (i8)
def je (aG : List PyData → R PyData) : Fs :=
  (aO (hW 2 (eC (.dict []))) (aO (gu (iO (gW (ag (e2 ez (e2 ez (eC (.int 1)) (e2 eS (ad 0) (eC (.int 3)))) (e2 dM (eC (.int 20)) (e1 zl (e2 (iV) (e2 eS (e2 kD (ad 0) (eC (.int 3))) (eC (.int 29))) (eC (.int 7)))))) ay)) (aP 3) (yt 2 (e2 eS (aD aG (ag (ad 0) (ag (ad 3) ay))) (ad 1)) (eC (.bool true))))) (bG (e1 dY (e1 jw (fu 2))))))
def cI : List PyData → R PyData := dL 4 (je aG)
def jc (aG : List PyData → R PyData) (cI : List PyData → R PyData) : Fs :=
  (aO (bJ 3 (e2 jK (e2 eS (e2 kD (ad 0) (eC (.int 26))) (eC (.int 9))) (eC (.int 4)))) (aO (hJ (tE (e2 (iV) (e2 eS (e2 kD (ad 0) (eC (.int 234))) (eC (.int 11))) (eC (.int 3)))) (bJ 3 (e2 jK (e2 eS (e2 kD (ad 0) (eC (.int 26))) (eC (.int 41))) (eC (.int 20)))) bB) (bG (gt (ag (e2 eS (ad 0) (eC (.int 2))) (ag (e2 eS (e2 kD (ad 0) (eC (.int 2))) (e2 ez (ad 2) (eC (.int 1)))) (ag (ad 3) (ag (aD cI (ag (aD aG (ag (ad 0) (ag (eC (.int 9)) ay))) (ag (ad 1) ay))) ay))))))))
def cr : List PyData → R PyData := dL 4 (jc aG cI)
def iu (aL : List PyData → R PyData) (cr : List PyData → R PyData) : Fs :=
  (aO (bJ 2 (aD aL (ag (ad 0) (ag (eC (.int 0)) ay)))) (aO (bJ 3 (e2 ez (eC (.int 1)) (e2 eS (ad 2) (e2 zm (ad 1) (e2 zT (eC (.int 4)) (e1 cQ (ad 0))))))) (aO (bJ 4 (e2 bU (gr (ag (eC (.int 1)) (ag (eC (.int 2)) (ag (eC (.int 3)) (ag (eC (.int 5)) (ag (eC (.int 12)) (ag (eC (.int 12)) ay))))))) (e2 eS (e2 kD (ad 2) (eC (.int 24))) (eC (.int 6))))) (bG (e1 dY (bR (gW (ag (ad 3) ay)) 1 [0, 3, 4] (aP 0) (fun _ => .ok true) (aD cr (ag (aD aL (ag (ad 1) (ag (e2 ez (eC (.int 3)) (ad 0)) ay))) (ag (ad 2) (ag (ad 3) ay))))))))))
def cj : List PyData → R PyData := dL 5 (iu aL cr)
def jZ : Fs :=
  (aO (hJ (tE (e2 (iV) (e2 bU (e2 bU (ad 0) (ad 3)) (eC (.int 0))) (ad 1))) (bG (bR (dG (gr (ag (e2 bU (ad 2) (ad 3)) ay))) 1 [] (aP 0) (tE (e2 (eW) (ad 0) (eC .none))) (ad 0))) bB) (bG (e1 nI (e2 bU (e2 bU (ad 0) (ad 3)) (eC (.int 3))))))
def a6 : List PyData → R PyData := dL 4 (jZ)
def ir (a6 : List PyData → R PyData) : Fs :=
  (aO (gu (iO (dG (ad 3)) (aP 4) (aO (bJ 5 (aD a6 (ag (ad 0) (ag (ad 1) (ag (ad 2) (ag (ad 4) ay)))))) (hJ (hZ (tE (e2 (iV) (ad 5) (gr ay))) (tE (e2 (jR) (bR (dG (ad 5)) 1 [3] (aP 0) (tE (e2 (iJ true) (ad 0) (ad 1))) (ad 0)) (gr ay)))) (bG (eC (.bool false))) bB)))) (bG (eC (.bool true))))
def ca : List PyData → R PyData := dL 6 (ir a6)
def gQ (a6 : List PyData → R PyData) : Fs :=
  (aO (hW 5 (gr ay)) (aO (bJ 6 (aD a6 (ag (ad 0) (ag (ad 1) (ag (ad 2) (ag (ad 3) ay)))))) (aO (gu (nK 1000000 (tE (e2 (jR) (ad 6) (gr ay))) (aO (bJ 7 (e2 bU (ad 6) (eC (.int 0)))) (aO (bJ 6 (CM (ad 6) (rD (eC (.int 1))) rA)) (hJ (gj (tE (e2 (iJ false) (ad 7) (ad 4))) (tE (e2 (iJ true) (ad 7) (fu 5)))) (aO (fT 5 (ad 7)) (bJ 6 (e2 ez (ad 6) (aD a6 (ag (ad 0) (ag (ad 1) (ag (ad 2) (ag (ad 7) ay)))))))) bB))))) (uW 5))))
def bn : List PyData → R PyData := dL 8 (gQ a6)
def ix : Fs :=
  (bG (uN (ag (e1 cQ (ad 0)) ay)))
def cm : List PyData → R PyData := dL 1 (ix)
def nk : Fs :=
  (bG (xx (e1 (du .int) (ad 0)) (Bs (e1 (du .bool) (ad 0)))))
def dA : List PyData → R PyData := dL 1 (nk)
def ip (dA : List PyData → R PyData) : Fs :=
  (bG (xx (aD dA (ag (ad 0) ay)) (nW (fo Eu) (fo Eu) (ad 1) (ad 0) (ad 2))))
def bW : List PyData → R PyData := dL 3 (ip dA)
def kj (bW : List PyData → R PyData) : Fs :=
  (aO (hJ (ej (tE (e1 (du .tuple) (ad 0)))) (bG (eC (.bool false))) bB) (aO (bJ 2 (eC (.int 0))) (aO (gu (iO (dG (ad 0)) (aP 3) (aO (hJ (ej (tE (aD bW (ag (ad 3) (ag (ad 2) (ag (e2 jK (ad 1) (eC (.int 1))) ay)))))) (bG (eC (.bool false))) bB) (bJ 2 (e2 ez (ad 3) (eC (.int 1))))))) (bG (eC (.bool true))))))
def cy : List PyData → R PyData := dL 4 (kj bW)
def nv : Fs :=
  (bG (e1 dY (bR (dG (ad 0)) 1 [1] (aP 0) (tE (e2 (iJ false) (ad 0) (ad 1))) (ad 0))))
def bc : List PyData → R PyData := dL 2 (nv)
def fJ : Fs :=
  (bG (e1 dY (bR (wa (ad 0) (ad 1)) 2 [] (fA 0 1) (fun _ => .ok true) (AX (tE (e2 (kI) (ad 0) (eC .none))) (ad 1) (ad 0)))))
def aF : List PyData → R PyData := dL 2 (fJ)
def nT : Fs :=
  (bG (e1 dY (bR (rO (ad 0)) 2 [] (fA 0 1) (tE (e2 (eW) (ad 1) (eC .none))) (ad 0))))
def cg : List PyData → R PyData := dL 1 (nT)
def fG (cg : List PyData → R PyData) : Fs :=
  (aO (hW 3 (bR (dG (ad 2)) 1 [] (aP 0) (fun _ => .ok true) (eC .none))) (aO (gu (iO (dG (aD cg (ag (ad 2) ay))) (aP 4) (hJ (gj (tE (e2 (iV) (e2 bU (e2 bU (ad 0) (ad 4)) (eC (.int 0))) (ad 1))) (tE (e2 (fo rC) (e2 bU (ad 2) (ad 4)) (eC (.int 0))))) (gy 3 (ad 4) (e2 bU (bR (dG (e2 bU (e2 bU (ad 0) (ad 4)) (eC (.int 3)))) 1 [2, 4] (aP 0) (tE (e2 (iV) (e2 bU (ad 1) (ad 0)) (e2 jK (e2 bU (ad 1) (ad 2)) (eC (.int 1))))) (ad 0)) (eC (.int 0)))) bB))) (bG (e1 dY (fu 3)))))
def bp : List PyData → R PyData := dL 5 (fG cg)
def jp : Fs :=
  (aO (bJ 4 (bR (dG (ad 1)) 1 [3] (aP 0) (tE (e2 (eW) (e2 bU (ad 1) (ad 0)) (eC .none))) (ad 0))) (aO (hJ (tE (e2 (iV) (e2 bU (ad 0) (eC (.int 0))) (ad 2))) (bG (e2 (fo rC) (e1 cQ (ad 4)) (eC (.int 0)))) bB) (bG (e2 (iV) (e1 cQ (ad 4)) (e1 cQ (ad 1))))))
def bE : List PyData → R PyData := dL 5 (jp)
def jV (bc : List PyData → R PyData) (bE : List PyData → R PyData) : Fs :=
  (aO (bJ 4 (bR (dG (ad 0)) 1 [1] (aP 0) (fun _ => .ok true) (aD bc (ag (e2 bU (ad 0) (eC (.int 3))) (ag (ad 1) ay))))) (aO (hW 5 (bR (gW (ag (e1 cQ (ad 0)) ay)) 1 [3] (aP 0) (fun _ => .ok true) (AX (tE (e2 (iJ false) (ad 0) (ad 1))) (eC (.int 0)) (eC .none)))) (aO (bJ 6 (eC (.int 0))) (aO (bJ 7 (e1 nI (ad 3))) (aO (gu (nK 1000000 (tE (e2 (fo rC) (e1 cQ (ad 7)) (eC (.int 0)))) (aO (tm 6 (fun a b => a + b) (eC (.int 1))) (aO (bJ 8 (bR (dG (ad 1)) 1 [5] (aP 0) (tE (e2 (kI) (e2 bU (fu 1) (ad 0)) (eC .none))) (ad 0))) (aO (bJ 7 (bR (dG (ad 8)) 1 [0, 4, 2, 5] (aP 0) (tE (jS 4 (aD bE (ag (e2 bU (ad 1) (ad 0)) (ag (e2 bU (ad 2) (ad 0)) (ag (ad 3) (ag (ad 4) ay))))))) (ad 0))) (gu (iO (dG (ad 7)) (aP 9) (gy 5 (ad 9) (ad 6))))))))) (bG (e1 dY (fu 5))))))))
def cP : List PyData → R PyData := dL 10 (jV bc bE)
def ke : Fs :=
  (bG (e1 dY (bR (dG (ad 0)) 1 [] (aP 0) (fun _ => .ok true) (eC .none))))
def bC : List PyData → R PyData := dL 1 (ke)
def fK (bc : List PyData → R PyData) (bC : List PyData → R PyData) : Fs :=
  (aO (hW 3 (e1 nI (aD bC (ag (ad 0) ay)))) (aO (gu (iO (dG (ad 2)) (aP 4) (hJ (tE (e2 (iV) (e2 bU (e2 bU (ad 0) (ad 4)) (eC (.int 0))) (ad 1))) (gy 3 (ad 4) (e2 bU (aD bc (ag (e2 bU (e2 bU (ad 0) (ad 4)) (eC (.int 3))) (ag (ad 2) ay))) (eC (.int 0)))) bB))) (bG (e1 dY (fu 3)))))
def bo : List PyData → R PyData := dL 5 (fK bc bC)
def ly : Fs :=
  (bG (e1 dY (bR (dG (ad 0)) 1 [1] (aP 0) (tE (e2 (iJ true) (ad 0) (ad 1))) (ad 0))))
def bN : List PyData → R PyData := dL 2 (ly)
def eR (bc : List PyData → R PyData) (aF : List PyData → R PyData) (bp : List PyData → R PyData) (cg : List PyData → R PyData) (cP : List PyData → R PyData) (bo : List PyData → R PyData) (bN : List PyData → R PyData) (c_Share : Addr) : Fs :=
  (aO (bJ 4 (aD cP (ag (ad 0) (ag (ad 1) (ag (ad 2) (ag (aD bc (ag (ad 3) (ag (ad 1) ay))) ay)))))) (aO (bJ 5 (aD bN (ag (ad 1) (ag (aD cg (ag (ad 4) ay)) ay)))) (aO (hJ (tE (e2 (iV) (e1 cQ (ad 5)) (eC (.int 0)))) (aO (bJ 6 (aD aF (ag (aD bp (ag (ad 0) (ag (ad 2) (ag (ad 4) ay)))) (ag (aD bo (ag (ad 0) (ag (ad 2) (ag (ad 1) ay)))) ay)))) (bG (wu c_Share ["who", "places", "moves"] (ag (ad 2) (ag (ad 1) (ag (ad 6) ay)))))) bB) (aO (bJ 7 (e2 jK (eC (.int 1)) (ad 2))) (aO (bJ 4 (aD cP (ag (ad 0) (ag (ad 1) (ag (ad 7) (ag (ad 5) ay)))))) (aO (bJ 6 (aD aF (ag (aD bp (ag (ad 0) (ag (ad 7) (ag (ad 4) ay)))) (ag (aD bo (ag (ad 0) (ag (ad 7) (ag (ad 5) ay)))) ay)))) (bG (wu c_Share ["who", "places", "moves"] (ag (ad 7) (ag (aD cg (ag (ad 4) ay)) (ag (ad 6) ay)))))))))))
def a5 (c_Share : Addr) : List PyData → R PyData := dL 8 (eR bc aF bp cg cP bo bN c_Share)
def dI (aF : List PyData → R PyData) (bC : List PyData → R PyData) (c_Share : Addr) : Fs :=
  (aO (hW 2 (bR (dG (ad 0)) 1 [] (aP 0) (fun _ => .ok true) (eC .none))) (aO (bJ 3 (aD bC (ag (ad 0) ay))) (aO (gu (iO (dG (ad 1)) (aP 4) (aO (gu (iO (dG (e1 (jJ c_Share "places") (ad 4))) (aP 5) (gy 2 (ad 5) (e1 (jJ c_Share "who") (ad 4))))) (bJ 3 (aD aF (ag (ad 3) (ag (e1 (jJ c_Share "moves") (ad 4)) ay))))))) (bG (gt (ag (e1 dY (fu 2)) (ag (ad 3) ay)))))))
def aY (c_Share : Addr) : List PyData → R PyData := dL 6 (dI aF bC c_Share)
def l9 (cm : List PyData → R PyData) (cy : List PyData → R PyData) (a5 : List PyData → R PyData) (aY : List PyData → R PyData) (bN : List PyData → R PyData) (c_Share : Addr) : Fs :=
  (aO (hJ (ej (tE (aD cy (ag (ad 2) (ag (e1 cQ (ad 0)) ay))))) (qr (PySem.Str.ofString "NoPart") (eC (.str (PySem.Str.ofString "goals are not some places")))) bB) (aO (hW 3 (gr ay)) (aO (bJ 4 (aD cm (ag (ad 0) ay))) (aO (gu (nK 1000000 (tE (e2 (fo rC) (e1 cQ (ad 4)) (eC (.int 0)))) (aO (bJ 5 (aD a5 (ag (ad 0) (ag (ad 4) (ag (ad 1) (ag (ad 2) ay)))))) (aO (fT 3 (ad 5)) (bJ 4 (aD bN (ag (ad 4) (ag (e1 (jJ c_Share "places") (ad 5)) ay)))))))) (Cv 3 (bG (aD aY (ag (ad 0) (ag (ad 3) ay)))))))))
def cB (c_Share : Addr) : List PyData → R PyData := dL 6 (l9 cm cy (a5 c_Share) (aY c_Share) bN c_Share)
def gL (cB : List PyData → R PyData) : Fs :=
  (aO (r0 cB (ag (ad 0) (ag (ad 1) (ag (ad 2) ay))) ((PySem.Str.ofString "NoPart", (fun p ρ => (ou 3 p) (ρ.set 3 (.exc p)))) :: [])) (bG (eC (.bool false))))
def bK (c_Share : Addr) : List PyData → R PyData := dL 4 (gL (cB c_Share))
def kh (aG : List PyData → R PyData) : Fs :=
  (aO (bJ 2 (e2 eS (ad 0) (eC (.int 5)))) (bG (e1 dY (bR (gW (ag (ad 1) ay)) 1 [2, 0] (aP 0) (hZ (tE (e2 (iV) (ad 1) (eC (.int 4)))) (tE (e2 (fo Cq) (e2 eS (aD aG (ag (ad 2) (ag (ad 0) ay))) (eC (.int 4))) (ad 1)))) (ad 0)))))
def cY : List PyData → R PyData := dL 3 (kh aG)
def e8 : Fs :=
  (aO (hJ (hZ (ej (tE (e1 (du .tuple) (ad 0)))) (tE (e2 (jR) (e1 cQ (ad 0)) (e1 cQ (ad 1))))) (bG (eC (.bool false))) bB) (aO (gu (iO (wa (ad 0) (ad 1)) (fA 2 3) (aO (hJ (hZ (tE (e1 (du .bool) (ad 2))) (gj (tE (e2 (eW) (ad 2) (eC .none))) (ej (tE (e1 (du .int) (ad 2)))))) (bG (eC (.bool false))) bB) (hJ (gj (tE (e2 (eW) (ad 2) (eC .none))) (tE (e2 (iJ true) (ad 2) (e2 bU (ad 3) (eC (.int 3)))))) (bG (eC (.bool false))) bB)))) (bG (eC (.bool true)))))
def bq : List PyData → R PyData := dL 4 (e8)
def fH (bq : List PyData → R PyData) : Fs :=
  (aO (hJ (hZ (ej (tE (e1 (du .tuple) (ad 0)))) (hZ (tE (e2 (jR) (e1 cQ (ad 0)) (eC (.int 2)))) (ej (tE (e1 (du .tuple) (e2 bU (ad 0) (eC (.int 0)))))))) (bG (eC (.bool false))) bB) (aO (hJ (hZ (tE (e2 (jR) (e1 cQ (e2 bU (ad 0) (eC (.int 0)))) (e1 cQ (ad 1)))) (ej (tE (aD bq (ag (e2 bU (ad 0) (eC (.int 1))) (ag (ad 1) ay)))))) (bG (eC (.bool false))) bB) (aO (gu (iO (se (ad 1) (e2 bU (ad 0) (eC (.int 0))) (e2 bU (ad 0) (eC (.int 1)))) (ud 2 3 4) (aO (hJ (hZ (ej (tE (e1 (du .int) (ad 3)))) (hZ (tE (e1 (du .bool) (ad 3))) (tE (e2 (iJ true) (ad 3) (gt (ag (eC (.int 0)) (ag (eC (.int 1)) ay))))))) (bG (eC (.bool false))) bB) (hJ (tE (e2 (jR) (e2 (kI) (ad 4) (eC .none)) (e2 (jR) (e2 bU (ad 2) (eC (.int 0))) (ad 3)))) (bG (eC (.bool false))) bB)))) (bG (eC (.bool true))))))
def bw : List PyData → R PyData := dL 5 (fH bq)
def yp (cj : List PyData → R PyData) (ca : List PyData → R PyData) (aL : List PyData → R PyData) (bn : List PyData → R PyData) (bK : List PyData → R PyData) (cY : List PyData → R PyData) (bw : List PyData → R PyData) (cB : List PyData → R PyData) : Fs :=
  (aO (bJ 1 (aD cj (ag (ad 0) (ag (eC (.int 24)) ay)))) (aO (bJ 2 (aD cY (ag (aD aL (ag (ad 0) (ag (eC (.int 2)) ay))) (ag (e1 cQ (ad 1)) ay)))) (aO (bJ 3 (e2 eS (e2 kD (aD aL (ag (ad 0) (ag (eC (.int 2)) ay))) (eC (.int 5))) (eC (.int 2)))) (aO (hJ (tE (e2 (iV) (e2 eS (aD aL (ag (ad 0) (ag (eC (.int 1)) ay))) (eC (.int 6))) (eC (.int 1)))) (aO (bJ 4 (e2 bU (gr (ag (gt (ag (e1 cQ (ad 1)) ay)) (ag (e2 ez (ad 2) (e2 dM (gt (ag (eC (.int 0)) ay)) (eC (.int 2)))) (ag (gr (ag (eC (.int 0)) ay)) (ag (gt (ag (e1 sd (eC (.int 1))) ay)) (ag (gt (ag (eC (.bool true)) ay)) (ag (eC .none) (ag (gt (ag (eC (.int 0)) (ag (eC (.int 0)) ay))) ay)))))))) (e2 eS (e2 kD (aD aL (ag (ad 0) (ag (eC (.int 1)) ay))) (eC (.int 6))) (eC (.int 7))))) (hJ (ej (tE (aD bK (ag (ad 1) (ag (ad 3) (ag (ad 4) ay)))))) (bG (eC (.bool false))) bB)) bB) (aO (bJ 5 (aD cB (ag (ad 1) (ag (ad 3) (ag (ad 2) ay))))) (aO (hJ (hZ (ej (tE (aD bw (ag (ad 5) (ag (ad 1) ay))))) (tE (e2 (jR) (aD cB (ag (ad 1) (ag (ad 3) (ag (ad 2) ay)))) (ad 5)))) (bG (eC (.bool false))) bB) (aO (bJ 6 (bR (gW (ag (e1 cQ (ad 1)) ay)) 1 [5, 3] (aP 0) (tE (e2 (iV) (e2 bU (e2 bU (ad 1) (eC (.int 0))) (ad 0)) (ad 2))) (ad 0))) (aO (bJ 7 (bR (gW (ag (e1 cQ (ad 1)) ay)) 1 [5, 3] (aP 0) (tE (e2 (jR) (e2 bU (e2 bU (ad 1) (eC (.int 0))) (ad 0)) (ad 2))) (ad 0))) (aO (hJ (hZ (ej (tE (aD ca (ag (ad 1) (ag (ad 3) (ag (e2 bU (ad 5) (eC (.int 1))) (ag (ad 6) ay))))))) (ej (tE (aD ca (ag (ad 1) (ag (e2 jK (eC (.int 1)) (ad 3)) (ag (e2 bU (ad 5) (eC (.int 1))) (ag (ad 7) ay)))))))) (bG (eC (.bool false))) bB) (aO (bJ 8 (bR (dG (ad 6)) 1 [2] (aP 0) (tE (e2 (iJ true) (ad 0) (ad 1))) (ad 0))) (aO (gu (iO (dG (ad 8)) (aP 9) (hJ (tE (e2 (iJ false) (ad 9) (aD bn (ag (ad 1) (ag (ad 3) (ag (e2 bU (ad 5) (eC (.int 1))) (ag (ad 9) (ag (ad 8) ay)))))))) (bG (eC (.bool false))) bB))) (aO (gu (iO (dG (ad 7)) (aP 9) (aO (bJ 10 (aD bn (ag (ad 1) (ag (e2 jK (eC (.int 1)) (ad 3)) (ag (e2 bU (ad 5) (eC (.int 1))) (ag (ad 9) (ag (ad 7) ay))))))) (hJ (gj (tE (e2 (iJ false) (ad 9) (ad 2))) (tE (e2 (iJ false) (ad 9) (ad 10)))) (bG (eC (.bool false))) bB)))) (bG (eC (.bool true)))))))))))))))
def vb (c_Share : Addr) : List PyData → R PyData := dL 11 (yp cj ca aL bn (bK c_Share) cY bw (cB c_Share))
end G
end
namespace G
open PySem PySem.Spec PyProof.Rows L2 D2
theorem zd (ns : List Int) {k : Int} (hk : 0 ≤ k) : ∃ v, bX [kZ ns, .int k] = .ok (.int v) := by
  unfold bX gT
  by_cases h : k < ns.length
  · refine ⟨ns[k.toNat]'(by omega), ?_⟩
    have hx := oS (xs := ns.map PyData.int) (i := k) hk (by simpa using h)
    rw [eT]
    simp [h, hx]
  · refine ⟨0, ?_⟩
    rw [eT]
    simp [h]
theorem kR (ns : List Int) {k : Int} (hk : 0 ≤ k) : ∃ v, aL [kZ ns, .int k] = .ok (.int v) ∧ 0 ≤ v ∧ v < 2147483629 := by
  obtain ⟨c, hc⟩ := zd ns hk
  unfold aL i4
  have m1 : dM (.int 7919) (.int k) = .ok (.int (7919 * k)) := iq (.inl (by omega))
  have m2 : dM (.int (c + 7919 * k + 1)) (.int 48271) = .ok (.int ((c + 7919 * k + 1) * 48271)) := iq (.inr (by omega))
  generalize hd : (c + 7919 * k + 1) * 48271 % 2147483647 = d
  have hd0 : 0 ≤ d := by omega
  have hd1 : d < 2147483647 := by omega
  have m3 : dM (.int d) (.int d) = .ok (.int (d * d)) := iq (.inl (by omega))
  have m4 : dM (.int 7) (.int d) = .ok (.int (7 * d)) := iq (.inl (by omega))
  refine ⟨(d * d + 7 * d + k) % 2147483629, ?_, by omega, by omega⟩
  rw [eT]
  simp [hc, m1, m2, hd, m3, m4, List.replicate]
theorem nX (n k : Int) : ∃ v, aG [.int n, .int k] = .ok (.int v) ∧ 0 ≤ v ∧ v < 2147483629 := by
  unfold aG i8
  have m1 : dM (.int 104729) (.int k) = .ok (.int (104729 * k)) := iq (.inl (by omega))
  have m2 : dM (.int (n + 104729 * k + 17)) (.int 69621) = .ok (.int ((n + 104729 * k + 17) * 69621)) := iq (.inr (by omega))
  generalize hd : (n + 104729 * k + 17) * 69621 % 2147483647 = d
  have hd0 : 0 ≤ d := by omega
  have hd1 : d < 2147483647 := by omega
  have m3 : dM (.int d) (.int d) = .ok (.int (d * d)) := iq (.inl (by omega))
  have m4 : dM (.int 3) (.int d) = .ok (.int (3 * d)) := iq (.inl (by omega))
  refine ⟨(d * d + 3 * d + k) % 2147483629, ?_, by omega, by omega⟩
  rw [eT]
  simp [m1, m2, hd, m3, m4, List.replicate]
theorem mT (n c : Int) (hc : 1 ≤ c) : ∀ (ds : List PyData) (m : Nat) (kvs : List (PyData × PyData)) (x : aW), ss c m kvs → (∀ d ∈ ds, ∃ k, d = .int k) → m + ds.length ≤ 1000 →
    ∃ kvs' x', ss c (m + ds.length) kvs' ∧ dP (aP 3) (yt 2 (e2 eS (aD aG (ag (ad 0) (ag (ad 3) ay))) (ad 1)) (eC (.bool true))) ds [.val (.int n), .val (.int c), .own (.dict kvs), x]
      = .ok (.nx [.val (.int n), .val (.int c), .own (.dict kvs'), x'])
  | [], m, kvs, x, hk, _, _ => ⟨kvs, x, hk, by rw [dn]⟩
  | d :: ds, m, kvs, x, hk, hi, hl => by
    obtain ⟨k, rfl⟩ := hi d List.mem_cons_self
    obtain ⟨v, hv, v0, v1⟩ := nX n k
    have hk' := hk.put (k := v % c) (Int.emod_nonneg _ (by omega)) (Int.emod_lt_of_pos _ (by omega)) (.bool true)
    obtain ⟨kvs', x', h1, h2⟩ := mT n c hc ds (m + 1) _ (.val (.int k)) hk' (fun d hd => hi d (List.mem_cons_of_mem _ hd)) (by simp at hl; omega)
    refine ⟨kvs', x', by rw [List.length_cons]; simpa [Nat.add_comm, Nat.add_left_comm, Nat.add_assoc] using h1, ?_⟩
    have hlen := hk.len
    have hsz : kvs.length < sizeLine := Nat.lt_of_le_of_lt (show kvs.length ≤ 1000 by simp at hl; omega) (by decide)
    have hc' : 0 < c := by omega
    rw [cW, ← h2]
    simp [yt, hv, hc', ia, hsz]
theorem wm {n c : Int} (hn : 0 ≤ n) (hc : 1 ≤ c) : ∃ ns : List Int, cI [.int n, .int c] = .ok (.tuple (ns.map .int)) ∧ (∀ x ∈ ns, 0 ≤ x ∧ x < c) ∧ ns ≠ [] ∧ ns.Pairwise (· < ·) := by
  unfold cI je
  have m1 : ∀ k : Int, dM (.int 20) (.int k) = .ok (.int (20 * k)) := fun k => iq (.inl (by omega))
  generalize hN : (1 + n % 3 + 20 * (if n / 3 % 29 = 7 then 1 else 0) : Int) = N
  have hN0 : 1 ≤ N := by split at hN <;> omega
  have hN1 : N ≤ 23 := by split at hN <;> omega
  obtain ⟨kvs, x, hk, hf⟩ := mT n c hc (bi 0 N.toNat) 0 [] .non ⟨[], rfl, by simp, by simp, .inl rfl, by simp⟩ (r8 _ _) (by rw [dB]; omega)
  obtain ⟨ns, e, hb, hl, hz, nd⟩ := hk.ex
  rw [dB] at hl hz
  have hi : eZ (kvs.map (·.1)) = some ns := by rw [e, lK]
  have hs : jw (.dict kvs) = .ok (.list ((fP ns).map PyData.int)) := by
    show (match eZ (kvs.map (·.1)) with | some ns => if ns.length < 64 then R.ok (PyData.list ((fP ns).map PyData.int)) else .no | none => .no) = _
    rw [hi]
    exact if_pos (by omega)
  have hr : -(2 ^ 62) ≤ N ∧ N < 2 ^ 62 := by omega
  refine ⟨fP ns, ?_, fun x hx => hb x ((fi ns).mem_iff.mp hx), ?_, wn (iK ns) ((fi ns).nodup_iff.mpr nd)⟩
  · rw [eT]
    have hg : oy [.int N] = .ok (bi 0 N.toNat) := by
      show (if -(2 ^ 62) ≤ N ∧ N < 2 ^ 62 then R.ok (bi 0 N.toNat) else .no) = _
      rw [if_pos hr]
    simp [dR, fS, m1, List.replicate, hN, hg, hf, hs]
  · intro z
    have := (fi ns).length_eq
    rw [z] at this
    rcases hz with q | q
    · omega
    · exact q (List.eq_nil_of_length_eq_zero this.symm)
theorem vL {n c h : Int} (hn : 0 ≤ n) (hc : 1 ≤ c) (h0 : 0 ≤ h) : ∃ p : P4, cr [.int n, .int c, .int h] = .ok p.d ∧ Pl c h p := by
  obtain ⟨v, hv, v0, v1⟩ := nX n 9
  obtain ⟨ns, hg, hb, hne, hso⟩ := wm (n := v) (c := c) v0 hc
  unfold cr jc
  have hh : 0 < h + 1 := by omega
  have s4 : 4 ≤ sizeLine := by decide
  have a1 := Int.emod_nonneg (n / 2) (show h + 1 ≠ 0 by omega)
  have a2 := Int.emod_lt_of_pos (n / 2) hh
  by_cases hq : n / 234 % 11 = 3
  · refine ⟨⟨n % 2, n / 2 % (h + 1), n / 26 % 41 - 20, ns⟩, ?_, ⟨by dsimp only; omega, by dsimp only; omega, a1, by dsimp only; omega, by dsimp only; omega, by dsimp only; omega, hne, hso, hb⟩⟩
    rw [eT]
    simp [hh, fS, hq, hv, hg, s4, P4.d]
  · refine ⟨⟨n % 2, n / 2 % (h + 1), n / 26 % 9 - 4, ns⟩, ?_, ⟨by dsimp only; omega, by dsimp only; omega, a1, by dsimp only; omega, by dsimp only; omega, by dsimp only; omega, hne, hso, hb⟩⟩
    rw [eT]
    simp [hh, fS, hq, hv, hg, s4, P4.d]
theorem rR (f : Fe) (ρ : aI) (i : Nat) (P : P4 → Prop) : ∀ ds : List PyData, (∀ d ∈ ds, ∃ p : P4, f (ρ.set i (.val d)) = .ok p.d ∧ P p) → ∃ ps : List P4, bV (aP i) (fun _ => .ok true) f ρ ds = .ok (ps.map P4.d) ∧ ps.length = ds.length ∧ ∀ p ∈ ps, P p
  | [], _ => ⟨[], e9 .., rfl, by simp⟩
  | d :: ds, h => by
    obtain ⟨x, h1, h2⟩ := h d List.mem_cons_self
    obtain ⟨xs, h3, h4, h5⟩ := rR f ρ i P ds fun d hd => h d (List.mem_cons_of_mem _ hd)
    refine ⟨x :: xs, ?_, by simp [h4], fun y hy => ?_⟩
    · rw [ge, h1, h3]; rfl
    · rcases List.mem_cons.mp hy with rfl | hy
      · exact h2
      · exact h5 y hy
theorem sL (ns : List Int) {most : Int} (hm0 : 1 ≤ most) (hm1 : most ≤ 24) : ∃ (ps : List P4) (hi : Int), cj [kZ ns, .int most] = .ok (gD ps) ∧ (∀ p ∈ ps, Pl ps.length hi p) ∧ 1 ≤ ps.length ∧ (ps.length : Int) ≤ most ∧ 0 ≤ hi ∧ hi ≤ 12 := by
  obtain ⟨v, hv, v0, v1⟩ := kR ns (k := 0) (by omega)
  unfold cj iu
  generalize hm : (if (if (ns.length : Int) > 4 then (ns.length : Int) else 4) < most then (if (ns.length : Int) > 4 then (ns.length : Int) else 4) else most) = m
  have m0 : 0 < m := by split at hm <;> split at hm <;> omega
  have m1 : m ≤ most := by split at hm <;> split at hm <;> omega
  generalize hc : 1 + v % m = c
  have c0 : 1 ≤ c := by have := Int.emod_nonneg v (show m ≠ 0 by omega); omega
  have c1 : c ≤ most := by have := Int.emod_lt_of_pos v m0; omega
  have hix : ∃ h, bU (.list [.int 1, .int 2, .int 3, .int 5, .int 12, .int 12]) (.int (v / 24 % 6)) = .ok (.int h) ∧ 0 ≤ h ∧ h ≤ 12 := by
    obtain ⟨x, hx, e⟩ := yQ (xs := [.int 1, .int 2, .int 3, .int 5, .int 12, .int 12]) (i := v / 24 % 6) (by omega) (by simp; omega)
    rw [e]
    simp at hx
    rcases hx with rfl | rfl | rfl | rfl | rfl <;> exact ⟨_, rfl, by decide, by decide⟩
  obtain ⟨h, hh, h0, h1⟩ := hix
  have s6 : 6 ≤ sizeLine := by decide
  have hr : oy [.int c] = .ok (bi 0 c.toNat) := by
    show (if -(2 ^ 62) ≤ c ∧ c < 2 ^ 62 then R.ok (bi 0 c.toNat) else .no) = _
    rw [if_pos (by omega)]
  obtain ⟨xs, e1, e2, e3⟩ := rR (aD cr (ag (aD aL (ag (ad 1) (ag (e2 ez (eC (.int 3)) (ad 0)) ay))) (ag (ad 2) (ag (ad 3) ay)))) (aA 1 [0, 3, 4] [.val (kZ ns), .val (.int most), .val (.int v), .val (.int c), .val (.int h)]) 0 (Pl c h) (bi 0 c.toNat) fun d hd => by
    unfold bi at hd
    obtain ⟨k, _, rfl⟩ := List.mem_map.mp hd
    obtain ⟨w, hw, w0, w1⟩ := kR ns (k := 3 + (0 + (k : Int))) (by omega)
    obtain ⟨d, hd1, hd2⟩ := vL (n := w) (c := c) (h := h) w0 c0 h0
    refine ⟨d, ?_, hd2⟩
    simp at hw
    simp [aA, List.replicate, hw, hd1]
  rw [dB] at e2
  have ec : (xs.length : Int) = c := by omega
  refine ⟨xs, h, ?_, by rw [ec]; exact e3, by omega, by omega, h0, h1⟩
  rw [eT]
  simp [hv, hm, m0, hc, s6, hh, List.replicate, bF, hr, dB, ce (show c.toNat ≤ 1000 by omega), e1]
def bL (ns : List Int) (i : Int) : Bool := ns.any fun j => decide (j = i)
theorem aU {ns : List Int} {i : Int} : bL ns i = true ↔ i ∈ ns := by
  unfold bL
  rw [List.any_eq_true]
  constructor
  · rintro ⟨j, hj, e⟩
    have := of_decide_eq_true e
    exact this ▸ hj
  · exact fun h => ⟨i, h, decide_eq_true rfl⟩
theorem jf : ∀ ns : List Int, PyData.depthAll (ns.map .int) = 0
  | [] => by simp [PyData.depthAll]
  | n :: ns => by simp [PyData.depthAll, PyData.depth, jf ns]
theorem nY (ns : List Int) : PyData.canLayAll0 (ns.map .int) = true := kF fun x hx => by
  obtain ⟨i, _, rfl⟩ := List.mem_map.mp hx
  exact nE i
theorem oO (ns : List Int) (i : Int) : pY (ns.map .int) (.int i) = true := by
  unfold pY
  rw [nY, jf]
  simp [PyData.canLay0]
theorem qX (ns : List Int) (i : Int) : ((ns.map PyData.int).any fun y => PyData.eqv y (.int i)) = bL ns i := by
  rw [List.any_map]
  congr 1
theorem xO (ns : List Int) (i : Int) (neg : Bool) : iJ neg (.int i) (.tuple (ns.map .int)) = .ok (.bool (if neg then !bL ns i else bL ns i)) := by
  show (if pY (ns.map .int) (.int i) = true then R.ok (PyData.bool _) else .no) = _
  rw [if_pos (oO ns i), qX]
theorem xN (ns : List Int) (i : Int) (neg : Bool) : iJ neg (.int i) (.list (ns.map .int)) = .ok (.bool (if neg then !bL ns i else bL ns i)) := by
  show (if pY (ns.map .int) (.int i) = true then R.ok (PyData.bool _) else .no) = _
  rw [if_pos (oO ns i), qX]
theorem nq : ∀ ns ms : List Int, PyData.eqvAll (ns.map .int) (ms.map .int) = decide (ns = ms)
  | [], [] => by simp [PyData.eqvAll]
  | [], _ :: _ => by simp [PyData.eqvAll]
  | _ :: _, [] => by simp [PyData.eqvAll]
  | n :: ns, m :: ms => by
    simp only [List.map_cons, PyData.eqvAll, nq ns ms, qb]
    by_cases h : n = m <;> by_cases h2 : ns = ms <;> simp [h, h2]
theorem uu (ns ms : List Int) : pK (.list (ns.map .int)) (.list (ms.map .int)) = true := by
  unfold pK
  simp [PyData.canLay0, nY, PyData.depth, jf]
theorem xZ (ns ms : List Int) : jR (.list (ns.map .int)) (.list (ms.map .int)) = .ok (.bool (!decide (ns = ms))) := by
  unfold jR
  rw [if_pos (uu ns ms)]
  simp only [PyData.eqv, nq]
theorem Cb (ns ms : List Int) : iV (.list (ns.map .int)) (.list (ms.map .int)) = .ok (.bool (decide (ns = ms))) := by
  unfold iV
  rw [if_pos (uu ns ms)]
  simp only [PyData.eqv, nq]
theorem bO {t : aI → R Bool} {ρ : aI} {p : Int → Bool} : ∀ ns : List Int, (∀ x ∈ ns, t ((aW.non :: ρ).set 0 (.val (.int x))) = .ok (p x)) → bV (aP 0) t (ad 0) (.non :: ρ) (ns.map .int) = .ok ((ns.filter p).map .int)
  | [], _ => e9 ..
  | x :: ns, h => by
    rw [List.map_cons, ge, h x List.mem_cons_self, bO ns fun y hy => h y (List.mem_cons_of_mem _ hy)]
    cases hp : p x with
    | true => rw [List.filter_cons_of_pos hp]; rfl
    | false => rw [List.filter_cons_of_neg (by rw [hp]; simp)]; rfl
theorem iP (c : Nat) : bi 0 c = ((List.range c).map fun (k : Nat) => (k : Int)).map .int := by
  unfold bi
  rw [List.map_map]
  apply List.map_congr_left
  intro k _
  simp
def aZ (ps : List P4) (i : Int) : List Int := (ps[i.toNat]?.map (·.ns)).getD []
theorem oC {ps : List P4} {i : Int} (h0 : 0 ≤ i) (h1 : i < ps.length) : bU (gD ps) (.int i) = .ok (ps[i.toNat]'(by omega)).d := by
  rw [uG h0 (by simpa using h1)]
  simp
theorem dt {ps : List P4} {i : Int} (h0 : 0 ≤ i) (h1 : i < ps.length) : aZ ps i = (ps[i.toNat]'(by omega)).ns := by
  unfold aZ
  rw [List.getElem?_eq_getElem (by omega)]
  rfl
theorem lA (p : P4) : bU p.d (.int 3) = .ok (.tuple (p.ns.map .int)) := rfl
theorem lx (p : P4) : bU p.d (.int 0) = .ok (.int p.w) := rfl
theorem zZ {n c : Int} (hc0 : 0 ≤ c) (hc1 : c ≤ 24) : ∃ ns : List Int, cY [.int n, .int c] = .ok (.tuple (ns.map .int)) ∧ ns.Pairwise (· < ·) ∧ ∀ x ∈ ns, 0 ≤ x ∧ x < c := by
  have hr : oy [.int c] = .ok (bi 0 c.toNat) := by
    show (if -(2 ^ 62) ≤ c ∧ c < 2 ^ 62 then R.ok (bi 0 c.toNat) else .no) = _
    rw [if_pos (by omega)]
  have hx : ∀ k : Int, ∃ v, aG [.int n, .int k] = .ok (.int v) := fun k => let ⟨v, h, _⟩ := nX n k; ⟨v, h⟩
  obtain ⟨dr, hdr⟩ : ∃ dr : Int → Int, ∀ k, aG [.int n, .int k] = .ok (.int (dr k)) := ⟨fun k => (hx k).choose, fun k => (hx k).choose_spec⟩
  have hcmp := bO (t := hZ (tE (e2 (iV) (ad 1) (eC (.int 4)))) (tE (e2 (fo Cq) (e2 eS (aD aG (ag (ad 2) (ag (ad 0) ay))) (eC (.int 4))) (ad 1)))) (ρ := [.val (.int (n % 5)), .val (.int n)])
    (p := fun k => decide (n % 5 = 4) || decide (dr k % 4 < n % 5)) ((List.range c.toNat).map fun (k : Nat) => (k : Int)) fun k hk => by
      by_cases h4 : n % 5 = 4 <;> simp [fS, hdr, h4]
  rw [← iP] at hcmp
  refine ⟨((List.range c.toNat).map fun (k : Nat) => (k : Int)).filter fun k => decide (n % 5 = 4) || decide (dr k % 4 < n % 5), ?_, ?_, ?_⟩
  · unfold cY kh
    rw [eT]
    have e : aA 1 [2, 0] [.val (.int n), .val (.int c), .val (.int (n % 5))] = [.non, .val (.int (n % 5)), .val (.int n)] := rfl
    simp [List.replicate, bF, hr, dB, ce (show c.toNat ≤ 1000 by omega), e, hcmp]
  · refine List.Pairwise.filter _ ?_
    rw [List.pairwise_map]
    exact (List.pairwise_lt_range).imp fun h => by omega
  · intro x hx
    have := (List.mem_filter.mp hx).1
    obtain ⟨k, hk, rfl⟩ := List.mem_map.mp this
    have := List.mem_range.mp hk
    omega
def av (ps : List P4) (i : Int) : Int := (ps[i.toNat]?.map (·.w)).getD 0
theorem fg {ps : List P4} {i : Int} (h0 : 0 ≤ i) (h1 : i < ps.length) : av ps i = (ps[i.toNat]'(by omega)).w := by
  unfold av
  rw [List.getElem?_eq_getElem (by omega)]
  rfl
def bt (ps : List P4) (js : List Int) (i : Int) : List Int := (aZ ps i).filter (bL js)
def lS (ps : List P4) (js kn : List Int) (i : Int) : List Int := (bt ps js i).filter (bL kn)
def ji (ps : List P4) (js : List Int) (who : Int) (kn : List Int) (i : Int) : Bool :=
  !bL kn i && (decide (0 < (lS ps js kn i).length) && (decide (av ps i = who) || decide ((lS ps js kn i).length = (bt ps js i).length)))
def eu (ps : List P4) (js : List Int) (who : Int) (kn is : List Int) : List Int := is.filter (ji ps js who kn)
def cO (ps : List P4) (js : List Int) (who r : Int) (kvs : List (Int × Int)) : List (Int × Int) := kvs ++ (eu ps js who (kvs.map (·.1)) js).map fun i => (i, r)
def gA (ps : List P4) (js : List Int) (who : Int) : Int → Nat → List (Int × Int) → List (Int × Int)
  | _, 0, kvs => kvs
  | r, n + 1, kvs => gA ps js who (r + 1) n (cO ps js who r kvs)
theorem ls : ∀ {l m : List Int}, l.Nodup → (∀ x ∈ l, x ∈ m) → l.length ≤ m.length
  | [], m, _, _ => Nat.zero_le _
  | x :: l, m, nd, h => by
    obtain ⟨n1, n2⟩ := List.nodup_cons.mp nd
    have hx := h x List.mem_cons_self
    have := ls (m := m.erase x) n2 fun y hy => (List.mem_erase_of_ne (by rintro rfl; exact n1 hy)).mpr (h y (List.mem_cons_of_mem _ hy))
    rw [List.length_erase_of_mem hx] at this
    have hp := List.length_pos_of_mem hx
    rw [List.length_cons]
    omega
structure jl (js : List Int) (kvs : List (Int × Int)) : Prop where
  nd : (kvs.map (·.1)).Nodup
  sub : ∀ x ∈ kvs.map (·.1), x ∈ js
theorem jl.len {js : List Int} {kvs : List (Int × Int)} (h : jl js kvs) (nj : js.Nodup) : kvs.length ≤ js.length := by
  have := ls h.nd h.sub
  simpa using this
theorem kc (ps : List P4) (js : List Int) (who r : Int) (kvs : List (Int × Int)) : (cO ps js who r kvs).map (·.1) = kvs.map (·.1) ++ eu ps js who (kvs.map (·.1)) js := by
  unfold cO
  rw [List.map_append, List.map_map]
  congr 1
  exact List.map_id _
theorem mH {ps : List P4} {js : List Int} {who : Int} {kn is : List Int} {x : Int} (h : x ∈ eu ps js who kn is) : x ∈ is ∧ x ∉ kn := by
  obtain ⟨h1, h2⟩ := List.mem_filter.mp h
  refine ⟨h1, fun z => ?_⟩
  unfold ji at h2
  rw [aU.mpr z] at h2
  simp at h2
theorem jl.round {ps : List P4} {js : List Int} {who r : Int} {kvs : List (Int × Int)} (h : jl js kvs) (nj : js.Nodup) : jl js (cO ps js who r kvs) := by
  refine ⟨?_, fun x hx => ?_⟩
  · rw [kc, List.nodup_append]
    refine ⟨h.nd, List.Pairwise.filter _ nj, fun a ha b hb e => ?_⟩
    subst e
    exact (mH hb).2 ha
  · rw [kc, List.mem_append] at hx
    rcases hx with z | z
    · exact h.sub x z
    · exact (mH z).1
theorem rJ {d : PyData} (h : noD d) : dA [d] = .ok (.bool (Ef d)) := by
  cases d <;> first | rfl | cases h
theorem nO {d : PyData} (h : noD d) (lo hi : Int) : bW [d, .int lo, .int hi] = .ok (.bool (AA d lo hi)) := by
  unfold bW ip
  rw [eT]
  cases d with
  | int i =>
    by_cases h1 : lo ≤ i <;> by_cases h2 : i ≤ hi <;> simp [rJ h, Ef, h1, h2, AA]
  | dict k => cases h
  | _ => simp [rJ h, Ef, AA]
theorem o6 (t : PyData) (c : Int) : ∀ (ds : List PyData) (l : Int) (x : aW), (∀ d ∈ ds, noD d) →
    ∃ ρ, dP (aP 3) (aO (hJ (ej (tE (aD bW (ag (ad 3) (ag (ad 2) (ag (e2 jK (ad 1) (eC (.int 1))) ay)))))) (bG (eC (.bool false))) bB) (bJ 2 (e2 ez (ad 3) (eC (.int 1))))) ds
      [.val t, .val (.int c), .val (.int l), x] = if iF c l ds = true then .ok (.nx ρ) else .ok (.rt (.bool false))
  | [], l, x, _ => ⟨_, by rw [dn]; rfl⟩
  | d :: ds, l, x, h => by
    have hd := h d List.mem_cons_self
    cases hb : AA d l (c - 1) with
    | false =>
      refine ⟨[], ?_⟩
      have hr : iF c l (d :: ds) = false := by
        cases d with
        | int i =>
          simp only [AA] at hb
          simp only [iF]
          rcases (Bool.and_eq_false_iff.mp hb) with z | z
          · rw [z]; rfl
          · have : decide (i < c) = false := by simp at z ⊢; omega
            rw [this]; simp
        | _ => rfl
      rw [cW, hr]
      simp [nO hd, hb]
    | true =>
      cases d with
      | int i =>
        simp only [AA, Bool.and_eq_true, decide_eq_true_eq] at hb
        obtain ⟨ρ, e⟩ := o6 t c ds (i + 1) (.val (.int i)) fun d hd => h d (List.mem_cons_of_mem _ hd)
        refine ⟨ρ, ?_⟩
        have hr : iF c l (.int i :: ds) = iF c (i + 1) ds := by
          simp only [iF]
          rw [decide_eq_true hb.1, decide_eq_true (show i < c by omega)]; simp
        have hb' : AA (.int i) l (c - 1) = true := by simp [AA]; omega
        rw [cW, hr, ← e]
        simp [nO hd, hb']
      | _ => cases hb
theorem lN {d : PyData} (c : Int) (h : ∀ ds, d = .tuple ds → ∀ x ∈ ds, noD x) (hd : noD d) : cy [d, .int c] = .ok (.bool (qQ c d)) := by
  unfold cy kj
  rw [eT]
  cases d with
  | tuple ds =>
    obtain ⟨ρ, e⟩ := o6 (.tuple ds) c ds 0 .non (h ds rfl)
    simp [du, wx, dR, List.replicate]
    rw [e]
    cases iF c 0 ds <;> simp
  | dict k => cases hd
  | _ => simp [du, wx, List.replicate]
theorem kG (ps : List P4) (js : List Int) (who : Int) : ∀ (n : Nat) (r : Int) (kvs : List (Int × Int)), gA ps js who r (n + 1) kvs = cO ps js who (r + n) (gA ps js who r n kvs)
  | 0, r, kvs => by
    show cO ps js who r kvs = cO ps js who (r + ((0 : Nat) : Int)) kvs
    simp
  | n + 1, r, kvs => by
    show gA ps js who (r + 1) (n + 1) (cO ps js who r kvs) = _
    rw [kG ps js who n (r + 1)]
    show cO ps js who (r + 1 + n) _ = cO ps js who (r + ((n + 1 : Nat) : Int)) _
    rw [show r + 1 + (n : Int) = r + ((n + 1 : Nat) : Int) by omega]
    rfl
def aK (ps : List P4) (js : List Int) (who : Int) (gs : List Int) : Nat → List Int
  | 0 => gs
  | m + 1 => aK ps js who gs m ++ eu ps js who (aK ps js who gs m) js
def wo (ps : List P4) (js : List Int) (who : Int) (gs : List Int) (m : Nat) : List (Int × Int) := gA ps js who 1 m (gs.map fun i => (i, 0))
theorem nC (ps : List P4) (js : List Int) (who : Int) (gs : List Int) (m : Nat) : wo ps js who gs (m + 1) = cO ps js who (m + 1) (wo ps js who gs m) := by
  unfold wo
  rw [kG]
  congr 1
  omega
theorem eL (ps : List P4) (js : List Int) (who : Int) (gs : List Int) : ∀ m, (wo ps js who gs m).map (·.1) = aK ps js who gs m
  | 0 => by
    show (gs.map fun i => ((i, 0) : Int × Int)).map (·.1) = gs
    rw [List.map_map]
    exact List.map_id _
  | m + 1 => by
    rw [nC, kc, eL ps js who gs m]
    rfl
def look (kvs : List (Int × Int)) (i : Int) : Option Int := (kvs.find? fun q => decide (q.1 = i)).map (·.2)
theorem lG (a b : List (Int × Int)) (i : Int) : look (a ++ b) i = (look a i).or (look b i) := by
  unfold look
  rw [List.find?_append]
  cases a.find? _ <;> rfl
theorem fZ {kvs : List (Int × Int)} {i : Int} : look kvs i = none ↔ i ∉ kvs.map (·.1) := by
  unfold look
  rw [Option.map_eq_none_iff, List.find?_eq_none]
  constructor
  · intro h z
    obtain ⟨q, hq, e⟩ := List.mem_map.mp z
    exact h q hq (decide_eq_true e)
  · intro h q hq e
    exact h (List.mem_map.mpr ⟨q, hq, of_decide_eq_true e⟩)
theorem iB (r : Int) (i : Int) : ∀ l : List Int, look (l.map fun j => (j, r)) i = if i ∈ l then some r else none
  | [] => rfl
  | j :: l => by
    have ih := iB r i l
    unfold look at ih ⊢
    by_cases h : j = i
    · subst h
      rw [List.map_cons, List.find?_cons_of_pos (by simp)]
      simp
    · rw [List.map_cons, List.find?_cons_of_neg (by simpa using h), ih]
      by_cases h2 : i ∈ l
      · simp [h2]
      · have : ¬ (i = j) := fun z => h z.symm
        simp [h2, this]
section
variable {ps : List P4} {js : List Int} {who : Int} {gs : List Int}
theorem jH {i : Int} {k : Nat} (h : i ∈ aK ps js who gs k) : ∀ {m : Nat}, k ≤ m → i ∈ aK ps js who gs m
  | 0, hm => by have : k = 0 := by omega
                subst this; exact h
  | m + 1, hm => by
    by_cases e : k = m + 1
    · subst e; exact h
    · show i ∈ aK ps js who gs m ++ _
      exact List.mem_append_left _ (jH h (by omega))
theorem eQ {i : Int} : ∀ {m : Nat} {q : Int}, look (wo ps js who gs m) i = some q ↔ ∃ k : Nat, q = k ∧ k ≤ m ∧ i ∈ aK ps js who gs k ∧ (k = 0 ∨ i ∉ aK ps js who gs (k - 1))
  | 0, q => by
    show look (gs.map fun j => (j, 0)) i = some q ↔ _
    rw [iB]
    constructor
    · intro h
      split at h
      · rename_i hi
        cases h
        exact ⟨0, rfl, Nat.le_refl _, hi, .inl rfl⟩
      · cases h
    · rintro ⟨k, rfl, hk, hi, _⟩
      have : k = 0 := by omega
      subst this
      rw [if_pos (show i ∈ gs from hi)]
      rfl
  | m + 1, q => by
    have ih := fun q => eQ (i := i) (m := m) (q := q)
    have e : wo ps js who gs (m + 1) = wo ps js who gs m ++ (eu ps js who (aK ps js who gs m) js).map fun j => (j, ((m + 1 : Nat) : Int)) := by
      rw [nC]
      unfold cO
      rw [eL]
      rfl
    rw [e, lG, iB]
    by_cases hi : i ∈ aK ps js who gs m
    · cases h0 : look (wo ps js who gs m) i with
      | none => rw [fZ, eL] at h0; exact (h0 hi).elim
      | some q0 =>
        rw [Option.some_or, ← h0, ih q]
        constructor
        · rintro ⟨k, a, b, c, d⟩
          exact ⟨k, a, by omega, c, d⟩
        · rintro ⟨k, a, b, c, d⟩
          refine ⟨k, a, ?_, c, d⟩
          by_cases hk : k = m + 1
          · subst hk
            rcases d with d | d
            · omega
            · exact (d hi).elim
          · omega
    · have h0 : look (wo ps js who gs m) i = none := by rw [fZ, eL]; exact hi
      rw [h0, Option.none_or]
      constructor
      · intro h
        split at h
        · rename_i hn
          cases h
          exact ⟨m + 1, rfl, Nat.le_refl _, List.mem_append_right _ hn, .inr hi⟩
        · cases h
      · rintro ⟨k, rfl, b, c, d⟩
        have hk : k = m + 1 := by
          by_cases hk : k = m + 1
          · exact hk
          · exact (hi (jH c (by omega))).elim
        subst hk
        have c' : i ∈ aK ps js who gs m ++ eu ps js who (aK ps js who gs m) js := c
        rw [if_pos ((List.mem_append.mp c').elim (fun z => (hi z).elim) id)]
theorem ur {k : Nat} (h : eu ps js who (aK ps js who gs k) js = []) : ∀ d, aK ps js who gs (k + d) = aK ps js who gs k
  | 0 => rfl
  | d + 1 => by
    show aK ps js who gs (k + d) ++ eu ps js who (aK ps js who gs (k + d)) js = _
    rw [ur h d, h, List.append_nil]
theorem qt (ng : gs.Nodup) (hg : ∀ x ∈ gs, x ∈ js) (nj : js.Nodup) : ∀ m, jl js (wo ps js who gs m)
  | 0 => ⟨by rw [eL]; exact ng, fun x hx => by rw [eL] at hx; exact hg x hx⟩
  | m + 1 => by rw [nC]; exact (qt ng hg nj m).round nj
theorem sD (ng : gs.Nodup) (hg : ∀ x ∈ gs, x ∈ js) (nj : js.Nodup) {m : Nat} {i : Int} (h : i ∈ aK ps js who gs m) : i ∈ js := by
  have := (qt (ps := ps) (who := who) ng hg nj m).sub
  rw [eL] at this
  exact this i h
theorem AV (ng : gs.Nodup) (hg : ∀ x ∈ gs, x ∈ js) (nj : js.Nodup) (m : Nat) : (aK ps js who gs m).length ≤ js.length := by
  have := (qt (ps := ps) (who := who) ng hg nj m).len nj
  rw [← eL, List.length_map]
  exact this
theorem uo : ∀ m, (∀ k, k < m → eu ps js who (aK ps js who gs k) js ≠ []) → m + gs.length ≤ (aK ps js who gs m).length
  | 0, _ => by show 0 + gs.length ≤ gs.length; omega
  | m + 1, h => by
    have := uo m fun k hk => h k (by omega)
    have h1 := h m (by omega)
    have h2 := List.length_pos_iff.mpr h1
    show _ ≤ (aK ps js who gs m ++ eu ps js who (aK ps js who gs m) js).length
    rw [List.length_append]
    omega
theorem BE (ng : gs.Nodup) (hg : ∀ x ∈ gs, x ∈ js) (nj : js.Nodup) {n : Nat} (hn : js.length ≤ n) : eu ps js who (aK ps js who gs n) js = [] := by
  by_cases h : eu ps js who (aK ps js who gs n) js = []
  · exact h
  · have := uo (ps := ps) (js := js) (who := who) (gs := gs) (n + 1) fun k hk e => h (by
      have s := ur e (n - k)
      rw [show k + (n - k) = n by omega] at s
      rw [s]; exact e)
    have := AV (ps := ps) (who := who) ng hg nj (n + 1)
    omega
theorem gJ {α : Type} (p : α → Bool) : ∀ l : List α, (l.filter p).length = l.length ↔ ∀ x ∈ l, p x = true
  | [] => by simp
  | x :: l => by
    have ih := gJ p l
    have le := List.length_filter_le p l
    cases h : p x with
    | true => rw [List.filter_cons_of_pos h]; simp [ih, h]
    | false => rw [List.filter_cons_of_neg (by rw [h]; simp)]; simp [h]; omega
theorem nP {α : Type} (p : α → Bool) (l : List α) : 0 < (l.filter p).length ↔ ∃ x ∈ l, p x = true := by
  rw [List.length_pos_iff_exists_mem]
  simp [List.mem_filter]
theorem fE {kn : List Int} {i : Int} : ji ps js who kn i = true ↔ i ∉ kn ∧ (∃ g ∈ bt ps js i, g ∈ kn) ∧ (av ps i = who ∨ ∀ g ∈ bt ps js i, g ∈ kn) := by
  unfold ji lS
  rw [Bool.and_eq_true, Bool.and_eq_true, Bool.or_eq_true, decide_eq_true_iff, decide_eq_true_iff, decide_eq_true_iff, nP, gJ, Bool.not_eq_true', ← Bool.not_eq_true, aU]
  simp only [aU]
def rK (ps : List P4) (js : List Int) (who : Int) (gs : List Int) (i : Int) : Option Int := look (wo ps js who gs ps.length) i
structure sr (ps : List P4) (js : List Int) (who : Int) (gs : List Int) (rk : Int → Option Int) : Prop where
  nneg : ∀ i q, rk i = some q → 0 ≤ q
  sub : ∀ i q, rk i = some q → i ∈ js
  zero : ∀ i, rk i = some 0 ↔ i ∈ gs
  own : ∀ i q, rk i = some q → 0 < q → av ps i = who → ∃ g ∈ bt ps js i, rk g = some (q - 1)
  low : ∀ i q g t, rk i = some q → 0 < q → av ps i = who → g ∈ bt ps js i → rk g = some t → q - 1 ≤ t
  oth : ∀ i q, rk i = some q → 0 < q → av ps i ≠ who → (∃ g, g ∈ bt ps js i) ∧ ∀ g ∈ bt ps js i, ∃ t, rk g = some t ∧ t < q
  outO : ∀ i, i ∈ js → rk i = none → av ps i = who → ∀ g ∈ bt ps js i, rk g = none
  outX : ∀ i, i ∈ js → rk i = none → av ps i ≠ who → (∃ g, g ∈ bt ps js i) → ∃ g ∈ bt ps js i, rk g = none
theorem Dr (hn : js.length ≤ ps.length) {i q : Int} (h : rK ps js who gs i = some q) : q ≤ ps.length := by
  obtain ⟨k, rfl, b, _⟩ := eQ.mp h
  omega
theorem u5 (ng : gs.Nodup) (hg : ∀ x ∈ gs, x ∈ js) (nj : js.Nodup) (hn : js.length ≤ ps.length) : sr ps js who gs (rK ps js who gs) := by
  have ex : ∀ {i k}, i ∈ aK ps js who gs k → k ≤ ps.length → ∃ t : Nat, t ≤ k ∧ rK ps js who gs i = some (t : Int) := fun {i} => by
    intro k
    induction k with
    | zero => exact fun h _ => ⟨0, Nat.le_refl _, eQ.mpr ⟨0, rfl, by omega, h, .inl rfl⟩⟩
    | succ k ih =>
      intro h hk
      by_cases h1 : i ∈ aK ps js who gs k
      · obtain ⟨t, a, b⟩ := ih h1 (by omega)
        exact ⟨t, by omega, b⟩
      · exact ⟨k + 1, Nat.le_refl _, eQ.mpr ⟨k + 1, rfl, hk, h, .inr h1⟩⟩
  have nm : ∀ {i}, rK ps js who gs i = none ↔ i ∉ aK ps js who gs ps.length := fun {i} => by
    unfold rK; rw [fZ, eL]
  have fix := BE (ps := ps) (who := who) ng hg nj hn
  have new : ∀ {i k}, i ∈ aK ps js who gs (k + 1) → i ∉ aK ps js who gs k → ji ps js who (aK ps js who gs k) i = true := fun {i k} h1 h2 => by
    have h1' : i ∈ aK ps js who gs k ++ eu ps js who (aK ps js who gs k) js := h1
    rcases List.mem_append.mp h1' with z | z
    · exact (h2 z).elim
    · exact (List.mem_filter.mp z).2
  have not : ∀ {i k}, i ∈ js → i ∉ aK ps js who gs (k + 1) → ¬ ji ps js who (aK ps js who gs k) i = true := fun {i k} h1 h2 h3 =>
    h2 (show i ∈ aK ps js who gs k ++ eu ps js who (aK ps js who gs k) js from List.mem_append_right _ (List.mem_filter.mpr ⟨h1, h3⟩))
  have pos : ∀ {i q}, rK ps js who gs i = some q → 0 < q → ∃ k : Nat, q = ((k + 1 : Nat) : Int) ∧ k + 1 ≤ ps.length ∧ i ∈ aK ps js who gs (k + 1) ∧ i ∉ aK ps js who gs k := fun {i q} h hq => by
    obtain ⟨k, rfl, b, c, d⟩ := eQ.mp h
    cases k with
    | zero => omega
    | succ k =>
      rcases d with d | d
      · omega
      · exact ⟨k, rfl, b, c, d⟩
  refine ⟨fun i q h => ?_, fun i q h => ?_, fun i => ?_, fun i q h hq ho => ?_, fun i q g t h hq ho hg' ht => ?_, fun i q h hq ho => ?_, fun i hi h ho g hg' => ?_, fun i hi h ho hw => ?_⟩
  · obtain ⟨k, rfl, _⟩ := eQ.mp h; omega
  · obtain ⟨k, rfl, _, c, _⟩ := eQ.mp h; exact sD ng hg nj c
  · constructor
    · intro h
      obtain ⟨k, e, _, c, _⟩ := eQ.mp h
      have : k = 0 := by omega
      subst this
      exact c
    · exact fun h => eQ.mpr ⟨0, rfl, by omega, h, .inl rfl⟩
  · obtain ⟨k, rfl, b, c, d⟩ := pos h hq
    obtain ⟨_, ⟨g, hg1, hg2⟩, _⟩ := fE.mp (new c d)
    obtain ⟨t, ht, hr⟩ := ex hg2 (by omega)
    refine ⟨g, hg1, ?_⟩
    by_cases e : t = k
    · subst e; rw [hr]; congr 1; omega
    · exfalso
      cases k with
      | zero => omega
      | succ k =>
        obtain ⟨t', e', _, c', _⟩ := eQ.mp hr
        have e'' : t = t' := by omega
        subst e''
        exact not (sD ng hg nj c) d (fE.mpr ⟨fun z => d (jH z (by omega)), ⟨g, hg1, jH c' (by omega)⟩, .inl ho⟩)
  · obtain ⟨k, rfl, b, c, d⟩ := pos h hq
    obtain ⟨t', rfl, _, c', _⟩ := eQ.mp ht
    by_cases e : k ≤ t'
    · omega
    · exfalso
      cases k with
      | zero => omega
      | succ k => exact not (sD ng hg nj c) d (fE.mpr ⟨fun z => d (jH z (by omega)), ⟨g, hg', jH c' (by omega)⟩, .inl ho⟩)
  · obtain ⟨k, rfl, b, c, d⟩ := pos h hq
    obtain ⟨_, ⟨g, hg1, _⟩, o⟩ := fE.mp (new c d)
    refine ⟨⟨g, hg1⟩, fun g' hg' => ?_⟩
    obtain ⟨t, ht, hr⟩ := ex ((o.resolve_left ho) g' hg') (by omega)
    exact ⟨t, hr, by omega⟩
  · rw [nm] at h ⊢
    intro hz
    have : i ∈ eu ps js who (aK ps js who gs ps.length) js := List.mem_filter.mpr ⟨hi, fE.mpr ⟨h, ⟨g, hg', hz⟩, .inl ho⟩⟩
    rw [fix] at this
    cases this
  · rw [nm] at h
    by_cases hz : ∃ g ∈ bt ps js i, rK ps js who gs g = none
    · exact hz
    · exfalso
      have all : ∀ g ∈ bt ps js i, g ∈ aK ps js who gs ps.length := fun g hg' => by
        by_cases z : g ∈ aK ps js who gs ps.length
        · exact z
        · exact (hz ⟨g, hg', nm.mpr z⟩).elim
      obtain ⟨g, hg'⟩ := hw
      have : i ∈ eu ps js who (aK ps js who gs ps.length) js := List.mem_filter.mpr ⟨hi, fE.mpr ⟨h, ⟨g, hg', all g hg'⟩, .inr all⟩⟩
      rw [fix] at this
      cases this
end
abbrev ids (n : Nat) : List Int := (List.range n).map fun (k : Nat) => (k : Int)
theorem cT {n : Nat} {i : Int} : i ∈ ids n ↔ 0 ≤ i ∧ i < n := by
  constructor
  · intro h
    obtain ⟨k, hk, rfl⟩ := List.mem_map.mp h
    have := List.mem_range.mp hk
    omega
  · rintro ⟨h0, h1⟩
    exact List.mem_map.mpr ⟨i.toNat, List.mem_range.mpr (by omega), by omega⟩
theorem qu (n : Nat) : (ids n).length = n := by simp
theorem uQ {n k : Nat} (h : k < n) : (ids n)[k]? = some (k : Int) := by
  rw [List.getElem?_map, List.getElem?_range h]; rfl
theorem A2 (n : Nat) : (ids n).Pairwise (· < ·) := by
  rw [List.pairwise_map]
  exact (List.pairwise_lt_range).imp fun h => by omega
theorem yu {l : List Int} (h : l.Pairwise (· < ·)) : l.Nodup := h.imp fun h => by omega
def cF (f : Int → PyData) (n : Nat) : List PyData := (ids n).map f
theorem bA (f : Int → PyData) (n : Nat) : (cF f n).length = n := by unfold cF; rw [List.length_map, qu]
theorem fV {f : Int → PyData} {n : Nat} {i : Int} (h0 : 0 ≤ i) (h1 : i < n) : (cF f n)[i.toNat]'(by rw [bA]; omega) = f i := by
  have h := uQ (n := n) (k := i.toNat) (by omega)
  have : (cF f n)[i.toNat]? = some (f i) := by
    unfold cF
    rw [List.getElem?_map, h, Option.map_some]
    congr 2
    omega
  exact Option.some.inj ((List.getElem?_eq_getElem _).symm.trans this)
theorem qW {f : Int → PyData} {n : Nat} {i : Int} (h0 : 0 ≤ i) (h1 : i < n) : bU (.tuple (cF f n)) (.int i) = .ok (f i) := by
  rw [uG h0 (by rw [bA]; exact h1), fV h0 h1]
theorem xY {f : Int → PyData} {n : Nat} {i : Int} (h0 : 0 ≤ i) (h1 : i < n) : bU (.list (cF f n)) (.int i) = .ok (f i) := by
  rw [oS h0 (by rw [bA]; exact h1), fV h0 h1]
theorem cU {f g : Int → PyData} {n : Nat} (h : ∀ i : Int, 0 ≤ i → i < n → f i = g i) : cF f n = cF g n :=
  List.map_congr_left fun i hi => h i (cT.mp hi).1 (cT.mp hi).2
theorem mn {f : Int → PyData} {n : Nat} {i : Int} {v : PyData} (h0 : 0 ≤ i) (h1 : i < n) : (cF f n).set i.toNat v = cF (fun j => if j = i then v else f j) n := by
  refine List.ext_getElem (by rw [List.length_set, bA, bA]) fun k hk1 hk2 => ?_
  rw [bA] at hk2
  have e := fV (f := fun j => if j = i then v else f j) (n := n) (i := (k : Int)) (by omega) (by omega)
  have e2 := fV (f := f) (n := n) (i := (k : Int)) (by omega) (by omega)
  simp only [Int.toNat_natCast] at e e2
  rw [e, List.getElem_set]
  by_cases h : i.toNat = k
  · rw [if_pos h, if_pos (by omega)]
  · rw [if_neg h, if_neg (by omega), e2]
theorem ua (f : Int → PyData) (ρ : aI) (g : Fe) (n : Nat) (h : ∀ i : Int, 0 ≤ i → i < n → g (ρ.set 0 (.val (.int i))) = .ok (f i)) : bV (aP 0) (fun _ => .ok true) g ρ (bi 0 n) = .ok (cF f n) := by
  have := ib g ρ 0 (fun d => match d with | .int i => f i | d => d) (bi 0 n) fun d hd => by
    unfold bi at hd
    obtain ⟨k, hk, rfl⟩ := List.mem_map.mp hd
    have := List.mem_range.mp hk
    exact h _ (by omega) (by omega)
  rw [this]
  unfold cF
  rw [iP, List.map_map]
  rfl
def oD : Option Int → PyData
  | none => .none
  | some k => .int k
theorem vf (o : Option Int) : eW (oD o) .none = .ok (.bool o.isSome) := by cases o <;> rfl
theorem sY (o : Option Int) : kI (oD o) .none = .ok (.bool o.isNone) := by cases o <;> rfl
def yE (k m : Nat) : List Int := (List.range m).map fun (j : Nat) => ((k + j : Nat) : Int)
theorem ya (k m : Nat) : yE k (m + 1) = (k : Int) :: yE (k + 1) m := by
  unfold yE
  rw [List.range_succ_eq_map, List.map_cons, List.map_map]
  congr 1
  apply List.map_congr_left
  intro j _
  show ((k + (j + 1) : Nat) : Int) = ((k + 1 + j : Nat) : Int)
  omega
theorem zL (n : Nat) : yE 0 n = ids n := by
  unfold yE
  apply List.map_congr_left
  intro j _
  simp
theorem lH {t : aI → R Bool} {ρ : aI} {p : Int → Bool} {g : Int → PyData} : ∀ (m k : Nat), (∀ j : Nat, k ≤ j → j < k + m → t (.val (.int j) :: .val (g j) :: ρ) = .ok (p j)) →
    bV (fA 0 1) t (ad 0) (.non :: .non :: ρ) (fQ k ((yE k m).map g)) = .ok (((yE k m).filter p).map .int)
  | 0, k, _ => by unfold yE; simp [fQ, e9]
  | m + 1, k, h => by
    rw [ya, List.map_cons]
    have e : fQ k (g k :: (yE (k + 1) m).map g) = .tuple [.int k, g k] :: fQ (k + 1) ((yE (k + 1) m).map g) := rfl
    rw [e, mW, lH m (k + 1) fun j h1 h2 => h j (by omega) (by omega)]
    have hk := h k (Nat.le_refl _) (by omega)
    simp only [List.set_cons_zero, List.set_cons_succ, hk, R.ok_bind, ao]
    cases hp : p k with
    | true => rw [List.filter_cons_of_pos hp]; rfl
    | false => rw [List.filter_cons_of_neg (by rw [hp]; simp)]; rfl
theorem mK (t : aI → R Bool) (g : Fs) (n : Nat) (ρ : aI) : cw t g (n + 1) ρ = (t ρ >>= fun b => if b = true then g ρ >>= mP (cw t g n) else .ok (.nx ρ)) := by
  rw [cw]
  congr 1
def sh (s : PyData) (js : List Int) : Prop := s = .tuple (js.map .int) ∨ s = .list (js.map .int)
theorem sh.inn {s : PyData} {js : List Int} (h : sh s js) (neg : Bool) (k : Int) : iJ neg (.int k) s = .ok (.bool (if neg then !bL js k else bL js k)) := by
  rcases h with rfl | rfl
  · exact xO ..
  · exact xN ..
theorem sh.seq {s : PyData} {js : List Int} (h : sh s js) : iw s = .ok (js.map .int) := by
  rcases h with rfl | rfl <;> rfl
theorem sh.len {s : PyData} {js : List Int} (h : sh s js) : cQ s = .ok (.int js.length) := by
  rcases h with rfl | rfl <;> simp
theorem k4 {s t : PyData} {ns js : List Int} (hs : sh s ns) (ht : sh t js) (hl : ns.length ≤ 1000) : bc [s, t] = .ok (.tuple ((ns.filter (bL js)).map .int)) := by
  have hcmp := bO (t := tE (e2 (iJ false) (ad 0) (ad 1))) (ρ := [.val t]) (p := bL js) ns fun k hk => by simp [ht.inn]
  unfold bc nv
  refine eB ?_
  rw [show ([s, t].map aW.val ++ List.replicate (2 - [s, t].length) aW.non) = [.val s, .val t] from rfl]
  rw [dC, cz, bF, show aA 1 [1] [.val s, .val t] = [.non, .val t] from rfl]
  simp only [bZ, ao, R.ok_bind, hs.seq, cM]
  rw [if_pos (by rw [List.length_map]; exact ce hl), hcmp]
  rfl
theorem nc {s t : PyData} {ns js : List Int} (hs : sh s ns) (ht : sh t js) (hl : ns.length ≤ 1000) : bN [s, t] = .ok (.tuple ((ns.filter fun i => !bL js i).map .int)) := by
  have hcmp := bO (t := tE (e2 (iJ true) (ad 0) (ad 1))) (ρ := [.val t]) (p := fun i => !bL js i) ns fun k hk => by simp [ht.inn]
  unfold bN ly
  refine eB ?_
  rw [show ([s, t].map aW.val ++ List.replicate (2 - [s, t].length) aW.non) = [.val s, .val t] from rfl]
  rw [dC, cz, bF, show aA 1 [1] [.val s, .val t] = [.non, .val t] from rfl]
  simp only [bZ, ao, R.ok_bind, hs.seq, cM]
  rw [if_pos (by rw [List.length_map]; exact ce hl), hcmp]
  rfl
structure cC (n : Nat) (js : List Int) : Prop where
  lt : js.Pairwise (· < ·)
  inn : ∀ x ∈ js, 0 ≤ x ∧ x < n
theorem cC.nd {n : Nat} {js : List Int} (h : cC n js) : js.Nodup := yu h.lt
theorem cC.len {n : Nat} {js : List Int} (h : cC n js) : js.length ≤ n := by
  have := jT js 0 n h.lt h.inn
  rcases this with z | z
  · rw [z]; simp
  · omega
theorem cC.filter {n : Nat} {js : List Int} (h : cC n js) (p : Int → Bool) : cC n (js.filter p) := ⟨h.lt.filter _, fun x hx => h.inn x (List.mem_filter.mp hx).1⟩
theorem cC.ids (n : Nat) : cC n (ids n) := ⟨A2 n, fun x hx => cT.mp hx⟩
def iR (ps : List P4) (js : List Int) : Prop := ∀ i ∈ js, ∃ g, g ∈ bt ps js i
theorem pT {p : P4} {ws : List Int} {who : Int} {f : Int → Option Int} {n : Nat} (hw : ∀ g ∈ ws, 0 ≤ g ∧ g < n) (hl : ws.length ≤ 1000) :
    bE [p.d, .tuple (ws.map .int), .int who, .list (cF (fun i => oD (f i)) n)] = .ok (.bool (if p.w = who then decide (0 < (ws.filter fun g => (f g).isSome).length) else decide ((ws.filter fun g => (f g).isSome).length = ws.length))) := by
  have hcmp := bO (t := tE (e2 (eW) (e2 bU (ad 1) (ad 0)) (eC .none))) (ρ := [.val (.list (cF (fun i => oD (f i)) n))]) (p := fun g => (f g).isSome) ws fun k hk => by
    simp only [List.set_cons_zero, cf, bj, ao, aj, bH, R.ok_bind, xY (hw k hk).1 (hw k hk).2, vf, cq]
  unfold bE jp
  refine eB ?_
  rw [show ([p.d, .tuple (ws.map .int), .int who, .list (cF (fun i => oD (f i)) n)].map aW.val ++ List.replicate (5 - [p.d, .tuple (ws.map .int), .int who, .list (cF (fun i => oD (f i)) n)].length) aW.non) = [.val p.d, .val (.tuple (ws.map .int)), .val (.int who), .val (.list (cF (fun i => oD (f i)) n)), .non] from rfl]
  rw [aE (ρ' := [.val p.d, .val (.tuple (ws.map .int)), .val (.int who), .val (.list (cF (fun i => oD (f i)) n)), .val (.list ((ws.filter fun g => (f g).isSome).map .int))]) (by
    rw [bd, bF, show aA 1 [3] [.val p.d, .val (.tuple (ws.map .int)), .val (.int who), .val (.list (cF (fun i => oD (f i)) n)), .non] = [.non, .val (.list (cF (fun i => oD (f i)) n))] from rfl]
    simp only [bZ, ao, aj, R.ok_bind, gX, cM]
    rw [if_pos (by rw [List.length_map]; exact ce hl), hcmp]
    rfl)]
  by_cases h : p.w = who
  · rw [if_pos h]
    refine nA ?_
    simp only [cu, cf, bj, cz, ao, aj, bH, R.ok_bind, lx, fS, cq, h, decide_true, if_true, dC, tV, qc, List.length_map]
    congr 3
    simp
  · rw [if_neg h, aE (ρ' := [.val p.d, .val (.tuple (ws.map .int)), .val (.int who), .val (.list (cF (fun i => oD (f i)) n)), .val (.list ((ws.filter fun g => (f g).isSome).map .int))]) (by
      simp only [cu, cf, bj, cz, ao, aj, bH, R.ok_bind, lx, fS, cq, h, decide_false]; rfl)]
    simp only [dC, bj, cz, ao, aj, R.ok_bind, tV, lv, fS, List.length_map]
    congr 3
    exact decide_eq_decide.mpr (by omega)
theorem cC.some {n : Nat} {js : List Int} (h : cC n js) : cy [.tuple (js.map .int), .int n] = .ok (.bool true) := by
  rw [lN (d := .tuple (js.map .int)) n (fun ds e x hx => by
    cases e
    obtain ⟨i, _, rfl⟩ := List.mem_map.mp hx
    exact True.intro) True.intro]
  show R.ok (PyData.bool (iF n 0 (js.map .int))) = _
  rw [u9 n js 0 h.lt fun x hx => h.inn x hx]
theorem Au {c : Int} (h0 : 0 ≤ c) (h1 : c ≤ 1000) : oy [.int c] = .ok (bi 0 c.toNat) := by
  show (if -(2 ^ 62) ≤ c ∧ c < 2 ^ 62 then R.ok (bi 0 c.toNat) else .no) = _
  rw [if_pos (by omega)]
def uR : Fs := (aO (tm 6 (fun a b => a + b) (eC (.int 1))) (aO (bJ 8 (bR (dG (ad 1)) 1 [5] (aP 0) (tE (e2 (kI) (e2 bU (fu 1) (ad 0)) (eC .none))) (ad 0))) (aO (bJ 7 (bR (dG (ad 8)) 1 [0, 4, 2, 5] (aP 0) (tE (jS 4 (aD bE (ag (e2 bU (ad 1) (ad 0)) (ag (e2 bU (ad 2) (ad 0)) (ag (ad 3) (ag (ad 4) ay))))))) (ad 0))) (gu (iO (dG (ad 7)) (aP 9) (gy 5 (ad 9) (ad 6)))))))
abbrev kT (ps : List P4) (js : List Int) : PyData := .list (cF (fun i => .tuple ((bt ps js i).map .int)) ps.length)
abbrev xJ (kvs : List (Int × Int)) (n : Nat) : List PyData := cF (fun i => oD (look kvs i)) n
abbrev tR (ps : List P4) (s : PyData) (js : List Int) (who : Int) (g : PyData) (kvs : List (Int × Int)) (r : Int) (fs : List Int) (c8 c9 : aW) : aI :=
  [.val (gD ps), .val s, .val (.int who), .val g, .val (kT ps js), .own (.list (xJ kvs ps.length)), .val (.int r), .val (.list (fs.map .int)), c8, c9]
theorem wH {kvs : List (Int × Int)} {i r : Int} (h : i ∉ kvs.map (·.1)) (j : Int) : look (kvs ++ [(i, r)]) j = if j = i then some r else look kvs j := by
  rw [lG]
  by_cases e : j = i
  · subst e
    rw [if_pos rfl, fZ.mpr h, Option.none_or]
    unfold look
    simp
  · rw [if_neg e]
    have : look [(i, r)] j = none := by
      unfold look
      have : ¬ i = j := fun z => e z.symm
      simp [this]
    rw [this, Option.or_none]
theorem AI {ps : List P4} {s : PyData} {js : List Int} {who : Int} {g : PyData} {r : Int} {fs0 : List Int} {c8 : aW} : ∀ (fs : List Int) (kvs : List (Int × Int)) (c9 : aW), fs.Nodup → (∀ x ∈ fs, x ∉ kvs.map (·.1)) → (∀ x ∈ fs, 0 ≤ x ∧ x < ps.length) →
    ∃ c9', dP (aP 9) (gy 5 (ad 9) (ad 6)) (fs.map .int) (tR ps s js who g kvs r fs0 c8 c9) = .ok (.nx (tR ps s js who g (kvs ++ fs.map fun i => (i, r)) r fs0 c8 c9'))
  | [], kvs, c9, _, _, _ => ⟨c9, by rw [List.map_nil, dn]; simp⟩
  | i :: fs, kvs, c9, nd, hn, hb => by
    obtain ⟨n1, n2⟩ := List.nodup_cons.mp nd
    have hi := hb i List.mem_cons_self
    obtain ⟨c9', e⟩ := AI (ps := ps) (s := s) (js := js) (who := who) (g := g) (r := r) (fs0 := fs0) (c8 := c8) fs (kvs ++ [(i, r)]) (.val (.int i)) n2 (fun x hx => by
      rw [List.map_append, List.mem_append]
      rintro (z | z)
      · exact hn x (List.mem_cons_of_mem _ hx) z
      · simp at z
        subst z
        exact n1 hx) fun x hx => hb x (List.mem_cons_of_mem _ hx)
    refine ⟨c9', ?_⟩
    rw [List.map_cons, cW]
    rw [show ((tR ps s js who g kvs r fs0 c8 c9).set 9 (.val (.int i))) = tR ps s js who g kvs r fs0 c8 (.val (.int i)) from rfl]
    rw [ml (ds := xJ kvs ps.length) (n := i) (v := .int r) rfl rfl rfl hi.1 (by rw [bA]; exact hi.2), R.ok_bind, dh, mn hi.1 hi.2]
    rw [cU (g := fun j => oD (look (kvs ++ [(i, r)]) j)) fun j _ _ => by
      rw [wH (hn i List.mem_cons_self)]
      split <;> rfl]
    refine Eq.trans ?_ (e.trans (by simp))
    rfl
theorem nB {kvs : List (Int × Int)} {i : Int} : (look kvs i).isNone = !bL (kvs.map (·.1)) i := by
  cases h : bL (kvs.map (·.1)) i with
  | true =>
    cases h2 : look kvs i with
    | none => exact (fZ.mp h2 (aU.mp h)).elim
    | some q => rfl
  | false =>
    rw [fZ.mpr fun z => by rw [aU.mpr z] at h; cases h]
    rfl
theorem sG {kvs : List (Int × Int)} {i : Int} : (look kvs i).isSome = bL (kvs.map (·.1)) i := by
  have := nB (kvs := kvs) (i := i)
  cases h : look kvs i <;> rw [h] at this <;> cases h2 : bL (kvs.map (·.1)) i <;> rw [h2] at this <;> simp_all
theorem qS {ps : List P4} {js : List Int} {who : Int} {kn : List Int} {i : Int} (hw : ∃ g, g ∈ bt ps js i) :
    (!bL kn i && (if av ps i = who then decide (0 < (lS ps js kn i).length) else decide ((lS ps js kn i).length = (bt ps js i).length))) = ji ps js who kn i := by
  obtain ⟨g, hg⟩ := hw
  have hp := List.length_pos_of_mem hg
  unfold ji
  by_cases ho : av ps i = who
  · simp [ho]
  · by_cases he : (lS ps js kn i).length = (bt ps js i).length
    · simp [ho, he, hp]
    · simp [ho, he]
theorem wG {ps : List P4} (hl : ∀ p ∈ ps, p.ns.length ≤ 100) (hgo : ∀ p ∈ ps, ∀ x ∈ p.ns, 0 ≤ x ∧ x < ps.length) (hp : ps.length ≤ 24) {s : PyData} {js : List Int} (hs : sh s js) (hj : cC ps.length js) (hw : iR ps js) {who : Int} {g : PyData} {kvs : List (Int × Int)} {r : Int} {fs : List Int} (c8 c9 : aW) :
    ∃ c8' c9', uR (tR ps s js who g kvs r fs c8 c9) = .ok (.nx (tR ps s js who g (cO ps js who (r + 1) kvs) (r + 1) (eu ps js who (kvs.map (·.1)) js) c8' c9')) := by
  have hlen := hj.len
  have h1 := bO (t := tE (e2 (kI) (e2 bU (fu 1) (ad 0)) (eC .none))) (ρ := [.own (.list (xJ kvs ps.length))]) (p := fun i => !bL (kvs.map (·.1)) i) js fun k hk => by
    simp only [List.set_cons_zero, cf, bj, ao, pA, pk, bH, R.ok_bind, xY (hj.inn k hk).1 (hj.inn k hk).2, sY, cq, nB]
  have h2 := bO (t := tE (jS 4 (aD bE (ag (e2 bU (ad 1) (ad 0)) (ag (e2 bU (ad 2) (ad 0)) (ag (ad 3) (ag (ad 4) ay))))))) (ρ := [.val (gD ps), .val (kT ps js), .val (.int who), .own (.list (xJ kvs ps.length))])
    (p := ji ps js who (kvs.map (·.1))) (js.filter fun i => !bL (kvs.map (·.1)) i) fun k hk => by
    obtain ⟨hkj, hkn⟩ := List.mem_filter.mp hk
    have hb := hj.inn k hkj
    have hg := dt hb.1 hb.2
    have hwl : (bt ps js k).length ≤ 1000 := by
      refine Nat.le_trans (List.length_filter_le ..) ?_
      rw [hg]
      have := hl _ (List.getElem_mem (show k.toNat < ps.length by omega))
      omega
    have hwb : ∀ x ∈ bt ps js k, 0 ≤ x ∧ x < ps.length := fun x hx => by
      have := (List.mem_filter.mp hx).1
      rw [hg] at this
      exact hgo _ (List.getElem_mem _) x this
    have hf := pT (p := ps[k.toNat]'(by omega)) (who := who) (f := look kvs) hwb hwl
    have ho := fg hb.1 hb.2
    have hgk : ((bt ps js k).filter fun g => (look kvs g).isSome) = lS ps js (kvs.map (·.1)) k := by
      unfold lS
      congr 1
      funext g
      exact sG
    rw [hgk, ← ho] at hf
    have e4 : jS 4 (aD bE (ag (e2 bU (ad 1) (ad 0)) (ag (e2 bU (ad 2) (ad 0)) (ag (ad 3) (ag (ad 4) ay))))) [.val (.int k), .val (gD ps), .val (kT ps js), .val (.int who), .own (.list (xJ kvs ps.length))]
      = (km (aD bE (ag (e2 bU (ad 1) (ad 0)) (ag (e2 bU (ad 2) (ad 0)) (ag (ad 3) (ag (ad 4) ay)))) [.val (.int k), .val (gD ps), .val (kT ps js), .val (.int who), .val (.list (xJ kvs ps.length))]) >>= oE) := rfl
    have hc := qS (who := who) (kn := kvs.map (·.1)) (hw k hkj)
    rw [hkn, Bool.true_and] at hc
    rw [List.set_cons_zero, cf, e4, aN]
    simp only [aB, aH, bj, ao, aj, R.ok_bind, oC hb.1 hb.2, xY hb.1 hb.2]
    rw [hf, hc]
    rfl
  have hfil : (js.filter fun i => !bL (kvs.map (·.1)) i).filter (ji ps js who (kvs.map (·.1))) = eu ps js who (kvs.map (·.1)) js := by
    unfold eu
    rw [List.filter_filter]
    apply List.filter_congr
    intro x _
    unfold ji
    cases bL (kvs.map (·.1)) x <;> simp
  rw [hfil] at h2
  have hnew : cC ps.length (eu ps js who (kvs.map (·.1)) js) := hj.filter _
  obtain ⟨c9', e⟩ := AI (ps := ps) (s := s) (js := js) (who := who) (g := g) (r := r + 1) (fs0 := eu ps js who (kvs.map (·.1)) js) (c8 := .val (.list ((js.filter fun i => !bL (kvs.map (·.1)) i).map .int))) (eu ps js who (kvs.map (·.1)) js) kvs c9 hnew.nd (fun x hx => (mH hx).2) hnew.inn
  refine ⟨.val (.list ((js.filter fun i => !bL (kvs.map (·.1)) i).map .int)), c9', ?_⟩
  unfold uR
  rw [aE (ρ' := tR ps s js who g kvs (r + 1) fs c8 c9) (by simp only [zj, aj, ao, bH, R.ok_bind, CO]; rfl)]
  rw [aE (ρ' := tR ps s js who g kvs (r + 1) fs (.val (.list ((js.filter fun i => !bL (kvs.map (·.1)) i).map .int))) c9) (by
    rw [bd, bF, show aA 1 [5] (tR ps s js who g kvs (r + 1) fs c8 c9) = [.non, .own (.list (xJ kvs ps.length))] from rfl]
    simp only [bZ, aj, ao, R.ok_bind, hs.seq, cM]
    rw [if_pos (by rw [List.length_map]; exact ce (by omega)), h1]
    rfl)]
  rw [aE (ρ' := tR ps s js who g kvs (r + 1) (eu ps js who (kvs.map (·.1)) js) (.val (.list ((js.filter fun i => !bL (kvs.map (·.1)) i).map .int))) c9) (by
    rw [bd, bF, show aA 1 [0, 4, 2, 5] (tR ps s js who g kvs (r + 1) fs (.val (.list ((js.filter fun i => !bL (kvs.map (·.1)) i).map .int))) c9) = [.non, .val (gD ps), .val (kT ps js), .val (.int who), .own (.list (xJ kvs ps.length))] from rfl]
    simp only [bZ, aj, ao, R.ok_bind, iL, cM]
    rw [if_pos (by rw [List.length_map]; exact ce (Nat.le_trans (List.length_filter_le ..) (by omega))), h2]
    rfl)]
  rw [dU, dR, bZ, aj, aj, aj, aj, aj, aj, aj, ao, R.ok_bind, iL, R.ok_bind, e]
  rfl
theorem eM {ps : List P4} {js : List Int} {who : Int} {kvs : List (Int × Int)} (h : eu ps js who (kvs.map (·.1)) js = []) : ∀ (n : Nat) (r : Int), gA ps js who r n kvs = kvs
  | 0, r => rfl
  | n + 1, r => by
    show gA ps js who (r + 1) n (cO ps js who r kvs) = kvs
    have : cO ps js who r kvs = kvs := by unfold cO; rw [h]; simp
    rw [this, eM h n]
theorem Ap {ps : List P4} (hl : ∀ p ∈ ps, p.ns.length ≤ 100) (hgo : ∀ p ∈ ps, ∀ x ∈ p.ns, 0 ≤ x ∧ x < ps.length) (hp : ps.length ≤ 24) {s : PyData} {js : List Int} (hs : sh s js) (hj : cC ps.length js) (hw : iR ps js) {who : Int} {g : PyData} :
    ∀ (k n : Nat) (kvs : List (Int × Int)) (r : Int) (fs : List Int) (c8 c9 : aW), jl js kvs → js.length - kvs.length ≤ k → (fs = [] → eu ps js who (kvs.map (·.1)) js = []) → k + 3 ≤ n →
    ∃ K r' fs' c8' c9', cw (tE (e2 (fo rC) (e1 cQ (ad 7)) (eC (.int 0)))) uR n (tR ps s js who g kvs r fs c8 c9) = .ok (.nx (tR ps s js who g K r' fs' c8' c9')) ∧ ∀ N, k + 1 ≤ N → gA ps js who (r + 1) N kvs = K
  | k, 0, kvs, r, fs, c8, c9, _, _, _, h => by omega
  | k, n + 1, kvs, r, fs, c8, c9, hk, hm, hf, hn => by
    rw [mK]
    have ht : tE (e2 (fo rC) (e1 cQ (ad 7)) (eC (.int 0))) (tR ps s js who g kvs r fs c8 c9) = .ok (decide (0 < fs.length)) := by
      simp only [cf, bj, cz, aj, ao, bH, R.ok_bind, tV, qc, cq, List.length_map]
      congr 1
      simp
    rw [ht, R.ok_bind]
    by_cases h0 : fs = []
    · have hs0 := hf h0
      subst h0
      exact ⟨kvs, r, [], c8, c9, rfl, fun N _ => eM hs0 N _⟩
    · rw [if_pos (decide_eq_true (List.length_pos_iff.mpr h0))]
      obtain ⟨c8', c9', e⟩ := wG hl hgo hp hs hj hw (who := who) (g := g) (kvs := kvs) (r := r) (fs := fs) c8 c9
      rw [e, R.ok_bind, dh]
      by_cases h1 : eu ps js who (kvs.map (·.1)) js = []
      · have w1 : cO ps js who (r + 1) kvs = kvs := by unfold cO; rw [h1]; simp
        rw [h1, w1]
        refine ⟨kvs, r + 1, [], c8', c9', ?_, fun N _ => eM h1 N _⟩
        cases n with
        | zero => omega
        | succ n =>
          rw [mK]
          have ht2 : tE (e2 (fo rC) (e1 cQ (ad 7)) (eC (.int 0))) (tR ps s js who g kvs (r + 1) [] c8' c9') = .ok false := rfl
          rw [ht2, R.ok_bind]
          rfl
      · have hk' := hk.round (ps := ps) (who := who) (r := r + 1) hj.nd
        have hkl := hk'.len hj.nd
        have hgrow : kvs.length + 1 ≤ (cO ps js who (r + 1) kvs).length := by
          unfold cO
          rw [List.length_append, List.length_map]
          have := List.length_pos_iff.mpr h1
          omega
        obtain ⟨K, r', fs', d8, d9, w2, w3⟩ := Ap hl hgo hp hs hj hw (who := who) (g := g) (k - 1) n (cO ps js who (r + 1) kvs) (r + 1) (eu ps js who (kvs.map (·.1)) js) c8' c9' hk' (by omega) (fun z => (h1 z).elim) (by omega)
        refine ⟨K, r', fs', d8, d9, w2, fun N hN => ?_⟩
        cases N with
        | zero => omega
        | succ N => exact w3 N (by omega)
theorem lI {ps : List P4} (hl : ∀ p ∈ ps, p.ns.length ≤ 100) (hgo : ∀ p ∈ ps, ∀ x ∈ p.ns, 0 ≤ x ∧ x < ps.length) (hp : ps.length ≤ 24) {s g : PyData} {js gs : List Int} (hs : sh s js) (hsg : sh g gs) (hj : cC ps.length js) (hg : cC ps.length gs) (hsub : ∀ x ∈ gs, x ∈ js) (hw : iR ps js) {who : Int} :
    cP [gD ps, s, .int who, g] = .ok (.tuple (cF (fun i => oD (rK ps js who gs i)) ps.length)) := by
  have hlen := hj.len
  have hglen := hg.len
  have hgj : gs.length ≤ js.length := ls hg.nd hsub
  have hk0 : jl js (gs.map fun i => ((i, 0) : Int × Int)) := by
    have e : (gs.map fun i => ((i, 0) : Int × Int)).map (·.1) = gs := by rw [List.map_map]; exact List.map_id _
    exact ⟨by rw [e]; exact hg.nd, by rw [e]; exact hsub⟩
  have hk0e : (gs.map fun i => ((i, 0) : Int × Int)).map (·.1) = gs := by rw [List.map_map]; exact List.map_id _
  obtain ⟨K, r', fs', d8, d9, w2, w3⟩ := Ap hl hgo hp hs hj hw (who := who) (g := g) (js.length - gs.length) 1000000 (gs.map fun i => (i, 0)) 0 gs .non .non hk0 (by rw [List.length_map]; exact Nat.le_refl _) (fun z => by
    rw [hk0e, z]
    unfold eu
    rw [List.filter_eq_nil_iff]
    intro i _
    rw [fE]
    rintro ⟨_, ⟨g, _, hz⟩, _⟩
    cases hz) (by omega)
  have hK : K = wo ps js who gs ps.length := by
    by_cases h0 : gs = []
    · subst h0
      have hz : eu ps js who (([] : List (Int × Int)).map (·.1)) js = [] := by
        unfold eu
        rw [List.filter_eq_nil_iff]
        intro i _
        rw [fE]
        rintro ⟨_, ⟨g, _, hz⟩, _⟩
        cases hz
      have e4 := w3 (js.length - 0 + 1) (Nat.le_refl _)
      rw [List.map_nil, eM hz] at e4
      rw [← e4]
      unfold wo
      rw [List.map_nil, eM hz]
    · have := List.length_pos_iff.mpr h0
      have e4 := w3 ps.length (by omega)
      rw [← e4]
      rfl
  have hways : bV (aP 0) (fun _ => .ok true) (aD bc (ag (e2 bU (ad 0) (eC (.int 3))) (ag (ad 1) ay))) [.non, .val s] (ps.map P4.d) = .ok (cF (fun i => .tuple ((bt ps js i).map .int)) ps.length) := by
    have go : ∀ qs : List P4, (∀ p ∈ qs, p.ns.length ≤ 100) → bV (aP 0) (fun _ => .ok true) (aD bc (ag (e2 bU (ad 0) (eC (.int 3))) (ag (ad 1) ay))) [.non, .val s] (qs.map P4.d) = .ok (qs.map fun p => .tuple ((p.ns.filter (bL js)).map .int)) := by
      intro qs
      induction qs with
      | nil => exact fun _ => e9 ..
      | cons p qs ih =>
        intro h
        have hc := k4 (s := .tuple (p.ns.map .int)) (ns := p.ns) (.inl rfl) hs (by have := h p List.mem_cons_self; omega)
        rw [List.map_cons, ge, ih fun q hq => h q (List.mem_cons_of_mem _ hq)]
        simp only [R.ok_bind, if_true, List.set_cons_zero, aN, aB, aH, bj, ao, aj, bH, lA, hc]
        rfl
    rw [go ps hl]
    congr 1
    refine List.ext_getElem (by rw [List.length_map, bA]) fun k h1 h2 => ?_
    rw [bA] at h2
    have e := fV (f := fun i => .tuple ((bt ps js i).map .int)) (n := ps.length) (i := (k : Int)) (by omega) (by omega)
    simp only [Int.toNat_natCast] at e
    rw [e, List.getElem_map]
    unfold bt
    rw [dt (by omega) (by omega)]
    simp
  have hinit : bV (aP 0) (fun _ => .ok true) (AX (tE (e2 (iJ false) (ad 0) (ad 1))) (eC (.int 0)) (eC .none)) [.non, .val g] (bi 0 ps.length) = .ok (xJ (gs.map fun i => (i, 0)) ps.length) :=
    ua _ _ _ _ fun i h0 h1 => by
      simp only [List.set_cons_zero, wD, cf, bj, ao, aj, bH, R.ok_bind, hsg.inn, cq, iB]
      cases hm : bL gs i with
      | true => rw [if_pos (aU.mp hm)]; rfl
      | false => rw [if_neg (show ¬ i ∈ gs from fun z => by rw [aU.mpr z] at hm; cases hm)]; rfl
  have hr : oy [.int (ps.length : Int)] = .ok (bi 0 ps.length) := by
    rw [Au (by omega) (by omega), Int.toNat_natCast]
  have hlst : nI g = .ok (.list (gs.map .int)) := by rcases hsg with rfl | rfl <;> rfl
  unfold cP jV
  refine eB ?_
  rw [show ([gD ps, s, .int who, g].map aW.val ++ List.replicate (10 - [gD ps, s, .int who, g].length) aW.non) = [.val (gD ps), .val s, .val (.int who), .val g, .non, .non, .non, .non, .non, .non] from rfl]
  rw [aE (ρ' := [.val (gD ps), .val s, .val (.int who), .val g, .val (kT ps js), .non, .non, .non, .non, .non]) (by
    rw [bd, bF, show aA 1 [1] [.val (gD ps), .val s, .val (.int who), .val g, .non, .non, .non, .non, .non, .non] = [.non, .val s] from rfl]
    simp only [bZ, ao, R.ok_bind, gX, cM]
    rw [if_pos (by rw [List.length_map]; exact ce (by omega)), hways]
    rfl)]
  rw [aE (ρ' := [.val (gD ps), .val s, .val (.int who), .val g, .val (kT ps js), .own (.list (xJ (gs.map fun i => (i, 0)) ps.length)), .non, .non, .non, .non]) (by
    rw [kA, bF, show aA 1 [3] [.val (gD ps), .val s, .val (.int who), .val g, .val (kT ps js), .non, .non, .non, .non, .non] = [.non, .val g] from rfl]
    simp only [ln, aB, aH, cz, ao, R.ok_bind, lv, List.length_map, hr, cM]
    rw [if_pos (by rw [dB]; exact ce (by omega)), hinit]
    rfl)]
  rw [aE (ρ' := [.val (gD ps), .val s, .val (.int who), .val g, .val (kT ps js), .own (.list (xJ (gs.map fun i => (i, 0)) ps.length)), .val (.int 0), .non, .non, .non]) (by rfl)]
  rw [aE (ρ' := tR ps s js who g (gs.map fun i => (i, 0)) 0 gs .non .non) (by
    simp only [bd, cz, aj, ao, R.ok_bind, hlst]
    rfl)]
  rw [aE (ρ' := tR ps s js who g K r' fs' d8 d9) (by
    rw [dU]
    show km (cw (tE (e2 (fo rC) (e1 cQ (ad 7)) (eC (.int 0)))) uR 1000000 _) = _
    rw [w2]
    rfl)]
  rw [hK]
  rfl
def dQ (f : Int → Option Int) (n : Nat) : List Int := (ids n).filter fun i => (f i).isSome
theorem nu (f : Int → Option Int) (n : Nat) : cC n (dQ f n) := (cC.ids n).filter _
theorem eo {f : Int → Option Int} {n : Nat} {i : Int} : i ∈ dQ f n ↔ (0 ≤ i ∧ i < n) ∧ ∃ q, f i = some q := by
  unfold dQ
  rw [List.mem_filter, cT, Option.isSome_iff_exists]
abbrev oT (f : Int → Option Int) (n : Nat) : PyData := .tuple (cF (fun i => oD (f i)) n)
theorem lh {f : Int → Option Int} {n : Nat} (hn : n ≤ 1000) : cg [oT f n] = .ok (.tuple ((dQ f n).map .int)) := by
  have hc := lH (t := tE (e2 (eW) (ad 1) (eC .none))) (ρ := []) (p := fun i => (f i).isSome) (g := fun i => oD (f i)) n 0 fun j _ _ => by
    simp only [cf, bj, aj, ao, bH, R.ok_bind, vf, cq]
  rw [zL] at hc
  unfold cg nT
  refine eB ?_
  rw [show ([oT f n].map aW.val ++ List.replicate (1 - [oT f n].length) aW.non) = [.val (oT f n)] from rfl]
  rw [dC, cz, bF, show aA 2 [] [.val (oT f n)] = [.non, .non] from rfl]
  simp only [wC, ao, R.ok_bind, gX, cM]
  rw [if_pos (by rw [jI, bA]; exact ce hn)]
  rw [show fQ 0 (cF (fun i => oD (f i)) n) = fQ 0 ((ids n).map fun i => oD (f i)) from rfl, hc]
  rfl
theorem zt (o : Option Int) (k : Int) : iV (oD o) (.int k) = .ok (.bool (decide (o = some k))) := by
  cases o with
  | none => rfl
  | some q =>
    show iV (.int q) (.int k) = _
    rw [fS]
    congr 2
    simp
def gU (ps : List P4) (who : Int) (f : Int → Option Int) (i : Int) : Option Int := match f i with
  | some q => if av ps i = who ∧ 0 < q then ((aZ ps i).filter fun g => decide (f g = some (q - 1))).head? else none
  | none => none
def u0 : Fs := (hJ (gj (tE (e2 (iV) (e2 bU (e2 bU (ad 0) (ad 4)) (eC (.int 0))) (ad 1))) (tE (e2 (fo rC) (e2 bU (ad 2) (ad 4)) (eC (.int 0))))) (gy 3 (ad 4) (e2 bU (bR (dG (e2 bU (e2 bU (ad 0) (ad 4)) (eC (.int 3)))) 1 [2, 4] (aP 0) (tE (e2 (iV) (e2 bU (ad 1) (ad 0)) (e2 jK (e2 bU (ad 1) (ad 2)) (eC (.int 1))))) (ad 0)) (eC (.int 0)))) bB)
structure Gr (ps : List P4) : Prop where
  hl : ∀ p ∈ ps, p.ns.length ≤ 100
  hgo : ∀ p ∈ ps, ∀ x ∈ p.ns, 0 ≤ x ∧ x < ps.length
  hp : ps.length ≤ 24
  lt : ∀ p ∈ ps, p.ns.Pairwise (· < ·)
  ne : ∀ p ∈ ps, p.ns ≠ []
theorem Gr.goals {ps : List P4} (G : Gr ps) {i x : Int} (h : x ∈ aZ ps i) : 0 ≤ x ∧ x < ps.length := by
  unfold aZ at h
  cases e : ps[i.toNat]? with
  | none => rw [e] at h; cases h
  | some p => rw [e] at h; exact G.hgo p (List.mem_of_getElem? e) x h
theorem Gr.glen {ps : List P4} (G : Gr ps) (i : Int) : (aZ ps i).length ≤ 100 := by
  unfold aZ
  cases e : ps[i.toNat]? with
  | none => simp
  | some p => exact G.hl p (List.mem_of_getElem? e)
theorem xQ {ps : List P4} (G : Gr ps) {who : Int} {f : Int → Option Int} (hne : ∀ i q, f i = some q → 0 < q → av ps i = who → ∃ g ∈ aZ ps i, f g = some (q - 1)) : ∀ (is : List Int) (h : Int → PyData) (c4 : aW), is.Nodup → (∀ x ∈ is, (0 ≤ x ∧ x < ps.length) ∧ (∃ q, f x = some q) ∧ h x = .none) →
    ∃ c4', dP (aP 4) u0 (is.map .int) [.val (gD ps), .val (.int who), .val (oT f ps.length), .own (.list (cF h ps.length)), c4] = .ok (.nx [.val (gD ps), .val (.int who), .val (oT f ps.length), .own (.list (cF (fun j => if j ∈ is then oD (gU ps who f j) else h j) ps.length)), c4'])
  | [], h, c4, _, _ => ⟨c4, by rw [List.map_nil, dn]; simp⟩
  | i :: is, h, c4, nd, hb => by
    obtain ⟨n1, n2⟩ := List.nodup_cons.mp nd
    obtain ⟨hi, ⟨q, hq⟩, hh⟩ := hb i List.mem_cons_self
    have ho := fg hi.1 hi.2
    have hg := dt hi.1 hi.2
    obtain ⟨c4', e⟩ := xQ G hne is (fun j => if j = i then oD (gU ps who f i) else h j) (.val (.int i)) n2 (fun x hx => ⟨(hb x (List.mem_cons_of_mem _ hx)).1, (hb x (List.mem_cons_of_mem _ hx)).2.1, by
      have : x ≠ i := by rintro rfl; exact n1 hx
      show (if x = i then _ else h x) = _
      rw [if_neg this]
      exact (hb x (List.mem_cons_of_mem _ hx)).2.2⟩)
    refine ⟨c4', ?_⟩
    have fin : cF (fun j => if j ∈ is then oD (gU ps who f j) else (fun j => if j = i then oD (gU ps who f i) else h j) j) ps.length = cF (fun j => if j ∈ i :: is then oD (gU ps who f j) else h j) ps.length := cU fun j _ _ => by
      by_cases h1 : j = i
      · subst h1
        simp [n1]
      · by_cases h2 : j ∈ is <;> simp [h1, h2]
    rw [fin] at e
    rw [← e, List.map_cons, cW, show (([.val (gD ps), .val (.int who), .val (oT f ps.length), .own (.list (cF h ps.length)), c4] : aI).set 4 (.val (.int i))) = [.val (gD ps), .val (.int who), .val (oT f ps.length), .own (.list (cF h ps.length)), .val (.int i)] from rfl]
    have ht : (gj (tE (e2 (iV) (e2 bU (e2 bU (ad 0) (ad 4)) (eC (.int 0))) (ad 1))) (tE (e2 (fo rC) (e2 bU (ad 2) (ad 4)) (eC (.int 0))))) [.val (gD ps), .val (.int who), .val (oT f ps.length), .own (.list (cF h ps.length)), .val (.int i)] = .ok (decide (av ps i = who ∧ 0 < q)) := by
      have hrk : bU (oT f ps.length) (.int i) = .ok (.int q) := by rw [qW hi.1 hi.2, hq]; rfl
      simp only [nQ, cf, bj, ao, aj, bH, R.ok_bind, oC hi.1 hi.2, lx, fS, cq, hrk, qc]
      rw [← ho]
      by_cases h1 : av ps i = who
      · by_cases h2 : 0 < q <;> simp [h1, h2]
      · simp [h1]
    have hb1 : u0 [.val (gD ps), .val (.int who), .val (oT f ps.length), .own (.list (cF h ps.length)), .val (.int i)] = .ok (.nx [.val (gD ps), .val (.int who), .val (oT f ps.length), .own (.list (cF (fun j => if j = i then oD (gU ps who f i) else h j) ps.length)), .val (.int i)]) := by
      unfold u0
      rw [cu, ht, R.ok_bind]
      by_cases hc : av ps i = who ∧ 0 < q
      · rw [if_pos (decide_eq_true hc)]
        have hcmp := bO (t := tE (e2 (iV) (e2 bU (ad 1) (ad 0)) (e2 jK (e2 bU (ad 1) (ad 2)) (eC (.int 1))))) (ρ := [.val (oT f ps.length), .val (.int i)]) (p := fun g => decide (f g = some (q - 1))) (aZ ps i) fun k hk => by
          have hkb := G.goals hk
          have hrk : bU (oT f ps.length) (.int i) = .ok (.int q) := by rw [qW hi.1 hi.2, hq]; rfl
          simp only [List.set_cons_zero, cf, bj, ao, aj, bH, R.ok_bind, qW hkb.1 hkb.2, hrk, pI, zt, cq]
        obtain ⟨g, hg1, hg2⟩ := hne i q hq hc.2 hc.1
        have hm : gU ps who f i = ((aZ ps i).filter fun g => decide (f g = some (q - 1))).head? := by
          unfold gU
          rw [hq]
          exact if_pos hc
        have hmem : g ∈ (aZ ps i).filter fun g => decide (f g = some (q - 1)) := List.mem_filter.mpr ⟨hg1, decide_eq_true hg2⟩
        cases hL : (aZ ps i).filter fun g => decide (f g = some (q - 1)) with
        | nil => rw [hL] at hmem; cases hmem
        | cons v r =>
          rw [hL] at hm hcmp
          rw [ml (ds := cF h ps.length) (n := i) (v := .int v) rfl rfl ?_ hi.1 (by rw [bA]; exact hi.2), mn hi.1 hi.2, hm]
          · rfl
          · rw [bj, bF, show aA 1 [2, 4] [.val (gD ps), .val (.int who), .val (oT f ps.length), .own (.list (cF h ps.length)), .val (.int i)] = [.non, .val (oT f ps.length), .val (.int i)] from rfl]
            simp only [bZ, bj, ao, aj, bH, R.ok_bind, oC hi.1 hi.2, lA, gX, cM]
            rw [← hg, if_pos (by rw [List.length_map]; exact ce (by have := G.glen i; omega)), hcmp, Ai, R.ok_bind, oS (by omega) (by simp)]
            rfl
      · rw [if_neg (by rw [decide_eq_true_iff]; exact hc)]
        have hm : gU ps who f i = none := by
          unfold gU
          rw [hq]
          exact if_neg hc
        rw [qK, hm]
        congr 3
        rw [cU fun j _ _ => ?_]
        by_cases h1 : j = i
        · subst h1; rw [if_pos rfl, hh]; rfl
        · rw [if_neg h1]
    rw [hb1, R.ok_bind, dh]
theorem h9 {ps : List P4} (G : Gr ps) {who : Int} {f : Int → Option Int} (hne : ∀ i q, f i = some q → 0 < q → av ps i = who → ∃ g ∈ aZ ps i, f g = some (q - 1)) :
    bp [gD ps, .int who, oT f ps.length] = .ok (oT (gU ps who f) ps.length) := by
  have hp := G.hp
  have h0 : bV (aP 0) (fun _ => .ok true) (eC .none) [.non] (cF (fun i => oD (f i)) ps.length) = .ok (cF (fun _ => .none) ps.length) := by
    have := ib (eC .none) [.non] 0 (fun _ => .none) (cF (fun i => oD (f i)) ps.length) fun d _ => rfl
    rw [this]
    unfold cF
    rw [List.map_map]
    rfl
  obtain ⟨c4, e⟩ := xQ G hne (dQ f ps.length) (fun _ => .none) .non (nu f ps.length).nd fun x hx => ⟨(eo.mp hx).1, (eo.mp hx).2, rfl⟩
  have fin : cF (fun j => if j ∈ dQ f ps.length then oD (gU ps who f j) else .none) ps.length = cF (fun j => oD (gU ps who f j)) ps.length := cU fun j h1 h2 => by
    by_cases h : j ∈ dQ f ps.length
    · rw [if_pos h]
    · rw [if_neg h]
      have : f j = none := by
        cases hf : f j with
        | none => rfl
        | some q => exact (h (eo.mpr ⟨⟨h1, h2⟩, q, hf⟩)).elim
      unfold gU
      rw [this]
      rfl
  rw [fin] at e
  unfold bp fG
  refine eB ?_
  rw [show ([gD ps, .int who, oT f ps.length].map aW.val ++ List.replicate (5 - [gD ps, .int who, oT f ps.length].length) aW.non) = [.val (gD ps), .val (.int who), .val (oT f ps.length), .non, .non] from rfl]
  rw [aE (ρ' := [.val (gD ps), .val (.int who), .val (oT f ps.length), .own (.list (cF (fun _ => .none) ps.length)), .non]) (by
    rw [kA, bF, show aA 1 [] [.val (gD ps), .val (.int who), .val (oT f ps.length), .non, .non] = [.non] from rfl]
    simp only [bZ, ao, aj, R.ok_bind, gX, cM]
    rw [if_pos (by rw [bA]; exact ce (by omega)), h0]
    rfl)]
  rw [aE (ρ' := [.val (gD ps), .val (.int who), .val (oT f ps.length), .own (.list (cF (fun j => oD (gU ps who f j)) ps.length)), c4]) (by
    rw [dU, dR, bZ]
    simp only [aN, aB, aH, ao, aj, R.ok_bind, lh (show ps.length ≤ 1000 by omega), gX]
    unfold u0 at e
    rw [e]
    rfl)]
  rfl
theorem jY {ps : List P4} {js : List Int} {who : Int} {gs : List Int} {rk : Int → Option Int} (A : sr ps js who gs rk) : ∀ i q, rk i = some q → 0 < q → av ps i = who → ∃ g ∈ aZ ps i, rk g = some (q - 1) := fun i q h1 h2 h3 => by
  obtain ⟨g, hg, e⟩ := A.own i q h1 h2 h3
  exact ⟨g, (List.mem_filter.mp hg).1, e⟩
theorem yc {d : PyData} (hg : eA d) (hd : d.depth ≤ 60) : jR d d = .ok (.bool false) := by
  unfold jR
  rw [if_pos (by unfold pK; rw [hg]; simp; exact hd), PySem.SeqAt.eqv_refl d hg]
  rfl
def ue : List PyData → Prop := fun ds => ∀ x ∈ ds, eA x ∧ x.depth = 0
theorem ue.dep : ∀ {ds : List PyData}, ue ds → PyData.depthAll ds = 0
  | [], _ => by simp [PyData.depthAll]
  | d :: ds, h => by simp [PyData.depthAll, (h d List.mem_cons_self).2, ue.dep fun x hx => h x (List.mem_cons_of_mem _ hx)]
theorem ue.good {ds : List PyData} (h : ue ds) : eA (.tuple ds) := gg.mpr fun x hx => (h x hx).1
theorem um (o : Option Int) : eA (oD o) ∧ (oD o).depth = 0 := by
  cases o
  · exact ⟨oQ, by simp [oD, PyData.depth]⟩
  · exact ⟨nE _, by simp [oD, PyData.depth]⟩
theorem rQ (f : Int → Option Int) (n : Nat) : ue (cF (fun i => oD (f i)) n) := fun x hx => by
  obtain ⟨i, _, rfl⟩ := List.mem_map.mp hx
  exact um _
theorem vI (ns : List Int) : ue (ns.map .int) := fun x hx => by
  obtain ⟨i, _, rfl⟩ := List.mem_map.mp hx
  exact um (some i)
theorem pV (f : Int → Option Int) (n : Nat) : eA (oT f n) := (rQ f n).good
theorem mo (ns : List Int) : eA (.tuple (ns.map .int)) := (vI ns).good
theorem CH {ps : List P4} {hi : Int} (hp : ∀ p ∈ ps, Pl ps.length hi p) (h24 : (ps.length : Int) ≤ 24) : Gr ps :=
  ⟨fun p h => by have := (hp p h).len; omega, fun p h => (hp p h).inn, by omega, fun p h => (hp p h).so, fun p h => (hp p h).ne⟩
theorem Gr.gne {ps : List P4} (G : Gr ps) {i : Int} (h0 : 0 ≤ i) (h1 : i < ps.length) : ∃ g, g ∈ aZ ps i := by
  have := G.ne _ (List.getElem_mem (show i.toNat < ps.length by omega))
  rw [← dt h0 h1] at this
  exact List.exists_mem_of_ne_nil _ this
theorem vE {ps : List P4} (G : Gr ps) : iR ps (ids ps.length) := fun i hi => by
  obtain ⟨h0, h1⟩ := cT.mp hi
  obtain ⟨g, hg⟩ := G.gne h0 h1
  exact ⟨g, List.mem_filter.mpr ⟨hg, aU.mpr (cT.mpr (G.goals hg))⟩⟩
theorem qH {n : Nat} (h : n ≤ 1000) : B6 .tuple [.int (n : Int)] = .ok (.tuple ((ids n).map .int)) := by
  rw [Dm (by omega) (by omega), iP]
  rfl
def eO (js : List Int) (some : List Int) : List Int := js.filter fun i => !bL some i
theorem fY {js some : List Int} {i : Int} : i ∈ eO js some ↔ i ∈ js ∧ i ∉ some := by
  unfold eO
  rw [List.mem_filter, Bool.not_eq_true', ← Bool.not_eq_true, aU]
theorem lM {ps : List P4} (hp : ps.length ≤ 1000) : bC [gD ps] = .ok (.tuple (cF (fun _ => .none) ps.length)) := by
  have h0 : bV (aP 0) (fun _ => .ok true) (eC .none) [.non] (ps.map P4.d) = .ok (cF (fun _ => .none) ps.length) := by
    have := ib (eC .none) [.non] 0 (fun _ => .none) (ps.map P4.d) fun d _ => rfl
    rw [this]
    congr 1
    refine List.ext_getElem (by rw [List.length_map, List.length_map, bA]) fun k h1 h2 => ?_
    rw [bA] at h2
    have e := fV (f := fun _ => .none) (n := ps.length) (i := (k : Int)) (by omega) (by omega)
    simp only [Int.toNat_natCast] at e
    rw [e, List.getElem_map]
  unfold bC ke
  refine eB ?_
  rw [show ([gD ps].map aW.val ++ List.replicate (1 - [gD ps].length) aW.non) = [.val (gD ps)] from rfl]
  rw [dC, cz, bF, show aA 1 [] [.val (gD ps)] = [.non] from rfl]
  simp only [bZ, ao, R.ok_bind, gX, cM]
  rw [if_pos (by rw [List.length_map]; exact ce hp), h0]
  rfl
def bM (ps : List P4) (who : Int) (part : List Int) (i : Int) : Option Int := if i ∈ part ∧ av ps i = who then (bt ps part i).head? else none
def uy : Fs := (hJ (tE (e2 (iV) (e2 bU (e2 bU (ad 0) (ad 4)) (eC (.int 0))) (ad 1))) (gy 3 (ad 4) (e2 bU (aD bc (ag (e2 bU (e2 bU (ad 0) (ad 4)) (eC (.int 3))) (ag (ad 2) ay))) (eC (.int 0)))) bB)
theorem wL {ps : List P4} (G : Gr ps) {who : Int} {s : PyData} {part : List Int} (hs : sh s part) (hj : cC ps.length part) (hne : ∀ i ∈ part, av ps i = who → ∃ g, g ∈ bt ps part i) : ∀ (is : List Int) (h : Int → PyData) (c4 : aW), is.Nodup → (∀ x ∈ is, x ∈ part ∧ h x = .none) →
    ∃ c4', dP (aP 4) uy (is.map .int) [.val (gD ps), .val (.int who), .val s, .own (.list (cF h ps.length)), c4] = .ok (.nx [.val (gD ps), .val (.int who), .val s, .own (.list (cF (fun j => if j ∈ is then oD (bM ps who part j) else h j) ps.length)), c4'])
  | [], h, c4, _, _ => ⟨c4, by rw [List.map_nil, dn]; simp⟩
  | i :: is, h, c4, nd, hb => by
    obtain ⟨n1, n2⟩ := List.nodup_cons.mp nd
    obtain ⟨hip, hh⟩ := hb i List.mem_cons_self
    have hi := hj.inn i hip
    have ho := fg hi.1 hi.2
    have hg := dt hi.1 hi.2
    obtain ⟨c4', e⟩ := wL G hs hj hne is (fun j => if j = i then oD (bM ps who part i) else h j) (.val (.int i)) n2 (fun x hx => ⟨(hb x (List.mem_cons_of_mem _ hx)).1, by
      have : x ≠ i := by rintro rfl; exact n1 hx
      show (if x = i then _ else h x) = _
      rw [if_neg this]
      exact (hb x (List.mem_cons_of_mem _ hx)).2⟩)
    refine ⟨c4', ?_⟩
    have fin : cF (fun j => if j ∈ is then oD (bM ps who part j) else (fun j => if j = i then oD (bM ps who part i) else h j) j) ps.length = cF (fun j => if j ∈ i :: is then oD (bM ps who part j) else h j) ps.length := cU fun j _ _ => by
      by_cases h1 : j = i
      · subst h1
        simp [n1]
      · by_cases h2 : j ∈ is <;> simp [h1, h2]
    rw [fin] at e
    rw [← e, List.map_cons, cW, show (([.val (gD ps), .val (.int who), .val s, .own (.list (cF h ps.length)), c4] : aI).set 4 (.val (.int i))) = [.val (gD ps), .val (.int who), .val s, .own (.list (cF h ps.length)), .val (.int i)] from rfl]
    have ht : (tE (e2 (iV) (e2 bU (e2 bU (ad 0) (ad 4)) (eC (.int 0))) (ad 1))) [.val (gD ps), .val (.int who), .val s, .own (.list (cF h ps.length)), .val (.int i)] = .ok (decide (av ps i = who)) := by
      simp only [cf, bj, ao, aj, bH, R.ok_bind, oC hi.1 hi.2, lx, fS, cq]
      rw [← ho]
    have hb1 : uy [.val (gD ps), .val (.int who), .val s, .own (.list (cF h ps.length)), .val (.int i)] = .ok (.nx [.val (gD ps), .val (.int who), .val s, .own (.list (cF (fun j => if j = i then oD (bM ps who part i) else h j) ps.length)), .val (.int i)]) := by
      unfold uy
      rw [cu, ht, R.ok_bind]
      by_cases hc : av ps i = who
      · rw [if_pos (decide_eq_true hc)]
        have hcm := k4 (s := .tuple ((aZ ps i).map .int)) (ns := aZ ps i) (.inl rfl) hs (by have := G.glen i; omega)
        obtain ⟨g, hg1⟩ := hne i hip hc
        have hm : bM ps who part i = (bt ps part i).head? := if_pos ⟨hip, hc⟩
        have hw : (aZ ps i).filter (bL part) = bt ps part i := rfl
        rw [hw] at hcm
        cases hL : bt ps part i with
        | nil => rw [hL] at hg1; cases hg1
        | cons v r =>
          rw [hL] at hm hcm
          rw [ml (ds := cF h ps.length) (n := i) (v := .int v) rfl rfl ?_ hi.1 (by rw [bA]; exact hi.2), mn hi.1 hi.2, hm]
          · rfl
          · simp only [bj, aN, aB, aH, ao, aj, bH, R.ok_bind, oC hi.1 hi.2, lA]
            rw [← hg, hcm, R.ok_bind, uG (by omega) (by simp)]
            rfl
      · rw [if_neg (by rw [decide_eq_true_iff]; exact hc)]
        have hm : bM ps who part i = none := if_neg fun z => hc z.2
        rw [qK, hm]
        congr 3
        rw [cU fun j _ _ => ?_]
        by_cases h1 : j = i
        · subst h1; rw [if_pos rfl, hh]; rfl
        · rw [if_neg h1]
    rw [hb1, R.ok_bind, dh]
theorem hX {ps : List P4} (G : Gr ps) {who : Int} {s : PyData} {part : List Int} (hs : sh s part) (hj : cC ps.length part) (hne : ∀ i ∈ part, av ps i = who → ∃ g, g ∈ bt ps part i) :
    bo [gD ps, .int who, s] = .ok (oT (bM ps who part) ps.length) := by
  have hp := G.hp
  have hn := lM (ps := ps) (by omega)
  obtain ⟨c4, e⟩ := wL G hs hj hne part (fun _ => .none) .non hj.nd fun x hx => ⟨hx, rfl⟩
  have fin : cF (fun j => if j ∈ part then oD (bM ps who part j) else .none) ps.length = cF (fun j => oD (bM ps who part j)) ps.length := cU fun j h1 h2 => by
    by_cases h : j ∈ part
    · rw [if_pos h]
    · rw [if_neg h]
      have : bM ps who part j = none := if_neg fun z => h z.1
      rw [this]
      rfl
  rw [fin] at e
  unfold bo fK
  refine eB ?_
  rw [show ([gD ps, .int who, s].map aW.val ++ List.replicate (5 - [gD ps, .int who, s].length) aW.non) = [.val (gD ps), .val (.int who), .val s, .non, .non] from rfl]
  rw [aE (ρ' := [.val (gD ps), .val (.int who), .val s, .own (.list (cF (fun _ => .none) ps.length)), .non]) (by
    simp only [kA, cz, aN, aB, aH, ao, R.ok_bind, hn, z0]
    rfl)]
  rw [aE (ρ' := [.val (gD ps), .val (.int who), .val s, .own (.list (cF (fun j => oD (bM ps who part j)) ps.length)), c4]) (by
    rw [dU, dR, bZ]
    simp only [ao, aj, R.ok_bind, hs.seq]
    unfold uy at e
    rw [e]
    rfl)]
  rfl
theorem Ao (ns : List Int) (i : Int) (neg : Bool) : iJ neg (.int i) (.tuple (ns.map .int)) = .ok (.bool (if neg then !(ns.any fun j => decide (j = i)) else ns.any fun j => decide (j = i))) := xO ns i neg
def Bj (ns : List Int) : PyData → Bool
  | .none => true
  | .int i => ns.any fun j => decide (j = i)
  | _ => false
def nh (ps : List P4) : PyData → Bool
  | .tuple ds => decide (ds.length = ps.length) && (ds.zip ps).all fun q => Bj q.2.ns q.1
  | _ => false
theorem wj {ps : List P4} {f : Int → Option Int} (h : ∀ i g, f i = some g → g ∈ aZ ps i) : nh ps (oT f ps.length) = true := by
  show (decide _ && _) = true
  rw [decide_eq_true (bA ..), Bool.true_and, List.all_eq_true]
  intro q hq
  obtain ⟨k, hk, e⟩ := List.mem_iff_getElem.mp hq
  rw [List.length_zip, bA, Nat.min_self] at hk
  rw [List.getElem_zip] at e
  have e2 := fV (f := fun i => oD (f i)) (n := ps.length) (i := (k : Int)) (by omega) (by omega)
  simp only [Int.toNat_natCast] at e2
  rw [e2] at e
  subst e
  cases hf : f (k : Int) with
  | none => rfl
  | some g =>
    have := h _ _ hf
    rw [dt (by omega) (by omega)] at this
    simp only [Int.toNat_natCast] at this
    exact aU.mpr this
theorem o4 (s t : PyData) : ∀ (ds : List PyData) (ps : List P4) (x y : aW), (∀ d ∈ ds, eA d) → ∃ ρ,
    dP (fA 2 3) (aO (hJ (hZ (tE (e1 (du .bool) (ad 2))) (gj (tE (e2 (eW) (ad 2) (eC .none))) (ej (tE (e1 (du .int) (ad 2)))))) (bG (eC (.bool false))) bB) (hJ (gj (tE (e2 (eW) (ad 2) (eC .none))) (tE (e2 (iJ true) (ad 2) (e2 bU (ad 3) (eC (.int 3)))))) (bG (eC (.bool false))) bB)) (jo ds (ps.map P4.d)) [.val s, .val t, x, y]
      = if ((ds.zip ps).all fun q => Bj q.2.ns q.1) = true then .ok (.nx ρ) else .ok (.rt (.bool false))
  | [], ps, x, y, _ => ⟨[.val s, .val t, x, y], by unfold jo; simp⟩
  | d :: ds, [], x, y, _ => ⟨[.val s, .val t, x, y], by unfold jo; simp⟩
  | d :: ds, p :: ps, x, y, h => by
    have hg := h d List.mem_cons_self
    obtain ⟨ρ, e1⟩ := o4 s t ds ps (.val d) (.val p.d) fun z hz => h z (List.mem_cons_of_mem _ hz)
    refine ⟨ρ, ?_⟩
    have e : jo (d :: ds) ((p :: ps).map P4.d) = .tuple [d, p.d] :: jo ds (ps.map P4.d) := rfl
    rw [e, vi, List.zip_cons_cons, List.all_cons]
    cases d with
    | none =>
      rw [show Bj p.ns .none = true from rfl, Bool.true_and, ← e1]
      simp [du, wx, eW, eD]
    | int i =>
      cases hm : (p.ns.any fun j => decide (j = i)) with
      | true =>
        rw [show Bj p.ns (.int i) = true from hm, Bool.true_and, ← e1]
        simp [du, wx, eW, eD, lA, Ao, hm]
      | false =>
        rw [show Bj p.ns (.int i) = false from hm, Bool.false_and]
        simp [du, wx, eW, eD, lA, Ao, hm]
    | dict k => exact hg.noD.elim
    | _ =>
      rw [show Bj p.ns _ = false from rfl, Bool.false_and]
      simp [du, wx, eW, eD]
theorem n8 {d : PyData} (hg : eA d) {ps : List P4} : bq [d, gD ps] = .ok (.bool (nh ps d)) := by
  unfold bq e8
  rw [eT]
  cases d with
  | tuple ds =>
    have h := gg.mp hg
    by_cases hq : ds.length = ps.length
    · obtain ⟨ρ, e⟩ := o4 (.tuple ds) (gD ps) ds ps .non .non h
      simp [du, wx, oM, hq, dR, List.replicate]
      rw [e]
      cases hb : ((ds.zip ps).all fun q => Bj q.2.ns q.1) <;> simp [nh, hq, hb]
    · have hq' : ¬ ((ds.length : Int) = (ps.length : Int)) := by omega
      simp [du, wx, oM, hq', hq, nh]
  | dict k => exact hg.noD.elim
  | _ => simp [du, wx, nh]
def Bu : Option Int → PyData
  | some i => .int i
  | none => .none
abbrev mD (mv : List (Option Int)) : PyData := .tuple (mv.map Bu)
def ka (mv : List (Option Int)) (i : Int) : Option Int := (mv[i.toNat]?).getD none
theorem CZ {mv : List (Option Int)} {i : Int} (h0 : 0 ≤ i) (h1 : i < mv.length) : bU (mD mv) (.int i) = .ok (Bu (ka mv i)) := by
  rw [uG h0 (by simpa using h1)]
  unfold ka
  rw [List.getElem?_eq_getElem (by omega)]
  simp
def cD (ps : List P4) (who : Int) (mv : List (Option Int)) (i : Int) : List Int := if av ps i = who then (ka mv i).toList else aZ ps i
theorem qa {ps : List P4} {mv : List (Option Int)} {who i : Int} (h0 : 0 ≤ i) (h1 : i < ps.length) (hm : mv.length = ps.length) : a6 [gD ps, .int who, mD mv, .int i] = .ok (.list ((cD ps who mv i).map .int)) := by
  have ho := fg h0 h1
  have hg := dt h0 h1
  have hix := oC h0 h1
  have hmx := CZ (mv := mv) h0 (by omega)
  unfold a6 jZ
  refine eB ?_
  rw [show ([gD ps, .int who, mD mv, .int i].map aW.val ++ List.replicate (4 - [gD ps, .int who, mD mv, .int i].length) aW.non) = [.val (gD ps), .val (.int who), .val (mD mv), .val (.int i)] from rfl]
  unfold cD
  have s1 : (1 : Nat) ≤ sizeLine := by decide
  by_cases hw : av ps i = who
  · rw [if_pos hw]
    refine nA ?_
    rw [cu]
    simp only [cf, bj, ao, aj, bH, R.ok_bind, hix, lx, fS, cq]
    rw [← ho, if_pos (decide_eq_true hw), dC, bF]
    simp only [bZ, kP, aB, aH, bj, ao, aj, R.ok_bind, hmx, List.length_cons, List.length_nil]
    rw [if_pos s1]
    simp only [R.ok_bind, iL, cM, List.length_cons, List.length_nil]
    rw [if_pos s1, ge, e9]
    cases hq : ka mv i with
    | none => rfl
    | some j => rfl
  · rw [if_neg hw]
    rw [aE (ρ' := [.val (gD ps), .val (.int who), .val (mD mv), .val (.int i)]) (by
      rw [cu]
      simp only [cf, bj, ao, aj, bH, R.ok_bind, hix, lx, fS, cq]
      rw [← ho, if_neg (by simpa using hw)]
      rfl)]
    simp only [dC, cz, bj, ao, aj, bH, R.ok_bind, hix, lA, hg]
    rfl
def kQ (ps : List P4) (who : Int) (mv : List (Option Int)) (qs : List Int) (i : Int) : Bool := !decide (cD ps who mv i = []) && decide ((cD ps who mv i).filter (fun j => !bL qs j) = [])
def u4 : Fs := (aO (bJ 5 (aD a6 (ag (ad 0) (ag (ad 1) (ag (ad 2) (ag (ad 4) ay)))))) (hJ (hZ (tE (e2 (iV) (ad 5) (gr ay))) (tE (e2 (jR) (bR (dG (ad 5)) 1 [3] (aP 0) (tE (e2 (iJ true) (ad 0) (ad 1))) (ad 0)) (gr ay)))) (bG (eC (.bool false))) bB))
theorem jA {ps : List P4} (hl : ∀ p ∈ ps, p.ns.length ≤ 100) {mv : List (Option Int)} {who i : Int} (h0 : 0 ≤ i) (h1 : i < ps.length) : (cD ps who mv i).length ≤ 100 := by
  unfold cD
  split
  · cases ka mv i <;> simp
  · rw [dt h0 h1]; exact hl _ (List.getElem_mem _)
theorem xm {ps : List P4} (hl : ∀ p ∈ ps, p.ns.length ≤ 100) {mv : List (Option Int)} {who i : Int} (h0 : 0 ≤ i) (h1 : i < ps.length) (hm : mv.length = ps.length) {qs : List Int} (c5 : aW) :
    u4 [.val (gD ps), .val (.int who), .val (mD mv), .val (.list (qs.map .int)), .val (.int i), c5] = if kQ ps who mv qs i = true then .ok (.nx [.val (gD ps), .val (.int who), .val (mD mv), .val (.list (qs.map .int)), .val (.int i), .val (.list ((cD ps who mv i).map .int))]) else .ok (.rt (.bool false)) := by
  have hw := qa (who := who) h0 h1 hm
  have hwl := jA hl (mv := mv) (who := who) h0 h1
  have hcmp := bO (t := tE (e2 (iJ true) (ad 0) (ad 1))) (ρ := [.val (.list (qs.map .int))]) (p := fun j => !bL qs j) (cD ps who mv i) fun k hk => by simp [xN]
  have n0 := Cb (cD ps who mv i) []
  have n1 := xZ ((cD ps who mv i).filter fun j => !bL qs j) []
  simp only [List.map_nil] at n0 n1
  have s0 : ([] : List PyData).length ≤ sizeLine := Nat.zero_le _
  unfold u4
  rw [aE (ρ' := [.val (gD ps), .val (.int who), .val (mD mv), .val (.list (qs.map .int)), .val (.int i), .val (.list ((cD ps who mv i).map .int))]) (by simp [hw])]
  have ec : bR (dG (ad 5)) 1 [3] (aP 0) (tE (e2 (iJ true) (ad 0) (ad 1))) (ad 0) [.val (gD ps), .val (.int who), .val (mD mv), .val (.list (qs.map .int)), .val (.int i), .val (.list ((cD ps who mv i).map .int))] = .ok (.list (((cD ps who mv i).filter fun j => !bL qs j).map .int)) := by
    rw [bF]
    simp only [bZ, aj, ao, R.ok_bind, iL, cM]
    rw [if_pos (by rw [List.length_map]; exact ce (by omega))]
    rw [show aA 1 [3] [.val (gD ps), .val (.int who), .val (mD mv), .val (.list (qs.map .int)), .val (.int i), .val (.list ((cD ps who mv i).map .int))] = [.non, .val (.list (qs.map .int))] from rfl, hcmp]
    rfl
  rw [cu, jv]
  simp only [cf, bj, aj, ao, kP, aH, R.ok_bind, ec, List.length_nil]
  rw [if_pos (Nat.zero_le _)]
  simp only [R.ok_bind, n0, n1, cq]
  unfold kQ
  by_cases ha : cD ps who mv i = []
  · rw [decide_eq_true ha]; rfl
  · rw [decide_eq_false ha]
    by_cases hb : ((cD ps who mv i).filter fun j => !bL qs j) = []
    · rw [decide_eq_true hb]; rfl
    · rw [decide_eq_false hb]; rfl
theorem xL {ps : List P4} (hl : ∀ p ∈ ps, p.ns.length ≤ 100) {mv : List (Option Int)} {who : Int} (hm : mv.length = ps.length) {qs : List Int} : ∀ (is : List Int) (c4 c5 : aW), (∀ x ∈ is, 0 ≤ x ∧ x < ps.length) →
    ∃ ρ, dP (aP 4) u4 (is.map .int) [.val (gD ps), .val (.int who), .val (mD mv), .val (.list (qs.map .int)), c4, c5] = if is.all (kQ ps who mv qs) = true then .ok (.nx ρ) else .ok (.rt (.bool false))
  | [], c4, c5, _ => ⟨_, by rw [List.map_nil, dn]; rfl⟩
  | i :: is, c4, c5, hb => by
    have hi := hb i List.mem_cons_self
    obtain ⟨ρ, e⟩ := xL hl hm (who := who) (qs := qs) is (.val (.int i)) (.val (.list ((cD ps who mv i).map .int))) fun x hx => hb x (List.mem_cons_of_mem _ hx)
    refine ⟨ρ, ?_⟩
    rw [List.map_cons, cW]
    rw [show (([.val (gD ps), .val (.int who), .val (mD mv), .val (.list (qs.map .int)), c4, c5] : aI).set 4 (.val (.int i))) = [.val (gD ps), .val (.int who), .val (mD mv), .val (.list (qs.map .int)), .val (.int i), c5] from rfl, xm hl hi.1 hi.2 hm]
    rw [List.all_cons]
    cases hk : kQ ps who mv qs i with
    | true =>
      rw [if_pos rfl, R.ok_bind, dh, e]
      rfl
    | false => rfl
theorem oF {ps : List P4} (hl : ∀ p ∈ ps, p.ns.length ≤ 100) {mv : List (Option Int)} {who : Int} (hm : mv.length = ps.length) {qs : List Int} (hq : ∀ x ∈ qs, 0 ≤ x ∧ x < ps.length) : ca [gD ps, .int who, mD mv, .list (qs.map .int)] = .ok (.bool (qs.all (kQ ps who mv qs))) := by
  obtain ⟨ρ, e⟩ := xL hl hm (who := who) (qs := qs) qs .non .non hq
  unfold ca ir
  refine eB ?_
  rw [show ([gD ps, .int who, mD mv, .list (qs.map .int)].map aW.val ++ List.replicate (6 - [gD ps, .int who, mD mv, .list (qs.map .int)].length) aW.non) = [.val (gD ps), .val (.int who), .val (mD mv), .val (.list (qs.map .int)), .non, .non] from rfl]
  unfold u4 at e
  have e' : (gu (iO (dG (ad 3)) (aP 4) (aO (bJ 5 (aD a6 (ag (ad 0) (ag (ad 1) (ag (ad 2) (ag (ad 4) ay)))))) (hJ (hZ (tE (e2 (iV) (ad 5) (gr ay))) (tE (e2 (jR) (bR (dG (ad 5)) 1 [3] (aP 0) (tE (e2 (iJ true) (ad 0) (ad 1))) (ad 0)) (gr ay)))) (bG (eC (.bool false))) bB)))) [.val (gD ps), .val (.int who), .val (mD mv), .val (.list (qs.map .int)), .non, .non] = if qs.all (kQ ps who mv qs) = true then .ok (.nx ρ) else .ok (.rt (.bool false)) := by
    rw [dU, dR, bZ, aj, aj, aj, ao, R.ok_bind, iL, R.ok_bind, e]
    split <;> rfl
  cases hk : qs.all (kQ ps who mv qs) with
  | true =>
    rw [hk, if_pos rfl] at e'
    rw [aE e']
    rfl
  | false =>
    rw [hk, if_neg (by simp)] at e'
    exact nA e'
theorem Ak (o : Option Int) : Bu o = oD o := by cases o <;> rfl
abbrev xa (f : Int → Option Int) (n : Nat) : List (Option Int) := (ids n).map f
theorem uY (f : Int → Option Int) (n : Nat) : oT f n = mD (xa f n) := by
  show PyData.tuple _ = PyData.tuple _
  congr 1
  unfold cF xa
  rw [List.map_map (f := f)]
  apply List.map_congr_left
  intro i _
  exact (Ak _).symm
theorem mh (f : Int → Option Int) (n : Nat) : (xa f n).length = n := by simp
theorem sK {f : Int → Option Int} {n : Nat} {i : Int} (h0 : 0 ≤ i) (h1 : i < n) : ka (xa f n) i = f i := by
  unfold ka
  rw [List.getElem?_map, uQ (show i.toNat < n by omega)]
  show f _ = f i
  congr 1
  omega
theorem wt {ps : List P4} {who : Int} {f : Int → Option Int} {i : Int} (h0 : 0 ≤ i) (h1 : i < ps.length) : cD ps who (xa f ps.length) i = if av ps i = who then (f i).toList else aZ ps i := by
  unfold cD
  rw [sK h0 h1]
theorem Aj (x : PyData) (xs : List PyData) : B5 (.list (x :: xs)) (some 1) none = .ok (.list xs) := by
  show R.ok (PyData.list (D2.qN (x :: xs) (some 1) none)) = _
  unfold D2.qN
  have h1 : HT.sIx (x :: xs).length 0 (some 1) = 1 := by
    unfold HT.sIx
    simp
  have h2 : HT.sIx (x :: xs).length (x :: xs).length none = (x :: xs).length := by
    unfold HT.sIx
    simp
  rw [h1, h2]
  simp
inductive xS (W : Int → List Int) (al : List Int) (s : Int) : Int → Prop
  | one {x : Int} : x ∈ W s → x ∈ al → xS W al s x
  | more {x y : Int} : xS W al s x → y ∈ W x → y ∈ al → xS W al s y
def ve : Fs := (aO (bJ 7 (e2 bU (ad 6) (eC (.int 0)))) (aO (bJ 6 (CM (ad 6) (rD (eC (.int 1))) rA)) (hJ (gj (tE (e2 (iJ false) (ad 7) (ad 4))) (tE (e2 (iJ true) (ad 7) (fu 5)))) (aO (fT 5 (ad 7)) (bJ 6 (e2 ez (ad 6) (aD a6 (ag (ad 0) (ag (ad 1) (ag (ad 2) (ag (ad 7) ay)))))))) bB)))
abbrev mR (ps : List P4) (who : Int) (mv : List (Option Int)) (st : Int) (al found todo : List Int) (c7 : aW) : aI :=
  [.val (gD ps), .val (.int who), .val (mD mv), .val (.int st), .val (.list (al.map .int)), .own (.list (found.map .int)), .val (.list (todo.map .int)), c7]
theorem zX (x : Int) (xs : List Int) : bU (.list ((x :: xs).map .int)) (.int 0) = .ok (.int x) := by
  rw [oS (by omega) (by simp)]
  rfl
theorem wQ {ps : List P4} (hl : ∀ p ∈ ps, p.ns.length ≤ 100) {mv : List (Option Int)} {who : Int} (hm : mv.length = ps.length) {st : Int} {al found todo : List Int} {x : Int} (h0 : x ∈ al → 0 ≤ x ∧ x < ps.length) (hf : found.length ≤ 1000) (ht : todo.length ≤ 1000000) (c7 : aW) :
    ve (mR ps who mv st al found (x :: todo) c7) = .ok (.nx (if x ∈ al ∧ x ∉ found then mR ps who mv st al (found ++ [x]) (todo ++ cD ps who mv x) (.val (.int x)) else mR ps who mv st al found todo (.val (.int x)))) := by
  unfold ve
  rw [aE (ρ' := mR ps who mv st al found (x :: todo) (.val (.int x))) (by
    rw [bd, bj, aj, aj, aj, aj, aj, aj, ao, R.ok_bind, bH, R.ok_bind, zX]
    rfl)]
  rw [aE (ρ' := mR ps who mv st al found todo (.val (.int x))) (by
    rw [bd, BH, aj, aj, aj, aj, aj, aj, ao, R.ok_bind, x6, bH, R.ok_bind, Cw, R.ok_bind, R.ok_bind, yl, R.ok_bind, List.map_cons, Aj]
    rfl)]
  have htest : (gj (tE (e2 (iJ false) (ad 7) (ad 4))) (tE (e2 (iJ true) (ad 7) (fu 5)))) (mR ps who mv st al found todo (.val (.int x))) = .ok (bL al x && !bL found x) := by
    simp only [nQ, cf, bj, aj, ao, pA, pk, R.ok_bind, xN, cq]
    cases bL al x <;> rfl
  rw [cu, htest, R.ok_bind]
  by_cases hx : x ∈ al ∧ x ∉ found
  · have hb : (bL al x && !bL found x) = true := by
      rw [aU.mpr hx.1]
      cases hq : bL found x with
      | true => exact absurd (aU.mp hq) hx.2
      | false => rfl
    obtain ⟨b0, b1⟩ := h0 hx.1
    have hwl := jA hl (mv := mv) (who := who) b0 b1
    rw [hb, if_pos rfl, if_pos hx]
    rw [aE (ρ' := mR ps who mv st al (found ++ [x]) todo (.val (.int x))) (by
      rw [oZ (ds := found.map .int) _ rfl (by rw [List.length_map]; exact Nat.lt_of_le_of_lt hf (by decide))]
      rw [aj, aj, aj, aj, aj, aj, aj, ao, cM, R.ok_bind]
      rw [show found.map PyData.int ++ [.int x] = (found ++ [x]).map .int by simp]
      rfl)]
    have hadd : ez (.list (todo.map .int)) (.list ((cD ps who mv x).map .int)) = .ok (.list ((todo ++ cD ps who mv x).map .int)) := by
      show (if (todo.map PyData.int).length + ((cD ps who mv x).map PyData.int).length ≤ sizeLine then R.ok (PyData.list _) else .no) = _
      rw [if_pos (by rw [List.length_map, List.length_map]; exact Nat.le_trans (show _ ≤ 1000100 by omega) (by decide)), List.map_append]
    rw [bd, bj, aN]
    simp only [aB, aH, aj, ao, R.ok_bind, qa b0 b1 hm, hadd]
    rfl
  · have hb : (bL al x && !bL found x) = false := by
      cases hq : bL al x with
      | false => rfl
      | true =>
        cases hr : bL found x with
        | true => rfl
        | false => exact absurd ⟨aU.mp hq, fun z => by rw [aU.mpr z] at hr; cases hr⟩ hx
    rw [hb, if_neg hx]
    rfl
structure qx (W : Int → List Int) (al : List Int) (st : Int) (found todo : List Int) : Prop where
  nd : found.Nodup
  sub : ∀ x ∈ found, x ∈ al
  rch : ∀ x ∈ found, xS W al st x
  cand : ∀ x ∈ todo, x ∈ al → xS W al st x
  first : ∀ y ∈ W st, y ∈ al → y ∈ found ∨ y ∈ todo
  closed : ∀ x ∈ found, ∀ y ∈ W x, y ∈ al → y ∈ found ∨ y ∈ todo
theorem qx.skip {W : Int → List Int} {al : List Int} {st : Int} {found todo : List Int} {x : Int} (h : qx W al st found (x :: todo)) (hx : ¬ (x ∈ al ∧ x ∉ found)) : qx W al st found todo := by
  have drop : ∀ y, y ∈ al → (y ∈ found ∨ y ∈ x :: todo) → y ∈ found ∨ y ∈ todo := fun y hy hq => by
    rcases hq with z | z
    · exact .inl z
    · rcases List.mem_cons.mp z with rfl | z
      · left
        exact Classical.byContradiction fun w => hx ⟨hy, w⟩
      · exact .inr z
  exact ⟨h.nd, h.sub, h.rch, fun y hy => h.cand y (List.mem_cons_of_mem _ hy), fun y h1 h2 => drop y h2 (h.first y h1 h2), fun z hz y h1 h2 => drop y h2 (h.closed z hz y h1 h2)⟩
theorem qx.take {W : Int → List Int} {al : List Int} {st : Int} {found todo : List Int} {x : Int} (h : qx W al st found (x :: todo)) (hx : x ∈ al ∧ x ∉ found) : qx W al st (found ++ [x]) (todo ++ W x) := by
  have hr : xS W al st x := h.cand x List.mem_cons_self hx.1
  have up : ∀ y, (y ∈ found ∨ y ∈ x :: todo) → y ∈ found ++ [x] ∨ y ∈ todo ++ W x := fun y hq => by
    rcases hq with z | z
    · exact .inl (List.mem_append_left _ z)
    · rcases List.mem_cons.mp z with rfl | z
      · exact .inl (List.mem_append_right _ List.mem_cons_self)
      · exact .inr (List.mem_append_left _ z)
  refine ⟨?_, fun y hy => ?_, fun y hy => ?_, fun y hy ha => ?_, fun y h1 h2 => up y (h.first y h1 h2), fun z hz y h1 h2 => ?_⟩
  · rw [List.nodup_append]
    refine ⟨h.nd, by simp, fun a ha b hb e => ?_⟩
    simp at hb
    subst hb
    subst e
    exact hx.2 ha
  · rcases List.mem_append.mp hy with z | z
    · exact h.sub y z
    · simp at z; subst z; exact hx.1
  · rcases List.mem_append.mp hy with z | z
    · exact h.rch y z
    · simp at z; subst z; exact hr
  · rcases List.mem_append.mp hy with z | z
    · exact h.cand y (List.mem_cons_of_mem _ z) ha
    · exact .more hr z ha
  · rcases List.mem_append.mp hz with w | w
    · exact up y (h.closed z w y h1 h2)
    · simp at w
      subst w
      exact .inr (List.mem_append_right _ h1)
theorem qx.done {W : Int → List Int} {al : List Int} {st : Int} {found : List Int} (h : qx W al st found []) (x : Int) : x ∈ found ↔ xS W al st x := by
  refine ⟨h.rch x, fun hr => ?_⟩
  induction hr with
  | one h1 h2 =>
    rcases h.first _ h1 h2 with z | z
    · exact z
    · cases z
  | more _ h1 h2 ih =>
    rcases h.closed _ ih _ h1 h2 with z | z
    · exact z
    · cases z
theorem kf : ∀ {l m : List Int}, l.Nodup → (∀ x ∈ l, x ∈ m) → l.length ≤ m.length
  | [], m, _, _ => Nat.zero_le _
  | x :: l, m, nd, h => by
    obtain ⟨n1, n2⟩ := List.nodup_cons.mp nd
    have hx := h x List.mem_cons_self
    have := kf (m := m.erase x) n2 fun y hy => (List.mem_erase_of_ne (by rintro rfl; exact n1 hy)).mpr (h y (List.mem_cons_of_mem _ hy))
    rw [List.length_erase_of_mem hx] at this
    have hp := List.length_pos_of_mem hx
    rw [List.length_cons]
    omega
theorem lE (t : aI → R Bool) (g : Fs) (n : Nat) (ρ : aI) : cw t g (n + 1) ρ = (t ρ >>= fun b => if b = true then g ρ >>= mP (cw t g n) else .ok (.nx ρ)) := by
  rw [cw]
  congr 1
theorem wE {ps : List P4} (hl : ∀ p ∈ ps, p.ns.length ≤ 100) {mv : List (Option Int)} {who : Int} (hm : mv.length = ps.length) {st : Int} {al : List Int} (ha : ∀ x ∈ al, 0 ≤ x ∧ x < ps.length) (hal : al.length ≤ 100) : ∀ (n : Nat) (found todo : List Int) (c7 : aW), qx (cD ps who mv) al st found todo → todo.length + (al.length - found.length) * 101 + 1 ≤ n → n ≤ 1000000 →
    ∃ (rs : List Int) (c7' : aW), (∀ x, x ∈ rs ↔ xS (cD ps who mv) al st x) ∧ cw (tE (e2 (jR) (ad 6) (gr ay))) ve n (mR ps who mv st al found todo c7) = .ok (.nx (mR ps who mv st al rs [] c7'))
  | 0, found, todo, c7, _, h, _ => by omega
  | n + 1, found, [], c7, I, h, hn => by
    refine ⟨found, c7, fun x => I.done x, ?_⟩
    rw [lE]
    have n0 := xZ ([] : List Int) []
    simp only [List.map_nil] at n0
    simp [n0]
  | n + 1, found, x :: todo, c7, I, h, hn => by
    have hfl := kf I.nd I.sub
    rw [List.length_cons] at h
    have n0 := xZ (x :: todo) []
    simp only [List.map_nil] at n0
    have htest : tE (e2 (jR) (ad 6) (gr ay)) (mR ps who mv st al found (x :: todo) c7) = .ok true := by
      simp only [cf, bj, aj, ao, kP, aH, R.ok_bind, List.length_nil]
      rw [if_pos (Nat.zero_le _), R.ok_bind, n0, R.ok_bind]
      rfl
    rw [lE, htest, R.ok_bind, if_pos rfl, wQ hl hm (ha x) (by omega) (by omega), R.ok_bind, dh]
    by_cases hx : x ∈ al ∧ x ∉ found
    · rw [if_pos hx]
      have hwl := jA hl (mv := mv) (who := who) (ha x hx.1).1 (ha x hx.1).2
      have I' := I.take hx
      have hfl' := kf I'.nd I'.sub
      rw [List.length_append] at hfl'
      simp only [List.length_cons, List.length_nil] at hfl'
      exact wE hl hm ha hal n (found ++ [x]) (todo ++ cD ps who mv x) (.val (.int x)) I' (by
        rw [List.length_append, List.length_append]
        simp only [List.length_cons, List.length_nil]
        have e : (al.length - found.length) = (al.length - (found.length + 1)) + 1 := by omega
        rw [e, Nat.add_mul] at h
        simp only [Nat.zero_add]
        omega) (by omega)
    · rw [if_neg hx]
      exact wE hl hm ha hal n found todo (.val (.int x)) (I.skip hx) (by omega) (by omega)
theorem nz {ps : List P4} (hl : ∀ p ∈ ps, p.ns.length ≤ 100) {mv : List (Option Int)} {who : Int} (hm : mv.length = ps.length) {st : Int} (s0 : 0 ≤ st) (s1 : st < ps.length) {al : List Int} (ha : ∀ x ∈ al, 0 ≤ x ∧ x < ps.length) (hal : al.length ≤ 100) :
    ∃ rs : List Int, bn [gD ps, .int who, mD mv, .int st, .list (al.map .int)] = .ok (.list (rs.map .int)) ∧ ∀ x, x ∈ rs ↔ xS (cD ps who mv) al st x := by
  have hwl := jA hl (mv := mv) (who := who) s0 s1
  obtain ⟨rs, c7, h1, h2⟩ := wE hl hm (who := who) (st := st) ha hal 1000000 [] (cD ps who mv st) .non ⟨by simp, by simp, by simp, fun x hx hy => .one hx hy, fun y hy _ => .inr hy, by simp⟩ (by simp; omega) (Nat.le_refl _)
  refine ⟨rs, ?_, h1⟩
  unfold bn gQ
  refine eB ?_
  rw [show ([gD ps, .int who, mD mv, .int st, .list (al.map .int)].map aW.val ++ List.replicate (8 - [gD ps, .int who, mD mv, .int st, .list (al.map .int)].length) aW.non) = [.val (gD ps), .val (.int who), .val (mD mv), .val (.int st), .val (.list (al.map .int)), .non, .non, .non] from rfl]
  rw [aE (ρ' := [.val (gD ps), .val (.int who), .val (mD mv), .val (.int st), .val (.list (al.map .int)), .own (.list []), .non, .non]) (by
    rw [kA, kP, aH, R.ok_bind, if_pos (show ([] : List PyData).length ≤ sizeLine from Nat.zero_le _)]
    rfl)]
  rw [aE (ρ' := mR ps who mv st al [] (cD ps who mv st) .non) (by
    rw [bd, aN]
    simp only [aB, aH, aj, ao, R.ok_bind, qa s0 s1 hm]
    rfl)]
  rw [aE (ρ' := mR ps who mv st al rs [] c7) (by
    rw [dU]
    unfold ve at h2
    show km (cw _ _ 1000000 _) = _
    rw [h2]
    rfl)]
  rfl
structure Sh where
  w : Int
  pl : List Int
  mv : Int → Option Int
abbrev yV : List Str := ["who", "places", "moves"]
def jk (c : Addr) (n : Nat) (s : Sh) : PyData := w9 c yV [.int s.w, .tuple (s.pl.map .int), oT s.mv n]
theorem su (c : Addr) (n : Nat) (s : Sh) : jk c n s = .dict [(.none, .int c), (.str "who", .int s.w), (.str "places", .tuple (s.pl.map .int)), (.str "moves", oT s.mv n)] := rfl
theorem zY (c : Addr) (n : Nat) (s : Sh) : jJ c "who" (jk c n s) = .ok (.int s.w) := by
  rw [su]
  show (if (c : Int) = (c : Int) then (if ("who" : Str) = "who" then R.ok _ else _) else .no) = _
  rw [if_pos rfl, if_pos rfl]
theorem mM (c : Addr) (n : Nat) (s : Sh) : jJ c "places" (jk c n s) = .ok (.tuple (s.pl.map .int)) := by
  rw [su]
  show (if (c : Int) = (c : Int) then (if ("who" : Str) = "places" then _ else if ("places" : Str) = "places" then R.ok _ else _) else .no) = _
  rw [if_pos rfl, if_neg (by decide +kernel), if_pos rfl]
theorem wv (c : Addr) (n : Nat) (s : Sh) : jJ c "moves" (jk c n s) = .ok (oT s.mv n) := by
  rw [su]
  show (if (c : Int) = (c : Int) then (if ("who" : Str) = "moves" then _ else if ("places" : Str) = "moves" then _ else if ("moves" : Str) = "moves" then R.ok _ else _) else .no) = _
  rw [if_pos rfl, if_neg (by decide +kernel), if_neg (by decide +kernel), if_pos rfl]
theorem zy {f g h : Int → PyData} {n : Nat} {fe : Fe} {ρ : aI} (hh : ∀ i : Int, 0 ≤ i → i < n → fe (.val (f i) :: .val (g i) :: ρ) = .ok (h i)) : bV (fA 0 1) (fun _ => .ok true) fe (.non :: .non :: ρ) (jo (cF f n) (cF g n)) = .ok (cF h n) := by
  have go : ∀ is : List Int, (∀ i ∈ is, 0 ≤ i ∧ i < n) → bV (fA 0 1) (fun _ => .ok true) fe (.non :: .non :: ρ) (jo (is.map f) (is.map g)) = .ok (is.map h) := by
    intro is
    induction is with
    | nil => intro _; unfold jo; simp [e9]
    | cons i is ih =>
      intro hb
      have e : jo ((i :: is).map f) ((i :: is).map g) = .tuple [f i, g i] :: jo (is.map f) (is.map g) := rfl
      rw [e, mW, ih fun x hx => hb x (List.mem_cons_of_mem _ hx)]
      have := hh i (hb i List.mem_cons_self).1 (hb i List.mem_cons_self).2
      simp only [R.ok_bind, if_true, List.set_cons_zero, List.set_cons_succ, this]
      rfl
  exact go (ids n) fun i hi => cT.mp hi
def bS (f g : Int → Option Int) (i : Int) : Option Int := (f i).or (g i)
theorem qB {f g : Int → Option Int} {n : Nat} (hn : n ≤ 1000) : aF [oT f n, oT g n] = .ok (oT (bS f g) n) := by
  have hc := zy (f := fun i => oD (f i)) (g := fun i => oD (g i)) (h := fun i => oD (bS f g i)) (n := n) (ρ := []) (fe := AX (tE (e2 (kI) (ad 0) (eC .none))) (ad 1) (ad 0)) fun i _ _ => by
    simp only [wD, cf, bj, ao, aj, bH, R.ok_bind, sY, cq]
    unfold bS
    cases f i <;> rfl
  unfold aF fJ
  refine eB ?_
  rw [show ([oT f n, oT g n].map aW.val ++ List.replicate (2 - [oT f n, oT g n].length) aW.non) = [.val (oT f n), .val (oT g n)] from rfl]
  rw [dC, cz, bF, show aA 2 [] [.val (oT f n), .val (oT g n)] = [.non, .non] from rfl]
  simp only [yY, ao, aj, R.ok_bind, gX, cM]
  rw [if_pos (by rw [nL, bA, bA, Nat.min_self]; exact ce hn), hc]
  rfl
theorem oz {ps : List P4} (hp : ps.length ≤ 1000) : cm [gD ps] = .ok (.tuple ((ids ps.length).map .int)) := by
  have hrt := qH (n := ps.length) hp
  have hlen : cQ (gD ps) = .ok (.int ps.length) := by simp
  unfold cm ix
  refine eB ?_
  rw [show ([gD ps].map aW.val ++ List.replicate (1 - [gD ps].length) aW.non) = [.val (gD ps)] from rfl]
  simp only [dC, xG, aB, aH, cz, ao, R.ok_bind, hlen, hrt]
def xD (s : Sh) (f : Int → Option Int) (i : Int) : Option Int := if i ∈ s.pl then some s.w else f i
def kU : (Int → Option Int) → List Sh → Int → Option Int
  | f, [] => f
  | f, s :: l => kU (xD s f) l
def ql : (Int → Option Int) → List Sh → Int → Option Int
  | f, [] => f
  | f, s :: l => ql (bS f s.mv) l
theorem xf {c : Addr} {n : Nat} {a b m : PyData} {s : Sh} : ∀ (is : List Int) (f : Int → Option Int) (c5 : aW), (∀ x ∈ is, 0 ≤ x ∧ x < n) →
    ∃ c5', dP (aP 5) (gy 2 (ad 5) (e1 (jJ c "who") (ad 4))) (is.map .int) [.val a, .val b, .own (.list (cF (fun i => oD (f i)) n)), .val m, .val (jk c n s), c5] = .ok (.nx [.val a, .val b, .own (.list (cF (fun i => oD (if i ∈ is then some s.w else f i)) n)), .val m, .val (jk c n s), c5'])
  | [], f, c5, _ => ⟨c5, by rw [List.map_nil, dn]; simp⟩
  | i :: is, f, c5, hb => by
    obtain ⟨h0, h1⟩ := hb i List.mem_cons_self
    obtain ⟨c5', e⟩ := xf (c := c) (n := n) (a := a) (b := b) (m := m) (s := s) is (fun j => if j = i then some s.w else f j) (.val (.int i)) fun x hx => hb x (List.mem_cons_of_mem _ hx)
    refine ⟨c5', ?_⟩
    rw [List.map_cons, cW]
    rw [show (([.val a, .val b, .own (.list (cF (fun i => oD (f i)) n)), .val m, .val (jk c n s), c5] : aI).set 5 (.val (.int i))) = [.val a, .val b, .own (.list (cF (fun i => oD (f i)) n)), .val m, .val (jk c n s), .val (.int i)] from rfl]
    rw [ml (ds := cF (fun i => oD (f i)) n) (n := i) (v := .int s.w) rfl rfl (by simp only [cz, aj, ao, R.ok_bind, zY]) h0 (by rw [bA]; exact h1), R.ok_bind, dh, mn h0 h1]
    have ht : cF (fun j => if j = i then PyData.int s.w else oD (f j)) n = cF (fun j => oD (if j = i then some s.w else f j)) n := cU fun j _ _ => by split <;> rfl
    have ht2 : cF (fun j => oD (if j ∈ is then some s.w else if j = i then some s.w else f j)) n = cF (fun j => oD (if j ∈ i :: is then some s.w else f j)) n := cU fun j _ _ => by
      by_cases z1 : j ∈ is
      · simp [z1]
      · by_cases z2 : j = i <;> simp [z1, z2]
    rw [ht, ← ht2]
    exact e
def qv (c : Addr) : Fs := (aO (gu (iO (dG (e1 (jJ c "places") (ad 4))) (aP 5) (gy 2 (ad 5) (e1 (jJ c "who") (ad 4))))) (bJ 3 (aD aF (ag (ad 3) (ag (e1 (jJ c "moves") (ad 4)) ay)))))
theorem uU {c : Addr} {n : Nat} (hn : n ≤ 1000) {a b : PyData} : ∀ (l : List Sh) (f m : Int → Option Int) (c4 c5 : aW), (∀ s ∈ l, ∀ x ∈ s.pl, 0 ≤ x ∧ x < n) →
    ∃ c4' c5', dP (aP 4) (qv c) (l.map (jk c n)) [.val a, .val b, .own (.list (cF (fun i => oD (f i)) n)), .val (oT m n), c4, c5] = .ok (.nx [.val a, .val b, .own (.list (cF (fun i => oD (kU f l i)) n)), .val (oT (ql m l) n), c4', c5'])
  | [], f, m, c4, c5, _ => ⟨c4, c5, by rw [List.map_nil, dn]; rfl⟩
  | s :: l, f, m, c4, c5, hb => by
    obtain ⟨d5, e1⟩ := xf (c := c) (n := n) (a := a) (b := b) (m := oT m n) (s := s) s.pl f c5 (hb s List.mem_cons_self)
    obtain ⟨c4', c5', e⟩ := uU (c := c) hn (a := a) (b := b) l (xD s f) (bS m s.mv) (.val (jk c n s)) d5 fun t ht => hb t (List.mem_cons_of_mem _ ht)
    refine ⟨c4', c5', ?_⟩
    rw [List.map_cons, cW]
    rw [show (([.val a, .val b, .own (.list (cF (fun i => oD (f i)) n)), .val (oT m n), c4, c5] : aI).set 4 (.val (jk c n s))) = [.val a, .val b, .own (.list (cF (fun i => oD (f i)) n)), .val (oT m n), .val (jk c n s), c5] from rfl]
    have hb1 : qv c [.val a, .val b, .own (.list (cF (fun i => oD (f i)) n)), .val (oT m n), .val (jk c n s), c5] = .ok (.nx [.val a, .val b, .own (.list (cF (fun i => oD (xD s f i)) n)), .val (oT (bS m s.mv) n), .val (jk c n s), d5]) := by
      unfold qv
      rw [aE (ρ' := [.val a, .val b, .own (.list (cF (fun i => oD (xD s f i)) n)), .val (oT m n), .val (jk c n s), d5]) (by
        rw [dU, dR, bZ, cz]
        simp only [aj, ao, R.ok_bind, mM, gX]
        rw [e1]
        rfl)]
      simp only [bd, aN, aB, aH, cz, aj, ao, R.ok_bind, wv, qB hn]
      rfl
    rw [hb1, R.ok_bind, dh, e]
    rfl
theorem CI {ps : List P4} (hp : ps.length ≤ 1000) {c : Addr} {l : List Sh} (hb : ∀ s ∈ l, ∀ x ∈ s.pl, 0 ≤ x ∧ x < ps.length) :
    aY c [gD ps, .list (l.map (jk c ps.length))] = .ok (.tuple [oT (kU (fun _ => none) l) ps.length, oT (ql (fun _ => none) l) ps.length]) := by
  obtain ⟨c4, c5, e⟩ := uU (c := c) hp (a := gD ps) (b := .list (l.map (jk c ps.length))) l (fun _ => none) (fun _ => none) .non .non hb
  have h0 : bV (aP 0) (fun _ => .ok true) (eC .none) [.non] (ps.map P4.d) = .ok (cF (fun _ => oD none) ps.length) := by
    have := ib (eC .none) [.non] 0 (fun _ => .none) (ps.map P4.d) fun d _ => rfl
    rw [this]
    congr 1
    refine List.ext_getElem (by rw [List.length_map, List.length_map, bA]) fun k h1 h2 => ?_
    rw [bA] at h2
    have e := fV (f := fun _ => oD none) (n := ps.length) (i := (k : Int)) (by omega) (by omega)
    simp only [Int.toNat_natCast] at e
    rw [e, List.getElem_map]
    rfl
  have hn := lM (ps := ps) hp
  unfold aY dI
  refine eB ?_
  rw [show ([gD ps, .list (l.map (jk c ps.length))].map aW.val ++ List.replicate (6 - [gD ps, .list (l.map (jk c ps.length))].length) aW.non) = [.val (gD ps), .val (.list (l.map (jk c ps.length))), .non, .non, .non, .non] from rfl]
  rw [aE (ρ' := [.val (gD ps), .val (.list (l.map (jk c ps.length))), .own (.list (cF (fun _ => oD none) ps.length)), .non, .non, .non]) (by
    rw [kA, bF, show aA 1 [] [.val (gD ps), .val (.list (l.map (jk c ps.length))), .non, .non, .non, .non] = [.non] from rfl]
    simp only [bZ, ao, R.ok_bind, gX, cM]
    rw [if_pos (by rw [List.length_map]; exact ce hp), h0]
    rfl)]
  rw [aE (ρ' := [.val (gD ps), .val (.list (l.map (jk c ps.length))), .own (.list (cF (fun _ => oD none) ps.length)), .val (oT (fun _ => none) ps.length), .non, .non]) (by
    simp only [bd, aN, aB, aH, ao, R.ok_bind, hn]
    rfl)]
  rw [aE (ρ' := [.val (gD ps), .val (.list (l.map (jk c ps.length))), .own (.list (cF (fun i => oD (kU (fun _ => none) l i)) ps.length)), .val (oT (ql (fun _ => none) l) ps.length), c4, c5]) (by
    rw [dU, dR, bZ]
    simp only [aj, ao, R.ok_bind, iL]
    unfold qv at e
    rw [e]
    rfl)]
  simp only [dC, qg, aB, aH, cz, pA, pk, aj, ao, R.ok_bind, yf]
  rfl
def aR (gs js : List Int) : List Int := gs.filter (bL js)
def cb (ps : List P4) (js : List Int) (who : Int) (gs : List Int) : List Int := eO js (dQ (rK ps js who (aR gs js)) ps.length)
def a7 (ps : List P4) (js : List Int) (who : Int) (gs : List Int) : Sh :=
  if cb ps js who gs = [] then ⟨who, js, bS (gU ps who (rK ps js who (aR gs js))) (bM ps who js)⟩
  else ⟨1 - who, dQ (rK ps js (1 - who) (cb ps js who gs)) ps.length, bS (gU ps (1 - who) (rK ps js (1 - who) (cb ps js who gs))) (bM ps (1 - who) (cb ps js who gs))⟩
section
variable {ps : List P4} (G : Gr ps) {js gs : List Int} (hj : cC ps.length js) (hg : cC ps.length gs) (hw : iR ps js) {who : Int}
include hg in
theorem rP : cC ps.length (aR gs js) := hg.filter _
theorem uF : ∀ x ∈ aR gs js, x ∈ js := fun x hx => aU.mp (List.mem_filter.mp hx).2
include hj in
theorem jF : cC ps.length (cb ps js who gs) := hj.filter _
theorem mX : ∀ x ∈ cb ps js who gs, x ∈ js := fun x hx => (fY.mp hx).1
include hj in
theorem kS {i : Int} : i ∈ cb ps js who gs ↔ i ∈ js ∧ rK ps js who (aR gs js) i = none := by
  unfold cb
  rw [fY, eo]
  constructor
  · rintro ⟨h1, h2⟩
    refine ⟨h1, ?_⟩
    cases h : rK ps js who (aR gs js) i with
    | none => rfl
    | some q => exact (h2 ⟨hj.inn i h1, q, h⟩).elim
  · rintro ⟨h1, h2⟩
    refine ⟨h1, ?_⟩
    rintro ⟨_, q, hq⟩
    rw [h2] at hq
    cases hq
include hj hg in
theorem pB : sr ps js who (aR gs js) (rK ps js who (aR gs js)) := u5 (rP hg).nd uF hj.nd hj.len
include hj in
theorem jG : sr ps js (1 - who) (cb ps js who gs) (rK ps js (1 - who) (cb ps js who gs)) := u5 (jF hj).nd mX hj.nd hj.len
include hj hg hw in
theorem oX {i : Int} (hi : i ∈ cb ps js who gs) (ho : av ps i ≠ who) : ∃ g, g ∈ bt ps (cb ps js who gs) i := by
  obtain ⟨h1, h2⟩ := (kS hj).mp hi
  obtain ⟨g, g1, g2⟩ := (pB hj hg).outX i h1 h2 ho (hw i h1)
  obtain ⟨g3, g4⟩ := List.mem_filter.mp g1
  exact ⟨g, List.mem_filter.mpr ⟨g3, aU.mpr ((kS hj).mpr ⟨aU.mp g4, g2⟩)⟩⟩
include G hj hg hw in
theorem vX {c : Addr} : a5 c [gD ps, .tuple (js.map .int), .int who, .tuple (gs.map .int)] = .ok (jk c ps.length (a7 ps js who gs)) := by
  have hp := G.hp
  have hjl := hj.len
  have hgl := hg.len
  have h0 := k4 (s := .tuple (gs.map .int)) (t := .tuple (js.map .int)) (.inl rfl) (.inl rfl) (by omega)
  have h1 := lI G.hl G.hgo G.hp (s := .tuple (js.map .int)) (g := .tuple ((aR gs js).map .int)) (.inl rfl) (.inl rfl) hj (rP hg) uF hw (who := who)
  have h2 := lh (f := rK ps js who (aR gs js)) (n := ps.length) (by omega)
  have h3 := nc (s := .tuple (js.map .int)) (t := .tuple ((dQ (rK ps js who (aR gs js)) ps.length).map .int)) (.inl rfl) (.inl rfl) (by omega)
  have h4 := h9 G (jY (pB (who := who) hj hg))
  unfold a5 eR
  refine eB ?_
  rw [show ([gD ps, .tuple (js.map .int), .int who, .tuple (gs.map .int)].map aW.val ++ List.replicate (8 - [gD ps, .tuple (js.map .int), .int who, .tuple (gs.map .int)].length) aW.non) = [.val (gD ps), .val (.tuple (js.map .int)), .val (.int who), .val (.tuple (gs.map .int)), .non, .non, .non, .non] from rfl]
  rw [aE (ρ' := [.val (gD ps), .val (.tuple (js.map .int)), .val (.int who), .val (.tuple (gs.map .int)), .val (oT (rK ps js who (aR gs js)) ps.length), .non, .non, .non]) (by
    simp only [bd, aN, aB, aH, ao, aj, R.ok_bind, h0]
    rw [show gs.filter (bL js) = aR gs js from rfl, h1]
    rfl)]
  rw [aE (ρ' := [.val (gD ps), .val (.tuple (js.map .int)), .val (.int who), .val (.tuple (gs.map .int)), .val (oT (rK ps js who (aR gs js)) ps.length), .val (.tuple ((cb ps js who gs).map .int)), .non, .non]) (by
    simp only [bd, aN, aB, aH, ao, aj, R.ok_bind, h2, h3]
    rfl)]
  by_cases ha : cb ps js who gs = []
  · have h5 := hX G (who := who) (s := .tuple (js.map .int)) (.inl rfl) hj fun i hi _ => hw i hi
    rw [show a7 ps js who gs = ⟨who, js, bS (gU ps who (rK ps js who (aR gs js))) (bM ps who js)⟩ from if_pos ha]
    refine nA ?_
    rw [cu, cf, bj, cz]
    simp only [ao, aj, bH, R.ok_bind, ha, List.map_nil, lv, List.length_nil, fS, cq]
    rw [if_pos (by decide)]
    rw [aE (ρ' := [.val (gD ps), .val (.tuple (js.map .int)), .val (.int who), .val (.tuple (gs.map .int)), .val (oT (rK ps js who (aR gs js)) ps.length), .val (.tuple []), .val (oT (bS (gU ps who (rK ps js who (aR gs js))) (bM ps who js)) ps.length), .non]) (by
      simp only [bd, aN, aB, aH, ao, aj, R.ok_bind, h4, h5, qB (show ps.length ≤ 1000 by omega)]
      rfl)]
    rfl
  · have h5 := lI G.hl G.hgo G.hp (s := .tuple (js.map .int)) (g := .tuple ((cb ps js who gs).map .int)) (.inl rfl) (.inl rfl) hj (jF hj) mX hw (who := 1 - who)
    have h6 := lh (f := rK ps js (1 - who) (cb ps js who gs)) (n := ps.length) (by omega)
    have h7 := h9 G (jY (jG (gs := gs) (who := who) hj))
    have h8 := hX G (who := 1 - who) (s := .tuple ((cb ps js who gs).map .int)) (.inl rfl) (jF hj) fun i hi ho => oX hj hg hw hi (by omega)
    rw [show a7 ps js who gs = ⟨1 - who, dQ (rK ps js (1 - who) (cb ps js who gs)) ps.length, bS (gU ps (1 - who) (rK ps js (1 - who) (cb ps js who gs))) (bM ps (1 - who) (cb ps js who gs))⟩ from if_neg ha]
    have hlen : ¬ ((cb ps js who gs).length : Int) = 0 := by
      have := List.length_pos_iff.mpr ha
      omega
    rw [aE (ρ' := [.val (gD ps), .val (.tuple (js.map .int)), .val (.int who), .val (.tuple (gs.map .int)), .val (oT (rK ps js who (aR gs js)) ps.length), .val (.tuple ((cb ps js who gs).map .int)), .non, .non]) (by
      rw [cu, cf, bj, cz]
      simp only [ao, aj, bH, R.ok_bind, lv, List.length_map, fS, cq, decide_eq_false hlen]
      rfl)]
    rw [aE (ρ' := [.val (gD ps), .val (.tuple (js.map .int)), .val (.int who), .val (.tuple (gs.map .int)), .val (oT (rK ps js who (aR gs js)) ps.length), .val (.tuple ((cb ps js who gs).map .int)), .non, .val (.int (1 - who))]) (by
      simp only [bd, bj, ao, aj, bH, R.ok_bind, pI]
      rfl)]
    rw [aE (ρ' := [.val (gD ps), .val (.tuple (js.map .int)), .val (.int who), .val (.tuple (gs.map .int)), .val (oT (rK ps js (1 - who) (cb ps js who gs)) ps.length), .val (.tuple ((cb ps js who gs).map .int)), .non, .val (.int (1 - who))]) (by
      simp only [bd, aN, aB, aH, ao, aj, R.ok_bind, h5]
      rfl)]
    rw [aE (ρ' := [.val (gD ps), .val (.tuple (js.map .int)), .val (.int who), .val (.tuple (gs.map .int)), .val (oT (rK ps js (1 - who) (cb ps js who gs)) ps.length), .val (.tuple ((cb ps js who gs).map .int)), .val (oT (bS (gU ps (1 - who) (rK ps js (1 - who) (cb ps js who gs))) (bM ps (1 - who) (cb ps js who gs))) ps.length), .val (.int (1 - who))]) (by
      simp only [bd, aN, aB, aH, ao, aj, R.ok_bind, h7, h8, qB (show ps.length ≤ 1000 by omega)]
      rfl)]
    unfold wu
    simp only [dC, aN, aB, aH, ao, aj, R.ok_bind, h6]
    rfl
end
def cN (ps : List P4) (who : Int) (gs : List Int) : Nat → List Int → List Sh
  | 0, _ => []
  | k + 1, js => if js = [] then [] else a7 ps js who gs :: cN ps who gs k (eO js (a7 ps js who gs).pl)
theorem tx {ps : List P4} {js gs : List Int} {who : Int} {rk : Int → Option Int} (hj : cC ps.length js) (hw : iR ps js) (A : sr ps js who gs rk) : iR ps (eO js (dQ rk ps.length)) := by
  intro i hi
  obtain ⟨h1, h2⟩ := fY.mp hi
  have hn : rk i = none := by
    cases h : rk i with
    | none => rfl
    | some q => exact (h2 (eo.mpr ⟨hj.inn i h1, q, h⟩)).elim
  have fin : ∀ g, g ∈ bt ps js i → rk g = none → ∃ g, g ∈ bt ps (eO js (dQ rk ps.length)) i := fun g g1 g2 => by
    obtain ⟨g3, g4⟩ := List.mem_filter.mp g1
    refine ⟨g, List.mem_filter.mpr ⟨g3, aU.mpr (fY.mpr ⟨aU.mp g4, fun z => ?_⟩)⟩⟩
    obtain ⟨_, q, hq⟩ := eo.mp z
    rw [g2] at hq
    cases hq
  by_cases ho : av ps i = who
  · obtain ⟨g, hg⟩ := hw i h1
    exact fin g hg (A.outO i h1 hn ho g hg)
  · obtain ⟨g, g1, g2⟩ := A.outX i h1 hn ho (hw i h1)
    exact fin g g1 g2
theorem mL (js : List Int) : eO js js = [] := by
  unfold eO
  rw [List.filter_eq_nil_iff]
  intro x hx
  rw [aU.mpr hx]
  simp
theorem lR {ps : List P4} {js gs : List Int} {who : Int} (hj : cC ps.length js) (hw : iR ps js) : iR ps (eO js (a7 ps js who gs).pl) := by
  unfold a7
  split
  · rw [mL]; intro i hi; cases hi
  · exact tx hj hw (jG hj)
theorem vo {ps : List P4} {js gs : List Int} {who : Int} (hj : cC ps.length js) : cC ps.length (a7 ps js who gs).pl := by
  unfold a7
  split
  · exact hj
  · exact nu _ _
theorem lO {ps : List P4} {js gs : List Int} {who : Int} (hj : cC ps.length js) (hne : js ≠ []) : (eO js (a7 ps js who gs).pl).length < js.length := by
  have ex : ∃ i ∈ js, i ∈ (a7 ps js who gs).pl := by
    unfold a7
    split
    · exact let ⟨i, hi⟩ := List.exists_mem_of_ne_nil _ hne; ⟨i, hi, hi⟩
    · rename_i ha
      obtain ⟨i, hi⟩ := List.exists_mem_of_ne_nil _ ha
      exact ⟨i, mX i hi, eo.mpr ⟨(jF hj).inn i hi, 0, ((jG hj).zero i).mpr hi⟩⟩
  obtain ⟨i, h1, h2⟩ := ex
  refine Nat.lt_of_le_of_ne (List.length_filter_le ..) fun z => ?_
  have := (gJ _ js).mp z i h1
  rw [aU.mpr h2] at this
  cases this
def u7 (c : Addr) : Fs := (aO (bJ 5 (aD (a5 c) (ag (ad 0) (ag (ad 4) (ag (ad 1) (ag (ad 2) ay)))))) (aO (fT 3 (ad 5)) (bJ 4 (aD bN (ag (ad 4) (ag (e1 (jJ c "places") (ad 5)) ay))))))
abbrev gR (ps : List P4) (c : Addr) (who : Int) (gs : List Int) (acc : List Sh) (js : List Int) (c5 : aW) : aI :=
  [.val (gD ps), .val (.int who), .val (.tuple (gs.map .int)), .own (.list (acc.map (jk c ps.length))), .val (.tuple (js.map .int)), c5]
theorem AC {ps : List P4} (G : Gr ps) {gs : List Int} (hg : cC ps.length gs) {who : Int} {c : Addr} : ∀ (k n : Nat) (js : List Int) (acc : List Sh) (c5 : aW), cC ps.length js → iR ps js → js.length ≤ k → k + 1 ≤ n → acc.length + k ≤ 1000 →
    ∃ c5', cw (tE (e2 (fo rC) (e1 cQ (ad 4)) (eC (.int 0)))) (u7 c) n (gR ps c who gs acc js c5) = .ok (.nx (gR ps c who gs (acc ++ cN ps who gs k js) [] c5'))
  | k, 0, js, acc, c5, _, _, _, h, _ => by omega
  | k, n + 1, js, acc, c5, hj, hw, hk, hn, hz => by
    have hp := G.hp
    rw [mK]
    have ht : tE (e2 (fo rC) (e1 cQ (ad 4)) (eC (.int 0))) (gR ps c who gs acc js c5) = .ok (decide (0 < js.length)) := by
      simp only [cf, bj, cz, aj, ao, bH, R.ok_bind, lv, qc, cq, List.length_map]
      congr 1
      simp
    rw [ht, R.ok_bind]
    by_cases h0 : js = []
    · subst h0
      refine ⟨c5, ?_⟩
      have : cN ps who gs k [] = [] := by cases k <;> rfl
      rw [this, List.append_nil]
      rfl
    · have hpos := List.length_pos_iff.mpr h0
      rw [if_pos (decide_eq_true hpos)]
      cases k with
      | zero => omega
      | succ k =>
        have hl := lO (gs := gs) (who := who) hj h0
        obtain ⟨c5', e⟩ := AC G hg (who := who) (c := c) k n (eO js (a7 ps js who gs).pl) (acc ++ [a7 ps js who gs]) (.val (jk c ps.length (a7 ps js who gs))) (hj.filter _) (lR hj hw) (by omega) (by omega) (by simp; omega)
        refine ⟨c5', ?_⟩
        have h1 := vX G hj hg hw (who := who) (c := c)
        have h2 := nc (s := .tuple (js.map .int)) (t := .tuple ((a7 ps js who gs).pl.map .int)) (.inl rfl) (.inl rfl) (by have := hj.len; omega)
        have hb : u7 c (gR ps c who gs acc js c5) = .ok (.nx (gR ps c who gs (acc ++ [a7 ps js who gs]) (eO js (a7 ps js who gs).pl) (.val (jk c ps.length (a7 ps js who gs))))) := by
          unfold u7
          rw [aE (ρ' := gR ps c who gs acc js (.val (jk c ps.length (a7 ps js who gs)))) (by
            simp only [bd, aN, aB, aH, ao, aj, R.ok_bind, h1]
            rfl)]
          rw [aE (ρ' := gR ps c who gs (acc ++ [a7 ps js who gs]) js (.val (jk c ps.length (a7 ps js who gs)))) (by
            rw [oZ (ds := acc.map (jk c ps.length)) (ad 5) rfl (Nat.lt_of_lt_of_le (show _ < 1001 by rw [List.length_map]; omega) (by decide))]
            simp only [ao, aj, cM, R.ok_bind]
            rw [show acc.map (jk c ps.length) ++ [jk c ps.length (a7 ps js who gs)] = (acc ++ [a7 ps js who gs]).map (jk c ps.length) by simp]
            rfl)]
          simp only [bd, aN, aB, aH, cz, ao, aj, R.ok_bind, mM, h2]
          rfl
        rw [hb, R.ok_bind, dh, e]
        rw [show cN ps who gs (k + 1) js = a7 ps js who gs :: cN ps who gs k (eO js (a7 ps js who gs).pl) from if_neg h0]
        simp
theorem qI {ps : List P4} {gs : List Int} {who : Int} : ∀ (k : Nat) (js : List Int), cC ps.length js → ∀ s ∈ cN ps who gs k js, ∀ x ∈ s.pl, 0 ≤ x ∧ x < ps.length
  | 0, js, _, s, hs => by cases hs
  | k + 1, js, hj, s, hs => by
    unfold cN at hs
    split at hs
    · cases hs
    · rcases List.mem_cons.mp hs with rfl | z
      · exact (vo hj).inn
      · exact qI k _ (hj.filter _) s z
theorem xV {ps : List P4} (G : Gr ps) {gs : List Int} (hg : cC ps.length gs) (hw : iR ps (ids ps.length)) {who : Int} {c : Addr} :
    cB c [gD ps, .int who, .tuple (gs.map .int)] = .ok (.tuple [oT (kU (fun _ => none) (cN ps who gs ps.length (ids ps.length))) ps.length, oT (ql (fun _ => none) (cN ps who gs ps.length (ids ps.length))) ps.length]) := by
  have hp := G.hp
  obtain ⟨c5, e⟩ := AC G hg (who := who) (c := c) ps.length 1000000 (ids ps.length) [] .non (cC.ids _) hw (by rw [qu]; exact Nat.le_refl _) (by omega) (by simp; omega)
  rw [List.nil_append] at e
  have h1 := hg.some
  have h2 := oz (ps := ps) (by omega)
  have h3 := CI (ps := ps) (by omega) (c := c) (qI (gs := gs) (who := who) ps.length (ids ps.length) (cC.ids _))
  have hlen : cQ (gD ps) = .ok (.int ps.length) := by simp
  unfold cB l9
  refine eB ?_
  rw [show ([gD ps, .int who, .tuple (gs.map .int)].map aW.val ++ List.replicate (6 - [gD ps, .int who, .tuple (gs.map .int)].length) aW.non) = [.val (gD ps), .val (.int who), .val (.tuple (gs.map .int)), .non, .non, .non] from rfl]
  rw [aE (ρ' := [.val (gD ps), .val (.int who), .val (.tuple (gs.map .int)), .non, .non, .non]) (by
    simp only [cu, fy, cf, aN, aB, aH, cz, ao, aj, R.ok_bind, hlen, h1, cq]; rfl)]
  rw [aE (ρ' := [.val (gD ps), .val (.int who), .val (.tuple (gs.map .int)), .own (.list []), .non, .non]) (by rfl)]
  rw [aE (ρ' := gR ps c who gs [] (ids ps.length) .non) (by
    simp only [bd, aN, aB, aH, ao, R.ok_bind, h2]; rfl)]
  rw [aE (ρ' := gR ps c who gs (cN ps who gs ps.length (ids ps.length)) [] c5) (by
    rw [dU]
    show km (cw (tE (e2 (fo rC) (e1 cQ (ad 4)) (eC (.int 0)))) (u7 c) 1000000 _) = _
    rw [e]
    rfl)]
  unfold Cv
  show bG _ (((gR ps c who gs (cN ps who gs ps.length (ids ps.length)) [] c5)).set 3 (.val (.list ((cN ps who gs ps.length (ids ps.length)).map (jk c ps.length))))) = _
  simp only [List.set_cons_succ, List.set_cons_zero, dC, aN, aB, aH, ao, aj, R.ok_bind, h3]
def Wy (ps : List P4) (js : List Int) (w : Int) (mv : Int → Option Int) (i g : Int) : Prop := (av ps i = w ∧ mv i = some g) ∨ (av ps i ≠ w ∧ g ∈ bt ps js i)
theorem jb {ps : List P4} {js : List Int} {i g : Int} (h : g ∈ bt ps js i) : g ∈ js := aU.mp (List.mem_filter.mp h).2
theorem ju {ps : List P4} {js : List Int} {i g : Int} (h : g ∈ bt ps js i) : g ∈ aZ ps i := (List.mem_filter.mp h).1
theorem mr {ps : List P4} {js : List Int} {i g : Int} (h : g ∈ aZ ps i) (h2 : g ∈ js) : g ∈ bt ps js i := List.mem_filter.mpr ⟨h, aU.mpr h2⟩
theorem yL {ps : List P4} {js gs : List Int} {who : Int} {rk : Int → Option Int} (A : sr ps js who gs rk) {i q : Int} (h : rk i = some q) (hq : 0 < q) (ho : av ps i = who) : ∃ g, gU ps who rk i = some g ∧ g ∈ bt ps js i ∧ rk g = some (q - 1) := by
  obtain ⟨g, g1, g2⟩ := jY A i q h hq ho
  have hm : gU ps who rk i = ((aZ ps i).filter fun g => decide (rk g = some (q - 1))).head? := by
    unfold gU
    rw [h]
    exact if_pos ⟨ho, hq⟩
  have hmem : g ∈ (aZ ps i).filter fun g => decide (rk g = some (q - 1)) := List.mem_filter.mpr ⟨g1, decide_eq_true g2⟩
  cases hL : (aZ ps i).filter fun g => decide (rk g = some (q - 1)) with
  | nil => rw [hL] at hmem; cases hmem
  | cons v r =>
    rw [hL] at hm
    have hv : v ∈ (aZ ps i).filter fun g => decide (rk g = some (q - 1)) := by rw [hL]; exact List.mem_cons_self
    have h2 := of_decide_eq_true (List.mem_filter.mp hv).2
    exact ⟨v, hm, mr (List.mem_filter.mp hv).1 (A.sub v _ h2), h2⟩
theorem kY {ps : List P4} {who : Int} {rk : Int → Option Int} {i : Int} (h : av ps i ≠ who ∨ rk i = none ∨ rk i = some 0) : gU ps who rk i = none := by
  unfold gU
  rcases h with h | h | h
  · cases rk i with
    | none => rfl
    | some q => exact if_neg fun z => h z.1
  · rw [h]
  · rw [h]
    exact if_neg fun z => by omega
theorem vy {ps : List P4} {who : Int} {part : List Int} {i : Int} (hi : i ∈ part) (ho : av ps i = who) (hw : ∃ g, g ∈ bt ps part i) : ∃ g, bM ps who part i = some g ∧ g ∈ bt ps part i := by
  have hm : bM ps who part i = (bt ps part i).head? := if_pos ⟨hi, ho⟩
  obtain ⟨g, hg⟩ := hw
  cases hL : bt ps part i with
  | nil => rw [hL] at hg; cases hg
  | cons v r =>
    rw [hL] at hm
    exact ⟨v, hm, List.mem_cons_self⟩
theorem ki {ps : List P4} {who : Int} {part : List Int} {i : Int} (h : i ∉ part ∨ av ps i ≠ who) : bM ps who part i = none := if_neg fun z => h.elim (fun y => y z.1) fun y => y z.2
theorem qT {ps : List P4} {js gs : List Int} {who : Int} {rk : Int → Option Int} (A : sr ps js who gs rk) {part : List Int} {i q : Int} (h : rk i = some q) (ho : av ps i = who) (h0 : q = 0 → i ∈ part ∧ ∃ g, g ∈ bt ps part i) :
    ∃ g, bS (gU ps who rk) (bM ps who part) i = some g ∧ g ∈ aZ ps i ∧ ((0 < q ∧ g ∈ js ∧ rk g = some (q - 1)) ∨ (q = 0 ∧ g ∈ part)) := by
  unfold bS
  by_cases hq : 0 < q
  · obtain ⟨g, g1, g2, g3⟩ := yL A h hq ho
    exact ⟨g, by rw [g1]; rfl, ju g2, .inl ⟨hq, jb g2, g3⟩⟩
  · have hq0 : q = 0 := by have := A.nneg i q h; omega
    obtain ⟨p1, p2⟩ := h0 hq0
    obtain ⟨g, g1, g2⟩ := vy p1 ho p2
    exact ⟨g, by rw [kY (.inr (.inr (by rw [h, hq0]))), g1]; rfl, ju g2, .inr ⟨hq0, jb g2⟩⟩
structure zF (ps : List P4) (who : Int) (gs js : List Int) (l : List Sh) (win : Int → Int) (mv : Int → Option Int) (φ ψ : Int → Int) : Prop where
  wins : ∀ f i, kU f l i = if i ∈ js then some (win i) else f i
  mvs : ∀ m i, (i ∈ js → m i = none) → ql m l i = if i ∈ js then mv i else m i
  two : ∀ i ∈ js, win i = who ∨ win i = 1 - who
  has : ∀ i ∈ js, av ps i = win i → ∃ g, mv i = some g ∧ g ∈ aZ ps i
  non : ∀ i ∈ js, av ps i ≠ win i → mv i = none
  stay : ∀ i ∈ js, ∀ g, Wy ps js (win i) mv i g → g ∈ js ∧ win g = win i
  mine : ∀ i ∈ js, win i = who → i ∉ gs → ∀ g, Wy ps js who mv i g → φ g < φ i
  nn : ∀ i ∈ js, win i = 1 - who → 0 ≤ ψ i
  oth : ∀ i ∈ js, win i = 1 - who → ∀ g, Wy ps js (1 - who) mv i g → ψ g ≤ ψ i ∧ (i ∈ gs → ψ g < ψ i)
theorem rN {ps : List P4} {who : Int} (h01 : who = 0 ∨ who = 1) {gs : List Int} (hg : cC ps.length gs) : ∀ (k : Nat) (js : List Int), cC ps.length js → iR ps js → js.length ≤ k → (∀ i ∈ js, av ps i = 0 ∨ av ps i = 1) →
    ∃ win mv φ ψ, zF ps who gs js (cN ps who gs k js) win mv φ ψ
  | k, [], _, _, _, _ => by
    have : cN ps who gs k [] = [] := by cases k <;> rfl
    rw [this]
    refine ⟨fun _ => 0, fun _ => none, fun _ => 0, fun _ => 0, ⟨fun f i => by simp [kU], fun m i _ => by simp [ql], ?_, ?_, ?_, ?_, ?_, ?_, ?_⟩⟩ <;> intro i hi <;> cases hi
  | 0, j :: js, _, _, hk, _ => by simp at hk
  | k + 1, j0 :: js0, hj, hw, hk, hown => by
    obtain ⟨js, ejs⟩ : ∃ js, js = j0 :: js0 := ⟨_, rfl⟩
    have hne : js ≠ [] := by rw [ejs]; simp
    rw [← ejs] at hj hw hk hown ⊢
    rw [show cN ps who gs (k + 1) js = a7 ps js who gs :: cN ps who gs k (eO js (a7 ps js who gs).pl) from if_neg hne]
    have A := pB (who := who) hj hg
    by_cases ha : cb ps js who gs = []
    · have hs : a7 ps js who gs = ⟨who, js, bS (gU ps who (rK ps js who (aR gs js))) (bM ps who js)⟩ := if_pos ha
      have hr : eO js (a7 ps js who gs).pl = [] := by rw [hs]; exact mL js
      have hl : cN ps who gs k [] = [] := by cases k <;> rfl
      rw [hr, hl, hs]
      have hrk : ∀ i ∈ js, ∃ q, rK ps js who (aR gs js) i = some q := fun i hi => by
        cases h : rK ps js who (aR gs js) i with
        | some q => exact ⟨q, rfl⟩
        | none =>
          have := (kS (gs := gs) (who := who) hj).mpr ⟨hi, h⟩
          rw [ha] at this
          cases this
      have own : ∀ i ∈ js, av ps i = who → ∃ q g, rK ps js who (aR gs js) i = some q ∧ bS (gU ps who (rK ps js who (aR gs js))) (bM ps who js) i = some g ∧ g ∈ aZ ps i ∧ ((0 < q ∧ g ∈ js ∧ rK ps js who (aR gs js) g = some (q - 1)) ∨ (q = 0 ∧ g ∈ js)) := fun i hi ho => by
        obtain ⟨q, hq⟩ := hrk i hi
        obtain ⟨g, g1, g2, g3⟩ := qT A (part := js) hq ho fun _ => ⟨hi, hw i hi⟩
        exact ⟨q, g, hq, g1, g2, g3⟩
      have nom : ∀ i, (i ∉ js ∨ av ps i ≠ who) → bS (gU ps who (rK ps js who (aR gs js))) (bM ps who js) i = none := fun i hi => by
        unfold bS
        rw [ki hi, kY]
        · rfl
        · rcases hi with hi | hi
          · right; left
            cases h : rK ps js who (aR gs js) i with
            | none => rfl
            | some q => exact (hi (A.sub i q h)).elim
          · exact .inl hi
      refine ⟨fun _ => who, bS (gU ps who (rK ps js who (aR gs js))) (bM ps who js), fun i => (rK ps js who (aR gs js) i).getD 0, fun _ => 0, ⟨fun f i => rfl, fun m i hm => ?_, fun i _ => .inl rfl, fun i hi ho => ?_, fun i _ ho => nom i (.inr ho), fun i hi g hgw => ⟨?_, rfl⟩, fun i hi _ hgs g hgw => ?_, fun i _ _ => by simp, fun i _ h => by omega⟩⟩
      · show bS m (bS (gU ps who (rK ps js who (aR gs js))) (bM ps who js)) i = _
        by_cases hi : i ∈ js
        · rw [if_pos hi]
          show (m i).or _ = _
          rw [hm hi, Option.none_or]
        · rw [if_neg hi]
          show (m i).or _ = _
          rw [nom i (.inl hi), Option.or_none]
      · obtain ⟨q, g, _, g1, g2, _⟩ := own i hi ho
        exact ⟨g, g1, g2⟩
      · rcases hgw with ⟨ho, hm⟩ | ⟨_, hm⟩
        · obtain ⟨q, g', _, g1, _, g3⟩ := own i hi ho
          rw [g1] at hm
          cases hm
          rcases g3 with ⟨_, z, _⟩ | ⟨_, z⟩ <;> exact z
        · exact jb hm
      · have hpos : ∀ q, rK ps js who (aR gs js) i = some q → 0 < q := fun q hq => by
          have h0 := A.nneg i q hq
          by_cases z : q = 0
          · subst z
            exact (hgs (List.mem_filter.mp ((A.zero i).mp hq)).1).elim
          · omega
        rcases hgw with ⟨ho, hm⟩ | ⟨ho, hm⟩
        · obtain ⟨q, g', hq, g1, _, g3⟩ := own i hi ho
          rw [g1] at hm
          cases hm
          have := hpos q hq
          rcases g3 with ⟨_, _, z⟩ | ⟨z, _⟩
          · show (rK ps js who (aR gs js) g).getD 0 < (rK ps js who (aR gs js) i).getD 0
            rw [hq, z]
            show q - 1 < q
            omega
          · omega
        · obtain ⟨q, hq⟩ := hrk i hi
          obtain ⟨t, t1, t2⟩ := (A.oth i q hq (hpos q hq) ho).2 g hm
          show (rK ps js who (aR gs js) g).getD 0 < (rK ps js who (aR gs js) i).getD 0
          rw [hq, t1]
          exact t2
    · -- the other one's share
      have hs : a7 ps js who gs = ⟨1 - who, dQ (rK ps js (1 - who) (cb ps js who gs)) ps.length, bS (gU ps (1 - who) (rK ps js (1 - who) (cb ps js who gs))) (bM ps (1 - who) (cb ps js who gs))⟩ := if_neg ha
      have hless := lO (gs := gs) (who := who) hj hne
      have hrw := lR (gs := gs) (who := who) hj hw
      rw [hs] at hless hrw ⊢
      have B := jG (gs := gs) (who := who) hj
      obtain ⟨rk, erk⟩ : ∃ rk, rk = rK ps js (1 - who) (cb ps js who gs) := ⟨_, rfl⟩
      obtain ⟨aw, eaw⟩ : ∃ aw, aw = cb ps js who gs := ⟨_, rfl⟩
      have maw : ∀ i, i ∈ aw ↔ i ∈ js ∧ rK ps js who (aR gs js) i = none := fun i => by rw [eaw]; exact kS hj
      have waw : ∀ i ∈ aw, av ps i ≠ who → ∃ g, g ∈ bt ps aw i := fun i hi ho => by rw [eaw] at hi ⊢; exact oX hj hg hw hi ho
      rw [← eaw] at B hless hrw erk ⊢
      rw [← erk] at B hless hrw ⊢
      have hle : ∀ i q, rk i = some q → q ≤ ps.length := fun i q h => by rw [erk] at h; exact Dr hj.len h
      have memP : ∀ i, i ∈ dQ rk ps.length ↔ ∃ q, rk i = some q := fun i => by
        rw [eo]
        exact ⟨fun h => h.2, fun ⟨q, hq⟩ => ⟨hj.inn i (B.sub i q hq), q, hq⟩⟩
      obtain ⟨js', ejs'⟩ : ∃ js', js' = eO js (dQ rk ps.length) := ⟨_, rfl⟩
      have mem' : ∀ i, i ∈ js' ↔ i ∈ js ∧ rk i = none := fun i => by
        rw [ejs', fY, memP]
        constructor
        · rintro ⟨h1, h2⟩
          refine ⟨h1, ?_⟩
          cases h : rk i with
          | none => rfl
          | some q => exact (h2 ⟨q, h⟩).elim
        · rintro ⟨h1, h2⟩
          exact ⟨h1, fun ⟨q, hq⟩ => by rw [h2] at hq; cases hq⟩
      have hless' : js'.length < js.length := by rw [ejs']; exact hless
      obtain ⟨win, mv, φ, ψ, I⟩ := rN h01 hg k js' (by rw [ejs']; exact hj.filter _) (by rw [ejs']; exact hrw) (by omega) fun i hi => hown i ((mem' i).mp hi).1
      rw [ejs'] at I
      rw [← ejs'] at I
      have nom : ∀ i, rk i = none → bS (gU ps (1 - who) rk) (bM ps (1 - who) aw) i = none := fun i hi => by
        unfold bS
        rw [kY (.inr (.inl hi)), ki]
        · rfl
        · left
          intro z
          have := (B.zero i).mpr z
          rw [hi] at this
          cases this
      have awP : ∀ i ∈ aw, rk i = some 0 := fun i hi => (B.zero i).mpr hi
      have own : ∀ i q, rk i = some q → av ps i = 1 - who → ∃ g, bS (gU ps (1 - who) rk) (bM ps (1 - who) aw) i = some g ∧ g ∈ aZ ps i ∧ ((0 < q ∧ g ∈ js ∧ rk g = some (q - 1)) ∨ (q = 0 ∧ g ∈ aw)) := fun i q hq ho =>
        qT B (part := aw) hq ho fun h0 => by
          have hi : i ∈ aw := (B.zero i).mp (by rw [hq, h0])
          exact ⟨hi, waw i hi (by omega)⟩
      -- from a place of the share
      have goP : ∀ i q g, rk i = some q → Wy ps js (1 - who) (bS (gU ps (1 - who) rk) (bM ps (1 - who) aw)) i g → ∃ t, rk g = some t ∧ t ≤ q ∧ (i ∈ gs → t < q) := fun i q g hq hgw => by
        have hi := B.sub i q hq
        have hgs0 : q = 0 → i ∉ gs := fun h0 z => by
          have hi' : i ∈ aw := (B.zero i).mp (by rw [hq, h0])
          have h1 := ((maw i).mp hi').2
          have := (A.zero i).mpr (List.mem_filter.mpr ⟨z, aU.mpr hi⟩)
          rw [h1] at this
          cases this
        have hq0 := B.nneg i q hq
        rcases hgw with ⟨ho, hm⟩ | ⟨ho, hm⟩
        · obtain ⟨g', g1, _, g3⟩ := own i q hq ho
          rw [g1] at hm
          cases hm
          rcases g3 with ⟨z1, _, z2⟩ | ⟨z1, z2⟩
          · exact ⟨q - 1, z2, by omega, fun _ => by omega⟩
          · exact ⟨0, awP g z2, by omega, fun z => (hgs0 z1 z).elim⟩
        · by_cases hp : 0 < q
          · obtain ⟨t, t1, t2⟩ := (B.oth i q hq hp ho).2 g hm
            exact ⟨t, t1, by omega, fun _ => t2⟩
          · have h0 : q = 0 := by omega
            have hi' : i ∈ aw := (B.zero i).mp (by rw [hq, h0])
            have how : av ps i = who := by have := hown i hi; omega
            have := A.outO i hi ((maw i).mp hi').2 how g hm
            exact ⟨0, awP g ((maw g).mpr ⟨jb hm, this⟩), by omega, fun z => (hgs0 h0 z).elim⟩
      have hPs : ∀ {i q}, rk i = some q → i ∈ js ∧ i ∉ js' := fun {i q} hq => ⟨B.sub i q hq, fun z => by have := ((mem' i).mp z).2; rw [hq] at this; cases this⟩
      -- from a place that is left
      have goR : ∀ i g, i ∈ js' → Wy ps js (win i) mv i g → (g ∈ js' ∧ Wy ps js' (win i) mv i g) ∨ (win i = 1 - who ∧ ∃ t, rk g = some t) := fun i g hi hgw => by
        obtain ⟨hi1, hi2⟩ := (mem' i).mp hi
        rcases hgw with ⟨ho, hm⟩ | ⟨ho, hm⟩
        · have w : Wy ps js' (win i) mv i g := .inl ⟨ho, hm⟩
          exact .inl ⟨(I.stay i hi g w).1, w⟩
        · cases hr : rk g with
          | none =>
            have hg' : g ∈ js' := (mem' g).mpr ⟨jb hm, hr⟩
            exact .inl ⟨hg', .inr ⟨ho, mr (ju hm) hg'⟩⟩
          | some t =>
            right
            refine ⟨?_, t, rfl⟩
            rcases I.two i hi with z | z
            · have how : av ps i = 1 - who := by have := hown i hi1; omega
              have := B.outO i hi1 hi2 how g hm
              rw [hr] at this
              cases this
            · exact z
      have wcongr : ∀ {i g} {m1 m2 : Int → Option Int} {w : Int} {K : List Int}, m1 i = m2 i → Wy ps K w m1 i g → Wy ps K w m2 i g := fun e h => by
        rcases h with ⟨a, b⟩ | h
        · exact .inl ⟨a, by rw [← e]; exact b⟩
        · exact .inr h
      refine ⟨fun i => if (rk i).isSome then 1 - who else win i, fun i => if (rk i).isSome then bS (gU ps (1 - who) rk) (bM ps (1 - who) aw) i else mv i, φ, fun i => match rk i with | some q => q | none => ψ i + (ps.length + 1), ?_⟩
      have atP : ∀ {i q}, rk i = some q → (if (rk i).isSome then (1 - who : Int) else win i) = 1 - who := fun h => by rw [h]; rfl
      have atR : ∀ {i}, rk i = none → (if (rk i).isSome then (1 - who : Int) else win i) = win i := fun h => by rw [h]; rfl
      have mtP : ∀ {i q}, rk i = some q → (if (rk i).isSome then bS (gU ps (1 - who) rk) (bM ps (1 - who) aw) i else mv i) = bS (gU ps (1 - who) rk) (bM ps (1 - who) aw) i := fun h => by rw [h]; rfl
      have mtR : ∀ {i}, rk i = none → (if (rk i).isSome then bS (gU ps (1 - who) rk) (bM ps (1 - who) aw) i else mv i) = mv i := fun h => by rw [h]; rfl
      refine ⟨fun f i => ?_, fun m i hm => ?_, fun i hi => ?_, fun i hi ho => ?_, fun i hi ho => ?_, fun i hi g hgw => ?_, fun i hi hwi hgs g hgw => ?_, fun i hi hwi => ?_, fun i hi hwi g hgw => ?_⟩
      · show kU (xD ⟨1 - who, dQ rk ps.length, bS (gU ps (1 - who) rk) (bM ps (1 - who) aw)⟩ f) (cN ps who gs k (eO js (dQ rk ps.length))) i = _
        rw [← ejs', I.wins]
        cases hr : rk i with
        | some q =>
          rw [if_neg (hPs hr).2, if_pos (hPs hr).1]
          show (if i ∈ dQ rk ps.length then some (1 - who) else f i) = _
          rw [if_pos ((memP i).mpr ⟨q, hr⟩)]
          rfl
        | none =>
          by_cases hi : i ∈ js
          · rw [if_pos ((mem' i).mpr ⟨hi, hr⟩), if_pos hi]
            rfl
          · rw [if_neg fun z => hi ((mem' i).mp z).1, if_neg hi]
            show (if i ∈ dQ rk ps.length then some (1 - who) else f i) = _
            rw [if_neg fun z => by obtain ⟨q, hq⟩ := (memP i).mp z; rw [hr] at hq; cases hq]
      · show ql (bS m (bS (gU ps (1 - who) rk) (bM ps (1 - who) aw))) (cN ps who gs k (eO js (dQ rk ps.length))) i = _
        rw [← ejs', I.mvs (bS m (bS (gU ps (1 - who) rk) (bM ps (1 - who) aw))) i fun z => by
          obtain ⟨z1, z2⟩ := (mem' i).mp z
          show (m i).or _ = none
          rw [hm z1, Option.none_or, nom i z2]]
        cases hr : rk i with
        | some q =>
          rw [if_neg (hPs hr).2, if_pos (hPs hr).1]
          show (m i).or _ = _
          rw [hm (hPs hr).1, Option.none_or]
          rfl
        | none =>
          by_cases hi : i ∈ js
          · rw [if_pos ((mem' i).mpr ⟨hi, hr⟩), if_pos hi]
            rfl
          · rw [if_neg fun z => hi ((mem' i).mp z).1, if_neg hi]
            show (m i).or _ = _
            rw [nom i hr, Option.or_none]
      · cases hr : rk i with
        | some q => exact .inr rfl
        | none => exact I.two i ((mem' i).mpr ⟨hi, hr⟩)
      · cases hr : rk i with
        | some q =>
          have ho' : av ps i = 1 - who := ho.trans (atP hr)
          obtain ⟨g, g1, g2, _⟩ := own i q hr ho'
          exact ⟨g, g1, g2⟩
        | none => exact I.has i ((mem' i).mpr ⟨hi, hr⟩) (ho.trans (atR hr))
      · cases hr : rk i with
        | some q =>
          have ho' : av ps i ≠ 1 - who := fun z => ho (z.trans (atP hr).symm)
          show bS _ _ i = none
          unfold bS
          rw [kY (.inl ho'), ki (.inr ho')]
          rfl
        | none => exact I.non i ((mem' i).mpr ⟨hi, hr⟩) fun z => ho (z.trans (atR hr).symm)
      · cases hr : rk i with
        | some q =>
          rw [atP hr] at hgw
          obtain ⟨t, t1, _⟩ := goP i q g hr (wcongr (mtP hr) hgw)
          refine ⟨(hPs t1).1, ?_⟩
          rw [atP t1]
          rfl
        | none =>
          have hi' := (mem' i).mpr ⟨hi, hr⟩
          rw [atR hr] at hgw
          rcases goR i g hi' (wcongr (mtR hr) hgw) with ⟨z1, z2⟩ | ⟨z1, t, z2⟩
          · obtain ⟨y1, y2⟩ := (mem' g).mp z1
            refine ⟨y1, ?_⟩
            rw [atR y2]
            exact (I.stay i hi' g z2).2
          · refine ⟨(hPs z2).1, ?_⟩
            rw [atP z2]
            exact z1.symm
      · cases hr : rk i with
        | some q => rw [atP hr] at hwi; omega
        | none =>
          have hi' := (mem' i).mpr ⟨hi, hr⟩
          rw [atR hr] at hwi
          rcases goR i g hi' (by rw [hwi]; exact wcongr (mtR hr) hgw) with ⟨z1, z2⟩ | ⟨z1, _⟩
          · rw [hwi] at z2
            exact I.mine i hi' hwi hgs g z2
          · omega
      · cases hr : rk i with
        | some q => exact B.nneg i q hr
        | none =>
          have := I.nn i ((mem' i).mpr ⟨hi, hr⟩) ((atR hr).symm.trans hwi)
          show 0 ≤ ψ i + _
          omega
      · cases hr : rk i with
        | some q =>
          obtain ⟨t, t1, t2, t3⟩ := goP i q g hr (wcongr (mtP hr) hgw)
          show (match rk g with | some q => q | none => _) ≤ q ∧ (i ∈ gs → (match rk g with | some q => q | none => _) < q)
          rw [t1]
          exact ⟨t2, t3⟩
        | none =>
          have hi' := (mem' i).mpr ⟨hi, hr⟩
          rw [atR hr] at hwi
          show (match rk g with | some q => q | none => ψ g + (ps.length + 1)) ≤ ψ i + (ps.length + 1) ∧ (i ∈ gs → (match rk g with | some q => q | none => ψ g + (ps.length + 1)) < ψ i + (ps.length + 1))
          rcases goR i g hi' (by rw [hwi]; exact wcongr (mtR hr) hgw) with ⟨z1, z2⟩ | ⟨_, t, z2⟩
          · rw [hwi] at z2
            obtain ⟨y1, y2⟩ := I.oth i hi' hwi g z2
            rw [((mem' g).mp z1).2]
            exact ⟨by show ψ g + _ ≤ _; omega, fun z => by have := y2 z; show ψ g + _ < _; omega⟩
          · rw [z2]
            have h1 := hle g t z2
            have h2 := I.nn i hi' hwi
            exact ⟨by show t ≤ _; omega, fun _ => by show t < _; omega⟩
def vW (ps : List P4) (i : Int) : PyData := (ps[i.toNat]?.map P4.d).getD .none
theorem Bq (ps : List P4) : ps.map P4.d = cF (vW ps) ps.length := by
  refine List.ext_getElem (by rw [List.length_map, bA]) fun k h1 h2 => ?_
  rw [bA] at h2
  have e := fV (f := vW ps) (n := ps.length) (i := (k : Int)) (by omega) (by omega)
  simp only [Int.toNat_natCast] at e
  rw [e, List.getElem_map]
  unfold vW
  rw [List.getElem?_eq_getElem (by omega)]
  simp
theorem Co {ps : List P4} {i : Int} (h0 : 0 ≤ i) (h1 : i < ps.length) : bU (vW ps i) (.int 0) = .ok (.int (av ps i)) := by
  unfold vW
  rw [List.getElem?_eq_getElem (show i.toNat < ps.length by omega), fg h0 h1]
  rfl
theorem sf (f g h : Int → PyData) : ∀ is : List Int, fx (is.map f) (is.map g) (is.map h) = is.map fun i => .tuple [f i, g i, h i]
  | [] => rfl
  | i :: is => by rw [List.map_cons, List.map_cons, List.map_cons, List.map_cons, ← sf f g h is]; rfl
theorem Dl (a b : Bool) : jR (.bool a) (.bool b) = .ok (.bool (a != b)) := by
  unfold jR
  rw [if_pos (by unfold pK; simp [PyData.canLay0, PyData.depth])]
  cases a <;> cases b <;> rfl
def kW : Fs := (aO (hJ (hZ (ej (tE (e1 (du .int) (ad 3)))) (hZ (tE (e1 (du .bool) (ad 3))) (tE (e2 (iJ true) (ad 3) (gt (ag (eC (.int 0)) (ag (eC (.int 1)) ay))))))) (bG (eC (.bool false))) bB) (hJ (tE (e2 (jR) (e2 (kI) (ad 4) (eC .none)) (e2 (jR) (e2 bU (ad 2) (eC (.int 0))) (ad 3)))) (bG (eC (.bool false))) bB))
theorem o1 {a b : PyData} {ps : List P4} {win : Int → Int} {mv : Int → Option Int} (h01 : ∀ i : Int, 0 ≤ i → i < ps.length → win i = 0 ∨ win i = 1) (hn : ∀ i : Int, 0 ≤ i → i < ps.length → (mv i = none ↔ av ps i ≠ win i)) : ∀ (is : List Int) (c2 c3 c4 : aW), (∀ x ∈ is, 0 ≤ x ∧ x < ps.length) →
    ∃ ρ, dP (ud 2 3 4) kW (is.map fun i => .tuple [vW ps i, .int (win i), oD (mv i)]) [.val a, .val b, c2, c3, c4] = .ok (.nx ρ)
  | [], c2, c3, c4, _ => ⟨_, by rw [List.map_nil, dn]⟩
  | i :: is, c2, c3, c4, hb => by
    obtain ⟨h0, h1⟩ := hb i List.mem_cons_self
    obtain ⟨ρ, e⟩ := o1 (a := a) (b := b) h01 hn is (.val (vW ps i)) (.val (.int (win i))) (.val (oD (mv i))) fun x hx => hb x (List.mem_cons_of_mem _ hx)
    refine ⟨ρ, ?_⟩
    rw [List.map_cons, wP]
    rw [show ((([.val a, .val b, c2, c3, c4] : aI).set 2 (.val (vW ps i))).set 3 (.val (.int (win i)))).set 4 (.val (oD (mv i))) = [.val a, .val b, .val (vW ps i), .val (.int (win i)), .val (oD (mv i))] from rfl]
    have hb1 : kW [.val a, .val b, .val (vW ps i), .val (.int (win i)), .val (oD (mv i))] = .ok (.nx [.val a, .val b, .val (vW ps i), .val (.int (win i)), .val (oD (mv i))]) := by
      have hin := xO [0, 1] (win i) true
      have hm : bL [0, 1] (win i) = true := aU.mpr (by rcases h01 i h0 h1 with z | z <;> simp [z])
      rw [hm] at hin
      simp only [List.map_cons, List.map_nil] at hin
      unfold kW
      rw [aE (ρ' := [.val a, .val b, .val (vW ps i), .val (.int (win i)), .val (oD (mv i))]) (by
        simp only [cu, jv, fy, cf, cz, bj, qg, aB, aH, aj, ao, bH, R.ok_bind, show du .int (.int (win i)) = .ok (.bool true) from rfl, show du .bool (.int (win i)) = .ok (.bool false) from rfl, cq]
        rw [if_neg (by simp), if_neg (by simp), if_pos (by show 2 ≤ _; decide), R.ok_bind, hin]
        rfl)]
      simp only [cu, cf, bj, aj, ao, bH, R.ok_bind, sY, Co h0 h1, oM, Dl, cq]
      have : ((mv i).isNone != !decide (av ps i = win i)) = false := by
        have := hn i h0 h1
        cases hm : mv i with
        | none =>
          rw [hm] at this
          have := this.mp rfl
          simp [this]
        | some g =>
          rw [hm] at this
          have : av ps i = win i := by
            by_cases z : av ps i = win i
            · exact z
            · cases this.mpr z
          simp [this]
      rw [this]
      rfl
    rw [hb1, R.ok_bind, dh, e]
theorem zh {ps : List P4} {win : Int → Int} {mv : Int → Option Int} (h01 : ∀ i : Int, 0 ≤ i → i < ps.length → win i = 0 ∨ win i = 1) (hn : ∀ i : Int, 0 ≤ i → i < ps.length → (mv i = none ↔ av ps i ≠ win i)) (hg : ∀ i g, mv i = some g → g ∈ aZ ps i) {f : PyData} (hf : f = .tuple [oT (fun i => some (win i)) ps.length, oT mv ps.length]) :
    bw [f, gD ps] = .ok (.bool true) := by
  have hmg := n8 (d := oT mv ps.length) (pV _ _) (ps := ps)
  rw [wj hg] at hmg
  obtain ⟨ρ, e⟩ := o1 (a := f) (b := gD ps) h01 hn (ids ps.length) .non .non .non fun x hx => cT.mp hx
  have hf0 : bU f (.int 0) = .ok (oT (fun i => some (win i)) ps.length) := by rw [hf]; rfl
  have hf1 : bU f (.int 1) = .ok (oT mv ps.length) := by rw [hf]; rfl
  have hfl : cQ f = .ok (.int 2) := by rw [hf]; rfl
  have hfi : du .tuple f = .ok (.bool true) := by rw [hf]; rfl
  have hlen : cQ (gD ps) = .ok (.int ps.length) := by simp
  have hz : fx (ps.map P4.d) (cF (fun i => oD (some (win i))) ps.length) (cF (fun i => oD (mv i)) ps.length) = (ids ps.length).map fun i => .tuple [vW ps i, .int (win i), oD (mv i)] := by
    rw [Bq]
    exact sf _ _ _ _
  unfold bw fH
  refine eB ?_
  rw [show ([f, gD ps].map aW.val ++ List.replicate (5 - [f, gD ps].length) aW.non) = [.val f, .val (gD ps), .non, .non, .non] from rfl]
  rw [aE (ρ' := [.val f, .val (gD ps), .non, .non, .non]) (by
    simp only [cu, jv, fy, cf, cz, bj, aj, ao, bH, R.ok_bind, hfi, hfl, hf0, cq, oM, show du .tuple (oT (fun i => some (win i)) ps.length) = .ok (.bool true) from rfl]
    rfl)]
  rw [aE (ρ' := [.val f, .val (gD ps), .non, .non, .non]) (by
    simp only [cu, jv, fy, cf, cz, bj, aN, aB, aH, aj, ao, bH, R.ok_bind, hf0, hf1, hlen, hmg, lv, bA, cq, oM, decide_true]
    rfl)]
  rw [aE (ρ' := ρ) (by
    rw [dU, dR, x3]
    simp only [bj, aj, ao, bH, R.ok_bind, hf0, hf1, By, hz]
    unfold kW at e
    rw [e]
    rfl)]
  rfl
theorem vH {f g : Int → Option Int} {n : Nat} : jR (.tuple [oT f n, oT g n]) (.tuple [oT f n, oT g n]) = .ok (.bool false) := by
  refine yc (gg.mpr fun x hx => ?_) ?_
  · simp at hx
    rcases hx with rfl | rfl
    · exact pV _ _
    · exact pV _ _
  · simp [PyData.depth, PyData.depthAll, (rQ _ _).dep]
theorem iD {ps : List P4} (G : Gr ps) {w : Int} {mv : Int → Option Int} {i g : Int} (h0 : 0 ≤ i) (h1 : i < ps.length) : g ∈ cD ps w (xa mv ps.length) i ↔ Wy ps (ids ps.length) w mv i g := by
  rw [wt h0 h1]
  unfold Wy
  by_cases ho : av ps i = w
  · rw [if_pos ho]
    simp [ho, Option.mem_toList]
  · rw [if_neg ho]
    constructor
    · exact fun h => .inr ⟨ho, mr h (cT.mpr (G.goals h))⟩
    · rintro (⟨z, _⟩ | ⟨_, z⟩)
      · exact (ho z).elim
      · exact ju z
theorem rb {ps : List P4} (G : Gr ps) {w : Int} {mv : Int → Option Int} {qs : List Int} (hq : ∀ x ∈ qs, 0 ≤ x ∧ x < ps.length) (hs : ∀ i ∈ qs, ∀ g, Wy ps (ids ps.length) w mv i g → g ∈ qs) (hx : ∀ i ∈ qs, av ps i = w → ∃ g, mv i = some g) : qs.all (kQ ps w (xa mv ps.length) qs) = true := by
  rw [List.all_eq_true]
  intro i hi
  obtain ⟨h0, h1⟩ := hq i hi
  unfold kQ
  rw [Bool.and_eq_true]
  constructor
  · rw [Bool.not_eq_true', decide_eq_false_iff_not]
    intro z
    by_cases ho : av ps i = w
    · obtain ⟨g, hg⟩ := hx i hi ho
      have := (iD G h0 h1).mpr (show Wy ps (ids ps.length) w mv i g from .inl ⟨ho, hg⟩)
      rw [z] at this
      cases this
    · obtain ⟨g, hg⟩ := G.gne h0 h1
      have := (iD G h0 h1).mpr (show Wy ps (ids ps.length) w mv i g from .inr ⟨ho, mr hg (cT.mpr (G.goals hg))⟩)
      rw [z] at this
      cases this
  · rw [decide_eq_true_iff, List.filter_eq_nil_iff]
    intro g hg
    rw [aU.mpr (hs i hi g ((iD G h0 h1).mp hg))]
    simp
theorem BB {W : Int → List Int} {al : List Int} {s x : Int} (h : xS W al s x) : x ∈ al := by cases h <;> assumption
theorem rH {W : Int → List Int} {al : List Int} {s x : Int} {φ : Int → Int} (h1 : ∀ y ∈ W s, y ∈ al → φ y < φ s) (h2 : ∀ x ∈ al, ∀ y ∈ W x, y ∈ al → φ y ≤ φ x) (h : xS W al s x) : φ x < φ s := by
  induction h with
  | one a b => exact h1 _ a b
  | more r a b ih =>
    have := h2 _ (BB r) _ a b
    omega
abbrev CK : Str := PySem.Str.ofString "NoPart"
theorem vO {ps : List P4} {c : Addr} {who : Int} {d : PyData} (hg : eA d) (h : qQ ps.length d = false) : cB c [gD ps, .int who, d] = .ex CK := by
  have hlen : cQ (gD ps) = .ok (.int ps.length) := by simp
  have sb : cy [d, .int ps.length] = .ok (.bool (qQ ps.length d)) := lN _ (fun ds e x hx => by subst e; exact (gg.mp hg x hx).noD) hg.noD
  rw [h] at sb
  unfold cB l9
  rw [eT, show ([gD ps, .int who, d].map aW.val ++ List.replicate (6 - [gD ps, .int who, d].length) aW.non) = [.val (gD ps), .val (.int who), .val d, .non, .non, .non] from rfl]
  rw [pL, cu]
  simp only [fy, cf, aN, aB, aH, cz, ao, aj, R.ok_bind, hlen, sb, cq]
  rfl
theorem sJ {ps : List P4} {c : Addr} {who : Int} {d : PyData} (hg : eA d) (h : qQ ps.length d = false) : bK c [gD ps, .int who, d] = .ok (.bool true) := by
  have h1 := vO (c := c) (who := who) hg h
  unfold bK gL
  refine eB ?_
  rw [show ([gD ps, .int who, d].map aW.val ++ List.replicate (4 - [gD ps, .int who, d].length) aW.non) = [.val (gD ps), .val (.int who), .val d, .non] from rfl]
  refine nA ?_
  have hx : ∀ p, (fun p (ρ : aI) => (ou 3 p) (ρ.set 3 (.exc p))) p ([.val (gD ps), .val (.int who), .val d, .non] : aI) = .ok (.bool true) := fun p => by
    show ou 3 p _ = _
    unfold ou
    simp
  unfold r0
  simp only [aB, aH, ao, aj, R.ok_bind, cM, h1, Am, List.lookup_cons, beq_self_eq_true]
  rw [show (fun p => ou 3 p (([.val (gD ps), .val (.int who), .val d, .non] : aI).set 3 (.exc p))) = fun _ => R.ok (PyData.bool true) from funext hx, sB]
  rfl
theorem yi {xs : List PyData} {k : Int} (h : xs ≠ [] ∧ 2 ≤ k ∧ k < 2 ^ 63 ∧ xs.length * k.toNat ≤ sizeLine) : dM (.tuple xs) (.int k) = .ok (.tuple (List.replicate k.toNat xs).flatten) := by
  have : dM (.tuple xs) (.int k) = if xs ≠ [] ∧ 2 ≤ k ∧ k < 2 ^ 63 ∧ xs.length * k.toNat ≤ sizeLine then .ok (.tuple (List.replicate k.toNat xs).flatten) else .no := by simp only [dM]
  rw [this, if_pos h]
theorem uT (c : Int) : ∀ (xs : List Int) (l : Int), 0 ≤ l → iF c l (xs.map .int ++ [.int 0, .int 0]) = false
  | [], l, _ => by simp [iF]
  | x :: xs, l, hl => by
    show ((decide (l ≤ x) && decide (x < c)) && iF c (x + 1) (xs.map .int ++ [.int 0, .int 0])) = false
    by_cases h : l ≤ x
    · rw [uT c xs (x + 1) (by omega), Bool.and_false]
    · rw [decide_eq_false h]; rfl
def uL : Fs := (hJ (tE (e2 (iJ false) (ad 9) (aD bn (ag (ad 1) (ag (ad 3) (ag (e2 bU (ad 5) (eC (.int 1))) (ag (ad 9) (ag (ad 8) ay)))))))) (bG (eC (.bool false))) bB)
def u8 : Fs := (aO (bJ 10 (aD bn (ag (ad 1) (ag (e2 jK (eC (.int 1)) (ad 3)) (ag (e2 bU (ad 5) (eC (.int 1))) (ag (ad 9) (ag (ad 7) ay))))))) (hJ (gj (tE (e2 (iJ false) (ad 9) (ad 2))) (tE (e2 (iJ false) (ad 9) (ad 10)))) (bG (eC (.bool false))) bB))
abbrev zR (a : PyData) (ps : List P4) (gs : List Int) (who : Int) (c4 : aW) (f : PyData) (mi ot fr : List Int) (c9 c10 : aW) : aI :=
  [.val a, .val (gD ps), .val (.tuple (gs.map .int)), .val (.int who), c4, .val f, .val (.list (mi.map .int)), .val (.list (ot.map .int)), .val (.list (fr.map .int)), c9, c10]
section
variable {a : PyData} {ps : List P4} (G : Gr ps) {gs : List Int} {who : Int} {c4 : aW} {f : PyData} {mv : Int → Option Int} (hf1 : bU f (.int 1) = .ok (oT mv ps.length)) {mi ot fr : List Int}
include G hf1
theorem xo (hfr : cC ps.length fr) {φ : Int → Int} (hd : ∀ i ∈ fr, ∀ g, Wy ps (ids ps.length) who mv i g → φ g < φ i) : ∀ (is : List Int) (c9 : aW), (∀ x ∈ is, x ∈ fr) →
    ∃ c9', dP (aP 9) uL (is.map .int) (zR a ps gs who c4 f mi ot fr c9 .non) = .ok (.nx (zR a ps gs who c4 f mi ot fr c9' .non))
  | [], c9, _ => ⟨c9, by rw [List.map_nil, dn]⟩
  | i :: is, c9, hb => by
    have hi := hb i List.mem_cons_self
    obtain ⟨h0, h1⟩ := hfr.inn i hi
    have hp := G.hp
    obtain ⟨rs, e1, e2⟩ := nz G.hl (who := who) (mv := xa mv ps.length) (mh _ _) h0 h1 (al := fr) hfr.inn (by have := hfr.len; omega)
    rw [← uY] at e1
    have hm : bL rs i = false := by
      cases h : bL rs i with
      | false => rfl
      | true =>
        have hr := (e2 i).mp (aU.mp h)
        have := rH (φ := φ) (fun y hy hy' => hd i hi y ((iD G h0 h1).mp hy)) (fun x hx y hy _ => by
          obtain ⟨x0, x1⟩ := hfr.inn x hx
          have := hd x hx y ((iD G x0 x1).mp hy)
          omega) hr
        omega
    obtain ⟨c9', e⟩ := xo hfr hd is (.val (.int i)) fun x hx => hb x (List.mem_cons_of_mem _ hx)
    refine ⟨c9', ?_⟩
    rw [List.map_cons, cW]
    rw [show ((zR a ps gs who c4 f mi ot fr c9 .non).set 9 (.val (.int i))) = zR a ps gs who c4 f mi ot fr (.val (.int i)) .non from rfl]
    have hb1 : uL (zR a ps gs who c4 f mi ot fr (.val (.int i)) .non) = .ok (.nx (zR a ps gs who c4 f mi ot fr (.val (.int i)) .non)) := by
      unfold uL
      simp only [cu, cf, bj, aN, aB, aH, aj, ao, bH, R.ok_bind, hf1, e1, xN, hm, cq]
      rfl
    rw [hb1, R.ok_bind, dh, e]
theorem xy (hot : cC ps.length ot) {ψ : Int → Int} (hd : ∀ i ∈ ot, ∀ g, Wy ps (ids ps.length) (1 - who) mv i g → ψ g ≤ ψ i ∧ (i ∈ gs → ψ g < ψ i)) : ∀ (is : List Int) (c9 c10 : aW), (∀ x ∈ is, x ∈ ot) →
    ∃ c9' c10', dP (aP 9) u8 (is.map .int) (zR a ps gs who c4 f mi ot fr c9 c10) = .ok (.nx (zR a ps gs who c4 f mi ot fr c9' c10'))
  | [], c9, c10, _ => ⟨c9, c10, by rw [List.map_nil, dn]⟩
  | i :: is, c9, c10, hb => by
    have hi := hb i List.mem_cons_self
    obtain ⟨h0, h1⟩ := hot.inn i hi
    have hp := G.hp
    obtain ⟨rs, e1, e2⟩ := nz G.hl (who := 1 - who) (mv := xa mv ps.length) (mh _ _) h0 h1 (al := ot) hot.inn (by have := hot.len; omega)
    rw [← uY] at e1
    have hm : i ∈ gs → bL rs i = false := fun hgi => by
      cases h : bL rs i with
      | false => rfl
      | true =>
        have hr := (e2 i).mp (aU.mp h)
        have := rH (φ := ψ) (fun y hy hy' => (hd i hi y ((iD G h0 h1).mp hy)).2 hgi) (fun x hx y hy _ => by
          obtain ⟨x0, x1⟩ := hot.inn x hx
          exact (hd x hx y ((iD G x0 x1).mp hy)).1) hr
        omega
    obtain ⟨c9', c10', e⟩ := xy hot hd is (.val (.int i)) (.val (.list (rs.map .int))) fun x hx => hb x (List.mem_cons_of_mem _ hx)
    refine ⟨c9', c10', ?_⟩
    rw [List.map_cons, cW]
    rw [show ((zR a ps gs who c4 f mi ot fr c9 c10).set 9 (.val (.int i))) = zR a ps gs who c4 f mi ot fr (.val (.int i)) c10 from rfl]
    have hb1 : u8 (zR a ps gs who c4 f mi ot fr (.val (.int i)) c10) = .ok (.nx (zR a ps gs who c4 f mi ot fr (.val (.int i)) (.val (.list (rs.map .int))))) := by
      unfold u8
      rw [aE (ρ' := zR a ps gs who c4 f mi ot fr (.val (.int i)) (.val (.list (rs.map .int)))) (by
        simp only [bd, aN, aB, aH, bj, aj, ao, bH, R.ok_bind, pI, hf1, e1]
        rfl)]
      simp only [cu, nQ, cf, bj, aj, ao, R.ok_bind, xO, xN, cq]
      cases hg : bL gs i with
      | false => rfl
      | true => rw [hm (aU.mp hg)]; rfl
    rw [hb1, R.ok_bind, dh, e]
end
theorem w6 (c : Addr) : wR (vb c) := by
  intro ns hns
  obtain ⟨ps, hi, hgr, hpl, hp1, hp24, hi0, hi12⟩ := sL ns (most := 24) (by omega) (by omega)
  have G : Gr ps := CH hpl hp24
  have hp := G.hp
  obtain ⟨v1, hv1, v10, v11⟩ := kR ns (k := 1) (by omega)
  obtain ⟨v2, hv2, v20, v21⟩ := kR ns (k := 2) (by omega)
  obtain ⟨gs, hs2, s2lt, s2in⟩ := zZ (n := v2) (c := ps.length) (by omega) (by omega)
  have hg : cC ps.length gs := ⟨s2lt, s2in⟩
  have hlen : cQ (gD ps) = .ok (.int ps.length) := by simp
  have hw := vE G
  obtain ⟨who, hwho⟩ : ∃ who, who = v2 / 5 % 2 := ⟨_, rfl⟩
  have hw01 : who = 0 ∨ who = 1 := by omega
  have ho01 : ∀ i : Int, i ∈ ids ps.length → av ps i = 0 ∨ av ps i = 1 := fun i hi' => by
    obtain ⟨h0, h1⟩ := cT.mp hi'
    have P := hpl _ (List.getElem_mem (show i.toNat < ps.length by omega))
    rw [fg h0 h1]
    have := P.w0
    have := P.w1
    omega
  have hag := xV G hg hw (who := who) (c := c)
  obtain ⟨win, mv, φ, ψ, A⟩ := rN hw01 hg ps.length (ids ps.length) (cC.ids _) hw (by rw [qu]; exact Nat.le_refl _) ho01
  have eq1 : oT (kU (fun _ => none) (cN ps who gs ps.length (ids ps.length))) ps.length = oT (fun i => some (win i)) ps.length := by
    exact congrArg PyData.tuple (cU fun i h0 h1 => by rw [A.wins, if_pos (cT.mpr ⟨h0, h1⟩)])
  obtain ⟨mv', emv'⟩ : ∃ mv' : Int → Option Int, mv' = fun i => if i ∈ ids ps.length then mv i else none := ⟨_, rfl⟩
  have eq2 : oT (ql (fun _ => none) (cN ps who gs ps.length (ids ps.length))) ps.length = oT mv' ps.length := by
    exact congrArg PyData.tuple (cU fun i h0 h1 => by rw [A.mvs _ i fun _ => rfl, emv'])
  rw [eq1, eq2] at hag
  have hmv : ∀ i ∈ ids ps.length, mv' i = mv i := fun i hi' => by rw [emv']; exact if_pos hi'
  have wy : ∀ {w i g}, i ∈ ids ps.length → Wy ps (ids ps.length) w mv' i g → Wy ps (ids ps.length) w mv i g := fun hi' h => by
    rcases h with ⟨a, b⟩ | h
    · exact .inl ⟨a, by rw [← hmv _ hi']; exact b⟩
    · exact .inr h
  have w01 : ∀ i : Int, 0 ≤ i → i < ps.length → win i = 0 ∨ win i = 1 := fun i h0 h1 => by
    have := A.two i (cT.mpr ⟨h0, h1⟩)
    omega
  obtain ⟨f, hf⟩ : ∃ f, f = PyData.tuple [oT (fun i => some (win i)) ps.length, oT mv' ps.length] := ⟨_, rfl⟩
  have htold := zh (ps := ps) (win := win) (mv := mv') w01 (fun i h0 h1 => by
    have hi' := cT.mpr ⟨h0, h1⟩
    rw [hmv i hi']
    constructor
    · intro z ho
      obtain ⟨g, hg', _⟩ := A.has i hi' ho
      rw [z] at hg'
      cases hg'
    · exact A.non i hi') (fun i g h => by
    rw [emv'] at h
    dsimp only at h
    split at h
    · rename_i hi'
      by_cases ho : av ps i = win i
      · obtain ⟨g', h1, h2⟩ := A.has i hi' ho
        rw [h1] at h
        cases h
        exact h2
      · rw [A.non i hi' ho] at h
        cases h
    · cases h) hf
  have hsame : jR f f = .ok (.bool false) := by rw [hf]; exact vH
  rw [← hf] at hag
  have hf0 : bU f (.int 0) = .ok (oT (fun i => some (win i)) ps.length) := by rw [hf]; rfl
  have hf1 : bU f (.int 1) = .ok (oT mv' ps.length) := by rw [hf]; rfl
  have hr1 : oy [.int (ps.length : Int)] = .ok (bi 0 ps.length) := by rw [Au (by omega) (by omega), Int.toNat_natCast]
  have hrm : bi 0 ps.length = (ids ps.length).map .int := iP _
  -- mine, the other one's
  have hmi := bO (t := tE (e2 (iV) (e2 bU (e2 bU (ad 1) (eC (.int 0))) (ad 0)) (ad 2))) (ρ := [.val f, .val (.int who)]) (p := fun i => decide (win i = who)) (ids ps.length) fun i hi' => by
    obtain ⟨h0, h1⟩ := cT.mp hi'
    simp only [List.set_cons_zero, cf, bj, ao, aj, bH, R.ok_bind, hf0, qW h0 h1, oD, fS, cq]
  have hot := bO (t := tE (e2 (jR) (e2 bU (e2 bU (ad 1) (eC (.int 0))) (ad 0)) (ad 2))) (ρ := [.val f, .val (.int who)]) (p := fun i => !decide (win i = who)) (ids ps.length) fun i hi' => by
    obtain ⟨h0, h1⟩ := cT.mp hi'
    simp only [List.set_cons_zero, cf, bj, ao, aj, bH, R.ok_bind, hf0, qW h0 h1, oD, oM, cq]
  obtain ⟨mi, emi⟩ : ∃ mi, mi = (ids ps.length).filter fun i => decide (win i = who) := ⟨_, rfl⟩
  obtain ⟨ot, eot⟩ : ∃ ot, ot = (ids ps.length).filter fun i => !decide (win i = who) := ⟨_, rfl⟩
  rw [← emi] at hmi
  rw [← eot] at hot
  have mmi : ∀ i, i ∈ mi ↔ i ∈ ids ps.length ∧ win i = who := fun i => by rw [emi, List.mem_filter, decide_eq_true_iff]
  have mot : ∀ i, i ∈ ot ↔ i ∈ ids ps.length ∧ win i ≠ who := fun i => by rw [eot, List.mem_filter, Bool.not_eq_true', decide_eq_false_iff_not]
  have pmi : cC ps.length mi := by rw [emi]; exact (cC.ids _).filter _
  have pot : cC ps.length ot := by rw [eot]; exact (cC.ids _).filter _
  have wot : ∀ i ∈ ot, i ∈ ids ps.length ∧ win i = 1 - who := fun i hi' => by
    obtain ⟨a, b⟩ := (mot i).mp hi'
    exact ⟨a, (A.two i a).resolve_left b⟩
  have hin1 := oF G.hl (mv := xa mv' ps.length) (who := who) (mh _ _) (qs := mi) pmi.inn
  rw [rb G pmi.inn (fun i hi' g hg' => by
    obtain ⟨a, b⟩ := (mmi i).mp hi'
    obtain ⟨s1, s2⟩ := A.stay i a g (by rw [b]; exact wy a hg')
    exact (mmi g).mpr ⟨s1, s2.trans b⟩) (fun i hi' ho => by
    obtain ⟨a, b⟩ := (mmi i).mp hi'
    obtain ⟨g, g1, _⟩ := A.has i a (ho.trans b.symm)
    exact ⟨g, by rw [hmv i a]; exact g1⟩), ← uY] at hin1
  have hin2 := oF G.hl (mv := xa mv' ps.length) (who := 1 - who) (mh _ _) (qs := ot) pot.inn
  rw [rb G pot.inn (fun i hi' g hg' => by
    obtain ⟨a, b⟩ := wot i hi'
    obtain ⟨s1, s2⟩ := A.stay i a g (by rw [b]; exact wy a hg')
    exact (mot g).mpr ⟨s1, by rw [s2, b]; omega⟩) (fun i hi' ho => by
    obtain ⟨a, b⟩ := wot i hi'
    obtain ⟨g, g1, _⟩ := A.has i a (ho.trans b.symm)
    exact ⟨g, by rw [hmv i a]; exact g1⟩), ← uY] at hin2
  have hfr := bO (t := tE (e2 (iJ true) (ad 0) (ad 1))) (ρ := [.val (.tuple (gs.map .int))]) (p := fun i => !bL gs i) mi fun k _ => by simp [xO]
  obtain ⟨fr, efr⟩ : ∃ fr, fr = eO mi gs := ⟨_, rfl⟩
  have pfr : cC ps.length fr := by rw [efr]; exact pmi.filter _
  rw [show (mi.filter fun i => !bL gs i) = fr from efr.symm] at hfr
  have mfr : ∀ i, i ∈ fr ↔ i ∈ mi ∧ i ∉ gs := fun i => by rw [efr]; exact fY
  have da : ∀ i ∈ fr, ∀ g, Wy ps (ids ps.length) who mv' i g → φ g < φ i := fun i hi' g hg' => by
    obtain ⟨a, b⟩ := (mfr i).mp hi'
    obtain ⟨a1, a2⟩ := (mmi i).mp a
    exact A.mine i a1 a2 b g (wy a1 hg')
  have db : ∀ i ∈ ot, ∀ g, Wy ps (ids ps.length) (1 - who) mv' i g → ψ g ≤ ψ i ∧ (i ∈ gs → ψ g < ψ i) := fun i hi' g hg' => by
    obtain ⟨a, b⟩ := wot i hi'
    exact A.oth i a b g (wy a hg')
  have hmil := pmi.len
  have hotl := pot.len
  -- the odd goals
  obtain ⟨c4, hodd⟩ : ∃ c4, (hJ (tE (e2 (iV) (e2 eS (aD aL (ag (ad 0) (ag (eC (.int 1)) ay))) (eC (.int 6))) (eC (.int 1)))) (aO (bJ 4 (e2 bU (gr (ag (gt (ag (e1 cQ (ad 1)) ay)) (ag (e2 ez (ad 2) (e2 dM (gt (ag (eC (.int 0)) ay)) (eC (.int 2)))) (ag (gr (ag (eC (.int 0)) ay)) (ag (gt (ag (e1 sd (eC (.int 1))) ay)) (ag (gt (ag (eC (.bool true)) ay)) (ag (eC .none) (ag (gt (ag (eC (.int 0)) (ag (eC (.int 0)) ay))) ay)))))))) (e2 eS (e2 kD (aD aL (ag (ad 0) (ag (eC (.int 1)) ay))) (eC (.int 6))) (eC (.int 7))))) (hJ (ej (tE (aD (bK c) (ag (ad 1) (ag (ad 3) (ag (ad 4) ay)))))) (bG (eC (.bool false))) bB)) bB)
      [.val (kZ ns), .val (gD ps), .val (.tuple (gs.map .int)), .val (.int who), .non, .non, .non, .non, .non, .non, .non] = .ok (.nx [.val (kZ ns), .val (gD ps), .val (.tuple (gs.map .int)), .val (.int who), c4, .non, .non, .non, .non, .non, .non]) := by
    have ht : (tE (e2 (iV) (e2 eS (aD aL (ag (ad 0) (ag (eC (.int 1)) ay))) (eC (.int 6))) (eC (.int 1)))) [.val (kZ ns), .val (gD ps), .val (.tuple (gs.map .int)), .val (.int who), .non, .non, .non, .non, .non, .non, .non] = .ok (decide (v1 % 6 = 1)) := by
      simp only [cf, bj, aN, aB, aH, ao, bH, R.ok_bind, hv1, pN]
      rw [if_pos (by decide), R.ok_bind, fS, R.ok_bind, cq]
    by_cases h6 : v1 % 6 = 1
    · obtain ⟨L, hL⟩ : ∃ L : List PyData, L = [.tuple [.int ps.length], .tuple (gs.map .int ++ [.int 0, .int 0]), .list [.int 0], .tuple [.int (-1)], .tuple [.bool true], .none, .tuple [.int 0, .int 0]] := ⟨_, rfl⟩
      have a0 : 0 ≤ v1 / 6 % 7 := by omega
      have a1 : v1 / 6 % 7 < L.length := by rw [hL]; show v1 / 6 % 7 < 7; omega
      have hmem : L[(v1 / 6 % 7).toNat]'(by omega) ∈ L := List.getElem_mem _
      obtain ⟨d, ed⟩ : ∃ d, d = L[(v1 / 6 % 7).toNat]'(by omega) := ⟨_, rfl⟩
      have hdx : bU (.list L) (.int (v1 / 6 % 7)) = .ok d := by rw [oS a0 a1, ed]
      rw [← ed] at hmem
      have hbad : eA d ∧ qQ ps.length d = false := by
        rw [hL] at hmem
        simp only [List.mem_cons, List.not_mem_nil, or_false] at hmem
        rcases hmem with rfl | rfl | rfl | rfl | rfl | rfl | rfl
        · exact ⟨mo [(ps.length : Int)], by simp [iF]⟩
        · refine ⟨?_, uT _ gs 0 (by omega)⟩
          have := mo (gs ++ [0, 0])
          rwa [List.map_append] at this
        · exact ⟨v7.mpr fun x hx => by simp at hx; subst hx; exact nE _, rfl⟩
        · exact ⟨mo [-1], by simp [iF]⟩
        · exact ⟨gg.mpr fun x hx => by simp at hx; subst hx; exact vU _, by simp [iF]⟩
        · exact ⟨oQ, rfl⟩
        · exact ⟨mo [0, 0], by simp [iF]⟩
      have href := sJ (c := c) (who := who) hbad.1 hbad.2
      refine ⟨.val d, ?_⟩
      rw [cu, ht, R.ok_bind, if_pos (decide_eq_true h6)]
      have hlst : (gr (ag (gt (ag (e1 cQ (ad 1)) ay)) (ag (e2 ez (ad 2) (e2 dM (gt (ag (eC (.int 0)) ay)) (eC (.int 2)))) (ag (gr (ag (eC (.int 0)) ay)) (ag (gt (ag (e1 sd (eC (.int 1))) ay)) (ag (gt (ag (eC (.bool true)) ay)) (ag (eC .none) (ag (gt (ag (eC (.int 0)) (ag (eC (.int 0)) ay))) ay)))))))) [.val (kZ ns), .val (gD ps), .val (.tuple (gs.map .int)), .val (.int who), .non, .non, .non, .non, .non, .non, .non] = .ok (.list L) := by
        have s7 : (7 : Nat) ≤ sizeLine := by decide
        have s2 : (2 : Nat) ≤ sizeLine := by decide
        have s1 : (1 : Nat) ≤ sizeLine := by decide
        have hm : dM (.tuple [.int 0]) (.int 2) = .ok (.tuple [.int 0, .int 0]) := by
          exact yi ⟨by simp, by decide, by decide, s2⟩
        have hgl := hg.len
        simp only [kP, qg, aB, aH, cz, bj, ao, aj, bH, R.ok_bind, hlen, List.length_cons, List.length_nil, Nat.zero_add, s1, if_true, hm, Bc, Bp]
        rw [if_pos (by rw [List.length_map]; exact ce (by omega)), R.ok_bind]
        simp only [R.ok_bind, Nat.reduceAdd, s2, if_true]
        rw [← hL, if_pos (by rw [hL]; exact s7)]
      rw [aE (ρ' := [.val (kZ ns), .val (gD ps), .val (.tuple (gs.map .int)), .val (.int who), .val d, .non, .non, .non, .non, .non, .non]) (by
        rw [bd, bj, hlst, R.ok_bind]
        simp only [bj, aN, aB, aH, ao, bH, R.ok_bind, hv1, wY]
        rw [if_pos (by decide), R.ok_bind, pN, if_pos (by decide), R.ok_bind, hdx]
        rfl)]
      simp only [cu, fy, cf, aN, aB, aH, ao, aj, R.ok_bind, href, cq]
      rfl
    · exact ⟨.non, by rw [cu, ht, R.ok_bind, if_neg (by rw [decide_eq_true_iff]; exact h6)]; rfl⟩
  obtain ⟨c9, hloopA⟩ := xo (a := kZ ns) (gs := gs) (who := who) (c4 := c4) (f := f) (mi := mi) (ot := ot) G hf1 pfr da fr .non fun x hx => hx
  obtain ⟨d9, d10, hloopB⟩ := xy (a := kZ ns) (gs := gs) (who := who) (c4 := c4) (f := f) (mi := mi) (fr := fr) G hf1 pot db ot c9 .non fun x hx => hx
  unfold vb yp
  refine eB ?_
  rw [show ([kZ ns].map aW.val ++ List.replicate (11 - [kZ ns].length) aW.non) = [.val (kZ ns), .non, .non, .non, .non, .non, .non, .non, .non, .non, .non] from rfl]
  rw [aE (ρ' := [.val (kZ ns), .val (gD ps), .non, .non, .non, .non, .non, .non, .non, .non, .non]) (by
    simp only [bd, aN, aB, aH, ao, bH, R.ok_bind, hgr]; rfl)]
  rw [aE (ρ' := [.val (kZ ns), .val (gD ps), .val (.tuple (gs.map .int)), .non, .non, .non, .non, .non, .non, .non, .non]) (by
    simp only [bd, aN, aB, aH, cz, ao, aj, bH, R.ok_bind, hv2, hlen, hs2]; rfl)]
  rw [aE (ρ' := [.val (kZ ns), .val (gD ps), .val (.tuple (gs.map .int)), .val (.int who), .non, .non, .non, .non, .non, .non, .non]) (by
    simp only [bd, bj, aN, aB, aH, ao, bH, R.ok_bind, hv2, wY, pN]
    rw [if_pos (by decide), R.ok_bind, pN, if_pos (by decide), hwho]; rfl)]
  rw [aE hodd]
  rw [aE (ρ' := [.val (kZ ns), .val (gD ps), .val (.tuple (gs.map .int)), .val (.int who), c4, .val f, .non, .non, .non, .non, .non]) (by
    simp only [bd, aN, aB, aH, ao, aj, R.ok_bind, hag]; rfl)]
  rw [aE (ρ' := [.val (kZ ns), .val (gD ps), .val (.tuple (gs.map .int)), .val (.int who), c4, .val f, .non, .non, .non, .non, .non]) (by
    simp only [cu, jv, fy, cf, bj, aN, aB, aH, ao, aj, R.ok_bind, htold, hag, hsame, cq]; rfl)]
  rw [aE (ρ' := [.val (kZ ns), .val (gD ps), .val (.tuple (gs.map .int)), .val (.int who), c4, .val f, .val (.list (mi.map .int)), .non, .non, .non, .non]) (by
    rw [bd, bF, show aA 1 [5, 3] [.val (kZ ns), .val (gD ps), .val (.tuple (gs.map .int)), .val (.int who), c4, .val f, .non, .non, .non, .non, .non] = [.non, .val f, .val (.int who)] from rfl]
    simp only [ln, aB, aH, cz, ao, aj, R.ok_bind, hlen, hr1, cM]
    rw [if_pos (by rw [dB]; exact ce (by omega)), hrm, hmi]
    rfl)]
  rw [aE (ρ' := [.val (kZ ns), .val (gD ps), .val (.tuple (gs.map .int)), .val (.int who), c4, .val f, .val (.list (mi.map .int)), .val (.list (ot.map .int)), .non, .non, .non]) (by
    rw [bd, bF, show aA 1 [5, 3] [.val (kZ ns), .val (gD ps), .val (.tuple (gs.map .int)), .val (.int who), c4, .val f, .val (.list (mi.map .int)), .non, .non, .non, .non] = [.non, .val f, .val (.int who)] from rfl]
    simp only [ln, aB, aH, cz, ao, aj, R.ok_bind, hlen, hr1, cM]
    rw [if_pos (by rw [dB]; exact ce (by omega)), hrm, hot]
    rfl)]
  rw [aE (ρ' := [.val (kZ ns), .val (gD ps), .val (.tuple (gs.map .int)), .val (.int who), c4, .val f, .val (.list (mi.map .int)), .val (.list (ot.map .int)), .non, .non, .non]) (by
    simp only [cu, jv, fy, cf, bj, aN, aB, aH, ao, aj, bH, R.ok_bind, hf1, pI, hin1, hin2, cq]; rfl)]
  rw [aE (ρ' := zR (kZ ns) ps gs who c4 f mi ot fr .non .non) (by
    rw [bd, bF, show aA 1 [2] [.val (kZ ns), .val (gD ps), .val (.tuple (gs.map .int)), .val (.int who), c4, .val f, .val (.list (mi.map .int)), .val (.list (ot.map .int)), .non, .non, .non] = [.non, .val (.tuple (gs.map .int))] from rfl]
    simp only [bZ, ao, aj, R.ok_bind, iL, cM]
    rw [if_pos (by rw [List.length_map]; exact ce (by omega)), hfr]
    rfl)]
  rw [aE (ρ' := zR (kZ ns) ps gs who c4 f mi ot fr c9 .non) (by
    rw [dU, dR, bZ]
    simp only [ao, aj, R.ok_bind, iL]
    unfold uL at hloopA
    rw [hloopA]
    rfl)]
  rw [aE (ρ' := zR (kZ ns) ps gs who c4 f mi ot fr d9 d10) (by
    rw [dU, dR, bZ]
    simp only [ao, aj, R.ok_bind, iL]
    unfold u8 at hloopB
    rw [hloopB]
    rfl)]
  rfl
def Dd : List Stmt := PySem.Challenge.pw_duelground_k20_whole_again.main.body
abbrev top (i : Nat) : Stmt := Dd.getD i (.Pass ⟨0, 0, 0, 0⟩)
abbrev gN : Stmt := top 27
abbrev i0 : Stmt := top 28
abbrev iY : Stmt := top 29
abbrev jr : Stmt := top 30
abbrev jn : Stmt := top 31
abbrev fU : Stmt := top 32
abbrev iA : Stmt := top 35
abbrev fW : Stmt := top 37
abbrev gG : Stmt := top 36
abbrev iy : Stmt := top 11
abbrev jX : Stmt := top 6
abbrev iN : Stmt := top 7
abbrev jW : Stmt := top 8
abbrev ku : Stmt := top 12
abbrev dW : Stmt := top 15
abbrev kl : Stmt := top 21
abbrev dg : Stmt := top 22
abbrev gv : Stmt := top 19
abbrev dX : Stmt := top 20
abbrev iI : Stmt := top 14
abbrev fL : Stmt := top 16
abbrev jx : Stmt := top 13
abbrev eE : Stmt := top 24
abbrev cS : Stmt := top 17
abbrev qh : Stmt := top 25
abbrev gP : Stmt := top 39
abbrev iC : Stmt := top 33
abbrev fq : Stmt := top 34
abbrev fM : Stmt := top 38
abbrev iT : Stmt := top 40
section
variable {P : Program} {w : World} {K : PySem.W.Frag} {mg : Str → Option Value} {base : Heap} {f : Addr} {fd : FuncData} {k : Nat}
abbrev jt : Stmt := Ac (top 10) 0
theorem zN : aQ ["self", "who", "places", "moves"] ["self", "who", "places", "moves"] (ai jt) := ⟨rfl, rfl, rfl, by decide +kernel, rfl, by decide +kernel, by decide +kernel⟩
theorem zx {P : Program} {w : World} {K : PySem.W.Frag} {mg : Str → Option Value} {base : Heap} {f C : Addr} {fd : FuncData} (F : ie K "__init__" "Share.__init__" jt f fd) (cl : vZ K C) (n0 : dw K C "who") (n1 : dw K C "places") (n2 : dw K C "moves") :
    aV P w K mg base (cK P w mg) 1 f fd ["self", "who", "places", "moves"] (Cf C ["who", "places", "moves"]) := by
  obtain ⟨oc, od, kV, doc, pm, an, cdv, ct, osl, rfl, lk, hcd⟩ := F.ex
  refine xR (k := 0) lk hcd zN (fun vs H Q E h => ?_) fun A outer s H vs Q E hr h => ?_
  · obtain ⟨x, dx, ws, rfl, _, hl, _⟩ := h
    rw [List.length_cons, hl]
    rfl
  · obtain ⟨x, dx, ws, rfl, hx, hl, k⟩ := h
    match ws, hl with
    | [w1, w2, w3], _ =>
      refine ⟨_, nV (uf (pv 0) (pv 1) rfl) (nV (uf (pv 0) (pv 2) rfl) (va (uf (pv 0) (pv 3) rfl))), ?_⟩
      refine ⟨_, rfl, _, rfl, x, C, dx, [], rfl, hx, cl, n0, (by show 0 < 1000; decide), _, rfl, _, rfl, x, C, dx, _, rfl, aX, cl, n1, (by show 1 < 1000; decide), _, rfl, _, rfl, x, C, dx, _, rfl, aX, cl, n2, (by refine Nat.lt_of_le_of_lt (gw _ _ _) ?_; exact Nat.lt_of_le_of_lt (Nat.succ_le_succ (gw _ _ _)) (by show 2 < 1000; decide)), ?_⟩
      refine k _ (by rw [aX, Du (by decide +kernel) (by decide +kernel) (by decide +kernel)]; rfl) fun b hb => ?_
      rw [ar hb, ar hb, ar hb]
theorem oq : aQ ["_law_script", "_law_k"] ["_law_script", "_law_k"] (ai gN) := ⟨rfl, rfl, rfl, by decide +kernel, rfl, by decide +kernel, by decide +kernel⟩
theorem n5 (W : ie K "_law_cell_at" "_law_cell_at" gN f fd) (b_len : mg "len" = none) :
    aV P w K mg base (cK P w mg) (k + 1) f fd ["_law_script", "_law_k"] (dm (dL 2 (gT)) 2) := by
  refine Z.fn_dataT W oq (G := ["len"]) (by decide +kernel) fun cdv A outer s H E hr T => ?_
  exact (Z.am (Z.cX (Z.qe (Z.ah.b (Z.aa T 1 rfl)) (Z.ah.b (Z.cG T 0 rfl b_len (Z.ah.b (Z.aa T 0 rfl))))) (Z.ax (Z.aM (Z.br T.hu (Z.ah.b (Z.aa T 0 rfl)) (Z.ah.b (Z.aa T 1 rfl)) (fun _ _ => rfl)))) Z.bT)
      (Z.ax (Z.aM Z.ak)))
theorem rZ : aQ ["_law_script", "_law_k", "_law_drawn_here"] ["_law_script", "_law_k"] (ai i0) := ⟨rfl, rfl, rfl, by decide +kernel, rfl, by decide +kernel, by decide +kernel⟩
theorem rm (W : ie K "_law_mixed" "_law_mixed" i0 f fd) {f16 : Addr} {d16 : FuncData} {bX : gM} (C16 : hU P w K mg base k "_law_cell_at" ["_law_script", "_law_k"] bX f16 d16) :
    aV P w K mg base (cK P w mg) (k + 1) f fd ["_law_script", "_law_k"] (dm (dL 3 (i4 bX)) 2) := by
  refine Z.fn_dataT W rZ (G := ["_law_cell_at"]) (by decide +kernel) fun cdv A outer s H E hr T => ?_
  exact (Z.am (Z.ba T 2 rfl (Z.cL (Z.ah.b (Z.fN (Z.ah.b (Z.dl (Z.ah.b (Z.dl (Z.ah.b (Z.aJ C16 hr T 0 rfl (Z.af (Z.aa T 0 rfl) (Z.af (Z.aa T 1 rfl) Z.aq)) rfl (ae (ae ap)))) (Z.ah.b (Z.fN (Z.ah.b Z.ak) (Z.ah.b (Z.aa T 1 rfl)))))) (Z.ah.b Z.ak))) (Z.ah.b Z.ak))) (Z.ah.b Z.ak)))
      (Z.ax (Z.aM (Z.cL (Z.ah.b (Z.dl (Z.ah.b (Z.dl (Z.ah.b (Z.fN (Z.ah.b (Z.aa T 2 rfl)) (Z.ah.b (Z.aa T 2 rfl)))) (Z.ah.b (Z.fN (Z.ah.b Z.ak) (Z.ah.b (Z.aa T 2 rfl)))))) (Z.ah.b (Z.aa T 1 rfl)))) (Z.ah.b Z.ak)))))
theorem rY : aQ ["_law_number", "_law_k", "_law_drawn_here"] ["_law_number", "_law_k"] (ai iY) := ⟨rfl, rfl, rfl, by decide +kernel, rfl, by decide +kernel, by decide +kernel⟩
theorem rS (W : ie K "_law_drawn" "_law_drawn" iY f fd) :
    aV P w K mg base (cK P w mg) (k + 1) f fd ["_law_number", "_law_k"] (dm (dL 3 (i8)) 2) := by
  refine Z.fn_dataT W rY (G := []) (by decide +kernel) fun cdv A outer s H E hr T => ?_
  exact (Z.am (Z.ba T 2 rfl (Z.cL (Z.ah.b (Z.fN (Z.ah.b (Z.dl (Z.ah.b (Z.dl (Z.ah.b (Z.aa T 0 rfl)) (Z.ah.b (Z.fN (Z.ah.b Z.ak) (Z.ah.b (Z.aa T 1 rfl)))))) (Z.ah.b Z.ak))) (Z.ah.b Z.ak))) (Z.ah.b Z.ak)))
      (Z.ax (Z.aM (Z.cL (Z.ah.b (Z.dl (Z.ah.b (Z.dl (Z.ah.b (Z.fN (Z.ah.b (Z.aa T 2 rfl)) (Z.ah.b (Z.aa T 2 rfl)))) (Z.ah.b (Z.fN (Z.ah.b Z.ak) (Z.ah.b (Z.aa T 2 rfl)))))) (Z.ah.b (Z.aa T 1 rfl)))) (Z.ah.b Z.ak)))))
theorem qU : aQ ["_law_number", "_law_count", "_law_found", "_law_k"] ["_law_number", "_law_count"] (ai jr) := ⟨rfl, rfl, rfl, by decide +kernel, rfl, by decide +kernel, by decide +kernel⟩
theorem rL (W : ie K "_law_goals" "_law_goals" jr f fd) {f18 : Addr} {d18 : FuncData} {aG : gM} (C18 : hU P w K mg base k "_law_drawn" ["_law_number", "_law_k"] aG f18 d18) (b_int : mg "int" = none) (b_range : mg "range" = none) (b_sorted : mg "sorted" = none) (b_tuple : mg "tuple" = none) :
    aV P w K mg base (cK P w mg) (k + 1) f fd ["_law_number", "_law_count"] (dm (dL 4 (je aG)) 2) := by
  refine Z.fn_dataT W qU (G := ["range", "int", "_law_drawn", "tuple", "sorted"]) (by decide +kernel) fun cdv A outer s H E hr T => ?_
  exact (Z.am (Z.j6 T 2 rfl Z.lC)
      (Z.am (Z.cJ (have T := T.nox; Z.eN PassesOwn.never T.calm (Z.eh T 0 rfl b_range (Z.af (Z.dl (Z.ah.b (Z.dl (Z.ah.b Z.ak) (Z.ah.b (Z.cL (Z.ah.b (Z.aa T 0 rfl)) (Z.ah.b Z.ak))))) (Z.ah.b (Z.fN (Z.ah.b Z.ak) (Z.ah.b (Z.pE T 1 rfl b_int (Z.ah.b (Z.ux T.hu (Z.ah.b (Z.cL (Z.ah.b (Z.gI (Z.ah.b (Z.aa T 0 rfl)) (Z.ah.b Z.ak))) (Z.ah.b Z.ak))) (Z.ah.b Z.ak)))))))) Z.aq) (ae ap)) (Z.a9 T 3 rfl) (Z.ax (Z.uc T 2 rfl (Z.cL (Z.ah.b (Z.aJ C18 hr T 2 rfl (Z.af (Z.aa T 0 rfl) (Z.af (Z.aa T 3 rfl) Z.aq)) rfl (ae (ae ap)))) (Z.ah.b (Z.aa T 1 rfl))) Z.bx))))
      (Z.ax (Z.aM (Z.cH T 3 rfl b_tuple (Z.fO.b (Z.j9 T 4 rfl b_sorted (Z.eJ T 2 rfl))))))))
theorem qL : aQ ["_law_number", "_law_count", "_law_high", "_law_gain"] ["_law_number", "_law_count", "_law_high"] (ai jn) := ⟨rfl, rfl, rfl, by decide +kernel, rfl, by decide +kernel, by decide +kernel⟩
theorem re (W : ie K "_law_place" "_law_place" jn f fd) {f18 : Addr} {d18 : FuncData} {aG : gM} (C18 : hU P w K mg base k "_law_drawn" ["_law_number", "_law_k"] aG f18 d18) {f19 : Addr} {d19 : FuncData} {cI : gM} (C19 : hU P w K mg base k "_law_goals" ["_law_number", "_law_count"] cI f19 d19) :
    aV P w K mg base (cK P w mg) (k + 1) f fd ["_law_number", "_law_count", "_law_high"] (dm (dL 4 (jc aG cI)) 3) := by
  refine Z.fn_dataT W qL (G := ["_law_goals", "_law_drawn"]) (by decide +kernel) fun cdv A outer s H E hr T => ?_
  exact (Z.am (Z.ba T 3 rfl (Z.ig (Z.ah.b (Z.cL (Z.ah.b (Z.gI (Z.ah.b (Z.aa T 0 rfl)) (Z.ah.b Z.ak))) (Z.ah.b Z.ak))) (Z.ah.b Z.ak)))
      (Z.am (Z.cX (Z.fj T.hu (Z.ah.b (Z.cL (Z.ah.b (Z.gI (Z.ah.b (Z.aa T 0 rfl)) (Z.ah.b Z.ak))) (Z.ah.b Z.ak))) (Z.ah.b Z.ak)) (Z.ax (Z.ba T 3 rfl (Z.ig (Z.ah.b (Z.cL (Z.ah.b (Z.gI (Z.ah.b (Z.aa T 0 rfl)) (Z.ah.b Z.ak))) (Z.ah.b Z.ak))) (Z.ah.b Z.ak)))) Z.bT)
      (Z.ax (Z.aM (Z.gZ (Z.af (Z.cL (Z.ah.b (Z.aa T 0 rfl)) (Z.ah.b Z.ak)) (Z.af (Z.cL (Z.ah.b (Z.gI (Z.ah.b (Z.aa T 0 rfl)) (Z.ah.b Z.ak))) (Z.ah.b (Z.dl (Z.ah.b (Z.aa T 2 rfl)) (Z.ah.b Z.ak)))) (Z.af (Z.aa T 3 rfl) (Z.af (Z.aJ C19 hr T 0 rfl (Z.af (Z.aJ C18 hr T 1 rfl (Z.af (Z.aa T 0 rfl) (Z.af Z.ak Z.aq)) rfl (ae (ae ap))) (Z.af (Z.aa T 1 rfl) Z.aq)) rfl (ae (ae ap))) Z.aq)))))))))
theorem o8 : aQ ["_law_script", "_law_most", "_law_number", "_law_count", "_law_high"] ["_law_script", "_law_most"] (ai fU) := ⟨rfl, rfl, rfl, by decide +kernel, rfl, by decide +kernel, by decide +kernel⟩
theorem qf (W : ie K "_law_ground" "_law_ground" fU f fd) {f17 : Addr} {d17 : FuncData} {aL : gM} (C17 : hU P w K mg base k "_law_mixed" ["_law_script", "_law_k"] aL f17 d17) {f20 : Addr} {d20 : FuncData} {cr : gM} (C20 : hU P w K mg base k "_law_place" ["_law_number", "_law_count", "_law_high"] cr f20 d20) (b_len : mg "len" = none) (b_max : mg "max" = none) (b_min : mg "min" = none) (b_range : mg "range" = none) (b_tuple : mg "tuple" = none) :
    aV P w K mg base (cK P w mg) (k + 1) f fd ["_law_script", "_law_most"] (dm (dL 5 (iu aL cr)) 2) := by
  refine Z.fn_dataT W o8 (G := ["_law_mixed", "min", "max", "len", "tuple", "range"]) (by decide +kernel) fun cdv A outer s H E hr T => ?_
  exact (Z.am (Z.ba T 2 rfl (Z.aJ C17 hr T 0 rfl (Z.af (Z.aa T 0 rfl) (Z.af Z.ak Z.aq)) rfl (ae (ae ap))))
      (Z.am (Z.ba T 3 rfl (Z.dl (Z.ah.b Z.ak) (Z.ah.b (Z.cL (Z.ah.b (Z.aa T 2 rfl)) (Z.ah.b (Z.si T 1 rfl b_min (Z.ah.b (Z.aa T 1 rfl)) (Z.ah.b (Z.tT T 2 rfl b_max (Z.ah.b Z.ak) (Z.ah.b (Z.cG T 3 rfl b_len (Z.ah.b (Z.aa T 0 rfl))))))))))))
      (Z.am (Z.ba T 4 rfl (Z.br T.hu (Z.fO.b (Z.eP (Z.af Z.ak (Z.af Z.ak (Z.af Z.ak (Z.af Z.ak (Z.af Z.ak (Z.af Z.ak Z.aq)))))))) (Z.ah.b (Z.cL (Z.ah.b (Z.gI (Z.ah.b (Z.aa T 2 rfl)) (Z.ah.b Z.ak))) (Z.ah.b Z.ak))) (fun _ _ => rfl)))
      (Z.ax (Z.aM (Z.cH T 4 rfl b_tuple (Z.fO.b (Z.cc (N := ["_law_k", "_law_script", "_law_count", "_law_high"]) (own := 1) (G := ["_law_place", "_law_mixed"]) (fr := [0, 3, 4]) T rfl rfl (oN := ["_law_script", "_law_most", "_law_number", "_law_count", "_law_high"]) (on := (ai fU).names) (by decide +kernel) (Z.eh T 5 rfl b_range (Z.af (Z.aa T 3 rfl) Z.aq) (ae ap)) (bu (by decide)) (fun cl C s' H' fp T => ⟨(Z.a9 T 0 rfl), Z.io, (Z.aJ C20 hr T 0 rfl (Z.af (Z.aJ C17 hr T 1 rfl (Z.af (Z.aa T 1 rfl) (Z.af (Z.dl (Z.ah.b Z.ak) (Z.ah.b (Z.aa T 0 rfl))) Z.aq)) rfl (ae (ae ap))) (Z.af (Z.aa T 2 rfl) (Z.af (Z.aa T 3 rfl) Z.aq))) rfl (ae (ae (ae ap))))⟩)))))))))
theorem tS : aQ ["_law_ground_here", "_law_who", "_law_moves", "_law_place_here"] ["_law_ground_here", "_law_who", "_law_moves", "_law_place_here"] (ai iA) := ⟨rfl, rfl, rfl, by decide +kernel, rfl, by decide +kernel, by decide +kernel⟩
theorem sw (W : ie K "_law_ways" "_law_ways" iA f fd) (b_list : mg "list" = none) :
    aV P w K mg base (cK P w mg) (k + 1) f fd ["_law_ground_here", "_law_who", "_law_moves", "_law_place_here"] (dm (dL 4 (jZ)) 4) := by
  refine Z.fn_dataT W tS (G := ["list"]) (by decide +kernel) fun cdv A outer s H E hr T => ?_
  exact (Z.am (Z.cX (Z.fj T.hu (Z.ah.b (Z.br T.hu (Z.ah.b (Z.br T.hu (Z.ah.b (Z.aa T 0 rfl)) (Z.ah.b (Z.aa T 3 rfl)) (fun _ _ => rfl))) (Z.ah.b Z.ak) (fun _ _ => rfl))) (Z.ah.b (Z.aa T 1 rfl))) (Z.ax (Z.aM (Z.fO.e (Z.cc (N := ["_law_move"]) (own := 1) (G := []) (fr := []) T rfl rfl (oN := ["_law_ground_here", "_law_who", "_law_moves", "_law_place_here"]) (on := (ai iA).names) (by decide +kernel) (Z.cn (Z.fO.e (Z.eP (Z.af (Z.br T.hu (Z.ah.b (Z.aa T 2 rfl)) (Z.ah.b (Z.aa T 3 rfl)) (fun _ _ => rfl)) Z.aq)))) (bu (by decide)) (fun cl C s' H' fp T => ⟨(Z.a9 T 0 rfl), (Z.dZ (Z.gm (Z.ah.b (Z.aa T 0 rfl)) (Z.ah.b Z.de))), (Z.aa T 0 rfl)⟩))))) Z.bT)
      (Z.ax (Z.aM (Z.fO.e (Z.jh T 0 rfl b_list (Z.ah.b (Z.br T.hu (Z.ah.b (Z.br T.hu (Z.ah.b (Z.aa T 0 rfl)) (Z.ah.b (Z.aa T 3 rfl)) (fun _ _ => rfl))) (Z.ah.b Z.ak) (fun _ _ => rfl))))))))
theorem pF : aQ ["_law_ground_here", "_law_who", "_law_moves", "_law_places", "_law_place_here", "_law_ways_here"] ["_law_ground_here", "_law_who", "_law_moves", "_law_places"] (ai fW) := ⟨rfl, rfl, rfl, by decide +kernel, rfl, by decide +kernel, by decide +kernel⟩
theorem p9 (W : ie K "_law_inside" "_law_inside" fW f fd) {f24 : Addr} {d24 : FuncData} {a6 : gM} (C24 : hU P w K mg base k "_law_ways" ["_law_ground_here", "_law_who", "_law_moves", "_law_place_here"] a6 f24 d24) :
    aV P w K mg base (cK P w mg) (k + 1) f fd ["_law_ground_here", "_law_who", "_law_moves", "_law_places"] (dm (dL 6 (ir a6)) 4) := by
  refine Z.fn_dataT W pF (G := ["_law_ways"]) (by decide +kernel) fun cdv A outer s H E hr T => ?_
  exact (Z.am (Z.cJ (have T := T.nox; Z.eN PassesOwn.never T.calm (Z.cn (Z.aa T 3 rfl)) (Z.a9 T 4 rfl) (Z.am (Z.ba T 5 rfl (Z.aJ C24 hr T 0 rfl (Z.af (Z.aa T 0 rfl) (Z.af (Z.aa T 1 rfl) (Z.af (Z.aa T 2 rfl) (Z.af (Z.aa T 4 rfl) Z.aq)))) rfl (ae (ae (ae (ae ap))))))
      (Z.ax (Z.cX (Z.jN.t (Z.ff (Z.fj T.hu (Z.ah.b (Z.aa T 5 rfl)) (Z.fO.b (Z.eP Z.aq))) (Z.eI (Z.gS T.hu (Z.fO.b (Z.cc (N := ["_law_way", "_law_places"]) (own := 1) (G := []) (fr := [3]) T rfl rfl (oN := ["_law_ground_here", "_law_who", "_law_moves", "_law_places", "_law_place_here", "_law_ways_here"]) (on := (ai fW).names) (by decide +kernel) (Z.cn (Z.aa T 5 rfl)) (bu (by decide)) (fun cl C s' H' fp T => ⟨(Z.a9 T 0 rfl), (Z.dZ (Z.em T.hu (Z.ah.b (Z.aa T 0 rfl)) (Z.ah.b (Z.aa T 1 rfl)) (by with_unfolding_all rfl))), (Z.aa T 0 rfl)⟩))) (Z.fO.b (Z.eP Z.aq)))))) (Z.ax (Z.aM Z.bx)) Z.bT)))))
      (Z.ax (Z.aM Z.bx)))
theorem n6 : aQ ["_law_ground_here", "_law_who", "_law_moves", "_law_start", "_law_allowed", "_law_found", "_law_todo", "_law_place_here"] ["_law_ground_here", "_law_who", "_law_moves", "_law_start", "_law_allowed"] (ai gG) := ⟨rfl, rfl, rfl, by decide +kernel, rfl, by decide +kernel, by decide +kernel⟩
theorem n9 (W : ie K "_law_reached" "_law_reached" gG f fd) {f24 : Addr} {d24 : FuncData} {a6 : gM} (C24 : hU P w K mg base k "_law_ways" ["_law_ground_here", "_law_who", "_law_moves", "_law_place_here"] a6 f24 d24) :
    aV P w K mg base (cK P w mg) (k + 1) f fd ["_law_ground_here", "_law_who", "_law_moves", "_law_start", "_law_allowed"] (dm (dL 8 (gQ a6)) 5) := by
  refine Z.fn_dataT W n6 (G := ["_law_ways"]) (by decide +kernel) fun cdv A outer s H E hr T => ?_
  exact (Z.am (Z.j6 T 5 rfl (Z.eP Z.aq))
      (Z.am (Z.ba T 6 rfl (Z.aJ C24 hr T 0 rfl (Z.af (Z.aa T 0 rfl) (Z.af (Z.aa T 1 rfl) (Z.af (Z.aa T 2 rfl) (Z.af (Z.aa T 3 rfl) Z.aq)))) rfl (ae (ae (ae (ae ap))))))
      (Z.am (Z.cJ (have T := T.nox; Z.jd 1000000 PassesOwn.never (Z.gS T.hu (Z.ah.b (Z.aa T 6 rfl)) (Z.fO.b (Z.eP Z.aq))) (Z.am (Z.ba T 7 rfl (Z.br T.hu (Z.ah.b (Z.aa T 6 rfl)) (Z.ah.b Z.ak) (fun _ _ => rfl)))
      (Z.am (Z.ba T 6 rfl (Z.mG (Z.ah.b (Z.aa T 6 rfl)) (Z.p7 Z.ak) Z.qF))
      (Z.ax (Z.cX (Z.jN.t (Z.iH (Z.jm T.hu (Z.ah.b (Z.aa T 7 rfl)) (Z.ah.b (Z.aa T 4 rfl)) (by with_unfolding_all rfl)) (Z.gn (Z.em T.hu (Z.ah.b (Z.aa T 7 rfl)) (Z.eJ T 5 rfl) (by with_unfolding_all rfl))))) (Z.am (Z.jD T 5 rfl (Z.aa T 7 rfl))
      (Z.ax (Z.ba T 6 rfl (Z.dl (Z.ah.b (Z.aa T 6 rfl)) (Z.ah.b (Z.aJ C24 hr T 0 rfl (Z.af (Z.aa T 0 rfl) (Z.af (Z.aa T 1 rfl) (Z.af (Z.aa T 2 rfl) (Z.af (Z.aa T 7 rfl) Z.aq)))) rfl (ae (ae (ae (ae ap)))))))))) Z.bT))))))
      (Z.ax (Z.p8 T 5 rfl)))))
theorem pd : aQ ["ground"] ["ground"] (ai iy) := ⟨rfl, rfl, rfl, by decide +kernel, rfl, by decide +kernel, by decide +kernel⟩
theorem qk (W : ie K "all_places" "all_places" iy f fd) (b_len : mg "len" = none) (b_range : mg "range" = none) (b_tuple : mg "tuple" = none) :
    aV P w K mg base (cK P w mg) (k + 1) f fd ["ground"] (dm (dL 1 (ix)) 1) := by
  refine Z.fn_dataT W pd (G := ["tuple", "range", "len"]) (by decide +kernel) fun cdv A outer s H E hr T => ?_
  exact (Z.ax (Z.aM (Z.qG T 0 rfl b_tuple 1 rfl b_range (Z.af (Z.cG T 2 rfl b_len (Z.ah.b (Z.aa T 0 rfl))) Z.aq))))
theorem sP : aQ ["thing"] ["thing"] (ai jX) := ⟨rfl, rfl, rfl, by decide +kernel, rfl, by decide +kernel, by decide +kernel⟩
theorem sC (W : ie K "is_whole" "is_whole" jX f fd) (b_bool : mg "bool" = none) (b_int : mg "int" = none) (b_isinstance : mg "isinstance" = none) :
    aV P w K mg base (cK P w mg) (k + 1) f fd ["thing"] (dm (dL 1 (nk)) 1) := by
  refine Z.fn_dataT W sP (G := ["isinstance", "int", "bool"]) (by decide +kernel) fun cdv A outer s H E hr T => ?_
  exact (Z.ax (Z.aM (Z.o9 (Z.gh T 0 rfl b_isinstance T 1 rfl b_int (Z.ah.b (Z.aa T 0 rfl))) (Z.pH (Z.sE (Z.fB T 0 rfl b_isinstance T 2 rfl b_bool (Z.ah.b (Z.aa T 0 rfl))))))))
theorem pJ : aQ ["thing", "low", "high"] ["thing", "low", "high"] (ai iN) := ⟨rfl, rfl, rfl, by decide +kernel, rfl, by decide +kernel, by decide +kernel⟩
theorem p6 (W : ie K "is_between" "is_between" iN f fd) {f0 : Addr} {d0 : FuncData} {dA : gM} (C0 : hU P w K mg base k "is_whole" ["thing"] dA f0 d0) :
    aV P w K mg base (cK P w mg) (k + 1) f fd ["thing", "low", "high"] (dm (dL 3 (ip dA)) 3) := by
  refine Z.fn_dataT W pJ (G := ["is_whole"]) (by decide +kernel) fun cdv A outer s H E hr T => ?_
  exact (Z.ax (Z.aM (Z.o9 (Z.aJ C0 hr T 0 rfl (Z.af (Z.aa T 0 rfl) Z.aq) rfl (ae ap)) (Z.pH (Z.nF At mw At mw (Z.ah.b (Z.aa T 1 rfl)) (Z.ah.b (Z.aa T 0 rfl)) (Z.ah.b (Z.aa T 2 rfl)))))))
theorem sx : aQ ["thing", "count", "least", "number"] ["thing", "count"] (ai jW) := ⟨rfl, rfl, rfl, by decide +kernel, rfl, by decide +kernel, by decide +kernel⟩
theorem tG (W : ie K "are_some" "are_some" jW f fd) {f1 : Addr} {d1 : FuncData} {bW : gM} (C1 : hU P w K mg base k "is_between" ["thing", "low", "high"] bW f1 d1) (b_isinstance : mg "isinstance" = none) (b_tuple : mg "tuple" = none) :
    aV P w K mg base (cK P w mg) (k + 1) f fd ["thing", "count"] (dm (dL 4 (kj bW)) 2) := by
  refine Z.fn_dataT W sx (G := ["isinstance", "tuple", "is_between"]) (by decide +kernel) fun cdv A outer s H E hr T => ?_
  exact (Z.am (Z.cX (Z.c6 (Z.cA (Z.dH T 0 rfl b_isinstance T 1 rfl b_tuple (Z.ah.b (Z.aa T 0 rfl))))) (Z.ax (Z.aM Z.bx)) Z.bT)
      (Z.am (Z.ba T 2 rfl Z.ak)
      (Z.am (Z.cJ (have T := T.nox; Z.eN PassesOwn.never T.calm (Z.cn (Z.aa T 0 rfl)) (Z.a9 T 3 rfl) (Z.am (Z.cX (Z.c6 (Z.cA (Z.aJ C1 hr T 2 rfl (Z.af (Z.aa T 3 rfl) (Z.af (Z.aa T 2 rfl) (Z.af (Z.ig (Z.ah.b (Z.aa T 1 rfl)) (Z.ah.b Z.ak)) Z.aq))) rfl (ae (ae (ae ap)))))) (Z.ax (Z.aM Z.bx)) Z.bT)
      (Z.ax (Z.ba T 2 rfl (Z.dl (Z.ah.b (Z.aa T 3 rfl)) (Z.ah.b Z.ak)))))))
      (Z.ax (Z.aM Z.bx)))))
theorem wJ : aQ ["some", "others"] ["some", "others"] (ai ku) := ⟨rfl, rfl, rfl, by decide +kernel, rfl, by decide +kernel, by decide +kernel⟩
theorem x4 (W : ie K "common" "common" ku f fd) (b_tuple : mg "tuple" = none) :
    aV P w K mg base (cK P w mg) (k + 1) f fd ["some", "others"] (dm (dL 2 (nv)) 2) := by
  refine Z.fn_dataT W wJ (G := ["tuple"]) (by decide +kernel) fun cdv A outer s H E hr T => ?_
  exact (Z.ax (Z.aM (Z.cH T 0 rfl b_tuple (Z.fO.b (Z.cc (N := ["number", "others"]) (own := 1) (G := []) (fr := [1]) T rfl rfl (oN := ["some", "others"]) (on := (ai ku).names) (by decide +kernel) (Z.cn (Z.aa T 0 rfl)) (bu (by decide)) (fun cl C s' H' fp T => ⟨(Z.a9 T 0 rfl), (Z.dZ (Z.jm T.hu (Z.ah.b (Z.aa T 0 rfl)) (Z.ah.b (Z.aa T 1 rfl)) (by with_unfolding_all rfl))), (Z.aa T 0 rfl)⟩))))))
theorem l8 : aQ ["moves", "others"] ["moves", "others"] (ai dW) := ⟨rfl, rfl, rfl, by decide +kernel, rfl, by decide +kernel, by decide +kernel⟩
theorem lV (W : ie K "moves_of_both" "moves_of_both" dW f fd) (b_tuple : mg "tuple" = none) (b_zip : mg "zip" = none) :
    aV P w K mg base (cK P w mg) (k + 1) f fd ["moves", "others"] (dm (dL 2 (fJ)) 2) := by
  refine Z.fn_dataT W l8 (G := ["tuple", "zip"]) (by decide +kernel) fun cdv A outer s H E hr T => ?_
  exact (Z.ax (Z.aM (Z.cH T 0 rfl b_tuple (Z.fO.b (Z.cc (N := ["move", "other"]) (own := 2) (G := []) (fr := []) T rfl rfl (oN := ["moves", "others"]) (on := (ai dW).names) (by decide +kernel) (Z.pP T 1 rfl b_zip (Z.aa T 0 rfl) (Z.aa T 1 rfl)) (oU (by decide) (by decide)) (fun cl C s' H' fp T => ⟨(Z.kE T 0 1 rfl rfl), Z.io, (Z.kr (Z.ma (Z.ah.b (Z.aa T 0 rfl)) (Z.ah.b Z.de)) (Z.aa T 1 rfl) (Z.aa T 0 rfl))⟩))))))
theorem x8 : aQ ["ranks"] ["ranks"] (ai kl) := ⟨rfl, rfl, rfl, by decide +kernel, rfl, by decide +kernel, by decide +kernel⟩
theorem xF (W : ie K "ranked" "ranked" kl f fd) (b_enumerate : mg "enumerate" = none) (b_tuple : mg "tuple" = none) :
    aV P w K mg base (cK P w mg) (k + 1) f fd ["ranks"] (dm (dL 1 (nT)) 1) := by
  refine Z.fn_dataT W x8 (G := ["tuple", "enumerate"]) (by decide +kernel) fun cdv A outer s H E hr T => ?_
  exact (Z.ax (Z.aM (Z.cH T 0 rfl b_tuple (Z.fO.b (Z.cc (N := ["number", "rank"]) (own := 2) (G := []) (fr := []) T rfl rfl (oN := ["ranks"]) (on := (ai kl).names) (by decide +kernel) (Z.pC T 1 rfl b_enumerate (Z.aa T 0 rfl)) (oU (by decide) (by decide)) (fun cl C s' H' fp T => ⟨(Z.kE T 0 1 rfl rfl), (Z.dZ (Z.gm (Z.ah.b (Z.aa T 1 rfl)) (Z.ah.b Z.de))), (Z.aa T 0 rfl)⟩))))))
theorem lY : aQ ["ground", "who", "ranks", "moves", "number"] ["ground", "who", "ranks"] (ai dg) := ⟨rfl, rfl, rfl, by decide +kernel, rfl, by decide +kernel, by decide +kernel⟩
theorem l4 (W : ie K "pulling_moves" "pulling_moves" dg f fd) {f12 : Addr} {d12 : FuncData} {cg : gM} (C12 : hU P w K mg base k "ranked" ["ranks"] cg f12 d12) {t_GOALS : Tok} (g_GOALS : mg "GOALS" = some (.int 3 t_GOALS)) {t_WHO : Tok} (g_WHO : mg "WHO" = some (.int 0 t_WHO)) (b_tuple : mg "tuple" = none) :
    aV P w K mg base (cK P w mg) (k + 1) f fd ["ground", "who", "ranks"] (dm (dL 5 (fG cg)) 3) := by
  refine Z.fn_dataT W lY (G := ["ranked", "WHO", "GOALS", "tuple"]) (by decide +kernel) fun cdv A outer s H E hr T => ?_
  exact (Z.am (Z.ft 3 rfl (N := ["rank"]) (own := 1) (G := []) (fr := []) T rfl rfl (oN := ["ground", "who", "ranks", "moves", "number"]) (on := (ai dg).names) (by decide +kernel) (Z.cn (Z.aa T 2 rfl)) (bu (by decide)) (fun cl C s' H' fp T => ⟨(Z.a9 T 0 rfl), Z.io, Z.de⟩))
      (Z.am (Z.cJ (have T := T.nox; Z.eN PassesOwn.never T.calm (Z.cn (Z.aJ C12 hr T 0 rfl (Z.af (Z.aa T 2 rfl) Z.aq) rfl (ae ap))) (Z.a9 T 4 rfl) (Z.ax (Z.cX (Z.jN.t (Z.iH (Z.fj T.hu (Z.ah.b (Z.br T.hu (Z.ah.b (Z.br T.hu (Z.ah.b (Z.aa T 0 rfl)) (Z.ah.b (Z.aa T 4 rfl)) (fun _ _ => rfl))) (Z.ah.b (Z.gx T 1 rfl g_WHO)) (fun _ _ => rfl))) (Z.ah.b (Z.aa T 1 rfl))) (Z.gn (Z.mB (Z.ah.b (Z.br T.hu (Z.ah.b (Z.aa T 2 rfl)) (Z.ah.b (Z.aa T 4 rfl)) (fun _ _ => rfl))) (Z.ah.b Z.ak))))) (Z.ax (Z.jC T 3 rfl (have T := T.nox; (Z.aa T 4 rfl)) (Z.br T.hu (Z.fO.b (Z.cc (N := ["goal", "ranks", "number"]) (own := 1) (G := []) (fr := [2, 4]) T rfl rfl (oN := ["ground", "who", "ranks", "moves", "number"]) (on := (ai dg).names) (by decide +kernel) (Z.cn (Z.br T.hu (Z.ah.b (Z.br T.hu (Z.ah.b (Z.aa T 0 rfl)) (Z.ah.b (Z.aa T 4 rfl)) (fun _ _ => rfl))) (Z.ah.b (Z.gx T 2 rfl g_GOALS)) (fun _ _ => rfl))) (bu (by decide)) (fun cl C s' H' fp T => ⟨(Z.a9 T 0 rfl), (Z.dZ (Z.fj T.hu (Z.ah.b (Z.br T.hu (Z.ah.b (Z.aa T 1 rfl)) (Z.ah.b (Z.aa T 0 rfl)) (fun _ _ => rfl))) (Z.ah.b (Z.ig (Z.ah.b (Z.br T.hu (Z.ah.b (Z.aa T 1 rfl)) (Z.ah.b (Z.aa T 2 rfl)) (fun _ _ => rfl))) (Z.ah.b Z.ak))))), (Z.aa T 0 rfl)⟩))) (Z.ah.b Z.ak) (fun _ _ => rfl)))) Z.bT))))
      (Z.ax (Z.aM (Z.cH T 3 rfl b_tuple (Z.eJ T 3 rfl))))))
theorem rV : aQ ["place", "ways", "who", "ranks", "known"] ["place", "ways", "who", "ranks"] (ai gv) := ⟨rfl, rfl, rfl, by decide +kernel, rfl, by decide +kernel, by decide +kernel⟩
theorem qJ (W : ie K "is_forced" "is_forced" gv f fd) {t_WHO : Tok} (g_WHO : mg "WHO" = some (.int 0 t_WHO)) (b_len : mg "len" = none) :
    aV P w K mg base (cK P w mg) (k + 1) f fd ["place", "ways", "who", "ranks"] (dm (dL 5 (jp)) 4) := by
  refine Z.fn_dataT W rV (G := ["WHO", "len"]) (by decide +kernel) fun cdv A outer s H E hr T => ?_
  exact (Z.am (Z.eU.fz (Z.ft 4 rfl (N := ["goal", "ranks"]) (own := 1) (G := []) (fr := [3]) T rfl rfl (oN := ["place", "ways", "who", "ranks", "known"]) (on := (ai gv).names) (by decide +kernel) (Z.cn (Z.aa T 1 rfl)) (bu (by decide)) (fun cl C s' H' fp T => ⟨(Z.a9 T 0 rfl), (Z.dZ (Z.gm (Z.ah.b (Z.br T.hu (Z.ah.b (Z.aa T 1 rfl)) (Z.ah.b (Z.aa T 0 rfl)) (fun _ _ => rfl))) (Z.ah.b Z.de))), (Z.aa T 0 rfl)⟩)) (show 4 < 5 by decide))
      (Z.am (Z.cX (Z.fj T.hu (Z.ah.b (Z.br T.hu (Z.ah.b (Z.aa T 0 rfl)) (Z.ah.b (Z.gx T 0 rfl g_WHO)) (fun _ _ => rfl))) (Z.ah.b (Z.aa T 2 rfl))) (Z.ax (Z.aM (Z.xK (Z.ah.b (Z.cG T 1 rfl b_len (Z.ah.b (Z.aa T 4 rfl)))) (Z.ah.b Z.ak)))) Z.bT)
      (Z.ax (Z.aM (Z.ux T.hu (Z.ah.b (Z.cG T 1 rfl b_len (Z.ah.b (Z.aa T 4 rfl)))) (Z.ah.b (Z.cG T 1 rfl b_len (Z.ah.b (Z.aa T 1 rfl)))))))))
theorem sV : aQ ["ground", "inside", "who", "goals", "ways", "ranks", "rank", "found", "unranked", "number"] ["ground", "inside", "who", "goals"] (ai dX) := ⟨rfl, rfl, rfl, by decide +kernel, rfl, by decide +kernel, by decide +kernel⟩
theorem sy (W : ie K "ranks_to" "ranks_to" dX f fd) {f4 : Addr} {d4 : FuncData} {bc : gM} (C4 : hU P w K mg base k "common" ["some", "others"] bc f4 d4) {f10 : Addr} {d10 : FuncData} {bE : gM} (C10 : hU P w K mg base k "is_forced" ["place", "ways", "who", "ranks"] bE f10 d10) {t_GOALS : Tok} (g_GOALS : mg "GOALS" = some (.int 3 t_GOALS)) (b_len : mg "len" = none) (b_list : mg "list" = none) (b_range : mg "range" = none) (b_tuple : mg "tuple" = none) :
    aV P w K mg base (cK P w mg) (k + 1) f fd ["ground", "inside", "who", "goals"] (dm (dL 10 (jV bc bE)) 4) := by
  refine Z.fn_dataT W sV (G := ["range", "len", "list", "tuple"]) (by decide +kernel) fun cdv A outer s H E hr T => ?_
  exact (Z.am (Z.ba T 4 rfl (Z.fO.e (Z.cc (N := ["place", "inside"]) (own := 1) (G := ["common", "GOALS"]) (fr := [1]) T rfl rfl (oN := ["ground", "inside", "who", "goals", "ways", "ranks", "rank", "found", "unranked", "number"]) (on := (ai dX).names) (by decide +kernel) (Z.cn (Z.aa T 0 rfl)) (bu (by decide)) (fun cl C s' H' fp T => ⟨(Z.a9 T 0 rfl), Z.io, (Z.aJ C4 hr T 0 rfl (Z.af (Z.br T.hu (Z.ah.b (Z.aa T 0 rfl)) (Z.ah.b (Z.gx T 1 rfl g_GOALS)) (fun _ _ => rfl)) (Z.af (Z.aa T 1 rfl) Z.aq)) rfl (ae (ae ap)))⟩))))
      (Z.am (Z.j6 T 5 rfl (Z.cc (N := ["number", "goals"]) (own := 1) (G := []) (fr := [3]) T rfl rfl (oN := ["ground", "inside", "who", "goals", "ways", "ranks", "rank", "found", "unranked", "number"]) (on := (ai dX).names) (by decide +kernel) (Z.eh T 0 rfl b_range (Z.af (Z.cG T 1 rfl b_len (Z.ah.b (Z.aa T 0 rfl))) Z.aq) (ae ap)) (bu (by decide)) (fun cl C s' H' fp T => ⟨(Z.a9 T 0 rfl), Z.io, (Z.kr (Z.jm T.hu (Z.ah.b (Z.aa T 0 rfl)) (Z.ah.b (Z.aa T 1 rfl)) (by with_unfolding_all rfl)) Z.ak Z.de)⟩)))
      (Z.am (Z.ba T 6 rfl Z.ak)
      (Z.am (Z.ba T 7 rfl (Z.fO.e (Z.jh T 2 rfl b_list (Z.ah.b (Z.aa T 3 rfl)))))
      (Z.am (Z.cJ (have T := T.nox; Z.jd 1000000 PassesOwn.never (Z.mB (Z.ah.b (Z.cG T 1 rfl b_len (Z.ah.b (Z.aa T 7 rfl)))) (Z.ah.b Z.ak)) (Z.am (Z.pM T 6 rfl Z.ak)
      (Z.am (Z.eU.fz (Z.ft 8 rfl (N := ["number", "ranks"]) (own := 1) (G := []) (fr := [5]) T rfl rfl (oN := ["ground", "inside", "who", "goals", "ways", "ranks", "rank", "found", "unranked", "number"]) (on := (ai dX).names) (by decide +kernel) (Z.cn (Z.aa T 1 rfl)) (bu (by decide)) (fun cl C s' H' fp T => ⟨(Z.a9 T 0 rfl), (Z.dZ (Z.ma (Z.ah.b (Z.br T.hu (Z.eJ T 1 rfl) (Z.ah.b (Z.aa T 0 rfl)) (fun _ _ => rfl))) (Z.ah.b Z.de))), (Z.aa T 0 rfl)⟩)) (show 8 < 10 by decide))
      (Z.am (Z.eU.fz (Z.ft 7 rfl (N := ["number", "ground", "ways", "who", "ranks"]) (own := 1) (G := ["is_forced"]) (fr := [0, 4, 2, 5]) T rfl rfl (oN := ["ground", "inside", "who", "goals", "ways", "ranks", "rank", "found", "unranked", "number"]) (on := (ai dX).names) (by decide +kernel) (Z.cn (Z.aa T 8 rfl)) (bu (by decide)) (fun cl C s' H' fp T => ⟨(Z.a9 T 0 rfl), (Z.dZ (Z.cA (Z.ah.lent 4 (Z.aJ C10 hr T 0 rfl (Z.af (Z.br T.hu (Z.ah.b (Z.aa T 1 rfl)) (Z.ah.b (Z.aa T 0 rfl)) (fun _ _ => rfl)) (Z.af (Z.br T.hu (Z.ah.b (Z.aa T 2 rfl)) (Z.ah.b (Z.aa T 0 rfl)) (fun _ _ => rfl)) (Z.af (Z.aa T 3 rfl) (Z.af (Z.aa T 4 rfl) Z.aq)))) rfl (ae (ae (ae (ae ap)))))))), (Z.aa T 0 rfl)⟩)) (show 7 < 10 by decide))
      (Z.ax (Z.cJ (have T := T.nox; Z.eN PassesOwn.never T.calm (Z.cn (Z.aa T 7 rfl)) (Z.a9 T 9 rfl) (Z.ax (Z.jC T 5 rfl (have T := T.nox; (Z.aa T 9 rfl)) (Z.aa T 6 rfl)))))))))))
      (Z.ax (Z.aM (Z.cH T 3 rfl b_tuple (Z.eJ T 5 rfl)))))))))
theorem sX : aQ ["ground"] ["ground"] (ai iI) := ⟨rfl, rfl, rfl, by decide +kernel, rfl, by decide +kernel, by decide +kernel⟩
theorem sA (W : ie K "no_moves" "no_moves" iI f fd) (b_tuple : mg "tuple" = none) :
    aV P w K mg base (cK P w mg) (k + 1) f fd ["ground"] (dm (dL 1 (ke)) 1) := by
  refine Z.fn_dataT W sX (G := ["tuple"]) (by decide +kernel) fun cdv A outer s H E hr T => ?_
  exact (Z.ax (Z.aM (Z.cH T 0 rfl b_tuple (Z.fO.b (Z.cc (N := ["place"]) (own := 1) (G := []) (fr := []) T rfl rfl (oN := ["ground"]) (on := (ai iI).names) (by decide +kernel) (Z.cn (Z.aa T 0 rfl)) (bu (by decide)) (fun cl C s' H' fp T => ⟨(Z.a9 T 0 rfl), Z.io, Z.de⟩))))))
theorem lU : aQ ["ground", "who", "part", "moves", "number"] ["ground", "who", "part"] (ai fL) := ⟨rfl, rfl, rfl, by decide +kernel, rfl, by decide +kernel, by decide +kernel⟩
theorem l5 (W : ie K "staying_moves" "staying_moves" fL f fd) {f4 : Addr} {d4 : FuncData} {bc : gM} (C4 : hU P w K mg base k "common" ["some", "others"] bc f4 d4) {f6 : Addr} {d6 : FuncData} {bC : gM} (C6 : hU P w K mg base k "no_moves" ["ground"] bC f6 d6) {t_GOALS : Tok} (g_GOALS : mg "GOALS" = some (.int 3 t_GOALS)) {t_WHO : Tok} (g_WHO : mg "WHO" = some (.int 0 t_WHO)) (b_list : mg "list" = none) (b_tuple : mg "tuple" = none) :
    aV P w K mg base (cK P w mg) (k + 1) f fd ["ground", "who", "part"] (dm (dL 5 (fK bc bC)) 3) := by
  refine Z.fn_dataT W lU (G := ["list", "no_moves", "WHO", "common", "GOALS", "tuple"]) (by decide +kernel) fun cdv A outer s H E hr T => ?_
  exact (Z.am (Z.j6 T 3 rfl (Z.jh T 0 rfl b_list (Z.ah.b (Z.aJ C6 hr T 1 rfl (Z.af (Z.aa T 0 rfl) Z.aq) rfl (ae ap)))))
      (Z.am (Z.cJ (have T := T.nox; Z.eN PassesOwn.never T.calm (Z.cn (Z.aa T 2 rfl)) (Z.a9 T 4 rfl) (Z.ax (Z.cX (Z.fj T.hu (Z.ah.b (Z.br T.hu (Z.ah.b (Z.br T.hu (Z.ah.b (Z.aa T 0 rfl)) (Z.ah.b (Z.aa T 4 rfl)) (fun _ _ => rfl))) (Z.ah.b (Z.gx T 2 rfl g_WHO)) (fun _ _ => rfl))) (Z.ah.b (Z.aa T 1 rfl))) (Z.ax (Z.jC T 3 rfl (have T := T.nox; (Z.aa T 4 rfl)) (Z.br T.hu (Z.ah.b (Z.aJ C4 hr T 3 rfl (Z.af (Z.br T.hu (Z.ah.b (Z.br T.hu (Z.ah.b (Z.aa T 0 rfl)) (Z.ah.b (Z.aa T 4 rfl)) (fun _ _ => rfl))) (Z.ah.b (Z.gx T 4 rfl g_GOALS)) (fun _ _ => rfl)) (Z.af (Z.aa T 2 rfl) Z.aq)) rfl (ae (ae ap)))) (Z.ah.b Z.ak) (fun _ _ => rfl)))) Z.bT))))
      (Z.ax (Z.aM (Z.cH T 5 rfl b_tuple (Z.eJ T 3 rfl))))))
theorem v4 : aQ ["some", "others"] ["some", "others"] (ai jx) := ⟨rfl, rfl, rfl, by decide +kernel, rfl, by decide +kernel, by decide +kernel⟩
theorem wf (W : ie K "without" "without" jx f fd) (b_tuple : mg "tuple" = none) :
    aV P w K mg base (cK P w mg) (k + 1) f fd ["some", "others"] (dm (dL 2 (ly)) 2) := by
  refine Z.fn_dataT W v4 (G := ["tuple"]) (by decide +kernel) fun cdv A outer s H E hr T => ?_
  exact (Z.ax (Z.aM (Z.cH T 0 rfl b_tuple (Z.fO.b (Z.cc (N := ["number", "others"]) (own := 1) (G := []) (fr := [1]) T rfl rfl (oN := ["some", "others"]) (on := (ai jx).names) (by decide +kernel) (Z.cn (Z.aa T 0 rfl)) (bu (by decide)) (fun cl C s' H' fp T => ⟨(Z.a9 T 0 rfl), (Z.dZ (Z.em T.hu (Z.ah.b (Z.aa T 0 rfl)) (Z.ah.b (Z.aa T 1 rfl)) (by with_unfolding_all rfl))), (Z.aa T 0 rfl)⟩))))))
theorem kJ : aQ ["ground", "inside", "who", "goals", "ranks", "away", "moves", "other"] ["ground", "inside", "who", "goals"] (ai eE) := ⟨rfl, rfl, rfl, by decide +kernel, rfl, by decide +kernel, by decide +kernel⟩
theorem kB (W : ie K "share_by_coming" "share_by_coming" eE f fd) {f4 : Addr} {d4 : FuncData} {bc : gM} (C4 : hU P w K mg base k "common" ["some", "others"] bc f4 d4) {f7 : Addr} {d7 : FuncData} {aF : gM} (C7 : hU P w K mg base k "moves_of_both" ["moves", "others"] aF f7 d7) {f13 : Addr} {d13 : FuncData} {bp : gM} (C13 : hU P w K mg base k "pulling_moves" ["ground", "who", "ranks"] bp f13 d13) {f12 : Addr} {d12 : FuncData} {cg : gM} (C12 : hU P w K mg base k "ranked" ["ranks"] cg f12 d12) {f11 : Addr} {d11 : FuncData} {cP : gM} (C11 : hU P w K mg base k "ranks_to" ["ground", "inside", "who", "goals"] cP f11 d11) {f8 : Addr} {d8 : FuncData} {bo : gM} (C8 : hU P w K mg base k "staying_moves" ["ground", "who", "part"] bo f8 d8) {f5 : Addr} {d5 : FuncData} {bN : gM} (C5 : hU P w K mg base k "without" ["some", "others"] bN f5 d5) (b_len : mg "len" = none) {c_Share : Addr} (cl_Share : vZ K c_Share) (n_Share_moves : dw K c_Share "moves") (n_Share_places : dw K c_Share "places") (n_Share_who : dw K c_Share "who") (m_Share : mg "Share" = some (.ref c_Share)) {fi_Share : Addr} {di_Share : FuncData} (MK_Share : Mk K c_Share fi_Share) (I_Share : aV P w K mg base (cK P w mg) 1 fi_Share di_Share ["self", "who", "places", "moves"] (Cf c_Share ["who", "places", "moves"])) (B_Share : gk K di_Share ["self", "who", "places", "moves"] []) (hk : 2 ≤ k) :
    aV P w K mg base (cK P w mg) (k + 1) f fd ["ground", "inside", "who", "goals"] (dm (dL 8 (eR bc aF bp cg cP bo bN c_Share)) 4) := by
  refine Z.fn_dataT W kJ (G := ["ranks_to", "common", "without", "ranked", "len", "moves_of_both", "pulling_moves", "staying_moves", "Share"]) (by decide +kernel) fun cdv A outer s H E hr T => ?_
  exact (Z.am (Z.ba T 4 rfl (Z.aJ C11 hr T 0 rfl (Z.af (Z.aa T 0 rfl) (Z.af (Z.aa T 1 rfl) (Z.af (Z.aa T 2 rfl) (Z.af (Z.aJ C4 hr T 1 rfl (Z.af (Z.aa T 3 rfl) (Z.af (Z.aa T 1 rfl) Z.aq)) rfl (ae (ae ap))) Z.aq)))) rfl (ae (ae (ae (ae ap))))))
      (Z.am (Z.ba T 5 rfl (Z.aJ C5 hr T 2 rfl (Z.af (Z.aa T 1 rfl) (Z.af (Z.aJ C12 hr T 3 rfl (Z.af (Z.aa T 4 rfl) Z.aq) rfl (ae ap)) Z.aq)) rfl (ae (ae ap))))
      (Z.am (Z.cX (Z.fj T.hu (Z.ah.b (Z.cG T 4 rfl b_len (Z.ah.b (Z.aa T 5 rfl)))) (Z.ah.b Z.ak)) (Z.am (Z.ba T 6 rfl (Z.aJ C7 hr T 5 rfl (Z.af (Z.aJ C13 hr T 6 rfl (Z.af (Z.aa T 0 rfl) (Z.af (Z.aa T 2 rfl) (Z.af (Z.aa T 4 rfl) Z.aq))) rfl (ae (ae (ae ap)))) (Z.af (Z.aJ C8 hr T 7 rfl (Z.af (Z.aa T 0 rfl) (Z.af (Z.aa T 2 rfl) (Z.af (Z.aa T 1 rfl) Z.aq))) rfl (ae (ae (ae ap)))) Z.aq)) rfl (ae (ae ap))))
      (Z.ax (Z.aM (Z.pZ MK_Share I_Share (hr.mono hk) T 8 rfl m_Share B_Share (Z.af (Z.aa T 2 rfl) (Z.af (Z.aa T 1 rfl) (Z.af (Z.aa T 6 rfl) Z.aq))) (ae (ae (ae ap))))))) Z.bT)
      (Z.am (Z.ba T 7 rfl (Z.ig (Z.ah.b Z.ak) (Z.ah.b (Z.aa T 2 rfl))))
      (Z.am (Z.ba T 4 rfl (Z.aJ C11 hr T 0 rfl (Z.af (Z.aa T 0 rfl) (Z.af (Z.aa T 1 rfl) (Z.af (Z.aa T 7 rfl) (Z.af (Z.aa T 5 rfl) Z.aq)))) rfl (ae (ae (ae (ae ap))))))
      (Z.am (Z.ba T 6 rfl (Z.aJ C7 hr T 5 rfl (Z.af (Z.aJ C13 hr T 6 rfl (Z.af (Z.aa T 0 rfl) (Z.af (Z.aa T 7 rfl) (Z.af (Z.aa T 4 rfl) Z.aq))) rfl (ae (ae (ae ap)))) (Z.af (Z.aJ C8 hr T 7 rfl (Z.af (Z.aa T 0 rfl) (Z.af (Z.aa T 7 rfl) (Z.af (Z.aa T 5 rfl) Z.aq))) rfl (ae (ae (ae ap)))) Z.aq)) rfl (ae (ae ap))))
      (Z.ax (Z.aM (Z.pZ MK_Share I_Share (hr.mono hk) T 8 rfl m_Share B_Share (Z.af (Z.aa T 7 rfl) (Z.af (Z.aJ C12 hr T 3 rfl (Z.af (Z.aa T 4 rfl) Z.aq) rfl (ae ap)) (Z.af (Z.aa T 6 rfl) Z.aq))) (ae (ae (ae ap))))))))))))
theorem jQ : aQ ["ground", "shares", "winners", "moves", "share", "number"] ["ground", "shares"] (ai cS) := ⟨rfl, rfl, rfl, by decide +kernel, rfl, by decide +kernel, by decide +kernel⟩
theorem jL (W : ie K "winners_and_moves" "winners_and_moves" cS f fd) {f7 : Addr} {d7 : FuncData} {aF : gM} (C7 : hU P w K mg base k "moves_of_both" ["moves", "others"] aF f7 d7) {f6 : Addr} {d6 : FuncData} {bC : gM} (C6 : hU P w K mg base k "no_moves" ["ground"] bC f6 d6) (b_tuple : mg "tuple" = none) {c_Share : Addr} (cl_Share : vZ K c_Share) (n_Share_moves : dw K c_Share "moves") (n_Share_places : dw K c_Share "places") (n_Share_who : dw K c_Share "who") :
    aV P w K mg base (cK P w mg) (k + 1) f fd ["ground", "shares"] (dm (dL 6 (dI aF bC c_Share)) 2) := by
  refine Z.fn_dataT W jQ (G := ["no_moves", "moves_of_both", "tuple"]) (by decide +kernel) fun cdv A outer s H E hr T => ?_
  exact (Z.am (Z.ft 2 rfl (N := ["place"]) (own := 1) (G := []) (fr := []) T rfl rfl (oN := ["ground", "shares", "winners", "moves", "share", "number"]) (on := (ai cS).names) (by decide +kernel) (Z.cn (Z.aa T 0 rfl)) (bu (by decide)) (fun cl C s' H' fp T => ⟨(Z.a9 T 0 rfl), Z.io, Z.de⟩))
      (Z.am (Z.ba T 3 rfl (Z.aJ C6 hr T 0 rfl (Z.af (Z.aa T 0 rfl) Z.aq) rfl (ae ap)))
      (Z.am (Z.cJ (have T := T.nox; Z.eN PassesOwn.never T.calm (Z.cn (Z.aa T 1 rfl)) (Z.a9 T 4 rfl) (Z.am (Z.cJ (have T := T.nox; Z.eN PassesOwn.never T.calm (Z.cn (Z.lb cl_Share n_Share_places (Z.aa T 4 rfl))) (Z.a9 T 5 rfl) (Z.ax (Z.jC T 2 rfl (have T := T.nox; (Z.aa T 5 rfl)) (Z.lb cl_Share n_Share_who (Z.aa T 4 rfl))))))
      (Z.ax (Z.ba T 3 rfl (Z.aJ C7 hr T 1 rfl (Z.af (Z.aa T 3 rfl) (Z.af (Z.lb cl_Share n_Share_moves (Z.aa T 4 rfl)) Z.aq)) rfl (ae (ae ap))))))))
      (Z.ax (Z.aM (Z.gZ (Z.af (Z.cH T 2 rfl b_tuple (Z.eJ T 2 rfl)) (Z.af (Z.aa T 3 rfl) Z.aq))))))))
theorem Ad : aQ ["ground", "who", "goals", "shares", "inside", "share"] ["ground", "who", "goals"] (ai qh) := ⟨rfl, rfl, rfl, by decide +kernel, rfl, by decide +kernel, by decide +kernel⟩
theorem Al (W : ie K "again" "again" qh f fd) {f3 : Addr} {d3 : FuncData} {cm : gM} (C3 : hU P w K mg base k "all_places" ["ground"] cm f3 d3) {f2 : Addr} {d2 : FuncData} {cy : gM} (C2 : hU P w K mg base k "are_some" ["thing", "count"] cy f2 d2) {f14 : Addr} {d14 : FuncData} {a5 : gM} (C14 : hU P w K mg base k "share_by_coming" ["ground", "inside", "who", "goals"] a5 f14 d14) {f9 : Addr} {d9 : FuncData} {aY : gM} (C9 : hU P w K mg base k "winners_and_moves" ["ground", "shares"] aY f9 d9) {f5 : Addr} {d5 : FuncData} {bN : gM} (C5 : hU P w K mg base k "without" ["some", "others"] bN f5 d5) (b_len : mg "len" = none) {c_NoPart : Addr} (m_NoPart : mg "NoPart" = some (.ref c_NoPart)) (q_NoPart : PySem.W.excIn K c_NoPart wd uz = true) {c_Share : Addr} (cl_Share : vZ K c_Share) (n_Share_places : dw K c_Share "places") :
    aV P w K mg base (cK P w mg) (k + 1) f fd ["ground", "who", "goals"] (dm (dL 6 (l9 cm cy a5 aY bN c_Share)) 3) := by
  refine Z.fn_dataT W Ad (G := ["are_some", "len", "NoPart", "all_places", "share_by_coming", "without", "winners_and_moves"]) (by decide +kernel) fun cdv A outer s H E hr T => ?_
  exact (Z.am (Z.cX (Z.c6 (Z.cA (Z.aJ C2 hr T 0 rfl (Z.af (Z.aa T 2 rfl) (Z.af (Z.cG T 1 rfl b_len (Z.ah.b (Z.aa T 0 rfl))) Z.aq)) rfl (ae (ae ap))))) (Z.ax (Z.mU T 2 rfl m_NoPart q_NoPart (have T := T.nox; Z.t5))) Z.bT)
      (Z.am (Z.j6 T 3 rfl (Z.eP Z.aq))
      (Z.am (Z.ba T 4 rfl (Z.aJ C3 hr T 3 rfl (Z.af (Z.aa T 0 rfl) Z.aq) rfl (ae ap)))
      (Z.am (Z.cJ (have T := T.nox; Z.jd 1000000 PassesOwn.never (Z.mB (Z.ah.b (Z.cG T 1 rfl b_len (Z.ah.b (Z.aa T 4 rfl)))) (Z.ah.b Z.ak)) (Z.am (Z.ba T 5 rfl (Z.aJ C14 hr T 4 rfl (Z.af (Z.aa T 0 rfl) (Z.af (Z.aa T 4 rfl) (Z.af (Z.aa T 1 rfl) (Z.af (Z.aa T 2 rfl) Z.aq)))) rfl (ae (ae (ae (ae ap))))))
      (Z.am (Z.jD T 3 rfl (Z.aa T 5 rfl))
      (Z.ax (Z.ba T 4 rfl (Z.aJ C5 hr T 5 rfl (Z.af (Z.aa T 4 rfl) (Z.af (Z.lb cl_Share n_Share_places (Z.aa T 5 rfl)) Z.aq)) rfl (ae (ae ap)))))))))
      (Z.ax (Z.wX 3 (Z.aM (Z.aJ C9 hr T 6 rfl (Z.af (Z.aa T 0 rfl) (Z.af (Z.aa T 3 rfl) Z.aq)) rfl (ae (ae ap))))))))))
theorem n4 : aQ ["_law_ground_here", "_law_who", "_law_goals_here", "e"] ["_law_ground_here", "_law_who", "_law_goals_here"] (ai gP) := ⟨rfl, rfl, rfl, by decide +kernel, rfl, by decide +kernel, by decide +kernel⟩
theorem oA (W : ie K "_law_refused" "_law_refused" gP f fd) {f15 : Addr} {d15 : FuncData} {cB : gM} (C15 : hU P w K mg base k "again" ["ground", "who", "goals"] cB f15 d15) (b_isinstance : mg "isinstance" = none) {c_GroundError : Addr} (m_GroundError : mg "GroundError" = some (.ref c_GroundError)) (q_GroundError : PySem.W.excIn K c_GroundError wd uz = true) {c_NoPart : Addr} (m_NoPart : mg "NoPart" = some (.ref c_NoPart)) (q_NoPart : PySem.W.excIn K c_NoPart wd uz = true) (b_NoPart_NoPart : (Value.ref c_NoPart :: i9 K c_NoPart).contains (.ref c_NoPart) = true) (k_NoPart_GroundError : PySem.W.kitOne K (.ref c_NoPart) (.ref c_GroundError) = some true) :
    aV P w K mg base (cK P w mg) (k + 1) f fd ["_law_ground_here", "_law_who", "_law_goals_here"] (dm (dL 4 (gL cB)) 3) := by
  refine Z.fn_dataT W n4 (G := ["again", "NoPart", "isinstance", "GroundError"]) (by decide +kernel) fun cdv A outer s H E hr T => ?_
  exact (Z.am (Z.pU C15.ok hr T ⟨rfl, rfl⟩ 0 rfl C15.m C15.kp C15.b (have T := T.nox; (Z.af (Z.aa T 0 rfl) (Z.af (Z.aa T 1 rfl) (Z.af (Z.aa T 2 rfl) Z.aq)))) (ae (ae (ae ap))) (nr.cons m_NoPart (ye T 1 rfl m_NoPart q_NoPart q_NoPart b_NoPart_NoPart 3 rfl rfl (f := fun p => (ou 3 p)) (fun p ob hc T => ((Z.ub T List.mem_cons_self hc 3 rfl 2 rfl b_isinstance 3 rfl m_GroundError k_NoPart_GroundError)).un)) nr.nil))
      (Z.ax (Z.aM Z.bx)))
theorem tM : aQ ["_law_number", "_law_count", "_law_kind"] ["_law_number", "_law_count"] (ai iC) := ⟨rfl, rfl, rfl, by decide +kernel, rfl, by decide +kernel, by decide +kernel⟩
theorem tP (W : ie K "_law_some" "_law_some" iC f fd) {f18 : Addr} {d18 : FuncData} {aG : gM} (C18 : hU P w K mg base k "_law_drawn" ["_law_number", "_law_k"] aG f18 d18) (b_range : mg "range" = none) (b_tuple : mg "tuple" = none) :
    aV P w K mg base (cK P w mg) (k + 1) f fd ["_law_number", "_law_count"] (dm (dL 3 (kh aG)) 2) := by
  refine Z.fn_dataT W tM (G := ["tuple", "range"]) (by decide +kernel) fun cdv A outer s H E hr T => ?_
  exact (Z.am (Z.ba T 2 rfl (Z.cL (Z.ah.b (Z.aa T 0 rfl)) (Z.ah.b Z.ak)))
      (Z.ax (Z.aM (Z.cH T 0 rfl b_tuple (Z.fO.b (Z.cc (N := ["_law_k", "_law_kind", "_law_number"]) (own := 1) (G := ["_law_drawn"]) (fr := [2, 0]) T rfl rfl (oN := ["_law_number", "_law_count", "_law_kind"]) (on := (ai iC).names) (by decide +kernel) (Z.eh T 1 rfl b_range (Z.af (Z.aa T 1 rfl) Z.aq) (ae ap)) (bu (by decide)) (fun cl C s' H' fp T => ⟨(Z.a9 T 0 rfl), (Z.dZ (Z.jN.t (Z.ff (Z.fj T.hu (Z.ah.b (Z.aa T 1 rfl)) (Z.ah.b Z.ak)) (Z.eI (Z.qe (Z.ah.b (Z.cL (Z.ah.b (Z.aJ C18 hr T 0 rfl (Z.af (Z.aa T 2 rfl) (Z.af (Z.aa T 0 rfl) Z.aq)) rfl (ae (ae ap)))) (Z.ah.b Z.ak))) (Z.ah.b (Z.aa T 1 rfl))))))), (Z.aa T 0 rfl)⟩)))))))
theorem k8 : aQ ["_law_moves", "_law_ground_here", "_law_move", "_law_place_here"] ["_law_moves", "_law_ground_here"] (ai fq) := ⟨rfl, rfl, rfl, by decide +kernel, rfl, by decide +kernel, by decide +kernel⟩
theorem lc (W : ie K "_law_moves_good" "_law_moves_good" fq f fd) (b_bool : mg "bool" = none) (b_int : mg "int" = none) (b_isinstance : mg "isinstance" = none) (b_len : mg "len" = none) (b_tuple : mg "tuple" = none) (b_zip : mg "zip" = none) :
    aV P w K mg base (cK P w mg) (k + 1) f fd ["_law_moves", "_law_ground_here"] (dm (dL 4 (e8)) 2) := by
  refine Z.fn_dataT W k8 (G := ["isinstance", "tuple", "len", "zip", "bool", "int"]) (by decide +kernel) fun cdv A outer s H E hr T => ?_
  exact (Z.am (Z.cX (Z.jN.t (Z.ff (Z.c6 (Z.cA (Z.dH T 0 rfl b_isinstance T 1 rfl b_tuple (Z.ah.b (Z.aa T 0 rfl))))) (Z.eI (Z.gS T.hu (Z.ah.b (Z.cG T 2 rfl b_len (Z.ah.b (Z.aa T 0 rfl)))) (Z.ah.b (Z.cG T 2 rfl b_len (Z.ah.b (Z.aa T 1 rfl)))))))) (Z.ax (Z.aM Z.bx)) Z.bT)
      (Z.am (Z.cJ (have T := T.nox; Z.eN PassesOwn.never T.calm (Z.pP T 3 rfl b_zip (Z.aa T 0 rfl) (Z.aa T 1 rfl)) (Z.kE T 2 3 rfl rfl) (Z.am (Z.cX (Z.jN.t (Z.ff (Z.cA (Z.fB T 0 rfl b_isinstance T 4 rfl b_bool (Z.ah.b (Z.aa T 2 rfl)))) (Z.eI (Z.jN.t (Z.iH (Z.gm (Z.ah.b (Z.aa T 2 rfl)) (Z.ah.b Z.de)) (Z.gn (Z.c6 (Z.cA (Z.gh T 0 rfl b_isinstance T 5 rfl b_int (Z.ah.b (Z.aa T 2 rfl))))))))))) (Z.ax (Z.aM Z.bx)) Z.bT)
      (Z.ax (Z.cX (Z.jN.t (Z.iH (Z.gm (Z.ah.b (Z.aa T 2 rfl)) (Z.ah.b Z.de)) (Z.gn (Z.em T.hu (Z.ah.b (Z.aa T 2 rfl)) (Z.ah.b (Z.br T.hu (Z.ah.b (Z.aa T 3 rfl)) (Z.ah.b Z.ak) (fun _ _ => rfl))) (by with_unfolding_all rfl))))) (Z.ax (Z.aM Z.bx)) Z.bT)))))
      (Z.ax (Z.aM Z.bx))))
theorem lX : aQ ["_law_found", "_law_ground_here", "_law_place_here", "_law_winner", "_law_move"] ["_law_found", "_law_ground_here"] (ai fM) := ⟨rfl, rfl, rfl, by decide +kernel, rfl, by decide +kernel, by decide +kernel⟩
theorem l0 (W : ie K "_law_told_well" "_law_told_well" fM f fd) {f23 : Addr} {d23 : FuncData} {bq : gM} (C23 : hU P w K mg base k "_law_moves_good" ["_law_moves", "_law_ground_here"] bq f23 d23) (b_bool : mg "bool" = none) (b_int : mg "int" = none) (b_isinstance : mg "isinstance" = none) (b_len : mg "len" = none) (b_tuple : mg "tuple" = none) (b_zip : mg "zip" = none) :
    aV P w K mg base (cK P w mg) (k + 1) f fd ["_law_found", "_law_ground_here"] (dm (dL 5 (fH bq)) 2) := by
  refine Z.fn_dataT W lX (G := ["isinstance", "tuple", "len", "_law_moves_good", "zip", "int", "bool"]) (by decide +kernel) fun cdv A outer s H E hr T => ?_
  exact (Z.am (Z.cX (Z.jN.t (Z.ff (Z.c6 (Z.cA (Z.dH T 0 rfl b_isinstance T 1 rfl b_tuple (Z.ah.b (Z.aa T 0 rfl))))) (Z.ff (Z.gS T.hu (Z.ah.b (Z.cG T 2 rfl b_len (Z.ah.b (Z.aa T 0 rfl)))) (Z.ah.b Z.ak)) (Z.eI (Z.c6 (Z.cA (Z.dH T 0 rfl b_isinstance T 1 rfl b_tuple (Z.ah.b (Z.br T.hu (Z.ah.b (Z.aa T 0 rfl)) (Z.ah.b Z.ak) (fun _ _ => rfl)))))))))) (Z.ax (Z.aM Z.bx)) Z.bT)
      (Z.am (Z.cX (Z.jN.t (Z.ff (Z.gS T.hu (Z.ah.b (Z.cG T 2 rfl b_len (Z.ah.b (Z.br T.hu (Z.ah.b (Z.aa T 0 rfl)) (Z.ah.b Z.ak) (fun _ _ => rfl))))) (Z.ah.b (Z.cG T 2 rfl b_len (Z.ah.b (Z.aa T 1 rfl))))) (Z.eI (Z.c6 (Z.cA (Z.aJ C23 hr T 3 rfl (Z.af (Z.br T.hu (Z.ah.b (Z.aa T 0 rfl)) (Z.ah.b Z.ak) (fun _ _ => rfl)) (Z.af (Z.aa T 1 rfl) Z.aq)) rfl (ae (ae ap)))))))) (Z.ax (Z.aM Z.bx)) Z.bT)
      (Z.am (Z.cJ (have T := T.nox; Z.eN PassesOwn.never T.calm (Z.pS T 4 rfl b_zip (Z.aa T 1 rfl) (Z.br T.hu (Z.ah.b (Z.aa T 0 rfl)) (Z.ah.b Z.ak) (fun _ _ => rfl)) (Z.br T.hu (Z.ah.b (Z.aa T 0 rfl)) (Z.ah.b Z.ak) (fun _ _ => rfl))) (Z.tY T 2 3 4 rfl rfl rfl) (Z.am (Z.cX (Z.jN.t (Z.ff (Z.c6 (Z.cA (Z.gh T 0 rfl b_isinstance T 5 rfl b_int (Z.ah.b (Z.aa T 3 rfl))))) (Z.ff (Z.cA (Z.fB T 0 rfl b_isinstance T 6 rfl b_bool (Z.ah.b (Z.aa T 3 rfl)))) (Z.eI (Z.em T.hu (Z.ah.b (Z.aa T 3 rfl)) (Z.ah.b (Z.gZ (Z.af Z.ak (Z.af Z.ak Z.aq)))) (by with_unfolding_all rfl)))))) (Z.ax (Z.aM Z.bx)) Z.bT)
      (Z.ax (Z.cX (Z.gS T.hu (Z.ah.b (Z.sM (Z.ah.b (Z.aa T 4 rfl)) (Z.ah.b Z.de))) (Z.ah.b (Z.xl T.hu (Z.ah.b (Z.br T.hu (Z.ah.b (Z.aa T 2 rfl)) (Z.ah.b Z.ak) (fun _ _ => rfl))) (Z.ah.b (Z.aa T 3 rfl))))) (Z.ax (Z.aM Z.bx)) Z.bT)))))
      (Z.ax (Z.aM Z.bx)))))
theorem Cd : aQ ["_law_script", "_law_ground_here", "_law_goals_here", "_law_who", "_law_odd", "_law_found", "_law_mine", "_law_others", "_law_free", "_law_place_here", "_law_back"] ["_law_script"] (ai iT) := ⟨rfl, rfl, rfl, by decide +kernel, rfl, by decide +kernel, by decide +kernel⟩
theorem CF (W : ie K "law" "law" iT f fd) {f21 : Addr} {d21 : FuncData} {cj : gM} (C21 : hU P w K mg base k "_law_ground" ["_law_script", "_law_most"] cj f21 d21) {f26 : Addr} {d26 : FuncData} {ca : gM} (C26 : hU P w K mg base k "_law_inside" ["_law_ground_here", "_law_who", "_law_moves", "_law_places"] ca f26 d26) {f17 : Addr} {d17 : FuncData} {aL : gM} (C17 : hU P w K mg base k "_law_mixed" ["_law_script", "_law_k"] aL f17 d17) {f25 : Addr} {d25 : FuncData} {bn : gM} (C25 : hU P w K mg base k "_law_reached" ["_law_ground_here", "_law_who", "_law_moves", "_law_start", "_law_allowed"] bn f25 d25) {f28 : Addr} {d28 : FuncData} {bK : gM} (C28 : hU P w K mg base k "_law_refused" ["_law_ground_here", "_law_who", "_law_goals_here"] bK f28 d28) {f22 : Addr} {d22 : FuncData} {cY : gM} (C22 : hU P w K mg base k "_law_some" ["_law_number", "_law_count"] cY f22 d22) {f27 : Addr} {d27 : FuncData} {bw : gM} (C27 : hU P w K mg base k "_law_told_well" ["_law_found", "_law_ground_here"] bw f27 d27) {f15 : Addr} {d15 : FuncData} {cB : gM} (C15 : hU P w K mg base k "again" ["ground", "who", "goals"] cB f15 d15) (b_len : mg "len" = none) (b_range : mg "range" = none) :
    aV P w K mg base (cK P w mg) (k + 1) f fd ["_law_script"] (dm (dL 11 (yp cj ca aL bn bK cY bw cB)) 1) := by
  refine Z.fn_dataT W Cd (G := ["_law_ground", "_law_some", "_law_mixed", "len", "_law_refused", "again", "_law_told_well", "range", "_law_inside", "_law_reached"]) (by decide +kernel) fun cdv A outer s H E hr T => ?_
  exact (Z.am (Z.ba T 1 rfl (Z.aJ C21 hr T 0 rfl (Z.af (Z.aa T 0 rfl) (Z.af Z.ak Z.aq)) rfl (ae (ae ap))))
      (Z.am (Z.ba T 2 rfl (Z.aJ C22 hr T 1 rfl (Z.af (Z.aJ C17 hr T 2 rfl (Z.af (Z.aa T 0 rfl) (Z.af Z.ak Z.aq)) rfl (ae (ae ap))) (Z.af (Z.cG T 3 rfl b_len (Z.ah.b (Z.aa T 1 rfl))) Z.aq)) rfl (ae (ae ap))))
      (Z.am (Z.ba T 3 rfl (Z.cL (Z.ah.b (Z.gI (Z.ah.b (Z.aJ C17 hr T 2 rfl (Z.af (Z.aa T 0 rfl) (Z.af Z.ak Z.aq)) rfl (ae (ae ap)))) (Z.ah.b Z.ak))) (Z.ah.b Z.ak)))
      (Z.am (Z.cX (Z.fj T.hu (Z.ah.b (Z.cL (Z.ah.b (Z.aJ C17 hr T 2 rfl (Z.af (Z.aa T 0 rfl) (Z.af Z.ak Z.aq)) rfl (ae (ae ap)))) (Z.ah.b Z.ak))) (Z.ah.b Z.ak)) (Z.am (Z.ba T 4 rfl (Z.br T.hu (Z.fO.b (Z.eP (Z.af (Z.gZ (Z.af (Z.cG T 3 rfl b_len (Z.ah.b (Z.aa T 1 rfl))) Z.aq)) (Z.af (Z.dl (Z.ah.b (Z.aa T 2 rfl)) (Z.ah.b (Z.fN (Z.ah.b (Z.gZ (Z.af Z.ak Z.aq))) (Z.ah.b Z.ak)))) (Z.af (Z.fO.e (Z.eP (Z.af Z.ak Z.aq))) (Z.af (Z.gZ (Z.af (Z.tU (Z.ah.b Z.ak)) Z.aq)) (Z.af (Z.gZ (Z.af Z.bx Z.aq)) (Z.af Z.de (Z.af (Z.gZ (Z.af Z.ak (Z.af Z.ak Z.aq))) Z.aq))))))))) (Z.ah.b (Z.cL (Z.ah.b (Z.gI (Z.ah.b (Z.aJ C17 hr T 2 rfl (Z.af (Z.aa T 0 rfl) (Z.af Z.ak Z.aq)) rfl (ae (ae ap)))) (Z.ah.b Z.ak))) (Z.ah.b Z.ak))) (fun _ _ => rfl)))
      (Z.ax (Z.cX (Z.c6 (Z.cA (Z.aJ C28 hr T 4 rfl (Z.af (Z.aa T 1 rfl) (Z.af (Z.aa T 3 rfl) (Z.af (Z.aa T 4 rfl) Z.aq))) rfl (ae (ae (ae ap)))))) (Z.ax (Z.aM Z.bx)) Z.bT))) Z.bT)
      (Z.am (Z.ba T 5 rfl (Z.aJ C15 hr T 5 rfl (Z.af (Z.aa T 1 rfl) (Z.af (Z.aa T 3 rfl) (Z.af (Z.aa T 2 rfl) Z.aq))) rfl (ae (ae (ae ap)))))
      (Z.am (Z.cX (Z.jN.t (Z.ff (Z.c6 (Z.cA (Z.aJ C27 hr T 6 rfl (Z.af (Z.aa T 5 rfl) (Z.af (Z.aa T 1 rfl) Z.aq)) rfl (ae (ae ap))))) (Z.eI (Z.gS T.hu (Z.ah.b (Z.aJ C15 hr T 5 rfl (Z.af (Z.aa T 1 rfl) (Z.af (Z.aa T 3 rfl) (Z.af (Z.aa T 2 rfl) Z.aq))) rfl (ae (ae (ae ap))))) (Z.ah.b (Z.aa T 5 rfl)))))) (Z.ax (Z.aM Z.bx)) Z.bT)
      (Z.am (Z.eU.fz (Z.ft 6 rfl (N := ["_law_place_here", "_law_found", "_law_who"]) (own := 1) (G := []) (fr := [5, 3]) T rfl rfl (oN := ["_law_script", "_law_ground_here", "_law_goals_here", "_law_who", "_law_odd", "_law_found", "_law_mine", "_law_others", "_law_free", "_law_place_here", "_law_back"]) (on := (ai iT).names) (by decide +kernel) (Z.eh T 7 rfl b_range (Z.af (Z.cG T 3 rfl b_len (Z.ah.b (Z.aa T 1 rfl))) Z.aq) (ae ap)) (bu (by decide)) (fun cl C s' H' fp T => ⟨(Z.a9 T 0 rfl), (Z.dZ (Z.fj T.hu (Z.ah.b (Z.br T.hu (Z.ah.b (Z.br T.hu (Z.ah.b (Z.aa T 1 rfl)) (Z.ah.b Z.ak) (fun _ _ => rfl))) (Z.ah.b (Z.aa T 0 rfl)) (fun _ _ => rfl))) (Z.ah.b (Z.aa T 2 rfl)))), (Z.aa T 0 rfl)⟩)) (show 6 < 11 by decide))
      (Z.am (Z.eU.fz (Z.ft 7 rfl (N := ["_law_place_here", "_law_found", "_law_who"]) (own := 1) (G := []) (fr := [5, 3]) T rfl rfl (oN := ["_law_script", "_law_ground_here", "_law_goals_here", "_law_who", "_law_odd", "_law_found", "_law_mine", "_law_others", "_law_free", "_law_place_here", "_law_back"]) (on := (ai iT).names) (by decide +kernel) (Z.eh T 7 rfl b_range (Z.af (Z.cG T 3 rfl b_len (Z.ah.b (Z.aa T 1 rfl))) Z.aq) (ae ap)) (bu (by decide)) (fun cl C s' H' fp T => ⟨(Z.a9 T 0 rfl), (Z.dZ (Z.gS T.hu (Z.ah.b (Z.br T.hu (Z.ah.b (Z.br T.hu (Z.ah.b (Z.aa T 1 rfl)) (Z.ah.b Z.ak) (fun _ _ => rfl))) (Z.ah.b (Z.aa T 0 rfl)) (fun _ _ => rfl))) (Z.ah.b (Z.aa T 2 rfl)))), (Z.aa T 0 rfl)⟩)) (show 7 < 11 by decide))
      (Z.am (Z.cX (Z.jN.t (Z.ff (Z.c6 (Z.cA (Z.aJ C26 hr T 8 rfl (Z.af (Z.aa T 1 rfl) (Z.af (Z.aa T 3 rfl) (Z.af (Z.br T.hu (Z.ah.b (Z.aa T 5 rfl)) (Z.ah.b Z.ak) (fun _ _ => rfl)) (Z.af (Z.aa T 6 rfl) Z.aq)))) rfl (ae (ae (ae (ae ap))))))) (Z.eI (Z.c6 (Z.cA (Z.aJ C26 hr T 8 rfl (Z.af (Z.aa T 1 rfl) (Z.af (Z.ig (Z.ah.b Z.ak) (Z.ah.b (Z.aa T 3 rfl))) (Z.af (Z.br T.hu (Z.ah.b (Z.aa T 5 rfl)) (Z.ah.b Z.ak) (fun _ _ => rfl)) (Z.af (Z.aa T 7 rfl) Z.aq)))) rfl (ae (ae (ae (ae ap)))))))))) (Z.ax (Z.aM Z.bx)) Z.bT)
      (Z.am (Z.eU.fz (Z.ft 8 rfl (N := ["_law_place_here", "_law_goals_here"]) (own := 1) (G := []) (fr := [2]) T rfl rfl (oN := ["_law_script", "_law_ground_here", "_law_goals_here", "_law_who", "_law_odd", "_law_found", "_law_mine", "_law_others", "_law_free", "_law_place_here", "_law_back"]) (on := (ai iT).names) (by decide +kernel) (Z.cn (Z.aa T 6 rfl)) (bu (by decide)) (fun cl C s' H' fp T => ⟨(Z.a9 T 0 rfl), (Z.dZ (Z.em T.hu (Z.ah.b (Z.aa T 0 rfl)) (Z.ah.b (Z.aa T 1 rfl)) (by with_unfolding_all rfl))), (Z.aa T 0 rfl)⟩)) (show 8 < 11 by decide))
      (Z.am (Z.cJ (have T := T.nox; Z.eN PassesOwn.never T.calm (Z.cn (Z.aa T 8 rfl)) (Z.a9 T 9 rfl) (Z.ax (Z.cX (Z.jm T.hu (Z.ah.b (Z.aa T 9 rfl)) (Z.ah.b (Z.aJ C25 hr T 9 rfl (Z.af (Z.aa T 1 rfl) (Z.af (Z.aa T 3 rfl) (Z.af (Z.br T.hu (Z.ah.b (Z.aa T 5 rfl)) (Z.ah.b Z.ak) (fun _ _ => rfl)) (Z.af (Z.aa T 9 rfl) (Z.af (Z.aa T 8 rfl) Z.aq))))) rfl (ae (ae (ae (ae (ae ap))))))) (by with_unfolding_all rfl)) (Z.ax (Z.aM Z.bx)) Z.bT))))
      (Z.am (Z.cJ (have T := T.nox; Z.eN PassesOwn.never T.calm (Z.cn (Z.aa T 7 rfl)) (Z.a9 T 9 rfl) (Z.am (Z.ba T 10 rfl (Z.aJ C25 hr T 9 rfl (Z.af (Z.aa T 1 rfl) (Z.af (Z.ig (Z.ah.b Z.ak) (Z.ah.b (Z.aa T 3 rfl))) (Z.af (Z.br T.hu (Z.ah.b (Z.aa T 5 rfl)) (Z.ah.b Z.ak) (fun _ _ => rfl)) (Z.af (Z.aa T 9 rfl) (Z.af (Z.aa T 7 rfl) Z.aq))))) rfl (ae (ae (ae (ae (ae ap)))))))
      (Z.ax (Z.cX (Z.jN.t (Z.iH (Z.jm T.hu (Z.ah.b (Z.aa T 9 rfl)) (Z.ah.b (Z.aa T 2 rfl)) (by with_unfolding_all rfl)) (Z.gn (Z.jm T.hu (Z.ah.b (Z.aa T 9 rfl)) (Z.ah.b (Z.aa T 10 rfl)) (by with_unfolding_all rfl))))) (Z.ax (Z.aM Z.bx)) Z.bT)))))
      (Z.ax (Z.aM Z.bx))))))))))))))
end
noncomputable def F0 : List PyData → R PyData := fun ds => open Classical in if ∃ ns : List Int, ns.length ≤ 63 ∧ ds = [.list (ns.map .int)] then .ok (.bool true) else .no
theorem vc : wR F0 := fun ns h => if_pos ⟨ns, h, rfl⟩
theorem B9 {c_Share : Addr} (vs : List V) (H : Hp) (Q : VK) (E : XK) (h : dm F0 1 vs H Q E) : dm (vb c_Share) 1 vs H Q E := by
  obtain ⟨ds, r, hl, q⟩ := h
  refine ⟨ds, r, hl, ?_⟩
  by_cases hd : ∃ ns : List Int, ns.length ≤ 63 ∧ ds = [.list (ns.map .int)]
  · obtain ⟨ns, h1, rfl⟩ := hd
    rw [vc ns h1] at q
    rw [w6 c_Share ns h1]
    exact q
  · unfold F0 at q
    rw [if_neg hd] at q
    exact q.elim
theorem Bi {l : PySem.W.OpenLaw} {w : World} {K : PySem.W.Frag} {h : Heap} {mg : Str → Option Value} {fa : Addr} (X : K.In h) (G : h.Ns mainGlobals mg) (hfa : mg "law" = some (.ref fa))
    {f29 : Addr} {od29 an29 : Option Addr} {sl29 : Array (Option Value)} {oc29 kV29 dc29 pm29 cd29 ct29 : Value}
    {f0 : Addr} {d0 : FuncData} (q0 : cE K "_law_cell_at" gN f0 d0)
    {f1 : Addr} {d1 : FuncData} (q1 : cE K "_law_mixed" i0 f1 d1)
    {f2 : Addr} {d2 : FuncData} (q2 : cE K "_law_drawn" iY f2 d2)
    {f3 : Addr} {d3 : FuncData} (q3 : cE K "_law_goals" jr f3 d3)
    {f4 : Addr} {d4 : FuncData} (q4 : cE K "_law_place" jn f4 d4)
    {f5 : Addr} {d5 : FuncData} (q5 : cE K "_law_ground" fU f5 d5)
    {f6 : Addr} {d6 : FuncData} (q6 : cE K "_law_ways" iA f6 d6)
    {f7 : Addr} {d7 : FuncData} (q7 : cE K "_law_inside" fW f7 d7)
    {f8 : Addr} {d8 : FuncData} (q8 : cE K "_law_reached" gG f8 d8)
    {f9 : Addr} {d9 : FuncData} (q9 : cE K "all_places" iy f9 d9)
    {f10 : Addr} {d10 : FuncData} (q10 : cE K "is_whole" jX f10 d10)
    {f11 : Addr} {d11 : FuncData} (q11 : cE K "is_between" iN f11 d11)
    {f12 : Addr} {d12 : FuncData} (q12 : cE K "are_some" jW f12 d12)
    {f13 : Addr} {d13 : FuncData} (q13 : cE K "common" ku f13 d13)
    {f14 : Addr} {d14 : FuncData} (q14 : cE K "moves_of_both" dW f14 d14)
    {f15 : Addr} {d15 : FuncData} (q15 : cE K "ranked" kl f15 d15)
    {f16 : Addr} {d16 : FuncData} (q16 : cE K "pulling_moves" dg f16 d16)
    {f17 : Addr} {d17 : FuncData} (q17 : cE K "is_forced" gv f17 d17)
    {f18 : Addr} {d18 : FuncData} (q18 : cE K "ranks_to" dX f18 d18)
    {f19 : Addr} {d19 : FuncData} (q19 : cE K "no_moves" iI f19 d19)
    {f20 : Addr} {d20 : FuncData} (q20 : cE K "staying_moves" fL f20 d20)
    {f21 : Addr} {d21 : FuncData} (q21 : cE K "without" jx f21 d21)
    {f22 : Addr} {d22 : FuncData} (q22 : cE K "share_by_coming" eE f22 d22)
    {f23 : Addr} {d23 : FuncData} (q23 : cE K "winners_and_moves" cS f23 d23)
    {f24 : Addr} {d24 : FuncData} (q24 : cE K "again" qh f24 d24)
    {f25 : Addr} {d25 : FuncData} (q25 : cE K "_law_refused" gP f25 d25)
    {f26 : Addr} {d26 : FuncData} (q26 : cE K "_law_some" iC f26 d26)
    {f27 : Addr} {d27 : FuncData} (q27 : cE K "_law_moves_good" fq f27 d27)
    {f28 : Addr} {d28 : FuncData} (q28 : cE K "_law_told_well" fM f28 d28)
    (a29 : PySem.W.nsIn K mainGlobals "law" = some (some (.ref f29))) (l29 : K.lookup f29 = some ⟨oc29, od29, .func (PySem.W.fnOf "law" "law" (fX iT) (dE iT) (ai iT) .none kV29 dc29 pm29 an29 cd29 ct29), sl29⟩) (c29 : PySem.W.codeIn K cd29 "law" = true) (k29 : PySem.W.keepIn K (.ref f29) = true)
    {t0 : Tok} (qg0 : PySem.W.nsIn K mainGlobals "GOALS" = some (some (.int 3 t0)))
    {t1 : Tok} (qg1 : PySem.W.nsIn K mainGlobals "WHO" = some (some (.int 0 t1)))
    (qz0 : PySem.W.nsIn K mainGlobals "bool" = some none)
    (qz1 : PySem.W.nsIn K mainGlobals "enumerate" = some none)
    (qz2 : PySem.W.nsIn K mainGlobals "int" = some none)
    (qz3 : PySem.W.nsIn K mainGlobals "isinstance" = some none)
    (qz4 : PySem.W.nsIn K mainGlobals "len" = some none)
    (qz5 : PySem.W.nsIn K mainGlobals "list" = some none)
    (qz6 : PySem.W.nsIn K mainGlobals "max" = some none)
    (qz7 : PySem.W.nsIn K mainGlobals "min" = some none)
    (qz8 : PySem.W.nsIn K mainGlobals "range" = some none)
    (qz9 : PySem.W.nsIn K mainGlobals "sorted" = some none)
    (qz10 : PySem.W.nsIn K mainGlobals "tuple" = some none)
    (qz11 : PySem.W.nsIn K mainGlobals "zip" = some none)
    {cc0 : Addr} (qm0 : PySem.W.nsIn K mainGlobals "GroundError" = some (some (.ref cc0))) (qq0 : PySem.W.excIn K cc0 wd uz = true)
    {cc1 : Addr} (qm1 : PySem.W.nsIn K mainGlobals "NoPart" = some (some (.ref cc1))) (qq1 : PySem.W.excIn K cc1 wd uz = true)
    (qs0 : (Value.ref cc1 :: i9 K cc1).contains (.ref cc1) = true)
    (qk0 : PySem.W.kitOne K (.ref cc1) (.ref cc0) = some true)
    {c_Share fi_Share : Addr} {od_Share an_Share : Option Addr} {sl_Share : Array (Option Value)} {oc_Share kV_Share dc_Share pm_Share cd_Share ct_Share : Value}
    (qa_Share : PySem.W.nsIn K mainGlobals "Share" = some (some (.ref c_Share)))
    (qi_Share : PySem.W.findIn K (.ref c_Share) "__init__" = some (some (.ref fi_Share))) (qf_Share : PySem.W.isFn K (.ref fi_Share) = true)
    (ql_Share : K.lookup fi_Share = some ⟨oc_Share, od_Share, .func (PySem.W.fnOf "__init__" "Share.__init__" (fX jt) (dE jt) (ai jt) .none kV_Share dc_Share pm_Share an_Share cd_Share ct_Share), sl_Share⟩)
    (qc_Share : PySem.W.codeIn K cd_Share "Share.__init__" = true) (qk_Share : PySem.W.keepIn K (.ref fi_Share) = true)
    (qpg_Share : PySem.W.plainGet K c_Share Str.empty = true) (qhd_Share : PySem.W.hasDictIn K c_Share = true) (qpo_Share : PySem.W.plainOver K c_Share = true) (qsa_Share : PySem.W.findIn K (.ref c_Share) "__setattr__" = some (some (.builtin "object.__setattr__"))) (qmk_Share : PySem.W.makesIn K c_Share = true) (qkc_Share : PySem.W.keepIn K (.ref c_Share) = true)
    (qn_Share_who : PySem.W.findIn K (.ref c_Share) "who" = some none)
    (qn_Share_places : PySem.W.findIn K (.ref c_Share) "places" = some none)
    (qn_Share_moves : PySem.W.findIn K (.ref c_Share) "moves" = some none)
    (nl : mt K = true) :
    mt K = true ∧ ∃ fd : FuncData, (∀ (s : Shared) (v : Value), BindsTo s fd ⟨[v], []⟩ [("_law_script", v)]) ∧ ∀ base : Heap, K.In base → base.Ns mainGlobals mg → aV l.prog w K mg base (cK l.prog w mg) 6 fa fd ["_law_script"] (dm F0 1) := by
  have e := hfa.symm.trans (PySem.W.mg_of X G a29)
  cases e
  have b0 := q0.fn.binds (ps := ["_law_script", "_law_k"]) fun _ _ _ _ _ _ us hl => match us, hl with | [_, _], _ => rfl
  have m0 := PySem.W.mg_of X G q0.ns
  have b1 := q1.fn.binds (ps := ["_law_script", "_law_k"]) fun _ _ _ _ _ _ us hl => match us, hl with | [_, _], _ => rfl
  have m1 := PySem.W.mg_of X G q1.ns
  have b2 := q2.fn.binds (ps := ["_law_number", "_law_k"]) fun _ _ _ _ _ _ us hl => match us, hl with | [_, _], _ => rfl
  have m2 := PySem.W.mg_of X G q2.ns
  have b3 := q3.fn.binds (ps := ["_law_number", "_law_count"]) fun _ _ _ _ _ _ us hl => match us, hl with | [_, _], _ => rfl
  have m3 := PySem.W.mg_of X G q3.ns
  have b4 := q4.fn.binds (ps := ["_law_number", "_law_count", "_law_high"]) fun _ _ _ _ _ _ us hl => match us, hl with | [_, _, _], _ => rfl
  have m4 := PySem.W.mg_of X G q4.ns
  have b5 := q5.fn.binds (ps := ["_law_script", "_law_most"]) fun _ _ _ _ _ _ us hl => match us, hl with | [_, _], _ => rfl
  have m5 := PySem.W.mg_of X G q5.ns
  have b6 := q6.fn.binds (ps := ["_law_ground_here", "_law_who", "_law_moves", "_law_place_here"]) fun _ _ _ _ _ _ us hl => match us, hl with | [_, _, _, _], _ => rfl
  have m6 := PySem.W.mg_of X G q6.ns
  have b7 := q7.fn.binds (ps := ["_law_ground_here", "_law_who", "_law_moves", "_law_places"]) fun _ _ _ _ _ _ us hl => match us, hl with | [_, _, _, _], _ => rfl
  have m7 := PySem.W.mg_of X G q7.ns
  have b8 := q8.fn.binds (ps := ["_law_ground_here", "_law_who", "_law_moves", "_law_start", "_law_allowed"]) fun _ _ _ _ _ _ us hl => match us, hl with | [_, _, _, _, _], _ => rfl
  have m8 := PySem.W.mg_of X G q8.ns
  have b9 := q9.fn.binds (ps := ["ground"]) fun _ _ _ _ _ _ us hl => match us, hl with | [_], _ => rfl
  have m9 := PySem.W.mg_of X G q9.ns
  have b10 := q10.fn.binds (ps := ["thing"]) fun _ _ _ _ _ _ us hl => match us, hl with | [_], _ => rfl
  have m10 := PySem.W.mg_of X G q10.ns
  have b11 := q11.fn.binds (ps := ["thing", "low", "high"]) fun _ _ _ _ _ _ us hl => match us, hl with | [_, _, _], _ => rfl
  have m11 := PySem.W.mg_of X G q11.ns
  have b12 := q12.fn.binds (ps := ["thing", "count"]) fun _ _ _ _ _ _ us hl => match us, hl with | [_, _], _ => rfl
  have m12 := PySem.W.mg_of X G q12.ns
  have b13 := q13.fn.binds (ps := ["some", "others"]) fun _ _ _ _ _ _ us hl => match us, hl with | [_, _], _ => rfl
  have m13 := PySem.W.mg_of X G q13.ns
  have b14 := q14.fn.binds (ps := ["moves", "others"]) fun _ _ _ _ _ _ us hl => match us, hl with | [_, _], _ => rfl
  have m14 := PySem.W.mg_of X G q14.ns
  have b15 := q15.fn.binds (ps := ["ranks"]) fun _ _ _ _ _ _ us hl => match us, hl with | [_], _ => rfl
  have m15 := PySem.W.mg_of X G q15.ns
  have b16 := q16.fn.binds (ps := ["ground", "who", "ranks"]) fun _ _ _ _ _ _ us hl => match us, hl with | [_, _, _], _ => rfl
  have m16 := PySem.W.mg_of X G q16.ns
  have b17 := q17.fn.binds (ps := ["place", "ways", "who", "ranks"]) fun _ _ _ _ _ _ us hl => match us, hl with | [_, _, _, _], _ => rfl
  have m17 := PySem.W.mg_of X G q17.ns
  have b18 := q18.fn.binds (ps := ["ground", "inside", "who", "goals"]) fun _ _ _ _ _ _ us hl => match us, hl with | [_, _, _, _], _ => rfl
  have m18 := PySem.W.mg_of X G q18.ns
  have b19 := q19.fn.binds (ps := ["ground"]) fun _ _ _ _ _ _ us hl => match us, hl with | [_], _ => rfl
  have m19 := PySem.W.mg_of X G q19.ns
  have b20 := q20.fn.binds (ps := ["ground", "who", "part"]) fun _ _ _ _ _ _ us hl => match us, hl with | [_, _, _], _ => rfl
  have m20 := PySem.W.mg_of X G q20.ns
  have b21 := q21.fn.binds (ps := ["some", "others"]) fun _ _ _ _ _ _ us hl => match us, hl with | [_, _], _ => rfl
  have m21 := PySem.W.mg_of X G q21.ns
  have b22 := q22.fn.binds (ps := ["ground", "inside", "who", "goals"]) fun _ _ _ _ _ _ us hl => match us, hl with | [_, _, _, _], _ => rfl
  have m22 := PySem.W.mg_of X G q22.ns
  have b23 := q23.fn.binds (ps := ["ground", "shares"]) fun _ _ _ _ _ _ us hl => match us, hl with | [_, _], _ => rfl
  have m23 := PySem.W.mg_of X G q23.ns
  have b24 := q24.fn.binds (ps := ["ground", "who", "goals"]) fun _ _ _ _ _ _ us hl => match us, hl with | [_, _, _], _ => rfl
  have m24 := PySem.W.mg_of X G q24.ns
  have b25 := q25.fn.binds (ps := ["_law_ground_here", "_law_who", "_law_goals_here"]) fun _ _ _ _ _ _ us hl => match us, hl with | [_, _, _], _ => rfl
  have m25 := PySem.W.mg_of X G q25.ns
  have b26 := q26.fn.binds (ps := ["_law_number", "_law_count"]) fun _ _ _ _ _ _ us hl => match us, hl with | [_, _], _ => rfl
  have m26 := PySem.W.mg_of X G q26.ns
  have b27 := q27.fn.binds (ps := ["_law_moves", "_law_ground_here"]) fun _ _ _ _ _ _ us hl => match us, hl with | [_, _], _ => rfl
  have m27 := PySem.W.mg_of X G q27.ns
  have b28 := q28.fn.binds (ps := ["_law_found", "_law_ground_here"]) fun _ _ _ _ _ _ us hl => match us, hl with | [_, _], _ => rfl
  have m28 := PySem.W.mg_of X G q28.ns
  have F29 := sN (st := iT) l29 c29 k29
  have FF_Share := sN (st := jt) ql_Share qc_Share qk_Share
  have bb_Share := FF_Share.binds (ps := ["self", "who", "places", "moves"]) fun _ _ _ _ _ _ us hl => match us, hl with | [_, _, _, _], _ => rfl
  have mm_Share := PySem.W.mg_of X G qa_Share
  have ccl_Share : vZ K c_Share := ⟨qpg_Share, qhd_Share, qpo_Share, qsa_Share⟩
  have h0 := PySem.W.mg_of X G qg0
  have h1 := PySem.W.mg_of X G qg1
  have n0 := PySem.W.mg_of X G qm0
  have n1 := PySem.W.mg_of X G qm1
  have y0 := PySem.W.mg_none_of X G qz0
  have y1 := PySem.W.mg_none_of X G qz1
  have y2 := PySem.W.mg_none_of X G qz2
  have y3 := PySem.W.mg_none_of X G qz3
  have y4 := PySem.W.mg_none_of X G qz4
  have y5 := PySem.W.mg_none_of X G qz5
  have y6 := PySem.W.mg_none_of X G qz6
  have y7 := PySem.W.mg_none_of X G qz7
  have y8 := PySem.W.mg_none_of X G qz8
  have y9 := PySem.W.mg_none_of X G qz9
  have y10 := PySem.W.mg_none_of X G qz10
  have y11 := PySem.W.mg_none_of X G qz11
  refine ⟨nl, PySem.W.fnOf "law" "law" (fX iT) (dE iT) (ai iT) .none kV29 dc29 pm29 an29 cd29 ct29, fun s v => .of_eq rfl, fun base _ _ => ?_⟩
  have QI_Share : aV l.prog w K mg base (cK l.prog w mg) 1 fi_Share _ ["self", "who", "places", "moves"] (Cf c_Share ["who", "places", "moves"]) := zx FF_Share ccl_Share qn_Share_who qn_Share_places qn_Share_moves
  have Q0 : aV l.prog w K mg base (cK l.prog w mg) 1 f0 _ ["_law_script", "_law_k"] (dm bX 2) := n5 (k := 0) (W := q0.fn) (b_len := y4)
  have Q1 : aV l.prog w K mg base (cK l.prog w mg) 2 f1 _ ["_law_script", "_law_k"] (dm aL 2) := rm (k := 1) (W := q1.fn) (C16 := ⟨Q0.mono (by decide), m0, q0.fn.kp, b0⟩)
  have Q2 : aV l.prog w K mg base (cK l.prog w mg) 1 f2 _ ["_law_number", "_law_k"] (dm aG 2) := rS (k := 0) (W := q2.fn)
  have Q3 : aV l.prog w K mg base (cK l.prog w mg) 2 f3 _ ["_law_number", "_law_count"] (dm cI 2) := rL (k := 1) (W := q3.fn) (C18 := ⟨Q2.mono (by decide), m2, q2.fn.kp, b2⟩) (b_int := y2) (b_range := y8) (b_sorted := y9) (b_tuple := y10)
  have Q4 : aV l.prog w K mg base (cK l.prog w mg) 3 f4 _ ["_law_number", "_law_count", "_law_high"] (dm cr 3) := re (k := 2) (W := q4.fn) (C18 := ⟨Q2.mono (by decide), m2, q2.fn.kp, b2⟩) (C19 := ⟨Q3.mono (by decide), m3, q3.fn.kp, b3⟩)
  have Q5 : aV l.prog w K mg base (cK l.prog w mg) 4 f5 _ ["_law_script", "_law_most"] (dm cj 2) := qf (k := 3) (W := q5.fn) (C17 := ⟨Q1.mono (by decide), m1, q1.fn.kp, b1⟩) (C20 := ⟨Q4.mono (by decide), m4, q4.fn.kp, b4⟩) (b_len := y4) (b_max := y6) (b_min := y7) (b_range := y8) (b_tuple := y10)
  have Q6 : aV l.prog w K mg base (cK l.prog w mg) 1 f6 _ ["_law_ground_here", "_law_who", "_law_moves", "_law_place_here"] (dm a6 4) := sw (k := 0) (W := q6.fn) (b_list := y5)
  have Q7 : aV l.prog w K mg base (cK l.prog w mg) 2 f7 _ ["_law_ground_here", "_law_who", "_law_moves", "_law_places"] (dm ca 4) := p9 (k := 1) (W := q7.fn) (C24 := ⟨Q6.mono (by decide), m6, q6.fn.kp, b6⟩)
  have Q8 : aV l.prog w K mg base (cK l.prog w mg) 2 f8 _ ["_law_ground_here", "_law_who", "_law_moves", "_law_start", "_law_allowed"] (dm bn 5) := n9 (k := 1) (W := q8.fn) (C24 := ⟨Q6.mono (by decide), m6, q6.fn.kp, b6⟩)
  have Q9 : aV l.prog w K mg base (cK l.prog w mg) 1 f9 _ ["ground"] (dm cm 1) := qk (k := 0) (W := q9.fn) (b_len := y4) (b_range := y8) (b_tuple := y10)
  have Q10 : aV l.prog w K mg base (cK l.prog w mg) 1 f10 _ ["thing"] (dm dA 1) := sC (k := 0) (W := q10.fn) (b_bool := y0) (b_int := y2) (b_isinstance := y3)
  have Q11 : aV l.prog w K mg base (cK l.prog w mg) 2 f11 _ ["thing", "low", "high"] (dm bW 3) := p6 (k := 1) (W := q11.fn) (C0 := ⟨Q10.mono (by decide), m10, q10.fn.kp, b10⟩)
  have Q12 : aV l.prog w K mg base (cK l.prog w mg) 3 f12 _ ["thing", "count"] (dm cy 2) := tG (k := 2) (W := q12.fn) (C1 := ⟨Q11.mono (by decide), m11, q11.fn.kp, b11⟩) (b_isinstance := y3) (b_tuple := y10)
  have Q13 : aV l.prog w K mg base (cK l.prog w mg) 1 f13 _ ["some", "others"] (dm bc 2) := x4 (k := 0) (W := q13.fn) (b_tuple := y10)
  have Q14 : aV l.prog w K mg base (cK l.prog w mg) 1 f14 _ ["moves", "others"] (dm aF 2) := lV (k := 0) (W := q14.fn) (b_tuple := y10) (b_zip := y11)
  have Q15 : aV l.prog w K mg base (cK l.prog w mg) 1 f15 _ ["ranks"] (dm cg 1) := xF (k := 0) (W := q15.fn) (b_enumerate := y1) (b_tuple := y10)
  have Q16 : aV l.prog w K mg base (cK l.prog w mg) 2 f16 _ ["ground", "who", "ranks"] (dm bp 3) := l4 (k := 1) (W := q16.fn) (C12 := ⟨Q15.mono (by decide), m15, q15.fn.kp, b15⟩) (g_GOALS := h0) (g_WHO := h1) (b_tuple := y10)
  have Q17 : aV l.prog w K mg base (cK l.prog w mg) 1 f17 _ ["place", "ways", "who", "ranks"] (dm bE 4) := qJ (k := 0) (W := q17.fn) (g_WHO := h1) (b_len := y4)
  have Q18 : aV l.prog w K mg base (cK l.prog w mg) 2 f18 _ ["ground", "inside", "who", "goals"] (dm cP 4) := sy (k := 1) (W := q18.fn) (C4 := ⟨Q13.mono (by decide), m13, q13.fn.kp, b13⟩) (C10 := ⟨Q17.mono (by decide), m17, q17.fn.kp, b17⟩) (g_GOALS := h0) (b_len := y4) (b_list := y5) (b_range := y8) (b_tuple := y10)
  have Q19 : aV l.prog w K mg base (cK l.prog w mg) 1 f19 _ ["ground"] (dm bC 1) := sA (k := 0) (W := q19.fn) (b_tuple := y10)
  have Q20 : aV l.prog w K mg base (cK l.prog w mg) 2 f20 _ ["ground", "who", "part"] (dm bo 3) := l5 (k := 1) (W := q20.fn) (C4 := ⟨Q13.mono (by decide), m13, q13.fn.kp, b13⟩) (C6 := ⟨Q19.mono (by decide), m19, q19.fn.kp, b19⟩) (g_GOALS := h0) (g_WHO := h1) (b_list := y5) (b_tuple := y10)
  have Q21 : aV l.prog w K mg base (cK l.prog w mg) 1 f21 _ ["some", "others"] (dm bN 2) := wf (k := 0) (W := q21.fn) (b_tuple := y10)
  have Q22 : aV l.prog w K mg base (cK l.prog w mg) 3 f22 _ ["ground", "inside", "who", "goals"] (dm (a5 c_Share) 4) := kB (k := 2) (W := q22.fn) (C4 := ⟨Q13.mono (by decide), m13, q13.fn.kp, b13⟩) (C7 := ⟨Q14.mono (by decide), m14, q14.fn.kp, b14⟩) (C13 := ⟨Q16.mono (by decide), m16, q16.fn.kp, b16⟩) (C12 := ⟨Q15.mono (by decide), m15, q15.fn.kp, b15⟩) (C11 := ⟨Q18.mono (by decide), m18, q18.fn.kp, b18⟩) (C8 := ⟨Q20.mono (by decide), m20, q20.fn.kp, b20⟩) (C5 := ⟨Q21.mono (by decide), m21, q21.fn.kp, b21⟩) (b_len := y4) (cl_Share := ccl_Share) (n_Share_moves := qn_Share_moves) (n_Share_places := qn_Share_places) (n_Share_who := qn_Share_who) (m_Share := mm_Share) (MK_Share := ⟨qmk_Share, qi_Share, qf_Share, qkc_Share⟩) (I_Share := QI_Share) (B_Share := bb_Share) (hk := by decide)
  have Q23 : aV l.prog w K mg base (cK l.prog w mg) 2 f23 _ ["ground", "shares"] (dm (aY c_Share) 2) := jL (k := 1) (W := q23.fn) (C7 := ⟨Q14.mono (by decide), m14, q14.fn.kp, b14⟩) (C6 := ⟨Q19.mono (by decide), m19, q19.fn.kp, b19⟩) (b_tuple := y10) (cl_Share := ccl_Share) (n_Share_moves := qn_Share_moves) (n_Share_places := qn_Share_places) (n_Share_who := qn_Share_who)
  have Q24 : aV l.prog w K mg base (cK l.prog w mg) 4 f24 _ ["ground", "who", "goals"] (dm (cB c_Share) 3) := Al (k := 3) (W := q24.fn) (C3 := ⟨Q9.mono (by decide), m9, q9.fn.kp, b9⟩) (C2 := ⟨Q12.mono (by decide), m12, q12.fn.kp, b12⟩) (C14 := ⟨Q22.mono (by decide), m22, q22.fn.kp, b22⟩) (C9 := ⟨Q23.mono (by decide), m23, q23.fn.kp, b23⟩) (C5 := ⟨Q21.mono (by decide), m21, q21.fn.kp, b21⟩) (b_len := y4) (m_NoPart := n1) (q_NoPart := qq1) (cl_Share := ccl_Share) (n_Share_places := qn_Share_places)
  have Q25 : aV l.prog w K mg base (cK l.prog w mg) 5 f25 _ ["_law_ground_here", "_law_who", "_law_goals_here"] (dm (bK c_Share) 3) := oA (k := 4) (W := q25.fn) (C15 := ⟨Q24.mono (by decide), m24, q24.fn.kp, b24⟩) (b_isinstance := y3) (m_GroundError := n0) (q_GroundError := qq0) (m_NoPart := n1) (q_NoPart := qq1) (b_NoPart_NoPart := qs0) (k_NoPart_GroundError := qk0)
  have Q26 : aV l.prog w K mg base (cK l.prog w mg) 2 f26 _ ["_law_number", "_law_count"] (dm cY 2) := tP (k := 1) (W := q26.fn) (C18 := ⟨Q2.mono (by decide), m2, q2.fn.kp, b2⟩) (b_range := y8) (b_tuple := y10)
  have Q27 : aV l.prog w K mg base (cK l.prog w mg) 1 f27 _ ["_law_moves", "_law_ground_here"] (dm bq 2) := lc (k := 0) (W := q27.fn) (b_bool := y0) (b_int := y2) (b_isinstance := y3) (b_len := y4) (b_tuple := y10) (b_zip := y11)
  have Q28 : aV l.prog w K mg base (cK l.prog w mg) 2 f28 _ ["_law_found", "_law_ground_here"] (dm bw 2) := l0 (k := 1) (W := q28.fn) (C23 := ⟨Q27.mono (by decide), m27, q27.fn.kp, b27⟩) (b_bool := y0) (b_int := y2) (b_isinstance := y3) (b_len := y4) (b_tuple := y10) (b_zip := y11)
  have Q29 : aV l.prog w K mg base (cK l.prog w mg) 6 fa _ ["_law_script"] (dm (vb c_Share) 1) := CF (k := 5) (W := F29) (C21 := ⟨Q5.mono (by decide), m5, q5.fn.kp, b5⟩) (C26 := ⟨Q7.mono (by decide), m7, q7.fn.kp, b7⟩) (C17 := ⟨Q1.mono (by decide), m1, q1.fn.kp, b1⟩) (C25 := ⟨Q8.mono (by decide), m8, q8.fn.kp, b8⟩) (C28 := ⟨Q25.mono (by decide), m25, q25.fn.kp, b25⟩) (C22 := ⟨Q26.mono (by decide), m26, q26.fn.kp, b26⟩) (C27 := ⟨Q28.mono (by decide), m28, q28.fn.kp, b28⟩) (C15 := ⟨Q24.mono (by decide), m24, q24.fn.kp, b24⟩) (b_len := y4) (b_range := y8)
  exact Q29.imp B9
end G
open PySem PySem.W PyProof.Rows
set_option maxRecDepth 100000 in
set_option maxHeartbeats 0 in
theorem PySem.Challenge.cw_duelground_k20_whole_again_holds : PySem.Challenge.rw_duelground_k20_whole_again.Holds := by
  w_on; o_law; k_head; (case hw => w_witness2)
  k_fill
  refine D2.DZ (l := PySem.Challenge.rw_duelground_k20_whole_again) (k := 6) (x := "_law_script") (F := G.F0) rfl rfl ⟨rfl, by decide, by decide⟩ (fun w h Y => PySem.W.kIn_of Y) G.vc ?F
  case F =>
    intro w mg fa h KX GG hmg
    refine' G.Bi KX GG hmg ?q0 ?q1 ?q2 ?q3 ?q4 ?q5 ?q6 ?q7 ?q8 ?q9 ?q10 ?q11 ?q12 ?q13 ?q14 ?q15 ?q16 ?q17 ?q18 ?q19 ?q20 ?q21 ?q22 ?q23 ?q24 ?q25 ?q26 ?q27 ?q28 ?a29 ?l29 ?c29 ?k29 ?qg0 ?qg1 ?qz0 ?qz1 ?qz2 ?qz3 ?qz4 ?qz5 ?qz6 ?qz7 ?qz8 ?qz9 ?qz10 ?qz11 ?qm0 ?qq0 ?qm1 ?qq1 ?qs0 ?qk0 ?qa_Share ?qi_Share ?qf_Share ?ql_Share ?qc_Share ?qk_Share ?qpg_Share ?qhd_Share ?qpo_Share ?qsa_Share ?qmk_Share ?qkc_Share ?qn_Share_who ?qn_Share_places ?qn_Share_moves ?nl
    (case q0 => refine' D2.aT ?a ?l ?c ?k; (case a => k_is); (case l => k_is); (case c => k_is); (case k => k_is))
    (case q1 => refine' D2.aT ?a ?l ?c ?k; (case a => k_is); (case l => k_is); (case c => k_is); (case k => k_is))
    (case q2 => refine' D2.aT ?a ?l ?c ?k; (case a => k_is); (case l => k_is); (case c => k_is); (case k => k_is))
    (case q3 => refine' D2.aT ?a ?l ?c ?k; (case a => k_is); (case l => k_is); (case c => k_is); (case k => k_is))
    (case q4 => refine' D2.aT ?a ?l ?c ?k; (case a => k_is); (case l => k_is); (case c => k_is); (case k => k_is))
    (case q5 => refine' D2.aT ?a ?l ?c ?k; (case a => k_is); (case l => k_is); (case c => k_is); (case k => k_is))
    (case q6 => refine' D2.aT ?a ?l ?c ?k; (case a => k_is); (case l => k_is); (case c => k_is); (case k => k_is))
    (case q7 => refine' D2.aT ?a ?l ?c ?k; (case a => k_is); (case l => k_is); (case c => k_is); (case k => k_is))
    (case q8 => refine' D2.aT ?a ?l ?c ?k; (case a => k_is); (case l => k_is); (case c => k_is); (case k => k_is))
    (case q9 => refine' D2.aT ?a ?l ?c ?k; (case a => k_is); (case l => k_is); (case c => k_is); (case k => k_is))
    (case q10 => refine' D2.aT ?a ?l ?c ?k; (case a => k_is); (case l => k_is); (case c => k_is); (case k => k_is))
    (case q11 => refine' D2.aT ?a ?l ?c ?k; (case a => k_is); (case l => k_is); (case c => k_is); (case k => k_is))
    (case q12 => refine' D2.aT ?a ?l ?c ?k; (case a => k_is); (case l => k_is); (case c => k_is); (case k => k_is))
    (case q13 => refine' D2.aT ?a ?l ?c ?k; (case a => k_is); (case l => k_is); (case c => k_is); (case k => k_is))
    (case q14 => refine' D2.aT ?a ?l ?c ?k; (case a => k_is); (case l => k_is); (case c => k_is); (case k => k_is))
    (case q15 => refine' D2.aT ?a ?l ?c ?k; (case a => k_is); (case l => k_is); (case c => k_is); (case k => k_is))
    (case q16 => refine' D2.aT ?a ?l ?c ?k; (case a => k_is); (case l => k_is); (case c => k_is); (case k => k_is))
    (case q17 => refine' D2.aT ?a ?l ?c ?k; (case a => k_is); (case l => k_is); (case c => k_is); (case k => k_is))
    (case q18 => refine' D2.aT ?a ?l ?c ?k; (case a => k_is); (case l => k_is); (case c => k_is); (case k => k_is))
    (case q19 => refine' D2.aT ?a ?l ?c ?k; (case a => k_is); (case l => k_is); (case c => k_is); (case k => k_is))
    (case q20 => refine' D2.aT ?a ?l ?c ?k; (case a => k_is); (case l => k_is); (case c => k_is); (case k => k_is))
    (case q21 => refine' D2.aT ?a ?l ?c ?k; (case a => k_is); (case l => k_is); (case c => k_is); (case k => k_is))
    (case q22 => refine' D2.aT ?a ?l ?c ?k; (case a => k_is); (case l => k_is); (case c => k_is); (case k => k_is))
    (case q23 => refine' D2.aT ?a ?l ?c ?k; (case a => k_is); (case l => k_is); (case c => k_is); (case k => k_is))
    (case q24 => refine' D2.aT ?a ?l ?c ?k; (case a => k_is); (case l => k_is); (case c => k_is); (case k => k_is))
    (case q25 => refine' D2.aT ?a ?l ?c ?k; (case a => k_is); (case l => k_is); (case c => k_is); (case k => k_is))
    (case q26 => refine' D2.aT ?a ?l ?c ?k; (case a => k_is); (case l => k_is); (case c => k_is); (case k => k_is))
    (case q27 => refine' D2.aT ?a ?l ?c ?k; (case a => k_is); (case l => k_is); (case c => k_is); (case k => k_is))
    (case q28 => refine' D2.aT ?a ?l ?c ?k; (case a => k_is); (case l => k_is); (case c => k_is); (case k => k_is))
    (case a29 => k_is)
    (case l29 => k_is)
    (case c29 => k_is)
    (case k29 => k_is)
    (case qg0 => k_is)
    (case qg1 => k_is)
    (case qz0 => k_is)
    (case qz1 => k_is)
    (case qz2 => k_is)
    (case qz3 => k_is)
    (case qz4 => k_is)
    (case qz5 => k_is)
    (case qz6 => k_is)
    (case qz7 => k_is)
    (case qz8 => k_is)
    (case qz9 => k_is)
    (case qz10 => k_is)
    (case qz11 => k_is)
    (case qm0 => k_is)
    (case qq0 => k_exc)
    (case qm1 => k_is)
    (case qq1 => k_exc)
    (case qs0 => first | rfl | k_is | decide)
    (case qk0 => first | rfl | k_is | decide)
    (case qa_Share => k_is)
    (case qi_Share => k_is)
    (case qf_Share => k_is)
    (case ql_Share => k_is)
    (case qc_Share => k_is)
    (case qk_Share => k_is)
    (case qpg_Share => k_is)
    (case qhd_Share => k_is)
    (case qpo_Share => k_is)
    (case qsa_Share => k_is)
    (case qmk_Share => k_is)
    (case qkc_Share => k_is)
    (case qn_Share_who => k_is)
    (case qn_Share_places => k_is)
    (case qn_Share_moves => k_is)
    (case nl => first | rfl | k_is | decide)

import PyProof.Rows.All
import Wide.All
import OpenK.AllK
import Wide.FinOn
import Lean
import PyProof.EqAt
import PyProof.EqKinds
import PyProof.TupleCall
import PySem.Challenge.RW_duelground_k30_whole_won_by_marks
set_option Elab.async false
set_option linter.all false
set_option maxRecDepth 100000
namespace L2
open PySem PySem.Spec PyProof.Rows
abbrev cH := Sum Int Str
def mx : cH → Value → Bool
  | .inl k, v => Value.isInt k v
  | .inr x, v => Value.isStrOf x v
def Cg (w : World) : cH → Int
  | .inl k => hashInt k
  | .inr x => hashStr w x
theorem cf : ∀ {k : cH} {v : Value}, mx k v = true → (∃ i t, k = Sum.inl i ∧ v = Value.int i t) ∨ (∃ x t, k = Sum.inr x ∧ v = Value.str x t)
  | .inl i, v, h => by
    obtain ⟨t, e⟩ := Value.isInt_shape (k := i) (v := v) h
    exact .inl ⟨i, t, rfl, e⟩
  | .inr x, v, h => by
    obtain ⟨t, e⟩ := Value.isStrOf_shape (x := x) (v := v) h
    exact .inr ⟨x, t, rfl, e⟩
theorem uA (i : Int) (t : Tok) : mx (.inl i) (.int i t) = true := by simp [mx, Value.isInt]
theorem u5 (x : Str) (t : Tok) : mx (.inr x) (.str x t) = true := by simp [mx, Value.isStrOf]
theorem Av (a b : Int) : decide ((Sum.inl a : cH) = Sum.inl b) = (a == b) := by
  by_cases e : a = b
  · subst e; simp
  · have h : ¬ (Sum.inl a : cH) = Sum.inl b := fun q => e (Sum.inl.inj q)
    rw [decide_eq_false h]
    exact (beq_eq_false_iff_ne.mpr e).symm
theorem zI (a b : Str) : decide ((Sum.inr a : cH) = Sum.inr b) = decide (a = b) := by
  by_cases e : a = b
  · subst e; simp
  · have h : ¬ (Sum.inr a : cH) = Sum.inr b := fun q => e (Sum.inr.inj q)
    rw [decide_eq_false h, decide_eq_false e]
theorem Aa (a : Int) (b : Str) : decide ((Sum.inl a : cH) = Sum.inr b) = false := decide_eq_false (fun q => nomatch q)
theorem zF (a : Str) (b : Int) : decide ((Sum.inr a : cH) = Sum.inl b) = false := decide_eq_false (fun q => nomatch q)
def cL (prog : Program) (w : World) : PySem.KeyKind prog w cH where
  is := mx
  hash := Cg w
  inj := fun v a b ha hb => by
    rcases cf ha with ⟨i, t, rfl, rfl⟩ | ⟨x, t, rfl, rfl⟩
    · rcases cf hb with ⟨j, u, rfl, e⟩ | ⟨y, u, rfl, e⟩
      · injection e with e1 _; rw [e1]
      · exact nomatch e
    · rcases cf hb with ⟨j, u, rfl, e⟩ | ⟨y, u, rfl, e⟩
      · exact nomatch e
      · injection e with e1 _; rw [e1]
  byValue := fun k v h => by
    rcases cf h with ⟨i, t, rfl, rfl⟩ | ⟨x, t, rfl, rfl⟩ <;> rfl
  pyHash := fun hv h => by
    rcases cf hv with ⟨i, t, rfl, rfl⟩ | ⟨x, t, rfl, rfl⟩
    · exact wpAny_pyHash_int h
    · exact wpAny_pyHash_str h
  eqBool := fun hu hv h => by
    rcases cf hu with ⟨i, t, rfl, rfl⟩ | ⟨x, t, rfl, rfl⟩
    · rcases cf hv with ⟨j, u, rfl, rfl⟩ | ⟨y, u, rfl, rfl⟩
      · rw [Av] at h; exact wpAny_eqBool_int h
      · rw [Aa] at h; exact SeqAt.EqAt.int_str i t y u _ _ _ _ h
    · rcases cf hv with ⟨j, u, rfl, rfl⟩ | ⟨y, u, rfl, rfl⟩
      · rw [zF] at h; exact SeqAt.EqAt.str_int x t j u _ _ _ _ h
      · rw [zI] at h; exact wpAny_eqBool_str h
  «strs» := fun k x t v h => by
    rcases cf h with ⟨i, u, rfl, e⟩ | ⟨y, u, rfl, e⟩
    · exact nomatch e
    · injection e with e1 _
      subst e1
      cases v <;> rfl
theorem qr (prog : Program) (w : World) (i : Int) (t : Tok) : (cL prog w).is (.inl i) (.int i t) = true := uA i t
theorem pU (prog : Program) (w : World) (x : Str) (t : Tok) : (cL prog w).is (.inr x) (.str x t) = true := u5 x t
inductive V where
  | non | bl (b : Bool) | int (i : Int) | str (x : Str) | byt (b : Array UInt8) | flt (b : UInt64) | ref (a : Addr) | ty (n : String)
  deriving DecidableEq
def bi : V → Value → Prop
  | .non, u => u = Value.none
  | .bl b, u => u = Value.bool b
  | .int i, u => ∃ t, u = Value.int i t
  | .str x, u => ∃ t, u = Value.str x t
  | .byt b, u => ∃ t, u = Value.bytes b t
  | .flt b, u => ∃ t, u = Value.float b t
  | .ref a, u => u = Value.ref a
  | .ty n, u => u = Value.type n
abbrev bf : List V → List Value → Prop := Paired bi
theorem bf.length {xs : List V} {us : List Value} (r : bf xs us) : xs.length = us.length := Paired.length r
theorem bf.get : ∀ {xs : List V} {us : List Value} {i : Nat} {x : V}, bf xs us → xs[i]? = some x → ∃ u, us[i]? = some u ∧ bi x u
  | _, _, _, _, .nil, e => by simp at e
  | _, _, 0, _, .cons r _, e => by simp at e; subst e; exact ⟨_, rfl, r⟩
  | _, _, i + 1, x, .cons _ t, e => by
    obtain ⟨u, h1, h2⟩ := bf.get (i := i) (x := x) t (by simpa using e)
    exact ⟨u, by simpa using h1, h2⟩
theorem bf.set {x : V} {u : Value} (r : bi x u) : ∀ {xs : List V} {us : List Value} (i : Nat), bf xs us → bf (xs.set i x) (us.set i u)
  | _, _, _, .nil => .nil
  | _, _, 0, .cons _ t => .cons r t
  | _, _, i + 1, .cons q t => .cons q (bf.set r i t)
theorem bf.append : ∀ {xs ys : List V} {us ws : List Value}, bf xs us → bf ys ws → bf (xs ++ ys) (us ++ ws)
  | _, _, _, _, .nil, s => s
  | _, _, _, _, .cons r t, s => .cons r (bf.append t s)
theorem bf.take : ∀ {xs : List V} {us : List Value} (n : Nat), bf xs us → bf (xs.take n) (us.take n)
  | _, _, 0, _ => .nil
  | _, _, _ + 1, .nil => .nil
  | _, _, n + 1, .cons r t => .cons r (bf.take n t)
theorem bf.drop : ∀ {xs : List V} {us : List Value} (n : Nat), bf xs us → bf (xs.drop n) (us.drop n)
  | _, _, 0, r => r
  | _, _, _ + 1, .nil => .nil
  | _, _, n + 1, .cons _ t => bf.drop n t
def kS : Option V → Option Value → Prop
  | some v, some u => bi v u
  | none, none => True
  | _, _ => False
def KV {κ : Type} : List (κ × V) → List (κ × Value) → Prop := Paired fun (p : κ × V) (q : κ × Value) => p.1 = q.1 ∧ bi p.2 q.2
def kV : cH → V
  | .inl i => .int i
  | .inr x => .str x
inductive HO where
  /-- a list -/
  | lst (xs : List V)
  /-- a tuple (never changes) -/
  | tup (xs : List V)
  /-- a dict whose keys are ints and texts; one whose keys are tuples of ints and texts (the empty one is both) -/
  | dK (kvs : List (cH × V)) | dT (kvs : List (List cH × V))
  /-- a set of ints: its members, its size -/
  | set (S : Int → Bool) (n : Nat)
  /-- an instance of the class at C, its dict at dx, its attributes -/
  | ins (C dx : Addr) (fs : List (Str × V))
  /-- the dict of the instance at x -/
  | own (x : Addr)
  /-- the dict of an exception -/
  | xd (fs : List (Str × V))
  /-- a bound method, f of x -/
  | met (f x : Addr)
  /-- a range object lo, lo + 1, .. below hi -/
  | rng (lo hi : Int)
  /-- a thing that is known to the object (the script; a dict while a loop walks it): read, never written while it is so -/
  | frz (o : Obj) (u : HO)
  /-- a code object's table -/
  | tbl (ps : Array Value)
  /-- any other thing, by what is true of its one object (a def of one's own: SetO a S n := HO.ext fun h => ..) -/
  | ext (φ : Heap → Prop)
abbrev Hp := Addr → Option HO
def ca (H : Hp) (a : Addr) (o : HO) : Hp := fun b => if b = a then some o else H b
theorem aU {H : Hp} {a : Addr} {o : HO} : ca H a o a = some o := by unfold ca; rw [if_pos rfl]
theorem ao {H : Hp} {a b : Addr} {o : HO} (h : b ≠ a) : ca H a o b = H b := by unfold ca; rw [if_neg h]
theorem Bq {H : Hp} {a b : Addr} {o u : HO} (h : H a = some o) (h' : H b = some u) (d : o ≠ u) : a ≠ b := by
  intro e; subst e; rw [h] at h'; exact d (Option.some.inj h')
theorem aR {H : Hp} {a b : Addr} {o : HO} (h : H a = some o) (h' : H b = none) : a ≠ b := by
  intro e; subst e; rw [h] at h'; cases h'
section
variable (P : Program) (w : World)
def bF (H : Hp) (h : Heap) (a : Addr) : HO → Prop
  | .lst xs => xs.length ≤ sizeLine ∧ ∃ (its : List Value) (n : Nat), bf xs its ∧ h.get? a = some { cls := .type "list", data := .seq its.toArray n }
  | .tup xs => xs.length ≤ sizeLine ∧ ∃ its : List Value, bf xs its ∧ IsTup h a its.toArray
  | .dK kvs => kvs.length ≤ sizeLine ∧ (a == sysModules) = false ∧ ∃ vs, KV kvs vs ∧ h.DictOf (cL P w) a vs
  | .dT kvs => kvs.length ≤ sizeLine ∧ (a == sysModules) = false ∧ ∃ xs : List (List cH × Addr × Value),
      Paired (fun (p : List cH × V) (q : List cH × Addr × Value) => p.1 = q.1 ∧ H q.2.1 = some (.tup (p.1.map kV)) ∧ bi p.2 q.2.2) kvs xs ∧
      ∃ o es ep, h.get? a = some o ∧ o.ExactDict ∧ o.data = .dict es ep ∧ es.toList = xs.map (entryOfKey (tupleKind (cL P w))) ∧ (xs.map (·.1)).Nodup
  | .set S n => h.SetOf (intKind P w) a S n
  | .ins C dx fs => H dx = some (.own a) ∧ fs.length ≤ 1000 ∧ dx ≠ a ∧ h.get? a = some (PySem.W.instObj C dx) ∧
      ∃ mA, h.Ns1 dx mA ∧ (∀ f, kS (fs.lookup f) (mA f)) ∧ PySem.Within mA (fs.map (·.1))
  | .own _ => ∃ o, h.get? a = some o
  | .xd fs => ∃ mA, h.Ns1 a mA ∧ ∀ f, kS (fs.lookup f) (mA f)
  | .rng lo hi => ∃ t u v, h.get? a = some { cls := .type "range", data := .fields #[.int lo t, .int hi u, .int 1 v] }
  | .frz o u => h.get? a = some o ∧ bF H h a u
  | .tbl ps => h.get? a = some { cls := .none, data := .fields ps }
  | .met f x => h.get? a = some (PySem.W.methodObj (.ref f) (.ref x))
  | .ext φ => φ h ∧ (∃ o, h.get? a = some o) ∧ ∀ h1 h2 : Heap, φ h1 → (∀ o, h1.get? a = some o → h2.get? a = some o) → φ h2
def ji (H : Hp) (h : Heap) : Prop := ∀ a o, H a = some o → bF P w H h a o
end
section
variable {P : Program} {w : World} {H H' : Hp} {h h' : Heap} {a : Addr} {o : HO}
theorem bF.lt (x : bF P w H h a o) : a < h.objs.size := by
  cases o with
  | lst xs => obtain ⟨_, _, _, _, e⟩ := x; exact Heap.lt_size e
  | tup xs => obtain ⟨_, _, _, p⟩ := x; exact p.lt
  | dK kvs => obtain ⟨_, _, _, _, o, _, _, e, _⟩ := x; exact Heap.lt_size e
  | dT kvs => obtain ⟨_, _, _, _, o, _, _, e, _⟩ := x; exact Heap.lt_size e
  | set S n => obtain ⟨o, _, _, _, e, _⟩ := x; exact Heap.lt_size e
  | ins C dx fs => obtain ⟨_, _, _, e, _⟩ := x; exact Heap.lt_size e
  | own y => obtain ⟨_, e⟩ := x; exact Heap.lt_size e
  | xd fs => obtain ⟨_, ⟨_, _, _, e, _⟩, _⟩ := x; exact Heap.lt_size e
  | rng lo hi => obtain ⟨_, _, _, e⟩ := x; exact Heap.lt_size e
  | frz ob u => obtain ⟨e, _⟩ := x; exact Heap.lt_size e
  | tbl ps => exact Heap.lt_size (show h.get? a = some _ from x)
  | met f y => exact Heap.lt_size (show h.get? a = some _ from x)
  | ext φ => obtain ⟨_, ⟨_, e⟩, _⟩ := x; exact Heap.lt_size e
theorem Paired.mapP {α β : Type} {F G : α → β → Prop} : ∀ {l₁ : List α} {l₂ : List β}, Paired F l₁ l₂ → (∀ a b, F a b → G a b) → Paired G l₁ l₂
  | _, _, .nil, _ => .nil
  | _, _, .cons r t, f => .cons (f _ _ r) (Paired.mapP t f)
theorem bF.stay (x : bF P w H h a o) (k : ∀ b u, (b = a ∨ H b = some (.own a)) → h.get? b = some u → h'.get? b = some u)
    (ho : ∀ b, H b = some (.own a) → H' b = some (.own a)) (ht : ∀ b xs, H b = some (.tup xs) → H' b = some (.tup xs)) : bF P w H' h' a o := by
  induction o with
  | lst xs => obtain ⟨z, its, n, r, e⟩ := x; exact ⟨z, its, n, r, k _ _ (.inl rfl) e⟩
  | tup xs => obtain ⟨z, its, r, ob, e, c⟩ := x; exact ⟨z, its, r, ob, k _ _ (.inl rfl) e, c⟩
  | dK kvs => obtain ⟨z, y, vs, r, ob, es, ep, e, c⟩ := x; exact ⟨z, y, vs, r, ob, es, ep, k _ _ (.inl rfl) e, c⟩
  | dT kvs =>
    obtain ⟨z, y, xs, r, ob, es, ep, e, c⟩ := x
    exact ⟨z, y, xs, Paired.mapP r fun p q z => ⟨z.1, ht _ _ z.2.1, z.2.2⟩, ob, es, ep, k _ _ (.inl rfl) e, c⟩
  | set S n => obtain ⟨ob, es, ep, t, e, c⟩ := x; exact ⟨ob, es, ep, t, k _ _ (.inl rfl) e, c⟩
  | ins C dx fs =>
    obtain ⟨d, z, ne, e, mA, ⟨od, es, ep, e2, c⟩, r⟩ := x
    exact ⟨ho _ d, z, ne, k _ _ (.inl rfl) e, mA, ⟨od, es, ep, k _ _ (.inr d) e2, c⟩, r⟩
  | own y => obtain ⟨ob, e⟩ := x; exact ⟨ob, k _ _ (.inl rfl) e⟩
  | xd fs => obtain ⟨mA, ⟨od, es, ep, e, c⟩, r⟩ := x; exact ⟨mA, ⟨od, es, ep, k _ _ (.inl rfl) e, c⟩, r⟩
  | rng lo hi => obtain ⟨t, u, v, e⟩ := x; exact ⟨t, u, v, k _ _ (.inl rfl) e⟩
  | frz ob u ih => obtain ⟨e, q⟩ := x; exact ⟨k _ _ (.inl rfl) e, ih q⟩
  | tbl ps =>
    have e : h.get? a = some { cls := .none, data := .fields ps } := x
    show h'.get? a = some { cls := .none, data := .fields ps }
    exact k a _ (.inl rfl) e
  | met f y =>
    have e : h.get? a = some (PySem.W.methodObj (.ref f) (.ref y)) := x
    show h'.get? a = some (PySem.W.methodObj (.ref f) (.ref y))
    exact k a _ (.inl rfl) e
  | ext φ => obtain ⟨p, ⟨o, e⟩, st⟩ := x; exact ⟨st _ _ p fun o q => k _ _ (.inl rfl) q, ⟨o, k _ _ (.inl rfl) e⟩, st⟩
theorem ji.lt (x : ji P w H h) (e : H a = some o) : a < h.objs.size := (x a o e).lt
theorem ji.fresh (x : ji P w H h) (e : h.objs.size ≤ a) : H a = none := by
  cases q : H a with
  | none => rfl
  | some u => exact absurd (Nat.lt_of_lt_of_le (x.lt q) e) (Nat.lt_irrefl _)
theorem ji.kept (x : ji P w H h) (k : ∀ b u, h.get? b = some u → h'.get? b = some u) : ji P w H h' := fun a o e =>
  (x a o e).stay (fun b u _ q => k b u q) (fun _ q => q) fun _ _ q => q
theorem ji.laid (x : ji P w H h) (k : ∀ b u, h.get? b = some u → h'.get? b = some u) (hp : h.objs.size ≤ a) (new : bF P w (ca H a o) h' a o) : ji P w (ca H a o) h' := fun b u e => by
  have hn := x.fresh hp
  by_cases hb : b = a
  · subst hb; rw [aU] at e; cases e; exact new
  · rw [ao hb] at e
    exact (x b u e).stay (fun c v _ q => k c v q) (fun c q => by rw [ao (aR q hn)]; exact q) fun c xs q => by rw [ao (aR q hn)]; exact q
end
def Rd (H : Hp) (a : Addr) (u : HO) : Prop := H a = some u ∨ ∃ o, H a = some (.frz o u)
theorem Rd.ok {P : Program} {w : World} {H : Hp} {h : Heap} {a : Addr} {u : HO} (r : Rd H a u) (x : ji P w H h) : bF P w H h a u := by
  rcases r with r | ⟨o, r⟩
  · exact x a u r
  · obtain ⟨_, q⟩ := x a _ r
    exact q
def AS : Option HO → Prop
  | some (.lst _) => True
  | some (.dK _) => True
  | some (.dT _) => True
  | some (.set _ _) => True
  | some (.ins _ _ _) => True
  | some (.ext _) => True
  | _ => False
section
variable {P : Program} {w : World} {H : Hp} {h h' : Heap} {x e : Addr} {o' : HO}
theorem ji.write (ok : ji P w H h) (mu : AS (H x)) (he : e = x ∨ H e = some (.own x)) (k : ∀ b u, b ≠ e → h.get? b = some u → h'.get? b = some u) (heo : ∃ u, h'.get? e = some u)
    (new : bF P w (ca H x o') h' x o') : ji P w (ca H x o') h' := fun b u q => by
  have nown : ∀ c y, H c = some (.own y) → c ≠ x := fun c y r z => by subst z; rw [r] at mu; exact mu
  have ntup : ∀ c xs, H c = some (.tup xs) → c ≠ x := fun c xs r z => by subst z; rw [r] at mu; exact mu
  by_cases hb : b = x
  · subst hb; rw [aU] at q; cases q; exact new
  · rw [ao hb] at q
    by_cases hbe : b = e
    · have q' : H b = some (.own x) := by
        rcases he with z | z
        · exact absurd (hbe.trans z) hb
        · rw [hbe]; exact z
      rw [q] at q'; cases q'
      obtain ⟨v, hv⟩ := heo
      exact ⟨v, by rw [hbe]; exact hv⟩
    · refine (ok b u q).stay (fun c v hc r => k c v ?_ r) (fun c r => by rw [ao (nown c b r)]; exact r) fun c xs r => by rw [ao (ntup c xs r)]; exact r
      rcases hc with rfl | hc
      · exact hbe
      · rintro rfl
        rcases he with z | z
        · exact nown c b hc z
        · rw [hc] at z; cases z; exact hb rfl
end
structure Un (fs ex : List Addr) (H H' : Hp) (h h' : Heap) : Prop where
  keep : ∀ b o, h.get? b = some o → H b = none → b ∉ fs → b ∉ ex → h'.get? b = some o
  slot : ∀ b o, h.get? b = some o → H b = none → b ∈ fs → b ∉ ex → ∃ sl, h'.get? b = some { o with slots := sl }
  free : ∀ b o, h.get? b = some o → H b = none → b ∉ ex → H' b = none
  there : ∀ b o, h.get? b = some o → b ∉ ex → ∃ o', h'.get? b = some o'
  tups : ∀ b xs, H b = some (.tup xs) → H' b = some (.tup xs)
  frzs : ∀ b o u, H b = some (.frz o u) → H' b = some (.frz o u)
  tbls : ∀ b ps, H b = some (.tbl ps) → ∃ more, H' b = some (.tbl (ps ++ more))
section
variable {fs fs' ex ex' : List Addr} {H H1 H2 : Hp} {h h1 h2 h' : Heap} {a x e : Addr} {o : HO}
theorem Un.any (u : Un fs ex H H1 h h1) {b : Addr} {ob : Obj} (q : h.get? b = some ob) (n : H b = none) (hx : b ∉ ex) : ∃ sl, h1.get? b = some { ob with slots := sl } := by
  by_cases hb : b ∈ fs
  · exact u.slot b ob q n hb hx
  · exact ⟨ob.slots, u.keep b ob q n hb hx⟩
theorem Un.kept (k : ∀ b u, h.get? b = some u → h'.get? b = some u) : Un fs ex H H h h' :=
  ⟨fun b ob q _ _ _ => k b ob q, fun b ob q _ _ _ => ⟨ob.slots, k b ob q⟩, fun _ _ _ n _ => n, fun b ob q _ => ⟨ob, k b ob q⟩, fun _ _ q => q, fun _ _ _ q => q, fun _ ps q => ⟨#[], by rw [q]; simp⟩⟩
theorem Un.refl : Un fs ex H H h h := Un.kept fun _ _ q => q
theorem Un.laid (k : ∀ b u, h.get? b = some u → h'.get? b = some u) (hp : h.objs.size ≤ a) (hn : H a = none) : Un fs ex H (ca H a o) h h' where
  keep := fun b u q _ _ _ => k b u q
  slot := fun b u q _ _ _ => ⟨u.slots, k b u q⟩
  free := fun b u q n _ => by rw [ao (Nat.ne_of_lt (Nat.lt_of_lt_of_le (Heap.lt_size q) hp))]; exact n
  there := fun b u q _ => ⟨u, k b u q⟩
  tups := fun b xs q => by rw [ao (aR q hn)]; exact q
  frzs := fun b u xs q => by rw [ao (aR q hn)]; exact q
  tbls := fun b ps q => ⟨#[], by rw [ao (aR q hn), q]; simp⟩
theorem Un.write (mu : AS (H x)) (he : e = x ∨ H e = some (.own x)) (k : ∀ b u, b ≠ e → h.get? b = some u → h'.get? b = some u) (heo : ∃ u, h'.get? e = some u) : Un fs ex H (ca H x o) h h' := by
  have hx : ∀ b, H b = none → b ≠ x := fun b n z => by subst z; rw [n] at mu; exact mu
  have hb : ∀ b, H b = none → b ≠ e := fun b n z => by
    subst z
    rcases he with r | r
    · exact hx b n r
    · rw [n] at r; cases r
  have hm : ∀ b u, H b = some u → ¬ AS (some u) → b ≠ x := fun b u q nm z => by subst z; rw [q] at mu; exact nm mu
  refine ⟨fun b u q n _ _ => k b u (hb b n) q, fun b u q n _ _ => ⟨u.slots, k b u (hb b n) q⟩, fun b u q n _ => by rw [ao (hx b n)]; exact n, fun b u q _ => ?_,
    fun b xs q => by rw [ao (hm b _ q fun z => z)]; exact q, fun b u xs q => by rw [ao (hm b _ q fun z => z)]; exact q, fun b ps q => ⟨#[], by rw [ao (hm b _ q fun z => z), q]; simp⟩⟩
  by_cases hbe : b = e
  · subst hbe; exact heo
  · exact ⟨u, k b u hbe q⟩
end
def BX (h : Heap) (H : Hp) : List Addr := (List.range h.objs.size).filter fun a => (H a).isSome
def oW (h : Heap) (H : Hp) : Heap := PySem.W.hideAll h (BX h H)
theorem u8 (h : Heap) (H : Hp) : (oW h H).objs.size = h.objs.size := PySem.W.hideAll_size _ _
theorem wr {h : Heap} {H : Hp} {b : Addr} {o : Obj} (e : h.get? b = some o) (n : H b = none) : (oW h H).get? b = some o :=
  PySem.W.hideAll_get _ e fun hm => by
    have q : (H b).isSome = true := (List.mem_filter.mp hm).2
    rw [n] at q; simp at q
theorem x6 {h : Heap} {H : Hp} {b : Addr} {o : Obj} (e : (oW h H).get? b = some o) : h.get? b = some o ∧ H b = none := by
  have e' : h.get? b = some o := PySem.W.of_hideAll (BX h H) e
  refine ⟨e', ?_⟩
  cases q : H b with
  | none => rfl
  | some x =>
    have hm : b ∈ BX h H := List.mem_filter.mpr ⟨List.mem_range.mpr (Heap.lt_size e'), by simp [q]⟩
    have z : (oW h H).get? b = none := PySem.W.hideAll_none (BX h H) hm
    rw [z] at e; cases e
def xK (g h : Heap) (L : Addr) : List (Addr × Obj) := (List.range h.objs.size).filterMap fun a => if a = L ∨ (g.get? a).isSome = true then none else (h.get? a).map fun o => (a, o)
def rest (g h : Heap) (L d : Addr) : List (Addr × Obj) := (xK g h L).filter fun p => decide (p.1 ≠ d)
structure Mod (K : PySem.W.Frag) (mg : Str → Option Value) (base : Heap) : Prop where
  kin : K.In base
  glob : base.Ns mainGlobals mg
  blt : ∃ mb, base.Ns builtinsNs mb ∧ ∀ x : Str, x ≠ "__name__" → mb x = bootBuiltins x
  nolimit : base.NoLimit
structure Cx where
  prog : Program
  w : World
  K : PySem.W.Frag
  mg : Str → Option Value
  base : Heap
  A : Around
  N : List Str
  s₀ : Shared
  H₀ : Hp
  env : Env
  outer : List Env
  stack : List Env
  ex : List Addr
  fn : Str → Bool
  calm : Bool
  pn : List (Addr × Obj)
  xe : Value → Shared → Prop
def np (l : List Env) : List Addr := l.filterMap (·.frame)
abbrev Cx.fs (X : Cx) : List Addr := np X.outer
def Ay (sc : Scope) (x : Str) : Prop := sc.names.lookup x = some .local ∨ sc.names.lookup x = some .cell ∨ sc.names.lookup x = some .free
def zc (sc : Scope) (x : Str) : Prop := sc.names.lookup x = some .local ∨ sc.names.lookup x = some .cell
def Cn (env : Env) (h : Heap) (m : Str → Option Value) (x : Str) (u : Value) : Prop :=
  (env.kindOf x = some .local ∧ m x = some u) ∨ ((env.kindOf x = some .cell ∨ env.kindOf x = some .free) ∧ ∃ c, env.cells.lookup x = some c ∧ h.IsCell c (some u))
structure Cx.Ok (X : Cx) : Prop where
  mod : Mod X.K X.mg X.base
  kind : X.env.scope.kind = .function
  glob : X.env.globals = mainGlobals
  blt : X.env.builtins = builtinsNs
  above : X.s₀.heap.objs.size ≤ X.env.locals
  inj : ∀ x y c, X.env.cells.lookup x = some c → X.env.cells.lookup y = some c → x = y
  has : ∀ x, (X.env.kindOf x = some .cell ∨ X.env.kindOf x = some .free) → ∃ c, X.env.cells.lookup x = some c
  cab : ∀ x c, X.fn x = true → X.env.cells.lookup x = some c → X.s₀.heap.objs.size ≤ c
  hd : X.calm = true → X.A.handled = none
  frames : X.A.frames = some X.stack
  stk : X.stack = X.outer ∨ (X.stack = X.env :: X.outer ∧ X.env.frame = some X.env.locals)
  exf : ∀ b ∈ X.ex, b ≠ X.env.locals ∧ ∀ x c, X.env.cells.lookup x = some c → c ≠ b
  bs : ∀ b o, X.base.get? b = some o → X.s₀.heap.get? b = some o ∧ X.H₀ b = none
  bsz : X.base.objs.size ≤ X.s₀.heap.objs.size
  noex : ∀ b o, X.base.get? b = some o → b ∉ X.ex
  exfs : ∀ b ∈ X.ex, b ∉ X.fs
  funs : X.s₀.heap.FunFrames X.base X.outer
  frf : ∀ b ∈ X.fs, X.H₀ b = none
structure aC (X : Cx) (pins : List (Addr × Obj)) (σ : List (Option V)) (H : Hp) (s : Shared) : Prop where
  ok : X.Ok
  os : s.os = X.s₀.os
  bare : AllBare s.gens
  base : Un X.fs X.ex X.H₀ H X.s₀.heap s.heap
  loc : ∃ m, s.heap.Ns X.env.locals m ∧ ∀ (i : Nat) (x : Str) (v : V), X.N[i]? = some x → σ[i]? = some (some v) → Ay X.env.scope x → ∃ u, bi v u ∧ Cn X.env s.heap m x u
  cell : ∀ x c, X.env.cells.lookup x = some c → ∃ v, s.heap.IsCell c v
  free : H X.env.locals = none
  freeC : ∀ x c, X.env.cells.lookup x = some c → H c = none
  pin : ∀ p ∈ X.pn ++ pins, s.heap.get? p.1 = some p.2 ∧ H p.1 = none ∧ p.1 ≠ X.env.locals ∧ p.1 ∉ X.fs ∧ ∀ v, p.2.data ≠ .cell v
  hok : ji X.prog X.w H s.heap
  len : σ.length = X.N.length
section
variable {X : Cx} {pins : List (Addr × Obj)} {σ : List (Option V)} {H H' : Hp} {s : Shared} {h' : Heap}
theorem Cx.Ok.nofr (ok : X.Ok) {b : Addr} {o : Obj} (e : X.base.get? b = some o) : b ∉ X.fs := fun hb => by
  have := (ok.funs.mem hb).1
  rw [e] at this; cases this
theorem aC.bs (I : aC X pins σ H s) : ∀ b o, X.base.get? b = some o → s.heap.get? b = some o ∧ H b = none := fun b o e =>
  ⟨I.base.keep b o (I.ok.bs b o e).1 (I.ok.bs b o e).2 (I.ok.nofr e) (I.ok.noex b o e), I.base.free b o (I.ok.bs b o e).1 (I.ok.bs b o e).2 (I.ok.noex b o e)⟩
theorem aC.bk (I : aC X pins σ H s) : ∀ b o, X.base.get? b = some o → s.heap.get? b = some o := fun b o e => (I.bs b o e).1
theorem aC.mod (I : aC X pins σ H s) : Mod X.K X.mg X.base := I.ok.mod
theorem aC.kIn (I : aC X pins σ H s) : X.K.In s.heap := I.ok.mod.kin.keeps I.bk
theorem aC.lt (I : aC X pins σ H s) : X.env.locals < s.heap.objs.size := let ⟨_, hn, _⟩ := I.loc; hn.lt
theorem aC.sz (I : aC X pins σ H s) : X.s₀.heap.objs.size ≤ s.heap.objs.size := Nat.le_trans I.ok.above (Nat.le_of_lt I.lt)
theorem aC.nofs (I : aC X pins σ H s) {a : Addr} (h : s.heap.objs.size ≤ a) : a ∉ X.fs := fun hb => by
  obtain ⟨_, o, ho, _⟩ := I.ok.funs.mem hb
  exact absurd (Nat.lt_of_lt_of_le (Heap.lt_size ho) (Nat.le_trans I.sz h)) (Nat.lt_irrefl _)
theorem aC.cne (I : aC X pins σ H s) : ∀ x c, X.env.cells.lookup x = some c → c ≠ X.env.locals := fun x c e z => by
  obtain ⟨v, o, ho, hd⟩ := I.cell x c e
  obtain ⟨m, ⟨o', es, ep, ho', hd', _⟩, _⟩ := I.loc
  rw [z, ho'] at ho; cases ho; rw [hd'] at hd; cases hd
theorem aC.funs (I : aC X pins σ H s) : s.heap.FunFrames X.base X.outer := by
  have all : ∀ (l : List Env), (∀ b ∈ np l, b ∈ X.fs) → X.s₀.heap.FunFrames X.base l → s.heap.FunFrames X.base l := by
    intro l
    induction l with
    | nil => intro _ _; trivial
    | cons env r ih =>
      intro hs hl
      obtain ⟨hk, ⟨L, o, hf, hn, ho, hd⟩, hr⟩ := hl
      have hL : L ∈ X.fs := hs L (by unfold np; rw [List.filterMap_cons, hf]; exact List.mem_cons_self)
      obtain ⟨sl, e⟩ := I.base.slot L o ho (I.ok.frf L hL) hL fun z => I.ok.exfs L z hL
      exact ⟨hk, ⟨L, _, hf, hn, e, hd⟩, ih (fun b hb => hs b (by unfold np; rw [List.filterMap_cons, hf]; exact List.mem_cons_of_mem _ hb)) hr⟩
  exact all X.outer (fun _ hb => hb) I.ok.funs
theorem aC.stack (I : aC X pins σ H s) : s.heap.FunFrames X.base X.stack := by
  rcases I.ok.stk with e | ⟨e, hf⟩
  · rw [e]; exact I.funs
  · rw [e]
    obtain ⟨m, hn, _⟩ := I.loc
    refine .cons (by rw [I.ok.kind]; decide) hf hn ?_ I.funs
    exact Heap.get?_none_of_le (Nat.le_trans I.ok.bsz I.ok.above)
theorem aC.stkSub (I : aC X pins σ H s) : ∀ b ∈ np X.stack, b ∈ X.env.locals :: X.fs := fun b hb => by
  rcases I.ok.stk with e | ⟨e, hf⟩
  · rw [e] at hb; exact List.mem_cons_of_mem _ hb
  · rw [e] at hb
    unfold np at hb
    rw [List.filterMap_cons, hf] at hb
    exact hb
theorem aC.stkFree (I : aC X pins σ H s) : ∀ b ∈ np X.stack, H b = none := fun b hb => by
  rcases List.mem_cons.mp (I.stkSub b hb) with e | hb
  · rw [e]; exact I.free
  · obtain ⟨_, o, ho, _⟩ := I.ok.funs.mem hb
    exact I.base.free b o ho (I.ok.frf b hb) fun z => I.ok.exfs b z hb
theorem aC.step {g' : Array GenState} {t' : Nat} {d' : Drawn} {ch : List Addr} (I : aC X pins σ H s)
    (hch : ∀ b ∈ ch, (b ∈ X.ex ∨ X.s₀.heap.objs.size ≤ b) ∧ b ≠ X.env.locals ∧ (∀ x c, X.env.cells.lookup x = some c → c ≠ b) ∧ ∀ p ∈ X.pn ++ pins, p.1 ≠ b)
    (keep : ∀ b o, b ≠ X.env.locals → b ∉ X.fs → b ∉ ch → s.heap.get? b = some o → H b = none → h'.get? b = some o)
    (slot : ∀ b o, b ≠ X.env.locals → b ∈ X.fs → b ∉ ch → s.heap.get? b = some o → H b = none → ∃ sl, h'.get? b = some { o with slots := sl }) (free : ∀ b o, b ∉ ch → s.heap.get? b = some o → H b = none → H' b = none)
    (there : ∀ b o, b ∉ ch → s.heap.get? b = some o → ∃ o', h'.get? b = some o')
    (tups : ∀ b xs, H b = some (.tup xs) → H' b = some (.tup xs)) (frzs : ∀ b o u, H b = some (.frz o u) → H' b = some (.frz o u)) (tbls : ∀ b ps, H b = some (.tbl ps) → ∃ more, H' b = some (.tbl (ps ++ more)))
    (ns : ∀ m, s.heap.Ns X.env.locals m → h'.Ns X.env.locals m) (hok : ji X.prog X.w H' h') (hg : AllBare g') :
    aC X pins σ H' { s with heap := h', gens := g', drawn := d', toks := t' } := by
  have neL : ∀ b o, X.s₀.heap.get? b = some o → b ≠ X.env.locals := fun b o e => Nat.ne_of_lt (Nat.lt_of_lt_of_le (Heap.lt_size e) I.ok.above)
  have neC : ∀ b o, X.s₀.heap.get? b = some o → b ∉ X.ex → b ∉ ch := fun b o e hx hb => by
    rcases (hch b hb).1 with z | z
    · exact hx z
    · exact absurd (Nat.lt_of_lt_of_le (Heap.lt_size e) z) (Nat.lt_irrefl _)
  have cellK : ∀ x c, X.env.cells.lookup x = some c → ∀ v, s.heap.IsCell c v → h'.IsCell c v := fun x c e v ⟨o, ho, hd⟩ => by
    have nch : c ∉ ch := fun z => (hch c z).2.2.1 x c e rfl
    by_cases hc : c ∈ X.fs
    · obtain ⟨sl, q⟩ := slot c o (I.cne x c e) hc nch ho (I.freeC x c e)
      exact ⟨_, q, hd⟩
    · exact ⟨o, keep c o (I.cne x c e) hc nch ho (I.freeC x c e), hd⟩
  refine ⟨I.ok, I.os, hg, ⟨fun b o e n hb hx => ?_, fun b o e n hb hx => ?_, fun b o e n hx => ?_, fun b o e hx => ?_, fun b xs e => tups b xs (I.base.tups b xs e), fun b o xs e => frzs b o xs (I.base.frzs b o xs e), fun b ps e => ?_⟩, ?_, fun x c e => ?_, ?_, fun x c e => ?_, fun p hp => ?_, hok, I.len⟩
  · exact keep b o (neL b o e) hb (neC b o e hx) (I.base.keep b o e n hb hx) (I.base.free b o e n hx)
  · obtain ⟨sl, e1⟩ := I.base.slot b o e n hb hx
    obtain ⟨sl', e2⟩ := slot b _ (neL b o e) hb (neC b o e hx) e1 (I.base.free b o e n hx)
    exact ⟨sl', e2⟩
  · obtain ⟨o', e1⟩ := I.base.there b o e hx
    exact free b o' (neC b o e hx) e1 (I.base.free b o e n hx)
  · obtain ⟨o', e1⟩ := I.base.there b o e hx
    exact there b o' (neC b o e hx) e1
  · obtain ⟨m1, e1⟩ := I.base.tbls b ps e
    obtain ⟨m2, e2⟩ := tbls b _ e1
    exact ⟨m1 ++ m2, by rw [e2, Array.append_assoc]⟩
  · obtain ⟨m, hn, hl⟩ := I.loc
    refine ⟨m, ns m hn, fun i x v e1 e2 e3 => ?_⟩
    obtain ⟨u, r, l⟩ := hl i x v e1 e2 e3
    refine ⟨u, r, ?_⟩
    rcases l with l | ⟨k, c, e, z⟩
    · exact .inl l
    · exact .inr ⟨k, c, e, cellK x c e _ z⟩
  · obtain ⟨v, z⟩ := I.cell x c e
    exact ⟨v, cellK x c e v z⟩
  · obtain ⟨m, ⟨o, _, _, ho, _⟩, _⟩ := I.loc
    exact free _ o (fun z => (hch _ z).2.1 rfl) ho I.free
  · obtain ⟨v, o, ho, hd⟩ := I.cell x c e
    exact free c o (fun z => (hch c z).2.2.1 x c e rfl) ho (I.freeC x c e)
  · obtain ⟨e, n, ne, nf, d⟩ := I.pin p hp
    have nch : p.1 ∉ ch := fun z => (hch p.1 z).2.2.2 p hp rfl
    exact ⟨keep p.1 p.2 ne nf nch e n, free p.1 p.2 nch e n, ne, nf, d⟩
theorem aC.un {t' : Nat} (I : aC X pins σ H s) (u : Un X.fs [] H H' s.heap h') (hok : ji X.prog X.w H' h') : aC X pins σ H' { s with heap := h', toks := t' } := by
  obtain ⟨m, ⟨o, es, ep, ho, r⟩, _⟩ := id I.loc
  obtain ⟨sl, hL⟩ := u.any ho I.free (by simp)
  exact I.step (g' := s.gens) (d' := s.drawn) (ch := []) (fun _ z => nomatch z) (fun b o _ hb _ e n => u.keep b o e n hb (by simp)) (fun b o _ hb _ e n => u.slot b o e n hb (by simp)) (fun b o _ e n => u.free b o e n (by simp)) (fun b o _ e => u.there b o e (by simp)) u.tups u.frzs u.tbls (fun m' hm => by
    obtain ⟨o', es', ep', ho', r'⟩ := hm
    rw [ho] at ho'; cases ho'
    exact ⟨_, es', ep', hL, r'⟩) hok I.bare
theorem aC.call {g' : Array GenState} {t' : Nat} {d' : Drawn} {ch : List Addr} (I : aC X pins σ H s) (u : Un (np X.stack) ch H H' s.heap h') (hok : ji X.prog X.w H' h') (hg : AllBare g')
    (hch : ∀ b ∈ ch, (b ∈ X.ex ∨ X.s₀.heap.objs.size ≤ b) ∧ b ≠ X.env.locals ∧ (∀ x c, X.env.cells.lookup x = some c → c ≠ b) ∧ ∀ p ∈ X.pn ++ pins, p.1 ≠ b) :
    aC X pins σ H' { s with heap := h', gens := g', drawn := d', toks := t' } := by
  obtain ⟨m, ⟨o, es, ep, ho, r⟩, _⟩ := id I.loc
  obtain ⟨sl, hL⟩ := u.any ho I.free fun z => (hch _ z).2.1 rfl
  exact I.step (ch := ch) hch (fun b o hL hb hc e n => u.keep b o e n (fun z => (List.mem_cons.mp (I.stkSub b z)).elim hL hb) hc) (fun b o _ _ hc e n => u.any e n hc) (fun b o hc e n => u.free b o e n hc) (fun b o hc e => u.there b o e hc) u.tups u.frzs u.tbls (fun m' hm => by
    obtain ⟨o', es', ep', ho', r'⟩ := hm
    rw [ho] at ho'; cases ho'
    exact ⟨_, es', ep', hL, r'⟩) hok hg
theorem aC.turned {t' : Nat} {it : Addr} (I : aC X pins σ H s) (k : ∀ b o, b ≠ it → s.heap.get? b = some o → h'.get? b = some o) (hn : H it = none) (hL : it ≠ X.env.locals)
    (h1 : it ∈ X.ex ∨ X.s₀.heap.objs.size ≤ it) (h2 : ∀ x c, X.env.cells.lookup x = some c → c ≠ it) (h3 : ∀ p ∈ X.pn ++ pins, p.1 ≠ it) : aC X pins σ H { s with heap := h', toks := t' } := by
  have nit : ∀ b u, H b = some u → b ≠ it := fun b u e z => by rw [z, hn] at e; cases e
  refine I.step (g' := s.gens) (d' := s.drawn) (ch := [it]) (fun b hb => ?_) (fun b o _ _ hc e _ => k b o (fun z => hc (by simp [z])) e) (fun b o _ _ hc e _ => ⟨o.slots, k b o (fun z => hc (by simp [z])) e⟩) (fun _ _ _ _ n => n)
    (fun b o hc e => ⟨o, k b o (fun z => hc (by simp [z])) e⟩) (fun _ _ e => e) (fun _ _ _ e => e) (fun b ps e => ⟨#[], by rw [e]; simp⟩) (fun m hm => ?_) (fun b u e => ?_) I.bare
  · have e : b = it := by simpa using hb
    subst e
    exact ⟨h1, hL, h2, h3⟩
  · obtain ⟨o, es, ep, ho, r⟩ := hm
    exact ⟨o, es, ep, k _ o (Ne.symm hL) ho, r⟩
  · refine (I.hok b u e).stay (fun c v hc q => k c v ?_ q) (fun _ q => q) fun _ _ q => q
    rcases hc with z | z
    · rw [z]; exact nit b u e
    · exact nit c _ z
theorem aC.tok (I : aC X pins σ H s) (t : Nat) : aC X pins σ H { s with toks := t } := I.un (h' := s.heap) (t' := t) Un.refl I.hok
theorem aC.kept {t' : Nat} (I : aC X pins σ H s) (k : ∀ b u, s.heap.get? b = some u → h'.get? b = some u) : aC X pins σ H { s with heap := h', toks := t' } := I.un (Un.kept k) (I.hok.kept k)
theorem aC.laid {a : Addr} {o : HO} {t' : Nat} (I : aC X pins σ H s) (k : ∀ b u, s.heap.get? b = some u → h'.get? b = some u) (hp : s.heap.objs.size ≤ a) (new : bF X.prog X.w (ca H a o) h' a o) :
    aC X pins σ (ca H a o) { s with heap := h', toks := t' } := I.un (Un.laid k hp (I.hok.fresh hp)) (I.hok.laid k hp new)
theorem aC.write {x e : Addr} {o : HO} {t' : Nat} (I : aC X pins σ H s) (mu : AS (H x)) (he : e = x ∨ H e = some (.own x)) (k : ∀ b u, b ≠ e → s.heap.get? b = some u → h'.get? b = some u) (heo : ∃ u, h'.get? e = some u)
    (new : bF X.prog X.w (ca H x o) h' x o) : aC X pins σ (ca H x o) { s with heap := h', toks := t' } := I.un (Un.write mu he k heo) (I.hok.write mu he k heo new)
theorem aC.pins_of {pins' : List (Addr × Obj)} (I : aC X pins σ H s) (h : ∀ p ∈ pins', s.heap.get? p.1 = some p.2 ∧ H p.1 = none ∧ p.1 ≠ X.env.locals ∧ p.1 ∉ X.fs ∧ ∀ v, p.2.data ≠ .cell v) : aC X pins' σ H s :=
  ⟨I.ok, I.os, I.bare, I.base, I.loc, I.cell, I.free, I.freeC, fun p hp => (List.mem_append.mp hp).elim (fun z => I.pin p (List.mem_append_left _ z)) (h p), I.hok, I.len⟩
theorem qP {N : List Str} (hN : N.Nodup) {i j : Nat} {x : Str} (a : N[i]? = some x) (b : N[j]? = some x) : i = j := by
  obtain ⟨h1, e1⟩ := List.getElem?_eq_some_iff.mp a
  obtain ⟨h2, e2⟩ := List.getElem?_eq_some_iff.mp b
  exact (List.getElem_inj hN).mp (e1.trans e2.symm)
theorem nU {M : Model} {A : Around} {E : Value → Shared → Prop} {i : Nat} {x : Str} {v : V} {u : Value} {Q : Unit → Shared → Prop} (I : aC X pins σ H s) (hN : X.N.Nodup) (hi : X.N[i]? = some x) (hx : zc X.env.scope x) (r : bi v u)
    (h : ∀ s', aC X pins (σ.set i (some v)) H s' → (∃ a, Heap.SameBut a s.heap s'.heap ∧ (a = X.env.locals ∨ X.env.cells.lookup x = some a)) → Q () s') (hf : X.fn x = true ∨ X.env.scope.names.lookup x = some .local := by first | exact .inl rfl | exact .inr rfl | assumption) : wpAny M A (storeName X.env x u) Q E s := by
  obtain ⟨m, hn, hl⟩ := id I.loc
  have hcls : (X.env.scope.kind == .class || (X.env.scope.kind == .module && X.env.locals != X.env.globals)) = false := by rw [I.ok.kind]; rfl
  have hiσ : i < σ.length := by rw [I.len]; exact (List.getElem?_eq_some_iff.mp hi).1
  have cne := I.cne
  have tracked : ∀ {a : Addr} {h' : Heap}, (∃ o, s.heap.get? a = some o ∧ H a = none) → Heap.SameBut a s.heap h' → ji X.prog X.w H h' := fun {a h'} ha hs b ob e => by
    obtain ⟨_, _, hfree⟩ := ha
    refine (I.hok b ob e).stay (fun c w' hc q => (hs.2 c ?_).trans q) (fun _ q => q) fun _ _ q => q
    rintro rfl
    rcases hc with rfl | hc
    · rw [hfree] at e; cases e
    · rw [hfree] at hc; cases hc
  rcases hx with hk | hk
  · refine wpAny_storeName_local hk hn (fun h' hn' hs => ?_) hcls
    obtain ⟨oL, _, _, hoL, _⟩ := id hn
    refine h _ ⟨I.ok, I.os, I.bare, ⟨fun b o e n hb hx => ?_, fun b o e n hb hx => ?_, I.base.free, fun b o e hx => ?_, I.base.tups, I.base.frzs, I.base.tbls⟩, ⟨_, hn', fun j y v' e1 e2 e3 => ?_⟩, fun y c e => ?_, I.free, I.freeC, fun p hp => ?_, tracked ⟨oL, hoL, I.free⟩ hs, by simpa using I.len⟩ ⟨_, hs, .inl rfl⟩
    · exact (hs.2 b (Nat.ne_of_lt (Nat.lt_of_lt_of_le (Heap.lt_size e) I.ok.above))).trans (I.base.keep b o e n hb hx)
    · obtain ⟨sl, e1⟩ := I.base.slot b o e n hb hx
      exact ⟨sl, (hs.2 b (Nat.ne_of_lt (Nat.lt_of_lt_of_le (Heap.lt_size e) I.ok.above))).trans e1⟩
    · obtain ⟨o', e1⟩ := I.base.there b o e hx
      exact ⟨o', (hs.2 b (Nat.ne_of_lt (Nat.lt_of_lt_of_le (Heap.lt_size e) I.ok.above))).trans e1⟩
    · by_cases hj : j = i
      · subst hj
        rw [hi] at e1; cases e1
        rw [List.getElem?_set_self hiσ] at e2
        cases e2
        exact ⟨u, r, .inl ⟨hk, by simp⟩⟩
      · rw [List.getElem?_set_ne (Ne.symm hj)] at e2
        obtain ⟨u', r', q⟩ := hl j y v' e1 e2 e3
        refine ⟨u', r', ?_⟩
        rcases q with ⟨k, e⟩ | ⟨k, c, e, z⟩
        · refine .inl ⟨k, ?_⟩
          have : y ≠ x := fun e => hj (qP hN e1 (e ▸ hi))
          simp [this, e]
        · exact .inr ⟨k, c, e, z.sameBut hs (cne y c e)⟩
    · obtain ⟨w', z⟩ := I.cell y c e
      exact ⟨w', z.sameBut hs (cne y c e)⟩
    · obtain ⟨e, n, ne, nf, d⟩ := I.pin p hp
      exact ⟨(hs.2 p.1 ne).trans e, n, ne, nf, d⟩
  · have hfn : X.fn x = true := by
      rcases hf with z | z
      · exact z
      · rw [z] at hk; cases hk
    obtain ⟨c, hc⟩ := I.ok.has x (.inl hk)
    obtain ⟨w', z⟩ := I.cell x c hc
    refine wpAny_storeName_cell I.ok.kind hk hc z (fun h' hc' hs => ?_)
    obtain ⟨oc, hoc, hocd⟩ := id z
    refine h { s with heap := h' } ⟨I.ok, I.os, I.bare, ⟨fun b o e n hb hx => ?_, fun b o e n hb hx => ?_, I.base.free, fun b o e hx => ?_, I.base.tups, I.base.frzs, I.base.tbls⟩, ⟨m, hn.sameBut hs (Ne.symm (cne x c hc)), fun j y v' e1 e2 e3 => ?_⟩, fun y c' e => ?_, I.free, I.freeC, fun p hp => ?_, tracked ⟨oc, hoc, I.freeC x c hc⟩ hs, by simpa using I.len⟩ ⟨c, hs, .inr hc⟩
    · exact (hs.2 b (Nat.ne_of_lt (Nat.lt_of_lt_of_le (Heap.lt_size e) (I.ok.cab x c hfn hc)))).trans (I.base.keep b o e n hb hx)
    · obtain ⟨sl, e1⟩ := I.base.slot b o e n hb hx
      exact ⟨sl, (hs.2 b (Nat.ne_of_lt (Nat.lt_of_lt_of_le (Heap.lt_size e) (I.ok.cab x c hfn hc)))).trans e1⟩
    · obtain ⟨o', e1⟩ := I.base.there b o e hx
      exact ⟨o', (hs.2 b (Nat.ne_of_lt (Nat.lt_of_lt_of_le (Heap.lt_size e) (I.ok.cab x c hfn hc)))).trans e1⟩
    · by_cases hj : j = i
      · subst hj
        rw [hi] at e1; cases e1
        rw [List.getElem?_set_self hiσ] at e2
        cases e2
        exact ⟨u, r, .inr ⟨.inl hk, c, hc, hc'⟩⟩
      · rw [List.getElem?_set_ne (Ne.symm hj)] at e2
        obtain ⟨u', r', q⟩ := hl j y v' e1 e2 e3
        refine ⟨u', r', ?_⟩
        rcases q with q | ⟨k, c', e, z'⟩
        · exact .inl q
        · refine .inr ⟨k, c', e, z'.sameBut hs ?_⟩
          rintro rfl
          exact hj (qP hN e1 (I.ok.inj _ _ _ e hc ▸ hi))
    · by_cases hcc : c' = c
      · subst hcc; exact ⟨_, hc'⟩
      · obtain ⟨w2, z2⟩ := I.cell y c' e
        exact ⟨w2, z2.sameBut hs hcc⟩
    · obtain ⟨e, n, ne, nf, d⟩ := I.pin p hp
      refine ⟨(hs.2 p.1 ?_).trans e, n, ne, nf, d⟩
      intro q
      rw [q, hoc] at e
      have q' : oc = p.2 := Option.some.inj e
      exact d w' (by rw [← q']; exact hocd)
theorem lZ {M : Model} {A : Around} {E : Value → Shared → Prop} {i : Nat} {x : Str} {v : V} {u : Value} {Q : Unit → Shared → Prop} (I : aC X pins σ H s) (hN : X.N.Nodup) (hi : X.N[i]? = some x) (hx : zc X.env.scope x) (r : bi v u)
    (h : ∀ s', aC X pins (σ.set i (some v)) H s' → Q () s') (hf : X.fn x = true ∨ X.env.scope.names.lookup x = some .local := by first | exact .inl rfl | exact .inr rfl | assumption) : wpAny M A (storeName X.env x u) Q E s :=
  nU I hN hi hx r (fun s' I' _ => h s' I') hf
theorem aC.call' {s' : Shared} {ch : List Addr} (I : aC X pins σ H s) (ho : s'.os = s.os) (u : Un (np X.stack) ch H H' s.heap s'.heap) (hok : ji X.prog X.w H' s'.heap) (hg : AllBare s'.gens)
    (hch : ∀ b ∈ ch, (b ∈ X.ex ∨ X.s₀.heap.objs.size ≤ b) ∧ b ≠ X.env.locals ∧ (∀ x c, X.env.cells.lookup x = some c → c ≠ b) ∧ ∀ p ∈ X.pn ++ pins, p.1 ≠ b) : aC X pins σ H' s' := by
  obtain ⟨h', g', d', t', o'⟩ := s'
  have e : o' = s.os := ho
  subst e
  exact I.call (g' := g') (t' := t') (d' := d') u hok hg hch
end
abbrev XK := Value → Option Addr → Hp → Prop
abbrev St := List (Option V)
abbrev VK := V → Hp → Prop
abbrev TE := St → Hp → VK → Prop
abbrev TT := St → Hp → (Bool → Hp → Prop) → Prop
abbrev TA := St → Hp → (List V → Hp → Prop) → Prop
structure qt where
  nx : St → Hp → Prop
  rt : VK
  bk : St → Hp → Prop := fun _ _ => False
  ct : St → Hp → Prop := fun _ _ => False
abbrev TS := qt → St → Hp → Prop
def EP (X : Cx) (pins : List (Addr × Obj)) (σ : St) (Q : VK) (u : Value) (s' : Shared) : Prop := ∃ v H', aC X pins σ H' s' ∧ bi v u ∧ Q v H'
def TP (X : Cx) (pins : List (Addr × Obj)) (σ : St) (Q : Bool → Hp → Prop) (b : Bool) (s' : Shared) : Prop := ∃ H', aC X pins σ H' s' ∧ Q b H'
def AP (X : Cx) (pins : List (Addr × Obj)) (σ : St) (Q : List V → Hp → Prop) (us : List Value) (s' : Shared) : Prop := ∃ vs H', aC X pins σ H' s' ∧ bf vs us ∧ Q vs H'
def SP (X : Cx) (pins : List (Addr × Obj)) (D : qt) (f : Flow) (s' : Shared) : Prop :=
  match f with
  | .next => ∃ σ' H', aC X pins σ' H' s' ∧ D.nx σ' H'
  | .brk => ∃ σ' H', aC X pins σ' H' s' ∧ D.bk σ' H'
  | .cont => ∃ σ' H', aC X pins σ' H' s' ∧ D.ct σ' H'
  | .ret u => ∃ v σ' H', aC X pins σ' H' s' ∧ bi v u ∧ D.rt v H'
def PE (X : Cx) (e : Expr) (t : TE) : Prop :=
  ∀ (pins : List (Addr × Obj)) (s : Shared) (σ : St) (H : Hp) (Q : VK), aC X pins σ H s → t σ H Q → wpAny (model X.prog X.w) X.A (eval e X.env) (EP X pins σ Q) X.xe s
def PT (X : Cx) (e : Expr) (t : TT) : Prop :=
  ∀ (pins : List (Addr × Obj)) (s : Shared) (σ : St) (H : Hp) (Q : Bool → Hp → Prop), aC X pins σ H s → t σ H Q → wpAny (model X.prog X.w) X.A (isTrue e X.env (eval e X.env)) (TP X pins σ Q) X.xe s
def PW (X : Cx) (e : Expr) (t : TT) : Prop :=
  ∀ (whole : Sem Value) (pins : List (Addr × Obj)) (s : Shared) (σ : St) (H : Hp) (Q : Bool → Hp → Prop), aC X pins σ H s → t σ H Q → wpAny (model X.prog X.w) X.A (isTrue e X.env whole) (TP X pins σ Q) X.xe s
theorem PW.pt {X : Cx} {e : Expr} {t : TT} (h : PW X e t) : PT X e t := h _
def PA (X : Cx) (es : List Expr) (t : TA) : Prop :=
  ∀ (pos : Pos) (pins : List (Addr × Obj)) (s : Shared) (σ : St) (H : Hp) (Q : List V → Hp → Prop), aC X pins σ H s → t σ H Q → wpAny (model X.prog X.w) X.A (spliced (backTo pos (starEach es X.env))) (AP X pins σ Q) X.xe s
def PS (X : Cx) (st : Stmt) (t : TS) : Prop :=
  ∀ (pins : List (Addr × Obj)) (s : Shared) (σ : St) (H : Hp) (D : qt), aC X pins σ H s → t D σ H → wpAny (model X.prog X.w) X.A (exec st X.env) (SP X pins D) X.xe s
def pr (X : Cx) (st : List Stmt) (t : TS) : Prop :=
  ∀ (pins : List (Addr × Obj)) (s : Shared) (σ : St) (H : Hp) (D : qt), aC X pins σ H s → t D σ H → wpAny (model X.prog X.w) X.A (execs st X.env) (SP X pins D) X.xe s
theorem cO {α : Type} {t : Sem α} {Q Q' : α → Shared → Prop} {M : Model} {A : Around} {E : Value → Shared → Prop} {s : Shared} (h : wpAny M A t Q E s) (hQ : ∀ a s, Q a s → Q' a s) : wpAny M A t Q' E s := wpAny_mono h hQ fun _ _ x => x
section
variable {X : Cx}
theorem Di {a b : Expr} {ta tb : TE} (ha : PE X a ta) (hb : PE X b tb) {pins : List (Addr × Obj)} {s : Shared} {σ : St} {H : Hp} {R : V → V → Hp → Prop} (I : aC X pins σ H s) (h : ta σ H fun x H1 => tb σ H1 fun y H2 => R x y H2)
    {α : Type} {Q : α → Shared → Prop} {f : Value → Value → Sem α}
    (hf : ∀ v u s2 x y H2, aC X pins σ H2 s2 → bi x v → bi y u → R x y H2 → wpAny (model X.prog X.w) X.A (f v u) Q X.xe s2) :
    wpAny (model X.prog X.w) X.A (eval a X.env) (fun v s₁ => wpAny (model X.prog X.w) X.A (eval b X.env) (fun u s₂ => wpAny (model X.prog X.w) X.A (f v u) Q X.xe s₂) X.xe s₁) X.xe s := by
  refine cO (ha pins s σ H _ I h) fun v s1 ⟨x, H1, I1, r1, q1⟩ => ?_
  refine cO (hb pins s1 σ H1 _ I1 q1) fun u s2 ⟨y, H2, I2, r2, q2⟩ => ?_
  exact hf v u s2 x y H2 I2 r1 r2 q2
def A6 (i : Nat) : TE := fun σ H Q => ∃ v, σ[i]? = some (some v) ∧ Q v H
def tC (v : V) : TE := fun _ H Q => Q v H
theorem iP {i : Nat} {x : Str} {pos : Pos} (hN : X.N[i]? = some x) (hv : Ay X.env.scope x) (hd : (x == ("__debug__" : Str)) = false := by decide) (hcd : (x == ("__classdict__" : Str)) = false := by decide) : PE X (.Name x pos) (A6 i) := by
  intro pins s σ H Q I h
  obtain ⟨v, e, h⟩ := h
  obtain ⟨m, hn, hl⟩ := I.loc
  obtain ⟨u, r, l⟩ := hl i x v hN e hv
  have fin : EP X pins σ Q u s := ⟨v, H, I, r, h⟩
  rcases l with ⟨hk, hm⟩ | ⟨hk, c, hc, hcell⟩
  · exact wpAny_Name (wpAny_loadName_local I.ok.kind hk hn hm fin) hd
  · rcases hk with hk | hk
    · exact wpAny_Name (wpAny_loadName_cell I.ok.kind hk hc hcell fin) hd
    · exact wpAny_Name (wpAny_loadName_free I.ok.kind hk hc hcell fin hcd) hd
theorem zH {i j pos} : PE X (.Constant (.int i) j pos) (tC (.int i)) := fun _ _ _ H _ I h => wpAny_Constant_int ⟨.int i, H, I.tok _, ⟨_, rfl⟩, h⟩
theorem A4 {b j pos} : PE X (.Constant (.bool b) j pos) (tC (.bl b)) := fun _ _ _ H _ I h => Constant_bool ⟨.bl b, H, I, rfl, h⟩
theorem zu {j pos} : PE X (.Constant .none j pos) (tC .non) := fun _ _ _ H _ I h => Constant_none ⟨.non, H, I, rfl, h⟩
def Gl (X : Cx) (x : Str) : Prop := X.env.kindOf x = some .globalImplicit
theorem o9 {E : Value → Shared → Prop} {pins : List (Addr × Obj)} {s : Shared} {σ : St} {H : Hp} {x : Str} {u : Value} {pos : Pos} {Q : Value → Shared → Prop} (I : aC X pins σ H s) (hg : Gl X x) (hm : X.mg x = some u) (h : Q u s)
    (hd : (x == ("__debug__" : Str)) = false := by decide) : wpAny (model X.prog X.w) X.A (eval (.Name x pos) X.env) Q E s :=
  Calls.Name_function_global I.ok.kind hg (Calls.loadGlobal_global (by rw [I.ok.glob]; exact I.mod.glob.keeps I.bk) hm h) hd
theorem gS {E : Value → Shared → Prop} {pins : List (Addr × Obj)} {s : Shared} {σ : St} {H : Hp} {x : Str} {u : Value} {pos : Pos} {Q : Value → Shared → Prop} (I : aC X pins σ H s) (hg : Gl X x) (hm : X.mg x = none) (hv : bootBuiltins x = some u) (h : Q u s)
    (hn : x ≠ "__name__" := by decide) (hd : (x == ("__debug__" : Str)) = false := by decide) : wpAny (model X.prog X.w) X.A (eval (.Name x pos) X.env) Q E s := by
  obtain ⟨mb, h1, h2⟩ := I.mod.blt
  exact Calls.Name_function_global I.ok.kind hg (Calls.loadGlobal_builtin (by rw [I.ok.glob]; exact I.mod.glob.keeps I.bk) hm (by rw [I.ok.blt]; exact h1.keeps I.bk) ((h2 x hn).trans hv) h) hd
theorem yA {x : Str} {v : V} {u : Value} {pos : Pos} (hg : Gl X x) (hm : X.mg x = some u) (r : bi v u) (hd : (x == ("__debug__" : Str)) = false := by decide) : PE X (.Name x pos) (tC v) :=
  fun _ _ _ H _ I h => o9 I hg hm ⟨v, H, I, r, h⟩ hd
theorem xE {x : Str} {v : V} {u : Value} {pos : Pos} (hg : Gl X x) (hm : X.mg x = none) (hv : bootBuiltins x = some u) (r : bi v u) (hn : x ≠ "__name__" := by decide) (hd : (x == ("__debug__" : Str)) = false := by decide) : PE X (.Name x pos) (tC v) :=
  fun _ _ _ H _ I h => gS I hg hm hv ⟨v, H, I, r, h⟩ hn hd
variable {a b : Expr} {ta tb : TE} {pos : Pos}
def PC (X : Cx) (op : CmpOp) (a b : Expr) (t : TE) : Prop :=
  ∀ (pins : List (Addr × Obj)) (s : Shared) (σ : St) (H : Hp) (Q : VK), aC X pins σ H s → t σ H Q →
    wpAny (model X.prog X.w) X.A (eval a X.env) (fun v s₁ => wpAny (model X.prog X.w) X.A (eval b X.env) (fun u s₂ => wpAny (model X.prog X.w) X.A (compareOp op v u) (EP X pins σ Q) X.xe s₂) X.xe s₁) X.xe s
theorem wg (b : Expr) {op : CmpOp} (h : op ≠ .In) (h2 : op ≠ .NotIn) : behindInMarks op b = false := by
  have e1 : (op == CmpOp.In) = false := by cases op <;> first | rfl | exact absurd rfl h
  have e2 : (op == CmpOp.NotIn) = false := by cases op <;> first | rfl | exact absurd rfl h2
  cases b <;> simp [behindInMarks, e1, e2]
def tB (t : TE) : TT := fun σ H Q => t σ H fun x H1 => ∃ c, x = .bl c ∧ Q c H1
theorem B3 {op : CmpOp} {t : TE} (h : PC X op a b t) (h1 : behindInMarks op b = false := by first | exact wg _ (by decide) (by decide) | rfl) : PT X (.Compare a [op] [b] pos) (tB t) := by
  intro pins s σ H Q I hw
  refine wpAny_isTrue_Compare1 (cO (h pins s σ H _ I hw) fun v s1 h1 => cO h1 fun u s2 h2 => cO h2 fun c s3 ⟨x, H1, I1, r1, q1⟩ => ?_) h1
  obtain ⟨d, rfl, q⟩ := q1
  cases r1
  exact wpAny_truthy_bool ⟨H1, I1, q⟩
theorem zL {e : Expr} {t : TE} (h : PE X e t) (he : ∀ whole, isTrue e X.env whole = (do let v ← whole; standAt e.pos; holding [v] (truthy v)) := by intro _; rfl) : PT X e (tB t) := by
  intro pins s σ H Q I hw
  refine isTrue_plain (cO (h pins s σ H _ I hw) fun v s1 ⟨x, H1, I1, r1, q1⟩ => ?_) (he _)
  obtain ⟨d, rfl, q⟩ := q1
  cases r1
  exact wpAny_truthy_bool ⟨H1, I1, q⟩
variable {tA tB' : TT} {rest : List Expr}
def B1 (t u : TT) : TT := fun σ H Q => t σ H fun c H1 => if c = true then u σ H1 Q else Q false H1
def Db (t u : TT) : TT := fun σ H Q => t σ H fun c H1 => if c = true then Q true H1 else u σ H1 Q
def CA (t : TT) : TT := fun σ H Q => t σ H fun c H1 => Q (!c) H1
theorem pw_and1 (ha : PT X a tA) : PW X (.BoolOp .And [a] pos) tA := by
  intro wh pins s σ H Q I h
  refine isTrue_and (cO (ha pins s σ H Q I h) fun c s1 e => ?_)
  cases c with
  | true => exact isTrue_and_nil e
  | false => exact e
theorem pw_or1 (ha : PT X a tA) : PW X (.BoolOp .Or [a] pos) tA := by
  intro wh pins s σ H Q I h
  refine isTrue_or (cO (ha pins s σ H Q I h) fun c s1 e => ?_)
  cases c with
  | false => exact isTrue_or_nil e
  | true => exact e
theorem pw_and (ha : PT X a tA) (hb : PW X (.BoolOp .And (b :: rest) pos) tB') : PW X (.BoolOp .And (a :: b :: rest) pos) (B1 tA tB') := by
  intro wh pins s σ H Q I h
  refine isTrue_and (cO (ha pins s σ H _ I h) fun c s1 ⟨H1, I1, q1⟩ => ?_)
  cases c with
  | true => exact hb wh pins s1 σ H1 Q I1 q1
  | false => exact ⟨H1, I1, q1⟩
theorem pw_or (ha : PT X a tA) (hb : PW X (.BoolOp .Or (b :: rest) pos) tB') : PW X (.BoolOp .Or (a :: b :: rest) pos) (Db tA tB') := by
  intro wh pins s σ H Q I h
  refine isTrue_or (cO (ha pins s σ H _ I h) fun c s1 ⟨H1, I1, q1⟩ => ?_)
  cases c with
  | true => exact ⟨H1, I1, q1⟩
  | false => exact hb wh pins s1 σ H1 Q I1 q1
theorem zW (ha : PT X a tA) : PT X (.UnaryOp .Not a pos) (CA tA) := by
  intro pins s σ H Q I h
  exact isTrue_not (ha pins s σ H (fun c H1 => Q (!c) H1) I h)
def CZ (t : TT) (ta tb : TE) : TE := fun σ H Q => t σ H fun c H1 => if c = true then ta σ H1 Q else tb σ H1 Q
theorem vK {c : Expr} (hc : PT X c tA) (ha : PE X a ta) (hb : PE X b tb) : PE X (.IfExp c a b pos) (CZ tA ta tb) := by
  intro pins s σ H Q I h
  refine wpAny_IfExp (cO (hc pins s σ H _ I h) fun d s1 ⟨H1, I1, q1⟩ => ?_)
  cases d with
  | true => exact ha pins s1 σ H1 Q I1 q1
  | false => exact hb pins s1 σ H1 Q I1 q1
end
def mV (K : PySem.W.Frag) (H : Hp) (a : Addr) (xs : List V) : Prop :=
  Rd H a (.lst xs) ∨
    ∃ (o : Obj) (its : Array Value) (n : Nat), K.lookup a = some o ∧ o.cls = .type "list" ∧ o.dict = none ∧ o.data = .seq its n ∧ its.size ≤ sizeLine ∧ bf xs its.toList
def dF (K : PySem.W.Frag) (H : Hp) (a : Addr) (xs : List V) : Prop :=
  Rd H a (.tup xs) ∨
    ∃ (o : Obj) (its : Array Value) (n : Nat), K.lookup a = some o ∧ o.cls = .type "tuple" ∧ o.data = .seq its n ∧ its.size ≤ sizeLine ∧ bf xs its.toList
def Cc : Value → Option V
  | .none => some .non
  | .bool b => some (.bl b)
  | .int i _ => some (.int i)
  | .str x _ => some (.str x)
  | .bytes b _ => some (.byt b)
  | .float b _ => some (.flt b)
  | .ref a => some (.ref a)
  | .type n => some (.ty n)
  | _ => none
theorem bi.abs {x : V} {u : Value} (r : bi x u) : Cc u = some x := by
  cases x with
  | non => cases r; rfl
  | bl _ => cases r; rfl
  | int _ => obtain ⟨t, rfl⟩ := r; rfl
  | str _ => obtain ⟨t, rfl⟩ := r; rfl
  | byt _ => obtain ⟨t, rfl⟩ := r; rfl
  | flt _ => obtain ⟨t, rfl⟩ := r; rfl
  | ref _ => cases r; rfl
  | ty _ => cases r; rfl
theorem bi.inj {x y : V} {u : Value} (r : bi x u) (q : bi y u) : x = y := Option.some.inj (r.abs.symm.trans q.abs)
theorem bf.inj : ∀ {xs ys : List V} {us : List Value}, bf xs us → bf ys us → xs = ys
  | _, _, _, .nil, .nil => rfl
  | _, _, _, .cons r t, .cons r' t' => by rw [r.inj r', bf.inj t t']
section
variable {X : Cx} {pins : List (Addr × Obj)} {σ : St} {H : Hp} {s : Shared} {a : Addr} {xs ys : List V}
theorem mV.of {K : PySem.W.Frag} (h : H a = some (.lst xs)) : mV K H a xs := .inl (.inl h)
theorem dF.of {K : PySem.W.Frag} (h : H a = some (.tup xs)) : dF K H a xs := .inl (.inl h)
theorem aC.list (I : aC X pins σ H s) (h : mV X.K H a xs) : ∃ its : List Value, bf xs its ∧ PlainL s.heap a its.toArray ∧ xs.length ≤ sizeLine := by
  rcases h with h | ⟨o, its, n, hk, hc, hd, hs, hz, r⟩
  · obtain ⟨z, its, n, r, e⟩ := h.ok I.hok
    exact ⟨its, r, ⟨_, n, e, rfl, rfl, rfl⟩, z⟩
  · refine ⟨its.toList, r, ⟨o, n, I.kIn a o hk, hc, hd, by simpa using hs⟩, ?_⟩
    have e := r.length
    simp only [Array.length_toList] at e
    omega
theorem aC.tuple (I : aC X pins σ H s) (h : dF X.K H a xs) : ∃ its : List Value, bf xs its ∧ IsTup s.heap a its.toArray ∧ xs.length ≤ sizeLine := by
  rcases h with h | ⟨o, its, n, hk, hc, hs, hz, r⟩
  · obtain ⟨z, its, r, p⟩ := h.ok I.hok
    exact ⟨its, r, p, z⟩
  · refine ⟨its.toList, r, ⟨o, I.kIn a o hk, hc, n, by simpa using hs⟩, ?_⟩
    have e := r.length
    simp only [Array.length_toList] at e
    omega
theorem aC.list_inj (I : aC X pins σ H s) (h : mV X.K H a xs) (h' : mV X.K H a ys) : xs = ys := by
  obtain ⟨its, r, ⟨o, n, e, _, _, d⟩, _⟩ := I.list h
  obtain ⟨its', r', ⟨o', n', e', _, _, d'⟩, _⟩ := I.list h'
  rw [e] at e'; cases e'
  rw [d] at d'
  injection d' with d1 _
  have : its = its' := by simpa using congrArg Array.toList d1
  subst this
  exact r.inj r'
theorem aC.tuple_inj (I : aC X pins σ H s) (h : dF X.K H a xs) (h' : dF X.K H a ys) : xs = ys := by
  obtain ⟨its, r, ⟨o, e, _, n, d⟩, _⟩ := I.tuple h
  obtain ⟨its', r', ⟨o', e', _, n', d'⟩, _⟩ := I.tuple h'
  rw [e] at e'; cases e'
  rw [d] at d'
  injection d' with d1 _
  have : its = its' := by simpa using congrArg Array.toList d1
  subst this
  exact r.inj r'
end
abbrev Cx.wish (X : Cx) (E : Value → Shared → Prop) : Cx := { X with xe := E }
abbrev Cx.nox (X : Cx) : Cx := X.wish fun _ _ => False
theorem Cx.Ok.wish {X : Cx} (ok : X.Ok) (E : Value → Shared → Prop) : (X.wish E).Ok :=
  ⟨ok.mod, ok.kind, ok.glob, ok.blt, ok.above, ok.inj, ok.has, ok.cab, ok.hd, ok.frames, ok.stk, ok.exf, ok.bs, ok.bsz, ok.noex, ok.exfs, ok.funs, ok.frf⟩
theorem Cx.Ok.unwish {X : Cx} {E : Value → Shared → Prop} (ok : (X.wish E).Ok) : X.Ok :=
  ⟨ok.mod, ok.kind, ok.glob, ok.blt, ok.above, ok.inj, ok.has, ok.cab, ok.hd, ok.frames, ok.stk, ok.exf, ok.bs, ok.bsz, ok.noex, ok.exfs, ok.funs, ok.frf⟩
section
variable {X : Cx} {pins : List (Addr × Obj)} {σ : St} {H : Hp} {s : Shared} {E : Value → Shared → Prop}
theorem aC.wish (I : aC X pins σ H s) (E : Value → Shared → Prop) : aC (X.wish E) pins σ H s := ⟨I.ok.wish E, I.os, I.bare, I.base, I.loc, I.cell, I.free, I.freeC, I.pin, I.hok, I.len⟩
theorem aC.unwish (I : aC (X.wish E) pins σ H s) : aC X pins σ H s := ⟨I.ok.unwish, I.os, I.bare, I.base, I.loc, I.cell, I.free, I.freeC, I.pin, I.hok, I.len⟩
theorem SP.unwish {D : qt} {f : Flow} {s' : Shared} (h : SP (X.wish E) pins D f s') : SP X pins D f s' := by
  cases f with
  | next => obtain ⟨σ', H', I, q⟩ := h; exact ⟨σ', H', I.unwish, q⟩
  | brk => obtain ⟨σ', H', I, q⟩ := h; exact ⟨σ', H', I.unwish, q⟩
  | cont => obtain ⟨σ', H', I, q⟩ := h; exact ⟨σ', H', I.unwish, q⟩
  | ret u => obtain ⟨v, σ', H', I, r, q⟩ := h; exact ⟨v, σ', H', I.unwish, r, q⟩
theorem PE.nox {e : Expr} {t : TE} (h : PE X.nox e t) : PE X e t := fun pins s σ H Q I hw =>
  wpAny_mono (h pins s σ H Q (I.wish _) hw) (fun _ _ ⟨v, H', I', r, q⟩ => ⟨v, H', I'.unwish, r, q⟩) fun _ _ z => False.elim z
theorem PT.nox {e : Expr} {t : TT} (h : PT X.nox e t) : PT X e t := fun pins s σ H Q I hw =>
  wpAny_mono (h pins s σ H Q (I.wish _) hw) (fun _ _ ⟨H', I', q⟩ => ⟨H', I'.unwish, q⟩) fun _ _ z => False.elim z
theorem pr.nox {st : List Stmt} {t : TS} (h : pr X.nox st t) : pr X st t := fun pins s σ H D I hw =>
  wpAny_mono (h pins s σ H D (I.wish _) hw) (fun _ _ q => q.unwish) fun _ _ z => False.elim z
end
section
variable {X : Cx} {st : Stmt} {rest : List Stmt} {t u : TS} {e : Expr} {te : TE} {pos : Pos}
def AQ : TS := fun D σ H => D.nx σ H
def Ct (t u : TS) : TS := fun D σ H => t { D with nx := u D } σ H
theorem yj : pr X [] AQ := fun _ _ σ H _ I h => wpAny_execs_nil ⟨σ, H, I, h⟩
theorem mH (h1 : PS X st t) (h2 : pr X rest u) : pr X (st :: rest) (Ct t u) := by
  intro pins s σ H D I h
  refine wpAny_execs_cons (cO (h1 pins s σ H { D with nx := u D } I h) fun f s1 q => ?_)
  cases f with
  | next =>
    obtain ⟨σ', H', I', q⟩ := q
    exact h2 pins s1 σ' H' D I' q
  | ret v => exact q
  | brk => exact q
  | cont => exact q
theorem tM (h1 : PS X st t) : pr X [st] t := by
  intro pins s σ H D I h
  refine wpAny_execs_cons (cO (h1 pins s σ H D I h) fun f s1 q => ?_)
  cases f with
  | next => exact wpAny_execs_nil q
  | ret v => exact q
  | brk => exact q
  | cont => exact q
theorem aC.quiet {pins : List (Addr × Obj)} {σ : St} {H : Hp} {s : Shared} (I : aC X pins σ H s) : interactive X.env = false := by simp [interactive, I.ok.kind]
def A8 (te : TE) : TS := fun D σ H => te σ H fun _ H1 => D.nx σ H1
theorem xS (he : PE X e te) (hs : swapsWith e none pos.line X.env = pure false := by rfl) : PS X (.Expr e pos) (A8 te) := by
  intro pins s σ H D I h
  exact wpAny_Expr_any (cO (he pins s σ H _ I h) fun v s1 ⟨x, H1, I1, r1, q1⟩ => ⟨σ, H1, I1, q1⟩) I.quiet hs
def Ce (te : TE) : TS := fun D σ H => te σ H D.rt
theorem sr (he : PE X e te) : PS X (.Return (some e) pos) (Ce te) := by
  intro pins s σ H D I h
  exact wpAny_Return_some (cO (he pins s σ H _ I h) fun v s1 ⟨x, H1, I1, r1, q1⟩ => ⟨x, σ, H1, I1, r1, q1⟩)
def Cs (c : TT) (t u : TS) : TS := fun D σ H => c σ H fun b H1 => if b = true then t D σ H1 else u D σ H1
theorem A7 {c : Expr} {a b : List Stmt} {tc : TT} (hc : PT X c tc) (ha : pr X a t) (hb : pr X b u) : PS X (.If c a b pos) (Cs tc t u) := by
  intro pins s σ H D I h
  refine wpAny_If (cO (hc pins s σ H _ I h) fun d s1 ⟨H1, I1, q1⟩ => ?_)
  cases d with
  | true => exact ha pins s1 σ H1 D I1 q1
  | false => exact hb pins s1 σ H1 D I1 q1
end
abbrev TG := V → St → Hp → (St → Hp → Prop) → Prop
abbrev Aq := List V → St → Hp → (St → Hp → Prop) → Prop
def PG (X : Cx) (target : Expr) (t : TG) : Prop :=
  ∀ (pins : List (Addr × Obj)) (s : Shared) (σ : St) (H : Hp) (v : V) (u : Value) (Q : St → Hp → Prop), aC X pins σ H s → bi v u → t v σ H Q →
    wpAny (model X.prog X.w) X.A (assign target X.env u) (fun _ s' => ∃ σ' H', aC X pins σ' H' s' ∧ Q σ' H') X.xe s
def BW (X : Cx) (ts : List Expr) (t : Aq) : Prop :=
  ∀ (pins : List (Addr × Obj)) (s : Shared) (σ : St) (H : Hp) (vs : List V) (us : List Value) (Q : St → Hp → Prop), aC X pins σ H s → bf vs us → t vs σ H Q →
    wpAny (model X.prog X.w) X.A (assignInOrder ((assignEach ts X.env).map (·.2)) us) (fun _ s' => ∃ σ' H', aC X pins σ' H' s' ∧ Q σ' H') X.xe s
abbrev zT := V → V → V → Hp → (Hp → Prop) → Prop
def AM (X : Cx) (t : zT) : Prop :=
  ∀ (pins : List (Addr × Obj)) (s : Shared) (σ : St) (H : Hp) (o i v : V) (ov iv u : Value) (Q : Hp → Prop), aC X pins σ H s → bi o ov → bi i iv → bi v u → t o i v H Q →
    wpAny (model X.prog X.w) X.A (setItem ov iv u) (fun _ s' => ∃ H', aC X pins σ H' s' ∧ Q H') X.xe s
abbrev BU := V → V → Hp → VK → Prop
def CF (X : Cx) (op : Operator) (t : BU) : Prop :=
  ∀ (pins : List (Addr × Obj)) (s : Shared) (σ : St) (H : Hp) (x y : V) (v u : Value) (Q : VK), aC X pins σ H s → bi x v → bi y u → t x y H Q →
    wpAny (model X.prog X.w) X.A (inplaceOp op v u) (EP X pins σ Q) X.xe s
section
variable {X : Cx} {pos : Pos}
def zi (i : Nat) : TG := fun v σ H Q => Q (σ.set i (some v)) H
theorem je {i : Nat} {x : Str} (hN : X.N.Nodup) (hi : X.N[i]? = some x) (hx : zc X.env.scope x) (hf : X.fn x = true ∨ X.env.scope.names.lookup x = some .local := by first | exact .inl rfl | exact .inr rfl | assumption) : PG X (.Name x pos) (zi i) := by
  intro pins s σ H v u Q I r h
  exact wpAny_assign_Name (lZ I hN hi hx r (fun s' I' => ⟨_, H, I', h⟩) hf)
def B9 : Aq := fun vs σ H Q => vs = [] ∧ Q σ H
def Bj (t : TG) (u : Aq) : Aq := fun vs σ H Q => ∃ v r, vs = v :: r ∧ t v σ H fun σ' H' => u r σ' H' Q
theorem tF : BW X [] B9 := by
  intro pins s σ H vs us Q I r h
  obtain ⟨e, h⟩ := h
  subst e
  cases r
  exact assignInOrder_nil ⟨σ, H, I, h⟩
theorem iC {e : Expr} {es : List Expr} {t : TG} {u : Aq} (h1 : PG X e t) (h2 : BW X es u)
    (hs : (assignEach (e :: es) X.env).map (·.2) = assign e X.env :: (assignEach es X.env).map (·.2) := by rfl) : BW X (e :: es) (Bj t u) := by
  intro pins s σ H vs us Q I r h
  obtain ⟨v, vr, e1, h⟩ := h
  subst e1
  cases r with
  | cons r rr =>
    rw [hs]
    refine assignInOrder_cons (cO (h1 pins s σ H _ _ _ I r h) fun _ s1 ⟨σ1, H1, I1, q1⟩ => ?_)
    exact h2 pins s1 σ1 H1 _ _ Q I1 rr q1
def Cl (K : PySem.W.Frag) (n : Nat) (t : Aq) : TG := fun v σ H Q => ∃ a xs, v = .ref a ∧ dF K H a xs ∧ xs.length = n ∧ t xs σ H Q
theorem wG {es : List Expr} {k : Nat} {t : Aq} {n : Nat} (hc : X.calm = true) (h : BW X es t)
    (hn : (assignEach es X.env).length = n := by rfl) (hst : (assignEach es X.env).findIdx? (·.1) = none := by rfl) : PG X (.Tuple es k pos) (Cl X.K n t) := by
  intro pins s σ H v u Q I r hw
  obtain ⟨a, xs, e1, hq, hl, hw⟩ := hw
  subst e1
  cases r
  obtain ⟨its, rv, ht, hz⟩ := I.tuple hq
  refine assign_Tuple_tuple (I.ok.hd hc) ht (by simp [hn, ← hl, rv.length]) hst fun h' hx => ?_
  have I1 : aC X pins σ H { s with heap := h' } := I.kept (t' := s.toks) fun b o e => hx b o (Nat.ne_of_lt (Heap.lt_size e)) e
  exact h pins _ σ H xs _ Q I1 (by simpa using rv) hw
def Cr (to ti : TE) (t : zT) : TG := fun v σ H Q => to σ H fun o H1 => ti σ H1 fun i H2 => t o i v H2 fun H3 => Q σ H3
theorem zB {o i : Expr} {to ti : TE} {t : zT} (ho : PE X o to) (hi : PE X i ti) (hs : AM X t)
    (ha : ∀ v, assign (.Subscript o i pos) X.env v = (do
      let ov ← holding [v] (eval o X.env)
      let iv ← holding [v, ov] (eval i X.env)
      standAt pos
      holding [v, ov, iv] (setItem ov iv v)
      release [v, ov, iv] []) := by intro _; rfl) : PG X (.Subscript o i pos) (Cr to ti t) := by
  intro pins s σ H v u Q I r h
  rw [ha]
  refine wpAny_bind (wpAny_holding (cO (ho pins s σ H _ I h) fun ov s1 ⟨x, H1, I1, r1, q1⟩ => ?_))
  refine wpAny_bind (wpAny_holding (cO (hi pins s1 σ H1 _ I1 q1) fun iv s2 ⟨y, H2, I2, r2, q2⟩ => ?_))
  refine wpAny_bind (wpAny_standAt (wpAny_bind (wpAny_holding (cO (hs pins s2 σ H2 x y v ov iv u _ I2 r1 r2 r q2) fun _ s3 ⟨H3, I3, q3⟩ => ?_))))
  exact wpAny_release ⟨σ, H3, I3, q3⟩
def Bo (te : TE) (g : TG) : TS := fun D σ H => te σ H fun x H1 => g x σ H1 D.nx
theorem zZ {tg e : Expr} {te : TE} {g : TG} (he : PE X e te) (hg : PG X tg g) (hs : swapsWithSole [tg] e pos.line X.env = pure false := by rfl) (hw : swappedStores [tg] e X.env = pure none := by rfl)
    (h1 : (assignEach [tg] X.env).map (·.2) = [assign tg X.env] := by rfl) : PS X (.Assign [tg] e pos) (Bo te g) := by
  intro pins s σ H D I h
  refine wpAny_Assign_stores (cO (he pins s σ H _ I h) fun v s1 ⟨x, H1, I1, r1, q1⟩ => ?_) hs hw
  rw [h1]
  exact cO (hg pins s1 σ H1 x v _ I1 r1 q1) fun _ s2 q => q
theorem wa {i : Nat} {x : Str} {e : Expr} {te : TE} {pos' : Pos} (hN : X.N.Nodup) (hi : X.N[i]? = some x) (hx : zc X.env.scope x) (he : PE X e te) (hs : swapsWith e (some (.Name x pos')) pos.line X.env = pure false := by rfl) (hf : X.fn x = true ∨ X.env.scope.names.lookup x = some .local := by first | exact .inl rfl | exact .inr rfl | assumption) :
    PS X (.Assign [.Name x pos'] e pos) (Bo te (zi i)) := by
  intro pins s σ H D I h
  refine wpAny_Assign_Name (cO (he pins s σ H _ I h) fun v s1 ⟨y, H1, I1, r1, q1⟩ => ?_) hs
  exact lZ I1 hN hi hx r1 (fun s2 I2 => ⟨_, H1, I2, q1⟩) hf
def Ch (i : Nat) (te : TE) (ti : BU) : TS := fun D σ H => ∃ x, σ[i]? = some (some x) ∧ te σ H fun y H1 => ti x y H1 fun z H2 => D.nx (σ.set i (some z)) H2
theorem zC {i : Nat} {x : Str} {e : Expr} {te : TE} {op : Operator} {ti : BU} {pos' : Pos} (hN : X.N.Nodup) (hi : X.N[i]? = some x) (hx : zc X.env.scope x) (he : PE X e te) (ho : CF X op ti) (hf : X.fn x = true ∨ X.env.scope.names.lookup x = some .local := by first | exact .inl rfl | exact .inr rfl | assumption) :
    PS X (.AugAssign (.Name x pos') op e pos) (Ch i te ti) := by
  intro pins s σ H D I h
  obtain ⟨v, e1, h⟩ := h
  obtain ⟨m, hn, hl⟩ := I.loc
  have vis : Ay X.env.scope x := by rcases hx with k | k; exact .inl k; exact .inr (.inl k)
  obtain ⟨u, r, l⟩ := hl i x v hi e1 vis
  refine wpAny_AugAssign_Name ?_
  have go : wpAny (model X.prog X.w) X.A (eval e X.env) (fun w s₂ => wpAny (model X.prog X.w) X.A (inplaceOp op u w) (fun r s₃ => wpAny (model X.prog X.w) X.A (storeName X.env x r) (fun _ => SP X pins D .next) X.xe s₃) X.xe s₂) X.xe s := by
    refine cO (he pins s σ H _ I h) fun w s1 ⟨y, H1, I1, r1, q1⟩ => ?_
    refine cO (ho pins s1 σ H1 v y u w _ I1 r r1 q1) fun z s2 ⟨zv, H2, I2, r2, q2⟩ => ?_
    exact lZ I2 hN hi hx r2 (fun s3 I3 => ⟨_, H2, I3, q2⟩) hf
  rcases l with ⟨hk, hm⟩ | ⟨hk, c, hc, hcell⟩
  · exact wpAny_loadName_local I.ok.kind hk hn hm go
  · rcases hk with hk | hk
    · exact wpAny_loadName_cell I.ok.kind hk hc hcell go
    · rcases hx with k | k
      · have : X.env.scope.names.lookup x = some .free := hk
        rw [k] at this; cases this
      · have : X.env.scope.names.lookup x = some .free := hk
        rw [k] at this; cases this
def CK (f : Int → Int → Int) : BU := fun x y H Q => ∃ i j, x = .int i ∧ y = .int j ∧ Q (.int (f i j)) H
theorem zM : CF X .Add (CK fun i j => i + j) := by
  intro pins s σ H x y v u Q I r1 r2 h
  obtain ⟨i, j, e1, e2, q⟩ := h
  subst e1; subst e2
  obtain ⟨t, rfl⟩ := r1
  obtain ⟨t', rfl⟩ := r2
  exact iadd_int ⟨.int _, H, I.tok _, ⟨_, rfl⟩, q⟩
end
section
variable {X : Cx} {pos : Pos}
def AD (c : TT) (tb : TS) : TS := fun D σ H => ∃ W : Nat → St → Hp → Prop, (∃ m, W m σ H) ∧ ∀ m σ H, W m σ H →
  c σ H fun b H1 => if b = true then ∃ N : St → Hp → Prop, (∀ σ' H', N σ' H' → ∃ m', m' < m ∧ W m' σ' H') ∧ tb { D with nx := N, ct := N, bk := D.nx } σ H1 else D.nx σ H1
theorem vx {c : Expr} {body : List Stmt} {tc : TT} {tb : TS} (hp : PassesOwn (model X.prog X.w) X.A X.env X.xe) (hc : PT X c tc) (hb : pr X body tb) : PS X (.While c body [] pos) (AD tc tb) := by
  intro pins s σ H D I h
  obtain ⟨W, ⟨m0, w0⟩, turn⟩ := h
  refine wpAny_While (codeAny_whileLoop (fun n s' => ∃ σ' H', aC X pins σ' H' s' ∧ W n σ' H') ?_ m0 ⟨σ, H, I, w0⟩)
  rintro n s1 ⟨σ1, H1, I1, w1⟩
  refine wpAny_passesOwn hp (cO (hc pins s1 σ1 H1 _ I1 (turn n σ1 H1 w1)) fun b s2 ⟨H2, I2, q2⟩ => ?_)
  cases b with
  | true =>
    obtain ⟨N, hN, q2⟩ := q2
    rw [if_pos rfl]
    refine wpAny_passesOwn hp (cO (hb pins s2 σ1 H2 _ I2 q2) fun f s3 q3 => ?_)
    cases f with
    | next =>
      obtain ⟨σ3, H3, I3, n3⟩ := q3
      obtain ⟨m', hm, w3⟩ := hN σ3 H3 n3
      exact ⟨m', hm, σ3, H3, I3, w3⟩
    | cont =>
      obtain ⟨σ3, H3, I3, n3⟩ := q3
      obtain ⟨m', hm, w3⟩ := hN σ3 H3 n3
      exact ⟨m', hm, σ3, H3, I3, w3⟩
    | brk => exact q3
    | ret v => exact q3
  | false =>
    rw [if_neg Bool.false_ne_true]
    exact wpAny_execs_nil ⟨σ1, H2, I2, q2⟩
end
structure It where
  go : Nat → Hp → Prop
  yld : Nat → Hp → V → Hp → Prop
  stop : Nat → Hp → Prop
def kG (X : Cx) (pins : List (Addr × Obj)) (H : Hp) (b : Addr) : Prop :=
  H b = none ∧ b ≠ X.env.locals ∧ b ∉ X.fs ∧ (b ∈ X.ex ∨ X.s₀.heap.objs.size ≤ b) ∧ (∀ x c, X.env.cells.lookup x = some c → c ≠ b) ∧ ∀ p ∈ X.pn ++ pins, p.1 ≠ b
theorem aC.fpOk {X : Cx} {pins : List (Addr × Obj)} {σ : St} {H H' : Hp} {s : Shared} {b : Addr} (I : aC X pins σ H s) (hb : s.heap.objs.size ≤ b) (hn : H' b = none) : kG X pins H' b := by
  refine ⟨hn, Nat.ne_of_gt (Nat.lt_of_lt_of_le I.lt hb), I.nofs hb, .inr (Nat.le_trans I.sz hb), fun x c e z => ?_, fun p hp z => ?_⟩
  · obtain ⟨v, q⟩ := I.cell x c e
    exact absurd (Nat.lt_of_lt_of_le q.lt (by rw [z]; exact hb)) (Nat.lt_irrefl _)
  · exact absurd (Nat.lt_of_lt_of_le (Heap.lt_size (I.pin p hp).1) (by rw [z]; exact hb)) (Nat.lt_irrefl _)
structure p9 (P : Program) (w : World) (K : PySem.W.Frag) (tg : Expr) (J : It) (fp : List Addr) (it : Addr) (tn : Nat → Heap → Prop) : Prop where
  mem : it ∈ fp
  obj : ∀ i h, tn i h → ∀ b ∈ fp, ∃ o, h.get? b = some o ∧ ∀ v, o.data ≠ .cell v
  keep : ∀ i h h', tn i h → (∀ b ∈ fp, ∀ o, h.get? b = some o → h'.get? b = some o) → tn i h'
  item : ∀ (X : Cx), X.prog = P → X.w = w → X.K = K → X.calm = true → ∀ (i : Nat) (pins : List (Addr × Obj)) (s : Shared) (σ : St) (H : Hp) (E : Value → Shared → Prop), aC X pins σ H s → (∀ b ∈ fp, kG X pins H b) → tn i s.heap → J.go i H →
    wpAny (model P w) X.A (pyNext (.ref it)) (fun r s1 => ∃ u, r = some u ∧
      wpAny (model P w) X.A (letOwnedTupleGo tg (.ref it) u) (fun _ s2 => ∃ x H', aC X pins σ H' s2 ∧ bi x u ∧ J.yld i H x H' ∧ tn (i + 1) s2.heap ∧ ∀ b ∈ fp, H' b = none) E s1) E s
  done : ∀ (X : Cx), X.prog = P → X.w = w → X.K = K → X.calm = true → ∀ (i : Nat) (pins : List (Addr × Obj)) (s : Shared) (σ : St) (H : Hp) (E : Value → Shared → Prop), aC X pins σ H s → (∀ b ∈ fp, kG X pins H b) → tn i s.heap → J.stop i H →
    wpAny (model P w) X.A (pyNext (.ref it)) (fun r s1 => r = none ∧ aC X pins σ H s1) E s
  self : ∀ (A : Around) (i : Nat) (s : Shared) (Q : Value → Shared → Prop) (E : Value → Shared → Prop), tn i s.heap → Q (.ref it) s → wpAny (model P w) A (pyIter (.ref it)) Q E s
abbrev TI := St → Hp → (It → Hp → Prop) → Prop
def CL (X : Cx) (pins : List (Addr × Obj)) (σ : St) (tg : Expr) (R : It → Hp → Prop) (itv : Value) (s2 : Shared) : Prop :=
  ∃ (it : Addr) (fp : List Addr) (tn : Nat → Heap → Prop) (J : It) (H' : Hp), itv = .ref it ∧ aC X pins σ H' s2 ∧ p9 X.prog X.w X.K tg J fp it tn ∧ tn 0 s2.heap ∧ (∀ b ∈ fp, kG X pins H' b) ∧ R J H'
def PI (X : Cx) (tg iter : Expr) (wi : TI) : Prop :=
  ∀ (pins : List (Addr × Obj)) (s : Shared) (σ : St) (H : Hp) (R : It → Hp → Prop), aC X pins σ H s → wi σ H R →
    wpAny (model X.prog X.w) X.A (eval iter X.env) (fun v s1 => wpAny (model X.prog X.w) X.A (pyIter v) (CL X pins σ tg R) X.xe s1) X.xe s
theorem vo {M : Model} {A : Around} {E : Value → Shared → Prop} {s : Shared} {tg : Expr} {it : Addr} {u : Value} {o : Obj} {n : String} {vs : Array Value} {Q : Unit → Shared → Prop} (ho : s.heap.get? it = some o) (hc : o.cls = .type n) (hd : o.data = .fields vs)
    (hn : ["enumerate", "zip", "dict_itemiterator", "dict_reverseitemiterator", "odict_iterator", "itertools.zip_longest", "itertools.pairwise"].contains n = false) (hQ : Q () s) : wpAny M A (letOwnedTupleGo tg (.ref it) u) Q E s := by
  unfold letOwnedTupleGo
  cases tg <;> first
    | exact wpAny_pure hQ
    | (cases u <;> first
        | exact wpAny_pure hQ
        | (refine wpAny_bind (wpAny_load ho ?_)
           rw [hc, hd]
           show wpAny M A (if (["enumerate", "zip", "dict_itemiterator", "dict_reverseitemiterator", "odict_iterator", "itertools.zip_longest", "itertools.pairwise"].contains n && vs[0]? == some (rawInt _)) = true then _ else _) Q E s
           rw [if_neg (by intro h; rw [hn, Bool.false_and] at h; cases h)]
           exact wpAny_pure hQ))
def Ci (K : PySem.W.Frag) (a : Addr) : It :=
  ⟨fun i H => ∃ xs x, mV K H a xs ∧ xs[i]? = some x, fun i H x H' => H' = H ∧ ∀ xs, mV K H a xs → xs[i]? = some x, fun i H => ∃ xs, mV K H a xs ∧ xs.length ≤ i⟩
def B6 (K : PySem.W.Frag) (a : Addr) : It :=
  ⟨fun i H => ∃ xs x, dF K H a xs ∧ xs[i]? = some x, fun i H x H' => H' = H ∧ ∀ xs, dF K H a xs → xs[i]? = some x, fun i H => ∃ xs, dF K H a xs ∧ xs.length ≤ i⟩
def BT (lo : Int) (n : Nat) : It := ⟨fun i _ => i < n, fun i H x H' => H' = H ∧ x = .int (lo + i), fun i _ => n ≤ i⟩
theorem uh {P : Program} {w : World} {K : PySem.W.Frag} {tg : Expr} (a it : Addr) : p9 P w K tg (Ci K a) [it] it (fun i h => h.IsListIter it a i) where
  mem := by simp
  obj := fun i h st b hb => by
    have e : b = it := by simpa using hb
    subst e
    obtain ⟨o, e, c, d⟩ := st
    exact ⟨o, e, fun v z => by rw [d] at z; cases z⟩
  keep := fun i h h' st k => st.at fun o e => k it (by simp) o e
  item := by
    intro X hP hw hK hc i pins s σ H E I hf st hg
    subst hP hw hK
    obtain ⟨xs, x, hq, hx⟩ := hg
    obtain ⟨its, rv, p, hz⟩ := I.list hq
    obtain ⟨u, hu, ru⟩ := rv.get hx
    obtain ⟨f0, f1, f2, f3, f4, f5⟩ := hf it (by simp)
    refine wpAny_pyNext_list_item st p.isList (x := u) (by simpa using hu) fun h' st' sb => ?_
    have I1 : aC X pins σ H { s with heap := h' } := I.turned (t' := s.toks) (fun b o hb e => (sb.2 b hb).trans e) f0 f1 f3 f4 f5
    obtain ⟨o, e, c, d⟩ := id st'
    exact ⟨u, rfl, vo (s := { s with heap := h' }) e c d (by decide) ⟨x, H, I1, ru, ⟨rfl, fun ys hy => by rw [I.list_inj hy hq]; exact hx⟩, st', fun b hb => (hf b hb).1⟩⟩
  done := by
    intro X hP hw hK hc i pins s σ H E I hf st hg
    subst hP hw hK
    obtain ⟨xs, hq, hx⟩ := hg
    obtain ⟨its, rv, p, hz⟩ := I.list hq
    obtain ⟨f0, f1, f2, f3, f4, f5⟩ := hf it (by simp)
    have hl := rv.length
    exact wpAny_pyNext_list_end (I.ok.hd hc) st p.isList (by simp; omega) fun h' eb => ⟨rfl, I.turned (t' := s.toks) (fun b o hb e => eb b o hb e) f0 f1 f3 f4 f5⟩
  self := fun _ _ _ _ _ st h => wpAny_pyIter_listiter st h
theorem rh {P : Program} {w : World} {K : PySem.W.Frag} {tg : Expr} (a it : Addr) : p9 P w K tg (B6 K a) [it] it (fun i h => h.IsTupleIter it a i) where
  mem := by simp
  obj := fun i h st b hb => by
    have e : b = it := by simpa using hb
    subst e
    obtain ⟨o, e, c, d⟩ := st
    exact ⟨o, e, fun v z => by rw [d] at z; cases z⟩
  keep := fun i h h' st k => st.at fun o e => k it (by simp) o e
  item := by
    intro X hP hw hK hc i pins s σ H E I hf st hg
    subst hP hw hK
    obtain ⟨xs, x, hq, hx⟩ := hg
    obtain ⟨its, rv, p, hz⟩ := I.tuple hq
    obtain ⟨u, hu, ru⟩ := rv.get hx
    obtain ⟨f0, f1, f2, f3, f4, f5⟩ := hf it (by simp)
    refine wpAny_pyNext_tuple_item st (show s.heap.IsTuple a its.toArray from p) (x := u) (by simpa using hu) fun h' st' sb => ?_
    have I1 : aC X pins σ H { s with heap := h' } := I.turned (t' := s.toks) (fun b o hb e => (sb.2 b hb).trans e) f0 f1 f3 f4 f5
    obtain ⟨o, e, c, d⟩ := id st'
    exact ⟨u, rfl, vo (s := { s with heap := h' }) e c d (by decide) ⟨x, H, I1, ru, ⟨rfl, fun ys hy => by rw [I.tuple_inj hy hq]; exact hx⟩, st', fun b hb => (hf b hb).1⟩⟩
  done := by
    intro X hP hw hK hc i pins s σ H E I hf st hg
    subst hP hw hK
    obtain ⟨xs, hq, hx⟩ := hg
    obtain ⟨its, rv, p, hz⟩ := I.tuple hq
    obtain ⟨f0, f1, f2, f3, f4, f5⟩ := hf it (by simp)
    have hl := rv.length
    exact wpAny_pyNext_tuple_end (I.ok.hd hc) st (show s.heap.IsTuple a its.toArray from p) (by simp; omega) fun h' eb => ⟨rfl, I.turned (t' := s.toks) (fun b o hb e => eb b o hb e) f0 f1 f3 f4 f5⟩
  self := fun _ _ _ _ _ st h => wpAny_pyIter_tupleiter st h
theorem rC {P : Program} {w : World} {K : PySem.W.Frag} {tg : Expr} (it : Addr) (lo : Int) (n : Nat) : p9 P w K tg (BT lo n) [it] it (fun i h => IsRangeIter h it (lo + (i : Nat) * 1) ((n : Int) - (i : Nat)) 1) where
  mem := by simp
  obj := fun i h st b hb => by
    have e : b = it := by simpa using hb
    subst e
    exact ⟨_, st, fun v z => by
      have z' : Data.fields _ = Data.cell v := z
      cases z'⟩
  keep := fun i h h' st k => k it (by simp) _ st
  item := by
    intro X hP hw hK hc i pins s σ H E I hf st hg
    subst hP hw hK
    obtain ⟨f0, f1, f2, f3, f4, f5⟩ := hf it (by simp)
    have W := Walks.range (prog := X.prog) (w := X.w) (I.ok.hd hc) it lo 1 n
    refine W.item i s _ _ hg st fun v h' tk hv st' kk => ?_
    obtain ⟨t, rfl⟩ := hv
    have I1 : aC X pins σ H { s with heap := h', toks := tk } := I.turned (fun b o hb e => kk b o (by simpa using hb) e) f0 f1 f3 f4 f5
    refine ⟨_, rfl, vo (s := { s with heap := h', toks := tk }) (n := "range_iterator") st' rfl rfl (by decide) ⟨.int (lo + i), H, I1, ⟨t, ?_⟩, ⟨rfl, rfl⟩, st', fun b hb => (hf b hb).1⟩⟩
    rw [Int.mul_one]
  done := by
    intro X hP hw hK hc i pins s σ H E I hf st hg
    subst hP hw hK
    obtain ⟨f0, f1, f2, f3, f4, f5⟩ := hf it (by simp)
    exact wpAny_pyNext_range_end (I.ok.hd hc) st (by have : n ≤ i := hg; omega) fun h' eb => ⟨rfl, I.turned (t' := s.toks) (fun b o hb e => eb b o hb e) f0 f1 f3 f4 f5⟩
  self := fun _ _ _ _ _ st h => wpAny_pyIter_rangeiter st h
section
variable {X : Cx} {tg : Expr}
theorem vz {pins : List (Addr × Obj)} {σ : St} {H : Hp} {s : Shared} {R : It → Hp → Prop} {E : Value → Shared → Prop} {lo hi : Int} {t u v : Tok} {tk : Nat} (I : aC X pins σ H s) (h1 : -(2 ^ 62) ≤ lo) (h2 : lo < 2 ^ 62) (h3 : -(2 ^ 62) ≤ hi) (h4 : hi < 2 ^ 62)
    (q : R (BT lo (hi - lo).toNat) H) : wpAny (model X.prog X.w) X.A (pyIter (.ref s.heap.objs.size)) (CL X pins σ tg R) E { s with heap := s.heap.push { cls := .type "range", data := .fields #[.int lo t, .int hi u, .int 1 v] }, toks := tk } := by
  refine wpAny_pyIter_range (IsRange.new ..) (small_one h1 h2 h3 h4) ?_
  have I1 : aC X pins σ H { s with heap := s.heap.push { cls := .type "range", data := .fields #[.int lo t, .int hi u, .int 1 v] }, toks := tk } := I.kept fun b o e => Heap.get?_push_of_some _ e
  refine ⟨(s.heap.push { cls := .type "range", data := .fields #[.int lo t, .int hi u, .int 1 v] }).objs.size, [(s.heap.push { cls := .type "range", data := .fields #[.int lo t, .int hi u, .int 1 v] }).objs.size], _, _, H, rfl,
    I1.kept (t' := tk) fun b o e => Heap.get?_push_of_some _ e, rC _ lo (hi - lo).toNat, ?_, fun b hb => ?_, q⟩
  · have e1 : lo + ((0 : Nat) : Int) * 1 = lo := by simp
    have e2 : (((hi - lo).toNat : Nat) : Int) - ((0 : Nat) : Int) = Builtin.Range.rangeSize lo hi 1 := by rw [rangeSize_one]; split <;> omega
    show IsRangeIter _ _ (lo + ((0 : Nat) : Int) * 1) ((((hi - lo).toNat : Nat) : Int) - ((0 : Nat) : Int)) 1
    rw [e1, e2]
    exact Heap.get?_push_size _ rfl
  · have e : b = (s.heap.push { cls := .type "range", data := .fields #[.int lo t, .int hi u, .int 1 v] }).objs.size := by simpa using hb
    subst e
    exact I1.fpOk (Nat.le_refl _) (I1.hok.fresh (Nat.le_refl _))
def By (ta : TA) : TI := fun σ H R => ta σ H fun vs H1 => ∃ j : Int, vs = [.int j] ∧ -(2 ^ 62) ≤ j ∧ j < 2 ^ 62 ∧ R (BT 0 j.toNat) H1
theorem uq {a : Expr} {ta : TA} {p pos : Pos} (hg : Gl X "range") (hm : X.mg "range" = none) (ha : PA X [a] ta) (hs : starEach [a] X.env = [(false, eval a X.env)] := by rfl) : PI X tg (.Call (.Name "range" p) [a] [] pos) (By ta) := by
  intro pins s σ H R I h
  refine Call_ (gS I hg hm boot_range (PyProof.Rows.callWith_type1 (cO (ha pos pins s σ H _ I h) fun us s1 ⟨vs, H1, I1, r1, q1⟩ => ?_) hs rfl))
  obtain ⟨j, e, q1, q2, q⟩ := q1
  subst e
  cases r1 with
  | cons r rr =>
    cases rr
    obtain ⟨t, rfl⟩ := r
    exact call_range_1 (vz I1 (by omega) (by omega) q1 q2 (by simpa using q))
def Cj (wi : TI) (g : TG) (tb : TS) : TS := fun D σ H => wi σ H fun J H1 => ∃ W : Nat → Nat → St → Hp → Prop, (∃ m, W 0 m σ H1) ∧ ∀ i m σ H, W i m σ H →
  (J.stop i H ∧ D.nx σ H) ∨ (J.go i H ∧ ∃ N : St → Hp → Prop, (∀ σ' H', N σ' H' → ∃ m', m' < m ∧ W (i + 1) m' σ' H') ∧ ∀ x H', J.yld i H x H' → g x σ H' fun σ2 H2 => tb { D with nx := N, ct := N, bk := D.nx } σ2 H2)
def l4 (fp : List Addr) (h : Heap) : List (Addr × Obj) := fp.filterMap fun b => (h.get? b).map fun o => (b, o)
theorem hJ {fp : List Addr} {h : Heap} {b : Addr} {o : Obj} (hb : b ∈ fp) (e : h.get? b = some o) : (b, o) ∈ l4 fp h := List.mem_filterMap.mpr ⟨b, hb, by rw [e]; rfl⟩
theorem uc {fp : List Addr} {h : Heap} {p : Addr × Obj} (hp : p ∈ l4 fp h) : p.1 ∈ fp ∧ h.get? p.1 = some p.2 := by
  obtain ⟨b, hb, e⟩ := List.mem_filterMap.mp hp
  cases q : h.get? b with
  | none => rw [q] at e; cases e
  | some o =>
    rw [q] at e
    have e' : (b, o) = p := Option.some.inj e
    subst e'
    exact ⟨hb, q⟩
theorem aC.pinned {pins : List (Addr × Obj)} {σ : St} {H : Hp} {s : Shared} {fp : List Addr} (I : aC X pins σ H s) (hf : ∀ b ∈ fp, kG X pins H b) (ho : ∀ b ∈ fp, ∃ o, s.heap.get? b = some o ∧ ∀ v, o.data ≠ .cell v) : aC X (pins ++ l4 fp s.heap) σ H s :=
  I.pins_of fun p hp => (List.mem_append.mp hp).elim (fun z => I.pin p (List.mem_append_right _ z)) fun z => by
    obtain ⟨hb, e⟩ := uc z
    obtain ⟨f0, f1, f2, _⟩ := hf p.1 hb
    obtain ⟨o, e', d⟩ := ho p.1 hb
    rw [e] at e'; cases e'
    exact ⟨e, f0, f1, f2, d⟩
theorem aC.unpinned {pins pl : List (Addr × Obj)} {σ : St} {H : Hp} {s : Shared} (I : aC X (pins ++ pl) σ H s) : aC X pins σ H s := I.pins_of fun p hp => I.pin p (List.mem_append_right _ (List.mem_append_left _ hp))
theorem zm {iter : Expr} {body : List Stmt} {wi : TI} {g : TG} {tb : TS} {pos : Pos} (hp : PassesOwn (model X.prog X.w) X.A X.env X.xe) (hc : X.calm = true) (hi : PI X tg iter wi) (hg : PG X tg g) (hb : pr X body tb)
    (hs : ∀ x, foldedSetIterable iter X.env x = pure x := by intro _; rfl) : PS X (.For tg iter body [] pos) (Cj wi g tb) := by
  intro pins s σ H D I h
  refine wpAny_For (cO (hi pins s σ H _ I h) fun v s1 h1 => cO h1 fun itv s2 h2 => ?_) hs
  obtain ⟨it, fp, tn, J, H2, e, I2, T, st2, f2, W, ⟨m0, w0⟩, turn⟩ := h2
  subst e
  -- what stays true of the iterator's objects through the loop
  have stat : ∀ {H' : Hp}, (∀ b ∈ fp, H' b = none) → ∀ b ∈ fp, kG X pins H' b := fun hn b hb => ⟨hn b hb, (f2 b hb).2⟩
  refine codeAny_forLoop_any (fun n s' => ∃ i σ' H', aC X pins σ' H' s' ∧ tn i s'.heap ∧ (∀ b ∈ fp, H' b = none) ∧ W i n σ' H') ?_ m0 ⟨0, σ, H2, I2, st2, fun b hb => (f2 b hb).1, w0⟩
  rintro n s3 ⟨i, σ3, H3, I3, st3, fr3, w3⟩
  rcases turn i n σ3 H3 w3 with ⟨stop, qn⟩ | ⟨go, N, hN, step⟩
  · refine wpAny_passesOwn hp (cO (T.done X rfl rfl rfl hc i pins s3 σ3 H3 X.xe I3 (stat fr3) st3 stop) fun r s4 ⟨hr, I4⟩ => ?_)
    subst hr
    exact wpAny_execs_nil ⟨σ3, H3, I4, qn⟩
  · refine wpAny_passesOwn hp (cO (T.item X rfl rfl rfl hc i pins s3 σ3 H3 X.xe I3 (stat fr3) st3 go) fun r s4 ⟨u, hr, h4⟩ => ?_)
    subst hr
    refine wpAny_passesOwn hp (cO h4 fun _ s5 ⟨x, H5, I5, r5, y5, st5, fr5⟩ => ?_)
    have I5' := I5.pinned (stat fr5) (T.obj _ _ st5)
    refine wpAny_passesOwn hp (cO (hg _ s5 σ3 H5 x u _ I5' r5 (step x H5 y5)) fun _ s6 ⟨σ6, H6, I6, q6⟩ => ?_)
    refine wpAny_passesOwn hp (cO (hb _ s6 σ6 H6 _ I6 q6) fun f s7 q7 => ?_)
    have again : ∀ {σ7 : St} {H7 : Hp}, aC X (pins ++ l4 fp s5.heap) σ7 H7 s7 → N σ7 H7 → ∃ m, m < n ∧ ∃ i σ' H', aC X pins σ' H' s7 ∧ tn i s7.heap ∧ (∀ b ∈ fp, H' b = none) ∧ W i m σ' H' := fun {σ7 H7} I7 n7 => by
      obtain ⟨m', hm, w7⟩ := hN σ7 H7 n7
      refine ⟨m', hm, i + 1, σ7, H7, I7.unpinned, T.keep _ _ _ st5 fun b hb o e => (I7.pin (b, o) (List.mem_append_right _ (List.mem_append_right _ (hJ hb e)))).1, fun b hb => ?_, w7⟩
      obtain ⟨o, e, d⟩ := T.obj _ _ st5 b hb
      exact (I7.pin (b, o) (List.mem_append_right _ (List.mem_append_right _ (hJ hb e)))).2.1
    cases f with
    | next => obtain ⟨σ7, H7, I7, n7⟩ := q7; exact again I7 n7
    | cont => obtain ⟨σ7, H7, I7, n7⟩ := q7; exact again I7 n7
    | brk => obtain ⟨σ7, H7, I7, q7⟩ := q7; exact ⟨σ7, H7, I7.unpinned, q7⟩
    | ret v => obtain ⟨x7, σ7, H7, I7, r7, q7⟩ := q7; exact ⟨x7, σ7, H7, I7.unpinned, r7, q7⟩
end
abbrev R2 := V → V → Hp → VK → Prop
def jA (X : Cx) (f : Value → Value → Sem Value) (r : R2) : Prop :=
  ∀ (pins : List (Addr × Obj)) (s : Shared) (σ : St) (H : Hp) (x y : V) (v u : Value) (Q : VK), aC X pins σ H s → bi x v → bi y u → r x y H Q →
    wpAny (model X.prog X.w) X.A (f v u) (EP X pins σ Q) X.xe s
def dq (X : Cx) (f : Value) (r : List V → Hp → VK → Prop) : Prop :=
  ∀ (pins : List (Addr × Obj)) (s : Shared) (σ : St) (H : Hp) (xs : List V) (us : List Value) (Q : VK), aC X pins σ H s → bf xs us → r xs H Q →
    wpAny (model X.prog X.w) X.A (call f us) (EP X pins σ Q) X.xe s
def AJ (r : R2) (ta tb : TE) : TE := fun σ H Q => ta σ H fun x H1 => tb σ H1 fun y H2 => r x y H2 Q
def rI (C : Int → Int → Prop) (g : Int → Int → V) : R2 := fun x y H Q => ∃ i j, x = .int i ∧ y = .int j ∧ C i j ∧ Q (g i j) H
def xj (g : Int → Int → V) : R2 := fun x y H Q => ∃ i j, x = .int i ∧ y = .int j ∧ Q (g i j) H
section
variable {X : Cx} {a b c : Expr} {ta tb tc : TE} {pos : Pos}
theorem zG (ha : PE X a ta) (hb : PE X b tb) {pins : List (Addr × Obj)} {s : Shared} {σ : St} {H : Hp} {R : V → V → Hp → Prop} (I : aC X pins σ H s)
    (h : ta σ H fun x H1 => tb σ H1 fun y H2 => R x y H2) {Q : Value → Shared → Prop} {f : Value → Value → Sem Value}
    (hf : ∀ v u s2 x y H2, aC X pins σ H2 s2 → bi x v → bi y u → R x y H2 → wpAny (model X.prog X.w) X.A (f v u) Q X.xe s2) :
    wpAny (model X.prog X.w) X.A (eval a X.env) (fun v s₁ => wpAny (model X.prog X.w) X.A (eval b X.env) (fun u s₂ => wpAny (model X.prog X.w) X.A (f v u) Q X.xe s₂) X.xe s₁) X.xe s := by
  refine cO (ha pins s σ H _ I h) fun v s1 ⟨x, H1, I1, r1, q1⟩ => ?_
  refine cO (hb pins s1 σ H1 _ I1 q1) fun u s2 ⟨y, H2, I2, r2, q2⟩ => ?_
  exact hf v u s2 x y H2 I2 r1 r2 q2
theorem A3 {op : Operator} {r : R2} (ho : jA X (binaryOp op) r) (ha : PE X a ta) (hb : PE X b tb) : PE X (.BinOp a op b pos) (AJ r ta tb) := by
  intro pins s σ H Q I h
  exact wpAny_BinOp (zG ha hb I h fun v u s2 x y H2 I2 rx ry q => ho pins s2 σ H2 x y v u Q I2 rx ry q)
theorem B5 {f : Value → Value → Sem Value} {C : Int → Int → Prop} {g : Int → Int → Int}
    (rule : ∀ (i j : Int) (t u : Tok) (s : Shared) (Q : Value → Shared → Prop) (E : Value → Shared → Prop), C i j → Q (.int (g i j) s.toks) { s with toks := s.toks + 1 } → wpAny (model X.prog X.w) X.A (f (.int i t) (.int j u)) Q E s) :
    jA X f (rI C fun i j => .int (g i j)) := by
  intro pins s σ H x y v u Q I rx ry h
  obtain ⟨i, j, rfl, rfl, hc, q⟩ := h
  obtain ⟨t, rfl⟩ := rx
  obtain ⟨t', rfl⟩ := ry
  exact rule i j t t' s _ _ hc ⟨.int (g i j), H, I.tok _, ⟨_, rfl⟩, q⟩
theorem Bp {f : Value → Value → Sem Value} {g : Int → Int → Int}
    (rule : ∀ (i j : Int) (t u : Tok) (s : Shared) (Q : Value → Shared → Prop) (E : Value → Shared → Prop), Q (.int (g i j) s.toks) { s with toks := s.toks + 1 } → wpAny (model X.prog X.w) X.A (f (.int i t) (.int j u)) Q E s) :
    jA X f (xj fun i j => .int (g i j)) := by
  intro pins s σ H x y v u Q I rx ry h
  obtain ⟨i, j, rfl, rfl, q⟩ := h
  obtain ⟨t, rfl⟩ := rx
  obtain ⟨t', rfl⟩ := ry
  exact rule i j t t' s _ _ ⟨.int (g i j), H, I.tok _, ⟨_, rfl⟩, q⟩
theorem An {f : Value → Value → Sem Value} {g : Int → Int → Bool}
    (rule : ∀ (i j : Int) (t u : Tok) (s : Shared) (Q : Value → Shared → Prop) (E : Value → Shared → Prop), Q (.bool (g i j)) s → wpAny (model X.prog X.w) X.A (f (.int i t) (.int j u)) Q E s) :
    jA X f (xj fun i j => .bl (g i j)) := by
  intro pins s σ H x y v u Q I rx ry h
  obtain ⟨i, j, rfl, rfl, q⟩ := h
  obtain ⟨t, rfl⟩ := rx
  obtain ⟨t', rfl⟩ := ry
  exact rule i j t t' s _ _ ⟨.bl (g i j), H, I, rfl, q⟩
def BQ (i j : Int) : Prop := 0 < j ∧ j < 1073741824
def yc (i j : Int) : Prop := (-(2 ^ 64) < i ∧ i < 2 ^ 64) ∨ (-(2 ^ 64) < j ∧ j < 2 ^ 64)
theorem yc.ok {i j : Int} (h : yc i j) : IntMulOk i j := by
  rcases h with ⟨h1, h2⟩ | ⟨h1, h2⟩
  · exact .of_left (intBits_le_64 h1 h2)
  · exact .of_right (intBits_le_64 h1 h2)
theorem AE : jA X (binaryOp .Add) (xj fun i j => .int (i + j)) := Bp fun _ _ _ _ _ _ _ q => add_int q
theorem zK : jA X (binaryOp .Sub) (xj fun i j => .int (i - j)) := Bp fun _ _ _ _ _ _ _ q => sub_int q
theorem Ar : jA X (binaryOp .Mult) (rI yc fun i j => .int (i * j)) := B5 fun _ _ _ _ _ _ _ hc q => mul_int q hc.ok
theorem xr : jA X (binaryOp .FloorDiv) (rI BQ fun i j => .int (i / j)) := B5 fun i j _ _ _ _ _ hc q => by
  have h1 : (0 : Int) < j := hc.1
  have h2 : j < 1073741824 := hc.2
  exact floordiv_int (by omega) (by rw [Int.fdiv_eq_ediv_of_nonneg i (by omega)]; exact q) (.inl (PyProof.noPylong_small (by omega)))
theorem zR : jA X (binaryOp .Mod) (rI (fun _ j => 0 < j) fun i j => .int (i % j)) := B5 fun i j _ _ _ _ _ hc q => by
  have h1 : (0 : Int) < j := hc
  exact mod_int' (by omega) (by rw [Int.fmod_eq_emod_of_nonneg i (by omega)]; exact q)
end
section
variable {X : Cx} {a b c : Expr} {ta tb tc : TE} {pos : Pos}
theorem vp {pins : List (Addr × Obj)} {σ : St} {H : Hp} {s : Shared} {Q : VK} {k k' : Bool} (I : aC X pins σ H s) (q : Q (.bl k) H) (e : k = k') : EP X pins σ Q (.bool k') s := by
  subst e
  exact ⟨.bl k, H, I, rfl, q⟩
theorem Ba : jA X (compareOp .Lt) (xj fun i j => .bl (decide (i < j))) := An fun _ _ _ _ _ _ _ q => lt_int q
theorem A2 : jA X (compareOp .LtE) (xj fun i j => .bl (decide (i ≤ j))) := An fun _ _ _ _ _ _ _ q => le_int q
theorem zh : jA X (compareOp .Gt) (xj fun i j => .bl (decide (j < i))) := An fun _ _ _ _ _ _ _ q => gt_int q
theorem vw : jA X (compareOp .Is) (fun x y H Q => y = .non ∧ Q (.bl (decide (x = .non))) H) := by
  intro pins s σ H x y v u Q I rx ry h
  obtain ⟨rfl, q⟩ := h
  cases ry
  refine is_none_gen (vp I q ?_)
  cases x <;> first
    | (cases rx; rfl)
    | (obtain ⟨t, rfl⟩ := rx; rfl)
theorem yy : jA X (compareOp .IsNot) (fun x y H Q => y = .non ∧ Q (.bl (!decide (x = .non))) H) := by
  intro pins s σ H x y v u Q I rx ry h
  obtain ⟨rfl, q⟩ := h
  cases ry
  refine isnot_none_gen (vp I q ?_)
  cases x <;> first
    | (cases rx; rfl)
    | (obtain ⟨t, rfl⟩ := rx; rfl)
theorem jA.or {f : Value → Value → Sem Value} {r r' : R2} (h : jA X f r) (h' : jA X f r') : jA X f (fun x y H Q => r x y H Q ∨ r' x y H Q) := by
  intro pins s σ H x y v u Q I rx ry q
  rcases q with q | q
  · exact h pins s σ H x y v u Q I rx ry q
  · exact h' pins s σ H x y v u Q I rx ry q
theorem ge (b : Expr) {op : CmpOp} (h : op ≠ .In := by decide) (h2 : op ≠ .NotIn := by decide) : behindInMarks op b = false := by
  have e1 : (op == CmpOp.In) = false := by cases op <;> first | rfl | exact absurd rfl h
  have e2 : (op == CmpOp.NotIn) = false := by cases op <;> first | rfl | exact absurd rfl h2
  cases b <;> simp [behindInMarks, e1, e2]
theorem xP {op : CmpOp} {r : R2} (ho : jA X (compareOp op) r) (ha : PE X a ta) (hb : PE X b tb) (hm : behindInMarks op b = false) : PE X (.Compare a [op] [b] pos) (AJ r ta tb) := by
  intro pins s σ H Q I h
  exact wpAny_Compare1 (zG ha hb I h fun v u s2 x y H2 I2 rx ry q => ho pins s2 σ H2 x y v u Q I2 rx ry q) hm
def Bc (t : TE) : TT := fun σ H Q => t σ H fun x H' => ∃ k, x = .bl k ∧ Q k H'
theorem yF {op : CmpOp} {r : R2} (ho : jA X (compareOp op) r) (ha : PE X a ta) (hb : PE X b tb) (hm : behindInMarks op b = false) : PT X (.Compare a [op] [b] pos) (Bc (AJ r ta tb)) := by
  intro pins s σ H Q I h
  refine wpAny_isTrue_Compare1 (cO (ha pins s σ H _ I h) fun v s1 ⟨x, H1, I1, r1, q1⟩ => cO (hb pins s1 σ H1 _ I1 q1) fun u s2 ⟨y, H2, I2, r2, q2⟩ =>
    cO (ho pins s2 σ H2 x y v u _ I2 r1 r2 q2) fun c s3 ⟨z, H3, I3, r3, k, e, q3⟩ => ?_) hm
  subst e
  cases r3
  exact wpAny_truthy_bool ⟨H3, I3, q3⟩
theorem kP : (sizeLine : Nat) < 2 ^ 63 := by rw [sizeLine_eq]; decide
theorem gJ {x : V} {us : List Value} (r : bf [x] us) : ∃ u, us = [u] ∧ bi x u := by
  cases r with
  | cons r1 r2 => cases r2; exact ⟨_, rfl, r1⟩
theorem tS {x y : V} {us : List Value} (r : bf [x, y] us) : ∃ u w', us = [u, w'] ∧ bi x u ∧ bi y w' := by
  cases r with
  | cons r1 r2 =>
    cases r2 with
    | cons r3 r4 => cases r4; exact ⟨_, _, rfl, r1, r3⟩
theorem uI (hc : X.calm = true) : dq X (.builtin "max") (fun xs H Q => ∃ i j, xs = [.int i, .int j] ∧ Q (.int (if j > i then j else i)) H) := by
  intro pins s σ H xs us Q I r h
  obtain ⟨i, j, rfl, q⟩ := h
  obtain ⟨u, w', rfl, ⟨t, rfl⟩, ⟨t', rfl⟩⟩ := tS r
  refine max_two_ints (I.ok.hd hc) fun h' tk k => ⟨_, H, I.kept k, ?_, q⟩
  by_cases hj : j > i
  · rw [if_pos hj, if_pos hj]; exact ⟨_, rfl⟩
  · rw [if_neg hj, if_neg hj]; exact ⟨_, rfl⟩
theorem ub (hc : X.calm = true) : dq X (.builtin "min") (fun xs H Q => ∃ i j, xs = [.int i, .int j] ∧ Q (.int (if j < i then j else i)) H) := by
  intro pins s σ H xs us Q I r h
  obtain ⟨i, j, rfl, q⟩ := h
  obtain ⟨u, w', rfl, ⟨t, rfl⟩, ⟨t', rfl⟩⟩ := tS r
  refine min_two_ints (I.ok.hd hc) fun h' tk k => ⟨_, H, I.kept k, ?_, q⟩
  by_cases hj : j < i
  · rw [if_pos hj, if_pos hj]; exact ⟨_, rfl⟩
  · rw [if_neg hj, if_neg hj]; exact ⟨_, rfl⟩
theorem uY : dq X (.type "int") (fun xs H Q => (∃ i, xs = [.int i] ∧ Q (.int i) H) ∨ ∃ k, xs = [.bl k] ∧ Q (.int (if k then 1 else 0)) H) := by
  intro pins s σ H xs us Q I r h
  rcases h with ⟨i, rfl, q⟩ | ⟨k, rfl, q⟩
  · obtain ⟨u, rfl, t, rfl⟩ := gJ r
    exact call_int_int ⟨.int i, H, I, ⟨_, rfl⟩, q⟩
  · obtain ⟨u, rfl, r1⟩ := gJ r
    cases r1
    exact call_int_bool ⟨.int (if k then 1 else 0), H, I.tok _, ⟨_, rfl⟩, q⟩
end
structure vb (h : Heap) (x dx C : Addr) (mA : Str → Option Value) : Prop where
  obj : h.get? x = some (PySem.W.instObj C dx)
  ns : h.Ns1 dx mA
  ne : dx ≠ x
theorem uR {h : Heap} {dx : Addr} {mA : Str → Option Value} (n : h.Ns1 dx mA) : ∃ od, h.get? dx = some od ∧ ∀ name, PySem.W.lookIn name od = some (mA name) := by
  obtain ⟨o, es, ep, ho, hd, hk, _, hm⟩ := n
  refine ⟨o, ho, fun name => ?_⟩
  have e := hm name
  unfold nsFind findBy at e
  rw [← Array.find?_toList] at e
  unfold PySem.W.lookIn
  rw [hd]
  dsimp only
  split
  · rename_i y q
    rw [q] at e
    exact congrArg some e
  · rename_i q
    rw [q] at e
    have a : es.toList.any (·.refKey) = false := by
      rw [List.any_eq_false]
      intro y hy
      obtain ⟨z, t, hkey⟩ := hk y (Array.mem_toList_iff.mp hy)
      simp [DictEntry.refKey, hkey]
    have a' : ¬ es.toList.any (·.refKey) = true := by rw [a]; exact Bool.false_ne_true
    rw [if_neg a']
    exact congrArg some e
theorem vb.look {h : Heap} {x dx C : Addr} {mA : Str → Option Value} (I : vb h x dx C mA) : ∃ od, PySem.W.InstAt h x (PySem.W.instObj C dx) C (some od) ∧ ∀ name, PySem.W.lookIn name od = some (mA name) :=
  let ⟨od, ho, hl⟩ := uR I.ns
  ⟨od, ⟨I.obj, rfl, rfl, ho⟩, hl⟩
section
variable {prog : Program} {w : World} {A : Around} {E : Value → Shared → Prop} {s : Shared} {K : PySem.W.Frag} {x dx C f : Addr} {mA : Str → Option Value} {name : Str} {v : Value}
theorem yo {expr : Bool} {Q : Value → Shared → Prop} (X : K.In s.heap) (I : vb s.heap x dx C mA) (hg : PySem.W.plainGet K C name = true) (hh : PySem.W.hasDictIn K C = true)
    (ha : PySem.W.findIn K (.ref C) name = some none) (hv : mA name = some v) (hv' : PySem.W.handedIn v = true) (h : Q v { s with toks := s.toks + 1 }) :
    wpAny (model prog w) A (getAttr (.ref x) name expr) Q E s := by
  obtain ⟨od, J, hl⟩ := I.look
  exact PySem.W.get_value X J (PySem.W.plainGet_of hg).1 (PySem.W.findObj_own hh ha rfl (by rw [hl, hv])) hv' h
theorem xp {ns : List Str} {Q : Unit → Shared → Prop} (X : K.In s.heap) (I : vb s.heap x dx C mA)
    (hs : PySem.W.findIn K (.ref C) "__setattr__" = some (some (.builtin "object.__setattr__"))) (hp : PySem.W.plainOver K C = true) (ht : PySem.W.takerIn K C name = some none) (hh : PySem.W.hasDictIn K C = true)
    (hw : PySem.Within mA ns) (hsz : ns.length ≤ sizeLine)
    (h : ∀ h', vb h' x dx C (fun y => if y = name then some v else mA y) → Heap.SameBut dx s.heap h' → Q () { s with heap := h', toks := s.toks + 2 }) :
    wpAny (model prog w) A (setAttr (.ref x) name v) Q E s := by
  obtain ⟨od, J, hl⟩ := I.look
  refine PySem.W.set_plain X J hs (PySem.W.osa_open (s := { s with toks := s.toks + 1 }) (r := none) X J hp ht fun b => ?_)
  obtain ⟨cd, hc, hd'⟩ := PySem.W.any_some hh
  have hx : s.heap.get? x = some ⟨.ref C, some dx, .plain, #[]⟩ := I.obj
  refine wpAny_bind (wpAny_pure (wpAny_bind (wpAny_bind (wpAny_loadPart hx (wpAny_bind (PySem.W.Looks.here (s := { s with toks := s.toks + 1 }) (PySem.W.looks_clsIn X hc) ?_))))))
  rw [hd']
  refine wpAny_pure (a := some dx) (wpAny_bind (wpAny_pure (wpAny_bind ?_)))
  refine wpAny_nsSet1 (s := { s with toks := s.toks + 1 }) I.ns fun h' hn2 hs2 => ?_
  obtain ⟨oD, esD, epD, hoD, hdD, hcD⟩ := hn2.count (PySem.Within.cons name v hw)
  refine wpAny_bind (wpAny_lookBehind hoD (by rw [hdD]; exact pastItsLine_dict (Nat.le_trans hcD (by rw [List.length_cons]; omega))) ?_)
  exact wpAny_pure (h _ ⟨(hs2.2 _ (Ne.symm I.ne)).trans I.obj, hn2, I.ne⟩ hs2)
theorem w4 {R : Result → Shared → Prop} {vs : List Value} {kw : List (Str × Value)} (X : K.In s.heap) (hm : PySem.W.makesIn K C = true)
    (hi : PySem.W.findIn K (.ref C) "__init__" = some (some (.ref f))) (hf : PySem.W.typeIn K (.ref f) = some (.type "function"))
    (h : codeAny (model prog w) (A.under (.builtin "type.__call__" ⟨.ref C :: vs, kw⟩)) (.call (.ref f) ⟨.ref (s.heap.objs.size + 1) :: vs, kw⟩) (PySem.W.InitBack (s.heap.objs.size + 1) R)
      { s with heap := (s.heap.push PySem.W.emptyDict).push (PySem.W.instObj C s.heap.objs.size) }) :
    codeAny (model prog w) A (.call (.ref C) ⟨vs, kw⟩) R s := by
  obtain ⟨hh, g, d, t, os⟩ := s
  exact PySem.W.make_core (PySem.W.makes_of X hm) (PySem.W.looks_findIn X hi) (fun self => PySem.W.bind_fn X self hf) (.inl rfl) h
end
def gK (f : Str) (v : V) : List (Str × V) → List (Str × V)
  | [] => [(f, v)]
  | (g, x) :: r => if g = f then (g, v) :: r else (g, x) :: gK f v r
theorem lb (f g : Str) (v : V) : ∀ fs : List (Str × V), (gK f v fs).lookup g = if g = f then some v else fs.lookup g
  | [] => by
    show List.lookup g [(f, v)] = _
    by_cases h : g = f
    · have hb : (g == f) = true := beq_iff_eq.mpr h
      simp only [List.lookup, hb, if_pos h]
    · have hb : (g == f) = false := beq_eq_false_iff_ne.mpr h
      simp only [List.lookup, hb, if_neg h]
  | (k, x) :: r => by
    have ih := lb f g v r
    rw [show gK f v ((k, x) :: r) = (if k = f then (k, v) :: r else (k, x) :: gK f v r) from rfl]
    by_cases hk : k = f
    · rw [if_pos hk]
      by_cases h : g = k
      · have hb : (g == k) = true := beq_iff_eq.mpr h
        simp only [List.lookup, hb, if_pos (h.trans hk)]
      · have hb : (g == k) = false := beq_eq_false_iff_ne.mpr h
        simp only [List.lookup, hb, if_neg (fun e : g = f => h (e.trans hk.symm))]
    · rw [if_neg hk]
      by_cases h : g = k
      · have hb : (g == k) = true := beq_iff_eq.mpr h
        simp only [List.lookup, hb, if_neg (fun e : g = f => hk (h.symm.trans e))]
      · have hb : (g == k) = false := beq_eq_false_iff_ne.mpr h
        simp only [List.lookup, hb]
        exact ih
theorem kD (f : Str) (v : V) : ∀ fs : List (Str × V), f ∈ (gK f v fs).map (·.1) ∧ ∀ g, g ∈ fs.map (·.1) → g ∈ (gK f v fs).map (·.1)
  | [] => ⟨by simp [gK], fun g h => by simp at h⟩
  | (k, x) :: r => by
    obtain ⟨i1, i2⟩ := kD f v r
    rw [show gK f v ((k, x) :: r) = (if k = f then (k, v) :: r else (k, x) :: gK f v r) from rfl]
    by_cases hk : k = f
    · rw [if_pos hk]
      subst hk
      exact ⟨by simp, fun g h => by simpa using h⟩
    · rw [if_neg hk]
      refine ⟨?_, fun g h => ?_⟩
      · rw [List.map_cons]
        exact List.mem_cons_of_mem _ i1
      · rw [List.map_cons] at h ⊢
        rcases List.mem_cons.mp h with e | e
        · exact List.mem_cons.mpr (.inl e)
        · exact List.mem_cons_of_mem _ (i2 g e)
theorem gn (f : Str) (v : V) : ∀ fs : List (Str × V), (gK f v fs).length ≤ fs.length + 1
  | [] => by simp [gK]
  | (k, x) :: r => by
    have ih := gn f v r
    rw [show gK f v ((k, x) :: r) = (if k = f then (k, v) :: r else (k, x) :: gK f v r) from rfl]
    by_cases hk : k = f
    · rw [if_pos hk, List.length_cons, List.length_cons]; omega
    · rw [if_neg hk, List.length_cons, List.length_cons]; omega
theorem kS.some_of {v : V} {o : Option Value} (r : kS (some v) o) : ∃ u, o = some u ∧ bi v u := by
  cases o with
  | none => exact (show False from r).elim
  | some u => exact ⟨u, rfl, r⟩
theorem ug {v : V} {u : Value} (r : bi v u) : PySem.W.handedIn u = true := by
  cases v with
  | non => cases (show u = Value.none from r); rfl
  | bl b => cases (show u = Value.bool b from r); rfl
  | int i => obtain ⟨t, e⟩ := (show ∃ t, u = Value.int i t from r); cases e; rfl
  | str x => obtain ⟨t, e⟩ := (show ∃ t, u = Value.str x t from r); cases e; rfl
  | byt b => obtain ⟨t, e⟩ := (show ∃ t, u = Value.bytes b t from r); cases e; rfl
  | flt b => obtain ⟨t, e⟩ := (show ∃ t, u = Value.float b t from r); cases e; rfl
  | ref a => cases (show u = Value.ref a from r); rfl
  | ty n => cases (show u = Value.type n from r); rfl
section
variable {P : Program} {w : World} {H H' : Hp} {h h' : Heap} {a C dx : Addr} {fs fs' : List (Str × V)}
theorem sV (hok : ji P w H h) (e : H a = some (.ins C dx fs)) : ∃ mA, vb h a dx C mA ∧ (∀ f, kS (fs.lookup f) (mA f)) ∧ PySem.Within mA (fs.map (·.1)) ∧ fs.length ≤ 1000 ∧ H dx = some (.own a) := by
  obtain ⟨d, z, ne, ob, mA, n, r, q⟩ := (show bF P w H h a (.ins C dx fs) from hok a _ e)
  exact ⟨mA, ⟨ob, n, ne⟩, r, q, z, d⟩
end
structure uz (K : PySem.W.Frag) (C : Addr) : Prop where
  pg : PySem.W.plainGet K C Str.empty = true
  hd : PySem.W.hasDictIn K C = true
  po : PySem.W.plainOver K C = true
  sa : PySem.W.findIn K (.ref C) "__setattr__" = some (some (.builtin "object.__setattr__"))
theorem uz.get {K : PySem.W.Frag} {C : Addr} (c : uz K C) (f : Str) : PySem.W.plainGet K C f = true := c.pg
def da (K : PySem.W.Frag) (C : Addr) (f : Str) : Prop := PySem.W.findIn K (.ref C) f = some none
theorem da.taker {K : PySem.W.Frag} {C : Addr} {f : Str} (n : da K C f) : PySem.W.takerIn K C f = some none := by
  unfold PySem.W.takerIn
  rw [show PySem.W.findIn K (.ref C) f = some none from n]
  rfl
section
variable {X : Cx} {pins : List (Addr × Obj)} {σ : St} {H : Hp} {s : Shared} {a C dx : Addr} {fs : List (Str × V)} {f : Str} {v : V} {A : Around} {E : Value → Shared → Prop}
theorem rd {y : V} {u : Value} {Q : Unit → Shared → Prop} (I : aC X pins σ H s) (e : H a = some (.ins C dx fs)) (c : uz X.K C) (n : da X.K C f) (hl : fs.length < 1000) (ry : bi y u)
    (h : ∀ s', aC X pins σ (ca H a (.ins C dx (gK f y fs))) s' → Q () s') : wpAny (model X.prog X.w) A (setAttr (.ref a) f u) Q E s := by
  obtain ⟨mA, O, r, wi, _, ho⟩ := sV I.hok e
  have hz : (fs.map (·.1)).length ≤ sizeLine := by rw [List.length_map, sizeLine_eq]; omega
  refine xp I.kIn O c.sa c.po n.taker c.hd wi hz fun h' O' sb => h _ ?_
  have hd : ∃ o, h'.get? dx = some o := let ⟨o, _, _, e', _⟩ := O'.ns; ⟨o, e'⟩
  refine I.write (x := a) (e := dx) (by rw [e]; exact True.intro) (.inr ho) (fun b q hb z => (sb.2 b hb).trans z) hd ?_
  refine ⟨by rw [ao O.ne]; exact ho, ?_, O.ne, O'.obj, _, O'.ns, fun g => ?_, fun g hg => ?_⟩
  · have := gn f y fs; omega
  · show kS ((gK f y fs).lookup g) (if g = f then some u else mA g)
    rw [lb]
    by_cases q : g = f
    · rw [if_pos q, if_pos q]; exact ry
    · rw [if_neg q, if_neg q]; exact r g
  · by_cases q : g = f
    · rw [q]; exact (kD f y fs).1
    · refine (kD f y fs).2 g (wi g fun z => hg ?_)
      show (if g = f then some u else mA g) = none
      rw [if_neg q]; exact z
theorem aC.made (I : aC X pins σ H s) : aC X pins σ (ca (ca H s.heap.objs.size (.own (s.heap.objs.size + 1))) (s.heap.objs.size + 1) (.ins C s.heap.objs.size []))
    { s with heap := (s.heap.push PySem.W.emptyDict).push (PySem.W.instObj C s.heap.objs.size) } := by
  have e1 : (s.heap.push PySem.W.emptyDict).get? s.heap.objs.size = some PySem.W.emptyDict := Heap.get?_push_size s.heap rfl
  have e2 : ((s.heap.push PySem.W.emptyDict).push (PySem.W.instObj C s.heap.objs.size)).get? (s.heap.objs.size + 1) = some (PySem.W.instObj C s.heap.objs.size) := by
    have := Heap.get?_push_size (s.heap.push PySem.W.emptyDict) (o := PySem.W.instObj C s.heap.objs.size) rfl
    rwa [Heap.size_push] at this
  have e3 : (s.heap.push PySem.W.emptyDict).Ns s.heap.objs.size (fun _ => none) := ⟨PySem.W.emptyDict, #[], _, e1, rfl, (fun e he => absurd he (by simp)), fun _ => rfl⟩
  have I1 := I.laid (a := s.heap.objs.size) (o := .own (s.heap.objs.size + 1)) (h' := s.heap.push PySem.W.emptyDict) (t' := s.toks) (fun b u q => Heap.get?_push_of_some _ q) (Nat.le_refl _) ⟨_, e1⟩
  refine I1.laid (a := s.heap.objs.size + 1) (o := .ins C s.heap.objs.size []) (t' := s.toks) (fun b u q => Heap.get?_push_of_some _ q) (Nat.le_of_eq (Heap.size_push _ _)) ?_
  have ne : s.heap.objs.size ≠ s.heap.objs.size + 1 := Nat.ne_of_lt (Nat.lt_succ_self _)
  refine ⟨by rw [ao ne, aU], Nat.zero_le _, ne, e2, fun _ => none, (Heap.Ns1.of_empty e3).at fun o q => Heap.get?_push_of_some _ q, fun _ => True.intro, fun y hy => absurd rfl hy⟩
theorem xL {prog : Program} {w : World} {env : Env} {e : Expr} {f : Str} {pos : Pos} {s : Shared} {Q : Value → Shared → Prop} (hb : attributeBase e f env (eval e env) = eval e env)
    (h : wpAny (model prog w) A (eval e env) (fun o s₁ => wpAny (model prog w) A (getAttr o f true) Q E s₁) E s) : wpAny (model prog w) A (eval (.Attribute e f pos) env) Q E s :=
  Attribute_any_ h (by rw [arm_eval_Attribute, hb])
end
def Cu (K : PySem.W.Frag) (ta tv : TE) (f : Str) : TS := fun D σ H => tv σ H fun y H1 => ta σ H1 fun x H2 => ∃ a C dx fs, x = .ref a ∧ H2 a = some (.ins C dx fs) ∧ uz K C ∧ da K C f ∧ fs.length < 1000 ∧
  D.nx σ (ca H2 a (.ins C dx (gK f y fs)))
section
variable {X : Cx} {o e value : Expr} {f : Str} {pos pos' tpos : Pos} {ta tv : TE}
theorem se (ha : PE X o ta) (hv : PE X value tv) (hs : swapsWith value (some (.Attribute o f pos')) pos.line X.env = pure false) : PS X (.Assign [.Attribute o f pos'] value pos) (Cu X.K ta tv f) := by
  intro pins s σ H D I h
  refine plainObj_wpAny_Assign_Attribute (cO (hv pins s σ H _ I h) fun u s1 ⟨y, H1, I1, ry, q⟩ => cO (ha pins s1 σ H1 _ I1 q) fun ov s2 ⟨x, H2, I2, rx, a, C, dx, fs, ex, ea, c, n, l, q2⟩ => ?_) hs
  subst ex
  obtain rfl : ov = Value.ref a := rx
  exact rd I2 ea c n l ry fun s3 I3 => ⟨σ, _, I3, q2⟩
end
section
variable {X : Cx} {pins : List (Addr × Obj)} {σ : St} {H : Hp} {s : Shared} {A : Around} {E : Value → Shared → Prop} {Q : Value → Shared → Prop} {c : Value} {b : Bool}
inductive kc (K : PySem.W.Frag) (H : Hp) : V → Value → Prop where
  | non : kc K H .non (.type "NoneType")
  | bl (x : Bool) : kc K H (.bl x) (.type "bool")
  | int (i : Int) : kc K H (.int i) (.type "int")
  | str (x : Str) : kc K H (.str x) (.type "str")
  | flt (x : UInt64) : kc K H (.flt x) (.type "float")
  | lst {a : Addr} {xs : List V} (e : H a = some (.lst xs)) : kc K H (.ref a) (.type "list")
  | frz {a : Addr} {o : Obj} {xs : List V} (e : H a = some (.frz o (.lst xs))) : kc K H (.ref a) (.type "list")
  | tup {a : Addr} {xs : List V} (e : H a = some (.tup xs)) : kc K H (.ref a) (.type "tuple")
  | dK {a : Addr} {kvs : List (cH × V)} (e : H a = some (.dK kvs)) : kc K H (.ref a) (.type "dict")
  | dT {a : Addr} {kvs : List (List cH × V)} (e : H a = some (.dT kvs)) : kc K H (.ref a) (.type "dict")
  | ins {a C dx : Addr} {fs : List (Str × V)} (e : H a = some (.ins C dx fs)) (cl : uz K C) (ha : PySem.W.findIn K (.ref C) "__class__" = some (some (.builtin "object.__class__")))
      (hn : PySem.W.specialIn K (.builtin "object.__class__") "__get__" = some (some (.builtin "getset_descriptor.__get__"))) (htk : PySem.W.takesIn K (.builtin "object.__class__") = some true)
      (hm : PySem.W.mroIn K C (.type "object") = some true) : kc K H (.ref a) (.ref C)
theorem vc {x : V} {u t : Value} (I : aC X pins σ H s) (rx : bi x u) (ty : kc X.K H x t) (e : PySem.W.kitOne X.K t c = some b) (h : ∀ tk, Q (.bool b) { s with toks := tk }) :
    wpAny (model X.prog X.w) A (call (.builtin "isinstance") [u, c]) Q E s := by
  cases ty with
  | non => cases (show u = Value.none from rx); exact PySem.W.kia_one PySem.W.kitx_none I.kIn True.intro e (fun z => nomatch z) h
  | bl y => cases (show u = Value.bool y from rx); exact PySem.W.kia_one PySem.W.kitx_bool I.kIn True.intro e (fun z => nomatch z) h
  | int i => obtain ⟨t, q⟩ := (show ∃ t, u = Value.int i t from rx); cases q; exact PySem.W.kia_one PySem.W.kitx_int I.kIn True.intro e (fun z => nomatch z) h
  | str y => obtain ⟨t, q⟩ := (show ∃ t, u = Value.str y t from rx); cases q; exact PySem.W.kia_one PySem.W.kitx_str I.kIn True.intro e (fun z => nomatch z) h
  | flt y => obtain ⟨t, q⟩ := (show ∃ t, u = Value.float y t from rx); cases q; exact PySem.W.kia_one PySem.W.kitx_float I.kIn True.intro e (fun z => nomatch z) h
  | @lst a xs ea =>
    cases (show u = Value.ref a from rx)
    obtain ⟨_, _, n, _, h1⟩ := (show bF X.prog X.w H s.heap a (.lst xs) from I.hok a _ ea)
    exact PySem.W.kia_one PySem.W.kitx_list I.kIn ⟨_, h1, rfl⟩ e (fun z => nomatch z) h
  | @frz a ob xs ea =>
    cases (show u = Value.ref a from rx)
    obtain ⟨_, _, _, n, _, h1⟩ := (show bF X.prog X.w H s.heap a (.frz ob (.lst xs)) from I.hok a _ ea)
    exact PySem.W.kia_one PySem.W.kitx_list I.kIn ⟨_, h1, rfl⟩ e (fun z => nomatch z) h
  | @tup a xs ea =>
    cases (show u = Value.ref a from rx)
    obtain ⟨_, _, _, p⟩ := (show bF X.prog X.w H s.heap a (.tup xs) from I.hok a _ ea)
    obtain ⟨o, h1, h2, _⟩ := p
    exact PySem.W.kia_one PySem.W.kitx_tuple I.kIn ⟨o, h1, h2⟩ e (fun z => nomatch z) h
  | @dK a kvs ea =>
    cases (show u = Value.ref a from rx)
    obtain ⟨_, _, vs, _, p⟩ := (show bF X.prog X.w H s.heap a (.dK kvs) from I.hok a _ ea)
    obtain ⟨o, es, ep, h1, h2, _⟩ := p
    exact PySem.W.kia_one PySem.W.kitx_dict I.kIn ⟨o, h1, h2.1⟩ e (fun z => nomatch z) h
  | @dT a kvs ea =>
    cases (show u = Value.ref a from rx)
    obtain ⟨_, _, xs, _, o, es, ep, h1, h2, _⟩ := (show bF X.prog X.w H s.heap a (.dT kvs) from I.hok a _ ea)
    exact PySem.W.kia_one PySem.W.kitx_dict I.kIn ⟨o, h1, h2.1⟩ e (fun z => nomatch z) h
  | @ins a C dx fs ea cl ha hn htk hm =>
    cases (show u = Value.ref a from rx)
    obtain ⟨mA, O, _⟩ := sV I.hok ea
    obtain ⟨od, J, _⟩ := O.look
    exact PySem.W.kia_one (PySem.W.kitx_own (cl.get _) cl.hd ha hn htk hm) I.kIn J e (fun z => nomatch z) h
end
structure dJ (k : Nat) (A : Around) : Prop where
  hd : A.handled = none
  dp : A.depth + 3 * k + 5 < recursionLimit
  un : A.units + 16 * k + 200 < cLine
theorem dJ.mono {j k : Nat} {A : Around} (r : dJ k A) (h : j ≤ k) : dJ j A := ⟨r.hd, by have := r.dp; omega, by have := r.un; omega⟩
theorem dJ.deeper {k : Nat} {A : Around} (r : dJ (k + 1) A) (env : Env) : dJ k (A.deeper env) :=
  ⟨r.hd, by have := r.dp; show A.depth + 1 + 3 * k + 5 < _; omega, by have := r.un; show A.units + 3 + 16 * k + 200 < _; omega⟩
theorem rG {A : Around} {C : Addr} {us : List Value} {kw : List (Str × Value)} : (A.under (.builtin "type.__call__" ⟨.ref C :: us, kw⟩)).depth = A.depth + 1 := by
  first | rfl | simp [Around.under, Code.weight, Code.isCreation, Code.isGuard, Code.isCaller, Code.frames, Code.isFrame, guardIds]
theorem rO {A : Around} {C : Addr} {us : List Value} {kw : List (Str × Value)} : (A.under (.builtin "type.__call__" ⟨.ref C :: us, kw⟩)).units = A.units + 1 := by
  first | rfl | simp [Around.under, Code.cUnits, Code.frames, Code.isFrame]
theorem dJ.make {k : Nat} {A : Around} (r : dJ (k + 1) A) (C : Addr) (us : List Value) (kw : List (Str × Value)) : dJ k (A.under (.builtin "type.__call__" ⟨.ref C :: us, kw⟩)) :=
  ⟨r.hd, by have := r.dp; rw [rG]; omega, by have := r.un; rw [rO]; omega⟩
theorem dJ.depth {k : Nat} {A : Around} (r : dJ k A) : A.depth < recursionLimit := by have := r.dp; omega
theorem dJ.units {k : Nat} {A : Around} (r : dJ k A) : A.units + 64 < cLine := by have := r.un; omega
def Cp : TA := fun _ H Q => Q [] H
def AU (ta : TE) (tr : TA) : TA := fun σ H Q => ta σ H fun x H1 => tr σ H1 fun xs H2 => Q (x :: xs) H2
section
variable {X : Cx} {e : Expr} {es : List Expr} {te : TE} {t : TA} {pos : Pos}
theorem vm : PA X [] Cp := fun _ _ _ _ H Q I h => Calls.spliced_nil ⟨[], H, I, .nil, h⟩
theorem oZ (ha : PE X e te) (hr : PA X es t) (hs : starEach (e :: es) X.env = (false, eval e X.env) :: starEach es X.env := by rfl) : PA X (e :: es) (AU te t) := by
  intro pos pins s σ H Q I h
  rw [hs]
  show wpAny _ _ (spliced ((false, eval e X.env) :: backTo pos (starEach es X.env))) _ _ s
  refine Calls.spliced_cons (cO (ha pins s σ H _ I h) fun u s1 ⟨x, H1, I1, r1, q1⟩ => ?_)
  exact cO (hr pos pins s1 σ H1 _ I1 q1) fun us s2 ⟨xs, H2, I2, r2, q2⟩ => ⟨x :: xs, H2, I2, .cons r1 r2, q2⟩
def CC (t : TA) : TE := fun σ H Q => t σ H fun xs H1 => xs.length ≤ sizeLine ∧ ∀ p, H1 p = none → Q (.ref p) (ca H1 p (.tup xs))
def Cm (t : TA) : TE := fun σ H Q => t σ H fun xs H1 => xs.length ≤ sizeLine ∧ ∀ p, H1 p = none → Q (.ref p) (ca H1 p (.lst xs))
theorem zA {x1} (h : PA X es t) : PE X (.Tuple es x1 pos) (CC t) := by
  intro pins s σ H Q I hq
  refine wpAny_Tuple_spliced (cO (h pos pins s σ H _ I hq) fun us s1 ⟨xs, H1, I1, r, z, q⟩ => ⟨by rw [← r.length]; exact z, ?_⟩)
  have hf : H1 s1.heap.objs.size = none := I1.hok.fresh (Nat.le_refl _)
  refine ⟨.ref s1.heap.objs.size, ca H1 s1.heap.objs.size (.tup xs), I1.laid (t' := s1.toks) (fun b u e => Heap.get?_push_of_some _ e) (Nat.le_refl _) ?_, rfl, q _ hf⟩
  exact ⟨z, us, r, ⟨_, Heap.get?_push_size _ rfl, rfl, _, rfl⟩⟩
theorem Ae (h : PA X es t) : PE X (.List es pos) (Cm t) := by
  intro pins s σ H Q I hq
  refine wpAny_List_spliced (cO (h pos pins s σ H _ I hq) fun us s1 ⟨xs, H1, I1, r, z, q⟩ => ⟨by rw [← r.length]; exact z, ?_⟩)
  have hf : H1 s1.heap.objs.size = none := I1.hok.fresh (Nat.le_refl _)
  refine ⟨.ref s1.heap.objs.size, ca H1 s1.heap.objs.size (.lst xs), I1.laid (t' := s1.toks) (fun b u e => Heap.get?_push_of_some _ e) (Nat.le_refl _) ?_, rfl, q _ hf⟩
  exact ⟨z, us, 0, r, Heap.get?_push_size _ rfl⟩
end
abbrev Sp := List V → Hp → VK → XK → Prop
abbrev vh := List Env → Hp → Shared → XK → Value → Shared → Prop
structure rH (P : Program) (w : World) (K : PySem.W.Frag) (mg : Str → Option Value) (base : Heap) (A : Around) (outer : List Env) (s : Shared) (H : Hp) : Prop where
  frames : A.frames = some outer
  mod : Mod K mg base
  bs : ∀ b o, base.get? b = some o → s.heap.get? b = some o ∧ H b = none
  bsz : base.objs.size ≤ s.heap.objs.size
  funs : s.heap.FunFrames base outer
  frf : ∀ b ∈ np outer, H b = none
  hok : ji P w H s.heap
  bare : AllBare s.gens
def CE (outer : List Env) (P : Program) (w : World) (H : Hp) (s : Shared) (Q : VK) (u : Value) (s' : Shared) : Prop :=
  ∃ v H', s'.os = s.os ∧ AllBare s'.gens ∧ Un (np outer) [] H H' s.heap s'.heap ∧ ji P w H' s'.heap ∧ bi v u ∧ Q v H'
def CR (CX : vh) (outer : List Env) (P : Program) (w : World) (H : Hp) (s : Shared) (Q : VK) (E : XK) (r : Result) (s' : Shared) : Prop :=
  match r with
  | .ok (.ret u) => CE outer P w H s Q u s'
  | .ok _ => False
  | .error e => CX outer H s E e s'
structure aX (P : Program) (w : World) (K : PySem.W.Frag) (mg : Str → Option Value) (base : Heap) (CX : vh) (k : Nat) (f : Addr) (fd : FuncData) (ps : List Str) (sp : Sp) : Prop where
  len : ∀ vs H Q E, sp vs H Q E → vs.length = ps.length
  run : ∀ (A : Around) (outer : List Env) (s : Shared) (H : Hp) (args : Args) (us : List Value) (vs : List V) (Q : VK) (E : XK), dJ k A → rH P w K mg base A outer s H → BindsTo s fd args (ps.zip us) → bf vs us → sp vs H Q E →
    codeAny (model P w) A (.call (.ref f) args) (CR CX outer P w H s Q E) s
theorem aX.mono {P : Program} {w : World} {K : PySem.W.Frag} {mg : Str → Option Value} {base : Heap} {CX : vh} {j k : Nat} {f : Addr} {fd : FuncData} {ps : List Str} {sp : Sp} (F : aX P w K mg base CX j f fd ps sp) (h : j ≤ k) :
    aX P w K mg base CX k f fd ps sp := ⟨F.len, fun A outer s H args us vs Q E hr => F.run A outer s H args us vs Q E (hr.mono h)⟩
theorem aX.imp {P : Program} {w : World} {K : PySem.W.Frag} {mg : Str → Option Value} {base : Heap} {CX : vh} {k : Nat} {f : Addr} {fd : FuncData} {ps : List Str} {sp sp' : Sp} (F : aX P w K mg base CX k f fd ps sp)
    (h : ∀ vs H Q E, sp' vs H Q E → sp vs H Q E) : aX P w K mg base CX k f fd ps sp' :=
  ⟨fun vs H Q E q => F.len vs H Q E (h _ _ _ _ q), fun A outer s H args us vs Q E hr he hb hv hs => F.run A outer s H args us vs Q E hr he hb hv (h _ _ _ _ hs)⟩
theorem rH.make {P : Program} {w : World} {K : PySem.W.Frag} {mg : Str → Option Value} {base : Heap} {A : Around} {outer : List Env} {s : Shared} {H : Hp} (e : rH P w K mg base A outer s H) (C : Addr) (us : List Value) (kw : List (Str × Value)) :
    rH P w K mg base (A.under (.builtin "type.__call__" ⟨.ref C :: us, kw⟩)) outer s H := ⟨by first | exact e.frames | (simpa [Around.under, Code.envs, Code.isFrame, pushEnvs] using e.frames), e.mod, e.bs, e.bsz, e.funs, e.frf, e.hok, e.bare⟩
section
variable {X : Cx} {pins : List (Addr × Obj)} {σ : St} {H : Hp} {s s' : Shared}
theorem aC.env0 (I : aC X pins σ H s) : rH X.prog X.w X.K X.mg X.base X.A X.stack s H :=
  ⟨I.ok.frames, I.ok.mod, I.bs, Nat.le_trans I.ok.bsz I.sz, I.stack, I.stkFree, I.hok, I.bare⟩
theorem aC.after {Q : VK} {u : Value} (I : aC X pins σ H s) (h : CE X.stack X.prog X.w H s Q u s') : EP X pins σ Q u s' := by
  obtain ⟨v, H', os, bare, un, hok, r, q⟩ := h
  obtain ⟨hh, g, d, t, os'⟩ := s'
  obtain rfl : os' = s.os := os
  exact ⟨v, H', I.call (h' := hh) (g' := g) (d' := d) (t' := t) (ch := []) un hok bare (fun b z => absurd z (by simp)), r, q⟩
end
def BI (sp : Sp) (dvs : List V) (E : XK) (t : TA) : TE := fun σ H Q => t σ H fun vs H1 => sp (vs ++ dvs) H1 Q E
def BN (C : Addr) (sp : Sp) (dvs : List V) (E : XK) (t : TA) : TE := fun σ H Q => t σ H fun vs H1 => ∀ x dx, H1 x = none → H1 dx = none → dx ≠ x →
  sp (.ref x :: (vs ++ dvs)) (ca (ca H1 dx (.own x)) x (.ins C dx [])) (fun v H2 => v = .non ∧ Q (.ref x) H2) E
def ig (K : PySem.W.Frag) (fd : FuncData) (ps : List Str) (ds : List Value) : Prop :=
  ∀ (s : Shared) (us : List Value), K.In s.heap → (us ++ ds).length = ps.length → BindsTo s fd ⟨us, []⟩ (ps.zip (us ++ ds))
theorem ig.all {K : PySem.W.Frag} {fd : FuncData} {ps : List Str} (h : ∀ us : List Value, us.length = ps.length → bindArgs fd ⟨us, []⟩ = pure (ps.zip us)) : ig K fd ps [] := fun s us _ hl => by
  rw [List.append_nil] at hl ⊢
  exact .of_eq (h us hl)
def mY (CX : vh) (X : Cx) (E : XK) : Prop := ∀ (pins : List (Addr × Obj)) (σ : St) (H : Hp) (s : Shared) (e : Value) (s' : Shared), aC X pins σ H s → CX X.stack H s E e s' → X.xe e s'
section
variable {X : Cx} {CX : vh} {k : Nat} {f C : Addr} {fd : FuncData} {ps : List Str} {sp : Sp} {dvs : List V} {ds : List Value} {E : XK} {x m : Str} {p pos apos : Pos} {e o : Expr} {es : List Expr} {ta : TE} {t : TA}
theorem zX {pins : List (Addr × Obj)} {σ : St} {H : Hp} {s : Shared} {Q : VK} {us : List Value} {vs : List V} (F : aX X.prog X.w X.K X.mg X.base CX k f fd ps sp) (hr : dJ k X.A) (hb : ig X.K fd ps ds) (hd : bf dvs ds) (hx : mY CX X E)
    (I : aC X pins σ H s) (r : bf vs us) (h : sp (vs ++ dvs) H Q E) : wpAny (model X.prog X.w) X.A (call (.ref f) us) (EP X pins σ Q) X.xe s := by
  have r2 : bf (vs ++ dvs) (us ++ ds) := r.append hd
  have hl : (us ++ ds).length = ps.length := by rw [← r2.length]; exact F.len _ _ _ _ h
  refine wpAny_call (codeAny_mono (F.run X.A X.stack s H ⟨us, []⟩ (us ++ ds) (vs ++ dvs) Q E hr I.env0 (hb s us I.kIn hl) r2 h) fun r s' hq => ?_)
  cases r with
  | error e => exact hx pins σ H s e s' I hq
  | ok fl =>
    cases fl with
    | ret u => exact I.after hq
    | next => exact False.elim hq
    | brk => exact False.elim hq
    | cont => exact False.elim hq
theorem yN (F : aX X.prog X.w X.K X.mg X.base CX k f fd ps sp) (hr : dJ k X.A) (hg : Gl X x) (hm : X.mg x = some (.ref f)) (hk : PySem.W.keepIn X.K (.ref f) = true) (hb : ig X.K fd ps ds) (hd : bf dvs ds) (hx : mY CX X E)
    (ha : PA X (e :: es) t) (hdb : (x == ("__debug__" : Str)) = false := by decide) (he : starEach (e :: es) X.env = (false, eval e X.env) :: starEach es X.env := by rfl) (hpl : (backTo pos (starEach es X.env)).any (·.1) = false := by rfl) :
    PE X (.Call (.Name x p) (e :: es) [] pos) (BI sp dvs E t) := by
  intro pins s σ H Q I h
  refine wpAny_Call_Name_kw (o9 I hg hm ?_ hdb)
  refine PySem.W.callWith_K (h₀ := X.base) I.ok.mod.kin hk (cO (ha pos pins s σ H _ I h) fun us s1 ⟨vs, H1, I1, r, q⟩ => ⟨I1.kIn, ?_⟩) he hpl
  exact zX F hr hb hd hx I1 r q
structure Mk (K : PySem.W.Frag) (C f : Addr) : Prop where
  makes : PySem.W.makesIn K C = true
  init : PySem.W.findIn K (.ref C) "__init__" = some (some (.ref f))
  fn : PySem.W.isFn K (.ref f) = true
  kp : PySem.W.keepIn K (.ref C) = true
theorem vU {pins : List (Addr × Obj)} {σ : St} {H : Hp} {s : Shared} {Q : VK} {us : List Value} {vs : List V} (M : Mk X.K C f) (F : aX X.prog X.w X.K X.mg X.base CX k f fd ps sp) (hr : dJ (k + 1) X.A) (hb : ig X.K fd ps ds) (hd : bf dvs ds)
    (hx : mY CX X E) (I : aC X pins σ H s) (r : bf vs us)
    (h : ∀ x dx, H x = none → H dx = none → dx ≠ x → sp (.ref x :: (vs ++ dvs)) (ca (ca H dx (.own x)) x (.ins C dx [])) (fun v H2 => v = .non ∧ Q (.ref x) H2) E) :
    wpAny (model X.prog X.w) X.A (call (.ref C) us) (EP X pins σ Q) X.xe s := by
  have hq := h (s.heap.objs.size + 1) s.heap.objs.size (I.hok.fresh (Nat.le_succ _)) (I.hok.fresh (Nat.le_refl _)) (Nat.ne_of_lt (Nat.lt_succ_self _))
  have I2 := aC.made (C := C) I
  have r2 : bf (V.ref (s.heap.objs.size + 1) :: (vs ++ dvs)) (Value.ref (s.heap.objs.size + 1) :: (us ++ ds)) := .cons rfl (r.append hd)
  have hl : (Value.ref (s.heap.objs.size + 1) :: us ++ ds).length = ps.length := by
    have e := r2.length
    rw [F.len _ _ _ _ hq] at e
    exact e.symm
  refine wpAny_call (w4 (f := f) I.kIn M.makes M.init (beq_iff_eq.mp M.fn) (codeAny_mono (F.run _ X.stack _ _ ⟨Value.ref (s.heap.objs.size + 1) :: us, []⟩ (Value.ref (s.heap.objs.size + 1) :: (us ++ ds)) _ _ E (hr.make C us [])
    (I2.env0.make C us []) (hb _ (Value.ref (s.heap.objs.size + 1) :: us) I2.kIn hl) r2 hq) fun r s' hq' => ?_))
  cases r with
  | error e => exact hx pins σ _ _ e s' I2 hq'
  | ok fl =>
    cases fl with
    | ret u =>
      obtain ⟨v, H', I3, rv, ev, q3⟩ := I2.after hq'
      subst ev
      exact ⟨rv, ⟨V.ref (s.heap.objs.size + 1), H', I3, rfl, q3⟩⟩
    | next => exact False.elim hq'
    | brk => exact False.elim hq'
    | cont => exact False.elim hq'
theorem yB (M : Mk X.K C f) (F : aX X.prog X.w X.K X.mg X.base CX k f fd ps sp) (hr : dJ (k + 1) X.A) (hg : Gl X x) (hm : X.mg x = some (.ref C)) (hb : ig X.K fd ps ds) (hd : bf dvs ds) (hx : mY CX X E)
    (ha : PA X (e :: es) t) (hdb : (x == ("__debug__" : Str)) = false := by decide) (he : starEach (e :: es) X.env = (false, eval e X.env) :: starEach es X.env := by rfl) (hpl : (backTo pos (starEach es X.env)).any (·.1) = false := by rfl) :
    PE X (.Call (.Name x p) (e :: es) [] pos) (BN C sp dvs E t) := by
  intro pins s σ H Q I h
  refine wpAny_Call_Name_kw (o9 I hg hm ?_ hdb)
  refine PySem.W.callWith_K (h₀ := X.base) I.ok.mod.kin M.kp (cO (ha pos pins s σ H _ I h) fun us s1 ⟨vs, H1, I1, r, q⟩ => ⟨I1.kIn, ?_⟩) he hpl
  exact vU M F hr hb hd hx I1 r q
end
structure aT (N P : List Str) (sc : Scope) : Prop where
  kind : sc.kind = .function
  co : sc.isCoroutine = false
  gen : sc.isGenerator = false
  nd : N.Nodup
  pre : N.take P.length = P
  par : ∀ x ∈ P, sc.names.lookup x = some .local ∨ sc.names.lookup x = some .cell
  nofree : ∀ y ∈ sc.names, y.2 ≠ .free
theorem n6 {kindOf : Str → Option NameKind} {x : Str} : ∀ {binds : List (Str × Value)} {m : Str → Option Value}, (∀ v, (x, v) ∉ binds) → bindL kindOf binds m x = m x
  | [], _, _ => rfl
  | (n, v) :: r, m, h => by
    unfold bindL
    rw [n6 fun w hw => h w (List.mem_cons_of_mem _ hw)]
    split
    · have : x ≠ n := by rintro rfl; exact h v List.mem_cons_self
      simp [this]
    · rfl
theorem nG {kindOf : Str → Option NameKind} {x : Str} : ∀ {binds : List (Str × Value)} {m : Str → Option Value}, (∀ v, (x, v) ∉ binds) → bindC kindOf binds m x = m x
  | [], _, _ => rfl
  | (n, v) :: r, m, h => by
    unfold bindC
    rw [nG fun w hw => h w (List.mem_cons_of_mem _ hw)]
    split
    · rfl
    · have : x ≠ n := by rintro rfl; exact h v List.mem_cons_self
      simp [this]
theorem n8 {kindOf : Str → Option NameKind} {x : Str} {v : Value} : ∀ {P : List Str} {vs : List Value} {i : Nat} {m : Str → Option Value}, P.Nodup → P[i]? = some x → vs[i]? = some v → kindOf x = some .local →
    bindL kindOf (P.zip vs) m x = some v
  | [], _, _, _, _, h, _, _ => by simp at h
  | _ :: _, [], _, _, _, _, h, _ => by simp at h
  | p :: P, w :: vs, 0, m, nd, h1, h2, hk => by
    simp at h1 h2; subst h1; subst h2
    show bindL kindOf ((p, w) :: P.zip vs) m p = _
    unfold bindL
    rw [n6 fun v hv => (List.nodup_cons.mp nd).1 (List.of_mem_zip hv).1, if_pos hk]
    simp
  | p :: P, w :: vs, i + 1, m, nd, h1, h2, hk => by
    show bindL kindOf ((p, w) :: P.zip vs) m x = _
    unfold bindL
    exact n8 (i := i) (List.nodup_cons.mp nd).2 (by simpa using h1) (by simpa using h2) hk
theorem nQ {kindOf : Str → Option NameKind} {x : Str} {v : Value} : ∀ {P : List Str} {vs : List Value} {i : Nat} {m : Str → Option Value}, P.Nodup → P[i]? = some x → vs[i]? = some v → kindOf x ≠ some .local →
    bindC kindOf (P.zip vs) m x = some v
  | [], _, _, _, _, h, _, _ => by simp at h
  | _ :: _, [], _, _, _, _, h, _ => by simp at h
  | p :: P, w :: vs, 0, m, nd, h1, h2, hk => by
    simp at h1 h2; subst h1; subst h2
    show bindC kindOf ((p, w) :: P.zip vs) m p = _
    unfold bindC
    rw [nG fun v hv => (List.nodup_cons.mp nd).1 (List.of_mem_zip hv).1, if_neg hk]
    simp
  | p :: P, w :: vs, i + 1, m, nd, h1, h2, hk => by
    show bindC kindOf ((p, w) :: P.zip vs) m x = _
    unfold bindC
    exact nQ (i := i) (List.nodup_cons.mp nd).2 (by simpa using h1) (by simpa using h2) hk
def ik (N : List Str) (vs : List V) : St := vs.map some ++ List.replicate (N.length - vs.length) none
def eU (CX : vh) (P : Program) (w : World) (K : PySem.W.Frag) (mg : Str → Option Value) (base : Heap) (N : List Str) (qual : Str) (scope : Scope) (f : Addr) (cd : Value) (A : Around) (outer : List Env) (s : Shared) (H : Hp) (E : XK) : Cx where
  prog := P
  w := w
  K := K
  mg := mg
  base := base
  A := A.deeper (envOfC qual scope s.heap.objs.size f cd)
  N := N
  s₀ := s
  H₀ := H
  env := envOfC qual scope s.heap.objs.size f cd
  outer := outer
  stack := envOfC qual scope s.heap.objs.size f cd :: outer
  ex := []
  calm := true
  fn := fun _ => true
  pn := []
  xe := fun e s' => wpAny (model P w) (A.deeper (envOfC qual scope s.heap.objs.size f cd)) (leaving (envOfC qual scope s.heap.objs.size f cd) e) (fun _ s'' => CX outer H s E e s'') (fun e' s'' => CX outer H s E e' s'') s'
theorem qm {sc : Scope} {n : Nat} {x : Str} (h : sc.names.lookup x = some .cell) : ∃ c, (cellsFrom n sc.names []).lookup x = some c := by
  have q := PySem.W.cellsFrom_some sc.names n [] (.inl h)
  exact Option.isSome_iff_exists.mp q
theorem uF {CX : vh} {P : Program} {w : World} {K : PySem.W.Frag} {mg : Str → Option Value} {base : Heap} {N ps : List Str} {qual : Str} {scope : Scope} {f : Addr} {cd : Value} {A : Around} {outer : List Env} {s s1 : Shared} {H : Hp} {E : XK} {us : List Value} {vs : List V}
    (S : aT N ps scope) (hd : A.handled = none) (e0 : rH P w K mg base A outer s H) (hl : vs.length = ps.length) (r : bf vs us)
    (x : InCallC s s.heap.objs.size (bindL (envOfC qual scope s.heap.objs.size f cd).kindOf (ps.zip us) fun _ => none) (cellsFrom (s.heap.objs.size + 1) scope.names []) (bindC (envOfC qual scope s.heap.objs.size f cd).kindOf (ps.zip us) fun _ => none) s1) :
    aC (eU CX P w K mg base N qual scope f cd A outer s H E) [] (ik N vs) H s1 := by
  have hpl : ps.length ≤ N.length := by have := congrArg List.length S.pre; rw [List.length_take] at this; omega
  obtain ⟨h1, tk, rfl, hk⟩ := x.done
  have noA : ∀ b : Addr, b ∉ (eU CX P w K mg base N qual scope f cd A outer s H E).ex := fun b z => absurd (show b ∈ ([] : List Addr) from z) (by simp)
  refine ⟨⟨e0.mod, S.kind, rfl, rfl, Nat.le_refl _, fun y z c h1 h2 => ?_, fun y hy => ?_, fun y c _ h => ?_, fun _ => hd, Around.frames_deeper e0.frames, .inr ⟨rfl, rfl⟩, fun b z => absurd z (noA b), e0.bs, e0.bsz, fun b _ _ => noA b, fun b z => absurd z (noA b), e0.funs, e0.frf⟩,
    rfl, e0.bare, Un.kept hk, ⟨_, x.toInCall.ns, fun i y v h1 h2 h3 => ?_⟩, fun y c h => ⟨_, x.cell y c h⟩, e0.hok.fresh (Nat.le_refl _), fun y c h => ?_, fun p hp => absurd (show p ∈ ([] : List (Addr × Obj)) from hp) (by simp), e0.hok.kept hk, ?_⟩
  · exact name_of_addr x.apart (PySem.mem_of_lookup h1) (PySem.mem_of_lookup h2)
  · have hy : scope.names.lookup y = some .cell ∨ scope.names.lookup y = some .free := hy
    rcases hy with hy | hy
    · exact qm hy
    · exact absurd rfl (S.nofree _ (PySem.mem_of_lookup hy))
  · exact Nat.le_of_lt (x.above y c (PySem.mem_of_lookup h))
  · have hi : i < vs.length := by
      unfold ik at h2
      by_cases hi : i < vs.length
      · exact hi
      · rw [List.getElem?_append_right (by simpa using hi)] at h2
        rw [List.getElem?_replicate] at h2
        split at h2 <;> cases h2
    have ha : vs[i]? = some v := by
      unfold ik at h2
      rw [List.getElem?_append_left (by simpa using hi), List.getElem?_map] at h2
      cases e : vs[i]? with
      | none => rw [e] at h2; cases h2
      | some a => rw [e] at h2; cases h2; rfl
    obtain ⟨u, hu, rv⟩ := r.get ha
    have hp : ps[i]? = some y := by
      rw [← S.pre, List.getElem?_take_of_lt (by omega)]; exact h1
    have ndP : ps.Nodup := by rw [← S.pre]; exact S.nd.sublist (List.take_sublist _ _)
    refine ⟨u, rv, ?_⟩
    rcases S.par y (List.mem_of_getElem? hp) with k | k
    · exact .inl ⟨k, n8 ndP hp hu k⟩
    · obtain ⟨c, e⟩ := qm (n := s.heap.objs.size + 1) k
      refine .inr ⟨.inl k, c, e, ?_⟩
      have q := x.cell y c e
      rw [nQ ndP hp hu (by show scope.names.lookup y ≠ _; rw [k]; decide)] at q
      exact q
  · exact e0.hok.fresh (Nat.le_of_lt (x.above y c (PySem.mem_of_lookup h)))
  · unfold ik
    show _ = N.length
    rw [List.length_append, List.length_map, List.length_replicate]
    omega
theorem v8 {CX : vh} {P : Program} {w : World} {K : PySem.W.Frag} {mg : Str → Option Value} {base : Heap} {k : Nat} {f : Addr} {name qual : Str} {params : Arguments} {body : List Stmt} {scope : Scope} {dV kV doc pm cdv ct oc : Value} {an od : Option Addr}
    {osl : Array (Option Value)} {N ps : List Str} {sp : Sp} (lk : K.lookup f = some ⟨oc, od, .func (PySem.W.fnOf name qual params body scope dV kV doc pm an cdv ct), osl⟩) (hcd : PySem.W.codeIn K cdv qual = true) (S : aT N ps scope)
    (len : ∀ vs H Q E, sp vs H Q E → vs.length = ps.length)
    (hbody : ∀ (A : Around) (outer : List Env) (s : Shared) (H : Hp) (vs : List V) (Q : VK) (E : XK), dJ k (A.deeper (envOfC qual scope s.heap.objs.size f cdv)) → sp vs H Q E →
      ∃ t, pr (eU CX P w K mg base N qual scope f cdv A outer s H E) body t ∧ t { nx := fun _ H' => Q .non H', rt := Q } (ik N vs) H) :
    aX P w K mg base CX (k + 1) f (PySem.W.fnOf name qual params body scope dV kV doc pm an cdv ct) ps sp := by
  refine ⟨len, fun A outer s H args us vs Q E hr e0 hb r hsp => ?_⟩
  have hl := len _ _ _ _ hsp
  have KX : K.In s.heap := e0.mod.kin.keeps fun b o e => (e0.bs b o e).1
  have lim : s.heap.NoLimit := e0.mod.nolimit.keeps fun b o e => (e0.bs b o e).1
  have hkind : ∀ y ∈ ps.zip us, scope.names.lookup y.1 = some .local ∨ (scope.names.lookup y.1 = some .cell ∧ ((cellsFrom (s.heap.objs.size + 1) scope.names []).lookup y.1).isSome = true) := fun ⟨n, v⟩ hy => by
    rcases S.par n (List.of_mem_zip hy).1 with q | q
    · exact .inl q
    · exact .inr ⟨q, PySem.W.cellsFrom_some _ _ _ (.inl q)⟩
  refine codeAny_call_function hr.depth (KX _ _ lk) rfl S.co S.gen rfl (PySem.W.codeRec_of KX hcd) (hb _ _ _ _ ?_)
  refine wpAny_newFunctionEnv_cells S.kind hkind fun env he s1 x => ?_
  subst he
  refine ⟨lim.keeps x.toInCall.keep, codeAny_func ?_⟩
  obtain ⟨t, ht, hq⟩ := hbody A outer s H vs Q E (hr.deeper _) hsp
  have I : aC (eU CX P w K mg base N qual scope f cdv A outer s H E) [] (ik N vs) H s1 := uF S hr.hd e0 hl r x
  refine wpAny_mono (ht [] s1 (ik N vs) H _ I hq) (fun fl s' hs => ?_) fun e s' hs => hs
  have fin : ∀ {σ' : St} {H' : Hp} {v : V} {u : Value}, aC (eU CX P w K mg base N qual scope f cdv A outer s H E) [] σ' H' s' → bi v u → Q v H' → CE outer P w H s Q u s' :=
    fun {σ' H' v u} J rv q => ⟨v, H', J.os, J.bare, J.base, J.hok, rv, q⟩
  cases fl with
  | ret u =>
    obtain ⟨v, σ', H', J, rv, q⟩ := hs
    exact fin J rv q
  | next =>
    obtain ⟨σ', H', J, q⟩ := hs
    exact fin (v := V.non) (u := Value.none) J rfl q
  | brk =>
    obtain ⟨_, _, _, q⟩ := hs
    exact False.elim q
  | cont =>
    obtain ⟨_, _, _, q⟩ := hs
    exact False.elim q
section
variable {X : Cx} {x : Str} {p pos : Pos} {e : Expr} {es : List Expr} {t : TA} {id T : String} {r : List V → Hp → VK → Prop}
def Cw (r : List V → Hp → VK → Prop) (t : TA) : TE := fun σ H Q => t σ H fun vs H1 => r vs H1 Q
theorem mQ (hc : dq X (.builtin id) r) (hg : Gl X x) (hm : X.mg x = none) (hv : bootBuiltins x = some (.builtin id)) (ha : PA X (e :: es) t) (hn : x ≠ "__name__" := by decide) (hdb : (x == ("__debug__" : Str)) = false := by decide)
    (he : starEach (e :: es) X.env = (false, eval e X.env) :: starEach es X.env := by rfl) (hpl : (backTo pos (starEach es X.env)).any (·.1) = false := by rfl) : PE X (.Call (.Name x p) (e :: es) [] pos) (Cw r t) := by
  intro pins s σ H Q I h
  refine wpAny_Call_Name_kw (gS I hg hm hv ?_ hn hdb)
  exact PyProof.Rows.callWith_builtin1 (cO (ha pos pins s σ H _ I h) fun us s1 ⟨vs, H1, I1, r1, q1⟩ => hc pins s1 σ H1 vs us Q I1 r1 q1) he hpl
theorem u7 (hc : dq X (.type T) r) (hg : Gl X x) (hm : X.mg x = none) (hv : bootBuiltins x = some (.type T)) (ha : PA X (e :: es) t) (hn : x ≠ "__name__" := by decide) (hdb : (x == ("__debug__" : Str)) = false := by decide)
    (he : starEach (e :: es) X.env = (false, eval e X.env) :: starEach es X.env := by rfl) (hpl : (backTo pos (starEach es X.env)).any (·.1) = false := by rfl) : PE X (.Call (.Name x p) (e :: es) [] pos) (Cw r t) := by
  intro pins s σ H Q I h
  refine wpAny_Call_Name_kw (gS I hg hm hv ?_ hn hdb)
  exact PyProof.Rows.callWith_type1 (cO (ha pos pins s σ H _ I h) fun us s1 ⟨vs, H1, I1, r1, q1⟩ => hc pins s1 σ H1 vs us Q I1 r1 q1) he hpl
end
end L2
namespace HT
open PySem PyProof.Rows
section
open PySem.SeqAt
open PySem.AutoSeq1 (wpAny_loadPart')
open PySem.MeetsSeq PySem.MeetsSeq2 PySem.MeetsSeq3
end
section
variable {prog : Program} {w : World} {A : Around} {E : Value → Shared → Prop} {s : Shared}
theorem cat_tup {t b : Addr} {vs ws : List Value} {Q : Value → Shared → Prop} (ht : IsTup s.heap t vs.toArray) (hb : IsTup s.heap b ws.toArray) (hv : vs ≠ [])
    (h1 : ws = [] → Q (.ref t) s) (h2 : ws ≠ [] → Q (.ref s.heap.objs.size) { s with heap := s.heap.push { cls := .type "tuple", data := .seq (vs ++ ws).toArray } })
    (hsz : vs.length + ws.length ≤ sizeLine) : wpAny (model prog w) A (binaryOp .Add (.ref t) (.ref b)) Q E s := by
  obtain ⟨⟨cls, dd, data, sl⟩, ho, hc, n, hd⟩ := id ht
  obtain ⟨⟨cls2, dd2, data2, sl2⟩, ho2, hc2, n2, hd2⟩ := id hb
  simp only at hc hd hc2 hd2
  subst hc hd hc2 hd2
  have e : vs.toArray ++ ws.toArray = (vs ++ ws).toArray := by simp
  by_cases hw : ws = []
  · exact concat_meets ⟨_, ho, rfl⟩ ⟨_, ho2, rfl⟩ noFill_tuple_add seq_tuple_add PySem.F.slot_tuple_add PySem.F.entry_tuple_add (PySem.F.args_tuple_add_2 _ _)
      (tuple_addW1 t b vs.toArray ws.toArray n n2 dd dd2 sl sl2 (by simpa using hv) (by simp [hw])) ⟨ho, ho2, h1 hw⟩
  · refine concat_meets ⟨_, ho, rfl⟩ ⟨_, ho2, rfl⟩ noFill_tuple_add seq_tuple_add PySem.F.slot_tuple_add PySem.F.entry_tuple_add (PySem.F.args_tuple_add_2 _ _)
      (tuple_addW2 t b vs.toArray ws.toArray n n2 dd dd2 sl sl2 (by simpa using hv) (by simpa using hw) (by rw [List.size_toArray, List.size_toArray]; exact hsz)) ⟨ho, ho2, ?_⟩
    rw [e]
    exact h2 hw
def sIx (n d : Nat) : Option Int → Nat
  | none => d
  | some v => if v < 0 then (v + (n : Int)).toNat else min v.toNat n
theorem zS (n d : Nat) (hd : d ≤ n) (o : Option Int) : sIx n d o ≤ n := by
  cases o with
  | none => exact hd
  | some v =>
    show (if v < 0 then (v + (n : Int)).toNat else min v.toNat n) ≤ n
    by_cases hv : v < 0
    · rw [if_pos hv]; omega
    · rw [if_neg hv]; exact Nat.min_le_right _ _
theorem sQ (v : Int) (n d : Nat) : (if v < 0 then max (v + (n : Int)) 0 else min v (n : Int)) = ((sIx n d (some v) : Nat) : Int) := by
  show (if v < 0 then max (v + (n : Int)) 0 else min v (n : Int)) = (((if v < 0 then (v + (n : Int)).toNat else min v.toNat n) : Nat) : Int)
  by_cases hv : v < 0
  · simp only [if_pos hv]; omega
  · simp only [if_neg hv]; omega
theorem sB (lo hi : Option Int) (n : Nat) : Builtin.Slice.sliceAdjust lo hi 1 (n : Int) = (((sIx n 0 lo : Nat) : Int), ((sIx n n hi : Nat) : Int)) := by
  have h1 : ¬ ((1 : Int) < 0) := by omega
  unfold Builtin.Slice.sliceAdjust
  simp only [h1, if_false]
  refine Prod.ext ?_ ?_
  · cases lo with
    | none => rfl
    | some v => exact sQ v n 0
  · cases hi with
    | none => rfl
    | some v => exact sQ v n n
theorem rn (i j : Nat) : Builtin.Slice.slicePlaces (i : Int) (j : Int) 1 = j - i := by
  unfold Builtin.Slice.slicePlaces
  have h1 : (1 : Int) > 0 := by omega
  simp only [h1, if_true, Int.ediv_one]
  split <;> omega
theorem mn {v : Value} {o : Option Int} {Q : Option Int → Shared → Prop} (p : IsPart v o) (h : Q o s) : wpAny (model prog w) A (Builtin.Slice.slicePartIndex v) Q E s := by
  cases p with
  | none => exact slicePart_none h
  | int i t => exact slicePart_int h
theorem sliceApplied_gen {sl : Addr} {vl vu : Value} {lo hi : Option Int} {n : Nat} {Q : Int × Int × Nat → Shared → Prop} (hs : s.heap.IsSliceOf sl vl vu .none) (pl : IsPart vl lo) (pu : IsPart vu hi)
    (h : Q (((sIx n 0 lo : Nat) : Int), 1, sIx n n hi - sIx n 0 lo) s) : wpAny (model prog w) A (Builtin.Slice.sliceApplied (.ref sl) (pure (n : Int))) Q E s := by
  obtain ⟨os, hos, hcs, hds⟩ := id hs
  unfold Builtin.Slice.sliceApplied Builtin.Slice.sliceFields
  refine wpAny_bind (wpAny_bind (wpAny_field hos hds (x := vl) rfl (wpAny_bind (wpAny_field hos hds (x := vu) rfl (wpAny_bind (wpAny_field hos hds (x := .none) rfl (wpAny_pure ?_)))))))
  refine wpAny_bind (slicePart_none ?_)
  show wpAny _ _ (if ((1 : Int) == 0) = true then _ else _) _ _ s
  rw [if_neg (by decide)]
  refine wpAny_bind (mn pl (wpAny_bind (mn pu (wpAny_bind (wpAny_pure ?_)))))
  show wpAny _ _ (match Builtin.Slice.sliceAdjust lo hi 1 (n : Int) with | (lo, hi) => pure (lo, (1 : Int), Builtin.Slice.slicePlaces lo hi 1)) _ _ s
  rw [sB lo hi n]
  show wpAny _ _ (pure (((sIx n 0 lo : Nat) : Int), (1 : Int), Builtin.Slice.slicePlaces ((sIx n 0 lo : Nat) : Int) ((sIx n n hi : Nat) : Int) 1)) _ _ s
  rw [rn]
  exact wpAny_pure h
theorem wm (xs : Array Value) (i k : Nat) : ((List.range k).filterMap fun (m : Nat) => xs[((i : Int) + (m : Int) * 1).toNat]?).toArray = ((xs.toList.drop i).take k).toArray := by
  have e : (fun (m : Nat) => xs[((i : Int) + (m : Int) * 1).toNat]?) = fun m => xs[i + m]? := by
    funext m
    have : ((i : Int) + (m : Int) * 1).toNat = i + m := by omega
    rw [this]
  rw [e]
  have := pick_run xs i k
  rw [List.filterMap_map] at this
  have e2 : ((fun x => xs[x]?) ∘ fun x => i + x) = fun m => xs[i + m]? := rfl
  rw [e2] at this
  rw [this]
theorem getItem_tuple_cut {t sl : Addr} {items : Array Value} {vl vu : Value} {lo hi : Option Int} {Q : Value → Shared → Prop} (ht : IsTup s.heap t items) (hs : s.heap.IsSliceOf sl vl vu .none) (pl : IsPart vl lo) (pu : IsPart vu hi)
    (hw : ¬ (sIx items.size 0 lo = 0 ∧ sIx items.size items.size hi = items.size))
    (h : Q (.ref s.heap.objs.size) { s with heap := s.heap.push { cls := .type "tuple", data := .seq ((items.toList.drop (sIx items.size 0 lo)).take (sIx items.size items.size hi - sIx items.size 0 lo)).toArray } })
    (hsz : items.size ≤ sizeLine) : wpAny (model prog w) A (getItem (.ref t) (.ref sl)) Q E s := by
  have htake : sizeOk (.seq ((items.toList.drop (sIx items.size 0 lo)).take (sIx items.size items.size hi - sIx items.size 0 lo)).toArray) := by
    show ((items.toList.drop (sIx items.size 0 lo)).take (sIx items.size items.size hi - sIx items.size 0 lo)).toArray.size ≤ sizeLine
    rw [List.size_toArray, List.length_take, List.length_drop, Array.length_toList]
    omega
  have hj : sIx items.size items.size hi ≤ items.size := zS _ _ (Nat.le_refl _) hi
  obtain ⟨os, hos, hcs, hds⟩ := id hs
  have hTs : s.TypeIs (.ref sl) "slice" := ⟨os, hos, hcs⟩
  unfold getItem
  try with_reducible refine wpAny_holding ?_
  first | refine wpAny_bind (wpAny_pure ?_) | skip
  refine wpAny_bind (wpAny_sequenceKey ht.typeIs (by decide) ?_)
  refine wpAny_bind (wpAny_callSpecial?_slot (name := Str.ofString "__getitem__") ht.typeIs PyProof.Rows.slot_tuple_getitem
    (wpAny_call_entry PyProof.Rows.slot_tuple_getitem ht.typeIs entry_tuple_getitem ?_ (args_tuple_getitem _ _)))
  show wpAny _ _ (Builtin.Tuple.tupleItemsOf (.ref t) >>= _) _ _ s
  refine wpAny_bind (tupleItemsOf_ ht ?_)
  refine wpAny_bind (wpAny_typeOf hTs ?_)
  rw [if_pos (by decide)]
  refine wpAny_bind (sliceApplied_gen hs pl pu ?_)
  have hno : ¬ ((((sIx items.size 0 lo : Nat) : Int) == 0 && (1 : Int) == 1 && (sIx items.size items.size hi - sIx items.size 0 lo) == items.size) = true) := by
    intro q
    rw [Bool.and_eq_true, Bool.and_eq_true] at q
    have q1 : ((sIx items.size 0 lo : Nat) : Int) = 0 := eq_of_beq q.1.1
    have q2 : sIx items.size items.size hi - sIx items.size 0 lo = items.size := eq_of_beq q.2
    exact hw ⟨by omega, by omega⟩
  show wpAny _ _ (if (((sIx items.size 0 lo : Nat) : Int) == 0 && (1 : Int) == 1 && (sIx items.size items.size hi - sIx items.size 0 lo) == items.size) = true then _ else _) _ _ s
  rw [if_neg hno, wm]
  first
    | exact wpAny_bind (m := Builtin.Tuple.tupleExact _) (wpAny_newObj_type (wpAny_pure ⟨_, rfl, wpAny_pure h⟩) htake)
    | exact wpAny_bind (m := Builtin.Tuple.tupleExact _) (wpAny_newObj_type (wpAny_bind (wpAny_pure (wpAny_pure ⟨_, rfl, wpAny_pure h⟩))) htake)
    | exact wpAny_bind (wpAny_bind (m := Builtin.Tuple.tupleExact _) (wpAny_newObj_type (wpAny_pure (wpAny_pure ⟨_, rfl, wpAny_pure h⟩)) htake))
    | exact wpAny_bind (wpAny_bind (m := Builtin.Tuple.tupleExact _) (wpAny_newObj_type (wpAny_pure ⟨_, rfl, wpAny_pure h⟩) htake))
end
end HT
namespace L2
open PySem PySem.Spec PyProof.Rows
abbrev TO := St → Hp → (Option Int → Hp → Prop) → Prop
def PO (X : Cx) (e : Option Expr) (t : TO) : Prop :=
  ∀ (pins : List (Addr × Obj)) (s : Shared) (σ : St) (H : Hp) (Q : Option Int → Hp → Prop), aC X pins σ H s → t σ H Q →
    wpAny (model X.prog X.w) X.A (evalPart e X.env) (fun u s' => ∃ o H', aC X pins σ H' s' ∧ IsPart u o ∧ Q o H') X.xe s
def yO : TO := fun _ H Q => Q none H
def A5 (t : TE) : TO := fun σ H Q => t σ H fun x H1 => ∃ i, x = .int i ∧ Q (some i) H1
theorem jE {ns : List Int} : ∀ {us : List Value}, bf (ns.map V.int) us → IntsAre us ns := by
  induction ns with
  | nil => intro us r; rw [List.map_nil] at r; cases r; exact .nil
  | cons n ns ih =>
    intro us r
    rw [List.map_cons] at r
    cases r with
    | cons r1 r2 =>
      obtain ⟨t, e⟩ := r1
      subst e
      exact .cons n t (ih r2)
section
variable {X : Cx} {e : Expr} {te : TE} {lo hi : Option Expr} {tl th : TO} {pos p2 : Pos}
theorem yb : PO X none yO := by
  intro pins s σ H Q I h
  rw [evalPart_none]
  exact wpAny_pure ⟨none, H, I, .none, h⟩
theorem xF (h : PE X e te) : PO X (some e) (A5 te) := by
  intro pins s σ H Q I hw
  rw [evalPart_some]
  refine cO (h pins s σ H _ I hw) fun u s1 ⟨x, H1, I1, r1, q1⟩ => ?_
  obtain ⟨i, rfl, q⟩ := q1
  obtain ⟨t, rfl⟩ := r1
  exact ⟨some i, H1, I1, .int i t, q⟩
def yW (X : Cx) (r : V → Option Int → Option Int → Hp → VK → Prop) : Prop :=
  ∀ (pins : List (Addr × Obj)) (s : Shared) (σ : St) (H : Hp) (x : V) (v vl vu : Value) (lo hi : Option Int) (sl : Addr) (Q : VK), aC X pins σ H s → bi x v → s.heap.IsSliceOf sl vl vu .none → IsPart vl lo → IsPart vu hi → r x lo hi H Q →
    ∃ T id, typeLookup (.type T) "__getitem__" = pure (some (.builtin id)) ∧ s.TypeIs v T ∧ wpAny (model X.prog X.w) X.A (getItem v (.ref sl)) (EP X pins σ Q) X.xe s
theorem yW.or {r r' : V → Option Int → Option Int → Hp → VK → Prop} (h : yW X r) (h' : yW X r') : yW X (fun x lo hi H Q => r x lo hi H Q ∨ r' x lo hi H Q) := by
  intro pins s σ H x v vl vu lo hi sl Q I rx hs pl pu q
  rcases q with q | q
  · exact h pins s σ H x v vl vu lo hi sl Q I rx hs pl pu q
  · exact h' pins s σ H x v vl vu lo hi sl Q I rx hs pl pu q
def CV (r : V → Option Int → Option Int → Hp → VK → Prop) (te : TE) (tl th : TO) : TE := fun σ H Q => te σ H fun x H1 => tl σ H1 fun l H2 => th σ H2 fun u H3 => r x l u H3 Q
theorem wu {r : V → Option Int → Option Int → Hp → VK → Prop} (hr : yW X r) (he : PE X e te) (hl : PO X lo tl) (hu : PO X hi th) : PE X (.Subscript e (.Slice lo hi none p2) pos) (CV r te tl th) := by
  intro pins s σ H Q I h
  refine Subscript_ (cO (he pins s σ H _ I h) fun v s1 ⟨x, H1, I1, r1, q1⟩ => ?_)
  refine wpAny_Slice (cO (hl pins s1 σ H1 _ I1 q1) fun vl s2 ⟨l, H2, I2, pl, q2⟩ => cO (hu pins s2 σ H2 _ I2 q2) fun vu s3 ⟨u, H3, I3, pu, q3⟩ => ?_)
  rw [evalPart_none]
  refine wpAny_pure ?_
  have I4 : aC X pins σ H3 { s3 with heap := s3.heap.push { cls := .type "slice", data := .fields #[vl, vu, .none] } } := I3.kept (t' := s3.toks) fun b ob q => Heap.get?_push_of_some _ q
  obtain ⟨T, id, hT, ht, hg⟩ := hr pins { s3 with heap := s3.heap.push { cls := .type "slice", data := .fields #[vl, vu, .none] } } σ H3 x v vl vu l u s3.heap.objs.size Q I4 r1 (Heap.IsSliceOf.new ..) pl pu q3
  show wpAny (model X.prog X.w) X.A (subscriptTail e (.Slice lo hi none p2) v (.ref s3.heap.objs.size)) (EP X pins σ Q) X.xe { s3 with heap := s3.heap.push { cls := .type "slice", data := .fields #[vl, vu, .none] } }
  exact tail_any (ops := [.ref s3.heap.objs.size, v]) ht hT hg (by with_unfolding_all rfl)
def pZ (xs : List V) (lo hi : Option Int) : List V := (xs.drop (HT.sIx xs.length 0 lo)).take (HT.sIx xs.length xs.length hi - HT.sIx xs.length 0 lo)
theorem kY (xs : List V) (lo hi : Option Int) : (pZ xs lo hi).length ≤ xs.length := by
  unfold pZ
  rw [List.length_take, List.length_drop]
  omega
def Cv (K : PySem.W.Frag) : V → Option Int → Option Int → Hp → VK → Prop := fun x lo hi H Q => ∃ a xs, x = .ref a ∧ dF K H a xs ∧
  ¬ (HT.sIx xs.length 0 lo = 0 ∧ HT.sIx xs.length xs.length hi = xs.length) ∧ ∀ p, H p = none → Q (.ref p) (ca H p (.tup (pZ xs lo hi)))
theorem AA : yW X (Cv X.K) := by
  intro pins s σ H x v vl vu lo hi sl Q I rx hs pl pu h
  obtain ⟨a, xs, rfl, hx, hw, q⟩ := h
  cases rx
  obtain ⟨its, r, ht, hz⟩ := I.tuple hx
  have hlen : its.toArray.size = xs.length := by rw [List.size_toArray]; exact r.length.symm
  refine ⟨"tuple", _, PyProof.Rows.slot_tuple_getitem.lookup, ht.typeIs, ?_⟩
  refine HT.getItem_tuple_cut ht hs pl pu (by rw [hlen]; exact hw) ?_ (by rw [hlen]; exact hz)
  rw [hlen]
  refine ⟨.ref s.heap.objs.size, _, I.laid (t' := s.toks) (o := .tup (pZ xs lo hi)) (fun b ob q => Heap.get?_push_of_some _ q) (Nat.le_refl _) ?_, rfl, q _ (I.hok.fresh (Nat.le_refl _))⟩
  exact ⟨Nat.le_trans (kY xs lo hi) hz, _, (r.drop (HT.sIx xs.length 0 lo)).take (HT.sIx xs.length xs.length hi - HT.sIx xs.length 0 lo), IsTup.new _ _⟩
def za (K : PySem.W.Frag) : R2 := fun x y H Q => ∃ a b xs ys, x = .ref a ∧ y = .ref b ∧ dF K H a xs ∧ dF K H b ys ∧ xs ≠ [] ∧ xs.length + ys.length ≤ sizeLine ∧
  (ys = [] → Q (.ref a) H) ∧ (ys ≠ [] → ∀ p, H p = none → Q (.ref p) (ca H p (.tup (xs ++ ys))))
theorem bf.nil_iff {xs : List V} {us : List Value} (r : bf xs us) : us = [] ↔ xs = [] := by
  cases r with
  | nil => simp
  | cons _ _ => simp
theorem yh : jA X (binaryOp .Add) (za X.K) := by
  intro pins s σ H x y v u Q I rx ry h
  obtain ⟨a, b, xs, ys, rfl, rfl, ha, hb, hx, hz, q1, q2⟩ := h
  cases rx
  cases ry
  obtain ⟨its, r1, p1, _⟩ := I.tuple ha
  obtain ⟨its2, r2, p2, _⟩ := I.tuple hb
  refine HT.cat_tup p1 p2 (fun z => hx (r1.nil_iff.mp z)) (fun z => ⟨.ref a, H, I, rfl, q1 (r2.nil_iff.mp z)⟩) (fun z => ?_) (by rw [← r1.length, ← r2.length]; exact hz)
  refine ⟨.ref s.heap.objs.size, _, I.laid (t' := s.toks) (o := .tup (xs ++ ys)) (fun b ob q => Heap.get?_push_of_some _ q) (Nat.le_refl _) ?_, rfl, q2 (fun w => z (r2.nil_iff.mpr w)) _ (I.hok.fresh (Nat.le_refl _))⟩
  exact ⟨by rw [List.length_append]; exact hz, _, r1.append r2, IsTup.new _ _⟩
end
def sK (n : Nat) (i : Int) : Option Nat := if 0 ≤ i then (if i < n then some i.toNat else none) else if -(n : Int) ≤ i then some (i + n).toNat else none
def atI {α : Type} (xs : List α) (i : Int) : Option α := (sK xs.length i).bind fun j => xs[j]?
theorem tZ {n : Nat} {i : Int} {j : Nat} (h : sK n i = some j) : seqIndex? i n = some j ∧ j < n ∧ -(n : Int) ≤ i ∧ i < n := by
  unfold sK at h
  by_cases h0 : 0 ≤ i
  · rw [if_pos h0] at h
    by_cases h1 : i < n
    · rw [if_pos h1] at h
      have e : i.toNat = j := Option.some.inj h
      exact ⟨by rw [seqIndex_of h0 h1, e], by omega, by omega, h1⟩
    · rw [if_neg h1] at h; cases h
  · rw [if_neg h0] at h
    by_cases h1 : -(n : Int) ≤ i
    · rw [if_pos h1] at h
      have e : (i + n).toNat = j := Option.some.inj h
      exact ⟨by rw [seqIndex_neg (by omega) h1, e], by omega, h1, by omega⟩
    · rw [if_neg h1] at h; cases h
theorem o4 {α : Type} {xs : List α} {i : Int} {v : α} (h : atI xs i = some v) : ∃ j, seqIndex? i xs.length = some j ∧ xs[j]? = some v ∧ j < xs.length ∧ -(xs.length : Int) ≤ i ∧ i < xs.length := by
  unfold atI at h
  cases e : sK xs.length i with
  | none => rw [e] at h; cases h
  | some j =>
    rw [e] at h
    obtain ⟨h1, h2, h3, h4⟩ := tZ e
    exact ⟨j, h1, h, h2, h3, h4⟩
theorem o6 {α : Type} {xs : List α} {j : Nat} {v : α} (h : xs[j]? = some v) : atI xs (j : Int) = some v := by
  have hj : j < xs.length := (List.getElem?_eq_some_iff.mp h).1
  have e : sK xs.length (j : Int) = some j := by
    unfold sK
    rw [if_pos (by omega), if_pos (by omega)]; simp
  unfold atI; rw [e]; exact h
def oA (b : Expr) : Prop := ∀ o i, subscripted b false o i = operate [o, i] (getItem o i)
def yx (X : Cx) (r : R2) : Prop :=
  ∀ (value slice : Expr) (pins : List (Addr × Obj)) (s : Shared) (σ : St) (H : Hp) (x y : V) (v u : Value) (Q : VK), aC X pins σ H s → bi x v → bi y u → r x y H Q →
    subscripted slice false v u = operate [v, u] (getItem v u) → wpAny (model X.prog X.w) X.A (subscriptTail value slice v u) (EP X pins σ Q) X.xe s
def Dh (X : Cx) (id : String) (r : V → List V → Hp → VK → Prop) : Prop :=
  ∀ (pins : List (Addr × Obj)) (s : Shared) (σ : St) (H : Hp) (x : V) (xs : List V) (v : Value) (us : List Value) (Q : VK), aC X pins σ H s → bi x v → bf xs us → r x xs H Q →
    wpAny (model X.prog X.w) X.A (call (.builtin id) (v :: us)) (EP X pins σ Q) X.xe s
section
variable {X : Cx} {a b : Expr} {ta tb : TE} {pos : Pos}
theorem yx.or {r r' : R2} (h : yx X r) (h' : yx X r') : yx X (fun x y H Q => r x y H Q ∨ r' x y H Q) := by
  intro value slice pins s σ H x y v u Q I rx ry q hs
  rcases q with q | q
  · exact h value slice pins s σ H x y v u Q I rx ry q hs
  · exact h' value slice pins s σ H x y v u Q I rx ry q hs
theorem Bt {r : R2} (hr : yx X r) (ha : PE X a ta) (hb : PE X b tb) (hs : oA b) : PE X (.Subscript a b pos) (AJ r ta tb) := by
  intro pins s σ H Q I h
  exact Subscript_ (zG ha hb I h fun v u s2 x y H2 I2 rx ry q => hr a b pins s2 σ H2 x y v u Q I2 rx ry q (hs _ _))
def Be (K : PySem.W.Frag) : R2 := fun x y H Q => ∃ p xs i v, x = .ref p ∧ y = .int i ∧ mV K H p xs ∧ atI xs i = some v ∧ Q v H
def BC (K : PySem.W.Frag) : R2 := fun x y H Q => ∃ p xs i v, x = .ref p ∧ y = .int i ∧ dF K H p xs ∧ atI xs i = some v ∧ Q v H
def AV : R2 := fun x y H Q => ∃ z i c, x = .str z ∧ y = .int i ∧ z.length ≤ sizeLine ∧ atI z.cps.toList i = some c ∧ Q (.str ⟨#[c]⟩) H
theorem yf : yx X (Be X.K) := by
  intro value slice pins s σ H x y v u Q I rx ry h hs
  obtain ⟨p, xs, i, z, rfl, rfl, hq, he, q⟩ := h
  cases rx
  obtain ⟨t, rfl⟩ := ry
  obtain ⟨its, r, pl, hz⟩ := I.list hq
  obtain ⟨j, h1, h2, h3, h4, h5⟩ := o4 he
  obtain ⟨w, ew, rw'⟩ := r.get h2
  have hl := r.length
  have hn := kP
  have fin : EP X pins σ Q w s := ⟨z, H, I, rw', q⟩
  by_cases h0 : 0 ≤ i
  · have hj : i.toNat = j := by
      rw [seqIndex_of h0 h5] at h1
      exact Option.some.inj h1
    exact item_listR pl.isList h0 (by omega) (by rw [hj]; simpa using ew) fin hs
  · have hj : (i + (its.toArray.size : Int)).toNat = j := by
      rw [seqIndex_neg (by omega) h4] at h1
      rw [List.size_toArray, ← hl]
      exact Option.some.inj h1
    exact subscriptTail_builtinR (x := w) pl.isList.typeIs slot_list_getitem.lookup
      (wpAny_getItem_list_neg (Q := fun r s' => r = w ∧ EP X pins σ Q r s') pl.isList (by omega) (by rw [List.size_toArray] <;> omega) (by omega) (by rw [hj]; simpa using ew) ⟨rfl, fin⟩) hs
theorem Ab : yx X (BC X.K) := by
  intro value slice pins s σ H x y v u Q I rx ry h hs
  obtain ⟨p, xs, i, z, rfl, rfl, hq, he, q⟩ := h
  cases rx
  obtain ⟨t, rfl⟩ := ry
  obtain ⟨its, r, pl, hz⟩ := I.tuple hq
  obtain ⟨j, h1, h2, h3, h4, h5⟩ := o4 he
  obtain ⟨w, ew, rw'⟩ := r.get h2
  have hl := r.length
  have hn := kP
  have fin : EP X pins σ Q w s := ⟨z, H, I, rw', q⟩
  exact subscriptTail_builtinR (x := w) pl.typeIs slot_tuple_getitem.lookup
    (getItem_tuple (j := j) (Q := fun r s' => r = w ∧ EP X pins σ Q r s') pl (by omega) (by omega) (by rw [List.size_toArray, ← hl]; exact h1) (by simpa using ew) ⟨rfl, fin⟩) hs
theorem zY : yx X AV := by
  intro value slice pins s σ H x y v u Q I rx ry h hs
  obtain ⟨z, i, c, rfl, rfl, hz, he, q⟩ := h
  obtain ⟨t, rfl⟩ := rx
  obtain ⟨t', rfl⟩ := ry
  obtain ⟨j, h1, h2, h3, h4, h5⟩ := o4 he
  have hl : z.cps.toList.length = z.length := by simp [Str.length]
  rw [hl] at h1 h4 h5
  have hn := kP
  exact tail_any (typeIs_str s z t) slot_str_getitem.lookup (getItem_str (c := c) (by
    have e1 : decide (i < -(2 ^ 63 : Int)) = false := decide_eq_false (by omega)
    have e2 : decide (i ≥ 2 ^ 63) = false := decide_eq_false (by omega)
    rw [e1, e2, Bool.or_false]) (by rw [h1]; simpa using h2) ⟨.str ⟨#[c]⟩, H, I.tok _, ⟨_, rfl⟩, q⟩) hs
theorem rV (its : List Value) (n j : Nat) (u : Value) : Obj.mapSeq (·.setIfInBounds j u) { cls := .type "list", data := .seq its.toArray n } = { cls := .type "list", data := .seq (its.set j u).toArray n } := by
  simp [Obj.mapSeq]
theorem aC.lst {pins : List (Addr × Obj)} {σ : St} {H : Hp} {s : Shared} {p : Addr} {xs : List V} (I : aC X pins σ H s) (h : H p = some (.lst xs)) :
    ∃ (its : List Value) (n : Nat), bf xs its ∧ s.heap.get? p = some { cls := .type "list", data := .seq its.toArray n } ∧ xs.length ≤ sizeLine := by
  obtain ⟨z, its, n, r, e⟩ := I.hok p _ h
  exact ⟨its, n, r, e, z⟩
theorem aC.lstUpd {pins : List (Addr × Obj)} {σ : St} {H : Hp} {s : Shared} {p : Addr} {xs ys : List V} {its its' : List Value} {n n' : Nat} {f : Obj → Obj} (I : aC X pins σ H s) (h : H p = some (.lst xs))
    (ho : s.heap.get? p = some { cls := .type "list", data := .seq its.toArray n }) (hf : f { cls := .type "list", data := .seq its.toArray n } = { cls := .type "list", data := .seq its'.toArray n' }) (r : bf ys its') (hz : ys.length ≤ sizeLine) (t : Nat) :
    aC X pins σ (ca H p (.lst ys)) { s with heap := s.heap.update p f, toks := t } := by
  have e : (s.heap.update p f).get? p = some { cls := .type "list", data := .seq its'.toArray n' } := by
    rw [Heap.get?_update_self f ho (by rw [hf] <;> rfl), hf]
  refine I.write (x := p) (e := p) (by rw [h]; trivial) (.inl rfl) (fun b u hb q => (Heap.get?_update_other _ _ (Ne.symm hb)).trans q) ⟨_, e⟩ ?_
  exact ⟨hz, its', n', r, e⟩
def AL : V → V → V → Hp → (Hp → Prop) → Prop := fun o i v H Q => ∃ p xs k j, o = .ref p ∧ i = .int k ∧ H p = some (.lst xs) ∧ sK xs.length k = some j ∧ Q (ca H p (.lst (xs.set j v)))
theorem we : AM X AL := by
  intro pins s σ H o i v ov iv u Q I ro ri rv h
  obtain ⟨p, xs, k, j, rfl, rfl, hp, hj, q⟩ := h
  cases ro
  obtain ⟨t, rfl⟩ := ri
  obtain ⟨its, n, r, ho, hz⟩ := I.lst hp
  obtain ⟨h1, h2, h3, h4⟩ := tZ hj
  have hl := r.length
  have hn := kP
  have I' : aC X pins σ (ca H p (.lst (xs.set j v))) { s with heap := s.heap.update p (Obj.mapSeq (·.setIfInBounds j u)) } :=
    I.lstUpd hp ho (rV its n j u) (r.set rv j) (by rw [List.length_set]; exact hz) s.toks
  by_cases h0 : 0 ≤ k
  · have hk : k.toNat = j := by
      rw [seqIndex_of h0 h4] at h1
      exact Option.some.inj h1
    exact PySem.W.ki_setAt ho h0 (by omega) (by rw [List.size_toArray, ← hl]; exact h4) (by rw [hk]; exact ⟨_, I', q⟩)
  · have hk : (k + (its.toArray.size : Int)).toNat = j := by
      rw [seqIndex_neg (by omega) h3] at h1
      rw [List.size_toArray, ← hl]
      exact Option.some.inj h1
    exact PySem.W.ki_setBack ho (by omega) (by rw [List.size_toArray, ← hl]; exact h3) (by omega) (by rw [hk]; exact ⟨_, I', q⟩)
theorem pk (lo hi : Option Int) (n : Nat) : (sliceBounds lo hi none n).1 = ((HT.sIx n 0 lo : Nat) : Int) ∧ (sliceBounds lo hi none n).2.1 = ((HT.sIx n n hi : Nat) : Int) ∧ (sliceBounds lo hi none n).2.2 = 1 := by
  refine ⟨?_, ?_, rfl⟩
  · cases lo with
    | none => simp [sliceBounds, HT.sIx]
    | some i =>
      simp only [sliceBounds, HT.sIx, Option.getD_none, show (1 : Int) > 0 by decide, if_true]
      by_cases h : i < 0
      · simp only [h, if_true] <;> omega
      · simp only [h, if_false] <;> omega
  · cases hi with
    | none => simp [sliceBounds, HT.sIx]
    | some i =>
      simp only [sliceBounds, HT.sIx, Option.getD_none, show (1 : Int) > 0 by decide, if_true]
      by_cases h : i < 0
      · simp only [h, if_true] <;> omega
      · simp only [h, if_false] <;> omega
theorem nB (its : List Value) (lo hi : Option Int) : slicePick its.toArray lo hi none = ((its.drop (HT.sIx its.length 0 lo)).take (HT.sIx its.length its.length hi - HT.sIx its.length 0 lo)).toArray := by
  obtain ⟨h1, h2, h3⟩ := pk lo hi its.toArray.size
  unfold slicePick
  rw [h1, h2, h3]
  simp only [sliceRange_one, pick_run, List.size_toArray] <;> rfl
def Cy (K : PySem.W.Frag) : V → Option Int → Option Int → Hp → VK → Prop := fun x lo hi H Q => ∃ a xs, x = .ref a ∧ mV K H a xs ∧ ∀ p, H p = none → Q (.ref p) (ca H p (.lst (pZ xs lo hi)))
theorem xW : yW X (Cy X.K) := by
  intro pins s σ H x v vl vu lo hi sl Q I rx hs pl pu h
  obtain ⟨a, xs, rfl, hx, q⟩ := h
  cases rx
  obtain ⟨its, r, ht, hz⟩ := I.list hx
  have hlen := r.length
  refine ⟨"list", _, slot_list_getitem.lookup, ht.isList.typeIs, ?_⟩
  refine wpAny_getItem_list_slice ht.isList hs pl pu .none (by simp) ?_ (by rw [List.size_toArray] <;> omega)
  rw [nB, ← hlen]
  refine ⟨.ref s.heap.objs.size, _, I.laid (t' := s.toks) (o := .lst (pZ xs lo hi)) (fun b ob q => Heap.get?_push_of_some _ q) (Nat.le_refl _) ?_, rfl, q _ (I.hok.fresh (Nat.le_refl _))⟩
  exact ⟨Nat.le_trans (kY xs lo hi) hz, _, 0, (r.drop (HT.sIx xs.length 0 lo)).take (HT.sIx xs.length xs.length hi - HT.sIx xs.length 0 lo), Heap.get?_push_size _ rfl⟩
theorem oG : dq X (.builtin "len") (fun xs H Q => ∃ p ys, xs = [.ref p] ∧ (mV X.K H p ys ∨ dF X.K H p ys) ∧ Q (.int ys.length) H) := by
  intro pins s σ H xs us Q I r h
  obtain ⟨p, ys, rfl, hq, q⟩ := h
  obtain ⟨u, rfl, rx⟩ := gJ r
  cases rx
  have hn := kP
  rcases hq with hq | hq
  · obtain ⟨its, r', pl, hz⟩ := I.list hq
    have hlen := r'.length
    exact Calls.call_len_list pl.isList (by simp only [List.size_toArray] <;> omega) ⟨.int ys.length, H, I.tok _, ⟨s.toks + 1, by rw [List.size_toArray, hlen]⟩, q⟩
  · obtain ⟨its, r', pl, hz⟩ := I.tuple hq
    have hlen := r'.length
    exact len_tuple pl (by simp only [List.size_toArray] <;> omega) ⟨.int ys.length, H, I.tok _, ⟨s.toks + 1, by rw [List.size_toArray, hlen]⟩, q⟩
theorem pG : dq X (.builtin "len") (fun xs H Q => ∃ z, xs = [.str z] ∧ z.length ≤ sizeLine ∧ Q (.int z.length) H) := by
  intro pins s σ H xs us Q I r h
  obtain ⟨z, rfl, hz, q⟩ := h
  obtain ⟨u, rfl, t, rfl⟩ := gJ r
  have hn := kP
  exact len_str (by omega) ⟨.int z.length, H, I.tok _, ⟨_, rfl⟩, q⟩
theorem dq.or {f : Value} {r r' : List V → Hp → VK → Prop} (h : dq X f r) (h' : dq X f r') : dq X f (fun xs H Q => r xs H Q ∨ r' xs H Q) := by
  intro pins s σ H xs us Q I rs q
  rcases q with q | q
  · exact h pins s σ H xs us Q I rs q
  · exact h' pins s σ H xs us Q I rs q
theorem ox : dq X (.type "list") (fun xs H Q => ∃ p ys, xs = [.ref p] ∧ (mV X.K H p ys ∨ dF X.K H p ys) ∧ ∀ l, H l = none → Q (.ref l) (ca H l (.lst ys))) := by
  intro pins s σ H xs us Q I r h
  obtain ⟨p, ys, rfl, hq, q⟩ := h
  obtain ⟨u, rfl, rx⟩ := gJ r
  cases rx
  have fin : ∀ (its : List Value), bf ys its → ys.length ≤ sizeLine → ∀ (h' : Heap) (c' : Nat), (∀ b o', s.heap.get? b = some o' → h'.get? b = some o') →
      h'.get? s.heap.objs.size = some { cls := .type "list", dict := none, data := .seq its.toArray c', slots := #[] } → EP X pins σ Q (.ref s.heap.objs.size) { s with heap := h' } := fun its r' hz h' c' kp e =>
    ⟨.ref s.heap.objs.size, _, I.laid (t' := s.toks) kp (Nat.le_refl _) (show bF X.prog X.w _ h' _ (.lst ys) from ⟨hz, its, c', r', e⟩), rfl, q _ (I.hok.fresh (Nat.le_refl _))⟩
  rcases hq with hq | hq
  · obtain ⟨its, r', pl, hz⟩ := I.list hq
    have hlen := r'.length
    obtain ⟨o, ho, hc, n, hd⟩ := pl.isList
    exact call_list_seq p (.inl rfl) ho hc hd (fun h' c' kp e => fin its r' hz h' c' kp e) (by simp only [List.size_toArray] <;> omega)
  · obtain ⟨its, r', pl, hz⟩ := I.tuple hq
    have hlen := r'.length
    obtain ⟨o, ho, hc, n, hd⟩ := pl
    exact call_list_seq p (.inr rfl) ho hc hd (fun h' c' kp e => fin its r' hz h' c' kp e) (by simp only [List.size_toArray] <;> omega)
theorem nF : dq X (.type "tuple") (fun xs H Q => ∃ p ys, xs = [.ref p] ∧ ((mV X.K H p ys ∧ ∀ l, H l = none → Q (.ref l) (ca H l (.tup ys))) ∨ (dF X.K H p ys ∧ Q (.ref p) H))) := by
  intro pins s σ H xs us Q I r h
  obtain ⟨p, ys, rfl, h⟩ := h
  obtain ⟨u, rfl, rx⟩ := gJ r
  cases rx
  rcases h with ⟨hq, q⟩ | ⟨hq, q⟩
  · obtain ⟨its, r', pl, hz⟩ := I.list hq
    have hlen := r'.length
    refine call_tuple_list pl.isList (fun h' kp => ?_) (by simp only [List.size_toArray] <;> omega)
    have I1 : aC X pins σ H { s with heap := h' } := I.kept (t' := s.toks) kp
    have I2 : aC X pins σ (ca H h'.objs.size (.tup ys)) { s with heap := h'.push { cls := .type "tuple", data := .seq its.toArray } } :=
      I1.laid (t' := s.toks) (fun b o e => Heap.get?_push_of_some _ e) (Nat.le_refl _) (show bF X.prog X.w _ _ _ (.tup ys) from ⟨hz, its, r', IsTup.new _ _⟩)
    exact ⟨.ref h'.objs.size, _, I2, rfl, q _ (I1.hok.fresh (Nat.le_refl _))⟩
  · obtain ⟨its, r', pl, hz⟩ := I.tuple hq
    exact call_tuple_same pl ⟨.ref p, H, I, rfl, q⟩
def CQ (K : PySem.W.Frag) (T : String) (x : V) (H : Hp) : Prop := match x with
  | .str _ => T = "str"
  | .int _ => T = "int"
  | .ref p => (T = "list" ∧ ∃ xs, mV K H p xs) ∨ (T = "tuple" ∧ ∃ o, K.lookup p = some o ∧ o.cls = .type "tuple" ∧ o.dict = none) ∨
      (T = "dict" ∧ ((∃ kvs, H p = some (.dK kvs)) ∨ ∃ kvs, H p = some (.dT kvs))) ∨ (T = "set" ∧ ∃ S n, H p = some (.set S n))
  | _ => False
theorem Ad {pins : List (Addr × Obj)} {σ : St} {H : Hp} {s : Shared} {T : String} {x : V} {v : Value} (I : aC X pins σ H s) (r : bi x v) (ty : CQ X.K T x H) :
    s.TypeIs v T ∧ ∀ a, v = .ref a → ∃ ob, s.heap.get? a = some ob ∧ ob.dict = none := by
  cases x with
  | str z =>
    obtain ⟨t, rfl⟩ := r
    cases (show T = "str" from ty)
    exact ⟨typeIs_str s z t, fun _ e => nomatch e⟩
  | int i =>
    obtain ⟨t, rfl⟩ := r
    cases (show T = "int" from ty)
    exact ⟨typeIs_int s i t, fun _ e => nomatch e⟩
  | ref p =>
    cases r
    rcases ty with ⟨rfl, xs, hq⟩ | ⟨rfl, o, hk, hc, hd⟩ | ⟨rfl, hk⟩ | ⟨rfl, S, n, hk⟩
    · obtain ⟨its, _, pl, _⟩ := I.list hq
      refine ⟨pl.isList.typeIs, fun a e => ?_⟩
      cases e
      obtain ⟨o, n, e, c, hd, _⟩ := pl
      exact ⟨o, e, hd⟩
    · refine ⟨⟨o, I.kIn p o hk, hc⟩, fun a e => ?_⟩
      cases e
      exact ⟨o, I.kIn _ o hk, hd⟩
    · have z : ∃ o, s.heap.get? p = some o ∧ o.ExactDict := by
        rcases hk with ⟨kvs, hk⟩ | ⟨kvs, hk⟩
        · obtain ⟨_, _, _, _, o, _, _, e, ex, _⟩ := I.hok p _ hk
          exact ⟨o, e, ex⟩
        · obtain ⟨_, _, _, _, o, _, _, e, ex, _⟩ := I.hok p _ hk
          exact ⟨o, e, ex⟩
      obtain ⟨o, e, ex⟩ := z
      refine ⟨⟨o, e, ex.1⟩, fun a e2 => ?_⟩
      cases e2
      exact ⟨o, e, ex.2.1⟩
    · obtain ⟨o, _, _, _, e, ex, _⟩ := I.hok p _ hk
      refine ⟨⟨o, e, ex.1⟩, fun a e2 => ?_⟩
      cases e2
      exact ⟨o, e, ex.2.1⟩
  | _ => exact False.elim ty
def Dc (K : PySem.W.Frag) (T : String) (r : V → List V → Hp → VK → Prop) (to : TE) (t : TA) : TE := fun σ H Q => to σ H fun x H1 => CQ K T x H1 ∧ t σ H1 fun xs H2 => r x xs H2 Q
variable {o e : Expr} {es : List Expr} {to : TE} {t : TA} {name : Str} {apos cpos : Pos} {T id : String} {r : V → List V → Hp → VK → Prop}
theorem Bk (pa : PlainAttrs T) (slot : Slot T name id) (hty : typeOf (.builtin id) = pure (.type "method_descriptor")) (hm : Dh X id r) (ho : PE X o to) (ha : PA X (e :: es) t)
    (hbase : attributeBase o name X.env (eval o X.env) = eval o X.env := by rfl)
    (hfew : ((backTo cpos (starEach (e :: es) X.env)).all (fun x => !x.1) && (backToKw cpos (keywordEach [] X.env)).all (fun x => x.1.isSome)
      && decide ((e :: es).length + ([] : List Keyword).length + (if ([] : List Keyword).isEmpty then 0 else 1) < 30)) = true := by rfl)
    (hline : (apos.endLine == cpos.line) = true := by rfl) (hs : starEach (e :: es) X.env = (false, eval e X.env) :: starEach es X.env := by rfl) (hplain : (backTo cpos (starEach es X.env)).any (·.1) = false := by rfl) :
    PE X (.Call (.Attribute o name apos) (e :: es) [] cpos) (Dc X.K T r to t) := by
  intro pins s σ H Q I h
  refine wpAny_Call_method_late hbase hfew hline rfl (cO (ho pins s σ H _ I h) fun v s1 ⟨x, H1, I1, r1, ty, q1⟩ => ?_)
  obtain ⟨h1, h2⟩ := Ad I1 r1 ty
  refine ⟨T, id, pa, slot, hty, h1, h2, ?_⟩
  have hA := ha cpos pins s1 σ H1 _ I1 q1
  rw [hs] at hA ⊢
  refine Calls.callWith_builtin (by show (false || (backTo cpos (starEach es X.env)).any (·.1)) = false; rw [hplain] <;> rfl) (Calls.evalArgs_plain ?_)
  exact cO hA fun us s2 ⟨vs, H2, I2, r2, q2⟩ => hm pins s2 σ H2 x vs v us Q I2 r1 r2 q2
end
def De (X : Cx) (id : String) (r : V → List V → Hp → VK → Prop) : Prop :=
  ∀ (pins : List (Addr × Obj)) (s : Shared) (σ : St) (H : Hp) (x : V) (xs : List V) (v : Value) (us : List Value) (Q : VK), aC X pins σ H s → bi x v → bf xs us → r x xs H Q →
    wpAny (model X.prog X.w) X.A (call (.builtin id) (v :: us)) (EP X pins σ Q) X.xe s
theorem bf.one : ∀ {x : V} {us : List Value}, bf [x] us → ∃ u, us = [u] ∧ bi x u
  | _, _, .cons r .nil => ⟨_, rfl, r⟩
theorem bf.rep {xs : List V} {us : List Value} (h : bf xs us) : ∀ k : Nat, bf (List.replicate k xs).flatten (List.replicate k us).flatten
  | 0 => .nil
  | k + 1 => by
    rw [List.replicate_succ, List.replicate_succ, List.flatten_cons, List.flatten_cons]
    exact bf.append h (bf.rep h k)
theorem nS (its : List Value) : ∀ (k : Nat) (acc : List Value),
    List.foldl (fun x1 x2 => x1 ++ x2) acc.toArray (List.replicate k its.toArray) = (acc ++ (List.replicate k its).flatten).toArray
  | 0, acc => by simp
  | k + 1, acc => by
    have e : acc.toArray ++ its.toArray = (acc ++ its).toArray := by simp
    have e2 : (acc ++ its) ++ (List.replicate k its).flatten = acc ++ (List.replicate (k + 1) its).flatten := by
      rw [List.replicate_succ, List.flatten_cons, List.append_assoc]
    rw [← e2, ← nS its k (acc ++ its), ← e, List.replicate_succ, List.foldl_cons]
section
variable {X : Cx} {pins : List (Addr × Obj)} {σ : St} {H : Hp} {s : Shared} {l b : Addr} {xs ys zs : List V}
theorem aC.lset {its its' : List Value} {n : Nat} {f : Array Value → Array Value} {t' : Nat} (I : aC X pins σ H s) (hH : H l = some (.lst xs))
    (e : s.heap.get? l = some { cls := .type "list", data := .seq its.toArray n }) (hf : f its.toArray = its'.toArray) (hv : bf ys its') (hz : ys.length ≤ sizeLine) :
    aC X pins σ (ca H l (.lst ys)) { s with heap := s.heap.update l (Obj.mapSeq f), toks := t' } := by
  have q := PySem.IsL.update e f
  rw [hf] at q
  refine I.write (x := l) (e := l) (by rw [hH]; exact trivial) (.inl rfl) (fun b' u hb hu => (Heap.get?_update_other s.heap (Obj.mapSeq f) (Ne.symm hb)).trans hu) ⟨_, q⟩ ?_
  exact ⟨hz, its', _, hv, q⟩
theorem aC.lnew {its : List Value} {t' : Nat} (I : aC X pins σ H s) (hv : bf ys its) (hz : ys.length ≤ sizeLine) :
    aC X pins σ (ca H s.heap.objs.size (.lst ys)) { s with heap := s.heap.push { cls := .type "list", data := .seq its.toArray }, toks := t' } :=
  I.laid (fun _ _ q => Heap.get?_push_of_some _ q) (Nat.le_refl _) ⟨hz, its, 0, hv, Heap.get?_push_size _ rfl⟩
theorem aC.fresh (I : aC X pins σ H s) : H s.heap.objs.size = none := I.hok.fresh (Nat.le_refl _)
theorem aC.lstM (I : aC X pins σ H s) (hH : H l = some (.lst xs)) : xs.length ≤ sizeLine ∧ ∃ (its : List Value) (n : Nat), bf xs its ∧ xs.length = its.length ∧ s.heap.get? l = some { cls := .type "list", data := .seq its.toArray n } := by
  obtain ⟨z, its, n, r, e⟩ := I.hok l _ hH
  exact ⟨z, its, n, r, r.length, e⟩
end
section
variable {X : Cx}
def xw : V → List V → Hp → VK → Prop := fun x vs H Q => ∃ l xs y, x = .ref l ∧ vs = [y] ∧ H l = some (.lst xs) ∧ xs.length < sizeLine ∧ Q .non (ca H l (.lst (xs ++ [y])))
theorem n5 : De X "list.append" xw := by
  intro pins s σ H x vs v us Q I rx rv h
  obtain ⟨l, xs, y, rfl, rfl, hH, hz, q⟩ := h
  cases rx
  obtain ⟨u, rfl, ru⟩ := rv.one
  obtain ⟨z, its, n, r, hl, e⟩ := I.lstM hH
  refine call_meets F.slot_list_append ⟨_, e, rfl⟩ F.entry_list_append (F.args_list_append_2 _ _) (PySem.list_append l its.toArray n u (by rw [List.size_toArray]; omega)) ⟨e, ?_⟩
  refine ⟨.non, _, I.lset (its' := its ++ [u]) hH e (by simp) (r.append (.cons ru .nil)) ?_, rfl, q⟩
  rw [List.length_append, List.length_singleton]
  omega
theorem sN {α : Type} (xs : List α) (k : Nat) : (List.replicate k xs).flatten.length = k * xs.length := by
  induction k with
  | zero => simp
  | succ k ih => rw [List.replicate_succ, List.flatten_cons, List.length_append, ih, Nat.succ_mul, Nat.add_comm]
end
end L2
namespace Att
open PySem PySem.W PySem.Calls PyProof.Rows
theorem lu {P : Params} {h : Heap} : ∀ (ns : List Int) (vs : List Value), WellAll P h vs (ns.map WData.int) → IntsAre vs ns := by
  intro ns
  induction ns with
  | nil =>
    intro vs w
    rw [List.map_nil] at w
    cases w
    exact .nil
  | cons n ns ih =>
    intro vs w
    rw [List.map_cons] at w
    cases w with
    | cons a b =>
      cases a
      exact .cons _ _ (ih _ b)
theorem uW {l : OpenLaw} {n : Nat} (hn : l.most = some n) {P : Params} {h : Heap} {args : List WData} {vals : List Value}
    (hpre : l.row.toRowW.claim.pre args = true) (hwl : WellAll P h vals args) :
    ∃ a vs ns, vals = [Value.ref a] ∧ args = [WData.list (ns.map WData.int)] ∧ h.get? a = some { cls := .type "list", data := .seq vs.toArray } ∧ IntsAre vs ns ∧ ns.length ≤ n := by
  have hsh : WShape.hasAll [] args [.list .int] = true := (pre_splitW hpre).1
  have hc : l.pre.holds [] { args := args } = true := (pre_splitW hpre).2
  obtain ⟨d, r, rfl, h1, h2⟩ := hasAllW_cons hsh
  obtain rfl := hasAllW_nil h2
  obtain ⟨xs, rfl, h3⟩ := hasW_list h1
  obtain ⟨ns, rfl⟩ := items_int h3
  have hlen : ns.length ≤ n := by
    unfold OpenLaw.pre at hc
    have h4 : (WTm.not (.lt (.lit (.int (n : Int))) (.len (.arg 0)))).holds [] { args := [.list (ns.map .int)] } = true := by
      have h4 := (holds_andW hc).1
      rw [hn] at h4
      exact h4
    have h5 := condW_of h4 (w_not (w_lt w_lit (w_len_list (w_arg rfl))))
    rw [List.length_map] at h5
    refine Nat.le_of_not_lt fun q => ?_
    have q' : (n : Int) < ((ns.length : Nat) : Int) := by omega
    first
      | (rw [decide_eq_true q'] at h5; exact absurd h5 (by decide))
      | (simp at h5; omega)
  cases hwl with
  | cons w1 w2 =>
    cases w2
    cases w1 with
    | list ho hall => exact ⟨_, _, ns, rfl, rfl, ho, lu ns _ hall, hlen⟩
theorem uO (l : OpenLaw) (args : List WData) : l.row.toRowW.claim.post args (.bool true) args = true :=
  postW_of (r := l.row.toRowW) (X := (true == true))
    (show WShape.has [] (.bool true) .bool = true by first | rfl | decide | simp [WShape.has, WShape.arms, WShape.armsAll])
    (show (WTm.eq .res (.lit (.bool true))).value [] { args := args, res := some (.bool true), after := args } = some (.bool (true == true)) from w_eq_bool (w_res rfl) w_lit) rfl
theorem attach_call {l : OpenLaw} {n : Nat} {q : Program} {loose : List Str} {XP : (Str → Option Value) → Heap → Prop} {YP : World → Heap → Prop} {d : DefRec}
    (hn : l.most = some n) (hdf : d.params.defaults = [])
    (call : ∀ (w : World) (s₀ s₁ : Shared) (mg mb : Str → Option Value) (fa : Addr) (o : Obj) (pm cd doc : Value) (a : Addr) (vs : List Value) (ns : List Int),
      Ground q loose [] XP w s₀ mg mb s₁.heap → YP w s₁.heap →
      s₁.heap.get? fa = some o → o.data = .func (docDef d.name d.params d.body d.scope pm cd doc) → s₁.heap.CodeRec cd d.name → mg d.name = some (.ref fa) →
      s₁.heap.get? a = some { cls := .type "list", data := .seq vs.toArray } → IntsAre vs ns → ns.length ≤ n → s₁.gens = #[] →
      codeAny (model l.prog w) callerA (.call (.ref fa) ⟨[.ref a], []⟩) (fun r s' => r = .ok (.ret (.bool true)) ∧ OldK s₁.heap s'.heap ∧ s'.os = s₁.os ∧ AllBare s'.gens) s₁) :
    WalkO q loose XP YP l.row.toRowW d [] (fun f vs => PySem.call f vs) := by
  intro w s₀ s₁ mg mb G Y fa o pm cd doc dV kV ho hd hcd hD hmg hg args vals as hpre hlay hrd hwl hlo
  obtain rfl : dV = .none := Dflts.none hD hdf
  obtain rfl : kV = .none := Dflts.noKw hD
  obtain ⟨a, vs, ns, rfl, rfl, hobj, hints, hlen⟩ := uW hn hpre hwl
  refine enter_call (codeAny_mono (call w s₀ s₁ mg mb fa o pm cd doc a vs ns G Y ho (fd_plain hd) hcd hmg hobj hints hlen hg) fun r s' hq => ?_)
  obtain ⟨rfl, h2, h3, h4⟩ := hq
  exact ⟨.inl ⟨.bool true, .bool true, [], rfl, fun _ => rfl, .bool true, uO l _, fun _ => ⟨List.Pairwise.nil, fun _ hm => (nomatch hm)⟩⟩, h2, h3, h4⟩
end Att
namespace L2
open PySem PySem.Spec PyProof.Rows
theorem ja : ∀ {vs : List Value} {ns : List Int}, IntsAre vs ns → bf (ns.map V.int) vs
  | _, _, .nil => .nil
  | _, _, .cons n t h => .cons ⟨t, rfl⟩ (ja h)
def AO (H : Hp) : Prop := ∀ b, H b = none ∨ ∃ o xs, H b = some (.frz o (.lst xs))
theorem v7 {P : Program} {w : World} {K : PySem.W.Frag} {mg mb : Str → Option Value} {CX : vh} {k : Nat} {fa a : Addr} {fd : FuncData} {x : Str} {sp : Sp} {s₁ : Shared} {vs : List Value} {ns : List Int}
    (KX : K.In s₁.heap) (hns : s₁.heap.Ns mainGlobals mg) (hb : s₁.heap.Ns builtinsNs mb) (hbb : ∀ x : Str, x ≠ "__name__" → mb x = bootBuiltins x) (hlim : s₁.heap.NoLimit) (hg : s₁.gens = #[])
    (ha : s₁.heap.get? a = some { cls := .type "list", data := .seq vs.toArray }) (hi : IntsAre vs ns) (hl : ns.length ≤ sizeLine) (hr : dJ k callerA)
    (F : ∀ base : Heap, K.In base → base.Ns mainGlobals mg → aX P w K mg base CX k fa fd [x] sp) (hbind : ∀ (s : Shared) (u : Value), BindsTo s fd ⟨[u], []⟩ [(x, u)])
    (hsp : ∀ H : Hp, AO H → mV K H a (ns.map V.int) → sp [.ref a] H (fun v _ => v = .bl true) fun _ _ _ => False)
    (hCX : ∀ H e s', CX [] H s₁ (fun _ _ _ => False) e s' → False) :
    codeAny (model P w) callerA (.call (.ref fa) ⟨[.ref a], []⟩) (fun r s' => r = .ok (.ret (.bool true)) ∧ OldK s₁.heap s'.heap ∧ s'.os = s₁.os ∧ AllBare s'.gens) s₁ := by
  have rv := ja hi
  have lenV := hi.length
  -- from an abstract heap in which nothing but the script may be tracked
  have core : ∀ H : Hp, AO H → mV K H a (ns.map V.int) → ji P w H s₁.heap → (∀ b, H b ≠ none → b = a) → (H a ≠ none → K.lookup a = none) →
      codeAny (model P w) callerA (.call (.ref fa) ⟨[.ref a], []⟩) (fun r s' => r = .ok (.ret (.bool true)) ∧ OldK s₁.heap s'.heap ∧ s'.os = s₁.os ∧ AllBare s'.gens) s₁ := by
    intro H hO hS hok hA hK
    have base_of : ∀ {b : Addr} {o : Obj}, s₁.heap.get? b = some o → H b = none → (oW s₁.heap H).get? b = some o := fun e n => wr e n
    have noA : ∀ {b : Addr} {o : Obj} {es : Array DictEntry} {ep : Nat}, s₁.heap.get? b = some o → o.data = .dict es ep → H b = none := fun {b o es ep} e d => by
      cases q : H b with
      | none => rfl
      | some u =>
        have e' : b = a := hA b (by rw [q]; simp)
        subst e'
        rw [ha] at e; cases e
        have d' : Data.seq vs.toArray _ = Data.dict es ep := d
        cases d'
    have nsK : ∀ {b : Addr} {m : Str → Option Value}, s₁.heap.Ns b m → (oW s₁.heap H).Ns b m := fun {b m} ⟨o, es, ep, e, d, r⟩ => ⟨o, es, ep, base_of e (noA e d), d, r⟩
    have hKb : K.In (oW s₁.heap H) := fun b o e => base_of (KX b o e) (by
      cases q : H b with
      | none => rfl
      | some u =>
        have e' : b = a := hA b (by rw [q]; simp)
        subst e'
        rw [hK (by rw [q]; simp)] at e; cases e)
    have hM : Mod K mg (oW s₁.heap H) := ⟨hKb, nsK hns, ⟨mb, nsK hb, hbb⟩, let ⟨mc, h1, h2⟩ := hlim; ⟨mc, nsK h1, h2⟩⟩
    have e0 : rH P w K mg (oW s₁.heap H) callerA [] s₁ H := ⟨rfl, hM, fun b o e => x6 e, Nat.le_of_eq (u8 _ _), trivial, fun b hb => absurd (show b ∈ ([] : List Addr) from hb) (by simp), hok, .of_eq hg⟩
    refine codeAny_mono ((F _ hKb (nsK hns)).run callerA [] s₁ H ⟨[.ref a], []⟩ [.ref a] [.ref a] _ _ hr e0 (hbind s₁ (.ref a)) (.cons rfl .nil) (hsp H hO hS)) fun r s' h => ?_
    cases r with
    | error e => exact (hCX H e s' h).elim
    | ok fl =>
      cases fl with
      | next => exact False.elim h
      | brk => exact False.elim h
      | cont => exact False.elim h
      | ret u =>
        obtain ⟨v, H', os, bare, un, hok', r', q⟩ := h
        have q' : v = .bl true := q
        subst q'
        obtain rfl : u = Value.bool true := r'
        refine ⟨rfl, OldK.of_keep fun b o e => ?_, os, bare⟩
        cases q : H b with
        | none => exact un.keep b o e q (by intro z; exact absurd (show b ∈ ([] : List Addr) from z) (by simp)) (by simp)
        | some u =>
          rcases hO b with z | ⟨ob, xs, z⟩
          · rw [q] at z; cases z
          · have z2 := un.frzs b ob _ z
            obtain ⟨e1, _⟩ := hok b _ z
            obtain ⟨e2, _⟩ := hok' b _ z2
            rw [e] at e1; cases e1
            exact e2
  cases hk : K.lookup a with
  | some o =>
    -- the script is one of the module's own objects
    have e := KX a o hk
    rw [ha] at e
    cases e
    refine core (fun _ => none) (fun _ => .inl rfl) (.inr ⟨_, vs.toArray, _, hk, rfl, rfl, rfl, by rw [List.size_toArray, lenV]; exact hl, by simpa using rv⟩) (fun b u z => by have z' : (none : Option HO) = some u := z; cases z') (fun b z => absurd rfl z) fun z => absurd rfl z
  | none =>
    refine core (fun b => if b = a then some (.frz { cls := .type "list", data := .seq vs.toArray } (.lst (ns.map V.int))) else none) (fun b => ?_) (.inl (.inr ⟨{ cls := .type "list", data := .seq vs.toArray }, if_pos rfl⟩)) (fun b u z => ?_) (fun b z => ?_) fun _ => hk
    · by_cases hb : b = a
      · exact .inr ⟨_, _, if_pos hb⟩
      · exact .inl (if_neg hb)
    · by_cases hb : b = a
      · have z' := (if_pos hb).symm.trans z
        cases z'
        subst hb
        exact ⟨ha, by rw [List.length_map]; exact hl, vs, _, rv, ha⟩
      · have z' := (if_neg hb).symm.trans z
        cases z'
    · by_cases hb : b = a
      · exact hb
      · exact absurd (if_neg hb) z
def yC (s : Stmt) (j : Nat) : Stmt := match s with
  | .ClassDef _ _ _ body _ _ _ _ _ _ _ => body.getD j (.Pass ⟨0, 0, 0, 0⟩)
  | _ => .Pass ⟨0, 0, 0, 0⟩
def fH (s : Stmt) : Arguments := match s with
  | .FunctionDef _ a _ _ _ _ _ _ _ _ => a
  | _ => { posonlyargs := [], args := [], vararg := none, kwonlyargs := [], kw_defaults := [], kwarg := none, defaults := [] }
def dj (s : Stmt) : List Stmt := match s with
  | .FunctionDef _ _ b _ _ _ _ _ _ _ => b
  | _ => []
def ah (s : Stmt) : Scope := match s with
  | .FunctionDef _ _ _ _ _ _ sc _ _ _ => sc
  | _ => { kind := .function, names := [], isGenerator := false, isCoroutine := false }
abbrev CN : vh := fun _ _ _ _ _ _ => False
structure ie (K : PySem.W.Frag) (x qual : Str) (st : Stmt) (f : Addr) (fd : FuncData) : Prop where
  ex : ∃ (oc : Value) (od : Option Addr) (kV doc pm : Value) (an : Option Addr) (cdv ct : Value) (osl : Array (Option Value)),
    fd = PySem.W.fnOf x qual (fH st) (dj st) (ah st) .none kV doc pm an cdv ct ∧ K.lookup f = some ⟨oc, od, .func fd, osl⟩ ∧ PySem.W.codeIn K cdv qual = true
  kp : PySem.W.keepIn K (.ref f) = true
section
variable {P : Program} {w : World} {K : PySem.W.Frag} {mg : Str → Option Value} {base : Heap}
theorem ie.ok {x qual : Str} {st : Stmt} {f : Addr} {fd : FuncData} {N ps : List Str} {k : Nat} {sp : Sp} (F : ie K x qual st f fd) (S : aT N ps (ah st)) (len : ∀ vs H Q E, sp vs H Q E → vs.length = ps.length)
    (hbody : ∀ (cdv : Value) (A : Around) (outer : List Env) (s : Shared) (H : Hp) (vs : List V) (Q : VK) (E : XK), dJ k (A.deeper (envOfC qual (ah st) s.heap.objs.size f cdv)) → sp vs H Q E →
      ∃ t, pr (eU CN P w K mg base N qual (ah st) f cdv A outer s H E).nox (dj st) t ∧ t { nx := fun _ H' => Q .non H', rt := Q } (ik N vs) H) : aX P w K mg base CN (k + 1) f fd ps sp := by
  obtain ⟨oc, od, kV, doc, pm, an, cdv, ct, osl, rfl, lk, hcd⟩ := F.ex
  refine v8 lk hcd S len fun A outer s H vs Q E hr hsp => ?_
  obtain ⟨t, h, q⟩ := hbody cdv A outer s H vs Q E hr hsp
  exact ⟨t, h.nox, q⟩
theorem ie.binds {x qual : Str} {st : Stmt} {f : Addr} {fd : FuncData} {ps : List Str} (F : ie K x qual st f fd)
    (h : ∀ (kV doc pm : Value) (an : Option Addr) (cdv ct : Value) (us : List Value), us.length = ps.length → bindArgs (PySem.W.fnOf x qual (fH st) (dj st) (ah st) .none kV doc pm an cdv ct) ⟨us, []⟩ = pure (ps.zip us)) : ig K fd ps [] := by
  obtain ⟨oc, od, kV, doc, pm, an, cdv, ct, osl, rfl, lk, hcd⟩ := F.ex
  exact .all (h kV doc pm an cdv ct)
theorem sv {x qual : Str} {st : Stmt} {f : Addr} {oc : Value} {od an : Option Addr} {osl : Array (Option Value)} {kV doc pm cdv ct : Value} (l : K.lookup f = some ⟨oc, od, .func (PySem.W.fnOf x qual (fH st) (dj st) (ah st) .none kV doc pm an cdv ct), osl⟩)
    (c : PySem.W.codeIn K cdv qual = true) (k : PySem.W.keepIn K (.ref f) = true) : ie K x qual st f (PySem.W.fnOf x qual (fH st) (dj st) (ah st) .none kV doc pm an cdv ct) := ⟨⟨oc, od, kV, doc, pm, an, cdv, ct, osl, rfl, l, c⟩, k⟩
end
section
variable {X : Cx}
theorem pv (i : Nat) {x : Str} {pos : Pos} (hN : X.N[i]? = some x := by rfl) (hv : Ay X.env.scope x := by first | exact Or.inl rfl | exact Or.inr (Or.inl rfl) | exact Or.inr (Or.inr rfl)) (hd : (x == ("__debug__" : Str)) = false := by decide)
    (hcd : (x == ("__classdict__" : Str)) = false := by decide) : PE X (.Name x pos) (A6 i) := iP hN hv hd hcd
end
def aB (H H' : Hp) : Prop := ∀ b o, H b = some o → H' b = some o
theorem aB.refl (H : Hp) : aB H H := fun _ _ h => h
theorem aB.trans {H H1 H2 : Hp} (a : aB H H1) (b : aB H1 H2) : aB H H2 := fun c o h => b c o (a c o h)
theorem aB.free {H H' : Hp} (e : aB H H') {l : Addr} (h : H' l = Option.none) : H l = Option.none := by
  cases q : H l with
  | none => rfl
  | some o =>
    rw [e l o q] at h
    cases h
section
variable {κ : Type} [DecidableEq κ]
def jt (kvs : List (κ × V)) (k : κ) : Option V := (kvs.find? fun kv => decide (kv.1 = k)).map (·.2)
def kj (kvs : List (κ × V)) (k : κ) (v : V) : List (κ × V) :=
  if (kvs.any fun kv => decide (kv.1 = k)) = true then kvs.map (fun kv => if kv.1 = k then (kv.1, v) else kv) else kvs ++ [(k, v)]
theorem lQ {p : κ × V} {r : List (κ × V)} {k : κ} (e : p.1 = k) : jt (p :: r) k = some p.2 := by simp [jt, List.find?_cons, e]
theorem mh {p : κ × V} {r : List (κ × V)} {k : κ} (e : ¬ p.1 = k) : jt (p :: r) k = jt r k := by simp [jt, List.find?_cons, e]
theorem qx (k : κ) : ∀ kvs : List (κ × V), (kvs.any fun kv => decide (kv.1 = k)) = (jt kvs k).isSome
  | [] => rfl
  | p :: r => by
    rw [List.any_cons]
    by_cases e : p.1 = k
    · simp only [lQ e, decide_eq_true e, Bool.true_or, Option.isSome_some]
    · rw [mh e, decide_eq_false e, Bool.false_or]; exact qx k r
theorem k4 (kvs : List (κ × V)) (k : κ) (v : V) : (kj kvs k v).length ≤ kvs.length + 1 := by
  unfold kj
  split
  · rw [List.length_map]; omega
  · rw [List.length_append, List.length_cons, List.length_nil]; omega
theorem kS.isSome_eq {o : Option V} {u : Option Value} (r : kS o u) : o.isSome = u.isSome := by
  cases o with
  | none => cases u with
    | none => rfl
    | some _ => exact (show False from r).elim
  | some _ => cases u with
    | none => exact (show False from r).elim
    | some _ => rfl
theorem KV.val {kvs : List (κ × V)} {vs : List (κ × Value)} (r : KV kvs vs) (k : κ) : kS (jt kvs k) (valueAt vs k) := by
  unfold KV at r
  induction r with
  | nil => exact True.intro
  | @cons p q ps qs h t ih =>
    obtain ⟨h1, h2⟩ := h
    by_cases e : p.1 = k
    · have e' : q.1 = k := h1.symm.trans e
      have b : valueAt (q :: qs) k = some q.2 := by simp [valueAt, List.find?_cons, e']
      rw [lQ e, b]; exact h2
    · have e' : ¬ q.1 = k := fun z => e (h1.trans z)
      have b : valueAt (q :: qs) k = valueAt qs k := by simp [valueAt, List.find?_cons, e']
      rw [mh e, b]; exact ih
theorem KV.any {kvs : List (κ × V)} {vs : List (κ × Value)} (r : KV kvs vs) (k : κ) : (kvs.any fun kv => decide (kv.1 = k)) = vs.any fun kv => decide (kv.1 = k) := by
  unfold KV at r
  induction r with
  | nil => rfl
  | cons h t ih => rw [List.any_cons, List.any_cons, ih, h.1]
theorem KV.repl {kvs : List (κ × V)} {vs : List (κ × Value)} (r : KV kvs vs) (k : κ) {y : V} {u : Value} (ry : bi y u) :
    KV (kvs.map fun kv => if kv.1 = k then (kv.1, y) else kv) (vs.map fun kv => if kv.1 = k then (kv.1, u) else kv) := by
  unfold KV at r ⊢
  induction r with
  | nil => exact .nil
  | @cons p q ps qs h t ih =>
    rw [List.map_cons, List.map_cons]
    refine .cons ?_ ih
    obtain ⟨h1, h2⟩ := h
    by_cases e : p.1 = k
    · rw [if_pos e, if_pos (h1.symm.trans e)]; exact ⟨h1, ry⟩
    · rw [if_neg e, if_neg (fun z => e (h1.trans z))]; exact ⟨h1, h2⟩
theorem KV.put {kvs : List (κ × V)} {vs : List (κ × Value)} (r : KV kvs vs) (k : κ) {y : V} {u : Value} (ry : bi y u) : KV (kj kvs k y) (stored vs k u) := by
  unfold kj stored
  rw [r.any k]
  by_cases e : (vs.any fun kv => decide (kv.1 = k)) = true
  · rw [if_pos e, if_pos e]; exact r.repl k ry
  · rw [if_neg e, if_neg e]; exact Paired.snoc r ⟨rfl, ry⟩
theorem KV.keys {kvs : List (κ × V)} {vs : List (κ × Value)} (r : KV kvs vs) : kvs.map (·.1) = vs.map (·.1) := by
  unfold KV at r
  induction r with
  | nil => rfl
  | cons h t ih => rw [List.map_cons, List.map_cons, ih, h.1]
theorem KV.length {kvs : List (κ × V)} {vs : List (κ × Value)} (r : KV kvs vs) : kvs.length = vs.length := Paired.length r
end
theorem pP {P : Program} {w : World} {k : cH} {u : Value} (r : bi (kV k) u) : (cL P w).is k u = true := by
  cases k with
  | inl i => obtain ⟨t, e⟩ := (show ∃ t, u = Value.int i t from r); subst e; exact qr P w i t
  | inr x => obtain ⟨t, e⟩ := (show ∃ t, u = Value.str x t from r); subst e; exact pU P w x t
theorem nV {P : Program} {w : World} : ∀ {ks : List cH} {us : List Value}, bf (ks.map kV) us → ItemsAre (cL P w) ks us
  | [], _, r => by rw [List.map_nil] at r; cases r; exact .nil
  | k :: ks, _, r => by
    rw [List.map_cons] at r
    cases r with
    | cons h t => exact .cons (pP h) (nV t)
abbrev KT (H : Hp) : List (List cH × V) → List (List cH × Addr × Value) → Prop := Paired fun p q => p.1 = q.1 ∧ H q.2.1 = some (.tup (p.1.map kV)) ∧ bi p.2 q.2.2
theorem KT.val {H : Hp} {kvs : List (List cH × V)} {xs : List (List cH × Addr × Value)} (r : KT H kvs xs) (k : List cH) : kS (jt kvs k) ((atKey xs k).map (·.2)) := by
  induction r with
  | nil => exact True.intro
  | @cons p q ps qs h t ih =>
    obtain ⟨h1, _, h2⟩ := h
    by_cases e : p.1 = k
    · have e' : q.1 = k := h1.symm.trans e
      have b : atKey (q :: qs) k = some q.2 := by simp [atKey, List.find?_cons, e']
      rw [lQ e, b]; exact h2
    · have e' : ¬ q.1 = k := fun z => e (h1.trans z)
      have b : atKey (q :: qs) k = atKey qs k := by simp [atKey, List.find?_cons, e']
      rw [mh e, b]; exact ih
theorem KT.repl {H : Hp} {kvs : List (List cH × V)} {xs : List (List cH × Addr × Value)} (r : KT H kvs xs) (k : List cH) {y : V} {u : Value} (ry : bi y u) :
    KT H (kvs.map fun kv => if kv.1 = k then (kv.1, y) else kv) (xs.map (putAt k u)) := by
  induction r with
  | nil => exact .nil
  | @cons p q ps qs h t ih =>
    rw [List.map_cons, List.map_cons]
    refine .cons ?_ ih
    obtain ⟨h1, h2, h3⟩ := h
    unfold putAt
    by_cases e : p.1 = k
    · rw [if_pos e, if_pos (h1.symm.trans e)]; exact ⟨h1, h2, ry⟩
    · rw [if_neg e, if_neg (fun z => e (h1.trans z))]; exact ⟨h1, h2, h3⟩
theorem KT.put {H : Hp} {kvs : List (List cH × V)} {xs : List (List cH × Addr × Value)} (r : KT H kvs xs) (k : List cH) {b : Addr} {y : V} {u : Value} (hb : H b = some (.tup (k.map kV))) (ry : bi y u) :
    KT H (kj kvs k y) (storedH xs k b u) := by
  have e : (kvs.any fun kv => decide (kv.1 = k)) = (atKey xs k).isSome := by
    rw [qx, (r.val k).isSome_eq, Option.isSome_map]
  unfold kj storedH
  rw [e]
  by_cases q : (atKey xs k).isSome = true
  · rw [if_pos q, if_pos q]; exact r.repl k ry
  · rw [if_neg q, if_neg q]; exact Paired.snoc r ⟨rfl, hb, ry⟩
theorem KT.keeps {H H' : Hp} {kvs : List (List cH × V)} {xs : List (List cH × Addr × Value)} (r : KT H kvs xs) (ht : ∀ b ys, H b = some (.tup ys) → H' b = some (.tup ys)) : KT H' kvs xs :=
  Paired.mapP r fun _ _ z => ⟨z.1, ht _ _ z.2.1, z.2.2⟩
section
variable {P : Program} {w : World} {H : Hp} {h : Heap} {a : Addr}
theorem zd {u : HO} (ok : ji P w H h) (e : Rd H a u) : bF P w H h a u := e.ok ok
theorem l8 {kvs : List (cH × V)} (ok : ji P w H h) (e : Rd H a (.dK kvs)) : kvs.length ≤ sizeLine ∧ (a == sysModules) = false ∧ ∃ vs, KV kvs vs ∧ h.DictOf (cL P w) a vs :=
  show bF P w H h a (.dK kvs) from zd ok e
theorem Bd {kvs : List (cH × V)} (ok : ji P w H h) (e : H a = some (.dK kvs)) : kvs.length ≤ sizeLine ∧ (a == sysModules) = false ∧ ∃ vs, KV kvs vs ∧ h.DictOf (cL P w) a vs := l8 ok (.inl e)
theorem mT {ks : List cH} (ok : ji P w H h) (e : H a = some (.tup (ks.map kV))) : (tupleKind (cL P w)).is h ks a := by
  obtain ⟨_, its, r, o, h1, h2, n, h3⟩ := (show bF P w H h a (.tup (ks.map kV)) from ok a _ e)
  exact ⟨o, its.toArray, n, h1, h2, h3, by simpa using nV r⟩
theorem pR {kvs : List (List cH × V)} (ok : ji P w H h) (e : Rd H a (.dT kvs)) : kvs.length ≤ sizeLine ∧ (a == sysModules) = false ∧
    ∃ xs, KT H kvs xs ∧ h.DictOfH (tupleKind (cL P w)) a xs := by
  obtain ⟨z, y, xs, r, o, es, ep, h1, h2, h3, h4, h5⟩ := (show bF P w H h a (.dT kvs) from zd ok e)
  refine ⟨z, y, xs, r, o, es, ep, h1, h2, h3, h4, fun x hx => ?_, h5⟩
  have all : ∀ {l : List (List cH × V)} {m : List (List cH × Addr × Value)}, KT H l m → ∀ x ∈ m, (tupleKind (cL P w)).is h x.1 x.2.1 := by
    intro l m q
    induction q with
    | nil => intro x hx; exact nomatch hx
    | @cons p q ps qs hq t ih =>
      intro x hx
      rcases List.mem_cons.mp hx with e | hx
      · subst e
        exact mT ok (by rw [← hq.1]; exact hq.2.1)
      · exact ih x hx
  exact all r x hx
theorem Bn {kvs : List (List cH × V)} (ok : ji P w H h) (e : H a = some (.dT kvs)) : kvs.length ≤ sizeLine ∧ (a == sysModules) = false ∧
    ∃ xs, KT H kvs xs ∧ h.DictOfH (tupleKind (cL P w)) a xs := pR ok (.inl e)
end
def mf (H : Hp) (a : Addr) (y : V) (r : Option V) : Prop :=
  (∃ kvs k, Rd H a (.dK kvs) ∧ y = kV k ∧ r = jt kvs k) ∨ ∃ kvs k b, Rd H a (.dT kvs) ∧ y = .ref b ∧ H b = some (.tup (k.map kV)) ∧ r = jt kvs k
def rl (H : Hp) (a : Addr) (y v : V) (H' : Hp) : Prop :=
  (∃ kvs k, H a = some (.dK kvs) ∧ y = kV k ∧ kvs.length < sizeLine ∧ H' = ca H a (.dK (kj kvs k v))) ∨
  ∃ kvs k b, H a = some (.dT kvs) ∧ y = .ref b ∧ H b = some (.tup (k.map kV)) ∧ kvs.length < sizeLine ∧ H' = ca H a (.dT (kj kvs k v))
theorem mf.k {H : Hp} {a : Addr} {kvs : List (cH × V)} {k : cH} (e : H a = some (.dK kvs)) : mf H a (kV k) (jt kvs k) := .inl ⟨kvs, k, .inl e, rfl, rfl⟩
theorem mf.t {H : Hp} {a b : Addr} {kvs : List (List cH × V)} {k : List cH} (e : H a = some (.dT kvs)) (eb : H b = some (.tup (k.map kV))) : mf H a (.ref b) (jt kvs k) := .inr ⟨kvs, k, b, .inl e, rfl, eb, rfl⟩
theorem rl.k {H : Hp} {a : Addr} {kvs : List (cH × V)} {k : cH} {v : V} (e : H a = some (.dK kvs)) (hl : kvs.length < sizeLine) : rl H a (kV k) v (ca H a (.dK (kj kvs k v))) := .inl ⟨kvs, k, e, rfl, hl, rfl⟩
theorem rl.t {H : Hp} {a b : Addr} {kvs : List (List cH × V)} {k : List cH} {v : V} (e : H a = some (.dT kvs)) (eb : H b = some (.tup (k.map kV))) (hl : kvs.length < sizeLine) :
    rl H a (.ref b) v (ca H a (.dT (kj kvs k v))) := .inr ⟨kvs, k, b, e, rfl, eb, hl, rfl⟩
section
variable {X : Cx} {pins : List (Addr × Obj)} {σ : St} {H : Hp} {s : Shared} {a : Addr} {y v : V} {u r : Value} {o : Option V} {A : Around} {E : Value → Shared → Prop}
theorem aC.big (I : aC X pins σ H s) : sysModules < s.heap.objs.size := by
  have h : mainGlobals < s.heap.objs.size := (I.mod.glob.keeps I.bk).lt
  exact Nat.lt_trans (by decide) h
theorem uP {Q : Value → Shared → Prop} (hu : A.units + 1 < cLine) (I : aC X pins σ H s) (g : mf H a y (some v)) (ry : bi y u) (h : ∀ w' s', aC X pins σ H s' → bi v w' → Q w' s') :
    wpAny (model X.prog X.w) A (getItem (.ref a) u) Q E s := by
  rcases g with ⟨kvs, k, e, ey, l⟩ | ⟨kvs, k, b, e, ey, eb, l⟩
  · subst ey
    obtain ⟨z, hd, vs, rel, dd⟩ := l8 I.hok e
    obtain ⟨w', hw, rw'⟩ := kS.some_of (v := v) (o := valueAt vs k) (by rw [l]; exact rel.val k)
    exact wpAny_getItem_of (pP ry) dd.mapOf hw (h w' _ (I.tok _) rw')
  · subst ey
    cases (show u = Value.ref b from ry)
    obtain ⟨z, hd, xs, rel, dd⟩ := pR I.hok e
    obtain ⟨w', hw, rw'⟩ := kS.some_of (v := v) (o := (atKey xs k).map (·.2)) (by rw [l]; exact rel.val k)
    obtain ⟨p, hp, hp2⟩ := Option.map_eq_some_iff.mp hw
    refine wpAny_getItem_heap (tupleKind_room_in1 hu) (mT I.hok eb) dd hp ?_
    rw [hp2]
    exact h w' _ (I.tok _) rw'
theorem B8 {Q : Value → Shared → Prop} (hu : A.units + 1 < cLine) (I : aC X pins σ H s) (g : mf H a y o) (ry : bi y u) (h : ∀ s', aC X pins σ H s' → Q (.bool o.isSome) s') :
    wpAny (model X.prog X.w) A (compareOp .In u (.ref a)) Q E s := by
  rcases g with ⟨kvs, k, e, ey, l⟩ | ⟨kvs, k, b, e, ey, eb, l⟩
  · subst ey
    obtain ⟨z, hd, vs, rel, dd⟩ := l8 I.hok e
    refine wpAny_in_of (pP ry) hd dd.mapOf ?_
    rw [← (rel.val k).isSome_eq, ← l]
    exact h _ (I.tok _)
  · subst ey
    cases (show u = Value.ref b from ry)
    obtain ⟨z, hd, xs, rel, dd⟩ := pR I.hok e
    refine wpAny_in_heap (tupleKind_room_in1 hu) (mT I.hok eb) hd dd ?_
    have q := (rel.val k).isSome_eq
    rw [Option.isSome_map] at q
    rw [← q, ← l]
    exact h _ (I.tok _)
theorem yH {Q : Value → Shared → Prop} (hu : A.units + 1 < cLine) (I : aC X pins σ H s) (g : mf H a y o) (ry : bi y u) (h : ∀ s', aC X pins σ H s' → Q (.bool (!o.isSome)) s') :
    wpAny (model X.prog X.w) A (compareOp .NotIn u (.ref a)) Q E s := by
  rcases g with ⟨kvs, k, e, ey, l⟩ | ⟨kvs, k, b, e, ey, eb, l⟩
  · subst ey
    obtain ⟨z, hd, vs, rel, dd⟩ := l8 I.hok e
    refine wpAny_notIn_of (pP ry) hd dd.mapOf ?_
    rw [← (rel.val k).isSome_eq, ← l]
    exact h _ (I.tok _)
  · subst ey
    cases (show u = Value.ref b from ry)
    obtain ⟨z, hd, xs, rel, dd⟩ := pR I.hok e
    refine wpAny_notIn_heap (tupleKind_room_in1 hu) (mT I.hok eb) hd dd ?_
    have q := (rel.val k).isSome_eq
    rw [Option.isSome_map] at q
    rw [← q, ← l]
    exact h _ (I.tok _)
theorem tj {h' : Heap} {t' : Nat} {ob : HO} (I : aC X pins σ H s) (mu : AS (H a)) (hs : Heap.SameBut a s.heap h') (he : ∃ q, h'.get? a = some q) (new : bF X.prog X.w (ca H a ob) h' a ob) :
    aC X pins σ (ca H a ob) { s with heap := h', toks := t' } :=
  I.write (x := a) (e := a) mu (.inl rfl) (fun b q hb z => (hs.2 b hb).trans z) he new
theorem zo {P : Program} {w : World} {H' : Hp} {h' : Heap} {kvs : List (cH × V)} {vs : List (cH × Value)} (z : kvs.length ≤ sizeLine) (hd : (a == sysModules) = false) (rel : KV kvs vs) (dd : h'.DictOf (cL P w) a vs) :
    bF P w H' h' a (.dK kvs) := ⟨z, hd, vs, rel, dd⟩
theorem um {H' : Hp} {Q : Unit → Shared → Prop} (hu : A.units + 1 < cLine) (I : aC X pins σ H s) (g : rl H a y v H') (ry : bi y u) (rv : bi v r) (h : ∀ s', aC X pins σ H' s' → Q () s') :
    wpAny (model X.prog X.w) A (setItem (.ref a) u r) Q E s := by
  rcases g with ⟨kvs, k, e, ey, l, eH⟩ | ⟨kvs, k, b, e, ey, eb, l, eH⟩
  · subst ey eH
    obtain ⟨z, hd, vs, rel, dd⟩ := Bd I.hok e
    have hz : vs.length ≤ sizeLine := by rw [← rel.length]; exact z
    have hl : (kj kvs k v).length ≤ sizeLine := by have := k4 kvs k v; omega
    refine wpAny_setItem_pairs (hsz := hz) (pP ry) dd fun h' dd' hs => h _ ?_
    have he : ∃ q, h'.get? a = some q := let ⟨q, _, _, hq, _⟩ := dd'; ⟨q, hq⟩
    exact tj I (by rw [e]; exact True.intro) hs he (zo hl hd (rel.put k rv) dd')
  · subst ey eH
    cases (show u = Value.ref b from ry)
    obtain ⟨z, hd, xs, rel, dd⟩ := Bn I.hok e
    have hz : xs.length ≤ sizeLine := by rw [← Paired.length rel]; exact z
    have hl : (kj kvs k v).length ≤ sizeLine := by have := k4 kvs k v; omega
    refine wpAny_setItem_heap (hsz := hz) (tupleKind_room_in1 hu) (mT I.hok eb) dd fun h' dd' hs => h _ ?_
    obtain ⟨q, es, ep, hq, h2, h3, h4, _, h5⟩ := dd'
    refine tj I (by rw [e]; exact True.intro) hs ⟨q, hq⟩ ⟨hl, hd, _, (rel.put k eb rv).keeps fun c ys ec => ?_, q, es, ep, hq, h2, h3, h4, h5⟩
    rw [ao (Bq ec e (fun z => nomatch z))]
    exact ec
end
section
variable {X : Cx} {pins : List (Addr × Obj)} {σ : St} {H : Hp} {s : Shared} {a : Addr} {kvs : List (cH × V)} {k : cH} {u : Value} {A : Around} {E : Value → Shared → Prop}
theorem Bh {Q : Value → Shared → Prop} (I : aC X pins σ H s) (e : Rd H a (.dK kvs)) (h : ∀ t s', aC X pins σ H s' → Q (.int kvs.length t) s') : wpAny (model X.prog X.w) A (call (.builtin "len") [.ref a]) Q E s := by
  obtain ⟨z, hd, vs, rel, dd⟩ := l8 I.hok e
  refine call_len_dict hd dd (by rw [← rel.length]; rw [sizeLine_eq] at z; omega) ?_
  rw [← rel.length]
  exact h _ _ (I.tok _)
end
theorem qd {X : Cx} {pins : List (Addr × Obj)} {σ : St} {H : Hp} {s : Shared} {a : Addr} {y : V} {o : Option V} (I : aC X pins σ H s) (g : mf H a y o) : s.TypeIs (.ref a) "dict" := by
  rcases g with ⟨kvs, k, e, _, _⟩ | ⟨kvs, k, b, e, _, _, _⟩
  · obtain ⟨_, _, vs, _, dd⟩ := l8 I.hok e
    exact dd.typeIs
  · obtain ⟨_, _, xs, _, dd⟩ := pR I.hok e
    exact dd.typeIs
def A9 (td ty tv : TE) : TS := fun D σ H => tv σ H fun v H1 => td σ H1 fun x H2 => ty σ H2 fun y H3 => ∃ a H4, x = .ref a ∧ rl H3 a y v H4 ∧ D.nx σ H4
section
variable {X : Cx} {o i e value : Expr} {pos pos' tpos : Pos} {td ty tv : TE}
theorem xY (hu : X.A.units + 1 < cLine) (ho : PE X o td) (hi : PE X i ty) (hv : PE X value tv) (hs : swapsWith value (some (.Subscript o i pos')) pos.line X.env = pure false) :
    PS X (.Assign [.Subscript o i pos'] value pos) (A9 td ty tv) := by
  intro pins s σ H D I h
  refine wpAny_Assign_Subscript (cO (hv pins s σ H _ I h) fun r s1 ⟨v, H1, I1, rv, q1⟩ => cO (ho pins s1 σ H1 _ I1 q1) fun u s2 ⟨x, H2, I2, rx, q2⟩ => cO (hi pins s2 σ H2 _ I2 q2) fun iv s3 ⟨y, H3, I3, ry, a, H4, ex, g, q3⟩ => ?_) hs
  subst ex
  obtain rfl : u = Value.ref a := rx
  exact um hu I3 g ry rv fun s4 I4 => ⟨σ, H4, I4, q3⟩
end
theorem vA {P : Program} {w : World} {H : Hp} (h : Heap) (hb : sysModules < h.objs.size) : bF P w H (h.push { cls := .type "dict", data := .dict #[] }) h.objs.size (.dK []) :=
  ⟨Nat.zero_le _, beq_eq_false_iff_ne.mpr (Ne.symm (Nat.ne_of_lt hb)), [], .nil, Heap.DictOf.new h⟩
def Aj : TE := fun _ H Q => ∀ p, H p = none → Q (.ref p) (ca H p (.dK []))
section
variable {X : Cx} {pos : Pos}
theorem wI : PE X (.Dict [] [] pos) Aj := fun pins s σ H Q I h =>
  wpAny_Dict_empty ⟨.ref s.heap.objs.size, _, I.laid (a := s.heap.objs.size) (o := .dK []) (t' := s.toks) (fun _ _ q => Heap.get?_push_of_some _ q) (Nat.le_refl _) (vA s.heap I.big), rfl, h _ (I.hok.fresh (Nat.le_refl _))⟩
end
end L2
set_option maxHeartbeats 4000000
namespace D2
open PySem PySem.Spec PyProof.Rows L2
abbrev St := L2.St
abbrev aC := @L2.aC
def e8 : cH → PyData
  | .inl i => .int i
  | .inr x => .str x
mutual
def Rp (H : Hp) : PyData → V → Prop
  | .none, v => v = .non
  | .bool b, v => v = .bl b
  | .int i, v => v = .int i
  | .str x, v => v = .str x
  | .tuple ds, v => ∃ a vs, v = .ref a ∧ H a = some (.tup vs) ∧ bg H ds vs
  | .list ds, v => ∃ a o vs, v = .ref a ∧ H a = some (.frz o (.lst vs)) ∧ bg H ds vs
  | .dict kvs, v => (∃ a o ks, v = .ref a ∧ H a = some (.frz o (.dK ks)) ∧ dB H kvs ks) ∨ ∃ a o C dx fs, v = .ref a ∧ H a = some (.frz o (.ins C dx fs)) ∧ vd H C fs kvs
def bg (H : Hp) : List PyData → List V → Prop
  | [], vs => vs = []
  | d :: ds, vs => ∃ v r, vs = v :: r ∧ Rp H d v ∧ bg H ds r
def dB (H : Hp) : List (PyData × PyData) → List (cH × V) → Prop
  | [], ks => ks = []
  | kd :: kvs, ks => ∃ x v r, ks = (x, v) :: r ∧ xm H kd x v ∧ dB H kvs r
def xm (H : Hp) : PyData × PyData → cH → V → Prop
  | (k, d), x, v => k = e8 x ∧ Rp H d v
def vd (H : Hp) (C : Addr) (fs : List (Str × V)) : List (PyData × PyData) → Prop
  | [] => False
  | kd :: kvs => kd = (.none, .int C) ∧ qR H kvs fs
def qR (H : Hp) : List (PyData × PyData) → List (Str × V) → Prop
  | [], fs => fs = []
  | kd :: kvs, fs => ∃ x v r, fs = (x, v) :: r ∧ yT H kd x v ∧ qR H kvs r
def yT (H : Hp) : PyData × PyData → Str → V → Prop
  | (k, d), x, v => k = .str x ∧ Rp H d v
end
def nI : List (PyData × PyData) → Bool
  | (.none, _) :: _ => true
  | _ => false
def Kp (H H' : Hp) : Prop := (∀ b xs, H b = some (.tup xs) → H' b = some (.tup xs)) ∧ ∀ b o u, H b = some (.frz o u) → H' b = some (.frz o u)
theorem Kp.trans {H H1 H2 : Hp} (a : Kp H H1) (b : Kp H1 H2) : Kp H H2 := ⟨fun c xs h => b.1 c xs (a.1 c xs h), fun c o u h => b.2 c o u (a.2 c o u h)⟩
theorem Kp.of {H H' : Hp} (s : aB H H') : Kp H H' := ⟨fun b xs h => s b _ h, fun b o u h => s b _ h⟩
mutual
theorem Rp.kp {H H' : Hp} (k : Kp H H') : ∀ (d : PyData) (v : V), Rp H d v → Rp H' d v
  | .none, v, h => by simpa only [Rp] using h
  | .bool b, v, h => by simpa only [Rp] using h
  | .int i, v, h => by simpa only [Rp] using h
  | .str x, v, h => by simpa only [Rp] using h
  | .tuple ds, v, h => by
    simp only [Rp] at h ⊢
    obtain ⟨a, vs, e, ha, r⟩ := h
    exact ⟨a, vs, e, k.1 _ _ ha, bg.kp k ds vs r⟩
  | .list ds, v, h => by
    simp only [Rp] at h ⊢
    obtain ⟨a, o, vs, e, ha, r⟩ := h
    exact ⟨a, o, vs, e, k.2 _ _ _ ha, bg.kp k ds vs r⟩
  | .dict kvs, v, h => by
    simp only [Rp] at h ⊢
    rcases h with ⟨a, o, ks, e, ha, r⟩ | ⟨a, o, C, dx, fs, e, ha, r⟩
    · exact .inl ⟨a, o, ks, e, k.2 _ _ _ ha, dB.kp k kvs ks r⟩
    · exact .inr ⟨a, o, C, dx, fs, e, k.2 _ _ _ ha, vd.kp k C fs kvs r⟩
theorem bg.kp {H H' : Hp} (k : Kp H H') : ∀ (ds : List PyData) (vs : List V), bg H ds vs → bg H' ds vs
  | [], vs, h => by simpa only [bg] using h
  | d :: ds, vs, h => by
    simp only [bg] at h ⊢
    obtain ⟨v, r, e, h1, h2⟩ := h
    exact ⟨v, r, e, Rp.kp k d v h1, bg.kp k ds r h2⟩
theorem dB.kp {H H' : Hp} (k : Kp H H') : ∀ (kvs : List (PyData × PyData)) (ks : List (cH × V)), dB H kvs ks → dB H' kvs ks
  | [], ks, h => by simpa only [dB] using h
  | kd :: kvs, ks, h => by
    simp only [dB] at h ⊢
    obtain ⟨x, v, r, e, h1, h2⟩ := h
    exact ⟨x, v, r, e, xm.kp k kd x v h1, dB.kp k kvs r h2⟩
theorem xm.kp {H H' : Hp} (k : Kp H H') : ∀ (kd : PyData × PyData) (x : cH) (v : V), xm H kd x v → xm H' kd x v
  | (c, d), x, v, h => by
    simp only [xm] at h ⊢
    exact ⟨h.1, Rp.kp k d v h.2⟩
theorem vd.kp {H H' : Hp} (k : Kp H H') (C : Addr) (fs : List (Str × V)) : ∀ (kvs : List (PyData × PyData)), vd H C fs kvs → vd H' C fs kvs
  | [], h => by simpa only [vd] using h
  | kd :: kvs, h => by
    simp only [vd] at h ⊢
    exact ⟨h.1, qR.kp k kvs fs h.2⟩
theorem qR.kp {H H' : Hp} (k : Kp H H') : ∀ (kvs : List (PyData × PyData)) (fs : List (Str × V)), qR H kvs fs → qR H' kvs fs
  | [], fs, h => by simpa only [qR] using h
  | kd :: kvs, fs, h => by
    simp only [qR] at h ⊢
    obtain ⟨x, v, r, e, h1, h2⟩ := h
    exact ⟨x, v, r, e, yT.kp k kd x v h1, qR.kp k kvs r h2⟩
theorem yT.kp {H H' : Hp} (k : Kp H H') : ∀ (kd : PyData × PyData) (x : Str) (v : V), yT H kd x v → yT H' kd x v
  | (c, d), x, v, h => by
    simp only [yT] at h ⊢
    exact ⟨h.1, Rp.kp k d v h.2⟩
end
theorem Rp.mono {H H' : Hp} {d : PyData} {v : V} (h : Rp H d v) (s : aB H H') : Rp H' d v := Rp.kp (Kp.of s) d v h
theorem bg.mono {H H' : Hp} {ds : List PyData} {vs : List V} (h : bg H ds vs) (s : aB H H') : bg H' ds vs := bg.kp (Kp.of s) ds vs h
def iw (H : Hp) : PyData → V → Prop
  | .list ds, v => ∃ a vs, v = .ref a ∧ H a = some (.lst vs) ∧ bg H ds vs
  | .dict kvs, v => ∃ a ks, v = .ref a ∧ H a = some (.dK ks) ∧ dB H kvs ks
  | _, _ => False
theorem iw.mono {H H' : Hp} {d : PyData} {v : V} (h : iw H d v) (s : aB H H') : iw H' d v := by
  cases d <;> simp only [iw] at h ⊢
  · obtain ⟨a, vs, e, ha, r⟩ := h
    exact ⟨a, vs, e, s _ _ ha, bg.mono r s⟩
  · obtain ⟨a, vs, e, ha, r⟩ := h
    exact ⟨a, vs, e, s _ _ ha, dB.kp (Kp.of s) _ _ r⟩
def gP (H : Hp) (d : PyData) (v : V) : Prop := Rp H d v ∨ iw H d v
theorem gP.mono {H H' : Hp} {d : PyData} {v : V} (h : gP H d v) (s : aB H H') : gP H' d v := h.elim (fun h => .inl (h.mono s)) fun h => .inr (h.mono s)
def AI (H H' : Hp) (d : PyData) (v : V) : Prop := iw H' d v ∧ ∃ a, v = .ref a ∧ H a = none
inductive aV where
  | non
  | val (d : PyData)
  | own (d : PyData)
  | exc (p : Addr)
abbrev aG := List aV
def iW (H : Hp) : aV → Option V → Prop
  | .non, _ => True
  | .val d, o => ∃ v, o = some v ∧ Rp H d v
  | .own d, o => ∃ v, o = some v ∧ iw H d v
  | .exc p, o => o = some (.ref p)
def Sl (H : Hp) (σ : St) (ρ : aG) : Prop := σ.length = ρ.length ∧ ∀ (i : Nat) (c : aV) (o : Option V), ρ[i]? = some c → σ[i]? = some o → iW H c o
theorem iW.mono {H H' : Hp} {c : aV} {o : Option V} (h : iW H c o) (s : aB H H') : iW H' c o := by
  cases c <;> simp only [iW] at h ⊢
  · obtain ⟨v, e, h⟩ := h; exact ⟨v, e, h.mono s⟩
  · obtain ⟨v, e, h⟩ := h; exact ⟨v, e, h.mono s⟩
  · exact h
theorem Sl.mono {H H' : Hp} {σ : St} {ρ : aG} (h : Sl H σ ρ) (s : aB H H') : Sl H' σ ρ := ⟨h.1, fun i c o h1 h2 => (h.2 i c o h1 h2).mono s⟩
inductive R (α : Type) where
  | ok (a : α)
  | ex (c : Str)
  | no
def R.bind {α β : Type} : R α → (α → R β) → R β
  | .ok a, f => f a
  | .ex c, _ => .ex c
  | .no, _ => .no
instance : Monad R where
  pure := .ok
  bind := R.bind
@[simp] theorem R.ok_bind {α β : Type} (a : α) (f : α → R β) : (R.ok a >>= f) = f a := (rfl)
structure Bz (P : Program) (w : World) (outer : List Env) (H : Hp) (s : Shared) (C : Addr) (H' : Hp) (e : Value) (s' : Shared) : Prop where
  os : s'.os = s.os
  bare : AllBare s'.gens
  same : aB H H'
  ex : ∃ (p : Addr) (a0 : Value) (B : Heap), e = .ref p ∧ Heap.FlyingW B outer p (.ref C) a0 s'.heap ∧ ji P w H' B ∧ H' p = none ∧ ∀ b o, s.heap.get? b = some o → H b = none → b ∉ np outer → B.get? b = some o ∧ H' b = none
  slot : ∀ b o, s.heap.get? b = some o → H b = none → b ∈ np outer → (∃ sl, s'.heap.get? b = some { o with slots := sl }) ∧ H' b = none
def cG (P : Program) (w : World) (mg : Str → Option Value) : vh := fun outer H s E e s' => ∃ n C H', mg n = some (.ref C) ∧ Bz P w outer H s C H' e s' ∧ E (.str n 0) none H'
def EX (X : Cx) : XK := fun v _ H' => ∀ (n : Str) (C : Addr), v = .str n 0 → X.mg n = some (.ref C) → ∀ (pins : List (Addr × Obj)) (σ : St) (H : Hp) (s : Shared) (e : Value) (s' : Shared), aC X pins σ H s → Bz X.prog X.w X.stack H s C H' e s' → X.xe e s'
theorem sP {X : Cx} : mY (cG X.prog X.w X.mg) X (EX X) := fun pins σ H s e s' I ⟨n, C, H', hm, f, q⟩ => q n C rfl hm pins σ H s e s' I f
def Xw (X : Cx) (c : Str) (H : Hp) : Prop := ∀ H1, aB H H1 → EX X (.str c 0) none H1
theorem Xw.mono {X : Cx} {c : Str} {H H' : Hp} (h : Xw X c H) (s : aB H H') : Xw X c H' := fun H1 s1 => h H1 (s.trans s1)
def BG (X : Cx) (c : Str) (Fm : Hp) : Prop := ∀ C, X.mg c = some (.ref C) → ∀ (pins : List (Addr × Obj)) (σ : St) (H : Hp) (s : Shared), aB Fm H → aC X pins σ H s → ∀ (h' : Heap) (p : Addr) (vs : List Value), Heap.MadeExcOf s.heap h' p (.ref C) vs → X.xe (.ref p) { s with heap := h' }
theorem BG.mono {X : Cx} {c : Str} {H H' : Hp} (h : BG X c H) (s : aB H H') : BG X c H' := fun C hm pins σ H1 s1 e => h C hm pins σ H1 s1 (s.trans e)
def ve (X : Cx) (P : Hp → Hp → PyData → V → Prop) (r : R PyData) (H : Hp) (Q : VK) : Prop :=
  match r with
  | .ok d => ∀ v H', aB H H' → P H H' d v → Q v H'
  | .ex c => Xw X c H
  | .no => False
abbrev km : Hp → Hp → PyData → V → Prop := fun _ H' d v => Rp H' d v
abbrev zN : Hp → Hp → PyData → V → Prop := fun _ H' d v => gP H' d v
abbrev BR : Hp → Hp → PyData → V → Prop := fun H H' d v => Rp H' d v ∨ AI H H' d v
abbrev Fe := aG → R PyData
def ld (X : Cx) (P : Hp → Hp → PyData → V → Prop) (f : Fe) : TE := fun σ H Q => ∃ ρ, Sl H σ ρ ∧ ve X P (f ρ) H Q
def ag (X : Cx) (e : Expr) (f : Fe) : Prop := PE X e (ld X km f)
structure Z.ag (X : Cx) (e : Expr) (f : Fe) : Prop where
  un : D2.ag X e f
def bD (X : Cx) (e : Expr) (f : Fe) : Prop := PE X e (ld X zN f)
structure Z.bD (X : Cx) (e : Expr) (f : Fe) : Prop where
  un : D2.bD X e f
def xh (X : Cx) (e : Expr) (f : Fe) : Prop := PE X e (ld X BR f)
structure Z.xh (X : Cx) (e : Expr) (f : Fe) : Prop where
  un : D2.xh X e f
def fF (X : Cx) (e : Expr) (f : Fe) : Prop := PE X e (ld X AI f)
structure Z.fF (X : Cx) (e : Expr) (f : Fe) : Prop where
  un : D2.fF X e f
def RA (I : Hp → PyData → V → Prop) (H : Hp) : List PyData → List V → Prop
  | [], vs => vs = []
  | d :: ds, vs => ∃ v r, vs = v :: r ∧ I H d v ∧ RA I H ds r
theorem mW {H : Hp} : ∀ {ds : List PyData} {vs : List V}, RA Rp H ds vs ↔ bg H ds vs
  | [], vs => by simp only [RA, bg]
  | d :: ds, vs => by simp only [RA, bg, mW (ds := ds)]
def xl (X : Cx) (I : Hp → PyData → V → Prop) (f : aG → R (List PyData)) : TA := fun σ H Q => ∃ ρ, Sl H σ ρ ∧ match f ρ with
  | .ok ds => ∀ vs H', aB H H' → RA I H' ds vs → Q vs H'
  | .ex c => Xw X c H
  | .no => False
def nr (X : Cx) (es : List Expr) (f : aG → R (List PyData)) : Prop := PA X es (xl X Rp f)
structure Z.nr (X : Cx) (es : List Expr) (f : aG → R (List PyData)) : Prop where
  un : D2.nr X es f
def As (X : Cx) (es : List Expr) (f : aG → R (List PyData)) : Prop := PA X es (xl X gP f)
def yG (X : Cx) (f : aG → R Bool) : TT := fun σ H Q => ∃ ρ, Sl H σ ρ ∧ match f ρ with
  | .ok b => ∀ H', aB H H' → Q b H'
  | .ex c => Xw X c H
  | .no => False
def gg (X : Cx) (e : Expr) (f : aG → R Bool) : Prop := PT X e (yG X f)
structure Z.gg (X : Cx) (e : Expr) (f : aG → R Bool) : Prop where
  un : D2.gg X e f
def jB (X : Cx) (e : Expr) (f : aG → R Bool) : Prop := PW X e (yG X f)
structure Z.jB (X : Cx) (e : Expr) (f : aG → R Bool) : Prop where
  un : D2.jB X e f
theorem PE.imp {X : Cx} {e : Expr} {t t' : TE} (h : PE X e t) (i : ∀ σ H Q, t' σ H Q → t σ H Q) : PE X e t' := fun pins s σ H Q I q => h pins s σ H Q I (i σ H Q q)
theorem PT.imp {X : Cx} {e : Expr} {t t' : TT} (h : PT X e t) (i : ∀ σ H Q, t' σ H Q → t σ H Q) : PT X e t' := fun pins s σ H Q I q => h pins s σ H Q I (i σ H Q q)
theorem PW.imp {X : Cx} {e : Expr} {t t' : TT} (h : PW X e t) (i : ∀ σ H Q, t' σ H Q → t σ H Q) : PW X e t' := fun wh pins s σ H Q I q => h wh pins s σ H Q I (i σ H Q q)
theorem PA.imp {X : Cx} {e : List Expr} {t t' : TA} (h : PA X e t) (i : ∀ σ H Q, t' σ H Q → t σ H Q) : PA X e t' := fun pos pins s σ H Q I q => h pos pins s σ H Q I (i σ H Q q)
theorem ld.post {X : Cx} {P : Hp → Hp → PyData → V → Prop} {f : Fe} {σ : St} {H : Hp} {Q Q' : VK} (h : ld X P f σ H Q) (i : ∀ v H', Q v H' → Q' v H') : ld X P f σ H Q' := by
  obtain ⟨ρ, sl, q⟩ := h
  refine ⟨ρ, sl, ?_⟩
  cases e : f ρ with
  | ok d => rw [e] at q; exact fun v H' s p => i _ _ (q v H' s p)
  | ex c => rw [e] at q; exact q
  | no => rw [e] at q; exact q
theorem yG.post {X : Cx} {f : aG → R Bool} {σ : St} {H : Hp} {Q Q' : Bool → Hp → Prop} (h : yG X f σ H Q) (i : ∀ b H', Q b H' → Q' b H') : yG X f σ H Q' := by
  obtain ⟨ρ, sl, q⟩ := h
  refine ⟨ρ, sl, ?_⟩
  cases e : f ρ with
  | ok d => rw [e] at q; exact fun H' s => i _ _ (q H' s)
  | ex c => rw [e] at q; exact q
  | no => rw [e] at q; exact q
theorem xl.post {X : Cx} {I : Hp → PyData → V → Prop} {f : aG → R (List PyData)} {σ : St} {H : Hp} {Q Q' : List V → Hp → Prop} (h : xl X I f σ H Q) (i : ∀ vs H', Q vs H' → Q' vs H') : xl X I f σ H Q' := by
  obtain ⟨ρ, sl, q⟩ := h
  refine ⟨ρ, sl, ?_⟩
  cases e : f ρ with
  | ok d => rw [e] at q; exact fun vs H' s p => i _ _ (q vs H' s p)
  | ex c => rw [e] at q; exact q
  | no => rw [e] at q; exact q
theorem ld.weaken {X : Cx} {P P' : Hp → Hp → PyData → V → Prop} {f : Fe} (h : ∀ H H' d v, P H H' d v → P' H H' d v) (σ : St) (H : Hp) (Q : VK) (q : ld X P' f σ H Q) : ld X P f σ H Q := by
  obtain ⟨ρ, sl, q⟩ := q
  refine ⟨ρ, sl, ?_⟩
  cases e : f ρ with
  | ok d => rw [e] at q; exact fun v H' s p => q v H' s (h _ _ _ _ p)
  | ex c => rw [e] at q; exact q
  | no => rw [e] at q; exact q
section
variable {X : Cx} {e : Expr} {f : Fe}
theorem ag.b (h : ag X e f) : bD X e f := PE.imp h (ld.weaken fun _ _ _ _ p => Or.inl p)
theorem Z.ag.b (h : Z.ag X e f) : Z.bD X e f :=
  ⟨D2.ag.b h.un⟩
theorem fF.b (h : fF X e f) : bD X e f := PE.imp h (ld.weaken fun _ _ _ _ p => Or.inr p.1)
theorem Z.fF.b (h : Z.fF X e f) : Z.bD X e f :=
  ⟨D2.fF.b h.un⟩
theorem fF.toF (h : fF X e f) : xh X e f := PE.imp h (ld.weaken fun _ _ _ _ p => Or.inr p)
end
section
variable {X : Cx} {pins : List (Addr × Obj)} {σ : St} {H : Hp} {s : Shared} {a : Addr} {u : HO}
theorem fZ (I : aC X pins σ H s) (h : H a = some u) (hm : (∃ xs, u = .lst xs) ∨ ∃ ks, u = .dK ks) : ∃ o, aC X pins σ (ca H a (.frz o u)) s := by
  have ob := I.hok a u h
  have hg : ∃ o, s.heap.get? a = some o := by
    rcases hm with ⟨xs, rfl⟩ | ⟨ks, rfl⟩
    · obtain ⟨_, _, _, _, e⟩ := ob; exact ⟨_, e⟩
    · obtain ⟨_, _, _, _, o, _, _, e, _⟩ := ob; exact ⟨_, e⟩
  obtain ⟨o, hg⟩ := hg
  have nt : ∀ b xs, H b = some (.tup xs) → b ≠ a := fun b xs q z => by subst z; rw [h] at q; rcases hm with ⟨_, rfl⟩ | ⟨_, rfl⟩ <;> cases q
  have nf : ∀ b o' u', H b = some (.frz o' u') → b ≠ a := fun b o' u' q z => by subst z; rw [h] at q; rcases hm with ⟨_, rfl⟩ | ⟨_, rfl⟩ <;> cases q
  have nb : ∀ b ps, H b = some (.tbl ps) → b ≠ a := fun b ps q z => by subst z; rw [h] at q; rcases hm with ⟨_, rfl⟩ | ⟨_, rfl⟩ <;> cases q
  have nw : ∀ b y, H b = some (.own y) → b ≠ a := fun b y q z => by subst z; rw [h] at q; rcases hm with ⟨_, rfl⟩ | ⟨_, rfl⟩ <;> cases q
  have nn : ∀ b, H b = none → b ≠ a := fun b q z => by subst z; rw [h] at q; cases q
  have st : ∀ b x, bF X.prog X.w H s.heap b x → bF X.prog X.w (ca H a (.frz o u)) s.heap b x := fun b x q =>
    q.stay (fun c v _ e => e) (fun c e => by rw [ao (nw _ _ e)]; exact e) fun c xs e => by rw [ao (nt _ _ e)]; exact e
  refine ⟨o, ⟨I.ok, I.os, I.bare, ⟨I.base.keep, I.base.slot, fun b ob' e n hx => ?_, I.base.there, fun b xs e => ?_, fun b ob' v e => ?_, fun b ps e => ?_⟩, I.loc, I.cell, ?_, fun x c e => ?_, fun p hp => ?_, fun b x e => ?_, I.len⟩⟩
  · have := I.base.free b ob' e n hx
    rw [ao (nn _ this)]; exact this
  · have := I.base.tups b xs e
    rw [ao (nt _ _ this)]; exact this
  · have := I.base.frzs b ob' v e
    rw [ao (nf _ _ _ this)]; exact this
  · obtain ⟨m, q⟩ := I.base.tbls b ps e
    exact ⟨m, by rw [ao (nb _ _ q)]; exact q⟩
  · rw [ao (nn _ I.free)]; exact I.free
  · rw [ao (nn _ (I.freeC x c e))]; exact I.freeC x c e
  · obtain ⟨p1, p2, p3⟩ := I.pin p hp
    exact ⟨p1, by rw [ao (nn _ p2)]; exact p2, p3⟩
  · by_cases hb : b = a
    · subst hb
      rw [aU] at e; cases e
      exact ⟨hg, st b u ob⟩
    · rw [ao hb] at e
      exact st b x (I.hok b x e)
theorem fX {o' : HO} (h : H a = some u) (hm : (∃ xs, u = .lst xs) ∨ ∃ ks, u = .dK ks) : Kp H (ca H a o') := by
  refine ⟨fun b xs e => ?_, fun b o v e => ?_⟩
  · rw [ao]; exact e
    rintro rfl; rw [h] at e; rcases hm with ⟨_, rfl⟩ | ⟨_, rfl⟩ <;> cases e
  · rw [ao]; exact e
    rintro rfl; rw [h] at e; rcases hm with ⟨_, rfl⟩ | ⟨_, rfl⟩ <;> cases e
theorem Ac {H0 : Hp} {d : PyData} {v : V} (I : aC X pins σ H s) (hs : aB H0 H) (n : AI H0 H d v) : ∃ H', aC X pins σ H' s ∧ aB H0 H' ∧ Rp H' d v := by
  obtain ⟨n, a, rfl, h0⟩ := n
  have go : ∀ u : HO, H a = some u → ((∃ xs, u = .lst xs) ∨ ∃ ks, u = .dK ks) → ∃ o, aC X pins σ (ca H a (.frz o u)) s ∧ aB H0 (ca H a (.frz o u)) ∧ Kp H (ca H a (.frz o u)) := fun u hu hm => by
    obtain ⟨o, J⟩ := fZ I hu hm
    refine ⟨o, J, fun b x e => ?_, fX hu hm⟩
    rw [ao (aR e h0)]; exact hs b x e
  cases d <;> simp only [iw] at n
  · obtain ⟨a', vs, e, ha, r⟩ := n
    cases e
    obtain ⟨o, J, S, K⟩ := go _ ha (.inl ⟨_, rfl⟩)
    refine ⟨_, J, S, ?_⟩
    simp only [Rp]
    exact ⟨a, o, vs, rfl, aU, bg.kp K _ _ r⟩
  · obtain ⟨a', vs, e, ha, r⟩ := n
    cases e
    obtain ⟨o, J, S, K⟩ := go _ ha (.inr ⟨_, rfl⟩)
    refine ⟨_, J, S, ?_⟩
    simp only [Rp]
    exact .inl ⟨a, o, vs, rfl, aU, dB.kp K _ _ r⟩
end
theorem xh.e {X : Cx} {e : Expr} {f : Fe} (h : xh X e f) : ag X e f := by
  intro pins s σ H Q I q
  obtain ⟨ρ, sl, q⟩ := q
  cases ef : f ρ with
  | ok d =>
    rw [ef] at q
    refine cO (h pins s σ H (fun v H' => aB H H' ∧ BR H H' d v) I ⟨ρ, sl, by rw [ef]; exact fun v H' hs p => ⟨hs, p⟩⟩) fun u s' ⟨v, H', I', r, hs, p⟩ => ?_
    rcases p with p | p
    · exact ⟨v, H', I', r, q v H' hs p⟩
    · obtain ⟨H2, I2, S2, p2⟩ := Ac I' hs p
      exact ⟨v, H2, I2, r, q v H2 S2 p2⟩
  | ex c => rw [ef] at q; exact cO (h pins s σ H (fun _ _ => False) I ⟨ρ, sl, by rw [ef]; exact q⟩) fun u s' ⟨v, H', I', r, z⟩ => z.elim
  | no => rw [ef] at q; exact q.elim
theorem Z.xh.e {X : Cx} {e : Expr} {f : Fe} (h : Z.xh X e f) : Z.ag X e f :=
  ⟨D2.xh.e h.un⟩
theorem fF.e {X : Cx} {e : Expr} {f : Fe} (h : fF X e f) : ag X e f := (fF.toF h).e
theorem Z.fF.e {X : Cx} {e : Expr} {f : Fe} (h : Z.fF X e f) : Z.ag X e f :=
  ⟨D2.fF.e h.un⟩
structure xN {β : Type} (X : Cx) (T : R β → Hp → Prop) : Prop where
  mono : ∀ r H H', T r H → aB H H' → T r H'
  ex : ∀ c H, T (.ex c) H → Xw X c H
  no : ∀ H, ¬ T .no H
def Dn (P : Hp → Hp → PyData → V → Prop) : Prop := ∀ H H1 H' d v, aB H H1 → P H1 H' d v → P H H' d v
theorem iu : Dn km := fun _ _ _ _ _ _ p => p
theorem xz : Dn AI := fun _ _ _ _ _ s p => ⟨p.1, let ⟨a, e, h⟩ := p.2; ⟨a, e, s.free h⟩⟩
theorem yu : Dn BR := fun _ _ _ _ _ s p => p.elim .inl fun p => .inr (xz _ _ _ _ _ s p)
section
variable {X : Cx} {σ : St} {H : Hp}
theorem io {P : Hp → Hp → PyData → V → Prop} (hP : Dn P) (Q : VK) : xN X (fun r H => ve X P r H Q) where
  mono := fun r H H' h s => by
    cases r with
    | ok d => exact fun v H2 s2 p => h v H2 (s.trans s2) (hP _ _ _ _ _ s p)
    | ex c => exact Xw.mono h s
    | no => exact h
  ex := fun c H h => h
  no := fun H h => h
theorem sT (Q : Bool → Hp → Prop) : xN X (fun (r : R Bool) H => match r with | .ok b => ∀ H', aB H H' → Q b H' | .ex c => Xw X c H | .no => False) where
  mono := fun r H H' h s => by
    cases r with
    | ok d => exact fun H2 s2 => h H2 (s.trans s2)
    | ex c => exact Xw.mono h s
    | no => exact h
  ex := fun c H h => h
  no := fun H h => h
theorem yS (I : Hp → PyData → V → Prop) (Q : List V → Hp → Prop) : xN X (fun (r : R (List PyData)) H => match r with | .ok ds => ∀ vs H', aB H H' → RA I H' ds vs → Q vs H' | .ex c => Xw X c H | .no => False) where
  mono := fun r H H' h s => by
    cases r with
    | ok d => exact fun vs H2 s2 => h vs H2 (s.trans s2)
    | ex c => exact Xw.mono h s
    | no => exact h
  ex := fun c H h => h
  no := fun H h => h
theorem hX {β : Type} {T : R β → Hp → Prop} (t : xN X T) {P : Hp → Hp → PyData → V → Prop} {f : Fe} {k : aG → PyData → R β} (h : ∃ ρ, Sl H σ ρ ∧ T (f ρ >>= k ρ) H) :
    ld X P f σ H (fun v H1 => ∃ ρ d, Sl H1 σ ρ ∧ aB H H1 ∧ P H H1 d v ∧ T (k ρ d) H1) := by
  obtain ⟨ρ, sl, q⟩ := h
  refine ⟨ρ, sl, ?_⟩
  cases e : f ρ with
  | ok d => rw [e] at q; exact fun v H1 s p => ⟨ρ, d, sl.mono s, s, p, t.mono _ _ _ q s⟩
  | ex c => rw [e] at q; exact t.ex _ _ q
  | no => rw [e] at q; exact (t.no _ q).elim
theorem oC {β : Type} {T : R β → Hp → Prop} (t : xN X T) {f : aG → R Bool} {k : aG → Bool → R β} (h : ∃ ρ, Sl H σ ρ ∧ T (f ρ >>= k ρ) H) :
    yG X f σ H (fun b H1 => ∃ ρ, Sl H1 σ ρ ∧ aB H H1 ∧ T (k ρ b) H1) := by
  obtain ⟨ρ, sl, q⟩ := h
  refine ⟨ρ, sl, ?_⟩
  cases e : f ρ with
  | ok d => rw [e] at q; exact fun H1 s => ⟨ρ, sl.mono s, s, t.mono _ _ _ q s⟩
  | ex c => rw [e] at q; exact t.ex _ _ q
  | no => rw [e] at q; exact (t.no _ q).elim
theorem mM {β : Type} {T : R β → Hp → Prop} (t : xN X T) {I : Hp → PyData → V → Prop} {f : aG → R (List PyData)} {k : aG → List PyData → R β} (h : ∃ ρ, Sl H σ ρ ∧ T (f ρ >>= k ρ) H) :
    xl X I f σ H (fun vs H1 => ∃ ρ ds, Sl H1 σ ρ ∧ aB H H1 ∧ RA I H1 ds vs ∧ T (k ρ ds) H1) := by
  obtain ⟨ρ, sl, q⟩ := h
  refine ⟨ρ, sl, ?_⟩
  cases e : f ρ with
  | ok d => rw [e] at q; exact fun vs H1 s p => ⟨ρ, d, sl.mono s, s, p, t.mono _ _ _ q s⟩
  | ex c => rw [e] at q; exact t.ex _ _ q
  | no => rw [e] at q; exact (t.no _ q).elim
end
def ab (i : Nat) : Fe := fun ρ => match ρ[i]? with
  | some (.val d) => .ok d
  | _ => .no
def eS (i : Nat) : Fe := fun ρ => match ρ[i]? with
  | some (.val d) => .ok d
  | some (.own d) => .ok d
  | _ => .no
def eC (d : PyData) : Fe := fun _ => .ok d
structure Tb (X : Cx) (nl : Nat) (G : List Str) : Prop where
  hu : X.A.units + 64 < cLine
  calm : X.calm = true
  nd : X.N.Nodup
  vis : ∀ x ∈ X.N, Ay X.env.scope x ∧ (x == ("__debug__" : Str)) = false ∧ (x == ("__classdict__" : Str)) = false
  loc : ∀ x ∈ X.N.take nl, zc X.env.scope x ∧ (X.fn x = true ∨ X.env.scope.names.lookup x = some .local)
  gl : ∀ x ∈ G, Gl X x ∧ (x == ("__debug__" : Str)) = false ∧ x ≠ ("__name__" : Str)
section
variable {X : Cx} {nl : Nat} {G : List Str} {x : Str} {pos : Pos}
theorem Sl.at {H : Hp} {σ : St} {ρ : aG} {i : Nat} {c : aV} (h : Sl H σ ρ) (e : ρ[i]? = some c) : ∃ o, σ[i]? = some o ∧ iW H c o := by
  have hi : i < σ.length := by rw [h.1]; exact (List.getElem?_eq_some_iff.mp e).1
  exact ⟨σ[i], List.getElem?_eq_getElem hi, h.2 i c _ e (List.getElem?_eq_getElem hi)⟩
theorem aa (T : Tb X nl G) (i : Nat) (hN : X.N[i]? = some x) : ag X (.Name x pos) (ab i) := by
  have hm := T.vis x (List.mem_of_getElem? hN)
  refine PE.imp (iP hN hm.1 hm.2.1 hm.2.2) fun σ H Q ⟨ρ, sl, q⟩ => ?_
  unfold ab at q
  split at q
  · rename_i d e
    obtain ⟨o, h1, v, rfl, h2⟩ := sl.at e
    exact ⟨v, h1, q v H (aB.refl H) h2⟩
  · exact q.elim
theorem Z.aa (T : Tb X nl G) (i : Nat) (hN : X.N[i]? = some x) : Z.ag X (.Name x pos) (ab i) :=
  ⟨D2.aa T i hN⟩
theorem eh (T : Tb X nl G) (i : Nat) (hN : X.N[i]? = some x) : bD X (.Name x pos) (eS i) := by
  have hm := T.vis x (List.mem_of_getElem? hN)
  refine PE.imp (iP hN hm.1 hm.2.1 hm.2.2) fun σ H Q ⟨ρ, sl, q⟩ => ?_
  unfold eS at q
  split at q
  · rename_i d e
    obtain ⟨o, h1, v, rfl, h2⟩ := sl.at e
    exact ⟨v, h1, q v H (aB.refl H) (.inl h2)⟩
  · rename_i d e
    obtain ⟨o, h1, v, rfl, h2⟩ := sl.at e
    exact ⟨v, h1, q v H (aB.refl H) (.inr h2)⟩
  · exact q.elim
theorem Z.eh (T : Tb X nl G) (i : Nat) (hN : X.N[i]? = some x) : Z.bD X (.Name x pos) (eS i) :=
  ⟨D2.eh T i hN⟩
theorem oq {e : Expr} {d : PyData} {v : V} (h : PE X e (tC v)) (r : ∀ H, Rp H d v) : ag X e (eC d) :=
  PE.imp h fun σ H Q ⟨ρ, sl, q⟩ => q v H (aB.refl H) (r H)
theorem ap {i j} : ag X (.Constant (.int i) j pos) (eC (.int i)) := oq zH fun H => by simp only [Rp]
theorem Z.ap {i j} : Z.ag X (.Constant (.int i) j pos) (eC (.int i)) :=
  ⟨D2.ap⟩
theorem bW {b j} : ag X (.Constant (.bool b) j pos) (eC (.bool b)) := oq A4 fun H => by simp only [Rp]
theorem Z.bW {b j} : Z.ag X (.Constant (.bool b) j pos) (eC (.bool b)) :=
  ⟨D2.bW⟩
theorem cJ {j} : ag X (.Constant .none j pos) (eC .none) := oq zu fun H => by simp only [Rp]
theorem Z.cJ {j} : Z.ag X (.Constant .none j pos) (eC .none) :=
  ⟨D2.cJ⟩
theorem eQ {i : Int} {t : Tok} (T : Tb X nl G) (j : Nat) (hG : G[j]? = some x) (hm : X.mg x = some (.int i t)) : ag X (.Name x pos) (eC (.int i)) := by
  have g := T.gl x (List.mem_of_getElem? hG)
  exact oq (yA g.1 hm (v := .int i) ⟨t, rfl⟩ g.2.1) fun H => by simp only [Rp]
theorem Z.eQ {i : Int} {t : Tok} (T : Tb X nl G) (j : Nat) (hG : G[j]? = some x) (hm : X.mg x = some (.int i t)) : Z.ag X (.Name x pos) (eC (.int i)) :=
  ⟨D2.eQ T j hG hm⟩
end
section
variable {X : Cx} {a b c : Expr} {fa fb fc : Fe} {pos : Pos}
def e2 (g : PyData → PyData → R PyData) (fa fb : Fe) : Fe := fun ρ => fa ρ >>= fun x => fb ρ >>= fun y => g x y
def e1 (g : PyData → R PyData) (fa : Fe) : Fe := fun ρ => fa ρ >>= fun x => g x
def cB (X : Cx) (P : Hp → Hp → PyData → V → Prop) (r : R2) (g : PyData → PyData → R PyData) : Prop :=
  ∀ H x y dx dy Q, gP H dx x → gP H dy y → ve X P (g dx dy) H Q → r x y H Q
theorem two {P : Hp → Hp → PyData → V → Prop} {r : R2} {g : PyData → PyData → R PyData} (hP : Dn P) (hg : cB X P r g) (σ : St) (H : Hp) (Q : VK) (h : ld X P (e2 g fa fb) σ H Q) :
    AJ r (ld X zN fa) (ld X zN fb) σ H Q :=
  (hX (P := zN) (io (X := X) hP Q) h).post fun v H1 ⟨ρ1, d1, sl1, _, p1, q1⟩ =>
    (hX (P := zN) (f := fb) (k := fun _ y => g d1 y) (io (X := X) hP Q) ⟨ρ1, sl1, q1⟩).post fun u H2 ⟨_, d2, _, s2, p2, q2⟩ => hg H2 v u d1 d2 Q (gP.mono p1 s2) p2 q2
theorem mN {op : Operator} {P : Hp → Hp → PyData → V → Prop} {r : R2} {g : PyData → PyData → R PyData} (hP : Dn P) (ho : jA X (binaryOp op) r) (hg : cB X P r g) (ha : bD X a fa) (hb : bD X b fb) :
    PE X (.BinOp a op b pos) (ld X P (e2 g fa fb)) := PE.imp (A3 ho ha hb) (two hP hg)
theorem oB {op : CmpOp} {r : R2} {g : PyData → PyData → R PyData} (ho : jA X (compareOp op) r) (hg : cB X km r g) (ha : bD X a fa) (hb : bD X b fb) (hm : behindInMarks op b = false) :
    ag X (.Compare a [op] [b] pos) (e2 g fa fb) := PE.imp (xP ho ha hb hm) (two iu hg)
end
def BY : PyData → R Bool
  | .bool b => .ok b
  | _ => .no
def tE (f : Fe) : aG → R Bool := fun ρ => f ρ >>= BY
theorem sR {X : Cx} {f : Fe} {σ : St} {H : Hp} {Q : Bool → Hp → Prop} (h : yG X (tE f) σ H Q) : ld X km f σ H (fun x H' => ∃ k, x = .bl k ∧ Q k H') :=
  (hX (P := km) (f := f) (k := fun _ => BY) (sT (X := X) Q) h).post fun v H1 ⟨ρ1, d1, _, _, p1, q1⟩ => by
    cases d1 with
    | bool b =>
      have p2 : v = .bl b := by simpa only [Rp] using p1
      exact ⟨b, p2, q1 H1 (aB.refl _)⟩
    | _ => exact q1.elim
section
variable {X : Cx} {a b c : Expr} {fa fb fc : Fe} {pos : Pos}
theorem fE {op : CmpOp} {r : R2} {g : PyData → PyData → R PyData} (ho : jA X (compareOp op) r) (hg : cB X km r g) (ha : bD X a fa) (hb : bD X b fb) (hm : behindInMarks op b = false) :
    gg X (.Compare a [op] [b] pos) (tE (e2 g fa fb)) :=
  PT.imp (yF ho ha hb hm) fun σ H Q h => two iu hg σ H _ (sR h)
theorem cW {e : Expr} {f : Fe} (h : ag X e f) (he : ∀ whole, isTrue e X.env whole = (do let v ← whole; standAt e.pos; holding [v] (truthy v)) := by intro _; rfl) : gg X e (tE f) :=
  PT.imp (zL h he) fun σ H Q h => sR h
theorem Z.cW {e : Expr} {f : Fe} (h : Z.ag X e f) (he : ∀ whole, isTrue e X.env whole = (do let v ← whole; standAt e.pos; holding [v] (truthy v)) := by intro _; rfl) : Z.gg X e (tE f) :=
  ⟨D2.cW h.un he⟩
def fW (f g : aG → R Bool) : aG → R Bool := fun ρ => f ρ >>= fun b => if b = true then g ρ else .ok false
def iO (f g : aG → R Bool) : aG → R Bool := fun ρ => f ρ >>= fun b => if b = true then .ok true else g ρ
def fV (f : aG → R Bool) : aG → R Bool := fun ρ => f ρ >>= fun b => .ok (!b)
variable {ga gb : aG → R Bool} {rest : List Expr}
theorem fP (ha : gg X a ga) : jB X (.BoolOp .And [a] pos) ga := pw_and1 ha
theorem Z.fP (ha : Z.gg X a ga) : Z.jB X (.BoolOp .And [a] pos) ga :=
  ⟨D2.fP ha.un⟩
theorem fB (ha : gg X a ga) : jB X (.BoolOp .Or [a] pos) ga := pw_or1 ha
theorem Z.fB (ha : Z.gg X a ga) : Z.jB X (.BoolOp .Or [a] pos) ga :=
  ⟨D2.fB ha.un⟩
theorem hZ (ha : gg X a ga) (hb : jB X (.BoolOp .And (b :: rest) pos) gb) : jB X (.BoolOp .And (a :: b :: rest) pos) (fW ga gb) :=
  PW.imp (pw_and ha hb) fun σ H Q h => (oC (f := ga) (k := fun ρ b => if b = true then gb ρ else .ok false) (sT (X := X) Q) h).post fun d H1 ⟨ρ1, sl1, _, q1⟩ => by
    cases d with
    | true => exact ⟨ρ1, sl1, q1⟩
    | false => exact q1 H1 (aB.refl _)
theorem Z.hZ (ha : Z.gg X a ga) (hb : Z.jB X (.BoolOp .And (b :: rest) pos) gb) : Z.jB X (.BoolOp .And (a :: b :: rest) pos) (fW ga gb) :=
  ⟨D2.hZ ha.un hb.un⟩
theorem fY (ha : gg X a ga) (hb : jB X (.BoolOp .Or (b :: rest) pos) gb) : jB X (.BoolOp .Or (a :: b :: rest) pos) (iO ga gb) :=
  PW.imp (pw_or ha hb) fun σ H Q h => (oC (f := ga) (k := fun ρ b => if b = true then .ok true else gb ρ) (sT (X := X) Q) h).post fun d H1 ⟨ρ1, sl1, _, q1⟩ => by
    cases d with
    | false => exact ⟨ρ1, sl1, q1⟩
    | true => exact q1 H1 (aB.refl _)
theorem Z.fY (ha : Z.gg X a ga) (hb : Z.jB X (.BoolOp .Or (b :: rest) pos) gb) : Z.jB X (.BoolOp .Or (a :: b :: rest) pos) (iO ga gb) :=
  ⟨D2.fY ha.un hb.un⟩
theorem jB.t {e : Expr} (h : jB X e ga) : gg X e ga := PW.pt h
theorem Z.jB.t {e : Expr} (h : Z.jB X e ga) : Z.gg X e ga :=
  ⟨D2.jB.t h.un⟩
theorem dW (ha : gg X a ga) : gg X (.UnaryOp .Not a pos) (fV ga) :=
  PT.imp (zW ha) fun σ H Q h => (oC (f := ga) (k := fun _ b => .ok (!b)) (sT (X := X) Q) h).post fun d H1 ⟨ρ1, sl1, _, q1⟩ => q1 H1 (aB.refl _)
theorem Z.dW (ha : Z.gg X a ga) : Z.gg X (.UnaryOp .Not a pos) (fV ga) :=
  ⟨D2.dW ha.un⟩
def yn (t : aG → R Bool) (f g : Fe) : Fe := fun ρ => t ρ >>= fun b => if b = true then f ρ else g ρ
theorem iN {e : Expr} (hc : gg X e ga) (ha : ag X a fa) (hb : ag X b fb) : ag X (.IfExp e a b pos) (yn ga fa fb) :=
  PE.imp (vK hc ha hb) fun σ H Q h => (oC (f := ga) (k := fun ρ b => if b = true then fa ρ else fb ρ) (io (X := X) iu Q) h).post fun d H1 ⟨ρ1, sl1, _, q1⟩ => by
    cases d with
    | true => exact ⟨ρ1, sl1, q1⟩
    | false => exact ⟨ρ1, sl1, q1⟩
theorem Z.iN {e : Expr} (hc : Z.gg X e ga) (ha : Z.ag X a fa) (hb : Z.ag X b fb) : Z.ag X (.IfExp e a b pos) (yn ga fa fb) :=
  ⟨D2.iN hc.un ha.un hb.un⟩
end
def aq : Expr → Bool
  | .Starred .. => false
  | _ => true
theorem a8 {e : Expr} {es : List Expr} {env : Env} (h : aq e = true) : starEach (e :: es) env = (false, eval e env) :: starEach es env := by
  cases e <;> first | rfl | (cases h)
theorem ni {es : List Expr} {env : Env} {pos : Pos} (h : es.all aq = true) : (backTo pos (starEach es env)).any (·.1) = false := by
  induction es with
  | nil => rfl
  | cons e es ih =>
    rw [List.all_cons, Bool.and_eq_true] at h
    rw [a8 h.1]
    have := ih h.2
    simpa [backTo] using this
def aF : aG → R (List PyData) := fun _ => .ok []
def ae (f : Fe) (g : aG → R (List PyData)) : aG → R (List PyData) := fun ρ => f ρ >>= fun d => g ρ >>= fun ds => .ok (d :: ds)
section
variable {X : Cx} {e : Expr} {es : List Expr} {f : Fe} {g : aG → R (List PyData)}
theorem sS {I : Hp → PyData → V → Prop} : PA X [] (xl X I aF) := PA.imp vm fun σ H Q ⟨ρ, sl, q⟩ => q [] H (aB.refl _) (by simp only [RA])
theorem ay : nr X [] aF := sS
theorem Z.ay  : Z.nr X [] aF :=
  ⟨D2.ay⟩
theorem sf : As X [] aF := sS
theorem qy {I : Hp → PyData → V → Prop} (hI : ∀ H H' d v, I H d v → aB H H' → I H' d v) (ha : PE X e (ld X (fun _ H' d v => I H' d v) f)) (hr : PA X es (xl X I g))
    (hs : starEach (e :: es) X.env = (false, eval e X.env) :: starEach es X.env := by rfl) : PA X (e :: es) (xl X I (ae f g)) :=
  PA.imp (oZ ha hr hs) fun σ H Q h =>
    (hX (P := fun _ H' d v => I H' d v) (f := f) (k := fun ρ d => g ρ >>= fun ds => .ok (d :: ds)) (yS (X := X) I Q) h).post fun v H1 ⟨ρ1, d1, sl1, _, p1, q1⟩ =>
      (mM (I := I) (f := g) (k := fun _ ds => .ok (d1 :: ds)) (yS (X := X) I Q) ⟨ρ1, sl1, q1⟩).post fun vs H2 ⟨_, ds1, _, s2, p3, q3⟩ =>
        q3 (v :: vs) H2 (aB.refl _) (by simp only [RA]; exact ⟨v, vs, rfl, hI _ _ _ _ p1 s2, p3⟩)
theorem af (ha : ag X e f) (hr : nr X es g) (hs : aq e = true := by rfl) : nr X (e :: es) (ae f g) := qy (fun _ _ _ _ h s => h.mono s) ha hr (a8 hs)
theorem Z.af (ha : Z.ag X e f) (hr : Z.nr X es g) (hs : aq e = true := by rfl) : Z.nr X (e :: es) (ae f g) :=
  ⟨D2.af ha.un hr.un hs⟩
theorem lH (ha : bD X e f) (hr : As X es g) (hs : aq e = true := by rfl) : As X (e :: es) (ae f g) := qy (fun _ _ _ _ h s => h.mono s) ha hr (a8 hs)
end
section
variable {K : PySem.W.Frag} {H : Hp} {x : V}
theorem kf (h : gP H .none x) : x = .non := by
  rcases h with h | h
  · simpa only [Rp] using h
  · simp only [iw] at h
theorem mo {b : Bool} (h : gP H (.bool b) x) : x = .bl b := by
  rcases h with h | h
  · simpa only [Rp] using h
  · simp only [iw] at h
theorem bE {i : Int} (h : gP H (.int i) x) : x = .int i := by
  rcases h with h | h
  · simpa only [Rp] using h
  · simp only [iw] at h
theorem gZ {y : Str} (h : gP H (.str y) x) : x = .str y := by
  rcases h with h | h
  · simpa only [Rp] using h
  · simp only [iw] at h
theorem cR {ds : List PyData} (h : gP H (.tuple ds) x) : ∃ a vs, x = .ref a ∧ H a = some (.tup vs) ∧ bg H ds vs := by
  rcases h with h | h
  · simpa only [Rp] using h
  · simp only [iw] at h
theorem eV {ds : List PyData} (h : gP H (.list ds) x) : ∃ a vs, x = .ref a ∧ mV K H a vs ∧ bg H ds vs := by
  rcases h with h | h
  · simp only [Rp] at h
    obtain ⟨a, o, vs, e, ha, r⟩ := h
    exact ⟨a, vs, e, .inl (.inr ⟨o, ha⟩), r⟩
  · simp only [iw] at h
    obtain ⟨a, vs, e, ha, r⟩ := h
    exact ⟨a, vs, e, .inl (.inl ha), r⟩
theorem xQ {C : Addr} {fs : List (Str × V)} {kvs : List (PyData × PyData)} (h : vd H C fs kvs) : nI kvs = true := by
  cases kvs with
  | nil => simp only [vd] at h
  | cons kd kvs => simp only [vd] at h; rw [h.1]; rfl
theorem wJ {kvs : List (PyData × PyData)} (h : gP H (.dict kvs) x) : ∃ a, x = .ref a := by
  rcases h with h | h
  · simp only [Rp] at h
    rcases h with ⟨a, o, vs, e, _⟩ | ⟨a, o, C, dx, fs, e, _⟩
    · exact ⟨a, e⟩
    · exact ⟨a, e⟩
  · simp only [iw] at h
    obtain ⟨a, vs, e, _⟩ := h
    exact ⟨a, e⟩
theorem ka {kvs : List (PyData × PyData)} (hi : nI kvs = false) (h : gP H (.dict kvs) x) : ∃ a ks, x = .ref a ∧ Rd H a (.dK ks) ∧ dB H kvs ks := by
  rcases h with h | h
  · simp only [Rp] at h
    rcases h with ⟨a, o, vs, e, ha, r⟩ | ⟨a, o, C, dx, fs, e, ha, r⟩
    · exact ⟨a, vs, e, .inr ⟨o, ha⟩, r⟩
    · rw [xQ r] at hi; cases hi
  · simp only [iw] at h
    obtain ⟨a, vs, e, ha, r⟩ := h
    exact ⟨a, vs, e, .inl ha, r⟩
end
theorem bg.nil {H : Hp} : bg H [] [] := by simp only [bg]
theorem bg.cons {H : Hp} {d : PyData} {ds : List PyData} {v : V} {vs : List V} (h : Rp H d v) (t : bg H ds vs) : bg H (d :: ds) (v :: vs) := by simp only [bg]; exact ⟨v, vs, rfl, h, t⟩
theorem bg.nil_inv {H : Hp} {vs : List V} (h : bg H [] vs) : vs = [] := by simpa only [bg] using h
theorem bg.cons_inv {H : Hp} {d : PyData} {ds : List PyData} {vs : List V} (h : bg H (d :: ds) vs) : ∃ v r, vs = v :: r ∧ Rp H d v ∧ bg H ds r := by simpa only [bg] using h
theorem bg.length {H : Hp} : ∀ {ds : List PyData} {vs : List V}, bg H ds vs → vs.length = ds.length
  | [], vs, h => by rw [h.nil_inv]; rfl
  | d :: ds, vs, h => by
    obtain ⟨v, r, rfl, _, t⟩ := h.cons_inv
    rw [List.length_cons, List.length_cons, bg.length t]
theorem bg.get {H : Hp} : ∀ {ds : List PyData} {vs : List V} {i : Nat} {d : PyData}, bg H ds vs → ds[i]? = some d → ∃ v, vs[i]? = some v ∧ Rp H d v
  | [], vs, i, d, h, e => by simp at e
  | d0 :: ds, vs, 0, d, h, e => by
    obtain ⟨v, r, rfl, p, _⟩ := h.cons_inv
    simp at e; subst e
    exact ⟨v, rfl, p⟩
  | d0 :: ds, vs, i + 1, d, h, e => by
    obtain ⟨v, r, rfl, _, t⟩ := h.cons_inv
    obtain ⟨u, e1, p⟩ := bg.get (i := i) t (by simpa using e)
    exact ⟨u, by simpa using e1, p⟩
theorem bg.append {H : Hp} : ∀ {ds es : List PyData} {vs us : List V}, bg H ds vs → bg H es us → bg H (ds ++ es) (vs ++ us)
  | [], es, vs, us, h, g => by rw [h.nil_inv]; exact g
  | d :: ds, es, vs, us, h, g => by
    obtain ⟨v, r, rfl, p, t⟩ := h.cons_inv
    exact bg.cons p (bg.append t g)
theorem bg.take {H : Hp} : ∀ {ds : List PyData} {vs : List V} (n : Nat), bg H ds vs → bg H (ds.take n) (vs.take n)
  | ds, vs, 0, h => by simp only [List.take_zero]; exact bg.nil
  | [], vs, n + 1, h => by rw [h.nil_inv]; exact bg.nil
  | d :: ds, vs, n + 1, h => by
    obtain ⟨v, r, rfl, p, t⟩ := h.cons_inv
    exact bg.cons p (bg.take n t)
theorem bg.drop {H : Hp} : ∀ {ds : List PyData} {vs : List V} (n : Nat), bg H ds vs → bg H (ds.drop n) (vs.drop n)
  | ds, vs, 0, h => h
  | [], vs, n + 1, h => by rw [h.nil_inv]; exact bg.nil
  | d :: ds, vs, n + 1, h => by
    obtain ⟨v, r, rfl, p, t⟩ := h.cons_inv
    exact bg.drop n t
theorem bg.rep {H : Hp} {ds : List PyData} {vs : List V} (h : bg H ds vs) : ∀ k : Nat, bg H (List.replicate k ds).flatten (List.replicate k vs).flatten
  | 0 => bg.nil
  | k + 1 => by rw [List.replicate_succ, List.replicate_succ, List.flatten_cons, List.flatten_cons]; exact bg.append h (bg.rep h k)
theorem bg.ints {H : Hp} : ∀ ns : List Int, bg H (ns.map PyData.int) (ns.map V.int)
  | [] => bg.nil
  | n :: ns => bg.cons (by simp only [Rp]) (bg.ints ns)
theorem bR {H : Hp} {p : Addr} (h : H p = none) (o : HO) : aB H (ca H p o) := fun b u q => by rw [ao (aR q h)]; exact q
theorem cK {H : Hp} {p : Addr} {ds : List PyData} {vs : List V} (h : H p = none) (r : bg H ds vs) : Rp (ca H p (.tup vs)) (.tuple ds) (.ref p) := by
  simp only [Rp]; exact ⟨p, vs, rfl, aU, r.mono (bR h _)⟩
theorem de {H : Hp} {p : Addr} {ds : List PyData} {vs : List V} (h : H p = none) (r : bg H ds vs) : AI H (ca H p (.lst vs)) (.list ds) (.ref p) := by
  refine ⟨?_, p, rfl, h⟩
  simp only [iw]; exact ⟨p, vs, rfl, aU, r.mono (bR h _)⟩
section
variable {P : Program} {w : World} {H : Hp} {h : Heap}
mutual
theorem pT (ok : ji P w H h) : ∀ (d : PyData) (v : V) (u : Value), d.canLay0 = true → Rp H d v → bi v u → ∃ as, Reads h u d as
  | .none, v, u, _, r, e => by simp only [Rp] at r; subst r; cases e; exact ⟨_, .none⟩
  | .bool b, v, u, _, r, e => by simp only [Rp] at r; subst r; cases e; exact ⟨_, .bool b⟩
  | .int i, v, u, _, r, e => by simp only [Rp] at r; subst r; obtain ⟨t, rfl⟩ := e; exact ⟨_, .int i t⟩
  | .str x, v, u, _, r, e => by simp only [Rp] at r; subst r; obtain ⟨t, rfl⟩ := e; exact ⟨_, .str x t⟩
  | .tuple ds, v, u, c, r, e => by
    simp only [Rp] at r
    obtain ⟨a, vs, rfl, ha, r⟩ := r
    cases e
    obtain ⟨_, its, rv, o, h1, h2, n, h3⟩ := (show bF P w H h a (.tup vs) from ok a _ ha)
    obtain ⟨as, q⟩ := gm ok ds vs its (by simpa only [PyData.canLay0] using c) r rv
    exact ⟨as, .tuple h1 h2 h3 (by simpa using q)⟩
  | .list ds, v, u, c, r, e => by
    simp only [Rp] at r
    obtain ⟨a, ob, vs, rfl, ha, r⟩ := r
    cases e
    obtain ⟨_, _, its, n, rv, h1⟩ := (show bF P w H h a (.frz ob (.lst vs)) from ok a _ ha)
    obtain ⟨as, q⟩ := gm ok ds vs its (by simpa only [PyData.canLay0] using c) r rv
    exact ⟨a :: as, .list h1 rfl rfl (by simpa using q)⟩
  | .dict kvs, v, u, c, r, e => by simp [PyData.canLay0] at c
theorem gm (ok : ji P w H h) : ∀ (ds : List PyData) (vs : List V) (us : List Value), PyData.canLayAll0 ds = true → bg H ds vs → bf vs us → ∃ as, ReadsAll h us ds as
  | [], vs, us, _, r, e => by rw [r.nil_inv] at e; cases e; exact ⟨_, .nil⟩
  | d :: ds, vs, us, c, r, e => by
    obtain ⟨v, r', rfl, p, t⟩ := r.cons_inv
    have c' : d.canLay0 = true ∧ PyData.canLayAll0 ds = true := by simpa [PyData.canLayAll0] using c
    cases e with
    | cons e1 e2 =>
      obtain ⟨as, q1⟩ := pT ok d v _ c'.1 p e1
      obtain ⟨bs, q2⟩ := gm ok ds r' _ c'.2 t e2
      exact ⟨as ++ bs, .cons q1 q2⟩
end
theorem cQ (ok : ji P w H h) {d : PyData} {v : V} {u : Value} (c : d.canLay0 = true) (r : gP H d v) (e : bi v u) : ∃ as, Reads h u d as := by
  rcases r with r | r
  · exact pT ok d v u c r e
  · cases d <;> simp only [iw] at r
    · rename_i ds
      obtain ⟨a, vs, rfl, ha, r⟩ := r
      cases e
      obtain ⟨_, its, n, rv, h1⟩ := (show bF P w H h a (.lst vs) from ok a _ ha)
      obtain ⟨as, q⟩ := gm ok ds vs its (by simpa only [PyData.canLay0] using c) r rv
      exact ⟨a :: as, .list h1 rfl rfl (by simpa using q)⟩
    · simp [PyData.canLay0] at c
end
def gI : PyData → Option cH
  | .int i => some (.inl i)
  | .str y => some (.inr y)
  | _ => none
def gr : PyData → PyData → Bool
  | .int i, .int j => decide (i = j)
  | .str i, .str j => decide (i = j)
  | _, _ => false
def rQ (kvs : List (PyData × PyData)) (k v : PyData) : List (PyData × PyData) :=
  if (kvs.any fun kv => gr kv.1 k) = true then kvs.map (fun kv => if gr kv.1 k = true then (kv.1, v) else kv) else kvs ++ [(k, v)]
theorem jb (κ κ' : cH) : gr (e8 κ) (e8 κ') = decide (κ = κ') := by
  cases κ with
  | inl i =>
    cases κ' with
    | inl j => simp [e8, gr]
    | inr j => simp [e8, gr]
  | inr i =>
    cases κ' with
    | inl j => simp [e8, gr]
    | inr j => simp [e8, gr]
theorem dB.cons {H : Hp} {k d : PyData} {kvs : List (PyData × PyData)} {κ : cH} {v : V} {ks : List (cH × V)} (e : k = e8 κ) (h : Rp H d v) (t : dB H kvs ks) : dB H ((k, d) :: kvs) ((κ, v) :: ks) := by
  simp only [dB, xm]; exact ⟨κ, v, ks, rfl, ⟨e, h⟩, t⟩
theorem dB.cons_inv {H : Hp} {k d : PyData} {kvs : List (PyData × PyData)} {ks : List (cH × V)} (h : dB H ((k, d) :: kvs) ks) : ∃ κ v r, ks = (κ, v) :: r ∧ k = e8 κ ∧ Rp H d v ∧ dB H kvs r := by
  simp only [dB, xm] at h
  obtain ⟨κ, v, r, e, ⟨e1, p⟩, t⟩ := h
  exact ⟨κ, v, r, e, e1, p, t⟩
theorem dB.nil_inv {H : Hp} {ks : List (cH × V)} (h : dB H [] ks) : ks = [] := by simpa only [dB] using h
theorem dB.any {H : Hp} (κ : cH) : ∀ {kvs : List (PyData × PyData)} {ks : List (cH × V)}, dB H kvs ks → (kvs.any fun kv => gr kv.1 (e8 κ)) = ks.any fun kv => decide (kv.1 = κ)
  | [], ks, h => by rw [h.nil_inv]; rfl
  | (k, d) :: kvs, ks, h => by
    obtain ⟨κ', v, r, rfl, rfl, p, t⟩ := h.cons_inv
    rw [List.any_cons, List.any_cons, dB.any κ t, jb]
theorem dB.repl {H : Hp} (κ : cH) {d : PyData} {v : V} (hv : Rp H d v) : ∀ {kvs : List (PyData × PyData)} {ks : List (cH × V)}, dB H kvs ks →
    dB H (kvs.map fun kv => if gr kv.1 (e8 κ) = true then (kv.1, d) else kv) (ks.map fun kv => if kv.1 = κ then (kv.1, v) else kv)
  | [], ks, h => by rw [h.nil_inv]; simp only [List.map_nil, dB]
  | (k, d') :: kvs, ks, h => by
    obtain ⟨κ', v', r, rfl, rfl, p, t⟩ := h.cons_inv
    rw [List.map_cons, List.map_cons]
    dsimp only
    rw [jb]
    by_cases e : κ' = κ
    · rw [if_pos (decide_eq_true e), if_pos e]; exact dB.cons rfl hv (dB.repl κ hv t)
    · rw [if_neg (by rw [decide_eq_false e]; exact Bool.false_ne_true), if_neg e]; exact dB.cons rfl p (dB.repl κ hv t)
theorem dB.snoc {H : Hp} {κ : cH} {d : PyData} {v : V} (hv : Rp H d v) : ∀ {kvs : List (PyData × PyData)} {ks : List (cH × V)}, dB H kvs ks → dB H (kvs ++ [(e8 κ, d)]) (ks ++ [(κ, v)])
  | [], ks, h => by rw [h.nil_inv]; exact dB.cons rfl hv (by simp only [dB])
  | (k, d') :: kvs, ks, h => by
    obtain ⟨κ', v', r, rfl, rfl, p, t⟩ := h.cons_inv
    exact dB.cons rfl p (dB.snoc hv t)
theorem dB.put {H : Hp} (κ : cH) {d : PyData} {v : V} (hv : Rp H d v) {kvs : List (PyData × PyData)} {ks : List (cH × V)} (h : dB H kvs ks) : dB H (rQ kvs (e8 κ) d) (kj ks κ v) := by
  unfold rQ kj
  rw [h.any κ]
  split
  · exact h.repl κ hv
  · exact h.snoc hv
def lg (kvs : List (PyData × PyData)) (k : PyData) : Option PyData := (kvs.find? fun kv => gr kv.1 k).map (·.2)
theorem dB.look {H : Hp} (κ : cH) : ∀ {kvs : List (PyData × PyData)} {ks : List (cH × V)}, dB H kvs ks → (lg kvs (e8 κ) = none ∧ jt ks κ = none) ∨ ∃ d v, lg kvs (e8 κ) = some d ∧ jt ks κ = some v ∧ Rp H d v
  | [], ks, h => .inl (by rw [h.nil_inv]; exact ⟨rfl, rfl⟩)
  | (k, d) :: kvs, ks, h => by
    obtain ⟨κ', v, r, rfl, rfl, p, t⟩ := h.cons_inv
    unfold lg jt
    by_cases e : κ' = κ
    · rw [List.find?_cons_of_pos (by rw [jb]; exact decide_eq_true e), List.find?_cons_of_pos (by exact decide_eq_true e)]
      exact .inr ⟨d, v, rfl, rfl, p⟩
    · rw [List.find?_cons_of_neg (by rw [jb, decide_eq_false e]; exact Bool.false_ne_true), List.find?_cons_of_neg (by rw [decide_eq_false e]; exact Bool.false_ne_true)]
      exact dB.look κ t
theorem qu {d : PyData} {κ : cH} (h : gI d = some κ) : d = e8 κ := by
  cases d <;> simp only [gI] at h <;> cases h <;> rfl
theorem tW {H : Hp} {d : PyData} {x : V} {κ : cH} (h : gP H d x) (e : gI d = some κ) : x = kV κ := by
  cases d <;> simp only [gI] at e <;> cases e
  · exact bE h
  · exact gZ h
theorem sZ {H : Hp} {a : Addr} {kvs : List (PyData × PyData)} {ks : List (cH × V)} {κ : cH} (h : Rd H a (.dK ks)) (r : dB H kvs ks) : ∃ o, mf H a (kV κ) o ∧ o.isSome = (lg kvs (e8 κ)).isSome ∧ ∀ d, lg kvs (e8 κ) = some d → ∃ v, o = some v ∧ Rp H d v := by
  refine ⟨jt ks κ, .inl ⟨ks, κ, h, rfl, rfl⟩, ?_⟩
  rcases r.look κ with ⟨e1, e2⟩ | ⟨d, v, e1, e2, p⟩
  · rw [e1, e2]; exact ⟨rfl, fun d z => by cases z⟩
  · rw [e1, e2]; exact ⟨rfl, fun d z => by cases z; exact ⟨v, rfl, p⟩⟩
def lO : PyData → PyData → R PyData
  | .int i, .int j => .ok (.int (i - j))
  | _, _ => .no
def fR : PyData → PyData → R PyData
  | .int i, .int j => if 0 < j then .ok (.int (i % j)) else .no
  | _, _ => .no
def lV : PyData → PyData → R PyData
  | .int i, .int j => if 0 < j ∧ j < 1073741824 then .ok (.int (i / j)) else .no
  | _, _ => .no
def eu (p : Int → Int → Bool) : PyData → PyData → R PyData
  | .int i, .int j => .ok (.bool (p i j))
  | _, _ => .no
def o1 (x y : PyData) : Bool := x.canLay0 && y.canLay0 && decide (min x.depth y.depth ≤ 60)
def ip (x y : PyData) : R PyData := if o1 x y = true then .ok (.bool (PyData.eqv x y)) else .no
def jw (x y : PyData) : R PyData := if o1 x y = true then .ok (.bool (!PyData.eqv x y)) else .no
def dZ : PyData → Bool
  | .none => true
  | _ => false
def j9 (x y : PyData) : R PyData := if dZ y = true then .ok (.bool (dZ x)) else .no
def eA (x y : PyData) : R PyData := if dZ y = true then .ok (.bool (!dZ x)) else .no
def oo (xs : List PyData) (d : PyData) : Bool := PyData.canLayAll0 xs && d.canLay0 && decide (min (PyData.depthAll xs) d.depth ≤ 60)
def iG (neg : Bool) (d : PyData) : PyData → R PyData
  | .list xs => if oo xs d = true then .ok (.bool (if neg then !(xs.any fun y => PyData.eqv y d) else xs.any fun y => PyData.eqv y d)) else .no
  | .tuple xs => if oo xs d = true then .ok (.bool (if neg then !(xs.any fun y => PyData.eqv y d) else xs.any fun y => PyData.eqv y d)) else .no
  | .dict kvs => if nI kvs = true then .no else match gI d with
    | some _ => .ok (.bool (if neg then !(lg kvs d).isSome else (lg kvs d).isSome))
    | none => .no
  | _ => .no
section
variable {X : Cx} {a b c : Expr} {fa fb fc : Fe} {pos : Pos}
theorem cS {H : Hp} {i : Int} : Rp H (.int i) (.int i) := by simp only [Rp]
theorem fJ {H : Hp} {i : Bool} : Rp H (.bool i) (.bl i) := by simp only [Rp]
theorem vG {H : Hp} {i : Str} : Rp H (.str i) (.str i) := by simp only [Rp]
theorem zO : cB X km (xj fun i j => .int (i - j)) lO := fun H x y dx dy Q hx hy q => by
  unfold lO at q
  split at q
  · exact ⟨_, _, bE hx, bE hy, q _ H (aB.refl _) cS⟩
  · exact q.elim
theorem zD : cB X km (rI (fun _ j => 0 < j) fun i j => .int (i % j)) fR := fun H x y dx dy Q hx hy q => by
  unfold fR at q
  split at q
  · split at q
    · rename_i h; exact ⟨_, _, bE hx, bE hy, h, q _ H (aB.refl _) cS⟩
    · exact q.elim
  · exact q.elim
theorem At : cB X km (rI BQ fun i j => .int (i / j)) lV := fun H x y dx dy Q hx hy q => by
  unfold lV at q
  split at q
  · split at q
    · rename_i h; exact ⟨_, _, bE hx, bE hy, h, q _ H (aB.refl _) cS⟩
    · exact q.elim
  · exact q.elim
theorem oz {p : Int → Int → Bool} : cB X km (xj fun i j => .bl (p i j)) (eu p) := fun H x y dx dy Q hx hy q => by
  unfold eu at q
  split at q
  · exact ⟨_, _, bE hx, bE hy, q _ H (aB.refl _) fJ⟩
  · exact q.elim
theorem kT (ha : bD X a fa) (hb : bD X b fb) : ag X (.BinOp a .Sub b pos) (e2 lO fa fb) := mN iu zK zO ha hb
theorem Z.kT (ha : Z.bD X a fa) (hb : Z.bD X b fb) : Z.ag X (.BinOp a .Sub b pos) (e2 lO fa fb) :=
  ⟨D2.kT ha.un hb.un⟩
theorem cT (ha : bD X a fa) (hb : bD X b fb) : ag X (.BinOp a .Mod b pos) (e2 fR fa fb) := mN iu zR zD ha hb
theorem Z.cT (ha : Z.bD X a fa) (hb : Z.bD X b fb) : Z.ag X (.BinOp a .Mod b pos) (e2 fR fa fb) :=
  ⟨D2.cT ha.un hb.un⟩
theorem ix (ha : bD X a fa) (hb : bD X b fb) : ag X (.BinOp a .FloorDiv b pos) (e2 lV fa fb) := mN iu xr At ha hb
theorem Z.ix (ha : Z.bD X a fa) (hb : Z.bD X b fb) : Z.ag X (.BinOp a .FloorDiv b pos) (e2 lV fa fb) :=
  ⟨D2.ix ha.un hb.un⟩
abbrev Cz : Int → Int → Bool := fun i j => decide (i < j)
abbrev BL : Int → Int → Bool := fun i j => decide (i ≤ j)
abbrev pV : Int → Int → Bool := fun i j => decide (j < i)
theorem vD (ha : bD X a fa) (hb : bD X b fb) : ag X (.Compare a [.Gt] [b] pos) (e2 (eu pV) fa fb) := oB zh oz ha hb (ge _)
theorem Z.vD (ha : Z.bD X a fa) (hb : Z.bD X b fb) : Z.ag X (.Compare a [.Gt] [b] pos) (e2 (eu pV) fa fb) :=
  ⟨D2.vD ha.un hb.un⟩
theorem sn (ha : bD X a fa) (hb : bD X b fb) : gg X (.Compare a [.Lt] [b] pos) (tE (e2 (eu Cz) fa fb)) := fE Ba oz ha hb (ge _)
theorem Z.sn (ha : Z.bD X a fa) (hb : Z.bD X b fb) : Z.gg X (.Compare a [.Lt] [b] pos) (tE (e2 (eu Cz) fa fb)) :=
  ⟨D2.sn ha.un hb.un⟩
theorem sA (ha : bD X a fa) (hb : bD X b fb) : gg X (.Compare a [.LtE] [b] pos) (tE (e2 (eu BL) fa fb)) := fE A2 oz ha hb (ge _)
theorem Z.sA (ha : Z.bD X a fa) (hb : Z.bD X b fb) : Z.gg X (.Compare a [.LtE] [b] pos) (tE (e2 (eu BL) fa fb)) :=
  ⟨D2.sA ha.un hb.un⟩
theorem lY (ha : bD X a fa) (hb : bD X b fb) : gg X (.Compare a [.Gt] [b] pos) (tE (e2 (eu pV) fa fb)) := fE zh oz ha hb (ge _)
theorem Z.lY (ha : Z.bD X a fa) (hb : Z.bD X b fb) : Z.gg X (.Compare a [.Gt] [b] pos) (tE (e2 (eu pV) fa fb)) :=
  ⟨D2.lY ha.un hb.un⟩
def yl (X : Cx) (neg : Bool) : R2 := fun x y H Q => ∃ dx dy, gP H dx x ∧ gP H dy y ∧ o1 dx dy = true ∧ Q (.bl (if neg then !PyData.eqv dx dy else PyData.eqv dx dy)) H
theorem mZ {x y : PyData} (h : o1 x y = true) : x.canLay0 = true ∧ y.canLay0 = true ∧ min x.depth y.depth ≤ 60 := by
  unfold o1 at h
  rw [Bool.and_eq_true, Bool.and_eq_true, decide_eq_true_eq] at h
  exact ⟨h.1.1, h.1.2, h.2⟩
theorem wW (hu : X.A.units + 64 < cLine) : jA X (compareOp .Eq) (yl X false) := by
  intro pins s σ H x y v u Q I rx ry h
  obtain ⟨dx, dy, hx, hy, ho, q⟩ := h
  obtain ⟨c1, c2, c3⟩ := mZ ho
  obtain ⟨as, r1⟩ := cQ I.hok c1 hx rx
  obtain ⟨bs, r2⟩ := cQ I.hok c2 hy ry
  exact PySem.SeqAt.compareEq_reads r1 r2 c1 c2 (by omega) ⟨.bl _, H, I, rfl, q⟩
theorem vY (hu : X.A.units + 64 < cLine) : jA X (compareOp .NotEq) (yl X true) := by
  intro pins s σ H x y v u Q I rx ry h
  obtain ⟨dx, dy, hx, hy, ho, q⟩ := h
  obtain ⟨c1, c2, c3⟩ := mZ ho
  obtain ⟨as, r1⟩ := cQ I.hok c1 hx rx
  obtain ⟨bs, r2⟩ := cQ I.hok c2 hy ry
  exact PySem.SeqAt.compareNe_reads r1 r2 c1 c2 (by omega) ⟨.bl _, H, I, rfl, q⟩
theorem yQ : cB X km (yl X false) ip := fun H x y dx dy Q hx hy q => by
  unfold ip at q
  split at q
  · rename_i h; exact ⟨dx, dy, hx, hy, h, q _ H (aB.refl _) fJ⟩
  · exact q.elim
theorem zf : cB X km (yl X true) jw := fun H x y dx dy Q hx hy q => by
  unfold jw at q
  split at q
  · rename_i h; exact ⟨dx, dy, hx, hy, h, q _ H (aB.refl _) fJ⟩
  · exact q.elim
theorem tf (hu : X.A.units + 64 < cLine) (ha : bD X a fa) (hb : bD X b fb) : ag X (.Compare a [.Eq] [b] pos) (e2 ip fa fb) := oB (wW hu) yQ ha hb (ge _)
theorem Z.tf (hu : X.A.units + 64 < cLine) (ha : Z.bD X a fa) (hb : Z.bD X b fb) : Z.ag X (.Compare a [.Eq] [b] pos) (e2 ip fa fb) :=
  ⟨D2.tf hu ha.un hb.un⟩
theorem wx (hu : X.A.units + 64 < cLine) (ha : bD X a fa) (hb : bD X b fb) : ag X (.Compare a [.NotEq] [b] pos) (e2 jw fa fb) := oB (vY hu) zf ha hb (ge _)
theorem Z.wx (hu : X.A.units + 64 < cLine) (ha : Z.bD X a fa) (hb : Z.bD X b fb) : Z.ag X (.Compare a [.NotEq] [b] pos) (e2 jw fa fb) :=
  ⟨D2.wx hu ha.un hb.un⟩
theorem eK (hu : X.A.units + 64 < cLine) (ha : bD X a fa) (hb : bD X b fb) : gg X (.Compare a [.Eq] [b] pos) (tE (e2 ip fa fb)) := fE (wW hu) yQ ha hb (ge _)
theorem Z.eK (hu : X.A.units + 64 < cLine) (ha : Z.bD X a fa) (hb : Z.bD X b fb) : Z.gg X (.Compare a [.Eq] [b] pos) (tE (e2 ip fa fb)) :=
  ⟨D2.eK hu ha.un hb.un⟩
theorem gv (hu : X.A.units + 64 < cLine) (ha : bD X a fa) (hb : bD X b fb) : gg X (.Compare a [.NotEq] [b] pos) (tE (e2 jw fa fb)) := fE (vY hu) zf ha hb (ge _)
theorem Z.gv (hu : X.A.units + 64 < cLine) (ha : Z.bD X a fa) (hb : Z.bD X b fb) : Z.gg X (.Compare a [.NotEq] [b] pos) (tE (e2 jw fa fb)) :=
  ⟨D2.gv hu ha.un hb.un⟩
theorem tL {H : Hp} {d : PyData} {x : V} (h : gP H d x) : decide (x = .non) = dZ d := by
  cases d with
  | none => rw [kf h]; rfl
  | bool b => rw [mo h]; rfl
  | int i => rw [bE h]; rfl
  | str y => rw [gZ h]; rfl
  | tuple ds => obtain ⟨a, vs, rfl, _⟩ := cR h; rfl
  | list ds => obtain ⟨a, vs, rfl, _⟩ := eV (K := default) h; rfl
  | dict kvs => obtain ⟨a, rfl⟩ := wJ h; rfl
theorem vV : cB X km (fun x y H Q => y = .non ∧ Q (.bl (decide (x = .non))) H) j9 := fun H x y dx dy Q hx hy q => by
  unfold j9 at q
  split at q
  · rename_i h
    cases dy <;> simp only [dZ, Bool.false_eq_true] at h
    exact ⟨kf hy, by rw [tL hx]; exact q _ H (aB.refl _) fJ⟩
  · exact q.elim
theorem xA : cB X km (fun x y H Q => y = .non ∧ Q (.bl (!decide (x = .non))) H) eA := fun H x y dx dy Q hx hy q => by
  unfold eA at q
  split at q
  · rename_i h
    cases dy <;> simp only [dZ, Bool.false_eq_true] at h
    exact ⟨kf hy, by rw [tL hx]; exact q _ H (aB.refl _) fJ⟩
  · exact q.elim
theorem rW (ha : bD X a fa) (hb : bD X b fb) : ag X (.Compare a [.Is] [b] pos) (e2 j9 fa fb) := oB vw vV ha hb (ge _)
theorem Z.rW (ha : Z.bD X a fa) (hb : Z.bD X b fb) : Z.ag X (.Compare a [.Is] [b] pos) (e2 j9 fa fb) :=
  ⟨D2.rW ha.un hb.un⟩
theorem lG (ha : bD X a fa) (hb : bD X b fb) : gg X (.Compare a [.Is] [b] pos) (tE (e2 j9 fa fb)) := fE vw vV ha hb (ge _)
theorem Z.lG (ha : Z.bD X a fa) (hb : Z.bD X b fb) : Z.gg X (.Compare a [.Is] [b] pos) (tE (e2 j9 fa fb)) :=
  ⟨D2.lG ha.un hb.un⟩
theorem fU (ha : bD X a fa) (hb : bD X b fb) : gg X (.Compare a [.IsNot] [b] pos) (tE (e2 eA fa fb)) := fE yy xA ha hb (ge _)
theorem Z.fU (ha : Z.bD X a fa) (hb : Z.bD X b fb) : Z.gg X (.Compare a [.IsNot] [b] pos) (tE (e2 eA fa fb)) :=
  ⟨D2.fU ha.un hb.un⟩
def CB (X : Cx) (neg : Bool) : R2 := fun x y H Q => ∃ d xs, gP H d x ∧ (gP H (.list xs) y ∨ gP H (.tuple xs) y) ∧ oo xs d = true ∧ Q (.bl (if neg then !(xs.any fun z => PyData.eqv z d) else xs.any fun z => PyData.eqv z d)) H
def z0 (X : Cx) (neg : Bool) : R2 := fun x y H Q => CB X neg x y H Q ∨ ∃ a o, y = .ref a ∧ mf H a x o ∧ Q (.bl (if neg then !o.isSome else o.isSome)) H
theorem mC {xs : List PyData} {d : PyData} (h : oo xs d = true) : PyData.canLayAll0 xs = true ∧ d.canLay0 = true ∧ min (PyData.depthAll xs) d.depth ≤ 60 := by
  unfold oo at h
  rw [Bool.and_eq_true, Bool.and_eq_true, decide_eq_true_eq] at h
  exact ⟨h.1.1, h.1.2, h.2⟩
theorem Ai (hu : X.A.units + 64 < cLine) : jA X (compareOp .In) (z0 X false) := by
  intro pins s σ H x y v u Q I rx ry h
  rcases h with h | ⟨a, o, rfl, g, q⟩
  case inr =>
    cases ry
    exact B8 (by omega) I g rx fun s' I' => ⟨.bl _, H, I', rfl, q⟩
  obtain ⟨d, xs, hx, hy, ho, q⟩ := h
  obtain ⟨c1, c2, c3⟩ := mC ho
  obtain ⟨as, r1⟩ := cQ I.hok c2 hx rx
  rcases hy with hy | hy
  · obtain ⟨bs, r2⟩ := cQ I.hok (d := .list xs) (by simpa only [PyData.canLay0] using c1) hy ry
    exact PySem.SeqAt.in_list_reads r2 r1 c1 c2 (by omega) ⟨.bl _, H, I, rfl, q⟩
  · obtain ⟨bs, r2⟩ := cQ I.hok (d := .tuple xs) (by simpa only [PyData.canLay0] using c1) hy ry
    exact PySem.SeqAt.in_tuple_reads r2 r1 c1 c2 (by omega) ⟨.bl _, H, I, rfl, q⟩
theorem ud (hu : X.A.units + 64 < cLine) : jA X (compareOp .NotIn) (z0 X true) := by
  intro pins s σ H x y v u Q I rx ry h
  rcases h with h | ⟨a, o, rfl, g, q⟩
  case inr =>
    cases ry
    exact yH (by omega) I g rx fun s' I' => ⟨.bl _, H, I', rfl, q⟩
  obtain ⟨d, xs, hx, hy, ho, q⟩ := h
  obtain ⟨c1, c2, c3⟩ := mC ho
  obtain ⟨as, r1⟩ := cQ I.hok c2 hx rx
  rcases hy with hy | hy
  · obtain ⟨bs, r2⟩ := cQ I.hok (d := .list xs) (by simpa only [PyData.canLay0] using c1) hy ry
    exact PySem.SeqAt.notIn_list_reads r2 r1 c1 c2 (by omega) ⟨.bl _, H, I, rfl, q⟩
  · obtain ⟨bs, r2⟩ := cQ I.hok (d := .tuple xs) (by simpa only [PyData.canLay0] using c1) hy ry
    exact PySem.SeqAt.notIn_tuple_reads r2 r1 c1 c2 (by omega) ⟨.bl _, H, I, rfl, q⟩
theorem yX {neg : Bool} : cB X km (z0 X neg) (iG neg) := fun H x y dx dy Q hx hy q => by
  unfold iG at q
  split at q
  · split at q
    · rename_i h; exact .inl ⟨dx, _, hx, .inl hy, h, q _ H (aB.refl _) fJ⟩
    · exact q.elim
  · split at q
    · rename_i h; exact .inl ⟨dx, _, hx, .inr hy, h, q _ H (aB.refl _) fJ⟩
    · exact q.elim
  · split at q
    · exact q.elim
    rename_i hi
    split at q
    · rename_i κ e
      obtain ⟨a, ks, rfl, h, r⟩ := ka (Bool.not_eq_true _ ▸ hi) hy
      obtain ⟨o, g, e1, _⟩ := sZ (κ := κ) h r
      rw [← tW hx e] at g
      rw [← qu e] at e1
      exact .inr ⟨a, o, rfl, g, by rw [e1]; exact q _ H (aB.refl _) fJ⟩
    · exact q.elim
  · exact q.elim
theorem jC (hu : X.A.units + 64 < cLine) (ha : bD X a fa) (hb : bD X b fb) (hm : behindInMarks .In b = false) : gg X (.Compare a [.In] [b] pos) (tE (e2 (iG false) fa fb)) := fE (Ai hu) yX ha hb hm
theorem Z.jC (hu : X.A.units + 64 < cLine) (ha : Z.bD X a fa) (hb : Z.bD X b fb) (hm : behindInMarks .In b = false) : Z.gg X (.Compare a [.In] [b] pos) (tE (e2 (iG false) fa fb)) :=
  ⟨D2.jC hu ha.un hb.un hm⟩
theorem eB (hu : X.A.units + 64 < cLine) (ha : bD X a fa) (hb : bD X b fb) (hm : behindInMarks .NotIn b = false) : gg X (.Compare a [.NotIn] [b] pos) (tE (e2 (iG true) fa fb)) := fE (ud hu) yX ha hb hm
theorem Z.eB (hu : X.A.units + 64 < cLine) (ha : Z.bD X a fa) (hb : Z.bD X b fb) (hm : behindInMarks .NotIn b = false) : Z.gg X (.Compare a [.NotIn] [b] pos) (tE (e2 (iG true) fa fb)) :=
  ⟨D2.eB hu ha.un hb.un hm⟩
end
inductive vf where
  | nx (ρ : aG)
  | rt (d : PyData)
  | bk (ρ : aG)
  | ct (ρ : aG)
abbrev Fs := aG → R vf
structure gW (Fm H : Hp) (σ : St) (ρ : aG) : Prop where
  fm : aB Fm H
  sl : Sl H σ ρ
  own : ∀ (i : Nat) (d : PyData) (a : Addr), ρ[i]? = some (.own d) → σ[i]? = some (some (.ref a)) → Fm a = none
  apart : ∀ (i j : Nat) (d e : PyData) (a : Addr), ρ[i]? = some (.own d) → ρ[j]? = some (.own e) → σ[i]? = some (some (.ref a)) → σ[j]? = some (some (.ref a)) → i = j
theorem gW.mono {Fm H H' : Hp} {σ : St} {ρ : aG} (h : gW Fm H σ ρ) (s : aB H H') : gW Fm H' σ ρ := ⟨h.fm.trans s, h.sl.mono s, h.own, h.apart⟩
def yM (X : Cx) (Fm : Hp) (r : R vf) (D : qt) : Prop :=
  match r with
  | .ok (.nx ρ) => ∀ σ H, gW Fm H σ ρ → D.nx σ H
  | .ok (.rt d) => ∀ v H, aB Fm H → Rp H d v → D.rt v H
  | .ok (.bk ρ) => ∀ σ H, gW Fm H σ ρ → D.bk σ H
  | .ok (.ct ρ) => ∀ σ H, gW Fm H σ ρ → D.ct σ H
  | .ex c => Xw X c Fm ∧ BG X c Fm
  | .no => False
def yR (X : Cx) (Fm : Hp) (g : Fs) : TS := fun D σ H => ∃ ρ, gW Fm H σ ρ ∧ yM X Fm (g ρ) D
def eR (X : Cx) (st : Stmt) (g : Fs) : Prop := ∀ Fm, PS X st (yR X Fm g)
structure Z.eR (X : Cx) (st : Stmt) (g : Fs) : Prop where
  un : D2.eR X st g
def gz (X : Cx) (st : List Stmt) (g : Fs) : Prop := ∀ Fm, pr X st (yR X Fm g)
structure Z.gz (X : Cx) (st : List Stmt) (g : Fs) : Prop where
  un : D2.gz X st g
theorem PS.imp {X : Cx} {e : Stmt} {t t' : TS} (h : PS X e t) (i : ∀ D σ H, t' D σ H → t D σ H) : PS X e t' := fun pins s σ H D I q => h pins s σ H D I (i D σ H q)
theorem pr.imp {X : Cx} {e : List Stmt} {t t' : TS} (h : pr X e t) (i : ∀ D σ H, t' D σ H → t D σ H) : pr X e t' := fun pins s σ H D I q => h pins s σ H D I (i D σ H q)
section
variable {X : Cx} {Fm : Hp} {σ : St} {H : Hp} {D : qt}
theorem ml {P : Hp → Hp → PyData → V → Prop} {f : Fe} {k : aG → PyData → R vf} (h : yR X Fm (fun ρ => f ρ >>= k ρ) D σ H) :
    ld X P f σ H (fun v H1 => ∃ ρ d, gW Fm H1 σ ρ ∧ aB H H1 ∧ P H H1 d v ∧ yM X Fm (k ρ d) D) := by
  obtain ⟨ρ, sl, q⟩ := h
  refine ⟨ρ, sl.sl, ?_⟩
  dsimp only at q
  cases e : f ρ with
  | ok d => rw [e] at q; exact fun v H1 s p => ⟨ρ, d, sl.mono s, s, p, q⟩
  | ex c => rw [e] at q; exact q.1.mono sl.fm
  | no => rw [e] at q; exact q
theorem tN {f : aG → R Bool} {k : aG → Bool → R vf} (h : yR X Fm (fun ρ => f ρ >>= k ρ) D σ H) : yG X f σ H (fun b H1 => ∃ ρ, gW Fm H1 σ ρ ∧ aB H H1 ∧ yM X Fm (k ρ b) D) := by
  obtain ⟨ρ, sl, q⟩ := h
  refine ⟨ρ, sl.sl, ?_⟩
  dsimp only at q
  cases e : f ρ with
  | ok d => rw [e] at q; exact fun H1 s => ⟨ρ, sl.mono s, s, q⟩
  | ex c => rw [e] at q; exact q.1.mono sl.fm
  | no => rw [e] at q; exact q
end
def bT : Fs := fun ρ => .ok (.nx ρ)
def tD (h : Fs) : vf → R vf
  | .nx ρ => h ρ
  | o => .ok o
def aL (g h : Fs) : Fs := fun ρ => g ρ >>= tD h
def iK (t : aG → R Bool) (g h : Fs) : Fs := fun ρ => t ρ >>= fun b => if b = true then g ρ else h ρ
def bL (f : Fe) : Fs := fun ρ => f ρ >>= fun d => .ok (.rt d)
def bG (i : Nat) (f : Fe) : Fs := fun ρ => f ρ >>= fun d => .ok (.nx (ρ.set i (.val d)))
def gO (i : Nat) (f : Fe) : Fs := fun ρ => f ρ >>= fun d => .ok (.nx (ρ.set i (.own d)))
section
variable {X : Cx} {nl : Nat} {G : List Str} {st : Stmt} {sts : List Stmt} {g h : Fs} {f : Fe} {e : Expr} {pos pos' : Pos} {x : Str}
theorem cs : gz X [] bT := fun Fm => pr.imp yj fun D σ H ⟨ρ, sl, q⟩ => q σ H sl
theorem Z.cs  : Z.gz X [] bT :=
  ⟨D2.cs⟩
theorem am (h1 : eR X st g) (h2 : gz X sts h) : gz X (st :: sts) (aL g h) := fun Fm => by
  refine pr.imp (mH (h1 Fm) (h2 Fm)) fun D σ H ⟨ρ, sl, q⟩ => ⟨ρ, sl, ?_⟩
  unfold aL at q
  cases e : g ρ with
  | ex c => rw [e] at q; exact q
  | no => rw [e] at q; exact q
  | ok o =>
    rw [e] at q
    cases o with
    | nx ρ' => exact fun σ' H' s' => ⟨ρ', s', q⟩
    | rt d => exact q
    | bk ρ' => exact q
    | ct ρ' => exact q
theorem Z.am (h1 : Z.eR X st g) (h2 : Z.gz X sts h) : Z.gz X (st :: sts) (aL g h) :=
  ⟨D2.am h1.un h2.un⟩
theorem aA (h1 : eR X st g) : gz X [st] g := fun Fm => tM (h1 Fm)
theorem Z.aA (h1 : Z.eR X st g) : Z.gz X [st] g :=
  ⟨D2.aA h1.un⟩
theorem aQ (he : ag X e f) : eR X (.Return (some e) pos) (bL f) := fun Fm =>
  PS.imp (sr he) fun D σ H h => (ml (P := km) (f := f) (k := fun _ d => .ok (.rt d)) h).post fun v H1 ⟨ρ, d, sl, _, p, q⟩ => q v H1 sl.fm p
theorem Z.aQ (he : Z.ag X e f) : Z.eR X (.Return (some e) pos) (bL f) :=
  ⟨D2.aQ he.un⟩
theorem dr {c : Expr} {a b : List Stmt} {t : aG → R Bool} (hc : gg X c t) (ha : gz X a g) (hb : gz X b h) : eR X (.If c a b pos) (iK t g h) := fun Fm =>
  PS.imp (A7 hc (ha Fm) (hb Fm)) fun D σ H q => (tN (f := t) (k := fun ρ b => if b = true then g ρ else h ρ) q).post fun b H1 ⟨ρ, sl, _, q⟩ => by
    cases b with
    | true => exact ⟨ρ, sl, q⟩
    | false => exact ⟨ρ, sl, q⟩
theorem Z.dr {c : Expr} {a b : List Stmt} {t : aG → R Bool} (hc : Z.gg X c t) (ha : Z.gz X a g) (hb : Z.gz X b h) : Z.eR X (.If c a b pos) (iK t g h) :=
  ⟨D2.dr hc.un ha.un hb.un⟩
theorem Sl.set {H : Hp} {σ : St} {ρ : aG} {c : aV} {o : Option V} (h : Sl H σ ρ) (i : Nat) (hc : iW H c o) : Sl H (σ.set i o) (ρ.set i c) := by
  refine ⟨by rw [List.length_set, List.length_set]; exact h.1, fun j c' o' h1 h2 => ?_⟩
  rw [List.getElem?_set] at h1 h2
  by_cases hij : i = j
  · rw [if_pos hij] at h1 h2
    by_cases hi : i < ρ.length
    · rw [if_pos hi] at h1
      rw [if_pos (by rw [h.1]; exact hi)] at h2
      cases h1; cases h2; exact hc
    · rw [if_neg hi] at h1; cases h1
  · rw [if_neg hij] at h1 h2
    exact h.2 j c' o' h1 h2
theorem bK {ρ : aG} {i j : Nat} {c : aV} {d : PyData} (hc : ∀ e, c ≠ .own e) (h : (ρ.set i c)[j]? = some (.own d)) : i ≠ j ∧ ρ[j]? = some (.own d) := by
  rw [List.getElem?_set] at h
  by_cases hij : i = j
  · rw [if_pos hij] at h
    split at h
    · exact absurd (Option.some.inj h) (hc d)
    · cases h
  · rw [if_neg hij] at h; exact ⟨hij, h⟩
theorem gW.set {Fm H : Hp} {σ : St} {ρ : aG} {c : aV} {o : Option V} (h : gW Fm H σ ρ) (i : Nat) (hn : ∀ e, c ≠ .own e) (hc : iW H c o) : gW Fm H (σ.set i o) (ρ.set i c) := by
  refine ⟨h.fm, h.sl.set i hc, fun j d a h1 h2 => ?_, fun j k d e a h1 h2 h3 h4 => ?_⟩
  · obtain ⟨ne, h1⟩ := bK hn h1
    rw [List.getElem?_set, if_neg ne] at h2
    exact h.own j d a h1 h2
  · obtain ⟨ne, h1⟩ := bK hn h1
    obtain ⟨ne', h2⟩ := bK hn h2
    rw [List.getElem?_set, if_neg ne] at h3
    rw [List.getElem?_set, if_neg ne'] at h4
    exact h.apart j k d e a h1 h2 h3 h4
theorem oY {H : Hp} {d : PyData} {v : V} (h : iw H d v) : ∃ a o, v = .ref a ∧ H a = some o := by
  cases d <;> simp only [iw] at h
  · obtain ⟨a, vs, e, ha, _⟩ := h; exact ⟨a, _, e, ha⟩
  · obtain ⟨a, vs, e, ha, _⟩ := h; exact ⟨a, _, e, ha⟩
theorem gW.setOwn {Fm H0 H : Hp} {σ : St} {ρ : aG} {d : PyData} {v : V} (h0 : gW Fm H0 σ ρ) (h : gW Fm H σ ρ) (hs : aB H0 H) (i : Nat) (hn : AI H0 H d v) : gW Fm H (σ.set i (some v)) (ρ.set i (.own d)) := by
  obtain ⟨p, a, rfl, ha⟩ := hn
  have old : ∀ (j : Nat) (e : PyData) (b : Addr), i ≠ j → (ρ.set i (.own d))[j]? = some (.own e) → (σ.set i (some (.ref a)))[j]? = some (some (.ref b)) → ρ[j]? = some (.own e) ∧ σ[j]? = some (some (.ref b)) := fun j e b ne h1 h2 => by
    rw [List.getElem?_set, if_neg ne] at h1 h2
    exact ⟨h1, h2⟩
  have notA : ∀ (j : Nat) (e : PyData), ρ[j]? = some (.own e) → σ[j]? = some (some (.ref a)) → False := fun j e h1 h2 => by
    obtain ⟨u, e1, q⟩ := h0.sl.2 j _ _ h1 h2
    cases e1
    obtain ⟨b, o, e2, hb⟩ := oY q
    cases e2
    rw [ha] at hb; cases hb
  have here : ∀ (b : Addr), (σ.set i (some (.ref a)))[i]? = some (some (.ref b)) → b = a := fun b h2 => by
    rw [List.getElem?_set, if_pos rfl] at h2
    split at h2
    · cases h2; rfl
    · cases h2
  refine ⟨h.fm, h.sl.set i ⟨_, rfl, p⟩, fun j e b h1 h2 => ?_, fun j k e f b h1 h2 h3 h4 => ?_⟩
  · by_cases hij : i = j
    · subst hij
      rw [here b h2]
      exact (h0.fm).free ha
    · obtain ⟨h1, h2⟩ := old j e b hij h1 h2
      exact h.own j e b h1 h2
  · by_cases hij : i = j
    · subst hij
      have eb := here b h3
      by_cases hik : i = k
      · exact hik
      · obtain ⟨h2, h4⟩ := old k f b hik h2 h4
        rw [eb] at h4
        exact (notA k f h2 h4).elim
    · obtain ⟨h1, h3⟩ := old j e b hij h1 h3
      by_cases hik : i = k
      · subst hik
        have eb := here b h4
        rw [eb] at h3
        exact (notA j e h1 h3).elim
      · obtain ⟨h2, h4⟩ := old k f b hik h2 h4
        exact h.apart j k e f b h1 h2 h3 h4
theorem br (T : Tb X nl G) (i : Nat) (hN : (X.N.take nl)[i]? = some x) (he : ag X e f) (hs : swapsWith e (some (.Name x pos')) pos.line X.env = pure false := by rfl) : eR X (.Assign [.Name x pos'] e pos) (bG i f) := fun Fm => by
  have hm := T.loc x (List.mem_of_getElem? hN)
  have hi : X.N[i]? = some x := by
    rw [List.getElem?_take] at hN
    split at hN
    · exact hN
    · cases hN
  exact PS.imp (wa T.nd hi hm.1 he hs hm.2) fun D σ H h => (ml (P := km) (f := f) (k := fun ρ d => .ok (.nx (ρ.set i (.val d)))) h).post fun v H1 ⟨ρ, d, sl, _, p, q⟩ =>
    q _ H1 (sl.set i (fun e z => by cases z) ⟨v, rfl, p⟩)
theorem Z.br (T : Tb X nl G) (i : Nat) (hN : (X.N.take nl)[i]? = some x) (he : Z.ag X e f) (hs : swapsWith e (some (.Name x pos')) pos.line X.env = pure false := by rfl) : Z.eR X (.Assign [.Name x pos'] e pos) (bG i f) :=
  ⟨D2.br T i hN he.un hs⟩
theorem jR (T : Tb X nl G) (i : Nat) (hN : (X.N.take nl)[i]? = some x) (he : fF X e f) (hs : swapsWith e (some (.Name x pos')) pos.line X.env = pure false := by rfl) : eR X (.Assign [.Name x pos'] e pos) (gO i f) := fun Fm => by
  have hm := T.loc x (List.mem_of_getElem? hN)
  have hi : X.N[i]? = some x := by
    rw [List.getElem?_take] at hN
    split at hN
    · exact hN
    · cases hN
  refine PS.imp (wa T.nd hi hm.1 he hs hm.2) fun D σ H h => ?_
  obtain ⟨ρ0, sl0, q0⟩ := h
  refine ⟨ρ0, sl0.sl, ?_⟩
  unfold gO at q0
  cases ef : f ρ0 with
  | ex c => rw [ef] at q0; exact q0.1.mono sl0.fm
  | no => rw [ef] at q0; exact q0
  | ok d =>
    rw [ef] at q0
    exact fun v H1 s p => q0 _ H1 (gW.setOwn sl0 (sl0.mono s) s i p)
theorem Z.jR (T : Tb X nl G) (i : Nat) (hN : (X.N.take nl)[i]? = some x) (he : Z.fF X e f) (hs : swapsWith e (some (.Name x pos')) pos.line X.env = pure false := by rfl) : Z.eR X (.Assign [.Name x pos'] e pos) (gO i f) :=
  ⟨D2.jR T i hN he.un hs⟩
end
structure xf (J : It) (Gd : Hp → Prop) (ds : List PyData) : Prop where
  go : ∀ i H, Gd H → i < ds.length → J.go i H
  yld : ∀ i H x H' d, Gd H → ds[i]? = some d → J.yld i H x H' → aB H H' ∧ Rp H' d x
  stop : ∀ i H, Gd H → ds.length ≤ i → J.stop i H
def B0 (H0 : Hp) (B : Addr → Prop) (Gd : Hp → Prop) : Prop := ∀ H, Kp H0 H → (∀ b o, B b → H0 b = some o → H b = some o) → Gd H
def CJ (X : Cx) (f : aG → R (List PyData)) : TI := fun σ H Rk => ∃ ρ, Sl H σ ρ ∧ match f ρ with
  | .ok ds => ∀ J H', aB H H' → (∃ Gd, xf J Gd ds ∧ B0 H' (fun _ => False) Gd) → Rk J H'
  | .ex c => Xw X c H
  | .no => False
def nk (X : Cx) (tg iter : Expr) (f : aG → R (List PyData)) : Prop := PI X tg iter (CJ X f)
structure Z.nk (X : Cx) (tg iter : Expr) (f : aG → R (List PyData)) : Prop where
  un : D2.nk X tg iter f
def CP (X : Cx) (b : PyData → aG → Option aG) : TG := fun v σ H Q => ∃ ρ d, Sl H σ ρ ∧ Rp H d v ∧ match b d ρ with
  | some ρ' => ∀ σ', Sl H σ' ρ' → (∀ (i : Nat) (e : PyData), ρ'[i]? = some (.own e) → ρ[i]? = some (.own e) ∧ σ'[i]? = σ[i]?) → Q σ' H
  | none => False
def oh (X : Cx) (tg : Expr) (b : PyData → aG → Option aG) : Prop := PG X tg (CP X b)
structure Z.oh (X : Cx) (tg : Expr) (b : PyData → aG → Option aG) : Prop where
  un : D2.oh X tg b
def aI (i : Nat) : PyData → aG → Option aG := fun d ρ => some (ρ.set i (.val d))
theorem PG.imp {X : Cx} {e : Expr} {t t' : TG} (h : PG X e t) (i : ∀ v σ H Q, t' v σ H Q → t v σ H Q) : PG X e t' := fun pins s σ H v u Q I r q => h pins s σ H v u Q I r (i v σ H Q q)
theorem PI.imp {X : Cx} {tg e : Expr} {t t' : TI} (h : PI X tg e t) (i : ∀ σ H Q, t' σ H Q → t σ H Q) : PI X tg e t' := fun pins s σ H Q I q => h pins s σ H Q I (i σ H Q q)
section
variable {X : Cx} {nl : Nat} {G : List Str} {x : Str} {pos : Pos}
theorem Tb.nm (T : Tb X nl G) {i : Nat} (hN : (X.N.take nl)[i]? = some x) : X.N[i]? = some x ∧ zc X.env.scope x ∧ (X.fn x = true ∨ X.env.scope.names.lookup x = some .local) := by
  have hm := T.loc x (List.mem_of_getElem? hN)
  have hi : X.N[i]? = some x := by
    rw [List.getElem?_take] at hN
    split at hN
    · exact hN
    · cases hN
  exact ⟨hi, hm⟩
theorem ba (T : Tb X nl G) (i : Nat) (hN : (X.N.take nl)[i]? = some x) : oh X (.Name x pos) (aI i) := by
  obtain ⟨hi, h1, h2⟩ := T.nm hN
  refine PG.imp (je T.nd hi h1 h2) fun v σ H Q ⟨ρ, d, sl, p, q⟩ => ?_
  refine q _ (sl.set i ⟨v, rfl, p⟩) fun j e h => ?_
  obtain ⟨ne, h⟩ := bK (fun e z => by cases z) h
  exact ⟨h, by rw [List.getElem?_set, if_neg ne]⟩
theorem Z.ba (T : Tb X nl G) (i : Nat) (hN : (X.N.take nl)[i]? = some x) : Z.oh X (.Name x pos) (aI i) :=
  ⟨D2.ba T i hN⟩
end
def dO (b : PyData → aG → Option aG) (g : Fs) : List PyData → Fs
  | [], ρ => .ok (.nx ρ)
  | d :: ds, ρ => match b d ρ with
    | none => .no
    | some ρ1 => g ρ1 >>= fun o => match o with
      | .nx ρ2 => dO b g ds ρ2
      | .ct ρ2 => dO b g ds ρ2
      | .bk ρ2 => .ok (.nx ρ2)
      | .rt r => .ok (.rt r)
def ir (it : aG → R (List PyData)) (b : PyData → aG → Option aG) (g : Fs) : Fs := fun ρ => it ρ >>= fun ds => dO b g ds ρ
def stab (Fm H : Hp) : Hp := fun b => match H b with
  | some (.tup xs) => some (.tup xs)
  | some (.frz o u) => some (.frz o u)
  | _ => Fm b
theorem uy {Fm H : Hp} (h : aB Fm H) : aB (stab Fm H) H := fun b o e => by
  unfold stab at e
  split at e
  · rename_i q; rw [q]; exact e
  · rename_i q; rw [q]; exact e
  · exact h b o e
theorem xV {Fm H : Hp} : Kp H (stab Fm H) := ⟨fun b xs e => by unfold stab; rw [e], fun b o u e => by unfold stab; rw [e]⟩
theorem xu {Fm H : Hp} (h : aB Fm H) : aB Fm (stab Fm H) := fun b o e => by
  have := h b o e
  unfold stab
  split
  · rename_i q; rw [this] at q; exact q.symm
  · rename_i q; rw [this] at q; exact q.symm
  · exact e
theorem gW.stab {Fm H : Hp} {σ : St} {ρ : aG} (h : gW Fm H σ ρ) : gW (stab Fm H) H σ ρ := by
  refine ⟨uy h.fm, h.sl, fun i d a h1 h2 => ?_, h.apart⟩
  have f := h.own i d a h1 h2
  obtain ⟨u, e1, q⟩ := h.sl.2 i _ _ h1 h2
  cases e1
  unfold D2.stab
  cases d <;> simp only [iw] at q
  · obtain ⟨b, vs, e, hb, _⟩ := q; cases e; rw [hb]; exact f
  · obtain ⟨b, vs, e, hb, _⟩ := q; cases e; rw [hb]; exact f
theorem gW.unstab {Fm F H : Hp} {σ : St} {ρ : aG} (hF : aB Fm F) (h : gW F H σ ρ) : gW Fm H σ ρ := ⟨hF.trans h.fm, h.sl, fun i d a h1 h2 => hF.free (h.own i d a h1 h2), h.apart⟩
theorem eF {X : Cx} {tg iter : Expr} {body : List Stmt} {it : aG → R (List PyData)} {b : PyData → aG → Option aG} {g : Fs} {pos : Pos} (hp : PassesOwn (model X.prog X.w) X.A X.env X.xe) (hc : X.calm = true) (hi : nk X tg iter it) (hg : oh X tg b)
    (hb : gz X body g) (hs : ∀ x, foldedSetIterable iter X.env x = pure x := by intro _; rfl) : eR X (.For tg iter body [] pos) (ir it b g) := fun Fm => by
  intro pins s σ H D I h
  obtain ⟨ρ, sl, q⟩ := h
  unfold ir at q
  -- the frame: what is stable at the loop's ik is only known behind the iterator's making: the body is taken at every frame
  refine zm (wi := CJ X it) (g := CP X b) (tb := fun D' σ' H' => ∃ F, yR X F g D' σ' H') hp hc hi hg (fun pins' s' σ' H' D' I' ⟨F, q'⟩ => hb F pins' s' σ' H' D' I' q') hs pins s σ H D I ?_
  refine ⟨ρ, sl.sl, ?_⟩
  cases ei : it ρ with
  | ex c => rw [ei] at q; exact q.1.mono sl.fm
  | no => rw [ei] at q; exact q
  | ok ds =>
    rw [ei] at q
    intro J H1 s1 ⟨Gd, idt, sta⟩
    have sl1 := sl.mono s1
    let F := stab Fm H1
    have hF : aB Fm F := xu sl1.fm
    -- the word: so many items are taken, and the rest gives what the whole gives
    refine ⟨fun i m σ' H' => m = ds.length - i ∧ i ≤ ds.length ∧ ∃ ρ', gW F H' σ' ρ' ∧ yM X Fm (dO b g (ds.drop i) ρ') D, ⟨ds.length, by simp, Nat.zero_le _, ρ, sl1.stab, by simpa using q⟩, ?_⟩
    rintro i m σ2 H2 ⟨rfl, hi', ρ2, sl2, q2⟩
    have gd : Gd H2 := sta H2 (Kp.trans xV (Kp.of sl2.fm)) fun _ _ z => z.elim
    by_cases hlt : i < ds.length
    · refine .inr ⟨idt.go i H2 gd hlt, fun σ' H' => i + 1 ≤ ds.length ∧ ∃ ρ', gW F H' σ' ρ' ∧ yM X Fm (dO b g (ds.drop (i + 1)) ρ') D, fun σ' H' ⟨z, p⟩ => ⟨ds.length - (i + 1), by omega, rfl, z, p⟩, fun x H3 y => ?_⟩
      obtain ⟨d, hd⟩ : ∃ d, ds[i]? = some d := ⟨ds[i], List.getElem?_eq_getElem hlt⟩
      obtain ⟨s3, p3⟩ := idt.yld i H2 x H3 d gd hd y
      have hdrop : ds.drop i = d :: ds.drop (i + 1) := by
        rw [List.drop_eq_getElem_cons hlt]
        congr 1
        exact Option.some.inj ((List.getElem?_eq_getElem hlt).symm.trans hd)
      rw [hdrop] at q2
      unfold dO at q2
      have sl3 := sl2.mono s3
      refine ⟨ρ2, d, sl3.sl, p3, ?_⟩
      cases eb : b d ρ2 with
      | none => rw [eb] at q2; exact q2
      | some ρ3 =>
        rw [eb] at q2
        intro σ4 sl4 hown
        refine ⟨F, ρ3, ⟨sl3.fm, sl4, fun j e a h1 h2 => ?_, fun j k e f a h1 h2 h3 h4 => ?_⟩, ?_⟩
        · obtain ⟨z1, z2⟩ := hown j e h1
          exact sl3.own j e a z1 (by rw [← z2]; exact h2)
        · obtain ⟨z1, z2⟩ := hown j e h1
          obtain ⟨z3, z4⟩ := hown k f h2
          exact sl3.apart j k e f a z1 z3 (by rw [← z2]; exact h3) (by rw [← z4]; exact h4)
        · have q3 : yM X Fm (g ρ3 >>= fun o => match o with
            | .nx ρ2 => dO b g (ds.drop (i + 1)) ρ2
            | .ct ρ2 => dO b g (ds.drop (i + 1)) ρ2
            | .bk ρ2 => .ok (.nx ρ2)
            | .rt r => .ok (.rt r)) D := q2
          cases eg : g ρ3 with
          | ex c => rw [eg] at q3; exact ⟨q3.1.mono hF, q3.2.mono hF⟩
          | no => rw [eg] at q3; exact q3
          | ok o =>
            rw [eg] at q3
            cases o with
            | nx ρ4 => exact fun σ' H' s' => ⟨hlt, ρ4, s', q3⟩
            | ct ρ4 => exact fun σ' H' s' => ⟨hlt, ρ4, s', q3⟩
            | bk ρ4 => exact fun σ' H' s' => q3 σ' H' (s'.unstab hF)
            | rt r => exact fun v H' s' p' => q3 v H' (hF.trans s') p'
    · have e : i = ds.length := by omega
      subst e
      refine .inl ⟨idt.stop _ H2 gd (Nat.le_refl _), ?_⟩
      rw [List.drop_length] at q2
      exact q2 σ2 H2 (sl2.unstab hF)
theorem Z.eF {X : Cx} {tg iter : Expr} {body : List Stmt} {it : aG → R (List PyData)} {b : PyData → aG → Option aG} {g : Fs} {pos : Pos} (hp : PassesOwn (model X.prog X.w) X.A X.env X.xe) (hc : X.calm = true) (hi : Z.nk X tg iter it) (hg : Z.oh X tg b) (hb : Z.gz X body g) (hs : ∀ x, foldedSetIterable iter X.env x = pure x := by intro _; rfl) : Z.eR X (.For tg iter body [] pos) (ir it b g) :=
  ⟨D2.eF hp hc hi.un hg.un hb.un hs⟩
def dD (n : Nat) (g : Fs) : List PyData → R PyData := fun ds => g (ds.map aV.val ++ List.replicate (n - ds.length) .non) >>= fun o => match o with
  | .rt d => .ok d
  | .nx _ => .ok .none
  | _ => .no
def dh (F : List PyData → R PyData) (n : Nat) : Sp := fun vs H Q E => ∃ ds, bg H ds vs ∧ ds.length = n ∧ match F ds with
  | .ok d => ∀ v H', aB H H' → Rp H' d v → Q v H'
  | .ex c => ∀ H', aB H H' → E (.str c 0) none H'
  | .no => False
theorem vN {H : Hp} {N : List Str} : ∀ {ds : List PyData} {vs : List V}, bg H ds vs → Sl H (L2.ik N vs) (ds.map aV.val ++ List.replicate (N.length - ds.length) .non) := fun {ds vs} r => by
  have hl := r.length
  refine ⟨by unfold L2.ik; rw [List.length_append, List.length_append, List.length_map, List.length_map, List.length_replicate, List.length_replicate, hl], fun i c o h1 h2 => ?_⟩
  by_cases hi : i < ds.length
  · rw [List.getElem?_append_left (by simpa using hi), List.getElem?_map] at h1
    cases e : ds[i]? with
    | none => rw [e] at h1; cases h1
    | some d =>
      rw [e] at h1
      cases h1
      obtain ⟨v, e1, p⟩ := r.get e
      unfold L2.ik at h2
      rw [List.getElem?_append_left (by rw [List.length_map, hl]; exact hi), List.getElem?_map, e1] at h2
      cases h2
      exact ⟨v, rfl, p⟩
  · rw [List.getElem?_append_right (by simpa using hi), List.getElem?_replicate] at h1
    split at h1
    · cases h1; exact True.intro
    · cases h1
section
variable {P : Program} {w : World} {H : Hp} {h : Heap} {a : Addr}
theorem pc : ∀ {o : HO}, bF P w H h a o → ∃ u, h.get? a = some u
  | .lst xs, x => by obtain ⟨_, _, _, _, e⟩ := x; exact ⟨_, e⟩
  | .tup xs, x => by obtain ⟨_, _, _, o, e, _⟩ := x; exact ⟨_, e⟩
  | .dK kvs, x => by obtain ⟨_, _, _, _, o, _, _, e, _⟩ := x; exact ⟨_, e⟩
  | .dT kvs, x => by obtain ⟨_, _, _, _, o, _, _, e, _⟩ := x; exact ⟨_, e⟩
  | .set S n, x => by obtain ⟨o, _, _, _, e, _⟩ := x; exact ⟨_, e⟩
  | .ins C dx fs, x => by obtain ⟨_, _, _, e, _⟩ := x; exact ⟨_, e⟩
  | .own y, x => by obtain ⟨_, e⟩ := x; exact ⟨_, e⟩
  | .xd fs, x => by obtain ⟨_, ⟨_, _, _, e, _⟩, _⟩ := x; exact ⟨_, e⟩
  | .rng lo hi, x => by obtain ⟨_, _, _, e⟩ := x; exact ⟨_, e⟩
  | .frz ob u, x => by obtain ⟨e, _⟩ := x; exact ⟨_, e⟩
  | .tbl ps, x => ⟨_, (show h.get? a = some _ from x)⟩
  | .met f y, x => ⟨_, (show h.get? a = some _ from x)⟩
  | .ext φ, x => by obtain ⟨_, ⟨_, e⟩, _⟩ := x; exact ⟨_, e⟩
end
theorem Bz.un {P : Program} {w : World} {outer : List Env} {H H' : Hp} {s s' : Shared} {C : Addr} {e : Value} (f : Bz P w outer H s C H' e s') : Un (np outer) [] H H' s.heap s'.heap := by
  obtain ⟨p, a0, B, _, fl, ok, _, cov⟩ := f.ex
  refine ⟨fun b o q n hb _ => fl.1 _ _ (cov b o q n hb).1, fun b o q n hb _ => (f.slot b o q n hb).1, fun b o q n _ => ?_, fun b o q _ => ?_, fun b xs q => f.same _ _ q, fun b o u q => f.same _ _ q, fun b ps q => ⟨#[], by rw [f.same _ _ q]; simp⟩⟩
  · by_cases hb : b ∈ np outer
    · exact (f.slot b o q n hb).2
    · exact (cov b o q n hb).2
  · cases n : H b with
    | none =>
      by_cases hb : b ∈ np outer
      · obtain ⟨sl, z⟩ := (f.slot b o q n hb).1; exact ⟨_, z⟩
      · exact ⟨o, fl.1 _ _ (cov b o q n hb).1⟩
    | some u =>
      obtain ⟨o', z⟩ := pc (ok b u (f.same _ _ n))
      exact ⟨o', fl.1 _ _ z⟩
section
variable {P : Program} {w : World} {K : PySem.W.Frag} {mg : Str → Option Value} {base : Heap} {N : List Str} {qual : Str} {sc : Scope} {f : Addr} {cdv : Value} {A : Around} {outer : List Env} {s : Shared} {H : Hp} {E : XK} {c : Str}
theorem zP (h : ∀ H', aB H H' → E (.str c 0) none H') : Xw (eU (cG P w mg) P w K mg base N qual sc f cdv A outer s H E) c H := by
  intro H1 s1 n C en hm pins σ Hc sc' e s' I fl
  have en' : c = n := by injection en
  subst en'
  obtain ⟨p, a0, B, rfl, fly, okB, hp, cov⟩ := fl.ex
  have old : ∀ b o, s.heap.get? b = some o → b ≠ s.heap.objs.size := fun b o q => Nat.ne_of_lt (Heap.lt_size q)
  refine wpAny_leaves_onW I.ok.frames rfl fly fun h' fl' up => ⟨c, C, H1, hm, ⟨fl.os.trans I.os, fl.bare, s1, ⟨p, a0, B, rfl, fl', okB, hp, fun b o q n hb => ?_⟩, fun b o q n hb => ?_⟩, h H1 s1⟩
  · have q1 := I.base.keep b o q n hb (by simp [eU])
    have n1 := I.base.free b o q n (by simp [eU])
    refine cov b o q1 n1 fun z => ?_
    have z' : b ∈ (s.heap.objs.size :: np outer) := z
    rcases List.mem_cons.mp z' with z2 | z2
    · exact old b o q z2
    · exact hb z2
  · obtain ⟨sl, q1⟩ := I.base.slot b o q n hb (by simp [eU])
    have n1 := I.base.free b o q n (by simp [eU])
    have hb' : b ∈ np (eU (cG P w mg) P w K mg base N qual sc f cdv A outer s H E).stack := List.mem_cons_of_mem _ hb
    obtain ⟨⟨sl', q2⟩, n2⟩ := fl.slot b _ q1 n1 hb'
    obtain ⟨_, o3, q3, nf⟩ := fly.2.2.1.mem hb'
    rw [q2] at q3
    cases q3
    obtain ⟨sl3, q4⟩ := up b _ q2 nf
    exact ⟨⟨sl3, q4⟩, n2⟩
theorem yp (h : ∀ H', aB H H' → E (.str c 0) none H') : BG (eU (cG P w mg) P w K mg base N qual sc f cdv A outer s H E) c H := by
  intro C hm pins σ Hm sm sH I h' p vs hx
  have hin : ∀ env ∈ (eU (cG P w mg) P w K mg base N qual sc f cdv A outer s H E).stack, ∀ b, env.frame = some b → b ∈ np (eU (cG P w mg) P w K mg base N qual sc f cdv A outer s H E).stack := fun env he b hb => List.mem_filterMap.mpr ⟨env, he, hb⟩
  have old : ∀ b o, s.heap.get? b = some o → b ≠ s.heap.objs.size := fun b o q => Nat.ne_of_lt (Heap.lt_size q)
  refine wpAny_leaves_madeW (s := { sm with heap := h' }) (base := PySem.W.hideAll sm.heap (np (eU (cG P w mg) P w K mg base N qual sc f cdv A outer s H E).stack)) I.ok.frames rfl (fun b o q => PySem.W.of_hideAll _ q) (PySem.W.funFrames_hide I.stack hin) hx fun h'' t fl' _ _ up =>
    ⟨c, C, Hm, hm, ⟨I.os, I.bare, sH, ⟨p, .ref t, _, rfl, fl', fun b u q => ?_, ?_, fun b o q n hb => ?_⟩, fun b o q n hb => ?_⟩, h Hm sH⟩
  · refine (I.hok b u q).stay (fun c' v hc z => PySem.W.hideAll_get _ z fun m => ?_) (fun _ z => z) fun _ _ z => z
    have hn := I.stkFree c' m
    rcases hc with rfl | hc
    · rw [hn] at q; cases q
    · rw [hn] at hc; cases hc
  · cases q : Hm p with
    | none => rfl
    | some u =>
      obtain ⟨o', z⟩ := pc (I.hok p u q)
      rw [hx.new] at z; cases z
  · have q1 := I.base.keep b o q n hb (by simp [eU])
    have n1 := I.base.free b o q n (by simp [eU])
    refine ⟨PySem.W.hideAll_get _ q1 fun z => ?_, n1⟩
    have z' : b ∈ (s.heap.objs.size :: np outer) := z
    rcases List.mem_cons.mp z' with z2 | z2
    · exact old b o q z2
    · exact hb z2
  · obtain ⟨sl, q1⟩ := I.base.slot b o q n hb (by simp [eU])
    have n1 := I.base.free b o q n (by simp [eU])
    have hb' : b ∈ np (eU (cG P w mg) P w K mg base N qual sc f cdv A outer s H E).stack := List.mem_cons_of_mem _ hb
    obtain ⟨_, o3, q3, nf⟩ := I.stack.mem hb'
    rw [q1] at q3
    cases q3
    obtain ⟨sl3, q4⟩ := up b _ (hx.keeps _ _ q1) nf
    exact ⟨⟨sl3, q4⟩, n1⟩
end
theorem pI {P : Program} {w : World} {K : PySem.W.Frag} {mg : Str → Option Value} {base : Heap} {x qual : Str} {st : Stmt} {f : Addr} {fd : FuncData} {N ps : List Str} {k : Nat} {g : Fs} (F : ie K x qual st f fd) (S : aT N ps (ah st))
    (body : ∀ (cdv : Value) (A : Around) (outer : List Env) (s : Shared) (H : Hp) (E : XK), dJ k (A.deeper (envOfC qual (ah st) s.heap.objs.size f cdv)) →
      gz (eU (cG P w mg) P w K mg base N qual (ah st) f cdv A outer s H E) (dj st) g) : aX P w K mg base (cG P w mg) (k + 1) f fd ps (dh (dD N.length g) ps.length) := by
  obtain ⟨oc, od, kV, doc, pm, an, cdv, ct, osl, rfl, lk, hcd⟩ := F.ex
  refine v8 lk hcd S (fun vs H Q E ⟨ds, r, hl, _⟩ => by rw [r.length]; exact hl) fun A outer s H vs Q E hr h => ?_
  obtain ⟨ds, r, hl, q⟩ := h
  have noOwn : ∀ (i : Nat) (d : PyData), (ds.map aV.val ++ List.replicate (N.length - ds.length) aV.non)[i]? = some (.own d) → False := fun i d h1 => by
    by_cases hi : i < ds.length
    · rw [List.getElem?_append_left (by simpa using hi), List.getElem?_map] at h1
      cases e : ds[i]? with
      | none => rw [e] at h1; cases h1
      | some d => rw [e] at h1; cases h1
    · rw [List.getElem?_append_right (by simpa using hi), List.getElem?_replicate] at h1
      split at h1
      · cases h1
      · cases h1
  refine ⟨_, body cdv A outer s H E hr H, _, ⟨aB.refl _, vN r, fun i d a h1 h2 => (noOwn i d h1).elim, fun i j d e a h1 h2 h3 h4 => (noOwn i d h1).elim⟩, ?_⟩
  unfold dD at q
  cases eg : g (ds.map aV.val ++ List.replicate (N.length - ds.length) .non) with
  | ex c => rw [eg] at q; exact ⟨zP q, yp q⟩
  | no => rw [eg] at q; exact q.elim
  | ok o =>
    rw [eg] at q
    cases o with
    | rt d => exact fun v H' s' p => q v H' s' p
    | nx ρ => exact fun σ' H' s' => q .non H' s'.fm (by simp only [Rp])
    | bk ρ => exact q.elim
    | ct ρ => exact q.elim
def aD (F : List PyData → R PyData) (fs : aG → R (List PyData)) : Fe := fun ρ => fs ρ >>= F
theorem xO {X : Cx} {k n : Nat} {f : Addr} {fd : FuncData} {ps : List Str} {F : List PyData → R PyData} {x : Str} {p pos : Pos} {e : Expr} {es : List Expr} {fs : aG → R (List PyData)} {nl : Nat} {G : List Str}
    (C : aX X.prog X.w X.K X.mg X.base (cG X.prog X.w X.mg) k f fd ps (dh F n)) (hr : dJ k X.A) (T : Tb X nl G) (j : Nat) (hG : G[j]? = some x) (hm : X.mg x = some (.ref f)) (hk : PySem.W.keepIn X.K (.ref f) = true) (hb : ig X.K fd ps []) (ha : nr X (e :: es) fs)
    (hlen : (e :: es).length = n) (hfs : ∀ ρ ds, fs ρ = .ok ds → ds.length = n)
    (he : (e :: es).all aq = true := by rfl) : ag X (.Call (.Name x p) (e :: es) [] pos) (aD F fs) := by
  rw [List.all_cons, Bool.and_eq_true] at he
  have g := T.gl x (List.mem_of_getElem? hG)
  refine PE.imp (yN C hr g.1 hm hk hb .nil sP ha g.2.1 (a8 he.1) (ni he.2)) fun σ H Q ⟨ρ, sl, q⟩ => ?_
  refine ⟨ρ, sl, ?_⟩
  unfold aD at q
  cases e1 : fs ρ with
  | ex c => rw [e1] at q; exact q
  | no => rw [e1] at q; exact q
  | ok ds =>
    rw [e1] at q
    intro vs H1 s1 r1
    rw [List.append_nil]
    refine ⟨ds, mW.mp r1, hfs ρ ds e1, ?_⟩
    have q' : ve X km (F ds) H Q := q
    cases e2 : F ds with
    | ok d => rw [e2] at q'; exact fun v H' s' p' => q' v H' (s1.trans s') p'
    | ex c => rw [e2] at q'; exact fun H' s' => q' H' (s1.trans s')
    | no => rw [e2] at q'; exact q'
theorem ar : ∀ ρ ds, aF ρ = .ok ds → ds.length = 0 := fun ρ ds e => by cases e; rfl
theorem ad {f : Fe} {g : aG → R (List PyData)} {n : Nat} (h : ∀ ρ ds, g ρ = .ok ds → ds.length = n) : ∀ ρ ds, ae f g ρ = .ok ds → ds.length = n + 1 := fun ρ ds e => by
  unfold ae at e
  cases e1 : f ρ with
  | ex c => rw [e1] at e; cases e
  | no => rw [e1] at e; cases e
  | ok d =>
    rw [e1] at e
    cases e2 : g ρ with
    | ex c => rw [e2] at e; cases e
    | no => rw [e2] at e; cases e
    | ok ds' => rw [e2] at e; cases e; rw [List.length_cons, h ρ ds' e2]
theorem sh {scope : Scope} {env : Env} (h : ∀ x ∈ scope.names, x.2 = .free → ∃ c, env.cells.lookup x.1 = some c) :
    ∃ cl, closureFor scope env = pure cl ∧ (∀ x c, cl.lookup x = some c → env.cells.lookup x = some c) ∧ ∀ x ∈ scope.names, x.2 = .free → ∃ c, cl.lookup x.1 = some c := by
  suffices gen : ∀ (names : List (Str × NameKind)) (acc : List (Str × Addr)), (∀ x ∈ names, x.2 = .free → ∃ c, env.cells.lookup x.1 = some c) → (∀ x c, acc.lookup x = some c → env.cells.lookup x = some c) →
      ∃ cl, (forIn names acc fun x r => if (x.snd == NameKind.free) = true then do let a ← cellOf env x.fst; pure (ForInStep.yield ((x.fst, a) :: r)) else pure (ForInStep.yield r) : Sem (List (Str × Addr))) = pure cl ∧
        (∀ x c, cl.lookup x = some c → env.cells.lookup x = some c) ∧ (∀ x c, acc.lookup x = some c → ∃ c', cl.lookup x = some c') ∧ ∀ x ∈ names, x.2 = .free → ∃ c, cl.lookup x.1 = some c by
    obtain ⟨cl, h1, h2, _, h4⟩ := gen scope.names [] h fun x c e => by simp at e
    refine ⟨cl, ?_, h2, h4⟩
    simp only [closureFor]
    rw [h1]
    rfl
  intro names
  induction names with
  | nil => intro acc _ ha; exact ⟨acc, rfl, ha, fun x c e => ⟨c, e⟩, fun x hx => by cases hx⟩
  | cons y r ih =>
    intro acc hn ha
    obtain ⟨n, k⟩ := y
    by_cases hk : k = .free
    · subst hk
      obtain ⟨c, hc⟩ := hn (n, .free) List.mem_cons_self rfl
      obtain ⟨cl, e1, e2, e3, e4⟩ := ih ((n, c) :: acc) (fun x hx => hn x (List.mem_cons_of_mem _ hx)) (fun x c' e => by
        rw [List.lookup_cons] at e
        split at e
        · rename_i q
          have : x = n := by simpa using q
          subst this; cases e; exact hc
        · exact ha x c' e)
      refine ⟨cl, ?_, e2, fun x c' e => ?_, fun x hx hf => ?_⟩
      · rw [List.forIn_cons]
        have : cellOf env n = pure c := by unfold cellOf; rw [hc]
        simp only [beq_self_eq_true, if_true, this, pure_bind]
        exact e1
      · by_cases hx : x = n
        · subst hx; exact e3 x c (by rw [List.lookup_cons]; simp)
        · have hb : (x == n) = false := by simpa using hx
          exact e3 x c' (by rw [List.lookup_cons, hb]; exact e)
      · rcases List.mem_cons.mp hx with rfl | hx
        · exact e3 n c (by rw [List.lookup_cons]; simp)
        · exact e4 x hx hf
    · obtain ⟨cl, e1, e2, e3, e4⟩ := ih acc (fun x hx => hn x (List.mem_cons_of_mem _ hx)) ha
      refine ⟨cl, ?_, e2, e3, fun x hx hf => ?_⟩
      · rw [List.forIn_cons]
        have : (k == NameKind.free) = false := by simpa using hk
        simp only [this, Bool.false_eq_true, if_false, pure_bind]
        exact e1
      · rcases List.mem_cons.mp hx with rfl | hx
        · exact absurd hf hk
        · exact e4 x hx hf
def BM (env : Env) (p : Str × NameKind) : NameKind := if (p.2 == .free && env.scope.kind == .function && env.kindOf p.1 == some .cell) = true then .cell else p.2
theorem nu (scope : Scope) (env : Env) : (relabel scope env).names = scope.names.map fun p => (p.1, BM env p) := by
  unfold relabel
  refine List.map_congr_left fun p _ => ?_
  obtain ⟨n, k⟩ := p
  unfold BM
  dsimp only
  split <;> rfl
theorem kX (g : Str × NameKind → NameKind) (x : Str) : ∀ l : List (Str × NameKind), (l.map fun p => (p.1, g p)).lookup x = (l.lookup x).map fun k => g (x, k)
  | [] => rfl
  | (n, k) :: r => by
    rw [List.map_cons]
    cases hx : x == n with
    | true =>
      have e : x = n := by simpa using hx
      subst e
      simp
    | false =>
      have ne : ¬ x = n := by simpa using hx
      simp only [List.lookup_cons, hx]
      exact kX g x r
theorem jO (scope : Scope) (env : Env) (x : Str) : (relabel scope env).names.lookup x = (scope.names.lookup x).map fun k => BM env (x, k) := by
  rw [nu]; exact kX _ _ _
theorem ej {scope : Scope} {env : Env} {x : Str} {k : NameKind} (h : scope.names.lookup x = some k) (hk : k ≠ .free) : (relabel scope env).names.lookup x = some k := by
  rw [jO, h]
  have : (k == NameKind.free) = false := by simpa using hk
  simp only [BM, this, Bool.false_and, Bool.false_eq_true, if_false, Option.map_some]
theorem kl {scope : Scope} {env : Env} {x : Str} (h : scope.names.lookup x = some .free) : (relabel scope env).names.lookup x = some .free ∨ (relabel scope env).names.lookup x = some .cell := by
  rw [jO, h]
  unfold BM
  dsimp only [Option.map_some]
  split
  · exact .inr rfl
  · exact .inl rfl
theorem p7 {scope : Scope} {env : Env} {x : Str} (hc : ∀ y ∈ scope.names, y.2 ≠ .cell) (h : (relabel scope env).names.lookup x = some .free ∨ (relabel scope env).names.lookup x = some .cell) : (x, NameKind.free) ∈ scope.names := by
  cases e : scope.names.lookup x with
  | none =>
    rw [jO, e] at h
    rcases h with h | h <;> cases h
  | some k =>
    by_cases hk : k = .free
    · subst hk; exact PySem.mem_of_lookup e
    · exfalso
      have := ej (env := env) e hk
      rw [this] at h
      rcases h with h | h
      · cases h; exact hk rfl
      · cases h; exact hc _ (PySem.mem_of_lookup e) rfl
def a7 (X : Cx) (N : List Str) (scope : Scope) (cl : List (Str × Addr)) (C : Addr) (s : Shared) (H : Hp) (fp : List Addr) : Cx :=
  { X with N := N, s₀ := s, H₀ := H, env := compEnvC scope cl C X.env, outer := X.stack, stack := X.stack, ex := fp, fn := fun _ => false, pn := [], xe := fun _ _ => False }
def fo (sc : Scope) (N : List Str) (own : Nat) (G : List Str) (oN : List Str) (fr : List Nat) : Prop :=
  sc.kind = .function ∧ (∀ y ∈ sc.names, y.2 ≠ .cell) ∧ (∀ y ∈ sc.names, y.2 = .local → sc.names.lookup y.1 = some .local) ∧ N.Nodup ∧ (∀ x ∈ N.take own, sc.names.lookup x = some .local) ∧ (∀ x ∈ N.drop own, sc.names.lookup x = some .free) ∧
  (∀ x ∈ N, (x == ("__debug__" : Str)) = false ∧ (x == ("__classdict__" : Str)) = false) ∧ (∀ x ∈ G, sc.names.lookup x = some .globalImplicit ∧ (x == ("__debug__" : Str)) = false ∧ x ≠ ("__name__" : Str)) ∧
  own ≤ N.length ∧ (N.drop own).map some = fr.map fun i => oN[i]?
instance {sc : Scope} {N : List Str} {own : Nat} {G oN : List Str} {fr : List Nat} : Decidable (fo sc N own G oN fr) := by unfold fo; infer_instance
theorem yr {X : Cx} {nl : Nat} {G0 : List Str} (T : Tb X nl G0) {sc : Scope} {N : List Str} {own : Nat} {G oN : List Str} {fr : List Nat} (ck : fo sc N own G oN fr) (cl : List (Str × Addr)) (C : Addr) (s : Shared) (H : Hp) (fp : List Addr) :
    Tb (a7 X N sc cl C s H fp) own G := by
  obtain ⟨_, _, _, nd, l, f, db, g, _, _⟩ := ck
  refine ⟨T.hu, T.calm, nd, fun x hx => ?_, fun x hx => ?_, fun x hx => ?_⟩
  · refine ⟨?_, db x hx⟩
    have hx' : x ∈ N.take own ++ N.drop own := by rw [List.take_append_drop]; exact hx
    rcases List.mem_append.mp hx' with z | z
    · exact .inl (ej (l x z) (by decide))
    · rcases kl (env := X.env) (f x z) with q | q
      · exact .inr (.inr q)
      · exact .inr (.inl q)
  · have q := ej (env := X.env) (l x hx) (by decide)
    exact ⟨.inl q, .inr q⟩
  · obtain ⟨g1, g2, g3⟩ := g x hx
    exact ⟨ej (env := X.env) g1 (by decide), g2, g3⟩
def CY (X : Cx) (ifs : List Expr) (t : TT) : Prop :=
  ∀ (pins : List (Addr × Obj)) (s : Shared) (σ : St) (H : Hp) (Q : Bool → Hp → Prop), aC X pins σ H s → t σ H Q → wpAny (model X.prog X.w) X.A (forIn ifs true fun c r => if r = true then do let ok ← isTrue c X.env (eval c X.env); pure (ForInStep.yield ok) else pure (ForInStep.yield r))
    (TP X pins σ Q) X.xe s
def rA (X : Cx) (ifs : List Expr) (t : aG → R Bool) : Prop := CY X ifs (yG X t)
structure Z.rA (X : Cx) (ifs : List Expr) (t : aG → R Bool) : Prop where
  un : D2.rA X ifs t
theorem gc {X : Cx} : rA X [] (fun _ => .ok true) := fun pins s σ H Q I ⟨ρ, sl, q⟩ => wpAny_tests_nil ⟨H, I, q H (aB.refl _)⟩
theorem Z.gc {X : Cx} : Z.rA X [] (fun _ => .ok true) :=
  ⟨D2.gc⟩
theorem dM {X : Cx} {c : Expr} {t : aG → R Bool} (h : gg X c t) : rA X [c] t := fun pins s σ H Q I q => wpAny_tests_one (h pins s σ H Q I q)
theorem Z.dM {X : Cx} {c : Expr} {t : aG → R Bool} (h : Z.gg X c t) : Z.rA X [c] t :=
  ⟨D2.dM h.un⟩
def bJ (b : PyData → aG → Option aG) (t : aG → R Bool) (f : Fe) (ρ : aG) : List PyData → R (List PyData)
  | [] => .ok []
  | d :: ds => match b d ρ with
    | none => .no
    | some ρ1 => t ρ1 >>= fun k => if k = true then f ρ1 >>= fun x => bJ b t f ρ ds >>= fun xs => .ok (x :: xs) else bJ b t f ρ ds
def aw (own : Nat) (fr : List Nat) (ρ : aG) : aG := List.replicate own .non ++ fr.map fun i => ρ.getD i .non
def lD {α : Type} : R α → R α
  | .ex _ => .no
  | r => r
def bC (it : aG → R (List PyData)) (own : Nat) (fr : List Nat) (b : PyData → aG → Option aG) (t : aG → R Bool) (f : Fe) : Fe := fun ρ =>
  lD (it ρ) >>= fun ds => if ds.length ≤ sizeLine then match bJ b t f (aw own fr ρ) ds with
    | .ok xs => .ok (.list xs)
    | _ => .no
  else .no
def gC (own : Nat) (fr : List Nat) (σ : St) : St := List.replicate own none ++ fr.map fun i => (σ[i]?).join
theorem yJ {H : Hp} {σ : St} {ρ : aG} (h : Sl H σ ρ) (own : Nat) (fr : List Nat) (hin : ∀ i ∈ fr, i < ρ.length) : Sl H (gC own fr σ) (aw own fr ρ) := by
  refine ⟨by simp [gC, aw], fun i c o h1 h2 => ?_⟩
  unfold aw at h1
  unfold gC at h2
  by_cases hi : i < own
  · rw [List.getElem?_append_left (by simpa using hi), List.getElem?_replicate, if_pos hi] at h1
    cases h1; exact True.intro
  · rw [List.getElem?_append_right (by simpa using hi), List.getElem?_map, List.length_replicate] at h1 h2
    cases e : fr[i - own]? with
    | none => rw [e] at h1; cases h1
    | some j =>
      rw [e] at h1 h2
      have hj := hin j (List.mem_of_getElem? e)
      have hj' : j < σ.length := by rw [h.1]; exact hj
      cases h1; cases h2
      refine h.2 j _ _ ?_ ?_
      · show ρ[j]? = some (ρ.getD j .non)
        rw [List.getD_eq_getElem?_getD, List.getElem?_eq_getElem hj]; rfl
      · show σ[j]? = some ((σ[j]?).join)
        rw [List.getElem?_eq_getElem hj']; rfl
section
variable {X : Cx} {pins : List (Addr × Obj)} {σ : St} {H : Hp} {s : Shared} {nl : Nat} {G0 : List Str} {sc : Scope} {N : List Str} {own : Nat} {G : List Str} {fr : List Nat} {cl : List (Str × Addr)} {fp : List Addr} {a C : Addr} {h4 : Heap} {t4 : Nat} {m : Str → Option Value}
theorem wN (I : aC X pins σ H s) (ck : fo sc N own G X.N fr) (hf : ∀ b ∈ fp, kG X pins H b) (hob : ∀ b ∈ fp, b < s.heap.objs.size) (hcl1 : ∀ x c, cl.lookup x = some c → X.env.cells.lookup x = some c) (hcl2 : ∀ x ∈ sc.names, x.2 = .free → ∃ c, cl.lookup x.1 = some c)
    (vis : ∀ x ∈ X.N, Ay X.env.scope x) (hout : ∀ y ∈ sc.names, y.2 = .free → X.env.kindOf y.1 = some .cell ∨ X.env.kindOf y.1 = some .free)
    (ha : s.heap.objs.size ≤ a) (hC : s.heap.objs.size ≤ C) (hac : a ≠ C) (keep : ∀ b o, s.heap.get? b = some o → h4.get? b = some o) (hl : h4.get? a = some { cls := .type "list", data := .seq #[] 0 }) (hn : h4.Ns C m) :
    aC (a7 X N sc cl C s H fp) [] (gC own fr σ) (ca H a (.lst [])) { s with heap := h4, toks := t4 } := by
  obtain ⟨ck1, ck2, ck3, nd, l, f, db, g, ol, ofr⟩ := ck
  have hHa : H a = none := I.hok.fresh ha
  have hHC : H C = none := I.hok.fresh hC
  have lt : ∀ {b : Addr} {o : Obj}, s.heap.get? b = some o → b < s.heap.objs.size := fun e => Heap.lt_size e
  have cellLt : ∀ x c, cl.lookup x = some c → c < s.heap.objs.size := fun x c e => by
    obtain ⟨v, q⟩ := I.cell x c (hcl1 x c e)
    exact q.lt
  refine ⟨⟨I.ok.mod, ck1, I.ok.glob, I.ok.blt, hC, fun x y c h1 h2 => I.ok.inj x y c (hcl1 x c h1) (hcl1 y c h2), fun x hx => ?_, fun x c hx => (Bool.false_ne_true hx).elim, I.ok.hd, I.ok.frames, .inl rfl, fun b hb => ⟨?_, fun x c e => ?_⟩, I.bs, Nat.le_trans I.ok.bsz I.sz, fun b o e hb => ?_, fun b hb hs => ?_, I.stack, I.stkFree⟩,
    rfl, I.bare, Un.laid keep ha hHa, ⟨m, hn, fun i x v h1 h2 h3 => ?_⟩, fun x c e => ?_, ?_, fun x c e => ?_, fun p hp => ?_, ?_, ?_⟩
  · have q := p7 (env := X.env) ck2 (show (relabel sc X.env).names.lookup x = some .free ∨ (relabel sc X.env).names.lookup x = some .cell from hx.elim .inr .inl)
    exact hcl2 _ q rfl
  · exact Nat.ne_of_lt (Nat.lt_of_lt_of_le (hob b hb) hC)
  · exact (hf b hb).2.2.2.2.1 x c (hcl1 x c e)
  · rcases (hf b hb).2.2.2.1 with z | z
    · exact I.ok.noex b o e z
    · exact absurd (Nat.lt_of_lt_of_le (Heap.lt_size e) I.ok.bsz) (Nat.not_lt.mpr z)
  · rcases List.mem_cons.mp (I.stkSub b hs) with z | z
    · exact (hf b hb).2.1 z
    · exact (hf b hb).2.2.1 z
  · -- a captured name
    have hi : ¬ i < own := fun hi => by
      unfold gC at h2
      rw [List.getElem?_append_left (by simpa using hi), List.getElem?_replicate, if_pos hi] at h2
      cases h2
    unfold gC at h2
    rw [List.getElem?_append_right (by simpa using hi), List.getElem?_map, List.length_replicate] at h2
    cases e : fr[i - own]? with
    | none => rw [e] at h2; cases h2
    | some j =>
      rw [e] at h2
      have h2' : (σ[j]?).join = some v := Option.some.inj h2
      have hσ : σ[j]? = some (some v) := by
        cases q : σ[j]? with
        | none => rw [q] at h2'; cases h2'
        | some o => rw [q] at h2'; exact congrArg some h2'
      have hx : (N.drop own)[i - own]? = some x := by
        rw [List.getElem?_drop]
        have : own + (i - own) = i := by omega
        rw [this]; exact h1
      have hj : X.N[j]? = some x := by
        have q := congrArg (fun l => l[i - own]?) ofr
        simp only [List.getElem?_map, hx, e, Option.map_some] at q
        exact (Option.some.inj q).symm
      have hfree := f x (List.mem_of_getElem? hx)
      obtain ⟨c, hc⟩ := hcl2 _ (PySem.mem_of_lookup hfree) rfl
      have hXc := hcl1 x c hc
      obtain ⟨m0, hn0, hl0⟩ := I.loc
      obtain ⟨u, ru, lk⟩ := hl0 j x v hj hσ (vis x (List.mem_of_getElem? hj))
      have ko := hout _ (PySem.mem_of_lookup hfree) rfl
      refine ⟨u, ru, .inr ⟨(kl (env := X.env) hfree).symm, c, hc, ?_⟩⟩
      rcases lk with ⟨k1, _⟩ | ⟨_, c', e1, ob, q1, q2⟩
      · exfalso
        rcases ko with k | k <;> (rw [k] at k1; cases k1)
      · rw [hXc] at e1
        cases e1
        exact ⟨ob, keep _ _ q1, q2⟩
  · obtain ⟨v, o, q, d⟩ := I.cell x c (hcl1 x c e)
    exact ⟨v, o, keep _ _ q, d⟩
  · show ca H a (.lst []) C = none
    rw [ao (Ne.symm hac)]; exact hHC
  · have q := I.freeC x c (hcl1 x c e)
    show ca H a (.lst []) c = none
    rw [ao (Nat.ne_of_lt (Nat.lt_of_lt_of_le (cellLt x c e) ha))]; exact q
  · exact absurd (show p ∈ ([] : List (Addr × Obj)) from hp) (by simp)
  · exact I.hok.laid keep ha ⟨Nat.zero_le _, [], 0, .nil, hl⟩
  · show (gC own fr σ).length = N.length
    have q := congrArg List.length ofr
    rw [List.length_map, List.length_map, List.length_drop] at q
    unfold gC
    rw [List.length_append, List.length_replicate, List.length_map]
    omega
end
def lw (ρ0 ρ1 : aG) : Prop := ρ1.length = ρ0.length ∧ ∀ (i : Nat) (c : aV), ρ0[i]? = some c → c = .non ∨ ρ1[i]? = some c
theorem Sl.unfit {H : Hp} {σ : St} {ρ0 ρ1 : aG} (h : Sl H σ ρ1) (f : lw ρ0 ρ1) : Sl H σ ρ0 := by
  refine ⟨h.1.trans f.1, fun i c o h1 h2 => ?_⟩
  rcases f.2 i c h1 with rfl | q
  · exact True.intro
  · exact h.2 i c o q h2
def wD (H0 : Hp) (σ : St) (ρ : aG) : Prop := ∀ (i : Nat) (e : PyData), ρ[i]? = some (.own e) → ∃ v, σ[i]? = some (some v) ∧ iw H0 e v
theorem uw {X : Cx} {J : It} {tn : Nat → Heap → Prop} {it a : Addr} {fp : List Addr} {tg iter elt : Expr} {ifs : List Expr} {scope : Scope} {pos : Pos} {b : PyData → aG → Option aG} {t : aG → R Bool} {f : Fe} {ds xs : List PyData} {Gd : Hp → Prop} {H0 : Hp} {ρ0 : aG}
    {Rk : Result → Shared → Prop} (T : p9 X.prog X.w X.K tg J fp it tn) (calm : X.calm = true) (hfp : ∀ H : Hp, (∀ b ∈ fp, H b = none) → ∀ b ∈ fp, kG X [] H b) (hxe : X.xe = fun _ _ => False) (hg : oh X tg b) (ht : rA X ifs t) (hf : ag X elt f)
    (idt : xf J Gd ds) (sta : B0 H0 (fun _ => False) Gd) (hsz : ds.length ≤ sizeLine) (ha0 : H0 a = none) (hb0 : ∀ d ρ1, b d ρ0 = some ρ1 → lw ρ0 ρ1)
    (fin : ∀ s' σ' H' vs, aC X [] σ' H' s' → aB H0 H' → H' a = some (.lst vs) → bg H' xs vs → Rk (.ok .next) s') :
    ∀ {s : Shared} {σ : St} {H : Hp} {rest : List PyData}, aC X [] σ H s → tn 0 s.heap → (∀ b ∈ fp, H b = none) → aB H0 H → H a = some (.lst []) → bJ b t f ρ0 ds = .ok xs → Sl H σ ρ0 → wD H0 σ ρ0 →
      codeAny (model X.prog X.w) X.A (.compLoop (.ListComp elt [⟨tg, iter, ifs, 0⟩] scope pos) 0 (.ref it) (.ref a) X.env) Rk s := by
  intro s σ H rest I st fr s0 hla hc sl ow
  refine codeAny_loop rfl (fun n s => ∃ i acc rest σ H vs, n = ds.length - i ∧ i ≤ ds.length ∧ acc.length ≤ i ∧ aC X [] σ H s ∧ tn i s.heap ∧ (∀ b ∈ fp, H b = none) ∧ aB H0 H ∧ H a = some (.lst vs) ∧ bg H acc vs ∧ bJ b t f ρ0 (ds.drop i) = .ok rest ∧
    acc ++ rest = xs ∧ Sl H σ ρ0 ∧ wD H0 σ ρ0) (fun n s hI => ?_) ds.length ⟨0, [], xs, σ, H, [], by simp, Nat.zero_le _, Nat.le_refl _, I, st, fr, s0, hla, bg.nil, by simpa using hc, by simp, sl, ow⟩
  clear I st fr s0 hla hc sl ow
  obtain ⟨i, acc, rest, σ, H, vs, rfl, hi, hal, I, st, fr, s0, hla, ra, hc, hxs, sl, ow⟩ := hI
  show wpAny _ X.A ((compTurn (.ListComp elt [⟨tg, iter, ifs, 0⟩] scope pos) 0 (.ref it) (.ref a) X.env).onRaise (fun x => do noteFrame x X.env; theTreesLotGoes x)) _ _ s
  refine wpAny_noted ?_
  rw [compTurn_list]
  have gd : Gd H := sta H (Kp.of s0) fun _ _ z => z.elim
  have noex : ∀ {α : Type} {m : Sem α} {Q Q' : α → Shared → Prop} {E : Value → Shared → Prop} {s : Shared}, wpAny (model X.prog X.w) X.A m Q X.xe s → (∀ v s, Q v s → Q' v s) → wpAny (model X.prog X.w) X.A m Q' E s := fun h k => by
    rw [hxe] at h
    exact wpAny_mono h k fun _ _ z => z.elim
  by_cases hlt : i < ds.length
  · obtain ⟨d, hd⟩ : ∃ d, ds[i]? = some d := ⟨ds[i], List.getElem?_eq_getElem hlt⟩
    have hdrop : ds.drop i = d :: ds.drop (i + 1) := by
      rw [List.drop_eq_getElem_cons hlt]
      congr 1
      exact Option.some.inj ((List.getElem?_eq_getElem hlt).symm.trans hd)
    rw [hdrop] at hc
    unfold bJ at hc
    refine wpAny_bind (wpAny_standAt (wpAny_bind (cO (T.item X rfl rfl rfl calm i [] s σ H _ I (hfp H fr) st (idt.go i H gd hlt)) fun r s1 ⟨u, hr, h1⟩ => ?_)))
    subst hr
    refine wpAny_bind (cO h1 fun _ s2 ⟨x, H2, I2, r2, y2, st2, fr2⟩ => ?_)
    obtain ⟨s02, p2⟩ := idt.yld i H x H2 d gd hd y2
    have I2' := I2.pinned (hfp H2 fr2) (T.obj _ _ st2)
    have back : ∀ {σ' : St} {H' : Hp} {s' : Shared}, aC X ([] ++ l4 fp s2.heap) σ' H' s' → aC X [] σ' H' s' ∧ tn (i + 1) s'.heap ∧ ∀ b ∈ fp, H' b = none := fun {σ' H' s'} J' =>
      ⟨J'.unpinned, T.keep _ _ _ st2 fun b hb o e => (J'.pin (b, o) (List.mem_append_right _ (List.mem_append_right _ (hJ hb e)))).1, fun b hb => by
        obtain ⟨o, e, _⟩ := T.obj _ _ st2 b hb
        exact (J'.pin (b, o) (List.mem_append_right _ (List.mem_append_right _ (hJ hb e)))).2.1⟩
    cases eb : b d ρ0 with
    | none => rw [eb] at hc; cases hc
    | some ρ1 =>
      rw [eb] at hc
      dsimp only at hc
      have hfit := hb0 d ρ1 eb
      refine wpAny_bind (noex (hg _ s2 σ H2 x u (fun σ' H' => H' = H2 ∧ Sl H2 σ' ρ1 ∧ ∀ (i : Nat) (e : PyData), ρ1[i]? = some (.own e) → ρ0[i]? = some (.own e) ∧ σ'[i]? = σ[i]?) I2' r2 ⟨ρ0, d, sl.mono s02, p2, by rw [eb]; exact fun σ' sl' w' => ⟨rfl, sl', w'⟩⟩) fun _ s3 ⟨σ3, H3, I3, e3, sl3, w3⟩ => ?_)
      subst e3
      have ow3 : wD H0 σ3 ρ0 := fun j e h => by
        obtain ⟨v, z1, z2⟩ := ow j e h
        rcases hfit.2 j _ h with z | z
        · cases z
        · exact ⟨v, by rw [(w3 j e z).2]; exact z1, z2⟩
      cases et : t ρ1 with
      | ex c => rw [et] at hc; cases hc
      | no => rw [et] at hc; cases hc
      | ok k =>
        rw [et] at hc
        refine wpAny_bind (noex (ht _ s3 σ3 H3 (fun b' H' => b' = k ∧ aB H3 H') I3 ⟨ρ1, sl3, by rw [et]; exact fun H' s' => ⟨rfl, s'⟩⟩) fun ok s4 ⟨H4, I4, e4, s34⟩ => ?_)
        subst e4
        have s04 := (s0.trans s02).trans s34
        have hla4 : H4 a = some (.lst vs) := s34 _ _ (s02 _ _ hla)
        have ra4 : bg H4 acc vs := (ra.mono s02).mono s34
        cases ok with
        | false =>
          obtain ⟨J1, J2, J3⟩ := back I4
          have hc' : bJ b t f ρ0 (ds.drop (i + 1)) = .ok rest := hc
          exact wpAny_pure ⟨rfl, ds.length - (i + 1), by omega, i + 1, acc, rest, σ3, H4, vs, rfl, hlt, by omega, J1, J2, J3, s04, hla4, ra4, hc', hxs, (sl3.unfit hfit).mono s34, ow3⟩
        | true =>
          have hc' : (f ρ1 >>= fun x => bJ b t f ρ0 (ds.drop (i + 1)) >>= fun xs => .ok (x :: xs)) = .ok rest := hc
          cases ef : f ρ1 with
          | ex c => rw [ef] at hc'; cases hc'
          | no => rw [ef] at hc'; cases hc'
          | ok y =>
            rw [ef] at hc'
            cases er : bJ b t f ρ0 (ds.drop (i + 1)) with
            | ex c => rw [R.ok_bind, er] at hc'; cases hc'
            | no => rw [R.ok_bind, er] at hc'; cases hc'
            | ok rest' =>
              rw [R.ok_bind, er] at hc'
              have hr : y :: rest' = rest := by cases hc'; rfl
              refine wpAny_bind (wpAny_bind (noex (hf _ s4 σ3 H4 (fun v H' => aB H4 H' ∧ Rp H' y v) I4 ⟨ρ1, sl3.mono s34, by rw [ef]; exact fun v H' s' p' => ⟨s', p'⟩⟩) fun yv s5 ⟨v5, H5, I5, r5, s45, p5⟩ => ?_))
              have hla5 : H5 a = some (.lst vs) := s45 _ _ hla4
              have hlen : vs.length < sizeLine := by
                rw [ra.length]; omega
              refine wpAny_bind (noex (n5 _ s5 σ3 H5 (.ref a) [v5] (.ref a) [yv] (fun _ H' => H' = ca H5 a (.lst (vs ++ [v5]))) I5 rfl (.cons r5 .nil) ⟨a, vs, v5, rfl, rfl, hla5, hlen, rfl⟩) fun _ s6 ⟨v6, H6, I6, r6, e6⟩ => ?_)
              subst e6
              obtain ⟨J1, J2, J3⟩ := back I6
              have kp : Kp H5 (ca H5 a (.lst (vs ++ [v5]))) := fX hla5 (.inl ⟨_, rfl⟩)
              have s06 : aB H0 (ca H5 a (.lst (vs ++ [v5]))) := fun b o e => by
                rw [ao (aR e ha0)]; exact (s04.trans s45) b o e
              refine wpAny_pure (wpAny_pure ⟨rfl, ds.length - (i + 1), by omega, i + 1, acc ++ [y], rest', σ3, _, vs ++ [v5], rfl, hlt, by rw [List.length_append, List.length_singleton]; omega, J1, J2, J3, s06, aU, ?_, er, by rw [List.append_assoc, List.singleton_append, hr]; exact hxs, ?_, ow3⟩)
              · exact bg.append (bg.kp kp _ _ (ra4.mono s45)) (bg.cons (Rp.kp kp _ _ p5) bg.nil)
              · have sl5 : Sl H5 σ3 ρ0 := ((sl3.unfit hfit).mono s34).mono s45
                refine ⟨sl5.1, fun j c o h1 h2 => ?_⟩
                cases c with
                | exc p => exact sl5.2 j _ o h1 h2
                | non => exact True.intro
                | val d' =>
                  obtain ⟨v', z1, z2⟩ := sl5.2 j _ o h1 h2
                  exact ⟨v', z1, Rp.kp kp _ _ z2⟩
                | own e' =>
                  obtain ⟨v', z1, z2⟩ := ow3 j e' h1
                  rw [z1] at h2
                  cases h2
                  exact ⟨v', rfl, z2.mono s06⟩
  · have e : i = ds.length := by omega
    subst e
    rw [List.drop_length] at hc
    have hr : rest = [] := by cases hc; rfl
    subst hr
    rw [List.append_nil] at hxs
    subst hxs
    refine wpAny_bind (wpAny_standAt (wpAny_bind (cO (T.done X rfl rfl rfl calm _ [] s σ H _ I (hfp H fr) st (idt.stop _ H gd (Nat.le_refl _))) fun r s1 ⟨hr, I1⟩ => ?_)))
    subst hr
    exact wpAny_pure (fin s1 σ H vs I1 s0 hla ra)
theorem ql {X : Cx} {tg iter elt : Expr} {ifs : List Expr} {sc : Scope} {pos pos' : Pos} {it : aG → R (List PyData)} {b : PyData → aG → Option aG} {t : aG → R Bool} {f : Fe} {N : List Str} {own : Nat} {G G0 : List Str} {fr : List Nat} {nl : Nat}
    (T : Tb X nl G0) (ck : fo sc N own G X.N fr) (hout : ∀ y ∈ sc.names, y.2 = .free → X.env.kindOf y.1 = some .cell ∨ X.env.kindOf y.1 = some .free) (hi : nk X tg iter it)
    (hb0 : ∀ ρ d ρ1, b d (aw own fr ρ) = some ρ1 → lw (aw own fr ρ) ρ1)
    (hbody : ∀ cl C s H fp, Tb (a7 X N sc cl C s H fp) own G → oh (a7 X N sc cl C s H fp) tg b ∧ rA (a7 X N sc cl C s H fp) ifs t ∧ ag (a7 X N sc cl C s H fp) elt f)
    (hs : ∀ x, foldedSetIterable iter X.env x = pure x) {use : Option (Value → Sem Unit)} {Qc : Value → Shared → Prop} {pins : List (Addr × Obj)} {s : Shared} {σ : St} {H : Hp} (I : aC X pins σ H s) {ρ : aG} {ds xs : List PyData} (sl : Sl H σ ρ) (ei : it ρ = .ok ds)
    (hsz : ds.length ≤ sizeLine) (ec : bJ b t f (aw own fr ρ) ds = .ok xs)
    (fin : ∀ (a C : Addr) (H' : Hp) (s' : Shared) (m : Str → Option Value) (vs : List V), aC X pins σ H' s' → kG X pins H' C → s'.heap.Ns C m → aB H H' → H a = none → H' a = some (.lst vs) → bg H' xs vs → compPost (model X.prog X.w) X.A X.xe use Qc (.ref a) C (.ok .next) s') :
    wpAny (model X.prog X.w) X.A (comprehension (.ListComp elt [⟨tg, iter, ifs, 0⟩] sc pos) sc X.env pos' (newList []) false (eval iter X.env) use) Qc X.xe s := by
  obtain ⟨cl, hcl, hcl1, hcl2⟩ := sh (scope := sc) (env := X.env) fun x hx hf => I.ok.has _ (hout x hx hf)
  have ck' := ck
  obtain ⟨ck1, ck2, ck3, _, _, _, _, _, _, ofr⟩ := ck'
  have hin : ∀ i ∈ fr, i < ρ.length := fun i hi => by
    have e1 : ρ.length = X.N.length := by rw [← sl.1]; exact I.len
    rw [e1]
    obtain ⟨k, hk⟩ := List.getElem?_of_mem hi
    have q := congrArg (fun l => l[k]?) ofr
    simp only [List.getElem?_map, hk, Option.map_some] at q
    cases z : (N.drop own)[k]? with
    | none => rw [z] at q; cases q
    | some y =>
      rw [z] at q
      have q' : some y = X.N[i]? := Option.some.inj q
      exact (List.getElem?_eq_some_iff.mp q'.symm).1
  refine wpAny_comprehension_free (use := use) rfl hs hcl ck1 ck3 ?_
  refine cO (hi pins s σ H (fun J H1 => aB H H1 ∧ ∃ Gd, xf J Gd ds ∧ B0 H1 (fun _ => False) Gd) I ⟨ρ, sl, by rw [ei]; exact fun J H1 s1 z => ⟨s1, z⟩⟩) fun xv s1 h1 => cO h1 fun itv s2 h2 => ?_
  obtain ⟨itA, fp, tn, J, H2, e, I2, T2, st2, f2, s02, Gd, idt, sta⟩ := h2
  subst e
  refine wpAny_newObj_type (wpAny_newFunctionEnv ck2 (by intro y hy; simp at hy) (fun h₁ hns₁ hsb₁ => ?_) ck1)
  dsimp only at hns₁ hsb₁ ⊢
  generalize hHp : s2.heap.push { cls := .type "list", dict := none, data := .seq ([] : List Value).toArray } = Hp2 at hns₁ hsb₁ ⊢
  have hC : Hp2.objs.size = s2.heap.objs.size + 1 := by rw [← hHp, Heap.size_push]
  have hDC : s2.heap.objs.size ≠ Hp2.objs.size := by rw [hC]; exact Nat.ne_of_lt (Nat.lt_succ_self _)
  have hCle : s2.heap.objs.size ≤ Hp2.objs.size := by rw [hC]; exact Nat.le_succ _
  have below : ∀ b, b < s2.heap.objs.size → b ≠ Hp2.objs.size := fun b hb => by rw [hC]; exact Nat.ne_of_lt (Nat.lt_succ_of_lt hb)
  have old : ∀ b o, s2.heap.get? b = some o → h₁.get? b = some o := fun b o e => hsb₁.extBut b o (below b (Heap.lt_size e)) (Heap.get?_push_of_some _ (hHp ▸ Heap.get?_push_of_some _ e))
  have hacc : h₁.get? s2.heap.objs.size = some { cls := .type "list", dict := none, data := .seq ([] : List Value).toArray } := hsb₁.extBut _ _ hDC (Heap.get?_push_of_some _ (hHp ▸ Heap.get?_push_size _ rfl))
  have hob : ∀ b ∈ fp, b < s2.heap.objs.size := fun b hb => by
    obtain ⟨o, e, _⟩ := T2.obj _ _ st2 b hb
    exact Heap.lt_size e
  have sl2 : Sl H2 σ ρ := sl.mono s02
  have IC : aC (a7 X N sc cl Hp2.objs.size s2 H2 fp) [] (gC own fr σ) (ca H2 s2.heap.objs.size (.lst [])) { s2 with heap := h₁, toks := s2.toks + ([] : List (Str × Value)).length } :=
    wN I2 ck f2 hob hcl1 hcl2 (fun x hx => (T.vis x hx).1) hout (Nat.le_refl _) hCle hDC old hacc hns₁
  obtain ⟨hg, ht, hf⟩ := hbody cl Hp2.objs.size s2 H2 fp (yr T ck cl Hp2.objs.size s2 H2 fp)
  have ha0 : H2 s2.heap.objs.size = none := I2.hok.fresh (Nat.le_refl _)
  have hfp : ∀ H' : Hp, (∀ b ∈ fp, H' b = none) → ∀ b ∈ fp, kG (a7 X N sc cl Hp2.objs.size s2 H2 fp) [] H' b := fun H' hn b hb =>
    ⟨hn b hb, below b (hob b hb), fun z => by
      rcases List.mem_cons.mp (I2.stkSub b z) with y | y
      · exact (f2 b hb).2.1 y
      · exact (f2 b hb).2.2.1 y, .inl hb, fun x c e => (f2 b hb).2.2.2.2.1 x c (hcl1 x c e), fun p hp => absurd (show p ∈ ([] : List (Addr × Obj)) from hp) (by simp)⟩
  have st3 : tn 0 h₁ := T2.keep _ _ _ st2 fun b _ o e => old b o e
  have slC : Sl H2 (gC own fr σ) (aw own fr ρ) := yJ sl2 own fr hin
  have fin' : ∀ s' σ' H' vs, aC (a7 X N sc cl Hp2.objs.size s2 H2 fp) [] σ' H' s' → aB H2 H' → H' s2.heap.objs.size = some (.lst vs) → bg H' xs vs →
      compPost (model X.prog X.w) X.A X.xe use Qc (.ref s2.heap.objs.size) Hp2.objs.size (.ok .next) s' := fun s' σ' H' vs J' s2' hv rv => by
    obtain ⟨m, hn, _⟩ := J'.loc
    exact fin _ _ H' s' m vs (I2.call' (s' := s') (ch := fp) J'.os J'.base J'.hok J'.bare (fun b hb => ⟨(f2 b hb).2.2.2.1, (f2 b hb).2.1, (f2 b hb).2.2.2.2.1, (f2 b hb).2.2.2.2.2⟩)) (I2.fpOk hCle J'.free) hn (s02.trans s2') (s02.free ha0) hv rv
  have loop := uw (X := a7 X N sc cl Hp2.objs.size s2 H2 fp) (iter := iter) (scope := sc) (pos := pos) (rest := []) T2 T.calm hfp rfl hg ht hf idt sta hsz ha0 (fun d ρ1 e => hb0 ρ d ρ1 e) fin' IC st3 (fun b hb => by
      show ca H2 s2.heap.objs.size (.lst []) b = none
      rw [ao (Nat.ne_of_lt (hob b hb))]; exact (f2 b hb).1) (bR ha0 _) aU ec (slC.mono (bR ha0 _)) (fun i e h => by
      obtain ⟨o, z1, v, rfl, z2⟩ := slC.at h
      exact ⟨v, z1, z2⟩)
  exact codeAny_compStart_list loop (T2.self _ 0 _ _ _ st3 loop)
theorem lM {X : Cx} {tg iter elt : Expr} {ifs : List Expr} {sc : Scope} {pos : Pos} {it : aG → R (List PyData)} {b : PyData → aG → Option aG} {t : aG → R Bool} {f : Fe} {N : List Str} {own : Nat} {G G0 : List Str} {fr : List Nat} {nl : Nat}
    (T : Tb X nl G0) (ck : fo sc N own G X.N fr) (hout : ∀ y ∈ sc.names, y.2 = .free → X.env.kindOf y.1 = some .cell ∨ X.env.kindOf y.1 = some .free) (hi : nk X tg iter it)
    (hb0 : ∀ ρ d ρ1, b d (aw own fr ρ) = some ρ1 → lw (aw own fr ρ) ρ1)
    (hbody : ∀ cl C s H fp, Tb (a7 X N sc cl C s H fp) own G → oh (a7 X N sc cl C s H fp) tg b ∧ rA (a7 X N sc cl C s H fp) ifs t ∧ ag (a7 X N sc cl C s H fp) elt f)
    (hs : ∀ x, foldedSetIterable iter X.env x = pure x := by intro _; rfl) : fF X (.ListComp elt [⟨tg, iter, ifs, 0⟩] sc pos) (bC it own fr b t f) := by
  intro pins s σ H Q I h
  obtain ⟨ρ, sl, q⟩ := h
  unfold bC at q
  rw [eval_ListComp]
  cases ei : it ρ with
  | ex c => rw [ei] at q; exact q.elim
  | no => rw [ei] at q; exact q.elim
  | ok ds =>
    rw [ei] at q
    simp only [lD, R.ok_bind] at q
    split at q
    · rename_i hsz
      cases ec : bJ b t f (aw own fr ρ) ds with
      | ex c => rw [ec] at q; exact q.elim
      | no => rw [ec] at q; exact q.elim
      | ok xs =>
        rw [ec] at q
        refine ql (use := none) T ck hout hi hb0 hbody hs I sl ei hsz ec fun a C H' s' m vs I' fC hn s2' ha hv rv => ?_
        obtain ⟨f0, f1, f2, f3, f4, f5⟩ := fC
        refine ⟨m, hn, fun h' sb => ⟨.ref a, H', I'.turned (t' := s'.toks) (fun b o hb e => sb.extBut b o hb e) f0 f1 f3 f4 f5, rfl, ?_⟩⟩
        refine q _ H' s2' ⟨?_, _, rfl, ha⟩
        simp only [iw]
        exact ⟨_, vs, rfl, hv, rv⟩
    · exact q.elim
theorem Z.lM {X : Cx} {tg iter elt : Expr} {ifs : List Expr} {sc : Scope} {pos : Pos} {it : aG → R (List PyData)} {b : PyData → aG → Option aG} {t : aG → R Bool} {f : Fe} {N : List Str} {own : Nat} {G G0 : List Str} {fr : List Nat} {nl : Nat} (T : Tb X nl G0) (ck : fo sc N own G X.N fr) (hout : ∀ y ∈ sc.names, y.2 = .free → X.env.kindOf y.1 = some .cell ∨ X.env.kindOf y.1 = some .free) (hi : Z.nk X tg iter it) (hb0 : ∀ ρ d ρ1, b d (aw own fr ρ) = some ρ1 → lw (aw own fr ρ) ρ1) (hbody : ∀ cl C s H fp, Tb (a7 X N sc cl C s H fp) own G → Z.oh (a7 X N sc cl C s H fp) tg b ∧ Z.rA (a7 X N sc cl C s H fp) ifs t ∧ Z.ag (a7 X N sc cl C s H fp) elt f) (hs : ∀ x, foldedSetIterable iter X.env x = pure x := by intro _; rfl) : Z.fF X (.ListComp elt [⟨tg, iter, ifs, 0⟩] sc pos) (bC it own fr b t f) :=
  ⟨D2.lM T ck hout hi.un hb0 (fun cl C s H fp T => let ⟨q1, q2, q3⟩ := hbody cl C s H fp T; ⟨q1.un, q2.un, q3.un⟩) hs⟩
theorem xI {X : Cx} {tg iter elt : Expr} {ifs : List Expr} {sc : Scope} {pos py spos : Pos} {it : aG → R (List PyData)} {b : PyData → aG → Option aG} {t : aG → R Bool} {f : Fe} {N : List Str} {own : Nat} {G G0 : List Str} {fr : List Nat} {nl : Nat} {y : Str} {i : Nat}
    (T : Tb X nl G0) (ck : fo sc N own G X.N fr) (hout : ∀ y ∈ sc.names, y.2 = .free → X.env.kindOf y.1 = some .cell ∨ X.env.kindOf y.1 = some .free) (hi : nk X tg iter it)
    (hb0 : ∀ ρ d ρ1, b d (aw own fr ρ) = some ρ1 → lw (aw own fr ρ) ρ1)
    (hbody : ∀ cl C s H fp, Tb (a7 X N sc cl C s H fp) own G → oh (a7 X N sc cl C s H fp) tg b ∧ rA (a7 X N sc cl C s H fp) ifs t ∧ ag (a7 X N sc cl C s H fp) elt f)
    (hN : (X.N.take nl)[i]? = some y) (hsw : swapsWith (.ListComp elt [⟨tg, iter, ifs, 0⟩] sc pos) (some (.Name y py)) spos.line X.env = pure true)
    (hs : ∀ x, foldedSetIterable iter X.env x = pure x := by intro _; rfl) : eR X (.Assign [.Name y py] (.ListComp elt [⟨tg, iter, ifs, 0⟩] sc pos) spos) (gO i (bC it own fr b t f)) := fun Fm => by
  intro pins s σ H D I h
  obtain ⟨ρ, sl, q⟩ := h
  unfold gO bC at q
  obtain ⟨hNi, hl, hf⟩ := T.nm hN
  cases ei : it ρ with
  | ex c => rw [ei] at q; exact q.elim
  | no => rw [ei] at q; exact q.elim
  | ok ds =>
    rw [ei] at q
    simp only [lD, R.ok_bind] at q
    by_cases hsz : ds.length ≤ sizeLine
    · rw [if_pos hsz] at q
      cases ec : bJ b t f (aw own fr ρ) ds with
      | ex c => rw [ec] at q; exact q.elim
      | no => rw [ec] at q; exact q.elim
      | ok xs =>
        rw [ec] at q
        rw [exec_Assign_Name_used _ _ _ _ hsw]
        refine wpAny_bind (wpAny_standAt (wpAny_bind ?_))
        show wpAny _ X.A (do let _ ← comprehension (.ListComp elt [⟨tg, iter, ifs, 0⟩] sc pos) sc X.env _ (newList []) false (eval iter X.env) (some (assign (.Name y py) X.env))) _ _ s
        refine wpAny_bind (cO (ql (use := some (assign (.Name y py) X.env)) (Qc := fun _ s' => SP X pins D .next s') T ck hout hi hb0 hbody hs I sl.sl ei hsz ec fun a C H' s' m vs I' fC hn s2' ha hv rv => ?_) fun _ s' hq => wpAny_pure (wpAny_pure hq))
        obtain ⟨f0, f1, f2, f3, f4, f5⟩ := fC
        show wpAny _ X.A (assign (.Name y py) X.env (.ref a)) _ _ _
        refine wpAny_assign_Name (nU I' T.nd hNi hl (v := .ref a) rfl (fun s'' I'' k => ?_) hf)
        have sls : gW Fm H' (σ.set i (some (.ref a))) (ρ.set i (.own (.list xs))) := gW.setOwn sl (sl.mono s2') s2' i ⟨by simp only [iw]; exact ⟨a, vs, rfl, hv, rv⟩, a, rfl, ha⟩
        refine ⟨m, ?_, fun h' sb => ⟨_, H', I''.turned (t' := s''.toks) (fun b o hb e => sb.extBut b o hb e) f0 f1 f3 f4 f5, q _ H' sls⟩⟩
        obtain ⟨a', sb', ha'⟩ := k
        refine hn.sameBut sb' ?_
        rcases ha' with rfl | ha'
        · exact f1
        · exact Ne.symm (f4 y a' ha')
    · rw [if_neg hsz] at q; exact q.elim
theorem gW.freeze {Fm H : Hp} {σ : St} {ρ : aG} {i : Nat} {d : PyData} {a : Addr} {u : HO} {o : Obj} (h : gW Fm H σ ρ) (h1 : ρ[i]? = some (.own d)) (h2 : σ[i]? = some (some (.ref a))) (hu : H a = some u) (hm : (∃ xs, u = .lst xs) ∨ ∃ ks, u = .dK ks)
    (hr : Rp (ca H a (.frz o u)) d (.ref a)) : gW Fm (ca H a (.frz o u)) σ (ρ.set i (.val d)) := by
  have hFa := h.own i d a h1 h2
  have kp : Kp H (ca H a (.frz o u)) := fX hu hm
  refine ⟨fun b x e => ?_, ⟨by rw [List.length_set]; exact h.sl.1, fun j c w' e1 e2 => ?_⟩, fun j e b e1 e2 => ?_, fun j k e f b e1 e2 e3 e4 => ?_⟩
  · rw [ao (aR e hFa)]; exact h.fm b x e
  · rw [List.getElem?_set] at e1
    by_cases hij : i = j
    · subst hij
      rw [if_pos rfl] at e1
      split at e1
      · cases e1
        rw [h2] at e2
        cases e2
        exact ⟨_, rfl, hr⟩
      · cases e1
    · rw [if_neg hij] at e1
      have q := h.sl.2 j c w' e1 e2
      cases c with
      | exc p => exact q
      | non => exact True.intro
      | val d' => obtain ⟨v, z1, z2⟩ := q; exact ⟨v, z1, Rp.kp kp _ _ z2⟩
      | own d' =>
        obtain ⟨v, z1, z2⟩ := q
        subst z1
        obtain ⟨b, ob, rfl, hb⟩ := oY z2
        have nb : b ≠ a := fun z => hij (by subst z; exact h.apart i j d d' b h1 e1 h2 e2)
        refine ⟨_, rfl, ?_⟩
        cases d' <;> simp only [iw] at z2 ⊢
        · obtain ⟨b', vs, e, hb', r⟩ := z2
          cases e
          exact ⟨b, vs, rfl, by rw [ao nb]; exact hb', bg.kp kp _ _ r⟩
        · obtain ⟨b', vs, e, hb', r⟩ := z2
          cases e
          exact ⟨b, vs, rfl, by rw [ao nb]; exact hb', dB.kp kp _ _ r⟩
  · obtain ⟨ne, e1⟩ := bK (fun e z => by cases z) e1
    exact h.own j e b e1 e2
  · obtain ⟨ne, e1⟩ := bK (fun e z => by cases z) e1
    obtain ⟨ne', e2⟩ := bK (fun e z => by cases z) e2
    exact h.apart j k e f b e1 e2 e3 e4
theorem vJ {X : Cx} {pins : List (Addr × Obj)} {s : Shared} {Fm H : Hp} {σ : St} {ρ : aG} {i : Nat} {d : PyData} (I : aC X pins σ H s) (h : gW Fm H σ ρ) (h1 : ρ[i]? = some (.own d)) :
    ∃ H' v, aC X pins σ H' s ∧ gW Fm H' σ (ρ.set i (.val d)) ∧ σ[i]? = some (some v) ∧ Rp H' d v := by
  obtain ⟨w', h2, v, rfl, q⟩ := h.sl.at h1
  cases d <;> simp only [iw] at q
  · rename_i ds
    obtain ⟨a, vs, rfl, ha, r⟩ := q
    obtain ⟨o, J⟩ := fZ I ha (.inl ⟨_, rfl⟩)
    have hr : Rp (ca H a (.frz o (.lst vs))) (.list ds) (.ref a) := by
      simp only [Rp]
      exact ⟨a, o, vs, rfl, aU, bg.kp (fX ha (.inl ⟨_, rfl⟩)) _ _ r⟩
    exact ⟨_, _, J, h.freeze h1 h2 ha (.inl ⟨_, rfl⟩) hr, h2, hr⟩
  · rename_i ds
    obtain ⟨a, vs, rfl, ha, r⟩ := q
    obtain ⟨o, J⟩ := fZ I ha (.inr ⟨_, rfl⟩)
    have hr : Rp (ca H a (.frz o (.dK vs))) (.dict ds) (.ref a) := by
      simp only [Rp]
      exact .inl ⟨a, o, vs, rfl, aU, dB.kp (fX ha (.inr ⟨_, rfl⟩)) _ _ r⟩
    exact ⟨_, _, J, h.freeze h1 h2 ha (.inr ⟨_, rfl⟩) hr, h2, hr⟩
theorem eR.fz {X : Cx} {st : Stmt} {i : Nat} {f : Fe} (h : eR X st (gO i f)) (hi : i < X.N.length) : eR X st (bG i f) := fun Fm => by
  intro pins s σ H D I ⟨ρ, sl, q⟩
  unfold bG at q
  cases ef : f ρ with
  | ex c => rw [ef] at q; exact h Fm pins s σ H D I ⟨ρ, sl, by unfold gO; rw [ef]; exact q⟩
  | no => rw [ef] at q; exact q.elim
  | ok d =>
    rw [ef] at q
    have hr : yR X Fm (gO i f) { nx := fun σ' H' => gW Fm H' σ' (ρ.set i (.own d)), rt := fun _ _ => False } σ H := ⟨ρ, sl, by unfold gO; rw [ef]; exact fun σ' H' s' => s'⟩
    refine cO (h Fm pins s σ H _ I hr) fun fl s' z => ?_
    cases fl with
    | next =>
      obtain ⟨σ', H', I', sls⟩ := z
      have hi' : i < ρ.length := by rw [← sl.sl.1, I.len]; exact hi
      obtain ⟨H2, v, I2, sl2, _, _⟩ := vJ I' sls (i := i) (d := d) (by rw [List.getElem?_set, if_pos rfl, if_pos hi'])
      rw [List.set_set] at sl2
      exact ⟨σ', H2, I2, q σ' H2 sl2⟩
    | brk => obtain ⟨_, _, _, z⟩ := z; exact z.elim
    | cont => obtain ⟨_, _, _, z⟩ := z; exact z.elim
    | ret u => obtain ⟨_, _, _, _, _, z⟩ := z; exact z.elim
theorem Z.eR.fz {X : Cx} {st : Stmt} {i : Nat} {f : Fe} (h : Z.eR X st (gO i f)) (hi : i < X.N.length) : Z.eR X st (bG i f) :=
  ⟨D2.eR.fz h.un hi⟩
def tT (i : Nat) : Fs := fun ρ => match ρ[i]? with
  | some (.own d) => .ok (.rt d)
  | some (.val d) => .ok (.rt d)
  | _ => .no
theorem oI {X : Cx} {nl : Nat} {G : List Str} {x : Str} {p pos : Pos} (T : Tb X nl G) (i : Nat) (hN : X.N[i]? = some x) : eR X (.Return (some (.Name x p)) pos) (tT i) := fun Fm => by
  intro pins s σ H D I ⟨ρ, sl, q⟩
  have hm := T.vis x (List.mem_of_getElem? hN)
  unfold tT at q
  split at q
  · rename_i d e
    obtain ⟨H2, v, I2, sl2, h2, r⟩ := vJ I sl e
    exact sr (iP hN hm.1 hm.2.1 hm.2.2) pins s σ H2 D I2 ⟨v, h2, q v H2 sl2.fm r⟩
  · rename_i d e
    obtain ⟨o, h1, v, rfl, h2⟩ := sl.sl.at e
    exact sr (iP hN hm.1 hm.2.1 hm.2.2) pins s σ H D I ⟨v, h1, q v H sl.fm h2⟩
  · exact q.elim
theorem Z.oI {X : Cx} {nl : Nat} {G : List Str} {x : Str} {p pos : Pos} (T : Tb X nl G) (i : Nat) (hN : X.N[i]? = some x) : Z.eR X (.Return (some (.Name x p)) pos) (tT i) :=
  ⟨D2.oI T i hN⟩
theorem bO {X : Cx} {tg iter elt : Expr} {ifs : List Expr} {sc : Scope} {pos : Pos} {it : aG → R (List PyData)} {b : PyData → aG → Option aG} {t : aG → R Bool} {f : Fe} {N : List Str} {own : Nat} {G G0 : List Str} {fr : List Nat} {nl : Nat}
    (T : Tb X nl G0) {oN : List Str} {on : List (Str × NameKind)} (hoN : X.N = oN) (hon : X.env.scope.names = on)
    (ck : fo sc N own G oN fr ∧ ∀ y ∈ sc.names, y.2 = .free → on.lookup y.1 = some .cell ∨ on.lookup y.1 = some .free) (hi : nk X tg iter it)
    (hb0 : ∀ ρ d ρ1, b d (aw own fr ρ) = some ρ1 → lw (aw own fr ρ) ρ1)
    (hbody : ∀ cl C s H fp, Tb (a7 X N sc cl C s H fp) own G → oh (a7 X N sc cl C s H fp) tg b ∧ rA (a7 X N sc cl C s H fp) ifs t ∧ ag (a7 X N sc cl C s H fp) elt f)
    (hs : ∀ x, foldedSetIterable iter X.env x = pure x := by intro _; rfl) : fF X (.ListComp elt [⟨tg, iter, ifs, 0⟩] sc pos) (bC it own fr b t f) :=
  lM T (by rw [hoN]; exact ck.1) (fun y hy hf => by unfold Env.kindOf; rw [hon]; exact ck.2 y hy hf) hi hb0 hbody hs
theorem Z.bO {X : Cx} {tg iter elt : Expr} {ifs : List Expr} {sc : Scope} {pos : Pos} {it : aG → R (List PyData)} {b : PyData → aG → Option aG} {t : aG → R Bool} {f : Fe} {N : List Str} {own : Nat} {G G0 : List Str} {fr : List Nat} {nl : Nat} (T : Tb X nl G0) {oN : List Str} {on : List (Str × NameKind)} (hoN : X.N = oN) (hon : X.env.scope.names = on) (ck : fo sc N own G oN fr ∧ ∀ y ∈ sc.names, y.2 = .free → on.lookup y.1 = some .cell ∨ on.lookup y.1 = some .free) (hi : Z.nk X tg iter it) (hb0 : ∀ ρ d ρ1, b d (aw own fr ρ) = some ρ1 → lw (aw own fr ρ) ρ1) (hbody : ∀ cl C s H fp, Tb (a7 X N sc cl C s H fp) own G → Z.oh (a7 X N sc cl C s H fp) tg b ∧ Z.rA (a7 X N sc cl C s H fp) ifs t ∧ Z.ag (a7 X N sc cl C s H fp) elt f) (hs : ∀ x, foldedSetIterable iter X.env x = pure x := by intro _; rfl) : Z.fF X (.ListComp elt [⟨tg, iter, ifs, 0⟩] sc pos) (bC it own fr b t f) :=
  ⟨D2.bO T hoN hon ck hi.un hb0 (fun cl C s H fp T => let ⟨q1, q2, q3⟩ := hbody cl C s H fp T; ⟨q1.un, q2.un, q3.un⟩) hs⟩
theorem dX {X : Cx} {tg iter elt : Expr} {ifs : List Expr} {sc : Scope} {pos py spos : Pos} {it : aG → R (List PyData)} {b : PyData → aG → Option aG} {t : aG → R Bool} {f : Fe} {N : List Str} {own : Nat} {G G0 : List Str} {fr : List Nat} {nl : Nat} {y : Str} (i : Nat)
    (hN : (X.N.take nl)[i]? = some y) (T : Tb X nl G0) {oN : List Str} {on : List (Str × NameKind)} (hoN : X.N = oN) (hon : X.env.scope.names = on)
    (ck : fo sc N own G oN fr ∧ ∀ y ∈ sc.names, y.2 = .free → on.lookup y.1 = some .cell ∨ on.lookup y.1 = some .free) (hi : nk X tg iter it)
    (hb0 : ∀ ρ d ρ1, b d (aw own fr ρ) = some ρ1 → lw (aw own fr ρ) ρ1)
    (hbody : ∀ cl C s H fp, Tb (a7 X N sc cl C s H fp) own G → oh (a7 X N sc cl C s H fp) tg b ∧ rA (a7 X N sc cl C s H fp) ifs t ∧ ag (a7 X N sc cl C s H fp) elt f)
    (hsw : swapsWith (.ListComp elt [⟨tg, iter, ifs, 0⟩] sc pos) (some (.Name y py)) spos.line X.env = pure true := by rfl)
    (hs : ∀ x, foldedSetIterable iter X.env x = pure x := by intro _; rfl) : eR X (.Assign [.Name y py] (.ListComp elt [⟨tg, iter, ifs, 0⟩] sc pos) spos) (gO i (bC it own fr b t f)) :=
  xI T (by rw [hoN]; exact ck.1) (fun y hy hf => by unfold Env.kindOf; rw [hon]; exact ck.2 y hy hf) hi hb0 hbody hN hsw hs
theorem Z.dX {X : Cx} {tg iter elt : Expr} {ifs : List Expr} {sc : Scope} {pos py spos : Pos} {it : aG → R (List PyData)} {b : PyData → aG → Option aG} {t : aG → R Bool} {f : Fe} {N : List Str} {own : Nat} {G G0 : List Str} {fr : List Nat} {nl : Nat} {y : Str} (i : Nat) (hN : (X.N.take nl)[i]? = some y) (T : Tb X nl G0) {oN : List Str} {on : List (Str × NameKind)} (hoN : X.N = oN) (hon : X.env.scope.names = on) (ck : fo sc N own G oN fr ∧ ∀ y ∈ sc.names, y.2 = .free → on.lookup y.1 = some .cell ∨ on.lookup y.1 = some .free) (hi : Z.nk X tg iter it) (hb0 : ∀ ρ d ρ1, b d (aw own fr ρ) = some ρ1 → lw (aw own fr ρ) ρ1) (hbody : ∀ cl C s H fp, Tb (a7 X N sc cl C s H fp) own G → Z.oh (a7 X N sc cl C s H fp) tg b ∧ Z.rA (a7 X N sc cl C s H fp) ifs t ∧ Z.ag (a7 X N sc cl C s H fp) elt f) (hsw : swapsWith (.ListComp elt [⟨tg, iter, ifs, 0⟩] sc pos) (some (.Name y py)) spos.line X.env = pure true := by rfl) (hs : ∀ x, foldedSetIterable iter X.env x = pure x := by intro _; rfl) : Z.eR X (.Assign [.Name y py] (.ListComp elt [⟨tg, iter, ifs, 0⟩] sc pos) spos) (gO i (bC it own fr b t f)) :=
  ⟨D2.dX i hN T hoN hon ck hi.un hb0 (fun cl C s H fp T => let ⟨q1, q2, q3⟩ := hbody cl C s H fp T; ⟨q1.un, q2.un, q3.un⟩) hsw hs⟩
theorem bu {own : Nat} {fr : List Nat} {i : Nat} (h : i < own) : ∀ ρ d ρ1, aI i d (aw own fr ρ) = some ρ1 → lw (aw own fr ρ) ρ1 := fun ρ d ρ1 e => by
  have e' : ρ1 = (aw own fr ρ).set i (.val d) := (Option.some.inj e).symm
  subst e'
  refine ⟨by rw [List.length_set], fun j c hj => ?_⟩
  by_cases hij : i = j
  · subst hij
    left
    unfold aw at hj
    rw [List.getElem?_append_left (by simpa using h), List.getElem?_replicate, if_pos h] at hj
    exact (Option.some.inj hj).symm
  · right
    rw [List.getElem?_set, if_neg hij]; exact hj
def sG (sc : Scope) (N G : List Str) : Prop :=
  N.Nodup ∧ (∀ x ∈ N, (sc.names.lookup x = some .local ∨ sc.names.lookup x = some .cell) ∧ (x == ("__debug__" : Str)) = false ∧ (x == ("__classdict__" : Str)) = false) ∧ ∀ x ∈ G, sc.names.lookup x = some .globalImplicit ∧ (x == ("__debug__" : Str)) = false ∧ x ≠ ("__name__" : Str)
instance {sc : Scope} {N G : List Str} : Decidable (sG sc N G) := by unfold sG; infer_instance
theorem zJ {P : Program} {w : World} {K : PySem.W.Frag} {mg : Str → Option Value} {base : Heap} {N : List Str} {qual : Str} {sc : Scope} {f : Addr} {cdv : Value} {A : Around} {outer : List Env} {s : Shared} {H : Hp} {E : XK} {G : List Str} {k : Nat}
    (hr : dJ k (A.deeper (envOfC qual sc s.heap.objs.size f cdv))) (ck : sG sc N G) : Tb (eU (cG P w mg) P w K mg base N qual sc f cdv A outer s H E) N.length G := by
  obtain ⟨nd, l, g⟩ := ck
  refine ⟨hr.units, rfl, nd, fun x hx => ⟨?_, (l x hx).2⟩, fun x hx => ⟨?_, .inl rfl⟩, fun x hx => ?_⟩
  · rcases (l x hx).1 with q | q
    · exact .inl q
    · exact .inr (.inl q)
  · exact (l x (List.mem_of_mem_take hx)).1
  · exact g x hx
section
variable {X : Cx} {a b c : Expr} {fa fb fc : Fe} {pos : Pos}
def Df : PyData → R PyData
  | .int i => .ok (.int (-i))
  | _ => .no
variable {es : List Expr} {fs : aG → R (List PyData)}
def qJ (fs : aG → R (List PyData)) : Fe := fun ρ => fs ρ >>= fun ds => if ds.length ≤ sizeLine then .ok (.tuple ds) else .no
def jo (fs : aG → R (List PyData)) : Fe := fun ρ => fs ρ >>= fun ds => if ds.length ≤ sizeLine then .ok (.list ds) else .no
theorem ku {x1} (h : nr X es fs) : ag X (.Tuple es x1 pos) (qJ fs) :=
  PE.imp (zA h) fun σ H Q q => (mM (I := Rp) (f := fs) (k := fun _ ds => if ds.length ≤ sizeLine then .ok (.tuple ds) else .no) (io (X := X) iu Q) q).post fun vs H1 ⟨_, ds, _, _, p, q1⟩ => by
    have p := mW.mp p
    split at q1
    · rename_i hz
      exact ⟨by rw [p.length]; exact hz, fun a ha => q1 _ _ (bR ha _) (cK ha p)⟩
    · exact q1.elim
theorem Z.ku {x1} (h : Z.nr X es fs) : Z.ag X (.Tuple es x1 pos) (qJ fs) :=
  ⟨D2.ku h.un⟩
theorem fG (h : nr X es fs) : fF X (.List es pos) (jo fs) :=
  PE.imp (Ae h) fun σ H Q q => (mM (I := Rp) (f := fs) (k := fun _ ds => if ds.length ≤ sizeLine then .ok (.list ds) else .no) (io (X := X) xz Q) q).post fun vs H1 ⟨_, ds, _, _, p, q1⟩ => by
    have p := mW.mp p
    split at q1
    · rename_i hz
      exact ⟨by rw [p.length]; exact hz, fun a ha => q1 _ _ (bR ha _) (de ha p)⟩
    · exact q1.elim
theorem Z.fG (h : Z.nr X es fs) : Z.fF X (.List es pos) (jo fs) :=
  ⟨D2.fG h.un⟩
theorem kK : fF X (.Dict [] [] pos) (eC (.dict [])) :=
  PE.imp wI fun σ H Q ⟨ρ, sl, q⟩ p hp => q _ _ (bR hp _) ⟨by simp only [iw]; exact ⟨p, [], rfl, aU, by simp only [dB]⟩, p, rfl, hp⟩
theorem Z.kK  : Z.fF X (.Dict [] [] pos) (eC (.dict [])) :=
  ⟨D2.kK⟩
def bq : PyData → PyData → R PyData
  | .list ds, .int i => match atI ds i with
    | some d => .ok d
    | none => .no
  | .tuple ds, .int i => match atI ds i with
    | some d => .ok d
    | none => .no
  | .str z, .int i => if z.length ≤ sizeLine then match atI z.cps.toList i with
    | some c => .ok (.str ⟨#[c]⟩)
    | none => .no else .no
  | .dict kvs, k => if nI kvs = true then .no else match gI k with
    | some _ => match lg kvs k with
      | some d => .ok d
      | none => .no
    | none => .no
  | _, _ => .no
theorem bg.atI {H : Hp} {ds : List PyData} {vs : List V} {i : Int} {d : PyData} (r : bg H ds vs) (e : L2.atI ds i = some d) : ∃ v, L2.atI vs i = some v ∧ Rp H d v := by
  unfold L2.atI at e ⊢
  rw [r.length]
  cases h : sK ds.length i with
  | none => rw [h] at e; cases e
  | some j =>
    rw [h] at e
    obtain ⟨v, e1, p⟩ := r.get (show ds[j]? = some d from e)
    exact ⟨v, e1, p⟩
def Bv : R2 := fun x y H Q => ∃ a v, x = .ref a ∧ mf H a y (some v) ∧ Q v H
theorem ym (hu : X.A.units + 1 < cLine) : yx X Bv := by
  intro value slice pins s σ H x y v u Q I rx ry h hs
  obtain ⟨a, z, rfl, g, q⟩ := h
  cases rx
  exact tail_any (qd I g) PySem.F.slot_dict_getitem.lookup (uP hu I g ry fun w' s3 I3 rw' => ⟨z, H, I3, rw', q⟩) hs
theorem Br : cB X km (fun x y H Q => Be X.K x y H Q ∨ BC X.K x y H Q ∨ AV x y H Q ∨ Bv x y H Q) bq := fun H x y dx dy Q hx hy q => by
  unfold bq at q
  split at q
  · rename_i ds i
    split at q
    · rename_i d e
      obtain ⟨a, vs, rfl, hq, r⟩ := eV (K := X.K) hx
      obtain ⟨v, e1, p⟩ := r.atI e
      exact .inl ⟨a, vs, i, v, rfl, bE hy, hq, e1, q v H (aB.refl _) p⟩
    · exact q.elim
  · rename_i ds i
    split at q
    · rename_i d e
      obtain ⟨a, vs, rfl, hq, r⟩ := cR hx
      obtain ⟨v, e1, p⟩ := r.atI e
      exact .inr (.inl ⟨a, vs, i, v, rfl, bE hy, dF.of hq, e1, q v H (aB.refl _) p⟩)
    · exact q.elim
  · rename_i z i
    split at q
    · rename_i hz
      split at q
      · rename_i c e
        exact .inr (.inr (.inl ⟨z, i, c, gZ hx, bE hy, hz, e, q _ H (aB.refl _) vG⟩))
      · exact q.elim
    · exact q.elim
  · rename_i kvs k
    split at q
    · exact q.elim
    rename_i hi
    split at q
    · rename_i κ e
      split at q
      · rename_i d e1
        obtain ⟨a, ks, rfl, h, r⟩ := ka (Bool.not_eq_true _ ▸ hi) hx
        obtain ⟨o, g, _, e2⟩ := sZ (κ := κ) h r
        rw [qu e] at e1
        obtain ⟨v, rfl, p⟩ := e2 d e1
        rw [← tW hy e] at g
        exact .inr (.inr (.inr ⟨a, v, rfl, g, q v H (aB.refl _) p⟩))
      · exact q.elim
    · exact q.elim
  · exact q.elim
theorem a5 (hu : X.A.units + 64 < cLine) (ha : bD X a fa) (hb : bD X b fb) (hs : oA b) : ag X (.Subscript a b pos) (e2 bq fa fb) := PE.imp (Bt (yf.or (Ab.or (zY.or (ym (by omega))))) ha hb hs) (two iu Br)
theorem Z.a5 (hu : X.A.units + 64 < cLine) (ha : Z.bD X a fa) (hb : Z.bD X b fb) (hs : oA b) : Z.ag X (.Subscript a b pos) (e2 bq fa fb) :=
  ⟨D2.a5 hu ha.un hb.un hs⟩
variable {nl : Nat} {G : List Str} {x : Str} {p : Pos}
def pf (X : Cx) (P : Hp → Hp → PyData → V → Prop) (r : List V → Hp → VK → Prop) (g : List PyData → R PyData) : Prop := ∀ H xs ds Q, RA gP H ds xs → ve X P (g ds) H Q → r xs H Q
theorem vE {P : Hp → Hp → PyData → V → Prop} {r : List V → Hp → VK → Prop} {g : List PyData → R PyData} (hP : Dn P) (hg : pf X P r g) (σ : St) (H : Hp) (Q : VK) (h : ld X P (fun ρ => fs ρ >>= g) σ H Q) : Cw r (xl X gP fs) σ H Q :=
  (mM (I := gP) (k := fun _ => g) (io (X := X) hP Q) h).post fun vs H1 ⟨_, ds, _, _, p1, q1⟩ => hg H1 vs ds Q p1 q1
def one (g : PyData → R PyData) : List PyData → R PyData
  | [d] => g d
  | _ => .no
def Az (g : PyData → PyData → R PyData) : List PyData → R PyData
  | [d, e] => g d e
  | _ => .no
theorem w5 (g : PyData → R PyData) (fa : Fe) : (fun ρ => ae fa aF ρ >>= one g) = e1 g fa := by
  funext ρ
  unfold ae aF e1
  cases fa ρ <;> rfl
theorem zy (g : PyData → PyData → R PyData) (fa fb : Fe) : (fun ρ => ae fa (ae fb aF) ρ >>= Az g) = e2 g fa fb := by
  funext ρ
  unfold ae aF e2
  cases fa ρ with
  | ok a => cases fb ρ <;> rfl
  | ex c => rfl
  | no => rfl
theorem vS {P : Hp → Hp → PyData → V → Prop} {r : List V → Hp → VK → Prop} {g : PyData → R PyData} (h : ∀ H x d Q, gP H d x → ve X P (g d) H Q → r [x] H Q) : pf X P r (one g) := fun H xs ds Q ra q => by
  unfold one at q
  split at q
  · rename_i d
    simp only [RA] at ra
    obtain ⟨v, r', e, p, e2⟩ := ra
    subst e2; subst e
    exact h H v d Q p q
  · exact q.elim
theorem Ag {P : Hp → Hp → PyData → V → Prop} {r : List V → Hp → VK → Prop} {g : PyData → PyData → R PyData} (h : ∀ H x y d e Q, gP H d x → gP H e y → ve X P (g d e) H Q → r [x, y] H Q) : pf X P r (Az g) := fun H xs ds Q ra q => by
  unfold Az at q
  split at q
  · rename_i d e
    simp only [RA] at ra
    obtain ⟨v, r', e1, p, v', r'', e2, p', e3⟩ := ra
    subst e3; subst e2; subst e1
    exact h H v v' d e Q p p' q
  · exact q.elim
section
variable {P : Hp → Hp → PyData → V → Prop} {r : List V → Hp → VK → Prop} {g : PyData → R PyData} {g2 : PyData → PyData → R PyData} {id ty : String}
theorem Am (T : Tb X nl G) (j : Nat) (hG : G[j]? = some x) (hm : X.mg x = none) (hP : Dn P) (hv : bootBuiltins x = some (.builtin id)) (hc : dq X (.builtin id) r) (hg : ∀ H x d Q, gP H d x → ve X P (g d) H Q → r [x] H Q) (ha : bD X a fa)
    (he : aq a = true := by rfl) : PE X (.Call (.Name x p) [a] [] pos) (ld X P (e1 g fa)) := by
  have q := T.gl x (List.mem_of_getElem? hG)
  rw [← w5]
  exact PE.imp (mQ hc q.1 hm hv (lH ha sf he) q.2.2 q.2.1 (a8 he)) (vE hP (vS hg))
theorem zt (T : Tb X nl G) (j : Nat) (hG : G[j]? = some x) (hm : X.mg x = none) (hP : Dn P) (hv : bootBuiltins x = some (.type ty)) (hc : dq X (.type ty) r) (hg : ∀ H x d Q, gP H d x → ve X P (g d) H Q → r [x] H Q) (ha : bD X a fa)
    (he : aq a = true := by rfl) : PE X (.Call (.Name x p) [a] [] pos) (ld X P (e1 g fa)) := by
  have q := T.gl x (List.mem_of_getElem? hG)
  rw [← w5]
  exact PE.imp (u7 hc q.1 hm hv (lH ha sf he) q.2.2 q.2.1 (a8 he)) (vE hP (vS hg))
theorem A0 (T : Tb X nl G) (j : Nat) (hG : G[j]? = some x) (hm : X.mg x = none) (hP : Dn P) (hv : bootBuiltins x = some (.builtin id)) (hc : dq X (.builtin id) r) (hg : ∀ H x y d e Q, gP H d x → gP H e y → ve X P (g2 d e) H Q → r [x, y] H Q) (ha : bD X a fa) (hb : bD X b fb)
    (he : aq a = true := by rfl) (he2 : aq b = true := by rfl) : PE X (.Call (.Name x p) [a, b] [] pos) (ld X P (e2 g2 fa fb)) := by
  have q := T.gl x (List.mem_of_getElem? hG)
  rw [← zy]
  exact PE.imp (mQ hc q.1 hm hv (lH ha (lH hb sf he2) he) q.2.2 q.2.1 (a8 he) (ni (by rw [List.all_cons, he2]; rfl))) (vE hP (Ag hg))
end
end
theorem kF : fillsNumberSlot (.type "tuple") "mul" = pure false :=
  PySem.fillsNumberSlot_seq (id := "tuple.__mul__") (r := some (.builtin "tuple.__rmul__")) F.slot_tuple_mul.lookup (by decide +kernel) F.slot_tuple_rmul.lookup (by decide +kernel)
theorem pA : seqRepeat? (.type "tuple") = pure (some (.builtin "tuple.__mul__")) := by
  unfold seqRepeat?
  rw [PySem.seqSlot_of (T := "tuple") (name := "__mul__") (id := "tuple.__mul__") F.slot_tuple_mul.lookup (by decide +kernel), PySem.seqSlot_of (T := "tuple") (name := "__rmul__") (id := "tuple.__rmul__") F.slot_tuple_rmul.lookup (by decide +kernel)]
  rfl
theorem lN (a : Int) (t : Tok) (l : Addr) (items : Array Value) (n : Nat) (dd : Option Addr) (sl : Array (Option Value)) :
    Meets (Builtin.«int.__rmul__» ⟨[.int a t, .ref l], []⟩) (fun _ R s => s.heap.get? l = some { cls := .type "tuple", dict := dd, data := .seq items n, slots := sl } ∧ R (.ok (.ret Value.notImplemented)) s) :=
  .of_wp fun prog w A R s h => by obtain ⟨hp, g, d, tk, os⟩ := s; obtain ⟨hl, h⟩ := h; wp_walk; exact ⟨_, rfl, h⟩
theorem r8 (l : Addr) (items : Array Value) (n : Nat) (dd : Option Addr) (sl : Array (Option Value)) (x : Int) (u : Tok) (h1 : 2 ≤ x) (h2 : x < 2 ^ 63) (h0 : ¬ items.isEmpty = true) (hc1 : ¬ (items.size : Int) * x > (2 ^ 63 - 1) / 8) (hbig : Builtin.Tuple.tupleTooMany ((items.size : Int) * x) = false) (hsz : ¬ (List.foldl (fun x1 x2 => x1 ++ x2) #[] (List.replicate x.toNat items)).size > sizeLine) :
    Meets (Builtin.«tuple.__mul__» ⟨[.ref l, .int x u], []⟩) (fun _ R s => s.heap.get? l = some { cls := .type "tuple", dict := dd, data := .seq items n, slots := sl } ∧ R (.ok (.ret (Value.ref s.heap.objs.size))) { s with heap := s.heap.push { cls := Value.type "tuple", data := Data.seq (List.foldl (fun x1 x2 => x1 ++ x2) #[] (List.replicate x.toNat items)) }, toks := s.toks }) :=
  .of_wp fun prog w A R s h => by
    obtain ⟨hp, g, d, tk, os⟩ := s; obtain ⟨hl, h⟩ := h
    have f1 := AutoSeq1.idx_int; have f2 := AutoSeq1.sub_tuple_tuple; have f3 := AutoSeq1.sub_list_list; have f4 := AutoSeq1.sub_tuple_list; have f5 := AutoSeq1.sub_list_tuple
    have e0 : (decide (x < -2 ^ 63) || decide (x ≥ 2 ^ 63)) = false := by
      rw [decide_eq_false (by omega), decide_eq_false (by omega)]; rfl
    have e1 : (items.isEmpty || x == 1) = false := by
      have : (x == 1) = false := by simp; omega
      rw [this, Bool.or_false]; exact Bool.eq_false_iff.mpr h0
    have e2 : (decide (x ≤ 0) || items.isEmpty) = false := by
      rw [decide_eq_false (by omega), Bool.false_or]; exact Bool.eq_false_iff.mpr h0
    have e3 : decide ((items.size : Int) * x > (2 ^ 63 - 1) / 8) = false := decide_eq_false hc1
    have e4 : Builtin.Tuple.tupleTooMany ((items.size : Int) * x) = false := hbig
    wp_walk using wpAny_loadPart' hl
    refine wpAny_ite_false (decide_eq_false (by rw [e0]; exact Bool.false_ne_true)) ?_
    wp_walk using wpAny_loadPart' hl
    refine wpAny_ite_false (decide_eq_false (by rw [e1]; exact Bool.false_ne_true)) ?_
    wp_walk using wpAny_loadPart' hl
    refine wpAny_ite_false (decide_eq_false (by rw [e2]; exact Bool.false_ne_true)) ?_
    wp_walk using wpAny_loadPart' hl
    refine wpAny_ite_false e3 ?_
    wp_walk using wpAny_loadPart' hl
    exact ⟨_, rfl, h⟩
section
variable {X : Cx} {a b c : Expr} {fa fb fc : Fe} {pos : Pos} {nl : Nat} {G : List Str} {x : Str} {p : Pos}
def yZ (K : PySem.W.Frag) : R2 := fun x y H Q => ∃ l k xs, x = .ref l ∧ y = .int k ∧ dF K H l xs ∧ xs ≠ [] ∧ 2 ≤ k ∧ k < 2 ^ 63 ∧ xs.length * k.toNat ≤ sizeLine ∧ ∀ p, H p = none → Q (.ref p) (ca H p (.tup (List.replicate k.toNat xs).flatten))
theorem yK : jA X (binaryOp .Mult) (yZ X.K) := by
  intro pins s σ H x y v u Q I rx ry h
  obtain ⟨l, k, xs, rfl, rfl, hH, hne, h1, h2, hz, q⟩ := h
  cases rx
  obtain ⟨t, rfl⟩ := ry
  obtain ⟨its, r, pl, hz0⟩ := I.tuple hH
  obtain ⟨⟨cls, dd, data, sl⟩, e, hc, n, hd⟩ := id pl
  simp only at hc hd
  subst hc hd
  have hl := r.length
  have hnew : List.foldl (fun x1 x2 => x1 ++ x2) #[] (List.replicate k.toNat its.toArray) = (List.replicate k.toNat its).flatten.toArray := by
    have := nS its k.toNat []
    rw [List.nil_append] at this
    exact this
  have hlen : (List.replicate k.toNat its).flatten.length ≤ sizeLine := by rw [sN, ← hl, Nat.mul_comm]; exact hz
  have hprod : (its.length : Int) * k ≤ (sizeLine : Int) := by
    have h3 : ((its.length * k.toNat : Nat) : Int) ≤ (sizeLine : Int) := by rw [← hl]; exact Int.ofNat_le.mpr hz
    have h4 : ((k.toNat : Nat) : Int) = k := Int.toNat_of_nonneg (by omega)
    rw [Int.natCast_mul, h4] at h3
    exact h3
  have hcap : ¬ (its.toArray.size : Int) * k > (2 ^ 63 - 1) / 8 := by
    rw [List.size_toArray]
    have hs : sizeLine = 16777216 := sizeLine_eq
    omega
  have hbig : Builtin.Tuple.tupleTooMany ((its.toArray.size : Int) * k) = false := by
    unfold Builtin.Tuple.tupleTooMany
    rw [List.size_toArray]
    exact decide_eq_false (by omega)
  refine wpAny_binaryOp_repeat_ref (T := "tuple") (U := "int") (by decide) ⟨_, e, rfl⟩ (fun s' => typeIs_int s' k t) kF F.fills_int_mul F.slot_int_rmul pA F.slot_int_index.lookup
    (call_meets F.slot_int_rmul (typeIs_int s k t) F.entry_int_rmul (F.args_int_rmul_2 _ _) (lN k t l its.toArray n dd sl)
      ⟨e, rfl, ⟨_, e, rfl⟩, call_meets F.slot_tuple_mul ⟨_, e, rfl⟩ F.entry_tuple_mul (F.args_tuple_mul_2 _ _) (r8 l its.toArray n dd sl k t h1 h2 (by
        intro z
        apply hne
        have : its = [] := by simpa using z
        rw [this] at hl
        exact List.length_eq_zero_iff.mp hl) hcap hbig (by rw [hnew, List.size_toArray]; omega)) ⟨e, ?_⟩⟩)
  rw [hnew]
  refine ⟨.ref s.heap.objs.size, _, I.laid (t' := s.toks) (o := .tup (List.replicate k.toNat xs).flatten) (fun b ob q => Heap.get?_push_of_some _ q) (Nat.le_refl _) ?_, rfl, q _ (I.hok.fresh (Nat.le_refl _))⟩
  exact ⟨by rw [sN, Nat.mul_comm]; exact hz, _, r.rep k.toNat, IsTup.new _ _⟩
def ff : PyData → PyData → R PyData
  | .int i, .int j => if (-(2 ^ 64) < i ∧ i < 2 ^ 64) ∨ (-(2 ^ 64) < j ∧ j < 2 ^ 64) then .ok (.int (i * j)) else .no
  | .tuple xs, .int k => if xs ≠ [] ∧ 2 ≤ k ∧ k < 2 ^ 63 ∧ xs.length * k.toNat ≤ sizeLine then .ok (.tuple (List.replicate k.toNat xs).flatten) else .no
  | _, _ => .no
theorem Ah : cB X km (fun x y H Q => rI yc (fun i j => .int (i * j)) x y H Q ∨ yZ X.K x y H Q) ff := fun H x y dx dy Q hx hy q => by
  cases dx with
  | int i =>
    cases dy with
    | int j =>
      simp only [ff] at q
      split at q
      · rename_i h; exact .inl ⟨_, _, bE hx, bE hy, h, q _ H (aB.refl _) cS⟩
      · exact q.elim
    | _ => exact q.elim
  | tuple xs =>
    cases dy with
    | int k =>
      simp only [ff] at q
      split at q
      · rename_i h
        obtain ⟨a, vs, rfl, ha, r⟩ := cR hx
        have hl := r.length
        refine .inr ⟨a, k, vs, rfl, bE hy, dF.of ha, fun z => h.1 ?_, h.2.1, h.2.2.1, by rw [hl]; exact h.2.2.2, fun p hp => q _ _ (bR hp _) (cK hp (r.rep _))⟩
        rw [z] at hl
        exact List.length_eq_zero_iff.mp hl.symm
      · exact q.elim
    | _ => exact q.elim
  | _ => exact q.elim
theorem fQ (ha : bD X a fa) (hb : bD X b fb) : ag X (.BinOp a .Mult b pos) (e2 ff fa fb) := mN iu (Ar.or yK) Ah ha hb
theorem Z.fQ (ha : Z.bD X a fa) (hb : Z.bD X b fb) : Z.ag X (.BinOp a .Mult b pos) (e2 ff fa fb) :=
  ⟨D2.fQ ha.un hb.un⟩
theorem yP : jA X (binaryOp .Add) (fun x y H Q => ∃ i j, x = .str i ∧ y = .str j ∧ i.length + j.length ≤ sizeLine ∧ Q (.str (i ++ j)) H) := by
  intro pins s σ H x y v u Q I rx ry h
  obtain ⟨i, j, rfl, rfl, hz, q⟩ := h
  obtain ⟨t, rfl⟩ := rx
  obtain ⟨t', rfl⟩ := ry
  exact PyProof.Rows.add_str (fun t' tk => ⟨.str (i ++ j), H, I.tok _, ⟨_, rfl⟩, q⟩) hz
def wY (K : PySem.W.Frag) : R2 := fun x y H Q => ∃ a b ys, x = .ref a ∧ y = .ref b ∧ dF K H a [] ∧ dF K H b ys ∧ Q (.ref b) H
theorem w9 : jA X (binaryOp .Add) (wY X.K) := by
  intro pins s σ H x y v u Q I rx ry h
  obtain ⟨a, b, ys, rfl, rfl, ha, hb, q⟩ := h
  cases rx
  cases ry
  obtain ⟨its, r1, p1, _⟩ := I.tuple ha
  obtain ⟨its2, r2, p2, _⟩ := I.tuple hb
  cases r1
  obtain ⟨⟨cls, dd, data, sl⟩, ho, hc, n, hd⟩ := id p1
  obtain ⟨⟨cls2, dd2, data2, sl2⟩, ho2, hc2, n2, hd2⟩ := id p2
  simp only at hc hd hc2 hd2
  subst hc hd hc2 hd2
  exact concat_meets ⟨_, ho, rfl⟩ ⟨_, ho2, rfl⟩ noFill_tuple_add seq_tuple_add PySem.F.slot_tuple_add PySem.F.entry_tuple_add (PySem.F.args_tuple_add_2 _ _)
    (tuple_addW0 a b _ its2.toArray n n2 dd dd2 sl sl2 (by rfl)) ⟨ho, ho2, ⟨.ref b, H, I, rfl, q⟩⟩
def yU (K : PySem.W.Frag) : R2 := fun x y H Q => ∃ l b xs zs, x = .ref l ∧ y = .ref b ∧ Rd H l (.lst xs) ∧ Rd H b (.lst zs) ∧ xs.length + zs.length ≤ sizeLine ∧ ∀ p, H p = none → Q (.ref p) (ca H p (.lst (xs ++ zs)))
theorem xB : jA X (binaryOp .Add) (yU X.K) := by
  intro pins s σ H x y v u Q I rx ry h
  obtain ⟨l, b, xs, zs, rfl, rfl, hH, hB, hz, q⟩ := h
  cases rx
  cases ry
  obtain ⟨z, its, n, r, e⟩ := hH.ok I.hok
  obtain ⟨z2, its2, n2, r2, e2⟩ := hB.ok I.hok
  have hl := r.length
  have hl2 := r2.length
  refine PySem.P.add_list e e2 ?_ (by rw [List.size_toArray, List.size_toArray]; omega)
  have ea : its.toArray ++ its2.toArray = (its ++ its2).toArray := by simp
  rw [ea]
  exact ⟨.ref _, _, I.lnew (t' := s.toks) (r.append r2) (by rw [List.length_append]; omega), rfl, q _ I.fresh⟩
def fx : PyData → PyData → R PyData
  | .int i, .int j => .ok (.int (i + j))
  | .str x, .str y => if x.length + y.length ≤ sizeLine then .ok (.str (x ++ y)) else .no
  | .tuple xs, .tuple ys => if xs.length + ys.length ≤ sizeLine then .ok (.tuple (xs ++ ys)) else .no
  | .list xs, .list ys => if xs.length + ys.length ≤ sizeLine then .ok (.list (xs ++ ys)) else .no
  | _, _ => .no
theorem pD {H : Hp} {ds : List PyData} {x : V} (h : gP H (.list ds) x) : ∃ a vs, x = .ref a ∧ Rd H a (.lst vs) ∧ bg H ds vs := by
  rcases h with h | h
  · simp only [Rp] at h
    obtain ⟨a, o, vs, e, ha, r⟩ := h
    exact ⟨a, vs, e, .inr ⟨o, ha⟩, r⟩
  · simp only [iw] at h
    obtain ⟨a, vs, e, ha, r⟩ := h
    exact ⟨a, vs, e, .inl ha, r⟩
theorem Al : cB X BR (fun x y H Q => xj (fun i j => .int (i + j)) x y H Q ∨ (∃ i j, x = .str i ∧ y = .str j ∧ i.length + j.length ≤ sizeLine ∧ Q (.str (i ++ j)) H) ∨ za X.K x y H Q ∨ wY X.K x y H Q ∨ yU X.K x y H Q) fx := fun H x y dx dy Q hx hy q => by
  cases dx with
  | int i =>
    cases dy with
    | int j => exact .inl ⟨_, _, bE hx, bE hy, q _ H (aB.refl _) (.inl cS)⟩
    | _ => exact q.elim
  | str i =>
    cases dy with
    | str j =>
      simp only [fx] at q
      split at q
      · rename_i h; exact .inr (.inl ⟨_, _, gZ hx, gZ hy, h, q _ H (aB.refl _) (.inl vG)⟩)
      · exact q.elim
    | _ => exact q.elim
  | tuple xs =>
    cases dy with
    | tuple ys =>
      simp only [fx] at q
      split at q
      · rename_i h
        have hx' := hx
        obtain ⟨a, vs, rfl, ha, r⟩ := cR hx
        obtain ⟨b, us, rfl, hb, r2⟩ := cR hy
        cases xs with
        | nil =>
          have := r.nil_inv
          subst this
          refine .inr (.inr (.inr (.inl ⟨a, b, us, rfl, rfl, dF.of ha, dF.of hb, q _ H (aB.refl _) (.inl ?_)⟩)))
          simp only [Rp, List.nil_append]
          exact ⟨b, us, rfl, hb, r2⟩
        | cons d ds =>
          refine .inr (.inr (.inl ⟨a, b, vs, us, rfl, rfl, dF.of ha, dF.of hb, fun z => ?_, by rw [r.length, r2.length]; exact h, fun z => ?_, fun _ p hp => q _ _ (bR hp _) (.inl (cK hp (r.append r2)))⟩))
          · rw [z] at r
            obtain ⟨_, _, e, _⟩ := r.cons_inv
            cases e
          · have hy0 : ys = [] := by
              have := r2.length
              rw [z] at this
              exact List.length_eq_zero_iff.mp this.symm
            refine q _ H (aB.refl _) (.inl ?_)
            rw [hy0, List.append_nil]
            simp only [Rp]
            exact ⟨a, vs, rfl, ha, r⟩
      · exact q.elim
    | _ => exact q.elim
  | list xs =>
    cases dy with
    | list ys =>
      simp only [fx] at q
      split at q
      · rename_i h
        obtain ⟨a, vs, rfl, ha, r⟩ := pD hx
        obtain ⟨b, us, rfl, hb, r2⟩ := pD hy
        exact .inr (.inr (.inr (.inr ⟨a, b, vs, us, rfl, rfl, ha, hb, by rw [r.length, r2.length]; exact h, fun p hp => q _ _ (bR hp _) (.inr (de hp (r.append r2)))⟩)))
      · exact q.elim
    | _ => exact q.elim
  | _ => exact q.elim
theorem dt (ha : bD X a fa) (hb : bD X b fb) : ag X (.BinOp a .Add b pos) (e2 fx fa fb) :=
  xh.e (mN yu (AE.or (yP.or (yh.or (w9.or xB)))) Al ha hb)
theorem Z.dt (ha : Z.bD X a fa) (hb : Z.bD X b fb) : Z.ag X (.BinOp a .Add b pos) (e2 fx fa fb) :=
  ⟨D2.dt ha.un hb.un⟩
end
section
variable {prog : Program} {w : World} {A : Around} {E : Value → Shared → Prop} {s : Shared}
theorem jk {t sl : Addr} {items : Array Value} {vl vu : Value} {lo hi : Option Int} {Q : Value → Shared → Prop} (ht : IsTup s.heap t items) (hs : s.heap.IsSliceOf sl vl vu .none) (pl : IsPart vl lo) (pu : IsPart vu hi)
    (hw : HT.sIx items.size 0 lo = 0 ∧ HT.sIx items.size items.size hi = items.size) (h : Q (.ref t) s) : wpAny (model prog w) A (getItem (.ref t) (.ref sl)) Q E s := by
  obtain ⟨os, hos, hcs, hds⟩ := id hs
  have hTs : s.TypeIs (.ref sl) "slice" := ⟨os, hos, hcs⟩
  unfold getItem
  try with_reducible refine wpAny_holding ?_
  first | refine wpAny_bind (wpAny_pure ?_) | skip
  refine wpAny_bind (wpAny_sequenceKey ht.typeIs (by decide) ?_)
  refine wpAny_bind (wpAny_callSpecial?_slot (name := Str.ofString "__getitem__") ht.typeIs PyProof.Rows.slot_tuple_getitem
    (wpAny_call_entry PyProof.Rows.slot_tuple_getitem ht.typeIs entry_tuple_getitem ?_ (args_tuple_getitem _ _)))
  show wpAny _ _ (Builtin.Tuple.tupleItemsOf (.ref t) >>= _) _ _ s
  refine wpAny_bind (tupleItemsOf_ ht ?_)
  refine wpAny_bind (wpAny_typeOf hTs ?_)
  rw [if_pos (by decide)]
  refine wpAny_bind (HT.sliceApplied_gen hs pl pu ?_)
  have hyes : (((HT.sIx items.size 0 lo : Nat) : Int) == 0 && (1 : Int) == 1 && (HT.sIx items.size items.size hi - HT.sIx items.size 0 lo) == items.size) = true := by
    rw [hw.1, hw.2]; simp
  show wpAny _ _ (if (((HT.sIx items.size 0 lo : Nat) : Int) == 0 && (1 : Int) == 1 && (HT.sIx items.size items.size hi - HT.sIx items.size 0 lo) == items.size) = true then _ else _) _ _ s
  rw [if_pos hyes]
  refine wpAny_bind (m := Builtin.Tuple.tupleIsExact _) ?_
  unfold Builtin.Tuple.tupleIsExact
  refine wpAny_bind (wpAny_typeOf ht.typeIs (wpAny_pure ?_))
  show wpAny _ _ (if (Value.type "tuple" == Value.type "tuple") = true then _ else _) _ _ s
  rw [if_pos (by decide)]
  refine wpAny_bind (wpAny_rule ?_)
  first
    | exact wpAny_pure ⟨_, rfl, wpAny_pure h⟩
    | exact wpAny_bind (wpAny_pure (wpAny_pure ⟨_, rfl, wpAny_pure h⟩))
end
section
variable {X : Cx} {a b c : Expr} {fa fb fc : Fe} {pos p2 : Pos} {nl : Nat} {G : List Str} {x : Str} {p : Pos}
def qk (xs : List PyData) (lo hi : Option Int) : List PyData := (xs.drop (HT.sIx xs.length 0 lo)).take (HT.sIx xs.length xs.length hi - HT.sIx xs.length 0 lo)
theorem bg.cut {H : Hp} {ds : List PyData} {vs : List V} (r : bg H ds vs) (lo hi : Option Int) : bg H (qk ds lo hi) (pZ vs lo hi) := by
  unfold qk pZ
  rw [r.length]
  exact (r.drop _).take _
def Co (K : PySem.W.Frag) : V → Option Int → Option Int → Hp → VK → Prop := fun x lo hi H Q => ∃ a xs, x = .ref a ∧ dF K H a xs ∧ (HT.sIx xs.length 0 lo = 0 ∧ HT.sIx xs.length xs.length hi = xs.length) ∧ Q (.ref a) H
theorem w6 : yW X (Co X.K) := by
  intro pins s σ H x v vl vu lo hi sl Q I rx hs pl pu h
  obtain ⟨a, xs, rfl, hx, hw, q⟩ := h
  cases rx
  obtain ⟨its, r, ht, hz⟩ := I.tuple hx
  have hlen : its.toArray.size = xs.length := by rw [List.size_toArray]; exact r.length.symm
  refine ⟨"tuple", _, PyProof.Rows.slot_tuple_getitem.lookup, ht.typeIs, ?_⟩
  exact jk ht hs pl pu (by rw [hlen]; exact hw) ⟨.ref a, H, I, rfl, q⟩
def AG : PyData → Option Int → Option Int → R PyData
  | .tuple xs, lo, hi => .ok (.tuple (qk xs lo hi))
  | .list xs, lo, hi => .ok (.list (qk xs lo hi))
  | _, _, _ => .no
abbrev Fo := aG → R (Option Int)
def p6 : Fo := fun _ => .ok none
def BV : PyData → R Int
  | .int i => .ok i
  | _ => .no
def qe (f : Fe) : Fo := fun ρ => f ρ >>= fun d => BV d >>= fun i => .ok (some i)
def xb (X : Cx) (f : Fo) : TO := fun σ H Q => ∃ ρ, Sl H σ ρ ∧ match f ρ with
  | .ok o => ∀ H', aB H H' → Q o H'
  | .ex c => Xw X c H
  | .no => False
def xk (X : Cx) (e : Option Expr) (f : Fo) : Prop := PO X e (xb X f)
structure Z.xk (X : Cx) (e : Option Expr) (f : Fo) : Prop where
  un : D2.xk X e f
theorem oM : xk X none p6 := fun pins s σ H Q I ⟨ρ, sl, q⟩ => yb pins s σ H Q I (q H (aB.refl _))
theorem Z.oM  : Z.xk X none p6 :=
  ⟨D2.oM⟩
theorem BB (Q : Option Int → Hp → Prop) : xN X (fun (r : R (Option Int)) H => match r with | .ok b => ∀ H', aB H H' → Q b H' | .ex c => Xw X c H | .no => False) where
  mono := fun r H H' h s => by
    cases r with
    | ok d => exact fun H2 s2 => h H2 (s.trans s2)
    | ex c => exact Xw.mono h s
    | no => exact h
  ex := fun c H h => h
  no := fun H h => h
theorem oR {e : Expr} {f : Fe} (h : ag X e f) : xk X (some e) (qe f) := fun pins s σ H Q I q =>
  xF h pins s σ H Q I ((hX (P := km) (f := f) (k := fun _ d => BV d >>= fun i => .ok (some i)) (BB (X := X) Q) q).post fun v H1 ⟨_, d, _, _, p, q1⟩ => by
    cases d with
    | int i =>
      have e1 : v = .int i := by simpa only [Rp] using p
      exact ⟨i, e1, q1 H1 (aB.refl _)⟩
    | _ => exact q1.elim)
theorem Z.oR {e : Expr} {f : Fe} (h : Z.ag X e f) : Z.xk X (some e) (qe f) :=
  ⟨D2.oR h.un⟩
def Bg (f : Fe) (lo hi : Fo) : Fe := fun ρ => f ρ >>= fun d => lo ρ >>= fun l => hi ρ >>= fun u => AG d l u
theorem wT {β : Type} {Tg : R β → Hp → Prop} {σ : St} {H : Hp} (t : xN X Tg) {f : Fo} {k : aG → Option Int → R β} (h : ∃ ρ, Sl H σ ρ ∧ Tg (f ρ >>= k ρ) H) : xb X f σ H (fun o H1 => ∃ ρ, Sl H1 σ ρ ∧ aB H H1 ∧ Tg (k ρ o) H1) := by
  obtain ⟨ρ, sl, q⟩ := h
  refine ⟨ρ, sl, ?_⟩
  cases e : f ρ with
  | ok d => rw [e] at q; exact fun H1 s => ⟨ρ, sl.mono s, s, t.mono _ _ _ q s⟩
  | ex c => rw [e] at q; exact t.ex _ _ q
  | no => rw [e] at q; exact (t.no _ q).elim
theorem xb.post {f : Fo} {σ : St} {H : Hp} {Q Q' : Option Int → Hp → Prop} (h : xb X f σ H Q) (i : ∀ b H', Q b H' → Q' b H') : xb X f σ H Q' := by
  obtain ⟨ρ, sl, q⟩ := h
  refine ⟨ρ, sl, ?_⟩
  cases e : f ρ with
  | ok d => rw [e] at q; exact fun H' s => i _ _ (q H' s)
  | ex c => rw [e] at q; exact q
  | no => rw [e] at q; exact q
theorem lW {lo hi : Option Expr} {fl fh : Fo} (ha : bD X a fa) (hl : xk X lo fl) (hu : xk X hi fh) : ag X (.Subscript a (.Slice lo hi none p2) pos) (Bg fa fl fh) := by
  refine xh.e (PE.imp (wu (w6.or (AA.or xW)) ha hl hu) fun σ H Q h => ?_)
  refine (hX (P := zN) (f := fa) (k := fun ρ d => fl ρ >>= fun l => fh ρ >>= fun u => AG d l u) (io (X := X) yu Q) h).post fun v H1 ⟨ρ1, d1, sl1, _, p1, q1⟩ => ?_
  refine (wT (f := fl) (k := fun ρ l => fh ρ >>= fun u => AG d1 l u) (io (X := X) yu Q) ⟨ρ1, sl1, q1⟩).post fun l H2 ⟨ρ2, sl2, s2, q2⟩ => ?_
  refine (wT (f := fh) (k := fun ρ u => AG d1 l u) (io (X := X) yu Q) ⟨ρ2, sl2, q2⟩).post fun u H3 ⟨ρ3, sl3, s3, q3⟩ => ?_
  have p3 : gP H3 d1 v := gP.mono (gP.mono p1 s2) s3
  cases d1 with
  | tuple xs =>
    obtain ⟨a', vs, rfl, ha', r⟩ := cR p3
    have hlen := r.length
    by_cases hw : HT.sIx vs.length 0 l = 0 ∧ HT.sIx vs.length vs.length u = vs.length
    · refine .inl ⟨a', vs, rfl, dF.of ha', hw, q3 _ H3 (aB.refl _) (.inl ?_)⟩
      have e : qk xs l u = xs := by
        unfold qk
        rw [← hlen, hw.1, hw.2]
        simp [hlen]
      rw [e]
      simp only [Rp]
      exact ⟨a', vs, rfl, ha', r⟩
    · exact .inr (.inl ⟨a', vs, rfl, dF.of ha', hw, fun p hp => q3 _ _ (bR hp _) (.inl (cK hp (r.cut l u)))⟩)
  | list xs =>
    obtain ⟨a', vs, rfl, ha', r⟩ := eV (K := X.K) p3
    exact .inr (.inr ⟨a', vs, rfl, ha', fun p hp => q3 _ _ (bR hp _) (.inr (de hp (r.cut l u)))⟩)
  | _ => exact q3.elim
theorem Z.lW {lo hi : Option Expr} {fl fh : Fo} (ha : Z.bD X a fa) (hl : Z.xk X lo fl) (hu : Z.xk X hi fh) : Z.ag X (.Subscript a (.Slice lo hi none p2) pos) (Bg fa fl fh) :=
  ⟨D2.lW ha.un hl.un hu.un⟩
end
section
variable {X : Cx} {a b c : Expr} {fa fb fc : Fe} {pos p2 : Pos} {nl : Nat} {G : List Str} {x : Str} {p : Pos}
theorem va : dq X (.builtin "len") (fun xs H Q => ∃ a kvs, xs = [V.ref a] ∧ Rd H a (.dK kvs) ∧ Q (.int kvs.length) H) := by
  intro pins s σ H xs us Q I r h
  obtain ⟨a, kvs, rfl, ha, q⟩ := h
  obtain ⟨u, rfl, ru⟩ := gJ r
  cases ru
  exact Bh I ha fun t s' I' => ⟨.int kvs.length, H, I', ⟨t, rfl⟩, q⟩
theorem dB.length {H : Hp} : ∀ {kvs : List (PyData × PyData)} {ks : List (cH × V)}, dB H kvs ks → ks.length = kvs.length
  | [], ks, h => by simp only [dB] at h; rw [h]; rfl
  | kd :: kvs, ks, h => by
    simp only [dB] at h
    obtain ⟨x, v, r, rfl, _, t⟩ := h
    rw [List.length_cons, List.length_cons, dB.length t]
def cZ : PyData → R PyData
  | .list ds => .ok (.int ds.length)
  | .tuple ds => .ok (.int ds.length)
  | .dict kvs => if nI kvs = true then .no else .ok (.int kvs.length)
  | .str y => if y.length ≤ sizeLine then .ok (.int y.length) else .no
  | _ => .no
theorem cV (T : Tb X nl G) (j : Nat) (hG : G[j]? = some ("len" : Str)) (hm : X.mg "len" = none) (ha : bD X a fa) (he : aq a = true := by rfl) : ag X (.Call (.Name "len" p) [a] [] pos) (e1 cZ fa) := by
  refine Am T j hG hm iu PySem.boot_len (oG.or (pG.or va)) (fun H x d Q hx q => ?_) ha he
  cases d with
  | list ds =>
    obtain ⟨a', vs, rfl, h, r⟩ := eV (K := X.K) hx
    exact .inl ⟨a', vs, rfl, .inl h, by rw [r.length]; exact q _ H (aB.refl _) cS⟩
  | tuple ds =>
    obtain ⟨a', vs, rfl, h, r⟩ := cR hx
    exact .inl ⟨a', vs, rfl, .inr (dF.of h), by rw [r.length]; exact q _ H (aB.refl _) cS⟩
  | dict kvs =>
    simp only [cZ] at q
    split at q
    · exact q.elim
    rename_i hi
    obtain ⟨a', vs, rfl, h, r⟩ := ka (Bool.not_eq_true _ ▸ hi) hx
    exact .inr (.inr ⟨a', vs, rfl, h, by rw [r.length]; exact q _ H (aB.refl _) cS⟩)
  | str y =>
    simp only [cZ] at q
    split at q
    · rename_i hz; exact .inr (.inl ⟨y, by rw [gZ hx], hz, q _ H (aB.refl _) cS⟩)
    · exact q.elim
  | _ => exact q.elim
theorem Z.cV (T : Tb X nl G) (j : Nat) (hG : G[j]? = some ("len" : Str)) (hm : X.mg "len" = none) (ha : Z.bD X a fa) (he : aq a = true := by rfl) : Z.ag X (.Call (.Name "len" p) [a] [] pos) (e1 cZ fa) :=
  ⟨D2.cV T j hG hm ha.un he⟩
def xM : PyData → R PyData
  | .int i => .ok (.int i)
  | .bool k => .ok (.int (if k then 1 else 0))
  | _ => .no
theorem pB (T : Tb X nl G) (j : Nat) (hG : G[j]? = some ("int" : Str)) (hm : X.mg "int" = none) (ha : bD X a fa) (he : aq a = true := by rfl) : ag X (.Call (.Name "int" p) [a] [] pos) (e1 xM fa) := by
  refine zt T j hG hm iu PyProof.Rows.boot_int uY (fun H x d Q hx q => ?_) ha he
  cases d with
  | int i => exact .inl ⟨i, by rw [bE hx], q _ H (aB.refl _) cS⟩
  | bool k => exact .inr ⟨k, by rw [mo hx], q _ H (aB.refl _) cS⟩
  | _ => exact q.elim
theorem Z.pB (T : Tb X nl G) (j : Nat) (hG : G[j]? = some ("int" : Str)) (hm : X.mg "int" = none) (ha : Z.bD X a fa) (he : aq a = true := by rfl) : Z.ag X (.Call (.Name "int" p) [a] [] pos) (e1 xM fa) :=
  ⟨D2.pB T j hG hm ha.un he⟩
def CW : PyData → R PyData
  | .int i => if i.natAbs.log2 < 1920 then .ok (.str (toString i)) else .no
  | _ => .no
def x4 : PyData → PyData → R PyData
  | .int i, .int j => .ok (.int (if j < i then j else i))
  | _, _ => .no
def yt : PyData → PyData → R PyData
  | .int i, .int j => .ok (.int (if j > i then j else i))
  | _, _ => .no
theorem qU (T : Tb X nl G) (j : Nat) (hG : G[j]? = some ("min" : Str)) (hm : X.mg "min" = none) (ha : bD X a fa) (hb : bD X b fb) (he : aq a = true := by rfl) (he2 : aq b = true := by rfl) :
    ag X (.Call (.Name "min" p) [a, b] [] pos) (e2 x4 fa fb) := by
  refine A0 T j hG hm iu PyProof.Rows.boot_min (ub T.calm) (fun H x y d e Q hx hy q => ?_) ha hb he he2
  cases d with
  | int i =>
    cases e with
    | int j => exact ⟨i, j, by rw [bE hx, bE hy], q _ H (aB.refl _) cS⟩
    | _ => exact q.elim
  | _ => exact q.elim
theorem Z.qU (T : Tb X nl G) (j : Nat) (hG : G[j]? = some ("min" : Str)) (hm : X.mg "min" = none) (ha : Z.bD X a fa) (hb : Z.bD X b fb) (he : aq a = true := by rfl) (he2 : aq b = true := by rfl) : Z.ag X (.Call (.Name "min" p) [a, b] [] pos) (e2 x4 fa fb) :=
  ⟨D2.qU T j hG hm ha.un hb.un he he2⟩
theorem qW (T : Tb X nl G) (j : Nat) (hG : G[j]? = some ("max" : Str)) (hm : X.mg "max" = none) (ha : bD X a fa) (hb : bD X b fb) (he : aq a = true := by rfl) (he2 : aq b = true := by rfl) :
    ag X (.Call (.Name "max" p) [a, b] [] pos) (e2 yt fa fb) := by
  refine A0 T j hG hm iu PyProof.Rows.boot_max (uI T.calm) (fun H x y d e Q hx hy q => ?_) ha hb he he2
  cases d with
  | int i =>
    cases e with
    | int j => exact ⟨i, j, by rw [bE hx, bE hy], q _ H (aB.refl _) cS⟩
    | _ => exact q.elim
  | _ => exact q.elim
theorem Z.qW (T : Tb X nl G) (j : Nat) (hG : G[j]? = some ("max" : Str)) (hm : X.mg "max" = none) (ha : Z.bD X a fa) (hb : Z.bD X b fb) (he : aq a = true := by rfl) (he2 : aq b = true := by rfl) : Z.ag X (.Call (.Name "max" p) [a, b] [] pos) (e2 yt fa fb) :=
  ⟨D2.qW T j hG hm ha.un hb.un he he2⟩
def dN : PyData → R PyData
  | .list ds => .ok (.tuple ds)
  | .tuple ds => .ok (.tuple ds)
  | _ => .no
theorem cx (T : Tb X nl G) (j : Nat) (hG : G[j]? = some ("tuple" : Str)) (hm : X.mg "tuple" = none) (ha : bD X a fa) (he : aq a = true := by rfl) : ag X (.Call (.Name "tuple" p) [a] [] pos) (e1 dN fa) := by
  refine zt T j hG hm iu PyProof.Rows.boot_tuple nF (fun H x d Q hx q => ?_) ha he
  cases d with
  | list ds =>
    obtain ⟨a', vs, rfl, h, r⟩ := eV (K := X.K) hx
    exact ⟨a', vs, rfl, .inl ⟨h, fun l hl => q _ _ (bR hl _) (cK hl r)⟩⟩
  | tuple ds =>
    obtain ⟨a', vs, rfl, h, r⟩ := cR hx
    exact ⟨a', vs, rfl, .inr ⟨dF.of h, q _ H (aB.refl _) (by simp only [Rp]; exact ⟨a', vs, rfl, h, r⟩)⟩⟩
  | _ => exact q.elim
theorem Z.cx (T : Tb X nl G) (j : Nat) (hG : G[j]? = some ("tuple" : Str)) (hm : X.mg "tuple" = none) (ha : Z.bD X a fa) (he : aq a = true := by rfl) : Z.ag X (.Call (.Name "tuple" p) [a] [] pos) (e1 dN fa) :=
  ⟨D2.cx T j hG hm ha.un he⟩
def nc : PyData → R PyData
  | .list ds => .ok (.list ds)
  | .tuple ds => .ok (.list ds)
  | _ => .no
theorem iV (T : Tb X nl G) (j : Nat) (hG : G[j]? = some ("list" : Str)) (hm : X.mg "list" = none) (ha : bD X a fa) (he : aq a = true := by rfl) : fF X (.Call (.Name "list" p) [a] [] pos) (e1 nc fa) := by
  refine zt T j hG hm xz PyProof.Rows.boot_list ox (fun H x d Q hx q => ?_) ha he
  cases d with
  | list ds =>
    obtain ⟨a', vs, rfl, h, r⟩ := eV (K := X.K) hx
    exact ⟨a', vs, rfl, .inl h, fun l hl => q _ _ (bR hl _) (de hl r)⟩
  | tuple ds =>
    obtain ⟨a', vs, rfl, h, r⟩ := cR hx
    exact ⟨a', vs, rfl, .inr (dF.of h), fun l hl => q _ _ (bR hl _) (de hl r)⟩
  | _ => exact q.elim
theorem Z.iV (T : Tb X nl G) (j : Nat) (hG : G[j]? = some ("list" : Str)) (hm : X.mg "list" = none) (ha : Z.bD X a fa) (he : aq a = true := by rfl) : Z.fF X (.Call (.Name "list" p) [a] [] pos) (e1 nc fa) :=
  ⟨D2.iV T j hG hm ha.un he⟩
inductive Ty where
  | int | bool | str | list | tuple
def Ty.nm : Ty → String
  | .int => "int"
  | .bool => "bool"
  | .str => "str"
  | .list => "list"
  | .tuple => "tuple"
def xi : Ty → PyData → Bool
  | .int, .int _ => true
  | .int, .bool _ => true
  | .bool, .bool _ => true
  | .str, .str _ => true
  | .list, .list _ => true
  | .tuple, .tuple _ => true
  | _, _ => false
def dS (T : Ty) : PyData → R PyData
  | .dict _ => .no
  | d => .ok (.bool (xi T d))
theorem vF : dq X (.builtin "isinstance") (fun xs H Q => ∃ x t T k, xs = [x, .ty T] ∧ kc X.K H x t ∧ PySem.W.kitOne X.K t (.type T) = some k ∧ Q (.bl k) H) := by
  intro pins s σ H xs us Q I r h
  obtain ⟨x, t, T, k, rfl, ty, e, q⟩ := h
  obtain ⟨u, w', rfl, rx, ry⟩ := tS r
  cases ry
  exact vc I rx ty e fun tk => ⟨.bl k, H, I.tok tk, rfl, q⟩
theorem AN {K : PySem.W.Frag} {H : Hp} {d : PyData} {v : V} (h : gP H d v) : (∃ kvs, d = .dict kvs) ∨ ∃ t, kc K H v t ∧ ∀ T : Ty, PySem.W.kitOne K t (.type T.nm) = some (xi T d) := by
  cases d with
  | none => rw [kf h]; exact .inr ⟨_, .non, fun T => by cases T <;> rfl⟩
  | bool k => rw [mo h]; exact .inr ⟨_, .bl k, fun T => by cases T <;> rfl⟩
  | int i => rw [bE h]; exact .inr ⟨_, .int i, fun T => by cases T <;> rfl⟩
  | str y => rw [gZ h]; exact .inr ⟨_, .str y, fun T => by cases T <;> rfl⟩
  | tuple ds => obtain ⟨a, vs, rfl, ha, _⟩ := cR h; exact .inr ⟨_, .tup ha, fun T => by cases T <;> rfl⟩
  | list ds =>
    obtain ⟨a, vs, rfl, ha, _⟩ := pD h
    rcases ha with ha | ⟨o, ha⟩
    · exact .inr ⟨_, .lst ha, fun T => by cases T <;> rfl⟩
    · exact .inr ⟨_, .frz ha, fun T => by cases T <;> rfl⟩
  | dict kvs => exact .inl ⟨kvs, rfl⟩
theorem rz (ty : Ty) {y : Str} {py : Pos} (T : Tb X nl G) (j : Nat) (hG : G[j]? = some ("isinstance" : Str)) (hm : X.mg "isinstance" = none) (hy : bootBuiltins y = some (.type ty.nm)) (T' : Tb X nl G) (j' : Nat) (hG' : G[j']? = some y) (hm' : X.mg y = none) (ha : bD X a fa)
    (he : aq a = true := by rfl) : ag X (.Call (.Name "isinstance" p) [a, .Name y py] [] pos) (e1 (dS ty) fa) := by
  have g := T.gl _ (List.mem_of_getElem? hG)
  have g' := T.gl _ (List.mem_of_getElem? hG')
  have hp : PE X (.Name y py) (tC (.ty ty.nm)) := xE g'.1 hm' hy rfl g'.2.2 g'.2.1
  refine PE.imp (mQ vF g.1 hm PyProof.Rows.boot_isinstance (oZ ha (oZ hp vm) (a8 he)) g.2.2 g.2.1 (a8 he)) fun σ H Q h => ?_
  refine (hX (P := zN) (f := fa) (k := fun _ d => dS ty d) (io (X := X) iu Q) h).post fun v H1 ⟨_, d, _, _, p1, q1⟩ => ?_
  show ∃ x t T k, _ ∧ _ ∧ _ ∧ _
  rcases AN (K := X.K) p1 with ⟨kvs, rfl⟩ | ⟨t, ht, hk⟩
  · exact q1.elim
  · refine ⟨v, t, ty.nm, xi ty d, rfl, ht, hk ty, ?_⟩
    cases d with
    | dict kvs => exact q1.elim
    | _ => exact q1 _ H1 (aB.refl _) fJ
theorem hU {py : Pos} (T : Tb X nl G) (j : Nat) (hG : G[j]? = some ("isinstance" : Str)) (hm : X.mg "isinstance" = none) (T' : Tb X nl G) (j' : Nat) (hG' : G[j']? = some ("int" : Str)) (hm' : X.mg "int" = none) (ha : bD X a fa)
    (he : aq a = true := by rfl) : ag X (.Call (.Name "isinstance" p) [a, .Name "int" py] [] pos) (e1 (dS .int) fa) := rz .int T j hG hm PyProof.Rows.boot_int T' j' hG' hm' ha he
theorem Z.hU {py : Pos} (T : Tb X nl G) (j : Nat) (hG : G[j]? = some ("isinstance" : Str)) (hm : X.mg "isinstance" = none) (T' : Tb X nl G) (j' : Nat) (hG' : G[j']? = some ("int" : Str)) (hm' : X.mg "int" = none) (ha : Z.bD X a fa) (he : aq a = true := by rfl) : Z.ag X (.Call (.Name "isinstance" p) [a, .Name "int" py] [] pos) (e1 (dS .int) fa) :=
  ⟨D2.hU T j hG hm T' j' hG' hm' ha.un he⟩
theorem gq {py : Pos} (T : Tb X nl G) (j : Nat) (hG : G[j]? = some ("isinstance" : Str)) (hm : X.mg "isinstance" = none) (T' : Tb X nl G) (j' : Nat) (hG' : G[j']? = some ("bool" : Str)) (hm' : X.mg "bool" = none) (ha : bD X a fa)
    (he : aq a = true := by rfl) : ag X (.Call (.Name "isinstance" p) [a, .Name "bool" py] [] pos) (e1 (dS .bool) fa) := rz .bool T j hG hm PyProof.Rows.boot_bool T' j' hG' hm' ha he
theorem Z.gq {py : Pos} (T : Tb X nl G) (j : Nat) (hG : G[j]? = some ("isinstance" : Str)) (hm : X.mg "isinstance" = none) (T' : Tb X nl G) (j' : Nat) (hG' : G[j']? = some ("bool" : Str)) (hm' : X.mg "bool" = none) (ha : Z.bD X a fa) (he : aq a = true := by rfl) : Z.ag X (.Call (.Name "isinstance" p) [a, .Name "bool" py] [] pos) (e1 (dS .bool) fa) :=
  ⟨D2.gq T j hG hm T' j' hG' hm' ha.un he⟩
theorem dU {py : Pos} (T : Tb X nl G) (j : Nat) (hG : G[j]? = some ("isinstance" : Str)) (hm : X.mg "isinstance" = none) (T' : Tb X nl G) (j' : Nat) (hG' : G[j']? = some ("tuple" : Str)) (hm' : X.mg "tuple" = none) (ha : bD X a fa)
    (he : aq a = true := by rfl) : ag X (.Call (.Name "isinstance" p) [a, .Name "tuple" py] [] pos) (e1 (dS .tuple) fa) := rz .tuple T j hG hm PyProof.Rows.boot_tuple T' j' hG' hm' ha he
theorem Z.dU {py : Pos} (T : Tb X nl G) (j : Nat) (hG : G[j]? = some ("isinstance" : Str)) (hm : X.mg "isinstance" = none) (T' : Tb X nl G) (j' : Nat) (hG' : G[j']? = some ("tuple" : Str)) (hm' : X.mg "tuple" = none) (ha : Z.bD X a fa) (he : aq a = true := by rfl) : Z.ag X (.Call (.Name "isinstance" p) [a, .Name "tuple" py] [] pos) (e1 (dS .tuple) fa) :=
  ⟨D2.dU T j hG hm T' j' hG' hm' ha.un he⟩
end
section
variable {X : Cx} {tg a b c : Expr} {fa fb fc : Fe} {pos p2 : Pos} {nl : Nat} {G : List Str} {x : Str} {p : Pos} {fs : aG → R (List PyData)} {es : List Expr}
def hR : PyData → R (List PyData)
  | .list ds => .ok ds
  | .tuple ds => .ok ds
  | _ => .no
def cY (f : Fe) : aG → R (List PyData) := fun ρ => f ρ >>= hR
theorem wZ {K : PySem.W.Frag} {a : Addr} {ds : List PyData} : xf (Ci K a) (fun H => ∃ o vs, H a = some (.frz o (.lst vs)) ∧ bg H ds vs) ds where
  go := fun i H ⟨o, vs, h, r⟩ hi => by
    have hl := r.length
    exact ⟨vs, vs[i], .inl (.inr ⟨o, h⟩), List.getElem?_eq_getElem (by omega)⟩
  yld := fun i H x H' d ⟨o, vs, h, r⟩ hd ⟨e, y⟩ => by
    subst e
    obtain ⟨v, e1, p⟩ := r.get hd
    have := y vs (.inl (.inr ⟨o, h⟩))
    rw [e1] at this
    cases this
    exact ⟨aB.refl _, p⟩
  stop := fun i H ⟨o, vs, h, r⟩ hi => ⟨vs, .inl (.inr ⟨o, h⟩), by rw [r.length]; exact hi⟩
theorem xU {K : PySem.W.Frag} {a : Addr} {ds : List PyData} : xf (B6 K a) (fun H => ∃ vs, H a = some (.tup vs) ∧ bg H ds vs) ds where
  go := fun i H ⟨vs, h, r⟩ hi => by
    have hl := r.length
    exact ⟨vs, vs[i], dF.of h, List.getElem?_eq_getElem (by omega)⟩
  yld := fun i H x H' d ⟨vs, h, r⟩ hd ⟨e, y⟩ => by
    subst e
    obtain ⟨v, e1, p⟩ := r.get hd
    have := y vs (dF.of h)
    rw [e1] at this
    cases this
    exact ⟨aB.refl _, p⟩
  stop := fun i H ⟨vs, h, r⟩ hi => ⟨vs, dF.of h, by rw [r.length]; exact hi⟩
def CT (K : PySem.W.Frag) (tl : TE) : TI := fun σ H R => tl σ H fun x H1 => ∃ a, x = .ref a ∧ ((∃ xs, mV K H1 a xs ∧ R (Ci K a) H1) ∨ ∃ xs, dF K H1 a xs ∧ R (B6 K a) H1)
theorem BO {l : Expr} {tl : TE} (hl : PE X l tl) : PI X tg l (CT X.K tl) := by
  intro pins s σ H R I h
  refine cO (hl pins s σ H _ I h) fun v s1 ⟨x, H1, I1, r1, q1⟩ => ?_
  obtain ⟨a, e, q⟩ := q1
  subst e
  cases r1
  rcases q with ⟨xs, hq, q⟩ | ⟨xs, hq, q⟩
  · obtain ⟨its, rv, p, hz⟩ := I1.list hq
    refine wpAny_pyIter_list p.isList ?_
    refine ⟨s1.heap.objs.size, [s1.heap.objs.size], _, _, H1, rfl, I1.kept (t' := s1.toks) fun b o e => Heap.get?_push_of_some _ e, uh a _, ⟨_, Heap.get?_push_size _ rfl, rfl, rfl⟩, fun b hb => ?_, q⟩
    have e : b = s1.heap.objs.size := by simpa using hb
    subst e
    exact I1.fpOk (Nat.le_refl _) (I1.hok.fresh (Nat.le_refl _))
  · obtain ⟨its, rv, p, hz⟩ := I1.tuple hq
    refine wpAny_pyIter_tuple (show s1.heap.IsTuple a its.toArray from p) ?_
    refine ⟨s1.heap.objs.size, [s1.heap.objs.size], _, _, H1, rfl, I1.kept (t' := s1.toks) fun b o e => Heap.get?_push_of_some _ e, rh a _, ⟨_, Heap.get?_push_size _ rfl, rfl, rfl⟩, fun b hb => ?_, q⟩
    have e : b = s1.heap.objs.size := by simpa using hb
    subst e
    exact I1.fpOk (Nat.le_refl _) (I1.hok.fresh (Nat.le_refl _))
theorem BF (Rk : It → Hp → Prop) : xN X (fun (r : R (List PyData)) H => match r with | .ok ds => ∀ J H', aB H H' → (∃ Gd, xf J Gd ds ∧ B0 H' (fun _ => False) Gd) → Rk J H' | .ex c => Xw X c H | .no => False) where
  mono := fun r H H' h s => by
    cases r with
    | ok d => exact fun J H2 s2 => h J H2 (s.trans s2)
    | ex c => exact Xw.mono h s
    | no => exact h
  ex := fun c H h => h
  no := fun H h => h
theorem bX (ha : ag X a fa) : nk X tg a (cY fa) :=
  PI.imp (BO ha) fun σ H Rk h => (hX (P := km) (f := fa) (k := fun _ => hR) (BF (X := X) Rk) h).post fun v H1 ⟨_, d, _, _, p1, q1⟩ => by
    cases d with
    | list ds =>
      simp only [Rp] at p1
      obtain ⟨a', o, vs, rfl, h, r⟩ := p1
      exact ⟨a', rfl, .inl ⟨vs, .inl (.inr ⟨o, h⟩), q1 _ H1 (aB.refl _) ⟨_, wZ, fun H2 k _ => ⟨o, vs, k.2 _ _ _ h, bg.kp k _ _ r⟩⟩⟩⟩
    | tuple ds =>
      simp only [Rp] at p1
      obtain ⟨a', vs, rfl, h, r⟩ := p1
      exact ⟨a', rfl, .inr ⟨vs, dF.of h, q1 _ H1 (aB.refl _) ⟨_, xU, fun H2 k _ => ⟨vs, k.1 _ _ h, bg.kp k _ _ r⟩⟩⟩⟩
    | _ => exact q1.elim
theorem Z.bX (ha : Z.ag X a fa) : Z.nk X tg a (cY fa) :=
  ⟨D2.bX ha.un⟩
def bt (lo : Int) (n : Nat) : List PyData := (List.range n).map fun (k : Nat) => .int (lo + k)
def oO : List PyData → R (List PyData)
  | [.int j] => if -(2 ^ 62) ≤ j ∧ j < 2 ^ 62 then .ok (bt 0 j.toNat) else .no
  | [.int i, .int j] => if -(2 ^ 62) ≤ i ∧ i < 2 ^ 62 ∧ -(2 ^ 62) ≤ j ∧ j < 2 ^ 62 then .ok (bt i (j - i).toNat) else .no
  | _ => .no
def h7 (fs : aG → R (List PyData)) : aG → R (List PyData) := fun ρ => fs ρ >>= oO
theorem uk {lo : Int} {n : Nat} : xf (BT lo n) (fun _ => True) (bt lo n) where
  go := fun i H _ hi => by
    show i < n
    simpa [bt] using hi
  yld := fun i H x H' d _ hd ⟨e, y⟩ => by
    subst e
    subst y
    refine ⟨aB.refl _, ?_⟩
    unfold bt at hd
    rw [List.getElem?_map] at hd
    cases h : (List.range n)[i]? with
    | none => rw [h] at hd; cases hd
    | some k =>
      rw [h] at hd
      have hk : k = i := by
        rw [List.getElem?_range] at h
        · exact (Option.some.inj h).symm
        · have := (List.getElem?_eq_some_iff.mp h).1
          simpa using this
      subst hk
      cases hd
      exact cS
  stop := fun i H _ hi => by
    show n ≤ i
    simpa [bt] using hi
theorem fN (T : Tb X nl G) (j : Nat) (hG : G[j]? = some ("range" : Str)) (hm : X.mg "range" = none) (ha : nr X [a] fs) (hl : ∀ ρ ds, fs ρ = .ok ds → ds.length = 1) (hs : aq a = true := by rfl) : nk X tg (.Call (.Name "range" p) [a] [] pos) (h7 fs) :=
  PI.imp (uq (T.gl _ (List.mem_of_getElem? hG)).1 hm ha (a8 hs)) fun σ H Rk ⟨ρ, sl, q⟩ => by
    refine ⟨ρ, sl, ?_⟩
    dsimp only [h7] at q
    cases e : fs ρ with
    | ex c => rw [e] at q; exact q
    | no => rw [e] at q; exact q
    | ok ds =>
      rw [e] at q
      have hlen := hl ρ ds e
      intro vs H1 s1 r1
      match ds, hlen with
      | [d], _ =>
        simp only [RA] at r1
        obtain ⟨v, r', rfl, p1, rfl⟩ := r1
        cases d with
        | int j =>
          have ev : v = .int j := by simpa only [Rp] using p1
          subst ev
          by_cases hz : -(2 ^ 62) ≤ j ∧ j < 2 ^ 62
          · have e2 : oO [.int j] = .ok (bt 0 j.toNat) := if_pos hz
            rw [R.ok_bind, e2] at q
            exact ⟨j, rfl, hz.1, hz.2, q _ H1 s1 ⟨_, uk, fun _ _ _ => True.intro⟩⟩
          · have e2 : oO [.int j] = .no := if_neg hz
            rw [R.ok_bind, e2] at q
            exact q.elim
        | _ => exact q.elim
theorem Z.fN (T : Tb X nl G) (j : Nat) (hG : G[j]? = some ("range" : Str)) (hm : X.mg "range" = none) (ha : Z.nr X [a] fs) (hl : ∀ ρ ds, fs ρ = .ok ds → ds.length = 1) (hs : aq a = true := by rfl) : Z.nk X tg (.Call (.Name "range" p) [a] [] pos) (h7 fs) :=
  ⟨D2.fN T j hG hm ha.un hl hs⟩
end
def qY (x : Int) : List Int → List Int
  | [] => [x]
  | y :: r => if x ≤ y then x :: y :: r else y :: qY x r
def ft : List Int → List Int
  | [] => []
  | x :: r => qY x (ft r)
theorem kW (x : Int) : ∀ l, (qY x l).Perm (x :: l)
  | [] => List.Perm.refl _
  | y :: r => by
    unfold qY
    split
    · exact List.Perm.refl _
    · exact ((kW x r).cons y).trans (List.Perm.swap x y r)
theorem eI : ∀ l, (ft l).Perm l
  | [] => List.Perm.refl _
  | x :: r => (kW x (ft r)).trans ((eI r).cons x)
theorem lf (x : Int) : ∀ l, l.Pairwise (· ≤ ·) → (qY x l).Pairwise (· ≤ ·)
  | [], _ => by unfold qY; exact List.pairwise_singleton _ _
  | y :: r, h => by
    have h' := List.pairwise_cons.mp h
    unfold qY
    split
    · rename_i hxy
      refine List.pairwise_cons.mpr ⟨fun z hz => ?_, h⟩
      rcases List.mem_cons.mp hz with rfl | hz
      · exact hxy
      · exact Int.le_trans hxy (h'.1 z hz)
    · rename_i hxy
      refine List.pairwise_cons.mpr ⟨fun z hz => ?_, lf x r h'.2⟩
      rcases List.mem_cons.mp ((kW x r).mem_iff.mp hz) with rfl | hz
      · omega
      · exact h'.1 z hz
theorem gV : ∀ l, (ft l).Pairwise (· ≤ ·)
  | [] => List.Pairwise.nil
  | x :: r => lf x _ (gV r)
theorem qA {a b : List Int} (hp : a.Perm b) (hs : a.Pairwise (· ≤ ·)) : a = ft b := PySem.W.ksm_same (hp.trans (eI b).symm) hs (gV b)
section
variable {prog : Program} {w : World} {A : Around} {E : Value → Shared → Prop} {s : Shared}
theorem pY {d : Addr} {kvs : List (cH × Value)} {ns : List Int} {Q : Value → Shared → Prop} (hh : A.handled = none) (lo : (d == sysModules) = false) (hd : s.heap.DictOf (cL prog w) d kvs) (hk : kvs.map (·.1) = ns.map Sum.inl) (h64 : ns.length < 64)
    (h : ∀ (D : Addr) (h' : Heap) (tk : Nat) (vs : List Value) (e : Nat), s.heap.get? D = none → (∀ b o, s.heap.get? b = some o → h'.get? b = some o) → h'.get? D = some (seqObj "list" vs.toArray e) → IntsAre vs (ft ns) → Q (.ref D) { s with heap := h', toks := tk }) :
    wpAny (model prog w) A (call (.builtin "sorted") [.ref d]) Q E s := by
  obtain ⟨ep, hat⟩ := hd.dictAt
  have hlen : kvs.length = ns.length := by have := congrArg List.length hk; simpa using this
  have hn : kvs.length ≤ sizeLine := by rw [sizeLine_eq]; omega
  refine Calls.call_function_entry kind_sorted plain_sorted entry_sorted (args_sorted1 _) ?_
  unfold Builtin.«sorted»
  refine wpAny_bind (m := checkCount "sorted" 1 1 _) (wpAny_pure ?_)
  refine wpAny_bind (PySem.W.kdu_collect (A := A.in1) (PySem.W.kdl_dict (knd := cL prog w) (kvs := kvs) (ep := ep) lo) hh hat hn fun h1 tk acc hk1 hacc => ?_)
  have hl : acc.toList.length = kvs.length := by rw [Array.length_toList]; exact hacc.1
  have hI : IntsAre acc.toList ns := by
    have key : ∀ (l : List Value) (ms : List Int) (k : Nat), l.length = ms.length → (∀ (j : Nat) (v : Value), l[j]? = some v → ∃ n : Int, ms[j]? = some n ∧ ∃ t, v = Value.int n t) → IntsAre l ms := by
      intro l
      induction l with
      | nil => intro ms k e _; have : ms = [] := List.length_eq_zero_iff.mp e.symm; subst this; exact .nil
      | cons v r ih =>
        intro ms k e hv
        cases ms with
        | nil => cases e
        | cons n ms =>
          obtain ⟨n', e1, t, rfl⟩ := hv 0 v rfl
          have : n = n' := Option.some.inj e1
          subst this
          exact .cons n t (ih ms (k + 1) (by simpa using e) fun j u hu => hv (j + 1) u (by simpa using hu))
    refine key acc.toList ns 0 (by rw [hl, hlen]) fun j v hv => ?_
    obtain ⟨κ, x, hx, his⟩ := hacc.2 j v (by rw [← Array.getElem?_toList]; exact hv)
    have e1 : (kvs.map (·.1))[j]? = some κ := by rw [List.getElem?_map, hx]; rfl
    rw [hk, List.getElem?_map] at e1
    cases e2 : ns[j]? with
    | none => rw [e2] at e1; cases e1
    | some n =>
      rw [e2] at e1
      have e3 : Sum.inl n = κ := Option.some.inj e1
      subst e3
      rcases cf (show mx (Sum.inl n) v = true from his) with ⟨i, t, e4, e5⟩ | ⟨y, t, e4, _⟩
      · cases e4; exact ⟨n, rfl, t, e5⟩
      · cases e4
  refine wpAny_bind (wpAny_newList ?_ (by rw [hl]; exact hn))
  have hoL : (h1.push (seqObj "list" acc.toList.toArray 0)).get? h1.objs.size = some (seqObj "list" acc.toList.toArray 0) := Heap.get?_push_size _ rfl
  show wpAny _ _ _ _ _ { s with heap := h1.push (seqObj "list" acc.toList.toArray 0), toks := tk }
  refine wpAny_bind (wpAny_holding (wpAny_call_entry slot_list_sort ⟨_, hoL, rfl⟩ entry_list_sort (list_sort_tree hoL hI (by rw [hl, hlen]; exact h64) fun out ns' a1 a2 a3 => ⟨_, rfl, ?_⟩) (args_list_sort _)))
  refine wpAny_pure ⟨_, rfl, ?_⟩
  obtain ⟨e, he⟩ := sortedHeap_at (out := out) hoL
  have hsz : s.heap.get? h1.objs.size = none := by
    cases q : s.heap.get? h1.objs.size with
    | none => rfl
    | some o => exact absurd (Heap.lt_size (hk1 _ _ q)) (Nat.lt_irrefl _)
  refine h h1.objs.size _ tk out.toList e hsz (fun b o q => ?_) he (by rw [qA a2 a3] at a1; exact a1)
  have q1 := hk1 b o q
  have hlt : b < h1.objs.size := Heap.lt_size q1
  show (sortedHeap (h1.push (seqObj "list" acc.toList.toArray 0)) h1.objs.size acc.toList out).get? b = some o
  rw [sortedHeap_old (Nat.ne_of_lt hlt) (by rw [size_push']; exact Nat.lt_succ_of_lt hlt)]
  exact Heap.get?_push_of_some _ q1
end
theorem yw {fs ex : List Addr} {H : Hp} {h h' : Heap} {a : Addr} {o : HO} (k : ∀ b u, h.get? b = some u → h'.get? b = some u) (hg : h.get? a = none) (hn : H a = none) : Un fs ex H (ca H a o) h h' := by
  have ne : ∀ {b : Addr} {u : Obj}, h.get? b = some u → b ≠ a := fun e z => by subst z; rw [hg] at e; cases e
  exact ⟨fun b u q _ _ _ => k b u q, fun b u q _ _ _ => ⟨u.slots, k b u q⟩, fun b u q n _ => by rw [ao (ne q)]; exact n, fun b u q _ => ⟨u, k b u q⟩, fun b xs q => by rw [ao (aR q hn)]; exact q, fun b u xs q => by rw [ao (aR q hn)]; exact q,
    fun b ps q => ⟨#[], by rw [ao (aR q hn), q]; simp⟩⟩
theorem pJ {X : Cx} {pins : List (Addr × Obj)} {σ : St} {H : Hp} {s : Shared} {h' : Heap} {a : Addr} {o : HO} {t' : Nat} (I : aC X pins σ H s) (k : ∀ b u, s.heap.get? b = some u → h'.get? b = some u) (hg : s.heap.get? a = none) (hn : H a = none)
    (new : bF X.prog X.w (ca H a o) h' a o) : aC X pins σ (ca H a o) { s with heap := h', toks := t' } := by
  refine I.un (yw k hg hn) fun b u e => ?_
  by_cases hb : b = a
  · subst hb; rw [aU] at e; cases e; exact new
  · rw [ao hb] at e
    exact (I.hok b u e).stay (fun c v _ q => k c v q) (fun c q => by rw [ao (aR q hn)]; exact q) fun c xs q => by rw [ao (aR q hn)]; exact q
theorem qE {X : Cx} {pins : List (Addr × Obj)} {σ : St} {H : Hp} {s : Shared} {a : Addr} (I : aC X pins σ H s) (hg : s.heap.get? a = none) : H a = none := by
  cases q : H a with
  | none => rfl
  | some o => obtain ⟨u, e⟩ := pc (I.hok a o q); rw [hg] at e; cases e
section
variable {X : Cx} {a b c : Expr} {fa fb fc : Fe} {pos p2 : Pos} {nl : Nat} {G : List Str} {x : Str} {p : Pos}
def dw : List PyData → Option (List Int)
  | [] => some []
  | .int i :: ds => (dw ds).map fun r => i :: r
  | _ => none
theorem ic : ∀ {ds : List PyData} {ns : List Int}, dw ds = some ns → ds = ns.map PyData.int
  | [], ns, h => by cases h; rfl
  | d :: ds, ns, h => by
    cases d with
    | int i =>
      simp only [dw] at h
      cases e : dw ds with
      | none => rw [e] at h; cases h
      | some r =>
        rw [e] at h
        cases h
        rw [List.map_cons, ic e]
    | _ => cases h
theorem iX : ∀ ns : List Int, dw (ns.map PyData.int) = some ns
  | [] => rfl
  | n :: ns => by simp only [List.map_cons, dw, iX ns, Option.map_some]
def jg : PyData → R PyData
  | .list ds => match dw ds with
    | some ns => if ns.length < 64 then .ok (.list ((ft ns).map PyData.int)) else .no
    | none => .no
  | .dict kvs => match dw (kvs.map (·.1)) with
    | some ns => if ns.length < 64 then .ok (.list ((ft ns).map PyData.int)) else .no
    | none => .no
  | _ => .no
def Af (K : PySem.W.Frag) : List V → Hp → VK → Prop := fun xs H Q => ∃ p ns, xs = [.ref p] ∧ mV K H p (ns.map V.int) ∧ ns.length < 64 ∧ ∀ l, H l = none → Q (.ref l) (ca H l (.lst ((ft ns).map V.int)))
def Au : List V → Hp → VK → Prop := fun xs H Q => ∃ p ks ns, xs = [.ref p] ∧ Rd H p (.dK ks) ∧ ks.map (·.1) = ns.map Sum.inl ∧ ns.length < 64 ∧ ∀ l, H l = none → Q (.ref l) (ca H l (.lst ((ft ns).map V.int)))
theorem nN (ns : List Int) : (ft ns).length = ns.length := (eI ns).length_eq
theorem rb : dq X (.builtin "sorted") (Af X.K) := by
  intro pins s σ H xs us Q I r h
  obtain ⟨p, ns, rfl, hq, h64, q⟩ := h
  obtain ⟨u, rfl, rx⟩ := gJ r
  cases rx
  obtain ⟨its, rv, pl, hz⟩ := I.list hq
  have hI : IntsAre its ns := jE rv
  have hl := IntsAre.length hI
  refine sorted_ints pl.isList hI (by omega) fun out ns' a1 a2 a3 => ?_
  rw [qA a2 a3] at a1
  obtain ⟨e, he⟩ := sortedAll_at s.heap its out
  refine ⟨.ref (s.heap.objs.size + 1), _, I.laid (t' := s.toks) (o := .lst ((ft ns).map V.int)) (fun b o e => sortedAll_old e) (Nat.le_succ _) ⟨?_, out.toList, e, ja a1, by simpa [seqObj] using he⟩, rfl, q _ (I.hok.fresh (Nat.le_succ _))⟩
  rw [List.length_map, nN, sizeLine_eq]; omega
theorem qZ (hc : X.calm = true) : dq X (.builtin "sorted") Au := by
  intro pins s σ H xs us Q I r h
  obtain ⟨p, ks, ns, rfl, hq, hk, h64, q⟩ := h
  obtain ⟨u, rfl, rx⟩ := gJ r
  cases rx
  obtain ⟨hz, hlo, vs, kv, hd⟩ := l8 I.hok hq
  refine pY (I.ok.hd hc) hlo hd (by rw [← kv.keys]; exact hk) h64 fun D h' tk vs' e hg kp hD hI => ?_
  have hn := qE I hg
  refine ⟨.ref D, _, pJ (t' := tk) (o := .lst ((ft ns).map V.int)) I kp hg hn ⟨?_, vs', e, ja hI, by simpa [seqObj] using hD⟩, rfl, q _ hn⟩
  rw [List.length_map, nN, sizeLine_eq]; omega
theorem mr : ∀ {H : Hp} {ns : List Int} {vs : List V}, bg H (ns.map PyData.int) vs → vs = ns.map V.int
  | H, [], vs, r => by rw [List.map_nil] at r; rw [r.nil_inv]; rfl
  | H, n :: ns, vs, r => by
    rw [List.map_cons] at r
    obtain ⟨v, r', rfl, p, t⟩ := r.cons_inv
    have : v = .int n := by simpa only [Rp] using p
    rw [this, mr t]; rfl
theorem qh : ∀ {H : Hp} {kvs : List (PyData × PyData)} {ks : List (cH × V)}, dB H kvs ks → kvs.map (·.1) = ks.map fun k => e8 k.1
  | H, [], ks, r => by simp only [dB] at r; rw [r]; rfl
  | H, (k, d) :: kvs, ks, r => by
    simp only [dB, xm] at r
    obtain ⟨x, v, r', rfl, ⟨e, _⟩, t⟩ := r
    rw [List.map_cons, List.map_cons, qh t, e]
theorem nP : ∀ {ks : List (cH × V)} {ns : List Int}, (ks.map fun k => e8 k.1) = ns.map PyData.int → ks.map (·.1) = ns.map Sum.inl
  | [], [], _ => rfl
  | [], _ :: _, h => by cases h
  | _ :: _, [], h => by cases h
  | (k, v) :: ks, n :: ns, h => by
    rw [List.map_cons, List.map_cons] at h
    injection h with h1 h2
    rw [List.map_cons, List.map_cons, nP h2]
    cases k with
    | inl i => simp only [e8] at h1; cases h1; rfl
    | inr y => simp only [e8] at h1; cases h1
theorem jS (T : Tb X nl G) (j : Nat) (hG : G[j]? = some ("sorted" : Str)) (hm : X.mg "sorted" = none) (ha : bD X a fa) (he : aq a = true := by rfl) : fF X (.Call (.Name "sorted" p) [a] [] pos) (e1 jg fa) := by
  refine Am T j hG hm xz PyProof.Rows.boot_sorted (rb.or (qZ T.calm)) (fun H x d Q hx q => ?_) ha he
  cases d with
  | list ds =>
    simp only [jg] at q
    cases ei : dw ds with
    | none => rw [ei] at q; exact q.elim
    | some ns =>
      rw [ei] at q
      dsimp only at q
      by_cases h64 : ns.length < 64
      · rw [if_pos h64] at q
        obtain ⟨a', vs, rfl, h, r⟩ := eV (K := X.K) hx
        rw [ic ei] at r
        rw [mr r] at h
        exact .inl ⟨a', ns, rfl, h, h64, fun l hl => q _ _ (bR hl _) (de hl (bg.ints _))⟩
      · rw [if_neg h64] at q; exact q.elim
  | dict kvs =>
    simp only [jg] at q
    cases ei : dw (kvs.map (·.1)) with
    | none => rw [ei] at q; exact q.elim
    | some ns =>
      rw [ei] at q
      dsimp only at q
      by_cases h64 : ns.length < 64
      · rw [if_pos h64] at q
        have hi : nI kvs = false := by
          cases kvs with
          | nil => rfl
          | cons kd kvs =>
            obtain ⟨k, d⟩ := kd
            cases k <;> first | rfl | (simp [dw] at ei)
        obtain ⟨a', ks, rfl, h, r⟩ := ka hi hx
        have hk := nP ((qh r).symm.trans (ic ei))
        exact .inr ⟨a', ks, ns, rfl, h, hk, h64, fun l hl => q _ _ (bR hl _) (de hl (bg.ints _))⟩
      · rw [if_neg h64] at q; exact q.elim
  | _ => exact q.elim
theorem Z.jS (T : Tb X nl G) (j : Nat) (hG : G[j]? = some ("sorted" : Str)) (hm : X.mg "sorted" = none) (ha : Z.bD X a fa) (he : aq a = true := by rfl) : Z.fF X (.Call (.Name "sorted" p) [a] [] pos) (e1 jg fa) :=
  ⟨D2.jS T j hG hm ha.un he⟩
end
section
variable {X : Cx} {a b c : Expr} {fa fb fc : Fe} {pos p2 : Pos} {nl : Nat} {G : List Str} {x : Str} {p : Pos}
theorem gW.change {Fm H : Hp} {σ : St} {ρ : aG} {i : Nat} {d d' : PyData} {a : Addr} {u u' : HO} (h : gW Fm H σ ρ) (h1 : ρ[i]? = some (.own d)) (h2 : σ[i]? = some (some (.ref a))) (hu : H a = some u) (hm : (∃ xs, u = .lst xs) ∨ ∃ ks, u = .dK ks)
    (hr : iw (ca H a u') d' (.ref a)) : gW Fm (ca H a u') σ (ρ.set i (.own d')) := by
  have hFa := h.own i d a h1 h2
  have kp : Kp H (ca H a u') := fX hu hm
  have at_i : ∀ (j : Nat) (e : PyData), (ρ.set i (.own d'))[j]? = some (.own e) → ∃ e0, ρ[j]? = some (.own e0) := fun j e q => by
    rw [List.getElem?_set] at q
    by_cases hij : i = j
    · subst hij; exact ⟨d, h1⟩
    · rw [if_neg hij] at q; exact ⟨e, q⟩
  refine ⟨fun b x e => ?_, ⟨by rw [List.length_set]; exact h.sl.1, fun j c w' e1 e2 => ?_⟩, fun j e b e1 e2 => ?_, fun j k e f b e1 e2 e3 e4 => ?_⟩
  · rw [ao (aR e hFa)]; exact h.fm b x e
  · rw [List.getElem?_set] at e1
    by_cases hij : i = j
    · subst hij
      rw [if_pos rfl] at e1
      split at e1
      · cases e1
        rw [h2] at e2
        cases e2
        exact ⟨_, rfl, hr⟩
      · cases e1
    · rw [if_neg hij] at e1
      have q := h.sl.2 j c w' e1 e2
      cases c with
      | exc p => exact q
      | non => exact True.intro
      | val d1 => obtain ⟨v, z1, z2⟩ := q; exact ⟨v, z1, Rp.kp kp _ _ z2⟩
      | own d1 =>
        obtain ⟨v, z1, z2⟩ := q
        subst z1
        obtain ⟨b, ob, rfl, hb⟩ := oY z2
        have nb : b ≠ a := fun z => hij (by subst z; exact h.apart i j d d1 b h1 e1 h2 e2)
        refine ⟨_, rfl, ?_⟩
        cases d1 <;> simp only [iw] at z2 ⊢
        · obtain ⟨b', vs, e, hb', r⟩ := z2
          cases e
          exact ⟨b, vs, rfl, by rw [ao nb]; exact hb', bg.kp kp _ _ r⟩
        · obtain ⟨b', vs, e, hb', r⟩ := z2
          cases e
          exact ⟨b, vs, rfl, by rw [ao nb]; exact hb', dB.kp kp _ _ r⟩
  · obtain ⟨e0, q⟩ := at_i j e e1
    exact h.own j e0 b q e2
  · obtain ⟨e0, q⟩ := at_i j e e1
    obtain ⟨f0, q'⟩ := at_i k f e2
    exact h.apart j k e0 f0 b q q' e3 e4
def vn (i : Nat) (fk fv : Fe) : Fs := fun ρ => fv ρ >>= fun v => lD (fk ρ) >>= fun k => match ρ[i]? with
  | some (.own (.dict kvs)) => match gI k with
    | some _ => if kvs.length < sizeLine then .ok (.nx (ρ.set i (.own (.dict (rQ kvs k v))))) else .no
    | none => .no
  | _ => .no
theorem uX {k : PyData} {κ : cH} (h : gI k = some κ) : k = e8 κ := by
  cases k <;> simp only [gI] at h <;> cases h <;> rfl
theorem Aw {H : Hp} {κ : cH} {y : V} (h : Rp H (e8 κ) y) : y = kV κ := by
  cases κ <;> simp only [e8, Rp] at h <;> exact h
theorem r0 {k v : Expr} {fk fv : Fe} {q1 q2 q3 : Pos} (T : Tb X nl G) (n : Nat) (hN : X.N[n]? = some x) (hk : ag X k fk) (hv : ag X v fv) (hs : swapsWith v (some (.Subscript (.Name x q1) k q2)) q3.line X.env = pure false := by rfl) :
    eR X (.Assign [.Subscript (.Name x q1) k q2] v q3) (vn n fk fv) := fun Fm => by
  have hm := T.vis x (List.mem_of_getElem? hN)
  refine PS.imp (xY (by have := T.hu; omega) (iP hN hm.1 hm.2.1 hm.2.2) hk hv hs) fun D σ H h => ?_
  refine (ml (P := km) (f := fv) (k := fun ρ v => lD (fk ρ) >>= fun k => match ρ[n]? with
    | some (.own (.dict kvs)) => match gI k with
      | some _ => if kvs.length < sizeLine then .ok (.nx (ρ.set n (.own (.dict (rQ kvs k v))))) else .no
      | none => .no
    | _ => .no) h).post fun vv H1 ⟨ρ1, dv, sl1, _, p1, q1⟩ => ?_
  have sl0 : yR X Fm (fun ρ => lD (fk ρ) >>= fun k => match ρ[n]? with
    | some (.own (.dict kvs)) => match gI k with
      | some _ => if kvs.length < sizeLine then .ok (.nx (ρ.set n (.own (.dict (rQ kvs k dv))))) else .no
      | none => .no
    | _ => .no) D σ H1 := ⟨ρ1, sl1, q1⟩
  cases e : ρ1[n]? with
  | none =>
    exfalso
    rw [e] at q1
    cases e2 : fk ρ1 with
    | ok _ => rw [e2] at q1; exact q1
    | ex _ => rw [e2] at q1; exact q1
    | no => rw [e2] at q1; exact q1
  | some c =>
    rw [e] at q1
    cases c with
    | own d =>
      cases d with
      | dict kvs =>
        obtain ⟨o, h2, w', rfl, p2⟩ := sl1.sl.at e
        simp only [iw] at p2
        obtain ⟨a', ks, rfl, ha, r⟩ := p2
        refine ⟨.ref a', h2, ?_⟩
        refine ⟨ρ1, sl1.sl, ?_⟩
        cases e2 : fk ρ1 with
        | ex _ => rw [e2] at q1; exact q1.elim
        | no => rw [e2] at q1; exact q1
        | ok kd =>
          rw [e2] at q1
          simp only [lD, R.ok_bind] at q1
          intro yv H3 s3 p3
          cases e3 : gI kd with
          | none => rw [e3] at q1; exact q1.elim
          | some κ =>
            rw [e3] at q1
            dsimp only at q1
            by_cases hz : kvs.length < sizeLine
            · rw [if_pos hz] at q1
              have ek := uX e3
              subst ek
              have ey := Aw p3
              subst ey
              have ha3 := s3 _ _ ha
              have r3 : dB H3 kvs ks := dB.kp (Kp.of s3) _ _ r
              refine ⟨a', _, rfl, rl.k ha3 (by rw [r3.length]; exact hz), q1 _ _ ((sl1.mono s3).change e h2 ha3 (.inr ⟨_, rfl⟩) ?_)⟩
              simp only [iw]
              exact ⟨a', _, rfl, aU, dB.kp (fX ha3 (.inr ⟨_, rfl⟩)) _ _ (dB.put κ (p1.mono s3) r3)⟩
            · rw [if_neg hz] at q1; exact q1.elim
      | _ =>
        exfalso
        cases e2 : fk ρ1 with
        | ok _ => rw [e2] at q1; exact q1
        | ex _ => rw [e2] at q1; exact q1
        | no => rw [e2] at q1; exact q1
    | _ =>
      exfalso
      cases e2 : fk ρ1 with
      | ok _ => rw [e2] at q1; exact q1
      | ex _ => rw [e2] at q1; exact q1
      | no => rw [e2] at q1; exact q1
theorem Z.r0 {k v : Expr} {fk fv : Fe} {q1 q2 q3 : Pos} (T : Tb X nl G) (n : Nat) (hN : X.N[n]? = some x) (hk : Z.ag X k fk) (hv : Z.ag X v fv) (hs : swapsWith v (some (.Subscript (.Name x q1) k q2)) q3.line X.env = pure false := by rfl) : Z.eR X (.Assign [.Subscript (.Name x q1) k q2] v q3) (vn n fk fv) :=
  ⟨D2.r0 T n hN hk.un hv.un hs⟩
def fA (i : Nat) (f : Fe) : Fs := fun ρ => lD (f ρ) >>= fun d => match ρ[i]? with
  | some (.own (.list ds)) => if ds.length < sizeLine then .ok (.nx (ρ.set i (.own (.list (ds ++ [d]))))) else .no
  | _ => .no
end
section
variable {prog : Program} {w : World} {A : Around} {E : Value → Shared → Prop} {s : Shared}
theorem rY {it t : Addr} {i : Nat} {items : Array Value} {x : Value} {Q : Value → Shared → Prop} (hit : s.heap.IsTupleIter it t i) (ht : s.heap.IsTuple t items) (hx : items[i]? = some x)
    (hQ : ∀ h', h'.IsTupleIter it t (i + 1) → Heap.SameBut it s.heap h' → Q x { s with heap := h' }) : wpAny (model prog w) A (Builtin.SmallTypes.nextOf (.ref it)) Q E s := by
  obtain ⟨ob, hob, hcl, hdt⟩ := id hit
  obtain ⟨ot, hot, _, nt, hdtt⟩ := ht
  unfold Builtin.SmallTypes.nextOf
  refine wpAny_bind (wpAny_callSpecial?_slot (name := Str.ofString "__next__") hit.typeIs F.slot_tuple_iterator_next (wpAny_call_entry F.slot_tuple_iterator_next hit.typeIs F.entry_tuple_iterator_next ?_ (F.args_tuple_iterator_next_1 _)))
  show wpAny _ _ (field (Value.ref it) 0 >>= _) _ _ s
  refine wpAny_bind (wpAny_field hob hdt (x := Value.ref t) rfl ?_)
  show wpAny _ _ (if (Value.ref t == Value.none) = true then _ else _) _ _ s
  rw [if_neg (by intro z; cases z)]
  show wpAny _ _ (field (Value.ref it) 1 >>= _) _ _ s
  refine wpAny_bind (wpAny_field hob hdt (x := Value.int i 0) rfl ?_)
  show wpAny _ _ (seqItems? (Value.ref t) >>= _) _ _ s
  refine wpAny_bind (wpAny_seqItems hot hdtt ?_)
  simp only [hx, Int.toNat_natCast]
  refine wpAny_bind (wpAny_setField hob hdt (by simp) (wpAny_pure ⟨x, rfl, wpAny_pure (hQ _ ⟨_, Heap.get?_update_self _ hob (Obj.isFreed_of_fields (Obj.data_mapFields hdt _)), (Obj.cls_mapFields ..).trans hcl, ?_⟩ (Heap.SameBut.update ..))⟩))
  rw [Obj.data_mapFields hdt]
  simp [rawInt]
theorem mO {it t : Addr} {i : Nat} {items : Array Value} {Q : Value → Shared → Prop} (hh : A.handled = none) (hit : s.heap.IsTupleIter it t i) (ht : s.heap.IsTuple t items) (hx : items[i]? = none)
    (hE : ∀ h' e, Heap.ExtBut it s.heap h' → (∃ o, h'.get? e = some o ∧ o.cls = .type "StopIteration") → E (.ref e) { s with heap := h' }) : wpAny (model prog w) A (Builtin.SmallTypes.nextOf (.ref it)) Q E s := by
  obtain ⟨ob, hob, hcl, hdt⟩ := id hit
  obtain ⟨ot, hot, _, nt, hdtt⟩ := ht
  unfold Builtin.SmallTypes.nextOf
  refine wpAny_bind (wpAny_callSpecial?_slot (name := Str.ofString "__next__") hit.typeIs F.slot_tuple_iterator_next (wpAny_call_entry F.slot_tuple_iterator_next hit.typeIs F.entry_tuple_iterator_next ?_ (F.args_tuple_iterator_next_1 _)))
  show wpAny _ _ (field (Value.ref it) 0 >>= _) _ _ s
  refine wpAny_bind (wpAny_field hob hdt (x := Value.ref t) rfl ?_)
  show wpAny _ _ (if (Value.ref t == Value.none) = true then _ else _) _ _ s
  rw [if_neg (by intro z; cases z)]
  show wpAny _ _ (field (Value.ref it) 1 >>= _) _ _ s
  refine wpAny_bind (wpAny_field hob hdt (x := Value.int i 0) rfl ?_)
  show wpAny _ _ (seqItems? (Value.ref t) >>= _) _ _ s
  refine wpAny_bind (wpAny_seqItems hot hdtt ?_)
  simp only [hx, Int.toNat_natCast]
  refine wpAny_bind (wpAny_rule (wpAny_bind (wpAny_setField hob hdt (by simp) ?_)))
  show wpAny _ _ (newExc (Value.type "StopIteration") [] >>= _) _ _ _
  refine wpAny_bind ?_
  simp only [newTuple, newExc]
  refine wpAny_bind (wpAny_newObj_type ?_ (by size_fits))
  refine wpAny_bind (m := firstArgMember _ _) (wpAny_of_eq (a := Value.none) (by first | rfl | (simp only [firstArgMember]; rfl)) ?_)
  refine wpAny_newObj_type ?_ (by size_fits)
  simp only [raiseNew]
  refine wpAny_bind (wpAny_handled ?_)
  first | rw [show A.in1.handled = none from hh] | rw [hh]
  exact wpAny_bind (wpAny_pure (wpAny_throw (hE _ _ (((Heap.SameBut.update ..).extBut.push _).push _) ⟨_, Heap.get?_push_size _ rfl, rfl⟩)))
end
def gt (h : Heap) (i l : Addr) (k : Nat) (xs : Array Value) : Prop := (h.IsListIter i l k ∧ h.IsList l xs) ∨ (h.IsTupleIter i l k ∧ h.IsTuple l xs)
section
variable {h h' : Heap} {i l : Addr} {k : Nat} {xs : Array Value}
theorem gt.keep (x : gt h i l k xs) (hi : ∀ o, h.get? i = some o → h'.get? i = some o) (hl : ∀ o, h.get? l = some o → h'.get? l = some o) : gt h' i l k xs := by
  rcases x with ⟨⟨o, e, r⟩, ⟨o', e', r'⟩⟩ | ⟨⟨o, e, r⟩, ⟨o', e', r'⟩⟩
  · exact .inl ⟨⟨o, hi _ e, r⟩, ⟨o', hl _ e', r'⟩⟩
  · exact .inr ⟨⟨o, hi _ e, r⟩, ⟨o', hl _ e', r'⟩⟩
end
section
variable {prog : Program} {w : World} {A : Around} {E : Value → Shared → Prop} {s : Shared} {i l : Addr} {k : Nat} {xs : Array Value}
theorem ki {x : Value} {Q : Value → Shared → Prop} (it : gt s.heap i l k xs) (hne : l ≠ i) (hx : xs[k]? = some x) (hQ : ∀ h', gt h' i l (k + 1) xs → Heap.SameBut i s.heap h' → Q x { s with heap := h' }) :
    wpAny (model prog w) A (Builtin.SmallTypes.nextOf (.ref i)) Q E s := by
  rcases it with ⟨h1, h2⟩ | ⟨h1, h2⟩
  · exact wpAny_nextOf_list_item h1 h2 hx fun h' a b => hQ h' (.inl ⟨a, h2.extBut b.extBut hne⟩) b
  · exact rY h1 h2 hx fun h' a b => hQ h' (.inr ⟨a, h2.extBut b.extBut hne⟩) b
theorem fO {Q : Value → Shared → Prop} (hh : A.handled = none) (it : gt s.heap i l k xs) (hx : xs[k]? = none)
    (hE : ∀ h' e, Heap.ExtBut i s.heap h' → (∃ o, h'.get? e = some o ∧ o.cls = .type "StopIteration") → E (.ref e) { s with heap := h' }) : wpAny (model prog w) A (Builtin.SmallTypes.nextOf (.ref i)) Q E s := by
  rcases it with ⟨h1, h2⟩ | ⟨h1, h2⟩
  · exact wpAny_nextOf_list_end hh h1 h2 hx hE
  · exact mO hh h1 h2 hx hE
def ss (h : Heap) (l : Addr) (xs : Array Value) : Prop := h.IsList l xs ∨ h.IsTuple l xs
end
structure ZA (z p q i j l m : Addr) : Prop where
  pz : p ≠ z
  qz : q ≠ z
  iz : i ≠ z
  jz : j ≠ z
  pq : p ≠ q
  pi : p ≠ i
  pj : p ≠ j
  qi : q ≠ i
  qj : q ≠ j
  ij : i ≠ j
  lz : l ≠ z
  lq : l ≠ q
  li : l ≠ i
  lj : l ≠ j
  mz : m ≠ z
  mq : m ≠ q
  mi : m ≠ i
  mj : m ≠ j
structure xn (h : Heap) (z p q i j l m : Addr) (f0 : Value) (k : Nat) (xs ys : Array Value) : Prop where
  zz : IsZip h z p q f0
  pp : IsPair h p (.ref i) (.ref j)
  qq : ∃ a b, IsPair h q a b
  ii : gt h i l k xs
  jj : gt h j m k ys
section
variable {prog : Program} {w : World} {A : Around} {E : Value → Shared → Prop} {s : Shared} {z p q i j l m : Addr} {k : Nat} {xs ys : Array Value}
theorem vL {x y : Value} {Q : Value → Shared → Prop} (D : ZA z p q i j l m) (S : xn s.heap z p q i j l m .none k xs ys) (hx : xs[k]? = some x) (hy : ys[k]? = some y)
    (hQ : ∀ h', xn h' z p q i j l m (rawInt s.heap.objs.size) (k + 1) xs ys → IsPair h' s.heap.objs.size x y → (∀ c o, c ≠ z → c ≠ q → c ≠ i → c ≠ j → s.heap.get? c = some o → h'.get? c = some o) → Q (.ref s.heap.objs.size) { s with heap := h' }) :
    wpAny (model prog w) A (Builtin.«zip.__next__» ⟨[.ref z], []⟩) (fun fin s' => ∃ v, fin = .done (.ret v) ∧ Q v s') E s := by
  obtain ⟨hz, hp, ⟨a, b, hq⟩, hi, hj⟩ := S
  show wpAny _ _ (field (Value.ref z) 2 >>= _) _ _ _
  refine wpAny_bind (wpAny_field hz rfl (x := Value.bool false) rfl ?_)
  show wpAny _ _ (field (Value.ref z) 3 >>= _) _ _ _
  refine wpAny_bind (wpAny_field hz rfl (x := Value.ref p) rfl ?_)
  refine wpAny_bind (wpAny_seqItems hp rfl ?_)
  show wpAny _ _ (Builtin.SmallTypes.ownedTupleIsFree (Value.ref z) >>= _) _ _ _
  refine wpAny_bind ?_
  unfold Builtin.SmallTypes.ownedTupleIsFree
  refine wpAny_bind (wpAny_field hz rfl (x := Value.none) rfl (wpAny_pure ?_))
  simp only [if_true]
  refine wpAny_bind (wpAny_rule ?_)
  refine wpAny_bind (wpAny_field hz rfl (x := Value.ref q) rfl ?_)
  refine wpAny_bind (wpAny_setField_rec hz (by simp) fun g1 z1 s1 => ?_)
  replace z1 : IsZip g1 z p q .ellipsis := z1
  refine wpAny_bind ?_
  simp only [List.zipIdx_cons, List.zipIdx_nil, List.forIn_cons, List.forIn_nil]
  refine wpAny_bind (wpAny_bind (wpAny_onRaise ?_))
  show wpAny _ _ (Builtin.SmallTypes.nextOf (Value.ref i) >>= _) _ _ _
  have hi1 : gt g1 i l k xs := hi.keep (fun o e => s1.extBut _ _ D.iz e) fun o e => s1.extBut _ _ D.lz e
  refine wpAny_bind (ki hi1 D.li hx fun g2 i2 s2 => wpAny_pure ?_)
  have q2 : IsPair g2 q a b := s2.extBut _ _ D.qi (s1.extBut _ _ D.qz hq)
  refine wpAny_bind (wpAny_seqItems q2 rfl ?_)
  refine wpAny_bind (wpAny_updateSeq_pair q2 fun g3 q3 s3 => ?_)
  replace q3 : IsPair g3 q x b := q3
  refine wpAny_bind (wpAny_letGo (wpAny_pure ?_))
  refine wpAny_bind (wpAny_bind (wpAny_onRaise ?_))
  show wpAny _ _ (Builtin.SmallTypes.nextOf (Value.ref j) >>= _) _ _ _
  have hj3 : gt g3 j m k ys := hj.keep (fun o e => s3.extBut _ _ D.qj.symm (s2.extBut _ _ D.ij.symm (s1.extBut _ _ D.jz e))) fun o e => s3.extBut _ _ D.mq (s2.extBut _ _ D.mi (s1.extBut _ _ D.mz e))
  refine wpAny_bind (ki hj3 D.mj hy fun g4 j4 s4 => wpAny_pure ?_)
  have q4 : IsPair g4 q x b := s4.extBut _ _ D.qj q3
  refine wpAny_bind (wpAny_seqItems q4 rfl ?_)
  refine wpAny_bind (wpAny_updateSeq_pair q4 fun g5 q5 s5 => ?_)
  replace q5 : IsPair g5 q x y := q5
  refine wpAny_bind (wpAny_letGo (wpAny_pure (wpAny_pure ?_)))
  refine wpAny_bind (wpAny_seqItems q5 rfl ?_)
  refine wpAny_bind (wpAny_newTuple ?_)
  have hsz : g5.objs.size = s.heap.objs.size := by rw [s5.1, s4.1, s3.1, s2.1, s1.1]
  have z5 : IsZip g5 z p q .ellipsis := s5.extBut _ _ D.qz.symm (s4.extBut _ _ D.jz.symm (s3.extBut _ _ D.qz.symm (s2.extBut _ _ D.iz.symm z1)))
  have k5 : ∀ c o, c ≠ z → c ≠ q → c ≠ i → c ≠ j → s.heap.get? c = some o → g5.get? c = some o := fun c o c1 c2 c3 c4 e => s5.extBut _ _ c2 (s4.extBut _ _ c4 (s3.extBut _ _ c2 (s2.extBut _ _ c3 (s1.extBut _ _ c1 e))))
  have i5 : gt g5 i l (k + 1) xs := i2.keep (fun o e => s5.extBut _ _ D.qi.symm (s4.extBut _ _ D.ij (s3.extBut _ _ D.qi.symm e))) fun o e => s5.extBut _ _ D.lq (s4.extBut _ _ D.lj (s3.extBut _ _ D.lq e))
  have j5 : gt g5 j m (k + 1) ys := j4.keep (fun o e => s5.extBut _ _ D.qj.symm e) fun o e => s5.extBut _ _ D.mq e
  have zlt : z < g5.objs.size := Heap.lt_size z5
  show wpAny _ _ (Builtin.SmallTypes.ownedTupleHandOut (Value.ref z) (Value.ref g5.objs.size) >>= _) _ _ _
  refine wpAny_bind ?_
  unfold Builtin.SmallTypes.ownedTupleHandOut
  have z6 : IsZip (g5.push { cls := .type "tuple", data := .seq #[x, y] }) z p q .ellipsis := Heap.get?_push_of_some _ z5
  refine wpAny_bind (wpAny_setField_rec z6 (by simp) fun g7 z7 s7 => ?_)
  replace z7 : IsZip g7 z p q (rawInt g5.objs.size) := z7
  refine wpAny_setField_rec z7 (by simp) fun g8 z8 s8 => ?_
  replace z8 : IsZip g8 z p q (rawInt g5.objs.size) := z8
  have up : ∀ c o, c ≠ z → g5.get? c = some o → g8.get? c = some o := fun c o c1 e => s8.extBut _ _ c1 (s7.extBut _ _ c1 (Heap.get?_push_of_some _ e))
  have t8 : IsPair g8 g5.objs.size x y := s8.extBut _ _ (Nat.ne_of_gt zlt) (s7.extBut _ _ (Nat.ne_of_gt zlt) (Heap.get?_push_size _ rfl))
  rw [hsz] at z8 t8
  refine wpAny_pure ⟨_, rfl, ?_⟩
  show Q (.ref g5.objs.size) _
  rw [hsz]
  exact hQ g8 ⟨z8, up _ _ D.pz (k5 _ _ D.pz D.pq D.pi D.pj hp), ⟨x, y, up _ _ D.qz q5⟩, i5.keep (fun o e => up _ _ D.iz e) fun o e => up _ _ D.lz e, j5.keep (fun o e => up _ _ D.jz e) fun o e => up _ _ D.mz e⟩ t8 fun c o c1 c2 c3 c4 e => up c o c1 (k5 c o c1 c2 c3 c4 e)
theorem yL {Q : PySem.Fin → Shared → Prop} (hh : A.handled = none) (D : ZA z p q i j l m) (S : xn s.heap z p q i j l m .none k xs ys) (hend : xs[k]? = none ∨ ys[k]? = none)
    (hE : ∀ h' e, (∀ c o, c ≠ z → c ≠ q → c ≠ i → c ≠ j → s.heap.get? c = some o → h'.get? c = some o) → (∃ o, h'.get? e = some o ∧ o.cls = .type "StopIteration") → E (.ref e) { s with heap := h' }) :
    wpAny (model prog w) A (Builtin.«zip.__next__» ⟨[.ref z], []⟩) Q E s := by
  obtain ⟨hz, hp, ⟨a, b, hq⟩, hi, hj⟩ := S
  show wpAny _ _ (field (Value.ref z) 2 >>= _) _ _ _
  refine wpAny_bind (wpAny_field hz rfl (x := Value.bool false) rfl ?_)
  show wpAny _ _ (field (Value.ref z) 3 >>= _) _ _ _
  refine wpAny_bind (wpAny_field hz rfl (x := Value.ref p) rfl ?_)
  refine wpAny_bind (wpAny_seqItems hp rfl ?_)
  show wpAny _ _ (Builtin.SmallTypes.ownedTupleIsFree (Value.ref z) >>= _) _ _ _
  refine wpAny_bind ?_
  unfold Builtin.SmallTypes.ownedTupleIsFree
  refine wpAny_bind (wpAny_field hz rfl (x := Value.none) rfl (wpAny_pure ?_))
  simp only [if_true]
  refine wpAny_bind (wpAny_rule ?_)
  refine wpAny_bind (wpAny_field hz rfl (x := Value.ref q) rfl ?_)
  refine wpAny_bind (wpAny_setField_rec hz (by simp) fun g1 z1 s1 => ?_)
  replace z1 : IsZip g1 z p q .ellipsis := z1
  refine wpAny_bind ?_
  simp only [List.zipIdx_cons, List.zipIdx_nil, List.forIn_cons, List.forIn_nil]
  refine wpAny_bind (wpAny_bind (wpAny_onRaise ?_))
  show wpAny _ _ (Builtin.SmallTypes.nextOf (Value.ref i) >>= _) _ _ _
  have hi1 : gt g1 i l k xs := hi.keep (fun o e => s1.extBut _ _ D.iz e) fun o e => s1.extBut _ _ D.lz e
  cases hx : xs[k]? with
  | none =>
    refine wpAny_bind (fO hh hi1 hx fun g2 e s2 he => ?_)
    obtain ⟨oe, hoe, hce⟩ := he
    have z2 : IsZip g2 z p q .ellipsis := s2 _ _ D.iz.symm z1
    have hez : e ≠ z := fun t => by subst t; rw [z2] at hoe; cases hoe; simp at hce
    exact wpAny_setField_rec z2 (by simp) fun g3 _ s3 => hE g3 e (fun c o c1 _ c3 _ t => s3.extBut _ _ c1 (s2 _ _ c3 (s1.extBut _ _ c1 t))) ⟨oe, s3.extBut _ _ hez hoe, hce⟩
  | some x =>
    have hy : ys[k]? = none := by rcases hend with t | t; rw [hx] at t; cases t; exact t
    refine wpAny_bind (ki hi1 D.li hx fun g2 i2 s2 => wpAny_pure ?_)
    have q2 : IsPair g2 q a b := s2.extBut _ _ D.qi (s1.extBut _ _ D.qz hq)
    refine wpAny_bind (wpAny_seqItems q2 rfl ?_)
    refine wpAny_bind (wpAny_updateSeq_pair q2 fun g3 q3 s3 => ?_)
    refine wpAny_bind (wpAny_letGo (wpAny_pure ?_))
    refine wpAny_bind (wpAny_bind (wpAny_onRaise ?_))
    show wpAny _ _ (Builtin.SmallTypes.nextOf (Value.ref j) >>= _) _ _ _
    have hj3 : gt g3 j m k ys := hj.keep (fun o e => s3.extBut _ _ D.qj.symm (s2.extBut _ _ D.ij.symm (s1.extBut _ _ D.jz e))) fun o e => s3.extBut _ _ D.mq (s2.extBut _ _ D.mi (s1.extBut _ _ D.mz e))
    refine wpAny_bind (fO hh hj3 hy fun g4 e s4 he => ?_)
    obtain ⟨oe, hoe, hce⟩ := he
    have z4 : IsZip g4 z p q .ellipsis := s4 _ _ D.jz.symm (s3.extBut _ _ D.qz.symm (s2.extBut _ _ D.iz.symm z1))
    have hez : e ≠ z := fun t => by subst t; rw [z4] at hoe; cases hoe; simp at hce
    exact wpAny_setField_rec z4 (by simp) fun g5 _ s5 => hE g5 e (fun c o c1 c2 c3 c4 t => s5.extBut _ _ c1 (s4 _ _ c4 (s3.extBut _ _ c2 (s2.extBut _ _ c3 (s1.extBut _ _ c1 t))))) ⟨oe, s5.extBut _ _ hez hoe, hce⟩
theorem rc {x y : Value} {Q : Option Value → Shared → Prop} (D : ZA z p q i j l m) (S : xn s.heap z p q i j l m .none k xs ys) (hx : xs[k]? = some x) (hy : ys[k]? = some y)
    (hQ : ∀ h', xn h' z p q i j l m (rawInt s.heap.objs.size) (k + 1) xs ys → IsPair h' s.heap.objs.size x y → (∀ c o, c ≠ z → c ≠ q → c ≠ i → c ≠ j → s.heap.get? c = some o → h'.get? c = some o) → Q (some (.ref s.heap.objs.size)) { s with heap := h' }) :
    wpAny (model prog w) A (pyNext (.ref z)) Q E s := by
  have hT : s.TypeIs (.ref z) "zip" := ⟨_, S.zz, rfl⟩
  unfold pyNext
  exact wpAny_bind (wpAny_attempt (wpAny_callSpecial?_slot (name := Str.ofString "__next__") hT F.slot_zip_next (wpAny_call_entry F.slot_zip_next hT F.entry_zip_next (vL D S hx hy fun h' a b c => wpAny_pure (hQ h' a b c)) (F.args_zip_next_1 _))))
theorem uf {Q : Option Value → Shared → Prop} (hh : A.handled = none) (D : ZA z p q i j l m) (S : xn s.heap z p q i j l m .none k xs ys) (hend : xs[k]? = none ∨ ys[k]? = none)
    (hQ : ∀ h', (∀ c o, c ≠ z → c ≠ q → c ≠ i → c ≠ j → s.heap.get? c = some o → h'.get? c = some o) → Q none { s with heap := h' }) : wpAny (model prog w) A (pyNext (.ref z)) Q E s := by
  have hT : s.TypeIs (.ref z) "zip" := ⟨_, S.zz, rfl⟩
  unfold pyNext
  refine wpAny_bind (wpAny_attempt (wpAny_callSpecial?_slot (name := Str.ofString "__next__") hT F.slot_zip_next (wpAny_call_entry F.slot_zip_next hT F.entry_zip_next (yL hh D S hend fun h' e hk he => ?_) (F.args_zip_next_1 _))))
  obtain ⟨o, ho, hc⟩ := he
  exact wpAny_bind (wpAny_isInstance (T := "StopIteration") (b := true) ⟨o, ho, hc⟩ isSubtype_stop (wpAny_pure (hQ _ hk)))
theorem xJ (l m : Addr) (xs ys : Array Value) : Meets (Builtin.«zip.__new__» ⟨[.type "zip", .ref l, .ref m], []⟩) (fun _ R s => ss s.heap l xs ∧ ss s.heap m ys ∧
    ∀ h', h'.objs.size = s.heap.objs.size + 5 → xn h' (s.heap.objs.size + 4) (s.heap.objs.size + 2) (s.heap.objs.size + 3) s.heap.objs.size (s.heap.objs.size + 1) l m .none 0 xs ys → (∀ c o, s.heap.get? c = some o → h'.get? c = some o) →
      R (.ok (.ret (.ref (s.heap.objs.size + 4)))) { s with heap := h' }) :=
  .of_wp fun prog w A R s h => by
    obtain ⟨hp, g, d, tk, os⟩ := s; obtain ⟨h1, h2, h⟩ := h
    have hsub := sub_zip
    have fin : ∀ (oi oj : Obj), gt (hp.push oi) hp.objs.size l 0 xs → gt ((hp.push oi).push oj) (hp.push oi).objs.size m 0 ys →
        R (.ok (.ret (.ref ((((hp.push oi).push oj).push { cls := .type "tuple", data := .seq #[.ref hp.objs.size, .ref (hp.push oi).objs.size] }).push { cls := .type "tuple", data := .seq #[.none, .none] }).objs.size)))
          ⟨((((hp.push oi).push oj).push { cls := .type "tuple", data := .seq #[.ref hp.objs.size, .ref (hp.push oi).objs.size] }).push { cls := .type "tuple", data := .seq #[.none, .none] }).push { cls := .type "zip", data := .fields #[.none, .bool false, .bool false, .ref ((hp.push oi).push oj).objs.size, .ref (((hp.push oi).push oj).push { cls := .type "tuple", data := .seq #[.ref hp.objs.size, .ref (hp.push oi).objs.size] }).objs.size] }, g, d, tk, os⟩ := fun oi oj hi hj => by
      have e1 : (hp.push oi).objs.size = hp.objs.size + 1 := Heap.size_push ..
      have e2 : ((hp.push oi).push oj).objs.size = hp.objs.size + 2 := by rw [Heap.size_push, e1]
      have e3 : (((hp.push oi).push oj).push { cls := .type "tuple", data := .seq #[.ref hp.objs.size, .ref (hp.push oi).objs.size] }).objs.size = hp.objs.size + 3 := by rw [Heap.size_push, e2]
      have e4 : ((((hp.push oi).push oj).push { cls := .type "tuple", data := .seq #[.ref hp.objs.size, .ref (hp.push oi).objs.size] }).push { cls := .type "tuple", data := .seq #[.none, .none] }).objs.size = hp.objs.size + 4 := by rw [Heap.size_push, e3]
      rw [e4, e3, e2]
      rw [e1] at hj ⊢
      have kk : ∀ (c : Addr) (o a b c' : Obj), ((hp.push oi).push oj).get? c = some o → (((((hp.push oi).push oj).push a).push b).push c').get? c = some o := fun c o a b c' e => Heap.get?_push_of_some _ (Heap.get?_push_of_some _ (Heap.get?_push_of_some _ e))
      refine h _ (by rw [Heap.size_push, Heap.size_push, Heap.size_push, e2]) ⟨?_, ?_, ⟨.none, .none, ?_⟩, ?_, ?_⟩ fun c o e => kk _ _ _ _ _ (Heap.get?_push_of_some _ (Heap.get?_push_of_some _ e))
      · have : hp.objs.size + 4 = ((((hp.push oi).push oj).push { cls := .type "tuple", data := .seq #[.ref hp.objs.size, .ref (hp.objs.size + 1)] }).push { cls := .type "tuple", data := .seq #[.none, .none] }).objs.size := by rw [Heap.size_push, Heap.size_push, e2]
        show Heap.get? _ (hp.objs.size + 4) = _
        rw [this]
        exact Heap.get?_push_size _ rfl
      · refine Heap.get?_push_of_some _ (Heap.get?_push_of_some _ ?_)
        show Heap.get? _ (hp.objs.size + 2) = _
        rw [← e2]
        exact Heap.get?_push_size _ rfl
      · refine Heap.get?_push_of_some _ ?_
        have : hp.objs.size + 3 = (((hp.push oi).push oj).push { cls := .type "tuple", data := .seq #[.ref hp.objs.size, .ref (hp.objs.size + 1)] }).objs.size := by rw [Heap.size_push, e2]
        show Heap.get? _ (hp.objs.size + 3) = _
        rw [this]
        exact Heap.get?_push_size _ rfl
      · exact hi.keep (fun o e => kk _ _ _ _ _ (Heap.get?_push_of_some _ e)) fun o e => kk _ _ _ _ _ (Heap.get?_push_of_some _ e)
      · exact hj.keep (fun o e => kk _ _ _ _ _ e) fun o e => kk _ _ _ _ _ e
    rcases h1 with h1 | h1 <;> rcases h2 with h2 | h2
    · have l1 : Heap.IsList (Shared.heap ⟨hp, g, d, tk, os⟩) l xs := h1
      have l2 : Heap.IsList (Shared.heap ⟨hp.push { cls := .type "list_iterator", data := .fields #[.ref l, .int 0 0] }, g, d, tk, os⟩) m ys := Heap.IsList.push h2 _
      wp_walk using wpAny_pyIter_list l1, wpAny_pyIter_list l2
      exact ⟨_, rfl, fin _ _ (.inl ⟨⟨_, Heap.get?_push_size _ rfl, rfl, rfl⟩, Heap.IsList.push h1 _⟩) (.inl ⟨⟨_, Heap.get?_push_size _ rfl, rfl, rfl⟩, Heap.IsList.push l2 _⟩)⟩
    · have l1 : Heap.IsList (Shared.heap ⟨hp, g, d, tk, os⟩) l xs := h1
      have l2 : Heap.IsTuple (Shared.heap ⟨hp.push { cls := .type "list_iterator", data := .fields #[.ref l, .int 0 0] }, g, d, tk, os⟩) m ys := Heap.IsTuple.push h2 _
      wp_walk using wpAny_pyIter_list l1, wpAny_pyIter_tuple l2
      exact ⟨_, rfl, fin _ _ (.inl ⟨⟨_, Heap.get?_push_size _ rfl, rfl, rfl⟩, Heap.IsList.push h1 _⟩) (.inr ⟨⟨_, Heap.get?_push_size _ rfl, rfl, rfl⟩, Heap.IsTuple.push l2 _⟩)⟩
    · have l1 : Heap.IsTuple (Shared.heap ⟨hp, g, d, tk, os⟩) l xs := h1
      have l2 : Heap.IsList (Shared.heap ⟨hp.push { cls := .type "tuple_iterator", data := .fields #[.ref l, .int 0 0] }, g, d, tk, os⟩) m ys := Heap.IsList.push h2 _
      wp_walk using wpAny_pyIter_tuple l1, wpAny_pyIter_list l2
      exact ⟨_, rfl, fin _ _ (.inr ⟨⟨_, Heap.get?_push_size _ rfl, rfl, rfl⟩, Heap.IsTuple.push h1 _⟩) (.inl ⟨⟨_, Heap.get?_push_size _ rfl, rfl, rfl⟩, Heap.IsList.push l2 _⟩)⟩
    · have l1 : Heap.IsTuple (Shared.heap ⟨hp, g, d, tk, os⟩) l xs := h1
      have l2 : Heap.IsTuple (Shared.heap ⟨hp.push { cls := .type "tuple_iterator", data := .fields #[.ref l, .int 0 0] }, g, d, tk, os⟩) m ys := Heap.IsTuple.push h2 _
      wp_walk using wpAny_pyIter_tuple l1, wpAny_pyIter_tuple l2
      exact ⟨_, rfl, fin _ _ (.inr ⟨⟨_, Heap.get?_push_size _ rfl, rfl, rfl⟩, Heap.IsTuple.push h1 _⟩) (.inr ⟨⟨_, Heap.get?_push_size _ rfl, rfl, rfl⟩, Heap.IsTuple.push l2 _⟩)⟩
theorem vB {Q : Value → Shared → Prop} {l m : Addr} (h1 : ss s.heap l xs) (h2 : ss s.heap m ys)
    (h : ∀ h', h'.objs.size = s.heap.objs.size + 5 → xn h' (s.heap.objs.size + 4) (s.heap.objs.size + 2) (s.heap.objs.size + 3) s.heap.objs.size (s.heap.objs.size + 1) l m .none 0 xs ys → (∀ c o, s.heap.get? c = some o → h'.get? c = some o) →
      Q (.ref (s.heap.objs.size + 4)) { s with heap := h' }) : wpAny (model prog w) A (call (.type "zip") [.ref l, .ref m]) Q E s := by
  refine callType_new F.called_zip (by decide) (F.typeCall_zip_2 _ _) (F.newCall_zip_2 _ _) (fun obj => F.args_object_init_3 obj _ _) F.entry_zip_new (xJ l m xs ys) ⟨h1, h2, fun h' e S k => ?_⟩
  exact ⟨⟨_, S.zz, rfl⟩, h h' e S k⟩
end
section
variable {X : Cx} {pins : List (Addr × Obj)} {σ : St} {H : Hp} {s : Shared} {h' : Heap}
theorem eY {t' : Nat} {fp : List Addr} (I : aC X pins σ H s) (k : ∀ b o, b ∉ fp → s.heap.get? b = some o → h'.get? b = some o) (hf : ∀ b ∈ fp, kG X pins H b) : aC X pins σ H { s with heap := h', toks := t' } := by
  have away : ∀ b u, H b = some u → b ∉ fp := fun b u e z => by rw [(hf b z).1] at e; cases e
  have frame : X.env.locals ∉ fp := fun z => (hf _ z).2.1 rfl
  refine I.step (g' := s.gens) (d' := s.drawn) (ch := fp) (fun b hb => ⟨(hf b hb).2.2.2.1, (hf b hb).2.1, (hf b hb).2.2.2.2.1, (hf b hb).2.2.2.2.2⟩) (fun b o _ _ hc e _ => k b o hc e) (fun b o _ _ hc e _ => ⟨o.slots, k b o hc e⟩) (fun _ _ _ _ n => n)
    (fun b o hc e => ⟨o, k b o hc e⟩) (fun _ _ e => e) (fun _ _ _ e => e) (fun b ps e => ⟨#[], by rw [e]; simp⟩) (fun m ⟨o, es, ep, ho, r⟩ => ⟨o, es, ep, k _ o frame ho, r⟩) (fun b u e => ?_) I.bare
  refine (I.hok b u e).stay (fun c v hc q => k c v ?_ q) (fun _ q => q) fun _ _ q => q
  rcases hc with z | z
  · rw [z]; exact away b u e
  · exact away c _ z
theorem qL {h : Heap} {o o' : Obj} {b : Addr} (hb : b ≠ h.objs.size) (e : (h.push o).get? b = some o') : h.get? b = some o' := by
  unfold Heap.get? Heap.push at e
  unfold Heap.get?
  simp only [Array.getElem?_push] at e
  rw [if_neg hb] at e
  exact e
theorem tI {t' : Nat} {fp : List Addr} {u1 u2 : Value} {v1 v2 : V} (I : aC X pins σ H s) (hf : ∀ b ∈ fp, kG X pins H b) (hob : ∀ b ∈ fp, b < s.heap.objs.size) (ht : IsPair h' s.heap.objs.size u1 u2) (k : ∀ b o, b ∉ fp → s.heap.get? b = some o → h'.get? b = some o)
    (r1 : bi v1 u1) (r2 : bi v2 u2) : aC X pins σ (ca H s.heap.objs.size (.tup [v1, v2])) { s with heap := h', toks := t' } := by
  have I1 : aC X pins σ (ca H s.heap.objs.size (.tup [v1, v2])) { s with heap := s.heap.push { cls := .type "tuple", data := .seq #[u1, u2] }, toks := s.toks } :=
    I.laid (fun b u e => Heap.get?_push_of_some _ e) (Nat.le_refl _) ⟨by show 2 ≤ sizeLine; decide, [u1, u2], .cons r1 (.cons r2 .nil), _, Heap.get?_push_size _ rfl, rfl, _, rfl⟩
  refine eY (fp := fp) (s := { s with heap := s.heap.push { cls := .type "tuple", data := .seq #[u1, u2] }, toks := s.toks }) I1 (fun b o hb e => ?_) fun b hb => ?_
  · by_cases hz : b = s.heap.objs.size
    · subst hz
      have e' : (s.heap.push { cls := .type "tuple", data := .seq #[u1, u2] }).get? s.heap.objs.size = some o := e
      rw [Heap.get?_push_size _ rfl] at e'
      cases e'
      exact ht
    · exact k b o hb (qL hz e)
  · obtain ⟨f0, f1, f2, f3, f4, f5⟩ := hf b hb
    exact ⟨by rw [ao (Nat.ne_of_lt (hob b hb))]; exact f0, f1, f2, f3, f4, f5⟩
end
def p8 (K : PySem.W.Frag) (H : Hp) (a : Addr) (xs : List V) : Bool → Prop
  | true => dF K H a xs
  | false => mV K H a xs
def fw (h : Heap) (i l : Addr) (k : Nat) : Bool → Prop
  | true => h.IsTupleIter i l k
  | false => h.IsListIter i l k
theorem fw.keep {h h' : Heap} {i l : Addr} {k : Nat} {b : Bool} (x : fw h i l k b) (hi : ∀ o, h.get? i = some o → h'.get? i = some o) : fw h' i l k b := by
  cases b
  · obtain ⟨o, e, r⟩ := x; exact ⟨o, hi _ e, r⟩
  · obtain ⟨o, e, r⟩ := x; exact ⟨o, hi _ e, r⟩
theorem fw.there {h : Heap} {i l : Addr} {k : Nat} {b : Bool} (x : fw h i l k b) : ∃ o, h.get? i = some o ∧ ∀ v, o.data ≠ .cell v := by
  cases b
  · obtain ⟨o, e, c, d⟩ := x; exact ⟨o, e, fun v z => by rw [d] at z; cases z⟩
  · obtain ⟨o, e, c, d⟩ := x; exact ⟨o, e, fun v z => by rw [d] at z; cases z⟩
section
variable {X : Cx} {pins : List (Addr × Obj)} {σ : St} {H : Hp} {s : Shared}
theorem h9 {a : Addr} {xs : List V} {b : Bool} (I : aC X pins σ H s) (h : p8 X.K H a xs b) : ∃ its : List Value, bf xs its ∧ ss s.heap a its.toArray ∧ ∀ (i : Addr) (k : Nat), fw s.heap i a k b → gt s.heap i a k its.toArray := by
  cases b
  · obtain ⟨its, rv, p, _⟩ := I.list h
    exact ⟨its, rv, .inl p.isList, fun i k z => .inl ⟨z, p.isList⟩⟩
  · obtain ⟨its, rv, p, _⟩ := I.tuple h
    exact ⟨its, rv, .inr p, fun i k z => .inr ⟨z, p⟩⟩
theorem jW {a : Addr} {xs ys : List V} {b : Bool} (I : aC X pins σ H s) (h : p8 X.K H a xs b) (h' : p8 X.K H a ys b) : ys = xs := by
  cases b
  · exact I.list_inj h' h
  · exact I.tuple_inj h' h
theorem gt.toB {h : Heap} {i l : Addr} {k : Nat} {xs : Array Value} {b : Bool} (hl : ∀ ys, (b = true → ¬ h.IsList l ys) ∧ (b = false → ¬ h.IsTuple l ys)) (x : gt h i l k xs) : fw h i l k b := by
  cases b
  · rcases x with ⟨z, w⟩ | ⟨z, w⟩
    · exact z
    · exact absurd w ((hl xs).2 rfl)
  · rcases x with ⟨z, w⟩ | ⟨z, w⟩
    · exact absurd w ((hl xs).1 rfl)
    · exact z
theorem cI {h : Heap} {l : Addr} {xs ys : Array Value} (a : h.IsList l xs) (b : h.IsTuple l ys) : False := by
  obtain ⟨o, e, c, _⟩ := a
  obtain ⟨o', e', c', _⟩ := b
  rw [e] at e'; cases e'
  rw [c] at c'
  injection c' with z
  exact absurd z (by decide)
theorem mU {a : Addr} {xs : List V} {b : Bool} (I : aC X pins σ H s) (h : p8 X.K H a xs b) {h' : Heap} (kp : ∀ c o, s.heap.get? c = some o → h'.get? c = some o) : ∀ ys, (b = true → ¬ h'.IsList a ys) ∧ (b = false → ¬ h'.IsTuple a ys) := fun ys => by
  cases b
  · obtain ⟨its, rv, p, _⟩ := I.list h
    refine ⟨fun z => (by cases z), fun _ w => ?_⟩
    obtain ⟨o, e, r⟩ := p.isList
    exact cI (h := h') (xs := its.toArray) ⟨o, kp _ _ e, r⟩ w
  · obtain ⟨its, rv, p, _⟩ := I.tuple h
    refine ⟨fun _ w => ?_, fun z => by cases z⟩
    obtain ⟨o, e, r⟩ := p
    exact cI (h := h') w ⟨o, kp _ _ e, r⟩
end
def Cq (K : PySem.W.Frag) (l m : Addr) (b c : Bool) : It :=
  ⟨fun i H => ∃ xs ys x y, p8 K H l xs b ∧ p8 K H m ys c ∧ xs[i]? = some x ∧ ys[i]? = some y,
   fun i H v H' => ∃ a x y, H a = none ∧ v = .ref a ∧ H' = ca H a (.tup [x, y]) ∧ (∀ xs, p8 K H l xs b → xs[i]? = some x) ∧ ∀ ys, p8 K H m ys c → ys[i]? = some y,
   fun i H => ∃ xs ys, p8 K H l xs b ∧ p8 K H m ys c ∧ (xs.length ≤ i ∨ ys.length ≤ i)⟩
structure CU (z p q i j l m : Addr) (b c : Bool) (k : Nat) (h : Heap) : Prop where
  zz : IsZip h z p q .none
  pp : IsPair h p (.ref i) (.ref j)
  qq : ∃ a b, IsPair h q a b
  ii : fw h i l k b
  jj : fw h j m k c
theorem wL {P : Program} {w : World} {K : PySem.W.Frag} {elts : List Expr} {x1} {pos : Pos} {z p q i j l m : Addr} {b c : Bool} (D : ZA z p q i j l m) : p9 P w K (.Tuple elts x1 pos) (Cq K l m b c) [z, p, q, i, j] z (CU z p q i j l m b c) where
  mem := by simp
  obj := fun k h st a ha => by
    simp only [List.mem_cons, List.not_mem_nil, or_false] at ha
    rcases ha with rfl | rfl | rfl | rfl | rfl
    · exact ⟨_, st.zz, fun v e => by cases e⟩
    · exact ⟨_, st.pp, fun v e => by cases e⟩
    · obtain ⟨_, _, e⟩ := st.qq; exact ⟨_, e, fun v e => by cases e⟩
    · exact st.ii.there
    · exact st.jj.there
  keep := fun k h h' st kp => ⟨kp z (by simp) _ st.zz, kp p (by simp) _ st.pp, let ⟨a, b, e⟩ := st.qq; ⟨a, b, kp q (by simp) _ e⟩, st.ii.keep fun o e => kp i (by simp) o e, st.jj.keep fun o e => kp j (by simp) o e⟩
  item := by
    intro X hP hw hK hc k pins s σ H E I hf st hg
    subst hP hw hK
    obtain ⟨xs, ys, x, y, h1, h2, hx, hy⟩ := hg
    obtain ⟨its, rv, _, p1⟩ := h9 I h1
    obtain ⟨jts, rw', _, p2⟩ := h9 I h2
    obtain ⟨u, hu, ru⟩ := rv.get hx
    obtain ⟨v, hv, ry⟩ := rw'.get hy
    have S : xn s.heap z p q i j l m .none k its.toArray jts.toArray := ⟨st.zz, st.pp, st.qq, p1 _ _ st.ii, p2 _ _ st.jj⟩
    refine rc D S (x := u) (y := v) (by simpa using hu) (by simpa using hv) fun h' S' hp kp => ⟨_, rfl, ?_⟩
    have zlt : z < s.heap.objs.size := Heap.lt_size st.zz
    refine wpAny_letOwnedTupleGo_zip (s := { s with heap := h' }) S'.zz fun h2' hz2 sb => ?_
    have up : ∀ a o, a ≠ z → h'.get? a = some o → h2'.get? a = some o := fun a o ha e => sb.extBut a o ha e
    have hob : ∀ a ∈ [z, p, q, i, j], a < s.heap.objs.size := fun a ha => by
      simp only [List.mem_cons, List.not_mem_nil, or_false] at ha
      rcases ha with rfl | rfl | rfl | rfl | rfl
      · exact Heap.lt_size st.zz
      · exact Heap.lt_size st.pp
      · obtain ⟨_, _, e⟩ := st.qq; exact Heap.lt_size e
      · obtain ⟨o, e, _⟩ := st.ii.there; exact Heap.lt_size e
      · obtain ⟨o, e, _⟩ := st.jj.there; exact Heap.lt_size e
    have hn : H s.heap.objs.size = none := I.hok.fresh (Nat.le_refl _)
    refine ⟨.ref s.heap.objs.size, _, tI (s := s) (t' := s.toks) (fp := [z, p, q, i, j]) (h' := h2') (u1 := u) (u2 := v) (v1 := x) (v2 := y) I hf hob (up _ _ (Nat.ne_of_gt zlt) hp) (fun a o ha e => ?_) ru ry, rfl, ⟨_, x, y, hn, rfl, rfl, fun zs hz => by rw [jW I h1 hz]; exact hx, fun zs hz => by rw [jW I h2 hz]; exact hy⟩, ?_, fun a ha => ?_⟩
    · simp only [List.mem_cons, List.not_mem_nil, or_false, not_or] at ha
      exact up a o ha.1 (kp a o ha.1 ha.2.2.1 ha.2.2.2.1 ha.2.2.2.2 e)
    · have i2 : fw h' i l (k + 1) b := by
        refine S'.ii.toB fun ys => ?_
        cases hb : b
        · subst hb
          refine ⟨fun z => (by cases z), fun _ w => ?_⟩
          obtain ⟨_, _, pl, _⟩ := I.list h1
          obtain ⟨o, e, r⟩ := pl.isList
          exact cI (h := h') (xs := _) ⟨o, kp _ _ D.lz D.lq D.li D.lj e, r⟩ w
        · subst hb
          refine ⟨fun _ w => ?_, fun z => by cases z⟩
          obtain ⟨_, _, pl, _⟩ := I.tuple h1
          obtain ⟨o, e, r⟩ := pl
          exact cI (h := h') w ⟨o, kp _ _ D.lz D.lq D.li D.lj e, r⟩
      have j2 : fw h' j m (k + 1) c := by
        refine S'.jj.toB fun ys => ?_
        cases hb : c
        · subst hb
          refine ⟨fun z => (by cases z), fun _ w => ?_⟩
          obtain ⟨_, _, pl, _⟩ := I.list h2
          obtain ⟨o, e, r⟩ := pl.isList
          exact cI (h := h') (xs := _) ⟨o, kp _ _ D.mz D.mq D.mi D.mj e, r⟩ w
        · subst hb
          refine ⟨fun _ w => ?_, fun z => by cases z⟩
          obtain ⟨_, _, pl, _⟩ := I.tuple h2
          obtain ⟨o, e, r⟩ := pl
          exact cI (h := h') w ⟨o, kp _ _ D.mz D.mq D.mi D.mj e, r⟩
      exact ⟨hz2, up _ _ D.pz S'.pp, let ⟨a, b, e⟩ := S'.qq; ⟨a, b, up _ _ D.qz e⟩, i2.keep fun o e => up _ _ D.iz e, j2.keep fun o e => up _ _ D.jz e⟩
    · rw [ao (Nat.ne_of_lt (hob a ha))]; exact (hf a ha).1
  done := by
    intro X hP hw hK hc k pins s σ H E I hf st hg
    subst hP hw hK
    obtain ⟨xs, ys, h1, h2, hl⟩ := hg
    obtain ⟨its, rv, _, p1⟩ := h9 I h1
    obtain ⟨jts, rw', _, p2⟩ := h9 I h2
    have S : xn s.heap z p q i j l m .none k its.toArray jts.toArray := ⟨st.zz, st.pp, st.qq, p1 _ _ st.ii, p2 _ _ st.jj⟩
    have e1 := rv.length
    have e2 := rw'.length
    refine uf (I.ok.hd hc) D S ?_ fun h' kp => ⟨rfl, eY (t' := s.toks) (fp := [z, p, q, i, j]) I (fun a o ha e => ?_) hf⟩
    · rcases hl with hl | hl
      · left; simp; omega
      · right; simp; omega
    · simp only [List.mem_cons, List.not_mem_nil, or_false, not_or] at ha
      exact kp a o ha.1 ha.2.2.1 ha.2.2.2.1 ha.2.2.2.2 e
  self := fun _ _ _ _ _ st h => wpAny_pyIter_zip st.zz h
def yI (H : Hp) (a : Addr) (ds : List PyData) : Bool → Prop
  | true => ∃ vs, H a = some (.tup vs) ∧ bg H ds vs
  | false => ∃ o vs, H a = some (.frz o (.lst vs)) ∧ bg H ds vs
theorem yI.sq {K : PySem.W.Frag} {H : Hp} {a : Addr} {ds : List PyData} {b : Bool} (h : yI H a ds b) : ∃ vs, p8 K H a vs b ∧ bg H ds vs := by
  cases b
  · obtain ⟨o, vs, e, r⟩ := h; exact ⟨vs, .inl (.inr ⟨o, e⟩), r⟩
  · obtain ⟨vs, e, r⟩ := h; exact ⟨vs, dF.of e, r⟩
theorem yI.kp {H H' : Hp} {a : Addr} {ds : List PyData} {b : Bool} (h : yI H a ds b) (k : Kp H H') : yI H' a ds b := by
  cases b
  · obtain ⟨o, vs, e, r⟩ := h; exact ⟨o, vs, k.2 _ _ _ e, bg.kp k _ _ r⟩
  · obtain ⟨vs, e, r⟩ := h; exact ⟨vs, k.1 _ _ e, bg.kp k _ _ r⟩
def BD (p : PyData × PyData) : PyData := .tuple [p.1, p.2]
def iT (xs ys : List PyData) : List PyData := (xs.zip ys).map BD
theorem wo {xs ys : List PyData} {i : Nat} {d : PyData} (h : (iT xs ys)[i]? = some d) : ∃ x y, xs[i]? = some x ∧ ys[i]? = some y ∧ d = .tuple [x, y] := by
  unfold iT at h
  rw [List.getElem?_map] at h
  cases e : (xs.zip ys)[i]? with
  | none => rw [e] at h; cases h
  | some p =>
    rw [e] at h
    obtain ⟨h1, h2⟩ := List.getElem?_zip_eq_some.mp e
    exact ⟨p.1, p.2, h1, h2, (Option.some.inj h).symm⟩
theorem mK (xs ys : List PyData) : (iT xs ys).length = min xs.length ys.length := by unfold iT; simp
theorem x8 {K : PySem.W.Frag} {l m : Addr} {b c : Bool} {xs ys : List PyData} : xf (Cq K l m b c) (fun H => yI H l xs b ∧ yI H m ys c) (iT xs ys) where
  go := fun i H ⟨h1, h2⟩ hi => by
    rw [mK] at hi
    obtain ⟨vs, s1, r1⟩ := h1.sq (K := K)
    obtain ⟨us, s2, r2⟩ := h2.sq (K := K)
    obtain ⟨x, hx, _⟩ := r1.get (List.getElem?_eq_getElem (show i < xs.length by omega))
    obtain ⟨y, hy, _⟩ := r2.get (List.getElem?_eq_getElem (show i < ys.length by omega))
    exact ⟨vs, us, x, y, s1, s2, hx, hy⟩
  yld := fun i H v H' d ⟨h1, h2⟩ hd h => by
    obtain ⟨a, x, y, ha, rfl, rfl, k1, k2⟩ := h
    obtain ⟨vs, s1, r1⟩ := h1.sq (K := K)
    obtain ⟨us, s2, r2⟩ := h2.sq (K := K)
    obtain ⟨dx, dy, e1, e2, rfl⟩ := wo hd
    obtain ⟨x', hx, px⟩ := r1.get e1
    obtain ⟨y', hy, py⟩ := r2.get e2
    have q1 := k1 vs s1
    have q2 := k2 us s2
    rw [hx] at q1; rw [hy] at q2
    cases q1; cases q2
    exact ⟨bR ha _, cK ha (bg.cons px (bg.cons py bg.nil))⟩
  stop := fun i H ⟨h1, h2⟩ hi => by
    rw [mK] at hi
    obtain ⟨vs, s1, r1⟩ := h1.sq (K := K)
    obtain ⟨us, s2, r2⟩ := h2.sq (K := K)
    have l1 := r1.length
    have l2 := r2.length
    exact ⟨vs, us, s1, s2, by omega⟩
theorem Ak {n l m : Nat} (hl : l < n) (hm : m < n) : ZA (n + 4) (n + 2) (n + 3) n (n + 1) l m := by
  refine ⟨?_, ?_, ?_, ?_, ?_, ?_, ?_, ?_, ?_, ?_, ?_, ?_, ?_, ?_, ?_, ?_, ?_, ?_⟩ <;> (intro z; have z' : (_ : Nat) = _ := z; omega)
section
variable {X : Cx} {elts : List Expr} {x1 : Nat} {tp : Pos} {a b : Expr} {fa fb : Fe} {pos p : Pos} {nl : Nat} {G : List Str} {fs : aG → R (List PyData)}
def Dg (K : PySem.W.Frag) (ta : TA) : TI := fun σ H R => ta σ H fun vs H1 => ∃ l m xs ys b c, vs = [.ref l, .ref m] ∧ p8 K H1 l xs b ∧ p8 K H1 m ys c ∧ R (Cq K l m b c) H1
theorem zx {ta : TA} (hg : Gl X "zip") (hm : X.mg "zip" = none) (ha : PA X [a, b] ta) (hs : starEach [a, b] X.env = [(false, eval a X.env), (false, eval b X.env)]) (hs2 : starEach [b] X.env = [(false, eval b X.env)]) :
    PI X (.Tuple elts x1 tp) (.Call (.Name "zip" p) [a, b] [] pos) (Dg X.K ta) := by
  intro pins s σ H R I h
  refine Call_ (gS I hg hm boot_zip (PyProof.Rows.callWith_type1 (cO (ha pos pins s σ H _ I h) fun us s1 ⟨vs, H1, I1, r1, q1⟩ => ?_) (by rw [hs, hs2]) (by rw [hs2]; rfl)))
  obtain ⟨l, m, xs, ys, b, c, e, h1, h2, q⟩ := q1
  subst e
  obtain ⟨u, v, rfl, ru, rv⟩ := tS r1
  cases ru
  cases rv
  obtain ⟨its, w1, p1, g1⟩ := h9 I1 h1
  obtain ⟨jts, w2, p2, g2⟩ := h9 I1 h2
  have ll : l < s1.heap.objs.size := by rcases p1 with ⟨o, e, _⟩ | ⟨o, e, _⟩ <;> exact Heap.lt_size e
  have lm : m < s1.heap.objs.size := by rcases p2 with ⟨o, e, _⟩ | ⟨o, e, _⟩ <;> exact Heap.lt_size e
  refine vB p1 p2 fun h' hz S kp => wpAny_pyIter_zip S.zz ?_
  have D := Ak ll lm
  have I2 : aC X pins σ H1 { s1 with heap := h' } := I1.kept (t' := s1.toks) kp
  have i2 : fw h' s1.heap.objs.size l 0 b := S.ii.toB (mU I1 h1 kp)
  have j2 : fw h' (s1.heap.objs.size + 1) m 0 c := S.jj.toB (mU I1 h2 kp)
  refine ⟨_, [s1.heap.objs.size + 4, s1.heap.objs.size + 2, s1.heap.objs.size + 3, s1.heap.objs.size, s1.heap.objs.size + 1], _, _, H1, rfl, I2, wL (b := b) (c := c) D, ⟨S.zz, S.pp, S.qq, i2, j2⟩, fun a ha => ?_, q⟩
  have hle : s1.heap.objs.size ≤ a := by
    simp only [List.mem_cons, List.not_mem_nil, or_false] at ha
    rcases ha with rfl | rfl | rfl | rfl | rfl
    · exact Nat.le_add_right _ 4
    · exact Nat.le_add_right _ 2
    · exact Nat.le_add_right _ 3
    · exact Nat.le_refl _
    · exact Nat.le_add_right _ 1
  exact I1.fpOk hle (I1.hok.fresh hle)
def uD (fa fb : Fe) : aG → R (List PyData) := fun ρ => fa ρ >>= fun x => fb ρ >>= fun y => hR x >>= fun xs => hR y >>= fun ys => .ok (iT xs ys)
theorem rJ {H : Hp} {d : PyData} {v : V} {ds : List PyData} (h : Rp H d v) (e : hR d = .ok ds) : ∃ a b, v = .ref a ∧ yI H a ds b := by
  cases d with
  | list xs =>
    cases e
    simp only [Rp] at h
    obtain ⟨a, o, vs, rfl, h, r⟩ := h
    exact ⟨a, false, rfl, o, vs, h, r⟩
  | tuple xs =>
    cases e
    simp only [Rp] at h
    obtain ⟨a, vs, rfl, h, r⟩ := h
    exact ⟨a, true, rfl, vs, h, r⟩
  | _ => cases e
theorem oX (T : Tb X nl G) (j : Nat) (hG : G[j]? = some ("zip" : Str)) (hm : X.mg "zip" = none) (ha : ag X a fa) (hb : ag X b fb) (h1 : aq a = true := by rfl) (h2 : aq b = true := by rfl) :
    nk X (.Tuple elts x1 tp) (.Call (.Name "zip" p) [a, b] [] pos) (uD fa fb) := by
  have g := T.gl _ (List.mem_of_getElem? hG)
  refine PI.imp (zx g.1 hm (af ha (af hb ay h2) h1) (by rw [a8 h1, a8 h2]; rfl) (by rw [a8 h2]; rfl)) fun σ H Rk h => ?_
  obtain ⟨ρ, sl, q⟩ := h
  unfold uD at q
  refine ⟨ρ, sl, ?_⟩
  unfold ae aF
  cases e1 : fa ρ with
  | ex c => rw [e1] at q; exact q
  | no => rw [e1] at q; exact q
  | ok x =>
    rw [e1] at q
    simp only [R.ok_bind] at q ⊢
    cases e2 : fb ρ with
    | ex c => rw [e2] at q; exact q
    | no => rw [e2] at q; exact q
    | ok y =>
      rw [e2] at q
      simp only [R.ok_bind] at q ⊢
      cases e3 : hR x with
      | ex c => exact absurd e3 (by cases x <;> simp [hR])
      | no => rw [e3] at q; exact q.elim
      | ok xs =>
        rw [e3] at q
        simp only [R.ok_bind] at q
        cases e4 : hR y with
        | ex c => exact absurd e4 (by cases y <;> simp [hR])
        | no => rw [e4] at q; exact q.elim
        | ok ys =>
          rw [e4] at q
          simp only [R.ok_bind] at q
          intro vs H1 s1 ra
          simp only [RA] at ra
          obtain ⟨v, r', rfl, p1, v', r'', rfl, p2, rfl⟩ := ra
          obtain ⟨l, b1, rfl, d1⟩ := rJ p1 e3
          obtain ⟨m, b2, rfl, d2⟩ := rJ p2 e4
          obtain ⟨us, u1, _⟩ := d1.sq (K := X.K)
          obtain ⟨ws, u2, _⟩ := d2.sq (K := X.K)
          exact ⟨l, m, us, ws, b1, b2, rfl, u1, u2, q _ H1 s1 ⟨_, x8, fun H2 k _ => ⟨d1.kp k, d2.kp k⟩⟩⟩
theorem Z.oX (T : Tb X nl G) (j : Nat) (hG : G[j]? = some ("zip" : Str)) (hm : X.mg "zip" = none) (ha : Z.ag X a fa) (hb : Z.ag X b fb) (h1 : aq a = true := by rfl) (h2 : aq b = true := by rfl) : Z.nk X (.Tuple elts x1 tp) (.Call (.Name "zip" p) [a, b] [] pos) (uD fa fb) :=
  ⟨D2.oX T j hG hm ha.un hb.un h1 h2⟩
end
def dQ (i j : Nat) : PyData → aG → Option aG
  | .tuple [x, y], ρ => some ((ρ.set i (.val x)).set j (.val y))
  | _, _ => none
section
variable {X : Cx} {nl : Nat} {G : List Str} {x y : Str} {k : Nat} {p1 p2 pos : Pos}
theorem hW (T : Tb X nl G) (i j : Nat) (hi : (X.N.take nl)[i]? = some x) (hj : (X.N.take nl)[j]? = some y) : oh X (.Tuple [.Name x p1, .Name y p2] k pos) (dQ i j) := by
  obtain ⟨i1, i2, i3⟩ := T.nm hi
  obtain ⟨j1, j2, j3⟩ := T.nm hj
  refine PG.imp (wG T.calm (iC (je T.nd i1 i2 i3) (iC (je T.nd j1 j2 j3) tF))) fun v σ H Q ⟨ρ, d, sl, p, q⟩ => ?_
  unfold dQ at q
  split at q
  · rename_i e
    split at e
    · rename_i ρ0 dx dy
      cases e
      simp only [Rp] at p
      obtain ⟨a, vs, rfl, ha, r⟩ := p
      obtain ⟨u, r1, rfl, pu, r⟩ := r.cons_inv
      obtain ⟨w, r2, rfl, pw, r⟩ := r.cons_inv
      rw [r.nil_inv] at ha
      refine ⟨a, [u, w], rfl, dF.of ha, rfl, u, [w], rfl, w, [], rfl, rfl, ?_⟩
      refine q _ (Sl.set (c := .val dy) (o := some w) (Sl.set (c := .val dx) (o := some u) sl i ⟨u, rfl, pu⟩) j ⟨w, rfl, pw⟩) fun n e h => ?_
      obtain ⟨n1, h⟩ := bK (fun e z => by cases z) h
      obtain ⟨n2, h⟩ := bK (fun e z => by cases z) h
      exact ⟨h, by rw [List.getElem?_set, if_neg n1, List.getElem?_set, if_neg n2]⟩
    · cases e
  · exact q.elim
theorem Z.hW (T : Tb X nl G) (i j : Nat) (hi : (X.N.take nl)[i]? = some x) (hj : (X.N.take nl)[j]? = some y) : Z.oh X (.Tuple [.Name x p1, .Name y p2] k pos) (dQ i j) :=
  ⟨D2.hW T i j hi hj⟩
end
theorem i8 {own : Nat} {fr : List Nat} {i j : Nat} (hi : i < own) (hj : j < own) : ∀ ρ d ρ1, dQ i j d (aw own fr ρ) = some ρ1 → lw (aw own fr ρ) ρ1 := fun ρ d ρ1 e => by
  unfold dQ at e
  split at e
  · rename_i x y _
    cases e
    refine ⟨by rw [List.length_set, List.length_set], fun n c hn => ?_⟩
    have at_own : n < own → c = .non := fun h => by
      unfold aw at hn
      rw [List.getElem?_append_left (by simpa using h), List.getElem?_replicate, if_pos h] at hn
      exact (Option.some.inj hn).symm
    by_cases h1 : j = n
    · exact .inl (at_own (by omega))
    · by_cases h2 : i = n
      · exact .inl (at_own (by omega))
      · exact .inr (by rw [List.getElem?_set, if_neg h1, List.getElem?_set, if_neg h2]; exact hn)
  · cases e
open AutoSeq1 (wpAny_loadPart')
abbrev jq (h : Heap) (e i : Addr) (k : Int) (f0 old : Value) : Prop := h.get? e = some { cls := .type "enumerate", dict := none, data := .fields #[f0, .bool false, .ref i, rawInt k, .none, old], slots := #[] }
section
variable {prog : Program} {w : World} {A : Around} {E : Value → Shared → Prop} {s : Shared} {e i l : Addr} {k : Nat} {xs : Array Value}
theorem uV {x old : Value} {Q : Value → Shared → Prop} (he : jq s.heap e i k .none old) (it : gt s.heap i l k xs) (hli : l ≠ i) (hle : l ≠ e) (hei : e ≠ i) (hx : xs[k]? = some x)
    (hQ : ∀ h' old', jq h' e i ((k : Int) + 1) (rawInt s.heap.objs.size) old' → gt h' i l (k + 1) xs → IsPair h' s.heap.objs.size (.int k s.toks) x → (∀ c o, c ≠ e → c ≠ i → s.heap.get? c = some o → h'.get? c = some o) → Q (.ref s.heap.objs.size) { s with heap := h', toks := s.toks + 1 }) :
    wpAny (model prog w) A (Builtin.«enumerate.__next__» ⟨[.ref e], []⟩) (fun fin s' => ∃ v, fin = .done (.ret v) ∧ Q v s') E s := by
  obtain ⟨hp, g, d, tk, os⟩ := s
  show wpAny _ _ (field (Value.ref e) 2 >>= _) _ _ _
  refine wpAny_bind (wpAny_field he rfl (x := Value.ref i) rfl ?_)
  refine wpAny_bind (ki it hli hx fun g1 i1 s1 => ?_)
  replace s1 : Heap.SameBut i hp g1 := s1
  have e1 : jq g1 e i k .none old := (s1.2 e hei).trans he
  show wpAny _ _ (field (Value.ref e) 3 >>= _) _ _ (Shared.mk g1 g d tk os)
  refine wpAny_bind (wpAny_field e1 rfl (x := rawInt (k : Int)) rfl ?_)
  show wpAny _ _ (field (Value.ref e) 4 >>= _) _ _ (Shared.mk g1 g d tk os)
  refine wpAny_bind (wpAny_field e1 rfl (x := Value.none) rfl ?_)
  show wpAny _ _ (mkInt (k : Int) >>= _) _ _ (Shared.mk g1 g d tk os)
  refine wpAny_bind (wpAny_mkInt ?_)
  show wpAny _ _ (setField (Value.ref e) 3 (rawInt ((k : Int) + 1)) >>= _) _ _ (Shared.mk g1 g d (tk + 1) os)
  refine wpAny_bind (wpAny_setField_rec e1 (by simp) fun g2 e2 s2 => ?_)
  replace s2 : Heap.SameBut e g1 g2 := s2
  replace e2 : jq g2 e i ((k : Int) + 1) .none old := e2
  show wpAny _ _ (setField (Value.ref e) 4 Value.none >>= _) _ _ (Shared.mk g2 g d (tk + 1) os)
  refine wpAny_bind (wpAny_setField_rec e2 (by simp) fun g3 e3 s3 => ?_)
  replace s3 : Heap.SameBut e g2 g3 := s3
  replace e3 : jq g3 e i ((k : Int) + 1) .none old := e3
  show wpAny _ _ (newTuple [Value.int k tk, x] >>= _) _ _ (Shared.mk g3 g d (tk + 1) os)
  refine wpAny_bind (wpAny_newTuple ?_)
  have hsz : g3.objs.size = hp.objs.size := by rw [s3.1, s2.1, s1.1]
  have elt : e < g3.objs.size := Heap.lt_size e3
  have e4 : jq (g3.push { cls := .type "tuple", data := .seq #[.int k tk, x] }) e i ((k : Int) + 1) .none old := Heap.get?_push_of_some _ e3
  have t4 : IsPair (g3.push { cls := .type "tuple", data := .seq #[.int k tk, x] }) g3.objs.size (.int k tk) x := Heap.get?_push_size _ rfl
  have i3 : gt g3 i l (k + 1) xs := i1.keep (fun o q => s3.extBut _ _ hei.symm (s2.extBut _ _ hei.symm q)) fun o q => s3.extBut _ _ hle (s2.extBut _ _ hle q)
  have k3 : ∀ c o, c ≠ e → c ≠ i → hp.get? c = some o → g3.get? c = some o := fun c o c1 c2 q => s3.extBut _ _ c1 (s2.extBut _ _ c1 (s1.extBut _ _ c2 q))
  show wpAny _ _ (Builtin.SmallTypes.ownedTupleIsFree (Value.ref e) >>= _) _ _ (Shared.mk (g3.push { cls := .type "tuple", data := .seq #[.int k tk, x] }) g d (tk + 1) os)
  refine wpAny_bind ?_
  unfold Builtin.SmallTypes.ownedTupleIsFree
  refine wpAny_bind (wpAny_field e4 rfl (x := Value.none) rfl (wpAny_pure ?_))
  simp only [if_true]
  refine wpAny_bind (wpAny_rule ?_)
  refine wpAny_bind (wpAny_field e4 rfl (x := old) rfl ?_)
  refine wpAny_bind (wpAny_setField_rec e4 (by simp) fun g5 e5 s5 => ?_)
  replace s5 : Heap.SameBut e (g3.push { cls := .type "tuple", data := .seq #[.int k tk, x] }) g5 := s5
  replace e5 : jq g5 e i ((k : Int) + 1) .none x := e5
  show wpAny _ _ (Builtin.SmallTypes.ownedTupleHandOut (Value.ref e) (Value.ref g3.objs.size) >>= _) _ _ (Shared.mk g5 g d (tk + 1) os)
  refine wpAny_bind ?_
  unfold Builtin.SmallTypes.ownedTupleHandOut
  refine wpAny_bind (wpAny_setField_rec e5 (by simp) fun g6 e6 s6 => ?_)
  replace s6 : Heap.SameBut e g5 g6 := s6
  replace e6 : jq g6 e i ((k : Int) + 1) (rawInt g3.objs.size) x := e6
  refine wpAny_setField_rec e6 (by simp) fun g7 e7 s7 => ?_
  replace s7 : Heap.SameBut e g6 g7 := s7
  replace e7 : jq g7 e i ((k : Int) + 1) (rawInt g3.objs.size) x := e7
  have up : ∀ c o, c ≠ e → g3.get? c = some o → g7.get? c = some o := fun c o c1 q => s7.extBut _ _ c1 (s6.extBut _ _ c1 (s5.extBut _ _ c1 (Heap.get?_push_of_some _ q)))
  have t7 : IsPair g7 g3.objs.size (.int k tk) x := s7.extBut _ _ (Nat.ne_of_gt elt) (s6.extBut _ _ (Nat.ne_of_gt elt) (s5.extBut _ _ (Nat.ne_of_gt elt) t4))
  rw [hsz] at e7 t7
  refine wpAny_bind (wpAny_letGo (wpAny_pure ⟨_, rfl, ?_⟩))
  show Q (.ref g3.objs.size) _
  rw [hsz]
  exact hQ g7 x e7 (i3.keep (fun o q => up _ _ hei.symm q) fun o q => up _ _ hle q) t7 fun c o c1 c2 q => up c o c1 (k3 c o c1 c2 q)
theorem uC {x old : Value} {Q : Option Value → Shared → Prop} (he : jq s.heap e i k .none old) (it : gt s.heap i l k xs) (hli : l ≠ i) (hle : l ≠ e) (hei : e ≠ i) (hx : xs[k]? = some x)
    (hQ : ∀ h' old', jq h' e i ((k : Int) + 1) (rawInt s.heap.objs.size) old' → gt h' i l (k + 1) xs → IsPair h' s.heap.objs.size (.int k s.toks) x → (∀ c o, c ≠ e → c ≠ i → s.heap.get? c = some o → h'.get? c = some o) → Q (some (.ref s.heap.objs.size)) { s with heap := h', toks := s.toks + 1 }) :
    wpAny (model prog w) A (pyNext (.ref e)) Q E s := by
  have hT : s.TypeIs (.ref e) "enumerate" := ⟨_, he, rfl⟩
  unfold pyNext
  exact wpAny_bind (wpAny_attempt (wpAny_callSpecial?_slot (name := Str.ofString "__next__") hT F.slot_enumerate_next (wpAny_call_entry F.slot_enumerate_next hT F.entry_enumerate_next (uV he it hli hle hei hx fun h' o a b c d => wpAny_pure (hQ h' o a b c d)) (F.args_enumerate_next_1 _))))
theorem vP {old : Value} {Q : Option Value → Shared → Prop} (hh : A.handled = none) (he : jq s.heap e i k .none old) (it : gt s.heap i l k xs) (hx : xs[k]? = none) (hQ : ∀ h', (∀ c o, c ≠ i → s.heap.get? c = some o → h'.get? c = some o) → Q none { s with heap := h' }) :
    wpAny (model prog w) A (pyNext (.ref e)) Q E s := by
  have hT : s.TypeIs (.ref e) "enumerate" := ⟨_, he, rfl⟩
  unfold pyNext
  refine wpAny_bind (wpAny_attempt (wpAny_callSpecial?_slot (name := Str.ofString "__next__") hT F.slot_enumerate_next (wpAny_call_entry F.slot_enumerate_next hT F.entry_enumerate_next ?_ (F.args_enumerate_next_1 _))))
  show wpAny _ _ (field (Value.ref e) 2 >>= _) _ _ _
  refine wpAny_bind (wpAny_field he rfl (x := Value.ref i) rfl ?_)
  refine wpAny_bind (fO hh it hx fun h' x k1 ⟨o, ho, hc⟩ => ?_)
  exact wpAny_bind (wpAny_isInstance (T := "StopIteration") (b := true) ⟨o, ho, hc⟩ isSubtype_stop (wpAny_pure (hQ _ fun c o c1 q => k1 c o c1 q)))
theorem vy (l : Addr) (xs : Array Value) : Meets (Builtin.«enumerate.__new__» ⟨[.type "enumerate", .ref l], []⟩) (fun _ R s => ss s.heap l xs ∧
    ∀ h', jq h' (s.heap.objs.size + 1) s.heap.objs.size 0 .none .none → gt h' s.heap.objs.size l 0 xs → (∀ c o, s.heap.get? c = some o → h'.get? c = some o) → R (.ok (.ret (.ref (s.heap.objs.size + 1)))) { s with heap := h' }) :=
  .of_wp fun prog w A R s h => by
    obtain ⟨hp, g, d, tk, os⟩ := s
    obtain ⟨h1, h⟩ := h
    have hsub := sub_enumerate
    have fin : ∀ oi : Obj, gt (hp.push oi) hp.objs.size l 0 xs → R (.ok (.ret (.ref (hp.push oi).objs.size))) ⟨(hp.push oi).push { cls := .type "enumerate", data := .fields #[.none, .bool false, .ref hp.objs.size, rawInt 0, .none, .none] }, g, d, tk, os⟩ := fun oi hi => by
      have e1 : (hp.push oi).objs.size = hp.objs.size + 1 := Heap.size_push ..
      rw [e1]
      refine h _ ?_ (hi.keep (fun o q => Heap.get?_push_of_some _ q) fun o q => Heap.get?_push_of_some _ q) fun c o q => Heap.get?_push_of_some _ (Heap.get?_push_of_some _ q)
      show Heap.get? _ (hp.objs.size + 1) = _
      rw [← e1]
      exact Heap.get?_push_size _ rfl
    rcases h1 with h1 | h1
    · have l1 : Heap.IsList (Shared.heap ⟨hp, g, d, tk, os⟩) l xs := h1
      obtain ⟨o, ho, _, _, _⟩ := id h1
      have ho' : (Shared.heap ⟨hp, g, d, tk, os⟩).get? l = some o := ho
      wp_walk using wpAny_loadPart' ho'
      refine wpAny_stack_any fun st => wpAny_pure ?_
      split
      · rename_i c _ _ _ _ _
        cases (c == Value.type "enumerate")
        · wp_walk using wpAny_loadPart' ho', wpAny_pyIter_list l1
          exact ⟨_, rfl, fin _ (.inl ⟨⟨_, Heap.get?_push_size _ rfl, rfl, rfl⟩, Heap.IsList.push h1 _⟩)⟩
        · wp_walk using wpAny_loadPart' ho', wpAny_pyIter_list l1
          exact ⟨_, rfl, fin _ (.inl ⟨⟨_, Heap.get?_push_size _ rfl, rfl, rfl⟩, Heap.IsList.push h1 _⟩)⟩
      · wp_walk using wpAny_loadPart' ho', wpAny_pyIter_list l1
        exact ⟨_, rfl, fin _ (.inl ⟨⟨_, Heap.get?_push_size _ rfl, rfl, rfl⟩, Heap.IsList.push h1 _⟩)⟩
    · have l1 : Heap.IsTuple (Shared.heap ⟨hp, g, d, tk, os⟩) l xs := h1
      obtain ⟨o, ho, _, _, _⟩ := id h1
      have ho' : (Shared.heap ⟨hp, g, d, tk, os⟩).get? l = some o := ho
      wp_walk using wpAny_loadPart' ho'
      refine wpAny_stack_any fun st => wpAny_pure ?_
      split
      · rename_i c _ _ _ _ _
        cases (c == Value.type "enumerate")
        · wp_walk using wpAny_loadPart' ho', wpAny_pyIter_tuple l1
          exact ⟨_, rfl, fin _ (.inr ⟨⟨_, Heap.get?_push_size _ rfl, rfl, rfl⟩, Heap.IsTuple.push h1 _⟩)⟩
        · wp_walk using wpAny_loadPart' ho', wpAny_pyIter_tuple l1
          exact ⟨_, rfl, fin _ (.inr ⟨⟨_, Heap.get?_push_size _ rfl, rfl, rfl⟩, Heap.IsTuple.push h1 _⟩)⟩
      · wp_walk using wpAny_loadPart' ho', wpAny_pyIter_tuple l1
        exact ⟨_, rfl, fin _ (.inr ⟨⟨_, Heap.get?_push_size _ rfl, rfl, rfl⟩, Heap.IsTuple.push h1 _⟩)⟩
theorem uv {Q : Value → Shared → Prop} {l : Addr} (h1 : ss s.heap l xs)
    (h : ∀ h', jq h' (s.heap.objs.size + 1) s.heap.objs.size 0 .none .none → gt h' s.heap.objs.size l 0 xs → (∀ c o, s.heap.get? c = some o → h'.get? c = some o) → Q (.ref (s.heap.objs.size + 1)) { s with heap := h' }) :
    wpAny (model prog w) A (call (.type "enumerate") [.ref l]) Q E s := by
  refine callType_new F.called_enumerate (by decide) (F.typeCall_enumerate_1 _) (F.newCall_enumerate_1 _) (fun obj => F.args_object_init_2 obj _) F.entry_enumerate_new (vy l xs) ⟨h1, fun h' e S k => ?_⟩
  exact ⟨⟨_, e, rfl⟩, h h' e S k⟩
end
end D2
namespace D2
open PySem PySem.Spec PyProof.Rows L2
def CD (K : PySem.W.Frag) (l : Addr) (b : Bool) : It :=
  ⟨fun i H => ∃ xs x, p8 K H l xs b ∧ xs[i]? = some x, fun i H v H' => ∃ a x, H a = none ∧ v = .ref a ∧ H' = ca H a (.tup [.int i, x]) ∧ ∀ xs, p8 K H l xs b → xs[i]? = some x, fun i H => ∃ xs, p8 K H l xs b ∧ xs.length ≤ i⟩
structure Da (e i l : Addr) (b : Bool) (k : Nat) (h : Heap) : Prop where
  ee : ∃ old, jq h e i k .none old
  ii : fw h i l k b
theorem uu {P : Program} {w : World} {K : PySem.W.Frag} {elts : List Expr} {x1} {pos : Pos} {e i l : Addr} {b : Bool} (hei : e ≠ i) (hle : l ≠ e) (hli : l ≠ i) : p9 P w K (.Tuple elts x1 pos) (CD K l b) [e, i] e (Da e i l b) where
  mem := by simp
  obj := fun k h st a ha => by
    simp only [List.mem_cons, List.not_mem_nil, or_false] at ha
    rcases ha with rfl | rfl
    · obtain ⟨_, q⟩ := st.ee; exact ⟨_, q, fun v e => by cases e⟩
    · exact st.ii.there
  keep := fun k h h' st kp => ⟨let ⟨o, q⟩ := st.ee; ⟨o, kp e (by simp) _ q⟩, st.ii.keep fun o q => kp i (by simp) o q⟩
  item := by
    intro X hP hw hK hc k pins s σ H E I hf st hg
    subst hP hw hK
    obtain ⟨xs, x, h1, hx⟩ := hg
    obtain ⟨its, rv, _, p1⟩ := h9 I h1
    obtain ⟨u, hu, ru⟩ := rv.get hx
    obtain ⟨old, he⟩ := st.ee
    refine uC he (p1 _ _ st.ii) hli hle hei (x := u) (by simpa using hu) fun h' old' e' i' hp kp => ⟨_, rfl, ?_⟩
    have elt : e < s.heap.objs.size := Heap.lt_size he
    have hob : ∀ a ∈ [e, i], a < s.heap.objs.size := fun a ha => by
      simp only [List.mem_cons, List.not_mem_nil, or_false] at ha
      rcases ha with rfl | rfl
      · exact elt
      · obtain ⟨o, q, _⟩ := st.ii.there; exact Heap.lt_size q
    have hn : H s.heap.objs.size = none := I.hok.fresh (Nat.le_refl _)
    refine wpAny_letOwnedTupleGo_enum (s := { s with heap := h', toks := s.toks + 1 }) e' fun h2' e2 sb => ?_
    have up : ∀ a o, a ≠ e → h'.get? a = some o → h2'.get? a = some o := fun a o ha q => sb.extBut a o ha q
    refine ⟨.ref s.heap.objs.size, _, tI (s := s) (t' := s.toks + 1) (fp := [e, i]) (h' := h2') (u1 := .int k s.toks) (u2 := u) (v1 := .int k) (v2 := x) I hf hob (up _ _ (Nat.ne_of_gt elt) hp) (fun a o ha q => ?_) ⟨_, rfl⟩ ru, rfl, ⟨_, x, hn, rfl, rfl, fun zs hz => by rw [jW I h1 hz]; exact hx⟩, ?_, fun a ha => ?_⟩
    · simp only [List.mem_cons, List.not_mem_nil, or_false, not_or] at ha
      exact up a o ha.1 (kp a o ha.1 ha.2 q)
    · have i2 : fw h' i l (k + 1) b := by
        refine i'.toB fun ys => ?_
        cases hb : b
        · subst hb
          refine ⟨fun z => (by cases z), fun _ w => ?_⟩
          obtain ⟨_, _, pl, _⟩ := I.list h1
          obtain ⟨o, q, r⟩ := pl.isList
          exact cI (h := h') (xs := _) ⟨o, kp _ _ hle hli q, r⟩ w
        · subst hb
          refine ⟨fun _ w => ?_, fun z => by cases z⟩
          obtain ⟨_, _, pl, _⟩ := I.tuple h1
          obtain ⟨o, q, r⟩ := pl
          exact cI (h := h') w ⟨o, kp _ _ hle hli q, r⟩
      exact ⟨⟨_, by have q : jq h2' e i ((k : Int) + 1) .none old' := e2; simpa using q⟩, i2.keep fun o q => up _ _ hei.symm q⟩
    · rw [ao (Nat.ne_of_lt (hob a ha))]; exact (hf a ha).1
  done := by
    intro X hP hw hK hc k pins s σ H E I hf st hg
    subst hP hw hK
    obtain ⟨xs, h1, hl⟩ := hg
    obtain ⟨its, rv, _, p1⟩ := h9 I h1
    obtain ⟨old, he⟩ := st.ee
    have e1 := rv.length
    refine vP (I.ok.hd hc) he (p1 _ _ st.ii) (by simp; omega) fun h' kp => ⟨rfl, eY (t' := s.toks) (fp := [e, i]) I (fun a o ha q => ?_) hf⟩
    simp only [List.mem_cons, List.not_mem_nil, or_false, not_or] at ha
    exact kp a o ha.2 q
  self := fun _ _ _ _ _ st h => let ⟨_, q⟩ := st.ee; wpAny_pyIter_enum q h
def cX : Nat → List PyData → List PyData
  | _, [] => []
  | k, d :: ds => .tuple [.int k, d] :: cX (k + 1) ds
theorem fL : ∀ (k : Nat) (ds : List PyData), (cX k ds).length = ds.length
  | _, [] => rfl
  | k, d :: ds => by unfold cX; rw [List.length_cons, List.length_cons, fL]
theorem nT : ∀ {k : Nat} {ds : List PyData} {i : Nat} {d : PyData}, (cX k ds)[i]? = some d → ∃ x, ds[i]? = some x ∧ d = .tuple [.int ((k + i : Nat) : Int), x]
  | k, [], i, d, h => by unfold cX at h; simp at h
  | k, x :: ds, 0, d, h => by
    unfold cX at h
    simp at h
    exact ⟨x, rfl, by rw [← h]; simp⟩
  | k, x :: ds, i + 1, d, h => by
    unfold cX at h
    rw [List.getElem?_cons_succ] at h
    obtain ⟨y, h1, h2⟩ := nT h
    refine ⟨y, by simpa using h1, ?_⟩
    rw [h2]
    have : k + 1 + i = k + (i + 1) := by omega
    rw [this]
theorem xa {K : PySem.W.Frag} {l : Addr} {b : Bool} {xs : List PyData} : xf (CD K l b) (fun H => yI H l xs b) (cX 0 xs) where
  go := fun i H h1 hi => by
    rw [fL] at hi
    obtain ⟨vs, s1, r1⟩ := h1.sq (K := K)
    obtain ⟨x, hx, _⟩ := r1.get (List.getElem?_eq_getElem hi)
    exact ⟨vs, x, s1, hx⟩
  yld := fun i H v H' d h1 hd h => by
    obtain ⟨a, x, ha, rfl, rfl, k1⟩ := h
    obtain ⟨vs, s1, r1⟩ := h1.sq (K := K)
    obtain ⟨dx, e1, rfl⟩ := nT hd
    obtain ⟨x', hx, px⟩ := r1.get e1
    have q1 := k1 vs s1
    rw [hx] at q1
    cases q1
    refine ⟨bR ha _, cK ha (bg.cons ?_ (bg.cons px bg.nil))⟩
    rw [Nat.zero_add]
    exact cS
  stop := fun i H h1 hi => by
    rw [fL] at hi
    obtain ⟨vs, s1, r1⟩ := h1.sq (K := K)
    have l1 := r1.length
    exact ⟨vs, s1, by omega⟩
section
variable {X : Cx} {elts : List Expr} {x1 : Nat} {tp : Pos} {a b : Expr} {fa fb : Fe} {pos p : Pos} {nl : Nat} {G : List Str} {fs : aG → R (List PyData)}
def CS (K : PySem.W.Frag) (ta : TA) : TI := fun σ H R => ta σ H fun vs H1 => ∃ l xs b, vs = [.ref l] ∧ p8 K H1 l xs b ∧ R (CD K l b) H1
theorem yi {ta : TA} (hg : Gl X "enumerate") (hm : X.mg "enumerate" = none) (ha : PA X [a] ta) (hs : starEach [a] X.env = [(false, eval a X.env)]) : PI X (.Tuple elts x1 tp) (.Call (.Name "enumerate" p) [a] [] pos) (CS X.K ta) := by
  intro pins s σ H R I h
  refine Call_ (gS I hg hm boot_enumerate (PyProof.Rows.callWith_type1 (cO (ha pos pins s σ H _ I h) fun us s1 ⟨vs, H1, I1, r1, q1⟩ => ?_) hs rfl))
  obtain ⟨l, xs, b, e, h1, q⟩ := q1
  subst e
  obtain ⟨u, rfl, ru⟩ := gJ r1
  cases ru
  obtain ⟨its, w1, p1, g1⟩ := h9 I1 h1
  have ll : l < s1.heap.objs.size := by rcases p1 with ⟨o, e, _⟩ | ⟨o, e, _⟩ <;> exact Heap.lt_size e
  refine uv p1 fun h' hz S kp => wpAny_pyIter_enum hz ?_
  have I2 : aC X pins σ H1 { s1 with heap := h' } := I1.kept (t' := s1.toks) kp
  have i2 : fw h' s1.heap.objs.size l 0 b := S.toB (mU I1 h1 kp)
  refine ⟨_, [s1.heap.objs.size + 1, s1.heap.objs.size], _, _, H1, rfl, I2, uu (b := b) (Nat.ne_of_gt (Nat.lt_succ_self _)) (Nat.ne_of_lt (Nat.lt_succ_of_lt ll)) (Nat.ne_of_lt ll), ⟨⟨_, hz⟩, i2⟩, fun a ha => ?_, q⟩
  have hle : s1.heap.objs.size ≤ a := by
    simp only [List.mem_cons, List.not_mem_nil, or_false] at ha
    rcases ha with rfl | rfl
    · exact Nat.le_add_right _ 1
    · exact Nat.le_refl _
  exact I1.fpOk hle (I1.hok.fresh hle)
def lT (fa : Fe) : aG → R (List PyData) := fun ρ => fa ρ >>= fun x => hR x >>= fun xs => .ok (cX 0 xs)
theorem j6 (T : Tb X nl G) (j : Nat) (hG : G[j]? = some ("enumerate" : Str)) (hm : X.mg "enumerate" = none) (ha : ag X a fa) (h1 : aq a = true := by rfl) : nk X (.Tuple elts x1 tp) (.Call (.Name "enumerate" p) [a] [] pos) (lT fa) := by
  have g := T.gl _ (List.mem_of_getElem? hG)
  refine PI.imp (yi g.1 hm (af ha ay h1) (by rw [a8 h1]; rfl)) fun σ H Rk h => ?_
  obtain ⟨ρ, sl, q⟩ := h
  unfold lT at q
  refine ⟨ρ, sl, ?_⟩
  unfold ae aF
  cases e1 : fa ρ with
  | ex c => rw [e1] at q; exact q
  | no => rw [e1] at q; exact q
  | ok x =>
    rw [e1] at q
    simp only [R.ok_bind] at q ⊢
    cases e3 : hR x with
    | ex c => exact absurd e3 (by cases x <;> simp [hR])
    | no => rw [e3] at q; exact q.elim
    | ok xs =>
      rw [e3] at q
      simp only [R.ok_bind] at q
      intro vs H1 s1 ra
      simp only [RA] at ra
      obtain ⟨v, r', rfl, p1, rfl⟩ := ra
      obtain ⟨l, b1, rfl, d1⟩ := rJ p1 e3
      obtain ⟨us, u1, _⟩ := d1.sq (K := X.K)
      exact ⟨l, us, b1, rfl, u1, q _ H1 s1 ⟨_, xa, fun H2 k _ => d1.kp k⟩⟩
theorem Z.j6 (T : Tb X nl G) (j : Nat) (hG : G[j]? = some ("enumerate" : Str)) (hm : X.mg "enumerate" = none) (ha : Z.ag X a fa) (h1 : aq a = true := by rfl) : Z.nk X (.Tuple elts x1 tp) (.Call (.Name "enumerate" p) [a] [] pos) (lT fa) :=
  ⟨D2.j6 T j hG hm ha.un h1⟩
end
abbrev ez (h : Heap) (T : Addr) (a b c : Value) : Prop := h.get? T = some { cls := .type "tuple", data := .seq #[a, b, c] }
structure Z3 (h : Heap) (N l m o : Nat) (f0 : Value) (k : Nat) (xs ys zs : Array Value) : Prop where
  zz : IsZip h (N + 5) (N + 3) (N + 4) f0
  pp : ez h (N + 3) (.ref N) (.ref (N + 1)) (.ref (N + 2))
  qq : ∃ a b c, ez h (N + 4) a b c
  ii : gt h N l k xs
  jj : gt h (N + 1) m k ys
  kk : gt h (N + 2) o k zs
theorem mw (a b c : Value) : checkTypeCall "zip" ⟨[a, b, c], []⟩ = pure () := by kernel_rfl
theorem nE (a b c : Value) : checkBuiltinCall "zip.__new__" ⟨[.type "zip", a, b, c], []⟩ = pure () := by kernel_rfl
theorem jF (a b c d : Value) : argsOk "object.__init__" ⟨[a, b, c, d], []⟩ := by unfold argsOk; kernel_rfl
section
variable {prog : Program} {w : World} {A : Around} {E : Value → Shared → Prop} {s : Shared} {N l m o : Nat} {k : Nat} {xs ys zs : Array Value}
theorem dC {T : Addr} {a b c x : Value} {k : Nat} {Q : Unit → Shared → Prop} (hT : ez s.heap T a b c)
    (h : ∀ h', h'.get? T = some { cls := .type "tuple", data := .seq ((#[a, b, c] : Array Value).setIfInBounds k x) } → Heap.SameBut T s.heap h' → Q () { s with heap := h' }) :
    wpAny (model prog w) A (updateSeq T (·.setIfInBounds k x)) Q E s := by
  refine wpAny_updateSeq hT rfl (h _ ?_ (Heap.SameBut.update ..))
  rw [Heap.get?_update_self _ hT rfl]
  simp [Obj.mapSeq]
theorem uN {x y v : Value} {Q : Value → Shared → Prop} (hl : l < N) (hm : m < N) (ho : o < N) (S : Z3 s.heap N l m o .none k xs ys zs) (hx : xs[k]? = some x) (hy : ys[k]? = some y) (hv : zs[k]? = some v)
    (hQ : ∀ h', Z3 h' N l m o (rawInt s.heap.objs.size) (k + 1) xs ys zs → ez h' s.heap.objs.size x y v → (∀ (c : Nat) o, c ≠ N + 5 → c ≠ N + 4 → c ≠ N → c ≠ N + 1 → c ≠ N + 2 → s.heap.get? c = some o → h'.get? c = some o) → Q (.ref s.heap.objs.size) { s with heap := h' }) :
    wpAny (model prog w) A (Builtin.«zip.__next__» ⟨[.ref (N + 5)], []⟩) (fun fin s' => ∃ v, fin = .done (.ret v) ∧ Q v s') E s := by
  obtain ⟨hz, hp, ⟨a, b, c, hq⟩, hi, hj, hk⟩ := S
  have n1 : ∀ {a b : Nat}, a ≠ b → (show Addr from a) ≠ (show Addr from b) := fun h => h
  show wpAny _ _ (field (Value.ref (N + 5)) 2 >>= _) _ _ _
  refine wpAny_bind (wpAny_field hz rfl (x := Value.bool false) rfl ?_)
  show wpAny _ _ (field (Value.ref (N + 5)) 3 >>= _) _ _ _
  refine wpAny_bind (wpAny_field hz rfl (x := Value.ref (N + 3)) rfl ?_)
  refine wpAny_bind (wpAny_seqItems hp rfl ?_)
  show wpAny _ _ (Builtin.SmallTypes.ownedTupleIsFree (Value.ref (N + 5)) >>= _) _ _ _
  refine wpAny_bind ?_
  unfold Builtin.SmallTypes.ownedTupleIsFree
  refine wpAny_bind (wpAny_field hz rfl (x := Value.none) rfl (wpAny_pure ?_))
  simp only [if_true]
  refine wpAny_bind (wpAny_rule ?_)
  refine wpAny_bind (wpAny_field hz rfl (x := Value.ref (N + 4)) rfl ?_)
  refine wpAny_bind (wpAny_setField_rec hz (by simp) fun g1 z1 s1 => ?_)
  replace z1 : IsZip g1 (N + 5) (N + 3) (N + 4) .ellipsis := z1
  refine wpAny_bind ?_
  simp only [List.zipIdx_cons, List.zipIdx_nil, List.forIn_cons, List.forIn_nil]
  refine wpAny_bind (wpAny_bind (wpAny_onRaise ?_))
  show wpAny _ _ (Builtin.SmallTypes.nextOf (Value.ref N) >>= _) _ _ _
  have hi1 : gt g1 N l k xs := hi.keep (fun o e => s1.extBut _ _ (n1 (by omega)) e) fun o e => s1.extBut _ _ (n1 (by omega)) e
  refine wpAny_bind (ki hi1 (n1 (by omega)) hx fun g2 i2 s2 => wpAny_pure ?_)
  have q2 : ez g2 (N + 4) a b c := s2.extBut _ _ (n1 (by omega)) (s1.extBut _ _ (n1 (by omega)) hq)
  refine wpAny_bind (wpAny_seqItems q2 rfl ?_)
  refine wpAny_bind (dC q2 fun g3 q3 s3 => ?_)
  replace q3 : ez g3 (N + 4) x b c := q3
  refine wpAny_bind (wpAny_letGo (wpAny_pure ?_))
  refine wpAny_bind (wpAny_bind (wpAny_onRaise ?_))
  show wpAny _ _ (Builtin.SmallTypes.nextOf (Value.ref (N + 1)) >>= _) _ _ _
  have hj3 : gt g3 (N + 1) m k ys := hj.keep (fun o e => s3.extBut _ _ (n1 (by omega)) (s2.extBut _ _ (n1 (by omega)) (s1.extBut _ _ (n1 (by omega)) e))) fun o e => s3.extBut _ _ (n1 (by omega)) (s2.extBut _ _ (n1 (by omega)) (s1.extBut _ _ (n1 (by omega)) e))
  refine wpAny_bind (ki hj3 (n1 (by omega)) hy fun g4 j4 s4 => wpAny_pure ?_)
  have q4 : ez g4 (N + 4) x b c := s4.extBut _ _ (n1 (by omega)) q3
  refine wpAny_bind (wpAny_seqItems q4 rfl ?_)
  refine wpAny_bind (dC q4 fun g5 q5 s5 => ?_)
  replace q5 : ez g5 (N + 4) x y c := q5
  refine wpAny_bind (wpAny_letGo (wpAny_pure ?_))
  refine wpAny_bind (wpAny_bind (wpAny_onRaise ?_))
  show wpAny _ _ (Builtin.SmallTypes.nextOf (Value.ref (N + 2)) >>= _) _ _ _
  have hk5 : gt g5 (N + 2) o k zs := hk.keep (fun o e => s5.extBut _ _ (n1 (by omega)) (s4.extBut _ _ (n1 (by omega)) (s3.extBut _ _ (n1 (by omega)) (s2.extBut _ _ (n1 (by omega)) (s1.extBut _ _ (n1 (by omega)) e))))) fun o e => s5.extBut _ _ (n1 (by omega)) (s4.extBut _ _ (n1 (by omega)) (s3.extBut _ _ (n1 (by omega)) (s2.extBut _ _ (n1 (by omega)) (s1.extBut _ _ (n1 (by omega)) e))))
  refine wpAny_bind (ki hk5 (n1 (by omega)) hv fun g6 k6 s6 => wpAny_pure ?_)
  have q6 : ez g6 (N + 4) x y c := s6.extBut _ _ (n1 (by omega)) q5
  refine wpAny_bind (wpAny_seqItems q6 rfl ?_)
  refine wpAny_bind (dC q6 fun g7 q7 s7 => ?_)
  replace q7 : ez g7 (N + 4) x y v := q7
  refine wpAny_bind (wpAny_letGo (wpAny_pure (wpAny_pure ?_)))
  refine wpAny_bind (wpAny_seqItems q7 rfl ?_)
  refine wpAny_bind (wpAny_newTuple ?_)
  have hsz : g7.objs.size = s.heap.objs.size := by rw [s7.1, s6.1, s5.1, s4.1, s3.1, s2.1, s1.1]
  have z7 : IsZip g7 (N + 5) (N + 3) (N + 4) .ellipsis := s7.extBut _ _ (n1 (by omega)) (s6.extBut _ _ (n1 (by omega)) (s5.extBut _ _ (n1 (by omega)) (s4.extBut _ _ (n1 (by omega)) (s3.extBut _ _ (n1 (by omega)) (s2.extBut _ _ (n1 (by omega)) z1)))))
  have k7 : ∀ (c : Nat) o, c ≠ N + 5 → c ≠ N + 4 → c ≠ N → c ≠ N + 1 → c ≠ N + 2 → s.heap.get? c = some o → g7.get? c = some o := fun c o c1 c2 c3 c4 c5 e => s7.extBut _ _ (n1 c2) (s6.extBut _ _ (n1 c5) (s5.extBut _ _ (n1 c2) (s4.extBut _ _ (n1 c4) (s3.extBut _ _ (n1 c2) (s2.extBut _ _ (n1 c3) (s1.extBut _ _ (n1 c1) e))))))
  have i7 : gt g7 N l (k + 1) xs := i2.keep (fun o e => s7.extBut _ _ (n1 (by omega)) (s6.extBut _ _ (n1 (by omega)) (s5.extBut _ _ (n1 (by omega)) (s4.extBut _ _ (n1 (by omega)) (s3.extBut _ _ (n1 (by omega)) e))))) fun o e => s7.extBut _ _ (n1 (by omega)) (s6.extBut _ _ (n1 (by omega)) (s5.extBut _ _ (n1 (by omega)) (s4.extBut _ _ (n1 (by omega)) (s3.extBut _ _ (n1 (by omega)) e))))
  have j7 : gt g7 (N + 1) m (k + 1) ys := j4.keep (fun o e => s7.extBut _ _ (n1 (by omega)) (s6.extBut _ _ (n1 (by omega)) (s5.extBut _ _ (n1 (by omega)) e))) fun o e => s7.extBut _ _ (n1 (by omega)) (s6.extBut _ _ (n1 (by omega)) (s5.extBut _ _ (n1 (by omega)) e))
  have l7 : gt g7 (N + 2) o (k + 1) zs := k6.keep (fun o e => s7.extBut _ _ (n1 (by omega)) e) fun o e => s7.extBut _ _ (n1 (by omega)) e
  have zlt : N + 5 < g7.objs.size := Heap.lt_size z7
  show wpAny _ _ (Builtin.SmallTypes.ownedTupleHandOut (Value.ref (N + 5)) (Value.ref g7.objs.size) >>= _) _ _ _
  refine wpAny_bind ?_
  unfold Builtin.SmallTypes.ownedTupleHandOut
  have z8 : IsZip (g7.push { cls := .type "tuple", data := .seq #[x, y, v] }) (N + 5) (N + 3) (N + 4) .ellipsis := Heap.get?_push_of_some _ z7
  refine wpAny_bind (wpAny_setField_rec z8 (by simp) fun g9 z9 s9 => ?_)
  replace z9 : IsZip g9 (N + 5) (N + 3) (N + 4) (rawInt g7.objs.size) := z9
  refine wpAny_setField_rec z9 (by simp) fun g10 z10 s10 => ?_
  replace z10 : IsZip g10 (N + 5) (N + 3) (N + 4) (rawInt g7.objs.size) := z10
  have up : ∀ (c : Nat) o, c ≠ N + 5 → g7.get? c = some o → g10.get? c = some o := fun c o c1 e => s10.extBut _ _ (n1 c1) (s9.extBut _ _ (n1 c1) (Heap.get?_push_of_some _ e))
  have t10 : ez g10 g7.objs.size x y v := s10.extBut _ _ (Nat.ne_of_gt zlt) (s9.extBut _ _ (Nat.ne_of_gt zlt) (Heap.get?_push_size _ rfl))
  rw [hsz] at z10 t10
  refine wpAny_pure ⟨_, rfl, ?_⟩
  show Q (.ref g7.objs.size) _
  rw [hsz]
  exact hQ g10 ⟨z10, up _ _ (by omega) (k7 _ _ (by omega) (by omega) (by omega) (by omega) (by omega) hp), ⟨x, y, v, up _ _ (by omega) q7⟩, i7.keep (fun o e => up _ _ (by omega) e) fun o e => up _ _ (by omega) e, j7.keep (fun o e => up _ _ (by omega) e) fun o e => up _ _ (by omega) e,
    l7.keep (fun o e => up _ _ (by omega) e) fun o e => up _ _ (by omega) e⟩ t10 fun c o c1 c2 c3 c4 c5 e => up c o c1 (k7 c o c1 c2 c3 c4 c5 e)
theorem wE {Q : PySem.Fin → Shared → Prop} (hh : A.handled = none) (hl : l < N) (hm : m < N) (ho : o < N) (S : Z3 s.heap N l m o .none k xs ys zs) (hend : xs[k]? = none ∨ ys[k]? = none ∨ zs[k]? = none)
    (hE : ∀ h' e, (∀ (c : Nat) o, c ≠ N + 5 → c ≠ N + 4 → c ≠ N → c ≠ N + 1 → c ≠ N + 2 → s.heap.get? c = some o → h'.get? c = some o) → (∃ o, h'.get? e = some o ∧ o.cls = .type "StopIteration") → E (.ref e) { s with heap := h' }) :
    wpAny (model prog w) A (Builtin.«zip.__next__» ⟨[.ref (N + 5)], []⟩) Q E s := by
  obtain ⟨hz, hp, ⟨a, b, c, hq⟩, hi, hj, hk⟩ := S
  have n1 : ∀ {a b : Nat}, a ≠ b → (show Addr from a) ≠ (show Addr from b) := fun h => h
  show wpAny _ _ (field (Value.ref (N + 5)) 2 >>= _) _ _ _
  refine wpAny_bind (wpAny_field hz rfl (x := Value.bool false) rfl ?_)
  show wpAny _ _ (field (Value.ref (N + 5)) 3 >>= _) _ _ _
  refine wpAny_bind (wpAny_field hz rfl (x := Value.ref (N + 3)) rfl ?_)
  refine wpAny_bind (wpAny_seqItems hp rfl ?_)
  show wpAny _ _ (Builtin.SmallTypes.ownedTupleIsFree (Value.ref (N + 5)) >>= _) _ _ _
  refine wpAny_bind ?_
  unfold Builtin.SmallTypes.ownedTupleIsFree
  refine wpAny_bind (wpAny_field hz rfl (x := Value.none) rfl (wpAny_pure ?_))
  simp only [if_true]
  refine wpAny_bind (wpAny_rule ?_)
  refine wpAny_bind (wpAny_field hz rfl (x := Value.ref (N + 4)) rfl ?_)
  refine wpAny_bind (wpAny_setField_rec hz (by simp) fun g1 z1 s1 => ?_)
  replace z1 : IsZip g1 (N + 5) (N + 3) (N + 4) .ellipsis := z1
  refine wpAny_bind ?_
  simp only [List.zipIdx_cons, List.zipIdx_nil, List.forIn_cons, List.forIn_nil]
  refine wpAny_bind (wpAny_bind (wpAny_onRaise ?_))
  show wpAny _ _ (Builtin.SmallTypes.nextOf (Value.ref N) >>= _) _ _ _
  have hi1 : gt g1 N l k xs := hi.keep (fun o e => s1.extBut _ _ (n1 (by omega)) e) fun o e => s1.extBut _ _ (n1 (by omega)) e
  cases hx : xs[k]? with
  | none =>
    refine wpAny_bind (fO hh hi1 hx fun g2 e s2 he => ?_)
    obtain ⟨oe, hoe, hce⟩ := he
    have z2 : IsZip g2 (N + 5) (N + 3) (N + 4) .ellipsis := s2 _ _ (n1 (by omega)) z1
    have hez : e ≠ (N + 5 : Nat) := fun t => by subst t; rw [z2] at hoe; cases hoe; simp at hce
    exact wpAny_setField_rec z2 (by simp) fun g3 _ s3 => hE g3 e (fun c o c1 _ c3 _ _ t => s3.extBut _ _ (n1 c1) (s2 _ _ (n1 c3) (s1.extBut _ _ (n1 c1) t))) ⟨oe, s3.extBut _ _ hez hoe, hce⟩
  | some x =>
    refine wpAny_bind (ki hi1 (n1 (by omega)) hx fun g2 i2 s2 => wpAny_pure ?_)
    have q2 : ez g2 (N + 4) a b c := s2.extBut _ _ (n1 (by omega)) (s1.extBut _ _ (n1 (by omega)) hq)
    refine wpAny_bind (wpAny_seqItems q2 rfl ?_)
    refine wpAny_bind (dC q2 fun g3 q3 s3 => ?_)
    replace q3 : ez g3 (N + 4) x b c := q3
    refine wpAny_bind (wpAny_letGo (wpAny_pure ?_))
    refine wpAny_bind (wpAny_bind (wpAny_onRaise ?_))
    show wpAny _ _ (Builtin.SmallTypes.nextOf (Value.ref (N + 1)) >>= _) _ _ _
    have hj3 : gt g3 (N + 1) m k ys := hj.keep (fun o e => s3.extBut _ _ (n1 (by omega)) (s2.extBut _ _ (n1 (by omega)) (s1.extBut _ _ (n1 (by omega)) e))) fun o e => s3.extBut _ _ (n1 (by omega)) (s2.extBut _ _ (n1 (by omega)) (s1.extBut _ _ (n1 (by omega)) e))
    have z3 : IsZip g3 (N + 5) (N + 3) (N + 4) .ellipsis := s3.extBut _ _ (n1 (by omega)) (s2.extBut _ _ (n1 (by omega)) z1)
    have k3 : ∀ (c : Nat) o, c ≠ N + 5 → c ≠ N + 4 → c ≠ N → s.heap.get? c = some o → g3.get? c = some o := fun c o c1 c2 c3 t => s3.extBut _ _ (n1 c2) (s2.extBut _ _ (n1 c3) (s1.extBut _ _ (n1 c1) t))
    cases hy : ys[k]? with
    | none =>
      refine wpAny_bind (fO hh hj3 hy fun g4 e s4 he => ?_)
      obtain ⟨oe, hoe, hce⟩ := he
      have z4 : IsZip g4 (N + 5) (N + 3) (N + 4) .ellipsis := s4 _ _ (n1 (by omega)) z3
      have hez : e ≠ (N + 5 : Nat) := fun t => by subst t; rw [z4] at hoe; cases hoe; simp at hce
      exact wpAny_setField_rec z4 (by simp) fun g5 _ s5 => hE g5 e (fun c o c1 c2 c3 c4 _ t => s5.extBut _ _ (n1 c1) (s4 _ _ (n1 c4) (k3 c o c1 c2 c3 t))) ⟨oe, s5.extBut _ _ hez hoe, hce⟩
    | some y =>
      have hv : zs[k]? = none := by
        rcases hend with t | t | t
        · rw [hx] at t; cases t
        · rw [hy] at t; cases t
        · exact t
      refine wpAny_bind (ki hj3 (n1 (by omega)) hy fun g4 j4 s4 => wpAny_pure ?_)
      have q4 : ez g4 (N + 4) x b c := s4.extBut _ _ (n1 (by omega)) q3
      refine wpAny_bind (wpAny_seqItems q4 rfl ?_)
      refine wpAny_bind (dC q4 fun g5 q5 s5 => ?_)
      refine wpAny_bind (wpAny_letGo (wpAny_pure ?_))
      refine wpAny_bind (wpAny_bind (wpAny_onRaise ?_))
      show wpAny _ _ (Builtin.SmallTypes.nextOf (Value.ref (N + 2)) >>= _) _ _ _
      have hk5 : gt g5 (N + 2) o k zs := hk.keep (fun o e => s5.extBut _ _ (n1 (by omega)) (s4.extBut _ _ (n1 (by omega)) (k3 _ o (by omega) (by omega) (by omega) e))) fun o e => s5.extBut _ _ (n1 (by omega)) (s4.extBut _ _ (n1 (by omega)) (k3 _ o (by omega) (by omega) (by omega) e))
      refine wpAny_bind (fO hh hk5 hv fun g6 e s6 he => ?_)
      obtain ⟨oe, hoe, hce⟩ := he
      have z6 : IsZip g6 (N + 5) (N + 3) (N + 4) .ellipsis := s6 _ _ (n1 (by omega)) (s5.extBut _ _ (n1 (by omega)) (s4.extBut _ _ (n1 (by omega)) z3))
      have hez : e ≠ (N + 5 : Nat) := fun t => by subst t; rw [z6] at hoe; cases hoe; simp at hce
      exact wpAny_setField_rec z6 (by simp) fun g7 _ s7 => hE g7 e (fun c o c1 c2 c3 c4 c5 t => s7.extBut _ _ (n1 c1) (s6 _ _ (n1 c5) (s5.extBut _ _ (n1 c2) (s4.extBut _ _ (n1 c4) (k3 c o c1 c2 c3 t))))) ⟨oe, s7.extBut _ _ hez hoe, hce⟩
theorem qN {x y v : Value} {Q : Option Value → Shared → Prop} (hl : l < N) (hm : m < N) (ho : o < N) (S : Z3 s.heap N l m o .none k xs ys zs) (hx : xs[k]? = some x) (hy : ys[k]? = some y) (hv : zs[k]? = some v)
    (hQ : ∀ h', Z3 h' N l m o (rawInt s.heap.objs.size) (k + 1) xs ys zs → ez h' s.heap.objs.size x y v → (∀ (c : Nat) o, c ≠ N + 5 → c ≠ N + 4 → c ≠ N → c ≠ N + 1 → c ≠ N + 2 → s.heap.get? c = some o → h'.get? c = some o) → Q (some (.ref s.heap.objs.size)) { s with heap := h' }) :
    wpAny (model prog w) A (pyNext (.ref (N + 5))) Q E s := by
  have hT : s.TypeIs (.ref (N + 5)) "zip" := ⟨_, S.zz, rfl⟩
  unfold pyNext
  exact wpAny_bind (wpAny_attempt (wpAny_callSpecial?_slot (name := Str.ofString "__next__") hT F.slot_zip_next (wpAny_call_entry F.slot_zip_next hT F.entry_zip_next (uN hl hm ho S hx hy hv fun h' a b c => wpAny_pure (hQ h' a b c)) (F.args_zip_next_1 _))))
theorem rg {Q : Option Value → Shared → Prop} (hh : A.handled = none) (hl : l < N) (hm : m < N) (ho : o < N) (S : Z3 s.heap N l m o .none k xs ys zs) (hend : xs[k]? = none ∨ ys[k]? = none ∨ zs[k]? = none)
    (hQ : ∀ h', (∀ (c : Nat) o, c ≠ N + 5 → c ≠ N + 4 → c ≠ N → c ≠ N + 1 → c ≠ N + 2 → s.heap.get? c = some o → h'.get? c = some o) → Q none { s with heap := h' }) : wpAny (model prog w) A (pyNext (.ref (N + 5))) Q E s := by
  have hT : s.TypeIs (.ref (N + 5)) "zip" := ⟨_, S.zz, rfl⟩
  unfold pyNext
  refine wpAny_bind (wpAny_attempt (wpAny_callSpecial?_slot (name := Str.ofString "__next__") hT F.slot_zip_next (wpAny_call_entry F.slot_zip_next hT F.entry_zip_next (wE hh hl hm ho S hend fun h' e hk he => ?_) (F.args_zip_next_1 _))))
  obtain ⟨o, ho, hc⟩ := he
  exact wpAny_bind (wpAny_isInstance (T := "StopIteration") (b := true) ⟨o, ho, hc⟩ isSubtype_stop (wpAny_pure (hQ _ hk)))
theorem vk (l m o : Addr) (xs ys zs : Array Value) : Meets (Builtin.«zip.__new__» ⟨[.type "zip", .ref l, .ref m, .ref o], []⟩) (fun _ R s => s.heap.IsTuple l xs ∧ s.heap.IsTuple m ys ∧ s.heap.IsTuple o zs ∧
    ∀ h', h'.objs.size = s.heap.objs.size + 6 → Z3 h' s.heap.objs.size l m o .none 0 xs ys zs → (∀ c o, s.heap.get? c = some o → h'.get? c = some o) →
      R (.ok (.ret (.ref (s.heap.objs.size + 5)))) { s with heap := h' }) :=
  .of_wp fun prog w A R s h => by
    obtain ⟨hp, g, d, tk, os⟩ := s; obtain ⟨h1, h2, h3, h⟩ := h
    have hsub := sub_zip
    have l1 : Heap.IsTuple (Shared.heap ⟨hp, g, d, tk, os⟩) l xs := h1
    have l2 : Heap.IsTuple (Shared.heap ⟨hp.push { cls := .type "tuple_iterator", data := .fields #[.ref l, .int 0 0] }, g, d, tk, os⟩) m ys := Heap.IsTuple.push h2 _
    have l3 : Heap.IsTuple (Shared.heap ⟨(hp.push { cls := .type "tuple_iterator", data := .fields #[.ref l, .int 0 0] }).push { cls := .type "tuple_iterator", data := .fields #[.ref m, .int 0 0] }, g, d, tk, os⟩) o zs := Heap.IsTuple.push (Heap.IsTuple.push h3 _) _
    have fin : ∀ (oi oj ok : Obj), gt (hp.push oi) hp.objs.size l 0 xs → gt ((hp.push oi).push oj) (hp.push oi).objs.size m 0 ys → gt (((hp.push oi).push oj).push ok) ((hp.push oi).push oj).objs.size o 0 zs →
        R (.ok (.ret (.ref (((((hp.push oi).push oj).push ok).push { cls := .type "tuple", data := .seq #[.ref hp.objs.size, .ref (hp.push oi).objs.size, .ref ((hp.push oi).push oj).objs.size] }).push { cls := .type "tuple", data := .seq #[.none, .none, .none] }).objs.size)))
          ⟨(((((hp.push oi).push oj).push ok).push { cls := .type "tuple", data := .seq #[.ref hp.objs.size, .ref (hp.push oi).objs.size, .ref ((hp.push oi).push oj).objs.size] }).push { cls := .type "tuple", data := .seq #[.none, .none, .none] }).push { cls := .type "zip", data := .fields #[.none, .bool false, .bool false, .ref (((hp.push oi).push oj).push ok).objs.size, .ref ((((hp.push oi).push oj).push ok).push { cls := .type "tuple", data := .seq #[.ref hp.objs.size, .ref (hp.push oi).objs.size, .ref ((hp.push oi).push oj).objs.size] }).objs.size] }, g, d, tk, os⟩ := fun oi oj ok hi hj hk => by
      have e1 : (hp.push oi).objs.size = hp.objs.size + 1 := Heap.size_push ..
      have e2 : ((hp.push oi).push oj).objs.size = hp.objs.size + 2 := by rw [Heap.size_push, e1]
      rw [e2] at hk ⊢
      rw [e1] at hj ⊢
      generalize hT : ({ cls := .type "tuple", data := .seq #[.ref hp.objs.size, .ref (hp.objs.size + 1), .ref (hp.objs.size + 2)] } : Obj) = T
      have e3 : (((hp.push oi).push oj).push ok).objs.size = hp.objs.size + 3 := by rw [Heap.size_push, e2]
      have e4 : ((((hp.push oi).push oj).push ok).push T).objs.size = hp.objs.size + 4 := by rw [Heap.size_push, e3]
      have e5 : (((((hp.push oi).push oj).push ok).push T).push { cls := .type "tuple", data := .seq #[.none, .none, .none] }).objs.size = hp.objs.size + 5 := by rw [Heap.size_push, e4]
      rw [e5, e4, e3]
      have kk : ∀ (c : Addr) (o' a b c' : Obj), (((hp.push oi).push oj).push ok).get? c = some o' → ((((((hp.push oi).push oj).push ok).push a).push b).push c').get? c = some o' := fun c o' a b c' e => Heap.get?_push_of_some _ (Heap.get?_push_of_some _ (Heap.get?_push_of_some _ e))
      refine h _ (by rw [Heap.size_push, e5]) ⟨?_, ?_, ⟨.none, .none, .none, ?_⟩, ?_, ?_, ?_⟩ fun c o' e => kk _ _ _ _ _ (Heap.get?_push_of_some _ (Heap.get?_push_of_some _ (Heap.get?_push_of_some _ e)))
      · show Heap.get? _ (hp.objs.size + 5) = _
        rw [← e5]
        exact Heap.get?_push_size _ rfl
      · refine Heap.get?_push_of_some _ (Heap.get?_push_of_some _ ?_)
        show Heap.get? _ (hp.objs.size + 3) = _
        rw [← e3, hT]
        exact Heap.get?_push_size _ (by rw [← hT]; rfl)
      · refine Heap.get?_push_of_some _ ?_
        show Heap.get? _ (hp.objs.size + 4) = _
        rw [← e4]
        exact Heap.get?_push_size _ rfl
      · exact hi.keep (fun o' e => kk _ _ _ _ _ (Heap.get?_push_of_some _ (Heap.get?_push_of_some _ e))) fun o' e => kk _ _ _ _ _ (Heap.get?_push_of_some _ (Heap.get?_push_of_some _ e))
      · exact hj.keep (fun o' e => kk _ _ _ _ _ (Heap.get?_push_of_some _ e)) fun o' e => kk _ _ _ _ _ (Heap.get?_push_of_some _ e)
      · exact hk.keep (fun o' e => kk _ _ _ _ _ e) fun o' e => kk _ _ _ _ _ e
    wp_walk using wpAny_pyIter_tuple l1, wpAny_pyIter_tuple l2, wpAny_pyIter_tuple l3
    exact ⟨_, rfl, fin _ _ _ (.inr ⟨⟨_, Heap.get?_push_size _ rfl, rfl, rfl⟩, Heap.IsTuple.push h1 _⟩) (.inr ⟨⟨_, Heap.get?_push_size _ rfl, rfl, rfl⟩, Heap.IsTuple.push l2 _⟩) (.inr ⟨⟨_, Heap.get?_push_size _ rfl, rfl, rfl⟩, Heap.IsTuple.push l3 _⟩)⟩
theorem u6 {Q : Value → Shared → Prop} {l m o : Addr} (h1 : s.heap.IsTuple l xs) (h2 : s.heap.IsTuple m ys) (h3 : s.heap.IsTuple o zs)
    (h : ∀ h', h'.objs.size = s.heap.objs.size + 6 → Z3 h' s.heap.objs.size l m o .none 0 xs ys zs → (∀ c o, s.heap.get? c = some o → h'.get? c = some o) → Q (.ref (s.heap.objs.size + 5)) { s with heap := h' }) : wpAny (model prog w) A (call (.type "zip") [.ref l, .ref m, .ref o]) Q E s := by
  refine callType_new F.called_zip (by decide) (mw _ _ _) (nE _ _ _) (fun obj => jF obj _ _ _) F.entry_zip_new (vk l m o xs ys zs) ⟨h1, h2, h3, fun h' e S k => ?_⟩
  exact ⟨⟨_, S.zz, rfl⟩, h h' e S k⟩
end
section
variable {X : Cx} {pins : List (Addr × Obj)} {σ : St} {H : Hp} {s : Shared} {h' : Heap}
theorem wv {t' : Nat} {fp : List Addr} {u1 u2 u3 : Value} {v1 v2 v3 : V} (I : aC X pins σ H s) (hf : ∀ b ∈ fp, kG X pins H b) (hob : ∀ b ∈ fp, b < s.heap.objs.size) (ht : ez h' s.heap.objs.size u1 u2 u3) (k : ∀ b o, b ∉ fp → s.heap.get? b = some o → h'.get? b = some o)
    (r1 : bi v1 u1) (r2 : bi v2 u2) (r3 : bi v3 u3) : aC X pins σ (ca H s.heap.objs.size (.tup [v1, v2, v3])) { s with heap := h', toks := t' } := by
  have I1 : aC X pins σ (ca H s.heap.objs.size (.tup [v1, v2, v3])) { s with heap := s.heap.push { cls := .type "tuple", data := .seq #[u1, u2, u3] }, toks := s.toks } :=
    I.laid (fun b u e => Heap.get?_push_of_some _ e) (Nat.le_refl _) ⟨by show 3 ≤ sizeLine; decide, [u1, u2, u3], .cons r1 (.cons r2 (.cons r3 .nil)), _, Heap.get?_push_size _ rfl, rfl, _, rfl⟩
  refine eY (fp := fp) (s := { s with heap := s.heap.push { cls := .type "tuple", data := .seq #[u1, u2, u3] }, toks := s.toks }) I1 (fun b o hb e => ?_) fun b hb => ?_
  · by_cases hz : b = s.heap.objs.size
    · subst hz
      have e' : (s.heap.push { cls := .type "tuple", data := .seq #[u1, u2, u3] }).get? s.heap.objs.size = some o := e
      rw [Heap.get?_push_size _ rfl] at e'
      cases e'
      exact ht
    · exact k b o hb (qL hz e)
  · obtain ⟨f0, f1, f2, f3, f4, f5⟩ := hf b hb
    exact ⟨by rw [ao (Nat.ne_of_lt (hob b hb))]; exact f0, f1, f2, f3, f4, f5⟩
end
def zq (K : PySem.W.Frag) (l m o : Addr) : It :=
  ⟨fun i H => ∃ xs ys zs x y z, dF K H l xs ∧ dF K H m ys ∧ dF K H o zs ∧ xs[i]? = some x ∧ ys[i]? = some y ∧ zs[i]? = some z,
   fun i H v H' => ∃ a x y z, H a = none ∧ v = .ref a ∧ H' = ca H a (.tup [x, y, z]) ∧ (∀ xs, dF K H l xs → xs[i]? = some x) ∧ (∀ ys, dF K H m ys → ys[i]? = some y) ∧ ∀ zs, dF K H o zs → zs[i]? = some z,
   fun i H => ∃ xs ys zs, dF K H l xs ∧ dF K H m ys ∧ dF K H o zs ∧ (xs.length ≤ i ∨ ys.length ≤ i ∨ zs.length ≤ i)⟩
structure CH (N l m o : Nat) (k : Nat) (h : Heap) : Prop where
  zz : IsZip h (N + 5) (N + 3) (N + 4) .none
  pp : ez h (N + 3) (.ref N) (.ref (N + 1)) (.ref (N + 2))
  qq : ∃ a b c, ez h (N + 4) a b c
  ii : h.IsTupleIter N l k
  jj : h.IsTupleIter (N + 1) m k
  kk : h.IsTupleIter (N + 2) o k
theorem eL {h : Heap} {i l : Addr} {k : Nat} {xs ys : Array Value} (x : gt h i l k xs) (t : h.IsTuple l ys) : h.IsTupleIter i l k := by
  rcases x with ⟨z, w⟩ | ⟨z, w⟩
  · exact (cI w t).elim
  · exact z
theorem di {h h' : Heap} {i l : Addr} {k : Nat} (x : h.IsTupleIter i l k) (hi : ∀ o, h.get? i = some o → h'.get? i = some o) : h'.IsTupleIter i l k := by
  obtain ⟨o, e, r⟩ := x; exact ⟨o, hi _ e, r⟩
theorem gu {h : Heap} {i l : Addr} {k : Nat} (x : h.IsTupleIter i l k) : ∃ o, h.get? i = some o ∧ ∀ v, o.data ≠ .cell v := by
  obtain ⟨o, e, c, d⟩ := x; exact ⟨o, e, fun v z => by rw [d] at z; cases z⟩
abbrev xo (N : Nat) : List Addr := [N + 5, N + 3, N + 4, N, N + 1, N + 2]
theorem uQ {P : Program} {w : World} {K : PySem.W.Frag} {elts : List Expr} {x1} {pos : Pos} {N l m o : Nat} (hl : l < N) (hm : m < N) (ho : o < N) : p9 P w K (.Tuple elts x1 pos) (zq K l m o) (xo N) (N + 5) (CH N l m o) where
  mem := by simp
  obj := fun k h st a ha => by
    simp only [xo, List.mem_cons, List.not_mem_nil, or_false] at ha
    rcases ha with rfl | rfl | rfl | rfl | rfl | rfl
    · exact ⟨_, st.zz, fun v e => by cases e⟩
    · exact ⟨_, st.pp, fun v e => by cases e⟩
    · obtain ⟨_, _, _, e⟩ := st.qq; exact ⟨_, e, fun v e => by cases e⟩
    · exact gu st.ii
    · exact gu st.jj
    · exact gu st.kk
  keep := fun k h h' st kp => ⟨kp (N + 5) (by simp) _ st.zz, kp (N + 3) (by simp) _ st.pp, let ⟨a, b, c, e⟩ := st.qq; ⟨a, b, c, kp (N + 4) (by simp) _ e⟩, di st.ii fun o e => kp N (by simp) o e, di st.jj fun o e => kp (N + 1) (by simp) o e, di st.kk fun o e => kp (N + 2) (by simp) o e⟩
  item := by
    intro X hP hw hK hc k pins s σ H E I hf st hg
    subst hP hw hK
    obtain ⟨xs, ys, zs, x, y, z, h1, h2, h3, hx, hy, hz⟩ := hg
    obtain ⟨its, rv, t1, _⟩ := I.tuple h1
    obtain ⟨jts, rw', t2, _⟩ := I.tuple h2
    obtain ⟨kts, rz', t3, _⟩ := I.tuple h3
    obtain ⟨u, hu, ru⟩ := rv.get hx
    obtain ⟨v, hv, ry⟩ := rw'.get hy
    obtain ⟨q, hq, rq⟩ := rz'.get hz
    have S : Z3 s.heap N l m o .none k its.toArray jts.toArray kts.toArray := ⟨st.zz, st.pp, st.qq, .inr ⟨st.ii, t1⟩, .inr ⟨st.jj, t2⟩, .inr ⟨st.kk, t3⟩⟩
    refine qN hl hm ho S (x := u) (y := v) (v := q) (by simpa using hu) (by simpa using hv) (by simpa using hq) fun h' S' hp kp => ⟨_, rfl, ?_⟩
    have zlt : N + 5 < s.heap.objs.size := Heap.lt_size st.zz
    refine wpAny_letOwnedTupleGo_zip (s := { s with heap := h' }) S'.zz fun h2' hz2 sb => ?_
    have up : ∀ (a : Nat) o, a ≠ N + 5 → h'.get? a = some o → h2'.get? a = some o := fun a o ha e => sb.extBut a o ha e
    have hob : ∀ a ∈ xo N, a < s.heap.objs.size := fun a ha => by
      have : ∃ j : Nat, a = N + j ∧ j ≤ 5 := by
        simp only [xo, List.mem_cons, List.not_mem_nil, or_false] at ha
        rcases ha with rfl | rfl | rfl | rfl | rfl | rfl
        · exact ⟨5, rfl, by omega⟩
        · exact ⟨3, rfl, by omega⟩
        · exact ⟨4, rfl, by omega⟩
        · exact ⟨0, rfl, by omega⟩
        · exact ⟨1, rfl, by omega⟩
        · exact ⟨2, rfl, by omega⟩
      obtain ⟨j, rfl, hj⟩ := this
      exact Nat.lt_of_le_of_lt (Nat.add_le_add_left hj N) zlt
    have hn : H s.heap.objs.size = none := I.hok.fresh (Nat.le_refl _)
    have kq : ∀ (a : Nat) o, a < N → s.heap.get? a = some o → h'.get? a = some o := fun a o ha e => kp a o (by omega) (by omega) (by omega) (by omega) (by omega) e
    refine ⟨.ref s.heap.objs.size, _, wv (s := s) (t' := s.toks) (fp := xo N) (h' := h2') (u1 := u) (u2 := v) (u3 := q) (v1 := x) (v2 := y) (v3 := z) I hf hob (up _ _ (Nat.ne_of_gt zlt) hp) (fun a o ha e => ?_) ru ry rq, rfl, ⟨_, x, y, z, hn, rfl, rfl, fun zs hz => by rw [I.tuple_inj hz h1]; exact hx, fun zs hz => by rw [I.tuple_inj hz h2]; exact hy, fun zs hz' => by rw [I.tuple_inj hz' h3]; exact hz⟩, ?_, fun a ha => ?_⟩
    · simp only [xo, List.mem_cons, List.not_mem_nil, or_false, not_or] at ha
      exact up a o ha.1 (kp a o ha.1 ha.2.2.1 ha.2.2.2.1 ha.2.2.2.2.1 ha.2.2.2.2.2 e)
    · have i2 : h'.IsTupleIter N l (k + 1) := eL S'.ii (ys := its.toArray) (by obtain ⟨o, e, r⟩ := t1; exact ⟨o, kq _ _ hl e, r⟩)
      have j2 : h'.IsTupleIter (N + 1) m (k + 1) := eL S'.jj (ys := jts.toArray) (by obtain ⟨o, e, r⟩ := t2; exact ⟨o, kq _ _ hm e, r⟩)
      have k2 : h'.IsTupleIter (N + 2) o (k + 1) := eL S'.kk (ys := kts.toArray) (by obtain ⟨o, e, r⟩ := t3; exact ⟨o, kq _ _ ho e, r⟩)
      exact ⟨hz2, up _ _ (by omega) S'.pp, let ⟨a, b, c, e⟩ := S'.qq; ⟨a, b, c, up _ _ (by omega) e⟩, di i2 fun o e => up _ _ (by omega) e, di j2 fun o e => up _ _ (by omega) e, di k2 fun o e => up _ _ (by omega) e⟩
    · rw [ao (Nat.ne_of_lt (hob a ha))]; exact (hf a ha).1
  done := by
    intro X hP hw hK hc k pins s σ H E I hf st hg
    subst hP hw hK
    obtain ⟨xs, ys, zs, h1, h2, h3, hle⟩ := hg
    obtain ⟨its, rv, t1, _⟩ := I.tuple h1
    obtain ⟨jts, rw', t2, _⟩ := I.tuple h2
    obtain ⟨kts, rz', t3, _⟩ := I.tuple h3
    have S : Z3 s.heap N l m o .none k its.toArray jts.toArray kts.toArray := ⟨st.zz, st.pp, st.qq, .inr ⟨st.ii, t1⟩, .inr ⟨st.jj, t2⟩, .inr ⟨st.kk, t3⟩⟩
    have e1 := rv.length
    have e2 := rw'.length
    have e3 := rz'.length
    refine rg (I.ok.hd hc) hl hm ho S ?_ fun h' kp => ⟨rfl, eY (t' := s.toks) (fp := xo N) I (fun a o ha e => ?_) hf⟩
    · rcases hle with z | z | z
      · left; simp; omega
      · right; left; simp; omega
      · right; right; simp; omega
    · simp only [xo, List.mem_cons, List.not_mem_nil, or_false, not_or] at ha
      exact kp a o ha.1 ha.2.2.1 ha.2.2.2.1 ha.2.2.2.2.1 ha.2.2.2.2.2 e
  self := fun _ _ _ _ _ st h => wpAny_pyIter_zip st.zz h
def eX : List PyData → List PyData → List PyData → List PyData
  | x :: xs, y :: ys, z :: zs => .tuple [x, y, z] :: eX xs ys zs
  | _, _, _ => []
theorem nJ : ∀ {xs ys zs : List PyData} {i : Nat} {d : PyData}, (eX xs ys zs)[i]? = some d → ∃ x y z, xs[i]? = some x ∧ ys[i]? = some y ∧ zs[i]? = some z ∧ d = .tuple [x, y, z]
  | x :: xs, y :: ys, z :: zs, 0, d, h => by
    simp only [eX, List.getElem?_cons_zero] at h
    cases h
    exact ⟨x, y, z, rfl, rfl, rfl, rfl⟩
  | x :: xs, y :: ys, z :: zs, i + 1, d, h => by
    simp only [eX, List.getElem?_cons_succ] at h
    obtain ⟨a, b, c, h1, h2, h3, h4⟩ := nJ h
    exact ⟨a, b, c, by simpa using h1, by simpa using h2, by simpa using h3, h4⟩
  | [], _, _, i, d, h => by simp [eX] at h
  | _ :: _, [], _, i, d, h => by simp [eX] at h
  | _ :: _, _ :: _, [], i, d, h => by simp [eX] at h
theorem kE : ∀ (xs ys zs : List PyData), (eX xs ys zs).length = min xs.length (min ys.length zs.length)
  | x :: xs, y :: ys, z :: zs => by simp only [eX, List.length_cons, kE xs ys zs]; omega
  | [], _, _ => by simp [eX]
  | _ :: _, [], _ => by simp [eX]
  | _ :: _, _ :: _, [] => by simp [eX]
def rR (H : Hp) (a : Addr) (ds : List PyData) : Prop := ∃ vs, H a = some (.tup vs) ∧ bg H ds vs
theorem rR.kp {H H' : Hp} {a : Addr} {ds : List PyData} (h : rR H a ds) (k : Kp H H') : rR H' a ds := by
  obtain ⟨vs, e, r⟩ := h; exact ⟨vs, k.1 _ _ e, bg.kp k _ _ r⟩
theorem vj {K : PySem.W.Frag} {l m o : Addr} {xs ys zs : List PyData} : xf (zq K l m o) (fun H => rR H l xs ∧ rR H m ys ∧ rR H o zs) (eX xs ys zs) where
  go := fun i H ⟨⟨vs, e1, r1⟩, ⟨us, e2, r2⟩, ⟨ws, e3, r3⟩⟩ hi => by
    rw [kE] at hi
    obtain ⟨x, hx, _⟩ := r1.get (List.getElem?_eq_getElem (show i < xs.length by omega))
    obtain ⟨y, hy, _⟩ := r2.get (List.getElem?_eq_getElem (show i < ys.length by omega))
    obtain ⟨z, hz, _⟩ := r3.get (List.getElem?_eq_getElem (show i < zs.length by omega))
    exact ⟨vs, us, ws, x, y, z, dF.of e1, dF.of e2, dF.of e3, hx, hy, hz⟩
  yld := fun i H v H' d ⟨⟨vs, e1, r1⟩, ⟨us, e2, r2⟩, ⟨ws, e3, r3⟩⟩ hd h => by
    obtain ⟨a, x, y, z, ha, rfl, rfl, k1, k2, k3⟩ := h
    obtain ⟨dx, dy, dz, g1, g2, g3, rfl⟩ := nJ hd
    obtain ⟨x', hx, px⟩ := r1.get g1
    obtain ⟨y', hy, py⟩ := r2.get g2
    obtain ⟨z', hz, pz⟩ := r3.get g3
    have q1 := k1 vs (dF.of e1)
    have q2 := k2 us (dF.of e2)
    have q3 := k3 ws (dF.of e3)
    rw [hx] at q1; rw [hy] at q2; rw [hz] at q3
    cases q1; cases q2; cases q3
    exact ⟨bR ha _, cK ha (bg.cons px (bg.cons py (bg.cons pz bg.nil)))⟩
  stop := fun i H ⟨⟨vs, e1, r1⟩, ⟨us, e2, r2⟩, ⟨ws, e3, r3⟩⟩ hi => by
    rw [kE] at hi
    have l1 := r1.length
    have l2 := r2.length
    have l3 := r3.length
    exact ⟨vs, us, ws, dF.of e1, dF.of e2, dF.of e3, by omega⟩
theorem Ax {a b c : V} {us : List Value} (r : bf [a, b, c] us) : ∃ u v w, us = [u, v, w] ∧ bi a u ∧ bi b v ∧ bi c w := by
  cases r with
  | cons r1 r =>
    cases r with
    | cons r2 r =>
      cases r with
      | cons r3 r =>
        cases r
        exact ⟨_, _, _, rfl, r1, r2, r3⟩
section
variable {X : Cx} {elts : List Expr} {x1 : Nat} {tp : Pos} {a b c : Expr} {fa fb fc : Fe} {pos p : Pos} {nl : Nat} {G : List Str} {fs : aG → R (List PyData)}
def B7 (K : PySem.W.Frag) (ta : TA) : TI := fun σ H R => ta σ H fun vs H1 => ∃ l m o xs ys zs, vs = [.ref l, .ref m, .ref o] ∧ dF K H1 l xs ∧ dF K H1 m ys ∧ dF K H1 o zs ∧ R (zq K l m o) H1
theorem xG {ta : TA} (hg : Gl X "zip") (hm : X.mg "zip" = none) (ha : PA X [a, b, c] ta) (hs : starEach [a, b, c] X.env = (false, eval a X.env) :: starEach [b, c] X.env) (hs2 : (backTo pos (starEach [b, c] X.env)).any (·.1) = false) :
    PI X (.Tuple elts x1 tp) (.Call (.Name "zip" p) [a, b, c] [] pos) (B7 X.K ta) := by
  intro pins s σ H R I h
  refine Call_ (gS I hg hm boot_zip (PyProof.Rows.callWith_type1 (cO (ha pos pins s σ H _ I h) fun us s1 ⟨vs, H1, I1, r1, q1⟩ => ?_) hs hs2))
  obtain ⟨l, m, o, xs, ys, zs, e, h1, h2, h3, q⟩ := q1
  subst e
  obtain ⟨u, v, w, rfl, ru, rv, rw'⟩ := Ax r1
  cases ru
  cases rv
  cases rw'
  obtain ⟨its, w1, p1, g1⟩ := I1.tuple h1
  obtain ⟨jts, w2, p2, g2⟩ := I1.tuple h2
  obtain ⟨kts, w3, p3, g3⟩ := I1.tuple h3
  have ll : l < s1.heap.objs.size := by obtain ⟨o, e, _⟩ := p1; exact Heap.lt_size e
  have lm : m < s1.heap.objs.size := by obtain ⟨o, e, _⟩ := p2; exact Heap.lt_size e
  have lo : o < s1.heap.objs.size := by obtain ⟨o, e, _⟩ := p3; exact Heap.lt_size e
  refine u6 p1 p2 p3 fun h' hz S kp => wpAny_pyIter_zip S.zz ?_
  have I2 : aC X pins σ H1 { s1 with heap := h' } := I1.kept (t' := s1.toks) kp
  have kt : ∀ {l : Addr} {xs : Array Value}, s1.heap.IsTuple l xs → h'.IsTuple l xs := fun ⟨o, e, r⟩ => ⟨o, kp _ _ e, r⟩
  refine ⟨_, xo s1.heap.objs.size, _, _, H1, rfl, I2, uQ ll lm lo, ⟨S.zz, S.pp, S.qq, eL S.ii (kt p1), eL S.jj (kt p2), eL S.kk (kt p3)⟩, fun a ha => ?_, q⟩
  have hle : s1.heap.objs.size ≤ a := by
    simp only [xo, List.mem_cons, List.not_mem_nil, or_false] at ha
    rcases ha with rfl | rfl | rfl | rfl | rfl | rfl
    · exact Nat.le_add_right _ 5
    · exact Nat.le_add_right _ 3
    · exact Nat.le_add_right _ 4
    · exact Nat.le_refl _
    · exact Nat.le_add_right _ 1
    · exact Nat.le_add_right _ 2
  exact I1.fpOk hle (I1.hok.fresh hle)
def lB : PyData → R (List PyData)
  | .tuple ds => .ok ds
  | _ => .no
def qI (fa fb fc : Fe) : aG → R (List PyData) := fun ρ => fa ρ >>= fun x => fb ρ >>= fun y => fc ρ >>= fun z => lB x >>= fun xs => lB y >>= fun ys => lB z >>= fun zs => .ok (eX xs ys zs)
theorem oa {H : Hp} {d : PyData} {v : V} {ds : List PyData} (h : Rp H d v) (e : lB d = .ok ds) : ∃ a, v = .ref a ∧ rR H a ds := by
  cases d with
  | tuple xs =>
    cases e
    simp only [Rp] at h
    obtain ⟨a, vs, rfl, h, r⟩ := h
    exact ⟨a, rfl, vs, h, r⟩
  | _ => cases e
theorem ph {d : PyData} {c : Str} (e : lB d = .ex c) : False := by cases d <;> cases e
theorem pd (T : Tb X nl G) (j : Nat) (hG : G[j]? = some ("zip" : Str)) (hm : X.mg "zip" = none) (ha : ag X a fa) (hb : ag X b fb) (hc : ag X c fc) (h1 : aq a = true := by rfl) (h2 : aq b = true := by rfl) (h3 : aq c = true := by rfl) :
    nk X (.Tuple elts x1 tp) (.Call (.Name "zip" p) [a, b, c] [] pos) (qI fa fb fc) := by
  have g := T.gl _ (List.mem_of_getElem? hG)
  refine PI.imp (xG g.1 hm (af ha (af hb (af hc ay h3) h2) h1) (a8 h1) (by rw [a8 h2, a8 h3]; rfl)) fun σ H Rk h => ?_
  obtain ⟨ρ, sl, q⟩ := h
  unfold qI at q
  refine ⟨ρ, sl, ?_⟩
  unfold ae aF
  cases e1 : fa ρ with
  | ex c => rw [e1] at q; exact q
  | no => rw [e1] at q; exact q
  | ok x =>
    rw [e1] at q
    simp only [R.ok_bind] at q ⊢
    cases e2 : fb ρ with
    | ex c => rw [e2] at q; exact q
    | no => rw [e2] at q; exact q
    | ok y =>
      rw [e2] at q
      simp only [R.ok_bind] at q ⊢
      cases e3 : fc ρ with
      | ex c => rw [e3] at q; exact q
      | no => rw [e3] at q; exact q
      | ok z =>
        rw [e3] at q
        simp only [R.ok_bind] at q ⊢
        cases g1 : lB x with
        | ex c => exact (ph g1).elim
        | no => rw [g1] at q; exact q.elim
        | ok xs =>
          rw [g1] at q
          simp only [R.ok_bind] at q
          cases g2 : lB y with
          | ex c => exact (ph g2).elim
          | no => rw [g2] at q; exact q.elim
          | ok ys =>
            rw [g2] at q
            simp only [R.ok_bind] at q
            cases g3 : lB z with
            | ex c => exact (ph g3).elim
            | no => rw [g3] at q; exact q.elim
            | ok zs =>
              rw [g3] at q
              simp only [R.ok_bind] at q
              intro vs H1 s1 ra
              simp only [RA] at ra
              obtain ⟨v, r', rfl, p1, v', r'', rfl, p2, v'', r3, rfl, p3, rfl⟩ := ra
              obtain ⟨l, rfl, d1⟩ := oa p1 g1
              obtain ⟨m, rfl, d2⟩ := oa p2 g2
              obtain ⟨o, rfl, d3⟩ := oa p3 g3
              obtain ⟨us, u1, _⟩ := id d1
              obtain ⟨ws, u2, _⟩ := id d2
              obtain ⟨ts, u3, _⟩ := id d3
              exact ⟨l, m, o, us, ws, ts, rfl, dF.of u1, dF.of u2, dF.of u3, q _ H1 s1 ⟨_, vj, fun H2 k _ => ⟨d1.kp k, d2.kp k, d3.kp k⟩⟩⟩
theorem Z.pd (T : Tb X nl G) (j : Nat) (hG : G[j]? = some ("zip" : Str)) (hm : X.mg "zip" = none) (ha : Z.ag X a fa) (hb : Z.ag X b fb) (hc : Z.ag X c fc) (h1 : aq a = true := by rfl) (h2 : aq b = true := by rfl) (h3 : aq c = true := by rfl) : Z.nk X (.Tuple elts x1 tp) (.Call (.Name "zip" p) [a, b, c] [] pos) (qI fa fb fc) :=
  ⟨D2.pd T j hG hm ha.un hb.un hc.un h1 h2 h3⟩
end
def rE (i j k : Nat) : PyData → aG → Option aG
  | .tuple [x, y, z], ρ => some (((ρ.set i (.val x)).set j (.val y)).set k (.val z))
  | _, _ => none
section
variable {X : Cx} {nl : Nat} {G : List Str} {x y z : Str} {kx : Nat} {p1 p2 p3 pos : Pos}
theorem sd (T : Tb X nl G) (i j k : Nat) (hi : (X.N.take nl)[i]? = some x) (hj : (X.N.take nl)[j]? = some y) (hk : (X.N.take nl)[k]? = some z) : oh X (.Tuple [.Name x p1, .Name y p2, .Name z p3] kx pos) (rE i j k) := by
  obtain ⟨i1, i2, i3⟩ := T.nm hi
  obtain ⟨j1, j2, j3⟩ := T.nm hj
  obtain ⟨k1, k2, k3⟩ := T.nm hk
  refine PG.imp (wG T.calm (iC (je T.nd i1 i2 i3) (iC (je T.nd j1 j2 j3) (iC (je T.nd k1 k2 k3) tF)))) fun v σ H Q ⟨ρ, d, sl, p, q⟩ => ?_
  unfold rE at q
  split at q
  · rename_i e
    split at e
    · rename_i ρ0 dx dy dz
      cases e
      simp only [Rp] at p
      obtain ⟨a, vs, rfl, ha, r⟩ := p
      obtain ⟨u, r1, rfl, pu, r⟩ := r.cons_inv
      obtain ⟨w, r2, rfl, pw, r⟩ := r.cons_inv
      obtain ⟨t, r3, rfl, pt, r⟩ := r.cons_inv
      rw [r.nil_inv] at ha
      refine ⟨a, [u, w, t], rfl, dF.of ha, rfl, u, [w, t], rfl, w, [t], rfl, t, [], rfl, rfl, ?_⟩
      refine q _ (Sl.set (c := .val dz) (o := some t) (Sl.set (c := .val dy) (o := some w) (Sl.set (c := .val dx) (o := some u) sl i ⟨u, rfl, pu⟩) j ⟨w, rfl, pw⟩) k ⟨t, rfl, pt⟩) fun n e h => ?_
      obtain ⟨n1, h⟩ := bK (fun e z => by cases z) h
      obtain ⟨n2, h⟩ := bK (fun e z => by cases z) h
      obtain ⟨n3, h⟩ := bK (fun e z => by cases z) h
      exact ⟨h, by rw [List.getElem?_set, if_neg n1, List.getElem?_set, if_neg n2, List.getElem?_set, if_neg n3]⟩
    · cases e
  · exact q.elim
theorem Z.sd (T : Tb X nl G) (i j k : Nat) (hi : (X.N.take nl)[i]? = some x) (hj : (X.N.take nl)[j]? = some y) (hk : (X.N.take nl)[k]? = some z) : Z.oh X (.Tuple [.Name x p1, .Name y p2, .Name z p3] kx pos) (rE i j k) :=
  ⟨D2.sd T i j k hi hj hk⟩
end
section
variable {X : Cx} {nl : Nat} {G : List Str} {x : Str} {e : Expr} {f : Fe} {q1 q2 q3 q4 : Pos}
theorem jh (T : Tb X nl G) (n : Nat) (hN : X.N[n]? = some x) (he : ag X e f) (hst : aq e = true := by rfl) (hline : (q2.endLine == q3.line) = true := by rfl)
    (hs : swapsWith (.Call (.Attribute (.Name x q1) "append" q2) [e] [] q3) none q4.line X.env = pure false := by rfl)
    (hbase : attributeBase (.Name x q1) "append" X.env (eval (.Name x q1) X.env) = eval (.Name x q1) X.env := by rfl) : eR X (.Expr (.Call (.Attribute (.Name x q1) "append" q2) [e] [] q3) q4) (fA n f) := fun Fm => by
  have hm := T.vis x (List.mem_of_getElem? hN)
  have sc : starEach [e] X.env = (false, eval e X.env) :: starEach [] X.env := a8 hst
  refine PS.imp (xS (Bk PySem.F.plainAttrs_list PySem.F.slot_list_append PySem.F.type_list_append n5 (iP hN hm.1 hm.2.1 hm.2.2) (af he ay hst) hbase (by rw [sc]; rfl) hline sc rfl) hs) fun D σ H h => ?_
  obtain ⟨ρ, sl, q⟩ := h
  unfold fA at q
  cases ef : f ρ with
  | ex c => rw [ef] at q; exact q.elim
  | no => rw [ef] at q; exact q.elim
  | ok d =>
    rw [ef] at q
    simp only [lD, R.ok_bind] at q
    cases er : ρ[n]? with
    | none => rw [er] at q; exact q.elim
    | some c =>
      rw [er] at q
      cases c with
      | non => exact q.elim
      | exc p => exact q.elim
      | val d' => exact q.elim
      | own d' =>
        cases d' with
        | list ds =>
          dsimp only at q
          by_cases hz : ds.length < sizeLine
          · rw [if_pos hz] at q
            obtain ⟨o, h2, w', rfl, p2⟩ := sl.sl.at er
            simp only [iw] at p2
            obtain ⟨a', vs, rfl, ha, r⟩ := p2
            refine ⟨.ref a', h2, .inl ⟨rfl, _, mV.of ha⟩, ρ, sl.sl, ?_⟩
            unfold ae aF
            rw [ef]
            intro us H1 s1 ra
            simp only [RA] at ra
            obtain ⟨v, r', rfl, p1, rfl⟩ := ra
            have ha1 := s1 _ _ ha
            refine ⟨a', vs, v, rfl, rfl, ha1, by rw [r.length]; exact hz, q _ _ ((sl.mono s1).change er h2 ha1 (.inl ⟨_, rfl⟩) ?_)⟩
            simp only [iw]
            exact ⟨a', _, rfl, aU, bg.kp (fX ha1 (.inl ⟨_, rfl⟩)) _ _ (bg.append (r.mono s1) (bg.cons p1 bg.nil))⟩
          · rw [if_neg hz] at q; exact q.elim
        | _ => exact q.elim
theorem Z.jh (T : Tb X nl G) (n : Nat) (hN : X.N[n]? = some x) (he : Z.ag X e f) (hst : aq e = true := by rfl) (hline : (q2.endLine == q3.line) = true := by rfl) (hs : swapsWith (.Call (.Attribute (.Name x q1) "append" q2) [e] [] q3) none q4.line X.env = pure false := by rfl) (hbase : attributeBase (.Name x q1) "append" X.env (eval (.Name x q1) X.env) = eval (.Name x q1) X.env := by rfl) : Z.eR X (.Expr (.Call (.Attribute (.Name x q1) "append" q2) [e] [] q3) q4) (fA n f) :=
  ⟨D2.jh T n hN he.un hst hline hs hbase⟩
end
def gy (g : Fs) : Fs := fun ρ => lD (g ρ)
theorem Tb.nox {X : Cx} {nl : Nat} {G : List Str} (T : Tb X nl G) : Tb X.nox nl G := ⟨T.hu, T.calm, T.nd, T.vis, T.loc, T.gl⟩
section
variable {X : Cx} {nl : Nat} {G : List Str} {st : Stmt} {g : Fs} {pos : Pos}
theorem cE (h : eR X.nox st g) : eR X st (gy g) := fun Fm => by
  intro pins s σ H D I ⟨ρ, sl, q⟩
  refine wpAny_mono (h Fm pins s σ H D (I.wish _) ⟨ρ, sl, ?_⟩) (fun _ _ q => q.unwish) fun _ _ z => False.elim z
  unfold gy at q
  cases e : g ρ with
  | ok o =>
    rw [e] at q
    cases o <;> exact q
  | ex c => rw [e] at q; exact q.elim
  | no => rw [e] at q; exact q.elim
theorem Z.cE (h : Z.eR X.nox st g) : Z.eR X st (gy g) :=
  ⟨D2.cE h.un⟩
def cp (t : aG → R Bool) (g : Fs) : Nat → Fs
  | 0, _ => .no
  | n + 1, ρ => t ρ >>= fun b => if b = true then g ρ >>= fun o => (match o with
      | .nx ρ2 => cp t g n ρ2
      | .ct ρ2 => cp t g n ρ2
      | .bk ρ2 => .ok (.nx ρ2)
      | .rt r => .ok (.rt r)) else .ok (.nx ρ)
def mt (n : Nat) (t : aG → R Bool) (g : Fs) : Fs := cp t g n
theorem i4 {c : Expr} {body : List Stmt} {t : aG → R Bool} (n : Nat) (hp : PassesOwn (model X.prog X.w) X.A X.env X.xe) (ht : gg X c t) (hb : gz X body g) : eR X (.While c body [] pos) (mt n t g) := fun Fm => by
  refine PS.imp (vx hp ht (hb Fm)) fun D σ H ⟨ρ, sl, q⟩ => ⟨fun m σ' H' => ∃ ρ', gW Fm H' σ' ρ' ∧ yM X Fm (cp t g m ρ') D, ⟨n, ρ, sl, q⟩, fun m σ1 H1 ⟨ρ1, sl1, q1⟩ => ?_⟩
  cases m with
  | zero => exact q1.elim
  | succ k =>
    have q2 : yR X Fm (fun ρ => t ρ >>= fun b => if b = true then g ρ >>= fun o => (match o with
      | .nx ρ2 => cp t g k ρ2
      | .ct ρ2 => cp t g k ρ2
      | .bk ρ2 => .ok (.nx ρ2)
      | .rt r => .ok (.rt r)) else .ok (.nx ρ)) D σ1 H1 := ⟨ρ1, sl1, q1⟩
    refine (tN (f := t) (k := fun ρ b => if b = true then g ρ >>= fun o => (match o with
      | .nx ρ2 => cp t g k ρ2
      | .ct ρ2 => cp t g k ρ2
      | .bk ρ2 => .ok (.nx ρ2)
      | .rt r => .ok (.rt r)) else .ok (.nx ρ)) q2).post fun b H2 ⟨ρ2, sl2, _, q3⟩ => ?_
    cases b with
    | false => exact q3 σ1 H2 sl2
    | true =>
      have q4 : yM X Fm (g ρ2 >>= fun o => (match o with
      | .nx ρ2 => cp t g k ρ2
      | .ct ρ2 => cp t g k ρ2
      | .bk ρ2 => .ok (.nx ρ2)
      | .rt r => .ok (.rt r))) D := q3
      show if true = true then _ else _
      rw [if_pos rfl]
      refine ⟨fun σ' H' => ∃ ρ', gW Fm H' σ' ρ' ∧ yM X Fm (cp t g k ρ') D, fun σ' H' z => ⟨k, Nat.lt_succ_self k, z⟩, ρ2, sl2, ?_⟩
      cases eg : g ρ2 with
      | ex c => rw [eg] at q4; exact q4
      | no => rw [eg] at q4; exact q4
      | ok o =>
        rw [eg] at q4
        cases o with
        | nx ρ4 => exact fun σ' H' s' => ⟨ρ4, s', q4⟩
        | ct ρ4 => exact fun σ' H' s' => ⟨ρ4, s', q4⟩
        | bk ρ4 => exact q4
        | rt r => exact q4
theorem Z.i4 {c : Expr} {body : List Stmt} {t : aG → R Bool} (n : Nat) (hp : PassesOwn (model X.prog X.w) X.A X.env X.xe) (ht : Z.gg X c t) (hb : Z.gz X body g) : Z.eR X (.While c body [] pos) (mt n t g) :=
  ⟨D2.i4 n hp ht.un hb.un⟩
end
def Xh (X : Cx) (p : Addr) (ob : Obj) : Cx := { X with A := X.A.mark (some (.ref p)), calm := false, xe := fun _ _ => False, pn := (p, ob) :: X.pn }
structure Dd (X : Cx) (nl : Nat) (G : List Str) : Prop where
  hu : X.A.units + 64 < cLine
  nd : X.N.Nodup
  vis : ∀ x ∈ X.N, Ay X.env.scope x ∧ (x == ("__debug__" : Str)) = false ∧ (x == ("__classdict__" : Str)) = false
  loc : ∀ x ∈ X.N.take nl, zc X.env.scope x ∧ (X.fn x = true ∨ X.env.scope.names.lookup x = some .local)
  gl : ∀ x ∈ G, Gl X x ∧ (x == ("__debug__" : Str)) = false ∧ x ≠ ("__name__" : Str)
theorem Tb.h {X : Cx} {nl : Nat} {G : List Str} (T : Tb X nl G) (p : Addr) (ob : Obj) : Dd (Xh X p ob) nl G := ⟨T.hu, T.nd, T.vis, T.loc, T.gl⟩
def CI (X : Cx) (C : Addr) (hs : List ExceptHandler) (F : Addr → aG → R PyData) : Prop :=
  ∀ (pins : List (Addr × Obj)) (σ : St) (Hc H : Hp) (sc s : Shared) (p : Addr) (Fm : Hp) (ρ : aG) (D : qt), aC X pins σ Hc sc → Bz X.prog X.w X.stack Hc sc C H (.ref p) s → gW Fm H σ ρ →
    (match F p ρ with
      | .ok d => ∀ v H', aB Fm H' → Rp H' d v → D.rt v H'
      | _ => False) → wpAny (model X.prog X.w) X.A (handleBy (.ref p) X.env hs) (SP X pins D) X.xe s
abbrev Hs := List (Str × (Addr → aG → R PyData))
inductive uH (X : Cx) (src : List ExceptHandler) : Hs → Prop
  | nil : uH X src []
  | cons {c : Str} {C : Addr} {h : Addr → aG → R PyData} {hs : Hs} (hm : X.mg c = some (.ref C)) (he : CI X C src h) (r : uH X src hs) : uH X src ((c, h) :: hs)
theorem uH.at {X : Cx} {src : List ExceptHandler} {c : Str} {h : Addr → aG → R PyData} : ∀ {hs : Hs}, uH X src hs → hs.lookup c = some h → ∃ C, X.mg c = some (.ref C) ∧ CI X C src h
  | _, .nil, e => by cases e
  | _, .cons (c := c') hm he r, e => by
    rw [List.lookup_cons] at e
    split at e
    · rename_i q
      have : c = c' := by simpa using q
      subst this
      cases e
      exact ⟨_, hm, he⟩
    · exact uH.at r e
section
variable {X : Cx} {a b c : Expr} {fa fb fc : Fe} {pos p2 : Pos} {nl : Nat} {G : List Str} {x : Str} {p : Pos}
theorem sM : ∀ {xs : List V} {vs : List Value}, vs.length = xs.length → (∀ (j : Nat) (v : Value), vs[j]? = some v → ∃ x, xs[j]? = some x ∧ bi x v) → bf xs vs
  | [], [], _, _ => .nil
  | [], _ :: _, e, _ => by cases e
  | _ :: _, [], e, _ => by cases e
  | x :: xs, v :: vs, e, h => by
    obtain ⟨y, e1, r⟩ := h 0 v rfl
    cases e1
    exact .cons r (sM (by simpa using e) fun j u hu => by
      obtain ⟨z, e2, r2⟩ := h (j + 1) u (by simpa using hu)
      exact ⟨z, by simpa using e2, r2⟩)
end
def mS (p : Int → Int → Bool) (n : Int) (ns : List Int) : Int := ns.foldl (fun a b => if p b a = true then b else a) n
theorem jH {p : Int → Int → Bool} {le : Int → Int → Prop} (h1 : ∀ a b, p b a = true → le b a) (h2 : ∀ a b, ¬ p b a = true → le a b) (tr : ∀ a b c, le a b → le b c → le a c) (rf : ∀ a, le a a) : ∀ (ns : List Int) (n : Int), mS p n ns ∈ n :: ns ∧ ∀ a ∈ n :: ns, le (mS p n ns) a
  | [], n => ⟨by simp [mS], fun a ha => by simp at ha; subst ha; exact rf _⟩
  | m :: ns, n => by
    obtain ⟨g1, g2⟩ := jH h1 h2 tr rf ns (if p m n = true then m else n)
    have e : mS p n (m :: ns) = mS p (if p m n = true then m else n) ns := rfl
    rw [e]
    refine ⟨?_, fun a ha => ?_⟩
    · rcases List.mem_cons.mp g1 with z | z
      · rw [z]; split <;> simp
      · exact List.mem_cons_of_mem _ (List.mem_cons_of_mem _ z)
    · have k := g2 _ List.mem_cons_self
      rcases List.mem_cons.mp ha with rfl | ha
      · refine tr _ _ _ k ?_
        split
        · rename_i z; exact h1 _ _ z
        · exact rf _
      · rcases List.mem_cons.mp ha with rfl | ha
        · refine tr _ _ _ k ?_
          split
          · exact rf _
          · rename_i z; exact h2 _ _ z
        · exact g2 a (List.mem_cons_of_mem _ ha)
def vX (n : Int) (ns : List Int) : Int := mS (fun b a => decide (b < a)) n ns
def rS (n : Int) (ns : List Int) : Int := mS (fun b a => decide (a < b)) n ns
theorem uJ (n : Int) (ns : List Int) : vX n ns ∈ n :: ns ∧ ∀ a ∈ n :: ns, vX n ns ≤ a :=
  jH (le := (· ≤ ·)) (fun a b h => by simp at h; omega) (fun a b h => by simp at h; omega) (fun a b c => Int.le_trans) Int.le_refl ns n
theorem nW (n : Int) (ns : List Int) : rS n ns ∈ n :: ns ∧ ∀ a ∈ n :: ns, a ≤ rS n ns :=
  jH (le := fun a b => b ≤ a) (fun a b h => by simp at h; omega) (fun a b h => by simp at h; omega) (fun a b c h1 h2 => Int.le_trans h2 h1) Int.le_refl ns n
section
variable {X : Cx} {a b c : Expr} {fa fb fc : Fe} {pos p2 : Pos} {nl : Nat} {G : List Str} {x : Str} {p : Pos}
theorem jU : ∀ {its : List Value} {ns : List Int}, IntsAre its ns → ∃ ys : List (Int × Tok), its = ys.map (fun p => Value.int p.1 p.2) ∧ ys.map (·.1) = ns
  | _, _, .nil => ⟨[], rfl, rfl⟩
  | _, _, .cons n t h => by
    obtain ⟨ys, e1, e2⟩ := jU h
    exact ⟨(n, t) :: ys, by rw [List.map_cons, e1], by rw [List.map_cons, e2]⟩
theorem AF (hc : X.calm = true) : dq X (.builtin "min") (fun xs H Q => ∃ p n ns, xs = [.ref p] ∧ mV X.K H p ((n :: ns).map V.int) ∧ Q (.int (vX n ns)) H) := by
  intro pins s σ H xs us Q I r h
  obtain ⟨p, n, ns, rfl, hq, q⟩ := h
  obtain ⟨u, rfl, rx⟩ := gJ r
  cases rx
  obtain ⟨its, rv, pl, hz⟩ := I.list hq
  obtain ⟨ys, e1, e2⟩ := jU (jE rv)
  have hl : s.heap.IsList p (intItems ys.toArray) := by
    have : intItems ys.toArray = its.toArray := by rw [e1]; simp [intItems]
    rw [this]; exact pl.isList
  have hlen : ys.length = ns.length + 1 := by have := congrArg List.length e2; simpa using this
  refine min_intList (I.ok.hd hc) hl (by simp; omega) fun v h' tk hv hk => ?_
  obtain ⟨t, rfl⟩ := intItems_at hv
  obtain ⟨g1, g2⟩ := argBest_lt (numAt ys.toArray) (ys.toArray.size - 1)
  generalize argBest (fun i j => decide (numAt ys.toArray i < numAt ys.toArray j)) (ys.toArray.size - 1) = w at g1 g2 hv ⊢
  have el : ys.toArray.toList.map (·.1) = n :: ns := e2
  have m1 : numAt ys.toArray w ∈ n :: ns := by
    rw [numAt_eq, el]
    refine getD_mem ?_
    simp at g1 ⊢
    omega
  obtain ⟨k1, k2⟩ := uJ n ns
  have e3 : numAt ys.toArray w = vX n ns := by
    refine Int.le_antisymm ?_ (k2 _ m1)
    obtain ⟨j, hj, e⟩ := mem_getD k1
    have := g2 j (by simp at hj ⊢; omega)
    rw [numAt_eq ys.toArray j, el, e] at this
    exact this
  rw [e3]
  exact ⟨.int _, H, I.kept hk, ⟨_, rfl⟩, q⟩
theorem ue (hc : X.calm = true) : dq X (.builtin "max") (fun xs H Q => ∃ p n ns, xs = [.ref p] ∧ mV X.K H p ((n :: ns).map V.int) ∧ Q (.int (rS n ns)) H) := by
  intro pins s σ H xs us Q I r h
  obtain ⟨p, n, ns, rfl, hq, q⟩ := h
  obtain ⟨u, rfl, rx⟩ := gJ r
  cases rx
  obtain ⟨its, rv, pl, hz⟩ := I.list hq
  obtain ⟨ys, e1, e2⟩ := jU (jE rv)
  have hl : s.heap.IsList p (intItems ys.toArray) := by
    have : intItems ys.toArray = its.toArray := by rw [e1]; simp [intItems]
    rw [this]; exact pl.isList
  have hlen : ys.length = ns.length + 1 := by have := congrArg List.length e2; simpa using this
  refine max_intList (I.ok.hd hc) hl (by simp; omega) fun v h' tk hv hk => ?_
  obtain ⟨t, rfl⟩ := intItems_at hv
  obtain ⟨g1, g2⟩ := argBest_gt (numAt ys.toArray) (ys.toArray.size - 1)
  generalize argBest (fun i j => decide (numAt ys.toArray i > numAt ys.toArray j)) (ys.toArray.size - 1) = w at g1 g2 hv ⊢
  have el : ys.toArray.toList.map (·.1) = n :: ns := e2
  have m1 : numAt ys.toArray w ∈ n :: ns := by
    rw [numAt_eq, el]
    refine getD_mem ?_
    simp at g1 ⊢
    omega
  obtain ⟨k1, k2⟩ := nW n ns
  have e3 : numAt ys.toArray w = rS n ns := by
    refine Int.le_antisymm (k2 _ m1) ?_
    obtain ⟨j, hj, e⟩ := mem_getD k1
    have := g2 j (by simp at hj ⊢; omega)
    rw [numAt_eq ys.toArray j, el, e] at this
    exact this
  rw [e3]
  exact ⟨.int _, H, I.kept hk, ⟨_, rfl⟩, q⟩
def CO : PyData → R PyData
  | .list ds => match dw ds with
    | some (n :: ns) => .ok (.int (vX n ns))
    | _ => .no
  | _ => .no
def pL : PyData → R PyData
  | .list ds => match dw ds with
    | some (n :: ns) => .ok (.int (rS n ns))
    | _ => .no
  | _ => .no
theorem pH (T : Tb X nl G) (j : Nat) (hG : G[j]? = some ("max" : Str)) (hm : X.mg "max" = none) (ha : bD X a fa) (he : aq a = true := by rfl) : ag X (.Call (.Name "max" p) [a] [] pos) (e1 pL fa) := by
  refine Am T j hG hm iu PyProof.Rows.boot_max (ue T.calm) (fun H x d Q hx q => ?_) ha he
  cases d with
  | list ds =>
    simp only [pL] at q
    split at q
    · rename_i n ns ei
      rw [ic ei] at hx
      obtain ⟨a', vs, rfl, h, r⟩ := eV (K := X.K) hx
      rw [mr r] at h
      exact ⟨a', n, ns, rfl, h, q _ H (aB.refl _) cS⟩
    · exact q.elim
  | _ => exact q.elim
theorem Z.pH (T : Tb X nl G) (j : Nat) (hG : G[j]? = some ("max" : Str)) (hm : X.mg "max" = none) (ha : Z.bD X a fa) (he : aq a = true := by rfl) : Z.ag X (.Call (.Name "max" p) [a] [] pos) (e1 pL fa) :=
  ⟨D2.pH T j hG hm ha.un he⟩
end
section
variable {prog : Program} {w : World} {A : Around} {E : Value → Shared → Prop} {s : Shared}
theorem nq {R : List Value → Shared → Prop} {r : Addr} {a b c : Int} {t u v : Tok} {n : Nat} (hh : A.handled = none) (hr : IsRange s.heap r a b c t u v) (hsmall : Builtin.Range.small a b c = true)
    (hn : Builtin.Range.rangeSize a b c = n) (hlen : n ≤ 2 ^ 24)
    (h : ∀ (h' : Heap) (tk : Nat) (acc : Array Value), (∀ b o, s.heap.get? b = some o → h'.get? b = some o) → ItemsOf (fun i v => ∃ t, v = .int (a + i * c) t) acc n → R acc.toList { s with heap := h', toks := tk }) :
    wpAny (model prog w) A (collect (.ref r)) R E s := by
  unfold collect
  refine wpAny_bind (wpAny_runValue (codeAny_builtin F.entry_proto_collect ?_))
  rw [Around.under_plainId PySem.F.plain_proto_collect _]
  show wpAny _ A.in1 (newList [] >>= fun l => again (.builtin "list.__iadd__" ⟨[l, .ref r], []⟩)) _ _ s
  refine wpAny_bind (wpAny_newObj_type ?_)
  refine wpAny_pure ⟨plainId_quiet PySem.F.plain_list_iadd _, codeAny_builtin F.entry_list_iadd ?_⟩
  rw [Around.under_plainId PySem.F.plain_list_iadd _]
  have hS₁ : (s.heap.push { cls := .type "list", data := .seq ([] : List Value).toArray }).get? s.heap.objs.size = some { cls := .type "list", data := .seq #[] } := Heap.get?_push_size _ rfl
  show wpAny _ A.in1 (Builtin.List.listExtendWith (.ref s.heap.objs.size) (.ref r) (.ref s.heap.objs.size)) _ _ _
  have key := wpAny_extend_range (prog := prog) (w := w) (A := A) (s := { s with heap := s.heap.push { cls := .type "list", data := .seq ([] : List Value).toArray } })
    (R := fun (q : Result) (s' : Shared) => ∃ (h' : Heap) (tk : Nat) (acc' : Array Value) (c' : Nat), q = .ok (.ret (.ref s.heap.objs.size)) ∧ s' = { s with heap := h', toks := tk } ∧
      (∀ b o, s.heap.get? b = some o → h'.get? b = some o) ∧ h'.get? s.heap.objs.size = some { cls := .type "list", dict := none, data := .seq acc' c', slots := #[] } ∧ ItemsOf (fun i v => ∃ t, v = .int (a + i * c) t) acc' n)
    hh (Heap.get?_push_of_some _ hr) hsmall hn hlen s.heap.objs.size (.ref s.heap.objs.size) 0 hS₁
    (fun h' tk acc' c' hk hS' hacc => ⟨h', tk, acc', c', rfl, rfl, fun b o e => hk b o (Nat.ne_of_lt (Heap.lt_size e)) (Heap.get?_push_of_some _ e), hS', hacc⟩)
  refine wpAny_mono key (fun fin s' x => ?_) fun e s' x => ?_
  · cases fin with
    | done f =>
      obtain ⟨h', tk, acc', c', e, rfl, hk, hS', hacc⟩ := x
      cases e
      show wpAny _ A (load s.heap.objs.size >>= _) _ _ _
      refine wpAny_bind (wpAny_load hS' ?_)
      exact wpAny_pure (h h' tk acc' hk hacc)
    | again c' =>
      obtain ⟨hq, hc⟩ := x
      refine ⟨hq, codeAny_mono hc fun q s' ⟨h', tk, acc', c', e, e2, hk, hS', hacc⟩ => ?_⟩
      subst e e2
      show wpAny _ A (load s.heap.objs.size >>= _) _ _ _
      refine wpAny_bind (wpAny_load hS' ?_)
      exact wpAny_pure (h h' tk acc' hk hacc)
  · obtain ⟨h', tk, acc', c', e, _⟩ := x
    cases e
theorem lA (r : Addr) (a b c : Int) (t u v : Tok) (n : Nat) (hsmall : Builtin.Range.small a b c = true) (hn : Builtin.Range.rangeSize a b c = n) (hlen : n ≤ 2 ^ 24) : Meets (Builtin.«tuple.__new__» ⟨[.type "tuple", .ref r], []⟩)
      (fun A R s => A.handled = none ∧ IsRange s.heap r a b c t u v ∧ ∀ (h' : Heap) (tk : Nat) (acc : Array Value), (∀ b o, s.heap.get? b = some o → h'.get? b = some o) → ItemsOf (fun i v => ∃ t, v = .int (a + i * c) t) acc n →
        R (.ok (.ret (.ref h'.objs.size))) { s with heap := h'.push { cls := .type "tuple", data := .seq acc }, toks := tk }) :=
  .of_wp fun prog w A R s h => by
    obtain ⟨hh, hr, h⟩ := h
    have hsub := sub_tuple_self
    have hinit := init_tuple_lookup
    have hmh := madeHere_tuple
    have hT : s.TypeIs (.ref r) "range" := ⟨_, hr, rfl⟩
    have hh1 : A.in1.handled = none := hh
    wp_walk using wpAny_typeOf hT, nq hh1 hr hsmall hn hlen
    intro h' tk acc hk hacc
    show wpAny _ _ (Builtin.Tuple.tupleExact acc.toList.toArray >>= fun v => ret v) _ _ _
    unfold Builtin.Tuple.tupleExact
    refine wpAny_bind (wpAny_newObj_type ?_ (show acc.toList.toArray.size ≤ sizeLine by simp only [Array.toArray_toList]; rw [hacc.1, sizeLine_eq]; omega))
    refine wpAny_pure ⟨_, rfl, ?_⟩
    have e : acc.toList.toArray = acc := by simp
    rw [e]
    exact h h' tk acc hk hacc
theorem kL {Q : Value → Shared → Prop} {r : Addr} {a b c : Int} {t u v : Tok} {n : Nat} (hh : A.handled = none) (hr : IsRange s.heap r a b c t u v) (hsmall : Builtin.Range.small a b c = true) (hn : Builtin.Range.rangeSize a b c = n) (hlen : n ≤ 2 ^ 24)
    (h : ∀ (h' : Heap) (tk : Nat) (acc : Array Value), (∀ b o, s.heap.get? b = some o → h'.get? b = some o) → ItemsOf (fun i v => ∃ t, v = .int (a + i * c) t) acc n → Q (.ref h'.objs.size) { s with heap := h'.push { cls := .type "tuple", data := .seq acc }, toks := tk }) :
    wpAny (model prog w) A (call (.type "tuple") [.ref r]) Q E s := by
  refine callType_new F.called_tuple (by decide) (F.typeCall_tuple_1 _) (F.newCall_tuple_1 _) (fun obj => F.args_object_init_2 obj _) F.entry_tuple_new
    (lA r a b c t u v n hsmall hn hlen) ⟨hh, hr, fun h' tk acc hk hacc => ⟨⟨_, Heap.get?_push_size _ rfl, rfl⟩, h h' tk acc hk hacc⟩⟩
end
section
variable {X : Cx} {a b c : Expr} {fa fb fc : Fe} {pos p2 : Pos} {nl : Nat} {G : List Str} {x : Str} {p : Pos} {fs : aG → R (List PyData)} {pos2 : Pos}
def iE (lo : Int) (n : Nat) : List V := (List.range n).map fun (k : Nat) => .int (lo + k)
theorem uK {H : Hp} (lo : Int) (n : Nat) : bg H (bt lo n) (iE lo n) := by
  have key : ∀ l : List Nat, bg H (l.map fun (k : Nat) => PyData.int (lo + k)) (l.map fun (k : Nat) => V.int (lo + k)) := by
    intro l
    induction l with
    | nil => exact bg.nil
    | cons k l ih => exact bg.cons cS ih
  exact key _
theorem sg {lo : Int} {n : Nat} {acc : Array Value} (h : ItemsOf (fun i v => ∃ t, v = .int (lo + (i : Int) * 1) t) acc n) : bf (iE lo n) acc.toList := by
  refine sM (by rw [Array.length_toList, h.1]; simp [iE]) fun j v hj => ?_
  obtain ⟨t, e⟩ := h.2 j v (by rw [← Array.getElem?_toList]; exact hj)
  have hjn : j < n := by
    have := (List.getElem?_eq_some_iff.mp hj).1
    rw [Array.length_toList, h.1] at this
    exact this
  refine ⟨.int (lo + j), ?_, t, by rw [e]; simp⟩
  unfold iE
  rw [List.getElem?_map, List.getElem?_range hjn]
  rfl
theorem rT (lo : Int) (n : Nat) : (iE lo n).length = n := by simp [iE]
def Cd (mk : List V → HO) (ta : TA) : TE := fun σ H Q => ta σ H fun vs H1 => ∃ j : Int, vs = [.int j] ∧ j ≤ 16777216 ∧ -(2 ^ 62) ≤ j ∧ ∀ l, H1 l = none → Q (.ref l) (ca H1 l (mk (iE 0 j.toNat)))
theorem wj {ta : TA} (T : Tb X nl G) (i : Nat) (hGi : G[i]? = some ("tuple" : Str)) (hmi : X.mg "tuple" = none) (j : Nat) (hG : G[j]? = some ("range" : Str)) (hm : X.mg "range" = none) (ha : PA X [a] ta) (hs : aq a = true := by rfl) :
    PE X (.Call (.Name "tuple" p) [.Call (.Name "range" p2) [a] [] pos2] [] pos) (Cd .tup ta) := by
  intro pins s σ H Q I h
  have g1 := T.gl _ (List.mem_of_getElem? hGi)
  have g2 := T.gl _ (List.mem_of_getElem? hG)
  have sc : starEach [Expr.Call (.Name "range" p2) [a] [] pos2] X.env = (false, eval (Expr.Call (.Name "range" p2) [a] [] pos2) X.env) :: starEach [] X.env := a8 (by rfl)
  refine Call_ (gS I g1.1 hmi PyProof.Rows.boot_tuple (PyProof.Rows.callWith_type1 ?_ sc rfl))
  rw [sc]
  refine Calls.spliced_cons ?_
  refine Call_ (gS I g2.1 hm boot_range (PyProof.Rows.callWith_type1 (cO (ha pos2 pins s σ H _ I h) fun us s1 ⟨vs, H1, I1, r1, q1⟩ => ?_) (a8 hs) rfl))
  obtain ⟨n, e, h1, h2, q⟩ := q1
  subst e
  obtain ⟨u, rfl, t, rfl⟩ := gJ r1
  refine call_range_1 (Calls.spliced_nil ?_)
  have hsz : Builtin.Range.rangeSize 0 n 1 = n.toNat := by rw [rangeSize_one]; split <;> omega
  refine kL (n := n.toNat) (I1.ok.hd T.calm) (IsRange.new ..) (small_one (by omega) (by omega) (by omega) (by omega)) hsz (by omega) fun h' tk acc kp hacc => ?_
  have kp' : ∀ b o, s1.heap.get? b = some o → h'.get? b = some o := fun b o e => kp b o (Heap.get?_push_of_some _ e)
  have hg : s1.heap.get? h'.objs.size = none := by
    cases e : s1.heap.get? h'.objs.size with
    | none => rfl
    | some o => exact absurd (Heap.lt_size (kp' _ _ e)) (Nat.lt_irrefl _)
  have hn := qE I1 hg
  refine ⟨.ref h'.objs.size, _, pJ (s := s1) (t' := tk) (o := .tup (iE 0 n.toNat)) I1 (fun b o e => Heap.get?_push_of_some _ (kp' b o e)) hg hn ⟨by rw [rT, sizeLine_eq]; omega, acc.toList, sg hacc, _, Heap.get?_push_size _ rfl, rfl, _, by simp; rfl⟩, rfl, q _ hn⟩
def AH (mk : List PyData → PyData) : List PyData → R PyData
  | [.int j] => if j ≤ 16777216 ∧ -(2 ^ 62) ≤ j then .ok (mk (bt 0 j.toNat)) else .no
  | _ => .no
def tU (fs : aG → R (List PyData)) : Fe := fun ρ => fs ρ >>= AH .tuple
theorem oP (T : Tb X nl G) (i : Nat) (hGi : G[i]? = some ("tuple" : Str)) (hmi : X.mg "tuple" = none) (j : Nat) (hG : G[j]? = some ("range" : Str)) (hm : X.mg "range" = none) (ha : nr X [a] fs) (hs : aq a = true := by rfl) :
    ag X (.Call (.Name "tuple" p) [.Call (.Name "range" p2) [a] [] pos2] [] pos) (tU fs) :=
  PE.imp (wj T i hGi hmi j hG hm ha hs) fun σ H Q h => (mM (I := Rp) (f := fs) (k := fun _ => AH .tuple) (io (X := X) iu Q) h).post fun vs H1 ⟨_, ds, _, _, p1, q1⟩ => by
    unfold AH at q1
    split at q1
    · rename_i n
      split at q1
      · rename_i hz
        simp only [RA] at p1
        obtain ⟨v, r', rfl, p, rfl⟩ := p1
        have ev : v = .int n := by simpa only [Rp] using p
        subst ev
        exact ⟨n, rfl, hz.1, hz.2, fun l hl => q1 _ _ (bR hl _) (cK hl (uK 0 n.toNat))⟩
      · exact q1.elim
    · exact q1.elim
theorem Z.oP (T : Tb X nl G) (i : Nat) (hGi : G[i]? = some ("tuple" : Str)) (hmi : X.mg "tuple" = none) (j : Nat) (hG : G[j]? = some ("range" : Str)) (hm : X.mg "range" = none) (ha : Z.nr X [a] fs) (hs : aq a = true := by rfl) : Z.ag X (.Call (.Name "tuple" p) [.Call (.Name "range" p2) [a] [] pos2] [] pos) (tU fs) :=
  ⟨D2.oP T i hGi hmi j hG hm ha.un hs⟩
end
section
variable {X : Cx} {a b : Expr} {fa fb : Fe} {pos p2 : Pos}
def CM : PyData → PyData → R PyData
  | .list xs, .int k => if -(2 ^ 63) ≤ k ∧ k < 2 ^ 63 ∧ xs.length * k.toNat ≤ sizeLine then .ok (.list (List.replicate k.toNat xs).flatten) else .no
  | _, _ => .no
end
theorem bg.set {H : Hp} {d : PyData} {v : V} (p : Rp H d v) : ∀ {ds : List PyData} {vs : List V} (j : Nat), bg H ds vs → bg H (ds.set j d) (vs.set j v)
  | [], vs, j, r => by rw [r.nil_inv]; exact bg.nil
  | d' :: ds, vs, j, r => by
    obtain ⟨v', r', rfl, p', t⟩ := r.cons_inv
    cases j with
    | zero => exact bg.cons p t
    | succ j => exact bg.cons p' (bg.set p j t)
def gh (i : Nat) (fk fv : Fe) : Fs := fun ρ => fv ρ >>= fun v => lD (fk ρ) >>= fun k => match ρ[i]?, k with
  | some (.own (.list ds)), .int n => match sK ds.length n with
    | some j => .ok (.nx (ρ.set i (.own (.list (ds.set j v)))))
    | none => .no
  | _, _ => .no
section
variable {X : Cx} {nl : Nat} {G : List Str} {x : Str} {f : Fe} {e : Expr}
theorem jd {k v : Expr} {fk fv : Fe} {q1 q2 q3 : Pos} (T : Tb X nl G) (n : Nat) (hN : X.N[n]? = some x) (hk : ag X.nox k fk) (hv : ag X v fv) (hs : swapsWithSole [.Subscript (.Name x q1) k q2] v q3.line X.env = pure false := by rfl) (hw : swappedStores [.Subscript (.Name x q1) k q2] v X.env = pure none := by rfl)
    (h1 : (assignEach [.Subscript (.Name x q1) k q2] X.env).map (·.2) = [assign (.Subscript (.Name x q1) k q2) X.env] := by rfl)
    (ha : ∀ v, assign (.Subscript (.Name x q1) k q2) X.env v = (do
      let ov ← holding [v] (eval (.Name x q1) X.env)
      let iv ← holding [v, ov] (eval k X.env)
      standAt q2
      holding [v, ov, iv] (setItem ov iv v)
      release [v, ov, iv] []) := by intro _; rfl) :
    eR X (.Assign [.Subscript (.Name x q1) k q2] v q3) (gh n fk fv) := fun Fm => by
  have hm := T.vis x (List.mem_of_getElem? hN)
  have hkX : PE X k (fun σ H Q => ld X.nox km fk σ H Q) := fun pins s σ H Q I h => wpAny_mono (hk pins s σ H Q (I.wish _) h) (fun v s' ⟨y, H', I', r, q⟩ => ⟨y, H', I'.unwish, r, q⟩) fun _ _ z => False.elim z
  refine PS.imp (zZ hv (zB (iP hN hm.1 hm.2.1 hm.2.2) hkX we ha) hs hw h1) fun D σ H h => ?_
  refine (ml (P := km) (f := fv) (k := fun ρ v => lD (fk ρ) >>= fun k => match ρ[n]?, k with
    | some (.own (.list ds)), .int m => match sK ds.length m with
      | some j => .ok (.nx (ρ.set n (.own (.list (ds.set j v)))))
      | none => .no
    | _, _ => .no) h).post fun vv H1 ⟨ρ1, dv, sl1, _, p1, q1⟩ => ?_
  cases ef : fk ρ1 with
  | ex c => rw [ef] at q1; exact q1.elim
  | no => rw [ef] at q1; exact q1.elim
  | ok kd =>
    rw [ef] at q1
    simp only [lD, R.ok_bind] at q1
    cases er : ρ1[n]? with
    | none => rw [er] at q1; exact q1.elim
    | some c =>
      rw [er] at q1
      cases c with
      | non => exact q1.elim
      | exc p => exact q1.elim
      | val d' => exact q1.elim
      | own d' =>
        cases d' with
        | list ds =>
          cases kd with
          | int m =>
            dsimp only at q1
            cases ei : sK ds.length m with
            | none => rw [ei] at q1; exact q1.elim
            | some j =>
              rw [ei] at q1
              obtain ⟨o, h2, w', rfl, p2⟩ := sl1.sl.at er
              simp only [iw] at p2
              obtain ⟨a', vs, rfl, ha', r⟩ := p2
              refine ⟨.ref a', h2, ρ1, sl1.sl, ?_⟩
              rw [ef]
              intro yv H3 s3 p3
              have ev : yv = .int m := by simpa only [Rp] using p3
              have ha3 := s3 _ _ ha'
              have r3 := r.mono s3
              refine ⟨a', vs, m, j, rfl, ev, ha3, by rw [r.length]; exact ei, q1 _ _ ((sl1.mono s3).change er h2 ha3 (.inl ⟨_, rfl⟩) ?_)⟩
              simp only [iw]
              exact ⟨a', _, rfl, aU, bg.kp (fX ha3 (.inl ⟨_, rfl⟩)) _ _ (bg.set (p1.mono s3) j r3)⟩
          | _ => exact q1.elim
        | _ => exact q1.elim
theorem Z.jd {k v : Expr} {fk fv : Fe} {q1 q2 q3 : Pos} (T : Tb X nl G) (n : Nat) (hN : X.N[n]? = some x) (hk : Z.ag X.nox k fk) (hv : Z.ag X v fv) (hs : swapsWithSole [.Subscript (.Name x q1) k q2] v q3.line X.env = pure false := by rfl) (hw : swappedStores [.Subscript (.Name x q1) k q2] v X.env = pure none := by rfl) (h1 : (assignEach [.Subscript (.Name x q1) k q2] X.env).map (·.2) = [assign (.Subscript (.Name x q1) k q2) X.env] := by rfl) (ha : ∀ v, assign (.Subscript (.Name x q1) k q2) X.env v = (do
      let ov ← holding [v] (eval (.Name x q1) X.env)
      let iv ← holding [v, ov] (eval k X.env)
      standAt q2
      holding [v, ov, iv] (setItem ov iv v)
      release [v, ov, iv] []) := by intro _; rfl) : Z.eR X (.Assign [.Subscript (.Name x q1) k q2] v q3) (gh n fk fv) :=
  ⟨D2.jd T n hN hk.un hv.un hs hw h1 ha⟩
def BS (g : Int → Int → Int) : PyData → PyData → R PyData
  | .int i, .int j => .ok (.int (g i j))
  | _, _ => .no
def qS (i : Nat) (g : Int → Int → Int) (f : Fe) : Fs := fun ρ => ab i ρ >>= fun x => f ρ >>= fun y => BS g x y >>= fun z => .ok (.nx (ρ.set i (.val z)))
theorem xC {op : Operator} {g : Int → Int → Int} {pos pos' : Pos} (ho : CF X op (CK g)) (T : Tb X nl G) (i : Nat) (hN : (X.N.take nl)[i]? = some x) (he : ag X e f) : eR X (.AugAssign (.Name x pos') op e pos) (qS i g f) := fun Fm => by
  obtain ⟨n1, n2, n3⟩ := T.nm hN
  refine PS.imp (zC T.nd n1 n2 he ho n3) fun D σ H h => ?_
  obtain ⟨ρ, sl, q⟩ := h
  unfold qS at q
  cases ev : ab i ρ with
  | ex c => exact absurd ev (by unfold ab; split <;> simp)
  | no => rw [ev] at q; exact q.elim
  | ok dx =>
    rw [ev] at q
    simp only [R.ok_bind] at q
    have hc : ρ[i]? = some (.val dx) := by
      unfold ab at ev
      split at ev
      · rename_i d hd; cases ev; exact hd
      · cases ev
    obtain ⟨o, h2, w', rfl, p2⟩ := sl.sl.at hc
    refine ⟨w', h2, ?_⟩
    refine (ml (P := km) (f := f) (k := fun ρ y => BS g dx y >>= fun z => .ok (.nx (ρ.set i (.val z)))) ⟨ρ, sl, q⟩).post fun v H1 ⟨ρ1, d, sl1, s1, p, q1⟩ => ?_
    cases dx with
    | int a =>
      cases d with
      | int b =>
        have e1 : w' = .int a := by simpa only [Rp] using p2
        have e2 : v = .int b := by simpa only [Rp] using p
        subst e1
        subst e2
        exact ⟨a, b, rfl, rfl, q1 _ H1 (sl1.set i (fun e z => by cases z) ⟨.int (g a b), rfl, cS⟩)⟩
      | _ => exact q1.elim
    | _ => exact q1.elim
theorem pb {pos pos' : Pos} (T : Tb X nl G) (i : Nat) (hN : (X.N.take nl)[i]? = some x) (he : ag X e f) : eR X (.AugAssign (.Name x pos') .Add e pos) (qS i (fun a b => a + b) f) := xC zM T i hN he
theorem Z.pb {pos pos' : Pos} (T : Tb X nl G) (i : Nat) (hN : (X.N.take nl)[i]? = some x) (he : Z.ag X e f) : Z.eR X (.AugAssign (.Name x pos') .Add e pos) (qS i (fun a b => a + b) f) :=
  ⟨D2.pb T i hN he.un⟩
end
def ze : aV → aV
  | .own _ => .non
  | c => c
def gR (i : Nat) (d : PyData) (ρ : aG) : aG := (ρ.map ze).set i (.val d)
def nZ : PyData → R PyData
  | .none => .ok .none
  | .bool b => .ok (.bool b)
  | .int k => .ok (.int k)
  | .str x => .ok (.str x)
  | _ => .no
def jv (i : Nat) (f : Fe) : Fe := fun ρ => match ρ[i]? with
  | some (.own d) => lD (f (gR i d ρ)) >>= nZ
  | _ => f ρ
section
variable {X : Cx} {pins : List (Addr × Obj)} {σ : St} {H H1 : Hp} {s s' : Shared} {a : Addr} {u : HO} {o : Obj}
theorem u4 (h : H a = some u) (S : aB (ca H a (.frz o u)) H1) : aB H (ca H1 a u) := fun b x e => by
  by_cases hb : b = a
  · subst hb; rw [aU]; rw [h] at e; exact e
  · rw [ao hb]; exact S b x (by rw [ao hb]; exact e)
theorem wX (I : aC X pins σ H s) (h : H a = some u) (hm : (∃ xs, u = .lst xs) ∨ ∃ ks, u = .dK ks) (S : aB (ca H a (.frz o u)) H1) (J : aC X pins σ H1 s') : aC X pins σ (ca H1 a u) s' := by
  have ha : H1 a = some (.frz o u) := S a _ aU
  have nt : ∀ b xs, H1 b = some (.tup xs) → b ≠ a := fun b xs q z => by subst z; rw [ha] at q; cases q
  have nb : ∀ b ps, H1 b = some (.tbl ps) → b ≠ a := fun b ps q z => by subst z; rw [ha] at q; cases q
  have nw : ∀ b y, H1 b = some (.own y) → b ≠ a := fun b y q z => by subst z; rw [ha] at q; cases q
  have nn : ∀ b, H1 b = none → b ≠ a := fun b q z => by subst z; rw [ha] at q; cases q
  have st : ∀ b x, bF X.prog X.w H1 s'.heap b x → bF X.prog X.w (ca H1 a u) s'.heap b x := fun b x q =>
    q.stay (fun c v _ e => e) (fun c e => by rw [ao (nw _ _ e)]; exact e) fun c xs e => by rw [ao (nt _ _ e)]; exact e
  refine ⟨J.ok, J.os, J.bare, ⟨J.base.keep, J.base.slot, fun b ob' e n hx => ?_, J.base.there, fun b xs e => ?_, fun b ob' v e => ?_, fun b ps e => ?_⟩, J.loc, J.cell, ?_, fun x c e => ?_, fun p hp => ?_, fun b x e => ?_, J.len⟩
  · have := J.base.free b ob' e n hx
    rw [ao (nn _ this)]; exact this
  · have := J.base.tups b xs e
    rw [ao (nt _ _ this)]; exact this
  · have q := I.base.frzs b ob' v e
    have hb : b ≠ a := fun z => by subst z; rw [h] at q; rcases hm with ⟨_, rfl⟩ | ⟨_, rfl⟩ <;> cases q
    rw [ao hb]; exact J.base.frzs b ob' v e
  · obtain ⟨m, q⟩ := J.base.tbls b ps e
    exact ⟨m, by rw [ao (nb _ _ q)]; exact q⟩
  · rw [ao (nn _ J.free)]; exact J.free
  · rw [ao (nn _ (J.freeC x c e))]; exact J.freeC x c e
  · obtain ⟨p1, p2, p3⟩ := J.pin p hp
    exact ⟨p1, by rw [ao (nn _ p2)]; exact p2, p3⟩
  · by_cases hb : b = a
    · subst hb
      rw [aU] at e; cases e
      obtain ⟨_, q⟩ := (show bF X.prog X.w H1 s'.heap b (.frz o u) from J.hok b _ ha)
      exact st b u q
    · rw [ao hb] at e
      exact st b x (J.hok b x e)
theorem sI {ρ : aG} {i : Nat} {d : PyData} {v : V} (sl : Sl H σ ρ) (k : Kp H H1) (hv : σ[i]? = some (some v)) (hr : Rp H1 d v) : Sl H1 σ (gR i d ρ) := by
  unfold gR
  refine ⟨by rw [List.length_set, List.length_map]; exact sl.1, fun j c w' e1 e2 => ?_⟩
  rw [List.getElem?_set] at e1
  by_cases hij : i = j
  · subst hij
    rw [if_pos rfl] at e1
    split at e1
    · cases e1
      rw [hv] at e2
      cases e2
      exact ⟨_, rfl, hr⟩
    · cases e1
  · rw [if_neg hij, List.getElem?_map] at e1
    cases ec : ρ[j]? with
    | none => rw [ec] at e1; cases e1
    | some c' =>
      rw [ec] at e1
      have e1' : ze c' = c := Option.some.inj e1
      subst e1'
      have q := sl.2 j c' w' ec e2
      cases c' with
      | exc p => exact q
      | non => exact True.intro
      | val d' => obtain ⟨v, z1, z2⟩ := q; exact ⟨v, z1, Rp.kp k _ _ z2⟩
      | own d' => exact True.intro
end
theorem xt {H H' : Hp} {d d' : PyData} {v : V} (h : nZ d = .ok d') (r : Rp H d v) : Rp H' d' v := by
  cases d <;> first | (cases h; simp only [Rp] at r ⊢; exact r) | cases h
theorem ag.lent {X : Cx} {e : Expr} {f : Fe} (i : Nat) (h : ag X e f) : ag X e (jv i f) := by
  intro pins s σ H Q I q
  obtain ⟨ρ, sl, q⟩ := q
  by_cases ho : ∃ d, ρ[i]? = some (.own d)
  · obtain ⟨d, ho⟩ := ho
    have el : jv i f ρ = (lD (f (gR i d ρ)) >>= nZ) := by unfold jv; rw [ho]
    rw [el] at q
    have go : ∀ (a : Addr) (u : HO) (hu : H a = some u) (hm : (∃ xs, u = .lst xs) ∨ ∃ ks, u = .dK ks) (o : Obj) (J : aC X pins σ (ca H a (.frz o u)) s) (sl1 : Sl (ca H a (.frz o u)) σ (gR i d ρ)), wpAny (model X.prog X.w) X.A (eval e X.env) (EP X pins σ Q) X.xe s := fun a u hu hm o J sl1 => by
      cases ef : f (gR i d ρ) with
      | no => rw [ef] at q; exact q.elim
      | ex c => rw [ef] at q; exact q.elim
      | ok d1 =>
        rw [ef] at q
        change ve X km (nZ d1) H Q at q
        cases ea : nZ d1 with
        | no => rw [ea] at q; exact q.elim
        | ex c => rw [ea] at q; cases d1 <;> cases ea
        | ok d2 =>
          rw [ea] at q
          refine cO (h pins s σ (ca H a (.frz o u)) (fun v H' => aB (ca H a (.frz o u)) H' ∧ Rp H' d1 v) J ⟨gR i d ρ, sl1, by rw [ef]; exact fun v H' hs p => ⟨hs, p⟩⟩) fun w s' ⟨v, H', J', r, hs, p⟩ => ?_
          exact ⟨v, ca H' a u, wX I hu hm hs J', r, q v _ (u4 hu hs) (xt ea p)⟩
    obtain ⟨w', h2, v, rfl, qo⟩ := sl.at ho
    cases d <;> simp only [iw] at qo
    · rename_i ds
      obtain ⟨a, vs, rfl, ha, r⟩ := qo
      obtain ⟨o, J⟩ := fZ I ha (.inl ⟨_, rfl⟩)
      have kp := fX (o' := .frz o (.lst vs)) ha (.inl ⟨_, rfl⟩)
      have hr : Rp (ca H a (.frz o (.lst vs))) (.list ds) (.ref a) := by
        simp only [Rp]
        exact ⟨a, o, vs, rfl, aU, bg.kp kp _ _ r⟩
      exact go a _ ha (.inl ⟨_, rfl⟩) o J (sI sl kp h2 hr)
    · rename_i ds
      obtain ⟨a, vs, rfl, ha, r⟩ := qo
      obtain ⟨o, J⟩ := fZ I ha (.inr ⟨_, rfl⟩)
      have kp := fX (o' := .frz o (.dK vs)) ha (.inr ⟨_, rfl⟩)
      have hr : Rp (ca H a (.frz o (.dK vs))) (.dict ds) (.ref a) := by
        simp only [Rp]
        exact .inl ⟨a, o, vs, rfl, aU, dB.kp kp _ _ r⟩
      exact go a _ ha (.inr ⟨_, rfl⟩) o J (sI sl kp h2 hr)
  · have el : jv i f ρ = f ρ := by
      unfold jv
      split
      · rename_i d e1; exact (ho ⟨d, e1⟩).elim
      · rfl
    rw [el] at q
    exact h pins s σ H Q I ⟨ρ, sl, q⟩
theorem Z.ag.lent {X : Cx} {e : Expr} {f : Fe} (i : Nat) (h : Z.ag X e f) : Z.ag X e (jv i f) :=
  ⟨D2.ag.lent i h.un⟩
def vO (C : Addr) (names : List Str) (ds : List PyData) : PyData := .dict ((.none, .int C) :: (names.zip ds).map fun p => (.str p.1, p.2))
def si (f : Str) : List (PyData × PyData) → R PyData
  | [] => .no
  | (.str x, d) :: r => if x = f then .ok d else si f r
  | _ :: _ => .no
def jl (C : Addr) (f : Str) : PyData → R PyData
  | .dict ((.none, .int c) :: kvs) => if c = (C : Int) then si f kvs else .no
  | _ => .no
def o0 (C : Addr) (names : List Str) (fs : aG → R (List PyData)) : Fe := fun ρ => fs ρ >>= fun ds => .ok (vO C names ds)
def BE (C : Addr) (names : List Str) : Sp := fun vs H Q _ => ∃ x dx ws, vs = .ref x :: ws ∧ H x = some (.ins C dx []) ∧ ws.length = names.length ∧ ∀ H', H' x = some (.ins C dx (names.zip ws)) → (∀ b, b ≠ x → H' b = H b) → Q .non H'
section
variable {X : Cx} {pins : List (Addr × Obj)} {σ : St} {H : Hp} {s : Shared} {a C dx : Addr} {fs : List (Str × V)}
theorem qH (I : aC X pins σ H s) (h : H a = some (.ins C dx fs)) : ∃ o, aC X pins σ (ca H a (.frz o (.ins C dx fs))) s := by
  have ob := I.hok a _ h
  obtain ⟨o, hg⟩ := pc ob
  have nt : ∀ b xs, H b = some (.tup xs) → b ≠ a := fun b xs q z => by subst z; rw [h] at q; cases q
  have nf : ∀ b o' u', H b = some (.frz o' u') → b ≠ a := fun b o' u' q z => by subst z; rw [h] at q; cases q
  have nb : ∀ b ps, H b = some (.tbl ps) → b ≠ a := fun b ps q z => by subst z; rw [h] at q; cases q
  have nw : ∀ b y, H b = some (.own y) → b ≠ a := fun b y q z => by subst z; rw [h] at q; cases q
  have nn : ∀ b, H b = none → b ≠ a := fun b q z => by subst z; rw [h] at q; cases q
  have st : ∀ b x, bF X.prog X.w H s.heap b x → bF X.prog X.w (ca H a (.frz o (.ins C dx fs))) s.heap b x := fun b x q =>
    q.stay (fun c v _ e => e) (fun c e => by rw [ao (nw _ _ e)]; exact e) fun c xs e => by rw [ao (nt _ _ e)]; exact e
  refine ⟨o, ⟨I.ok, I.os, I.bare, ⟨I.base.keep, I.base.slot, fun b ob' e n hx => ?_, I.base.there, fun b xs e => ?_, fun b ob' v e => ?_, fun b ps e => ?_⟩, I.loc, I.cell, ?_, fun x c e => ?_, fun p hp => ?_, fun b x e => ?_, I.len⟩⟩
  · have := I.base.free b ob' e n hx
    rw [ao (nn _ this)]; exact this
  · have := I.base.tups b xs e
    rw [ao (nt _ _ this)]; exact this
  · have := I.base.frzs b ob' v e
    rw [ao (nf _ _ _ this)]; exact this
  · obtain ⟨m, q⟩ := I.base.tbls b ps e
    exact ⟨m, by rw [ao (nb _ _ q)]; exact q⟩
  · rw [ao (nn _ I.free)]; exact I.free
  · rw [ao (nn _ (I.freeC x c e))]; exact I.freeC x c e
  · obtain ⟨p1, p2, p3⟩ := I.pin p hp
    exact ⟨p1, by rw [ao (nn _ p2)]; exact p2, p3⟩
  · by_cases hb : b = a
    · subst hb
      rw [aU] at e; cases e
      exact ⟨hg, st b _ ob⟩
    · rw [ao hb] at e
      exact st b x (I.hok b x e)
theorem xX {o' : HO} (h : H a = some (.ins C dx fs)) : Kp H (ca H a o') := by
  refine ⟨fun b xs e => ?_, fun b o v e => ?_⟩
  · rw [ao]; exact e
    rintro rfl; rw [h] at e; cases e
  · rw [ao]; exact e
    rintro rfl; rw [h] at e; cases e
end
theorem tJ {H : Hp} : ∀ {names : List Str} {ds : List PyData} {vs : List V}, bg H ds vs → qR H ((names.zip ds).map fun p => (.str p.1, p.2)) (names.zip vs)
  | [], ds, vs, _ => by simp only [List.zip_nil_left, List.map_nil, qR]
  | n :: names, [], vs, r => by
    simp only [bg] at r
    subst r
    simp only [List.zip_nil_right, List.map_nil, qR]
  | n :: names, d :: ds, vs, r => by
    simp only [bg] at r
    obtain ⟨v, t, rfl, p, q⟩ := r
    simp only [List.zip_cons_cons, List.map_cons, qR, yT]
    exact ⟨n, v, _, rfl, ⟨rfl, p⟩, tJ q⟩
theorem sU {H : Hp} {f : Str} {d : PyData} : ∀ {kvs : List (PyData × PyData)} {fs : List (Str × V)}, qR H kvs fs → si f kvs = .ok d → ∃ v, fs.lookup f = some v ∧ Rp H d v
  | [], fs, _, e => by cases e
  | (k, d') :: kvs, fs, r, e => by
    simp only [qR, yT] at r
    obtain ⟨x, v, t, rfl, ⟨rfl, p⟩, q⟩ := r
    simp only [si] at e
    by_cases h : x = f
    · rw [if_pos h] at e
      cases e
      subst h
      exact ⟨v, by rw [List.lookup_cons_self], p⟩
    · rw [if_neg h] at e
      obtain ⟨w, w1, w2⟩ := sU q e
      refine ⟨w, ?_, w2⟩
      rw [List.lookup_cons]
      have : (f == x) = false := by
        cases z : f == x with
        | false => rfl
        | true => exact (h (eq_of_beq z).symm).elim
      rw [this]
      exact w1
theorem tz {f : Str} {c : Str} : ∀ {kvs : List (PyData × PyData)}, si f kvs ≠ .ex c
  | [], e => by cases e
  | (k, d) :: kvs, e => by
    cases k <;> simp only [si] at e <;> try cases e
    split at e
    · cases e
    · exact tz e
section
variable {X : Cx} {e : Expr} {es : List Expr} {fe : Fe} {pos p : Pos} {nl : Nat} {G : List Str} {x : Str}
theorem n9 {k : Nat} {C f : Addr} {fd : FuncData} {ps names : List Str} {fs : aG → R (List PyData)} (M : Mk X.K C f) (F : aX X.prog X.w X.K X.mg X.base (cG X.prog X.w X.mg) k f fd ps (BE C names)) (hr : dJ (k + 1) X.A) (T : Tb X nl G) (j : Nat) (hG : G[j]? = some x) (hm : X.mg x = some (.ref C)) (hb : ig X.K fd ps []) (ha : nr X (e :: es) fs)
    (hfs : ∀ ρ ds, fs ρ = .ok ds → ds.length = names.length) (he : (e :: es).all aq = true := by rfl) : ag X (.Call (.Name x p) (e :: es) [] pos) (o0 C names fs) := by
  rw [List.all_cons, Bool.and_eq_true] at he
  have g := T.gl x (List.mem_of_getElem? hG)
  intro pins s σ H Q I ⟨ρ, sl, q⟩
  unfold o0 at q
  have base := yB (p := p) (pos := pos) M F hr g.1 hm hb .nil sP ha g.2.1 (a8 he.1) (ni he.2)
  cases e1 : fs ρ with
  | ex c => rw [e1] at q; exact cO (base pins s σ H (fun _ _ => False) I ⟨ρ, sl, by rw [e1]; exact q⟩) fun u s' ⟨v, H', I', r, z⟩ => z.elim
  | no => rw [e1] at q; exact q.elim
  | ok ds =>
    rw [e1] at q
    have q' : ve X km (.ok (vO C names ds)) H Q := q
    refine cO (base pins s σ H (fun v H' => ∃ a dx vs, v = .ref a ∧ H a = none ∧ H' a = some (.ins C dx (names.zip vs)) ∧ bg H' ds vs ∧ aB H H') I ⟨ρ, sl, ?_⟩) fun u s' ⟨v, H', I', r, a, dx, vs, ev, hn, ha', rp, sm⟩ => ?_
    · rw [e1]
      intro vs H1 s1 r1 y dy hy hdy hne
      rw [List.append_nil]
      have r2 := mW.mp r1
      refine ⟨y, dy, vs, rfl, aU, by rw [r2.length]; exact hfs ρ ds e1, fun H' h1 h2 => ⟨rfl, y, dy, vs, rfl, s1.free hy, h1, ?_, ?_⟩⟩
      · have sm : aB H1 H' := fun b o eb => by
          rw [h2 b (aR eb hy), ao (aR eb hy), ao (aR eb hdy)]; exact eb
        exact r2.mono sm
      · intro b o eb
        have eb1 := s1 b o eb
        rw [h2 b (aR eb1 hy), ao (aR eb1 hy), ao (aR eb1 hdy)]; exact eb1
    · subst ev
      obtain ⟨o, J⟩ := qH I' ha'
      have kp := xX (o' := .frz o (.ins C dx (names.zip vs))) ha'
      refine ⟨.ref a, _, J, r, q' _ _ (fun b x eb => by rw [ao (aR eb hn)]; exact sm b x eb) ?_⟩
      show Rp _ (vO C names ds) _
      unfold vO
      simp only [Rp]
      refine .inr ⟨a, o, C, dx, _, rfl, aU, ?_⟩
      simp only [vd]
      exact ⟨True.intro, qR.kp kp _ _ (tJ rp)⟩
theorem Z.n9 {k : Nat} {C f : Addr} {fd : FuncData} {ps names : List Str} {fs : aG → R (List PyData)} (M : Mk X.K C f) (F : aX X.prog X.w X.K X.mg X.base (cG X.prog X.w X.mg) k f fd ps (BE C names)) (hr : dJ (k + 1) X.A) (T : Tb X nl G) (j : Nat) (hG : G[j]? = some x) (hm : X.mg x = some (.ref C)) (hb : ig X.K fd ps []) (ha : Z.nr X (e :: es) fs) (hfs : ∀ ρ ds, fs ρ = .ok ds → ds.length = names.length) (he : (e :: es).all aq = true := by rfl) : Z.ag X (.Call (.Name x p) (e :: es) [] pos) (o0 C names fs) :=
  ⟨D2.n9 M F hr T j hG hm hb ha.un hfs he⟩
def BJ (K : PySem.W.Frag) (ta : TE) (f : Str) : TE := fun σ H Q => ta σ H fun x H1 => ∃ a o C dx fs v, x = .ref a ∧ H1 a = some (.frz o (.ins C dx fs)) ∧ uz K C ∧ da K C f ∧ fs.lookup f = some v ∧ Q v H1
theorem yq {f : Str} {ta : TE} (he : PE X e ta) (hb : attributeBase e f X.env (eval e X.env) = eval e X.env) : PE X (.Attribute e f pos) (BJ X.K ta f) := by
  intro pins s σ H Q I h
  refine xL hb (cO (he pins s σ H _ I h) fun u s1 ⟨x, H1, I1, rx, a, o, C, dx, fs, v, ex, ea, c, n, l, q⟩ => ?_)
  subst ex
  obtain rfl : u = Value.ref a := rx
  obtain ⟨_, d, z, ne, ob, mA, nn, r, qq⟩ := (show bF X.prog X.w H1 s1.heap a (.frz o (.ins C dx fs)) from I1.hok a _ ea)
  obtain ⟨u', hu, ru⟩ := kS.some_of (v := v) (o := mA f) (by rw [← l]; exact r f)
  exact yo I1.kIn ⟨ob, nn, ne⟩ (c.get f) c.hd n hu (ug ru) ⟨v, H1, I1.tok _, ru, q⟩
theorem kA {C : Addr} {f : Str} (cl : uz X.K C) (na : da X.K C f) (he : ag X e fe) (hb : attributeBase e f X.env (eval e X.env) = eval e X.env := by rfl) : ag X (.Attribute e f pos) (e1 (jl C f) fe) := by
  refine PE.imp (yq he hb) fun σ H Q h => ?_
  refine (hX (P := km) (f := fe) (k := fun _ x => jl C f x) (io (X := X) iu Q) h).post fun v H1 ⟨_, d1, _, _, p1, q1⟩ => ?_
  unfold jl at q1
  split at q1
  · rename_i c kvs
    split at q1
    · rename_i hc
      cases ef : si f kvs with
      | no => rw [ef] at q1; exact q1.elim
      | ex c => exact (tz ef).elim
      | ok d =>
        rw [ef] at q1
        have p2 : Rp H1 (.dict ((.none, .int c) :: kvs)) v := p1
        simp only [Rp] at p2
        rcases p2 with ⟨a, o, ks, rfl, ha, r⟩ | ⟨a, o, C', dx, fs, rfl, ha, r⟩
        · simp only [dB, xm] at r
          obtain ⟨κ, _, _, _, ⟨r1, _⟩, _⟩ := r
          cases κ <;> cases r1
        · simp only [vd] at r
          obtain ⟨r1, r2⟩ := r
          have hC : c = (C' : Int) := by injection r1 with _ r3; injection r3
          have hCC : C' = C := by
            have : (C' : Int) = (C : Int) := hC.symm.trans hc
            exact Int.ofNat.inj this
          subst hCC
          obtain ⟨w, w1, w2⟩ := sU r2 ef
          exact ⟨a, o, C', dx, fs, w, rfl, ha, cl, na, w1, q1 w H1 (aB.refl _) w2⟩
    · exact q1.elim
  · exact q1.elim
theorem Z.kA {C : Addr} {f : Str} (cl : uz X.K C) (na : da X.K C f) (he : Z.ag X e fe) (hb : attributeBase e f X.env (eval e X.env) = eval e X.env := by rfl) : Z.ag X (.Attribute e f pos) (e1 (jl C f) fe) :=
  ⟨D2.kA cl na he.un hb⟩
end
theorem AR {a b c : Str} {x y z : V} (h1 : ¬ a = b) (h2 : ¬ a = c) (h3 : ¬ b = c) : gK c z (gK b y (gK a x [])) = [(a, x), (b, y), (c, z)] := by
  simp only [gK, if_neg h1, if_neg h2, if_neg h3]
abbrev il := List PyData → R PyData
structure iq (P : Program) (w : World) (K : PySem.W.Frag) (mg : Str → Option Value) (base : Heap) (k : Nat) (x : Str) (ps : List Str) (F : il) (f : Addr) (fd : FuncData) : Prop where
  ok : aX P w K mg base (cG P w mg) k f fd ps (dh F ps.length)
  m : mg x = some (.ref f)
  kp : PySem.W.keepIn K (.ref f) = true
  b : ig K fd ps []
theorem aP {X : Cx} {k : Nat} {f : Addr} {fd : FuncData} {ps : List Str} {F : il} {x : Str} {p pos : Pos} {e : Expr} {es : List Expr} {fs : aG → R (List PyData)} {nl : Nat} {G : List Str} (C : iq X.prog X.w X.K X.mg X.base k x ps F f fd) (hr : dJ k X.A) (T : Tb X nl G) (j : Nat) (hG : G[j]? = some x) (ha : nr X (e :: es) fs) (hlen : (e :: es).length = ps.length) (hfs : ∀ ρ ds, fs ρ = .ok ds → ds.length = ps.length) (he : (e :: es).all aq = true := by rfl) : ag X (.Call (.Name x p) (e :: es) [] pos) (aD F fs) :=
  xO C.ok hr T j hG C.m C.kp C.b ha hlen hfs he
theorem Z.aP {X : Cx} {k : Nat} {f : Addr} {fd : FuncData} {ps : List Str} {F : il} {x : Str} {p pos : Pos} {e : Expr} {es : List Expr} {fs : aG → R (List PyData)} {nl : Nat} {G : List Str} (C : iq X.prog X.w X.K X.mg X.base k x ps F f fd) (hr : dJ k X.A) (T : Tb X nl G) (j : Nat) (hG : G[j]? = some x) (ha : Z.nr X (e :: es) fs) (hlen : (e :: es).length = ps.length) (hfs : ∀ ρ ds, fs ρ = .ok ds → ds.length = ps.length) (he : (e :: es).all aq = true := by rfl) : Z.ag X (.Call (.Name x p) (e :: es) [] pos) (aD F fs) :=
  ⟨D2.aP C hr T j hG ha.un hlen hfs he⟩
structure cz (K : PySem.W.Frag) (x : Str) (st : Stmt) (f : Addr) (fd : FuncData) : Prop where
  ns : PySem.W.nsIn K mainGlobals x = some (some (.ref f))
  fn : ie K x x st f fd
theorem aZ {K : PySem.W.Frag} {x : Str} {st : Stmt} {f : Addr} {oc : Value} {od an : Option Addr} {osl : Array (Option Value)} {kV doc pm cdv ct : Value} (a : PySem.W.nsIn K mainGlobals x = some (some (.ref f))) (l : K.lookup f = some ⟨oc, od, .func (PySem.W.fnOf x x (fH st) (dj st) (ah st) .none kV doc pm an cdv ct), osl⟩) (c : PySem.W.codeIn K cdv x = true) (k : PySem.W.keepIn K (.ref f) = true) :
    cz K x st f (PySem.W.fnOf x x (fH st) (dj st) (ah st) .none kV doc pm an cdv ct) := ⟨a, sv l c k⟩
def BP (i : Nat) (g : Fs) : Fs := fun ρ => match ρ[i]? with
  | some (.own d) => g (ρ.set i (.val d))
  | _ => g ρ
theorem wM {X : Cx} {st : Stmt} {g : Fs} (i : Nat) (h : eR X st g) : eR X st (BP i g) := fun Fm => by
  intro pins s σ H D I ⟨ρ, sl, q⟩
  unfold BP at q
  split at q
  · rename_i d e
    obtain ⟨H2, v, I2, sl2, _, _⟩ := vJ I sl e
    exact h Fm pins s σ H2 D I2 ⟨_, sl2, q⟩
  · exact h Fm pins s σ H D I ⟨ρ, sl, q⟩
theorem Z.wM {X : Cx} {st : Stmt} {g : Fs} (i : Nat) (h : Z.eR X st g) : Z.eR X st (BP i g) :=
  ⟨D2.wM i h.un⟩
theorem Z.pI {P : Program} {w : World} {K : PySem.W.Frag} {mg : Str → Option Value} {base : Heap} {x qual : Str} {st : Stmt} {f : Addr} {fd : FuncData} {N ps : List Str} {k : Nat} {g : Fs} (F : ie K x qual st f fd) (S : aT N ps (ah st))
    (body : ∀ (cdv : Value) (A : Around) (outer : List Env) (s : Shared) (H : Hp) (E : XK), dJ k (A.deeper (envOfC qual (ah st) s.heap.objs.size f cdv)) →
      Z.gz (eU (cG P w mg) P w K mg base N qual (ah st) f cdv A outer s H E) (dj st) g) : aX P w K mg base (cG P w mg) (k + 1) f fd ps (dh (dD N.length g) ps.length) :=
  D2.pI F S fun cdv A outer s H E hr => (body cdv A outer s H E hr).un
theorem Z.fn_dataT {P : Program} {w : World} {K : PySem.W.Frag} {mg : Str → Option Value} {base : Heap} {x qual : Str} {st : Stmt} {f : Addr} {fd : FuncData} {N ps : List Str} {k : Nat} {g : Fs} {G : List Str} (F : ie K x qual st f fd) (S : aT N ps (ah st)) (ck : sG (ah st) N G)
    (body : ∀ (cdv : Value) (A : Around) (outer : List Env) (s : Shared) (H : Hp) (E : XK), dJ k (A.deeper (envOfC qual (ah st) s.heap.objs.size f cdv)) → Tb (eU (cG P w mg) P w K mg base N qual (ah st) f cdv A outer s H E) N.length G →
      Z.gz (eU (cG P w mg) P w K mg base N qual (ah st) f cdv A outer s H E) (dj st) g) : aX P w K mg base (cG P w mg) (k + 1) f fd ps (dh (dD N.length g) ps.length) :=
  Z.pI F S fun cdv A outer s H E hr => body cdv A outer s H E hr (zJ hr ck)
def uM {P : Program} {w : World} {K : PySem.W.Frag} {mg : Str → Option Value} {base : Heap} {f : Addr} {fd : FuncData} {ps : List Str} {n k : Nat} : aX P w K mg base (cG P w mg) k f fd ps (dh (fun _ => .no) n) :=
  have no : ∀ vs H Q E, ¬ dh (fun _ => .no) n vs H Q E := fun vs H Q E ⟨ds, _, _, z⟩ => z
  ⟨fun vs H Q E h => absurd h (no vs H Q E), fun A outer s H args us vs Q E _ _ _ _ h => absurd h (no vs H Q E)⟩
def lI (K : PySem.W.Frag) : Bool := K.all fun p => match p.2.cls with
  | .type n => !(n == "list")
  | _ => true
theorem mJ {α β : Type} [BEq α] {a : α} {o : β} : ∀ {K : List (α × β)}, K.lookup a = some o → ∃ p ∈ K, p.2 = o
  | [], e => by cases e
  | (b, x) :: r, e => by
    rw [List.lookup_cons] at e
    split at e
    · cases e; exact ⟨_, List.mem_cons_self, rfl⟩
    · obtain ⟨p, h1, h2⟩ := mJ e
      exact ⟨p, List.mem_cons_of_mem _ h1, h2⟩
theorem su {K : PySem.W.Frag} (h : lI K = true) {a : Addr} {o : Obj} (e : K.lookup a = some o) (c : o.cls = .type "list") : False := by
  obtain ⟨p, m, rfl⟩ := mJ e
  have q := List.all_eq_true.mp h _ m
  simp only [c] at q
  simp at q
def vC (F : List PyData → R PyData) : Prop := ∀ ns : List Int, ns.length ≤ 63 → F [.list (ns.map .int)] = .ok (.bool true)
theorem Cf {l : PySem.W.OpenLaw} {q : Program} {loose : List Str} {XP : (Str → Option Value) → Heap → Prop} {YP : World → Heap → Prop} {d : DefRec} {K : Params → PySem.W.Frag} {k : Nat} {x : Str} {F : List PyData → R PyData} (hn : l.most = some 63) (hdf : d.params.defaults = [])
    (hr : dJ k callerA) (hY : ∀ (w : World) (h : Heap), YP w h → (K w.params).In h) (hF : vC F)
    (G : ∀ (w : World) (mg : Str → Option Value) (fa : Addr) (h : Heap), (K w.params).In h → h.Ns mainGlobals mg → mg d.name = some (.ref fa) →
      lI (K w.params) = true ∧ ∃ fd : FuncData, (∀ (s : Shared) (u : Value), BindsTo s fd ⟨[u], []⟩ [(x, u)]) ∧ ∀ base : Heap, (K w.params).In base → base.Ns mainGlobals mg → aX l.prog w (K w.params) mg base (cG l.prog w mg) k fa fd [x] (dh F 1)) :
    PySem.W.WalkO q loose XP YP l.row.toRowW d [] (fun f vs => PySem.call f vs) := by
  refine Att.attach_call hn hdf fun w s₀ s₁ mg mb fa o pm cd doc a vs ns G0 Y ho hd hcd hmg hobj hints hlen hg => ?_
  have KX := hY w _ Y
  obtain ⟨nl, fd, hb, hG⟩ := G w mg fa _ KX G0.T.g hmg
  refine L2.v7 (sp := dh F 1) KX G0.T.g G0.T.b G0.T.builtins G0.T.nolimit hg hobj hints (Nat.le_trans hlen (by decide)) hr hG hb (fun H hO hS => ?_) fun H e s' ⟨_, _, _, _, _, z⟩ => z
  refine ⟨[.list (ns.map .int)], bg.cons ?_ bg.nil, rfl, ?_⟩
  · rcases hS with (h | ⟨o, h⟩) | ⟨o, its, n, h, c, _⟩
    · rcases hO a with z | ⟨o, xs, z⟩
      · rw [z] at h; cases h
      · rw [z] at h; cases h
    · simp only [Rp]
      exact ⟨a, o, _, rfl, h, bg.ints ns⟩
    · exact (su nl h c).elim
  · rw [hF ns hlen]
    intro v H' _ r
    simpa only [Rp] using r
@[simp] theorem cm {α : Type} (a : α) : lD (R.ok a) = .ok a := (rfl)
def zQ : vf → R PyData
  | .rt d => .ok d
  | .nx _ => .ok .none
  | _ => .no
theorem fT (n : Nat) (g : Fs) (ds : List PyData) : dD n g ds = (g (ds.map aV.val ++ List.replicate (n - ds.length) .non) >>= zQ) := by
  unfold dD
  congr 1
@[simp] theorem BZ (d : PyData) : zQ (.rt d) = .ok d := (rfl)
section
variable (f g h : Fe) (ρ : aG) (i j : Nat) (t u : aG → R Bool) (a b : Fs) (fs : aG → R (List PyData)) (F : List PyData → R PyData) (d e : PyData)
@[simp] theorem bz : eC d ρ = .ok d := (rfl)
@[simp] theorem aj : ab 0 (.val d :: ρ) = .ok d := (rfl)
@[simp] theorem ai (c : aV) : ab (i + 1) (c :: ρ) = ab i ρ := (rfl)
@[simp] theorem oU : eS 0 (.own d :: ρ) = .ok d := (rfl)
@[simp] theorem oS (c : aV) : eS (i + 1) (c :: ρ) = eS i ρ := (rfl)
@[simp] theorem cA (k : PyData → R PyData) : e1 k f ρ = (f ρ >>= fun x => k x) := (rfl)
@[simp] theorem bc (k : PyData → PyData → R PyData) : e2 k f g ρ = (f ρ >>= fun x => g ρ >>= fun y => k x y) := (rfl)
@[simp] theorem bZ : tE f ρ = (f ρ >>= BY) := (rfl)
@[simp] theorem ci (k : Bool) : BY (.bool k) = .ok k := (rfl)
@[simp] theorem nh : fW t u ρ = (t ρ >>= fun k => if k = true then u ρ else .ok false) := (rfl)
@[simp] theorem jX : iO t u ρ = (t ρ >>= fun k => if k = true then .ok true else u ρ) := (rfl)
@[simp] theorem gM : fV t ρ = (t ρ >>= fun k => .ok (!k)) := (rfl)
@[simp] theorem qV : yn t f g ρ = (t ρ >>= fun k => if k = true then f ρ else g ρ) := (rfl)
@[simp] theorem aM : aF ρ = .ok [] := (rfl)
@[simp] theorem aH : ae f fs ρ = (f ρ >>= fun d => fs ρ >>= fun ds => .ok (d :: ds)) := (rfl)
@[simp] theorem aY : aD F fs ρ = (fs ρ >>= F) := (rfl)
@[simp] theorem o5 : qJ fs ρ = (fs ρ >>= fun ds => if ds.length ≤ sizeLine then .ok (.tuple ds) else .no) := (rfl)
@[simp] theorem lJ : jo fs ρ = (fs ρ >>= fun ds => if ds.length ≤ sizeLine then .ok (.list ds) else .no) := (rfl)
@[simp] theorem vQ : p6 ρ = .ok none := (rfl)
@[simp] theorem wK : qe f ρ = (f ρ >>= fun d => BV d >>= fun i => .ok (some i)) := (rfl)
@[simp] theorem AK (k : Int) : BV (.int k) = .ok k := (rfl)
@[simp] theorem zn (lo hi : Fo) : Bg f lo hi ρ = (f ρ >>= fun d => lo ρ >>= fun l => hi ρ >>= fun u => AG d l u) := (rfl)
@[simp] theorem qC : bT ρ = .ok (.nx ρ) := (rfl)
@[simp] theorem tX : aL a b ρ = (a ρ >>= tD b) := (rfl)
@[simp] theorem AW : tD b (.nx ρ) = b ρ := (rfl)
@[simp] theorem Bf : tD b (.rt d) = .ok (.rt d) := (rfl)
@[simp] theorem cU : iK t a b ρ = (t ρ >>= fun k => if k = true then a ρ else b ρ) := (rfl)
@[simp] theorem cC : bL f ρ = (f ρ >>= fun d => .ok (.rt d)) := (rfl)
@[simp] theorem bh : bG i f ρ = (f ρ >>= fun d => .ok (.nx (ρ.set i (.val d)))) := (rfl)
@[simp] theorem kg : gO i f ρ = (f ρ >>= fun d => .ok (.nx (ρ.set i (.own d)))) := (rfl)
@[simp] theorem bI : cY f ρ = (f ρ >>= hR) := (rfl)
@[simp] theorem nO : h7 fs ρ = (fs ρ >>= oO) := (rfl)
@[simp] theorem dL (ds : List PyData) : hR (.tuple ds) = .ok ds := (rfl)
@[simp] theorem iD (ds : List PyData) : hR (.list ds) = .ok ds := (rfl)
@[simp] theorem dH : gy a ρ = lD (a ρ) := (rfl)
theorem em (it : aG → R (List PyData)) (bb : PyData → aG → Option aG) : ir it bb a ρ = (it ρ >>= fun ds => dO bb a ds ρ) := rfl
@[simp] theorem dE (bb : PyData → aG → Option aG) : dO bb a [] ρ = .ok (.nx ρ) := by unfold dO; rfl
def mB (k : aG → R vf) : vf → R vf
  | .nx ρ => k ρ
  | .ct ρ => k ρ
  | .bk ρ => .ok (.nx ρ)
  | .rt r => .ok (.rt r)
@[simp] theorem cP (k : aG → R vf) : mB k (.nx ρ) = k ρ := (rfl)
@[simp] theorem Bm (k : aG → R vf) : mB k (.rt d) = .ok (.rt d) := (rfl)
theorem dm (i : Nat) (ds : List PyData) : dO (aI i) a (d :: ds) ρ = (a (ρ.set i (.val d)) >>= mB (dO (aI i) a ds)) := by
  rw [dO]
  show (a (ρ.set i (.val d)) >>= _) = _
  congr 1
theorem u9 (i j : Nat) (x y : PyData) (ds : List PyData) : dO (dQ i j) a (.tuple [x, y] :: ds) ρ = (a ((ρ.set i (.val x)).set j (.val y)) >>= mB (dO (dQ i j) a ds)) := by
  rw [dO]
  show (a ((ρ.set i (.val x)).set j (.val y)) >>= _) = _
  congr 1
theorem aE {a b : Fs} {ρ ρ' : aG} (h : a ρ = .ok (.nx ρ')) : aL a b ρ = b ρ' := by rw [tX, h]; rfl
theorem pF {a b : Fs} {ρ : aG} {d : PyData} (h : a ρ = .ok (.rt d)) : aL a b ρ = .ok (.rt d) := by rw [tX, h]; rfl
theorem dP {n : Nat} {g : Fs} {ds : List PyData} {d : PyData} (h : g (ds.map aV.val ++ List.replicate (n - ds.length) .non) = .ok (.rt d)) : dD n g ds = .ok d := by rw [fT, h]; rfl
theorem dg (bb : PyData → aG → Option aG) : bJ bb t f ρ [] = .ok [] := by unfold bJ; rfl
theorem eJ (i : Nat) (ds : List PyData) : bJ (aI i) t f ρ (d :: ds) = (t (ρ.set i (.val d)) >>= fun k => if k = true then f (ρ.set i (.val d)) >>= fun x => bJ (aI i) t f ρ ds >>= fun xs => .ok (x :: xs) else bJ (aI i) t f ρ ds) := by
  rw [bJ]; rfl
theorem jT (i j : Nat) (x y : PyData) (ds : List PyData) : bJ (dQ i j) t f ρ (.tuple [x, y] :: ds) = (t ((ρ.set i (.val x)).set j (.val y)) >>= fun k => if k = true then f ((ρ.set i (.val x)).set j (.val y)) >>= fun x => bJ (dQ i j) t f ρ ds >>= fun xs => .ok (x :: xs) else bJ (dQ i j) t f ρ ds) := by
  rw [bJ]; rfl
theorem vi (i j k : Nat) (x y z : PyData) (ds : List PyData) : dO (rE i j k) a (.tuple [x, y, z] :: ds) ρ = (a (((ρ.set i (.val x)).set j (.val y)).set k (.val z)) >>= mB (dO (rE i j k) a ds)) := by
  rw [dO]
  show (a (((ρ.set i (.val x)).set j (.val y)).set k (.val z)) >>= _) = _
  congr 1
@[simp] theorem wC : qI f g h ρ = (f ρ >>= fun x => g ρ >>= fun y => h ρ >>= fun z => lB x >>= fun xs => lB y >>= fun ys => lB z >>= fun zs => .ok (eX xs ys zs)) := (rfl)
@[simp] theorem AC (ds : List PyData) : lB (.tuple ds) = .ok ds := (rfl)
@[simp] theorem wz : tU fs ρ = (fs ρ >>= AH .tuple) := (rfl)
theorem Bb {mk : List PyData → PyData} {n : Int} (h0 : 0 ≤ n) (h1 : n ≤ 1000000) : AH mk [.int n] = .ok (mk (bt 0 n.toNat)) := by
  show (if n ≤ 16777216 ∧ -(2 ^ 62) ≤ n then R.ok (mk (bt 0 n.toNat)) else .no) = _
  rw [if_pos (by omega)]
@[simp] theorem yg (op : Int → Int → Int) : qS i op f ρ = (ab i ρ >>= fun x => f ρ >>= fun y => BS op x y >>= fun z => .ok (.nx (ρ.set i (.val z)))) := (rfl)
@[simp] theorem Bi (op : Int → Int → Int) (m n : Int) : BS op (.int m) (.int n) = .ok (.int (op m n)) := (rfl)
theorem lL {ρ : aG} {i : Nat} {ds : List PyData} {fk fv : Fe} {n : Int} {v : PyData} (h : ρ[i]? = some (.own (.list ds))) (hk : fk ρ = .ok (.int n)) (hv : fv ρ = .ok v) (h0 : 0 ≤ n) (h1 : n < ds.length) : gh i fk fv ρ = .ok (.nx (ρ.set i (.own (.list (ds.set n.toNat v))))) := by
  unfold gh
  rw [hv, hk, h]
  simp only [lD, R.ok_bind]
  have : L2.sK ds.length n = some n.toNat := by unfold L2.sK; rw [if_pos h0, if_pos h1]
  rw [this]
@[simp] theorem xy : uD f g ρ = (f ρ >>= fun x => g ρ >>= fun y => hR x >>= fun xs => hR y >>= fun ys => .ok (iT xs ys)) := (rfl)
@[simp] theorem lS : lT f ρ = (f ρ >>= fun x => hR x >>= fun xs => .ok (cX 0 xs)) := (rfl)
theorem nX {ρ : aG} {i : Nat} {ds : List PyData} (f : Fe) (h : ρ[i]? = some (.own (.list ds))) (hz : ds.length < sizeLine) : fA i f ρ = (lD (f ρ) >>= fun d => .ok (.nx (ρ.set i (.own (.list (ds ++ [d])))))) := by
  unfold fA
  congr 1
  funext d
  rw [h]
  exact if_pos hz
def AY : R (List PyData) → R PyData
  | .ok xs => .ok (.list xs)
  | _ => .no
@[simp] theorem tK (xs : List PyData) : AY (.ok xs) = .ok (.list xs) := (rfl)
theorem bp (it : aG → R (List PyData)) (own : Nat) (fr : List Nat) (bb : PyData → aG → Option aG) : bC it own fr bb t f ρ = (lD (it ρ) >>= fun ds => if ds.length ≤ sizeLine then AY (bJ bb t f (aw own fr ρ) ds) else .no) := by
  unfold bC
  congr 1
theorem gH (i : Nat) (G : PyData → PyData) : ∀ (ds : List PyData), (∀ d ∈ ds, f (ρ.set i (.val d)) = .ok (G d)) → bJ (aI i) (fun _ => .ok true) f ρ ds = .ok (ds.map G)
  | [], _ => dg ..
  | d :: ds, hh => by
    rw [eJ, hh d List.mem_cons_self, gH i G ds fun x hx => hh x (List.mem_cons_of_mem _ hx)]
    rfl
end
section
variable (i j : Int) (xs ys : List PyData)
@[simp] theorem Ca : fx (.int i) (.int j) = .ok (.int (i + j)) := (rfl)
@[simp] theorem wc : lO (.int i) (.int j) = .ok (.int (i - j)) := (rfl)
@[simp] theorem wd : fR (.int i) (.int j) = if 0 < j then .ok (.int (i % j)) else .no := (rfl)
@[simp] theorem Ck : lV (.int i) (.int j) = if 0 < j ∧ j < 1073741824 then .ok (.int (i / j)) else .no := (rfl)
theorem zp : ff (.int i) (.int j) = if (-(2 ^ 64) < i ∧ i < 2 ^ 64) ∨ (-(2 ^ 64) < j ∧ j < 2 ^ 64) then .ok (.int (i * j)) else .no := rfl
@[simp] theorem mm (p : Int → Int → Bool) : eu p (.int i) (.int j) = .ok (.bool (p i j)) := (rfl)
@[simp] theorem CG : x4 (.int i) (.int j) = .ok (.int (if j < i then j else i)) := (rfl)
@[simp] theorem B4 : yt (.int i) (.int j) = .ok (.int (if j > i then j else i)) := (rfl)
@[simp] theorem pe : cZ (.tuple xs) = .ok (.int xs.length) := (rfl)
@[simp] theorem lX : cZ (.list xs) = .ok (.int xs.length) := (rfl)
@[simp] theorem wf : dN (.list xs) = .ok (.tuple xs) := (rfl)
@[simp] theorem x5 : nc (.tuple xs) = .ok (.list xs) := (rfl)
@[simp] theorem Cb (k : Bool) : xM (.bool k) = .ok (.int (if k then 1 else 0)) := (rfl)
theorem o6 {α : Type} {xs : List α} {i : Int} (h0 : 0 ≤ i) (h1 : i < xs.length) : L2.atI xs i = some (xs[i.toNat]'(by omega)) := by
  unfold L2.atI sK
  rw [if_pos h0, if_pos h1]
  exact List.getElem?_eq_getElem (by omega)
theorem sE {xs : List PyData} {i : Int} (h0 : 0 ≤ i) (h1 : i < xs.length) : bq (.tuple xs) (.int i) = .ok (xs[i.toNat]'(by omega)) := by
  show (match L2.atI xs i with | some d => R.ok d | none => .no) = _
  rw [o6 h0 h1]
theorem qf {xs : List PyData} {i : Int} (h0 : 0 ≤ i) (h1 : i < xs.length) : bq (.list xs) (.int i) = .ok (xs[i.toNat]'(by omega)) := by
  show (match L2.atI xs i with | some d => R.ok d | none => .no) = _
  rw [o6 h0 h1]
theorem oV : PyData.eqv (.int i) (.int j) = decide (i = j) := by
  simp only [PyData.eqv]
  by_cases h : i = j
  · subst h; simp
  · simp [h]
theorem gf : ip (.int i) (.int j) = .ok (.bool (decide (i = j))) := by
  unfold ip
  rw [if_pos (by rfl), oV]
theorem nK : jw (.int i) (.int j) = .ok (.bool (!decide (i = j))) := by
  unfold jw
  rw [if_pos (by rfl), oV]
end
end D2
namespace G
open PySem PySem.Spec PyProof.Rows L2 D2
def noD : PyData → Prop
  | .dict _ => False
  | _ => True
abbrev gF (d : PyData) : Prop := d.canLay0 = true
theorem gF.noD {d : PyData} (h : gF d) : noD d := by
  cases d <;> first | trivial | (simp [gF, PyData.canLay0] at h)
theorem tm : ∀ {ds : List PyData}, PyData.canLayAll0 ds = true → ∀ x ∈ ds, gF x
  | [], _, x, hx => by cases hx
  | d :: ds, h, x, hx => by
    have h' : d.canLay0 = true ∧ PyData.canLayAll0 ds = true := by simpa [PyData.canLayAll0] using h
    rcases List.mem_cons.mp hx with rfl | hx
    · exact h'.1
    · exact tm h'.2 x hx
theorem me : ∀ {ds : List PyData}, (∀ x ∈ ds, gF x) → PyData.canLayAll0 ds = true
  | [], _ => by simp [PyData.canLayAll0]
  | d :: ds, h => by
    have h1 := h d List.mem_cons_self
    have h2 := me fun x hx => h x (List.mem_cons_of_mem _ hx)
    simp only [PyData.canLayAll0, Bool.and_eq_true]
    exact ⟨h1, h2⟩
theorem jD {ds : List PyData} : gF (.tuple ds) ↔ ∀ x ∈ ds, gF x := by
  constructor
  · intro h; exact tm (by simpa [gF, PyData.canLay0] using h)
  · intro h; simp only [gF, PyData.canLay0]; exact me h
theorem qv (i : Int) : gF (.int i) := by simp [gF, PyData.canLay0]
theorem ul : gF .none := by simp [gF, PyData.canLay0]
theorem bS {n : Nat} (h : n ≤ 1000) : n ≤ sizeLine := Nat.le_trans h (by decide)
abbrev vg (ns : List Int) : PyData := .list (ns.map .int)
theorem gT {i j : Int} (h : (-(2 ^ 64) < i ∧ i < 2 ^ 64) ∨ (-(2 ^ 64) < j ∧ j < 2 ^ 64)) : ff (.int i) (.int j) = .ok (.int (i * j)) := by rw [zp, if_pos h]
structure qX (c : Int) (n : Nat) (kvs : List (PyData × PyData)) : Prop where
  ex : ∃ ns : List Int, kvs.map (·.1) = ns.map PyData.int ∧ (∀ x ∈ ns, 0 ≤ x ∧ x < c) ∧ ns.length ≤ n ∧ (n = 0 ∨ ns ≠ []) ∧ ns.Nodup
theorem qX.put {c : Int} {n : Nat} {kvs : List (PyData × PyData)} (h : qX c n kvs) {k : Int} (h0 : 0 ≤ k) (h1 : k < c) (v : PyData) : qX c (n + 1) (rQ kvs (.int k) v) := by
  obtain ⟨ns, e, hb, hl, hn, nd⟩ := h.ex
  have hany : (kvs.any fun kv => gr kv.1 (.int k)) = ns.any fun i => decide (i = k) := by
    have : (kvs.any fun kv => gr kv.1 (.int k)) = (kvs.map (·.1)).any fun d => gr d (.int k) := by rw [List.any_map]; rfl
    rw [this, e, List.any_map]; rfl
  unfold rQ
  rw [hany]
  by_cases hm : k ∈ ns
  · have ha : (ns.any fun i => decide (i = k)) = true := by simp; exact hm
    rw [if_pos ha]
    refine ⟨ns, ?_, hb, by omega, .inr (by intro z; rw [z] at hm; cases hm), nd⟩
    rw [← e, List.map_map]
    apply List.map_congr_left
    intro kv _
    show (if gr kv.1 (.int k) = true then (kv.1, v) else kv).1 = kv.1
    split <;> rfl
  · have ha : ¬ (ns.any fun i => decide (i = k)) = true := by simp; exact hm
    rw [if_neg ha]
    refine ⟨ns ++ [k], by rw [List.map_append, List.map_append, e]; rfl, fun x hx => ?_, by simp; omega, .inr (by simp), ?_⟩
    · rcases List.mem_append.mp hx with z | z
      · exact hb x z
      · simp at z; subst z; exact ⟨h0, h1⟩
    · rw [List.nodup_append]
      refine ⟨nd, by simp, fun a hma b hb' => ?_⟩
      simp at hb'
      subst hb'
      rintro rfl
      exact hm hma
theorem qX.len {c : Int} {n : Nat} {kvs : List (PyData × PyData)} (h : qX c n kvs) : kvs.length ≤ n := by
  obtain ⟨ns, e, _, hl, _⟩ := h.ex
  have := congrArg List.length e
  simp at this
  omega
theorem pN (lo : Int) (n : Nat) : ∀ d ∈ bt lo n, ∃ k, d = .int k := fun d hd => by
  unfold bt at hd
  obtain ⟨k, _, rfl⟩ := List.mem_map.mp hd
  exact ⟨_, rfl⟩
theorem eG (lo : Int) (n : Nat) : (bt lo n).length = n := by unfold bt; simp
theorem x0 {xs : List PyData} {i : Int} (h0 : 0 ≤ i) (h1 : i < xs.length) : ∃ x ∈ xs, bq (.list xs) (.int i) = .ok x := ⟨_, List.getElem_mem _, qf h0 h1⟩
structure P4 where
  w : Int
  m : Int
  g : Int
  ns : List Int
def P4.d (p : P4) : PyData := .tuple [.int p.w, .int p.m, .int p.g, .tuple (p.ns.map .int)]
structure Pl (c hi : Int) (p : P4) : Prop where
  w0 : 0 ≤ p.w
  w1 : p.w ≤ 1
  m0 : 0 ≤ p.m
  m1 : p.m ≤ hi
  g0 : -20 ≤ p.g
  g1 : p.g ≤ 20
  ne : p.ns ≠ []
  so : p.ns.Pairwise (· < ·)
  inn : ∀ x ∈ p.ns, 0 ≤ x ∧ x < c
theorem jN : ∀ (ns : List Int) (l c : Int), ns.Pairwise (· < ·) → (∀ x ∈ ns, l ≤ x ∧ x < c) → ns = [] ∨ l + (ns.length : Int) ≤ c
  | [], _, _, _, _ => .inl rfl
  | x :: r, l, c, hp, hb => by
    right
    obtain ⟨h1, h2⟩ := List.pairwise_cons.mp hp
    have hx := hb x List.mem_cons_self
    rcases jN r (x + 1) c h2 (fun y hy => ⟨by have := h1 y hy; omega, (hb y (List.mem_cons_of_mem _ hy)).2⟩) with rfl | z
    · simp; omega
    · rw [List.length_cons]; omega
theorem Pl.len {c hi : Int} {p : P4} (h : Pl c hi p) : (p.ns.length : Int) ≤ c := by
  rcases jN p.ns 0 c h.so h.inn with z | z
  · exact absurd z h.ne
  · omega
abbrev gD (ps : List P4) : PyData := .tuple (ps.map P4.d)
theorem u0 {ns : List Int} (h : ns.Pairwise (· ≤ ·)) (nd : ns.Nodup) : ns.Pairwise (· < ·) := by
  have := h.and nd
  exact this.imp fun ⟨a, b⟩ => by omega
end G
noncomputable section
namespace G
open PySem PySem.Spec PyProof.Rows L2 D2
def gx : Fs :=
  (aL (iK (tE (e2 (eu Cz) (ab 1) (e1 cZ (ab 0)))) (bL (e2 bq (ab 0) (ab 1))) bT) (bL (eC (.int 0))))
def bP : List PyData → R PyData := dD 2 (gx)
def iI (bP : List PyData → R PyData) : Fs :=
  (aL (bG 2 (e2 fR (e2 ff (e2 fx (e2 fx (aD bP (ae (ab 0) (ae (ab 1) aF))) (e2 ff (eC (.int 7919)) (ab 1))) (eC (.int 1))) (eC (.int 48271))) (eC (.int 2147483647)))) (bL (e2 fR (e2 fx (e2 fx (e2 ff (ab 2) (ab 2)) (e2 ff (eC (.int 7)) (ab 2))) (ab 1)) (eC (.int 2147483629)))))
def bV : List PyData → R PyData := dD 3 (iI bP)
def iU : Fs :=
  (aL (bG 2 (e2 fR (e2 ff (e2 fx (e2 fx (ab 0) (e2 ff (eC (.int 104729)) (ab 1))) (eC (.int 17))) (eC (.int 69621))) (eC (.int 2147483647)))) (bL (e2 fR (e2 fx (e2 fx (e2 ff (ab 2) (ab 2)) (e2 ff (eC (.int 3)) (ab 2))) (ab 1)) (eC (.int 2147483629)))))
def a9 : List PyData → R PyData := dD 3 (iU)
def iS (a9 : List PyData → R PyData) : Fs :=
  (aL (gO 2 (eC (.dict []))) (aL (gy (ir (h7 (ae (e2 fx (e2 fx (eC (.int 1)) (e2 fR (ab 0) (eC (.int 3)))) (e2 ff (eC (.int 20)) (e1 xM (e2 (ip) (e2 fR (e2 lV (ab 0) (eC (.int 3))) (eC (.int 29))) (eC (.int 7)))))) aF)) (aI 3) (vn 2 (e2 fR (aD a9 (ae (ab 0) (ae (ab 3) aF))) (ab 1)) (eC (.bool true))))) (bL (e1 dN (e1 jg (eS 2))))))
def cw : List PyData → R PyData := dD 4 (iS a9)
def iJ (a9 : List PyData → R PyData) (cw : List PyData → R PyData) : Fs :=
  (aL (bG 3 (e2 lO (e2 fR (e2 lV (ab 0) (eC (.int 26))) (eC (.int 9))) (eC (.int 4)))) (aL (iK (tE (e2 (ip) (e2 fR (e2 lV (ab 0) (eC (.int 234))) (eC (.int 11))) (eC (.int 3)))) (bG 3 (e2 lO (e2 fR (e2 lV (ab 0) (eC (.int 26))) (eC (.int 41))) (eC (.int 20)))) bT) (bL (qJ (ae (e2 fR (ab 0) (eC (.int 2))) (ae (e2 fR (e2 lV (ab 0) (eC (.int 2))) (e2 fx (ab 2) (eC (.int 1)))) (ae (ab 3) (ae (aD cw (ae (aD a9 (ae (ab 0) (ae (eC (.int 9)) aF))) (ae (ab 1) aF))) aF))))))))
def cg : List PyData → R PyData := dD 4 (iJ a9 cw)
def ia (bV : List PyData → R PyData) (cg : List PyData → R PyData) : Fs :=
  (aL (bG 2 (aD bV (ae (ab 0) (ae (eC (.int 0)) aF)))) (aL (bG 3 (e2 fx (eC (.int 1)) (e2 fR (ab 2) (e2 x4 (ab 1) (e2 yt (eC (.int 4)) (e1 cZ (ab 0))))))) (aL (bG 4 (e2 bq (jo (ae (eC (.int 1)) (ae (eC (.int 2)) (ae (eC (.int 3)) (ae (eC (.int 5)) (ae (eC (.int 12)) (ae (eC (.int 12)) aF))))))) (e2 fR (e2 lV (ab 2) (eC (.int 24))) (eC (.int 6))))) (bL (e1 dN (bC (h7 (ae (ab 3) aF)) 1 [0, 3, 4] (aI 0) (fun _ => .ok true) (aD cg (ae (aD bV (ae (ab 1) (ae (e2 fx (eC (.int 3)) (ab 0)) aF))) (ae (ab 2) (ae (ab 3) aF))))))))))
def cc : List PyData → R PyData := dD 5 (ia bV cg)
def eN : Fs :=
  (aL (iK (iO (fV (tE (e1 (dS .tuple) (ab 0)))) (tE (e2 (jw) (e1 cZ (ab 0)) (e1 cZ (ab 1))))) (bL (eC (.bool false))) bT) (aL (gy (ir (uD (ab 0) (ab 1)) (dQ 2 3) (aL (iK (iO (tE (e1 (dS .bool) (ab 2))) (fW (tE (e2 (eA) (ab 2) (eC .none))) (fV (tE (e1 (dS .int) (ab 2)))))) (bL (eC (.bool false))) bT) (iK (fW (tE (e2 (eA) (ab 2) (eC .none))) (tE (e2 (iG true) (ab 2) (e2 bq (ab 3) (eC (.int 3)))))) (bL (eC (.bool false))) bT)))) (bL (eC (.bool true)))))
def bj : List PyData → R PyData := dD 4 (eN)
def e9 (bj : List PyData → R PyData) : Fs :=
  (aL (iK (iO (fV (tE (e1 (dS .tuple) (ab 0)))) (iO (tE (e2 (jw) (e1 cZ (ab 0)) (eC (.int 2)))) (fV (tE (e1 (dS .tuple) (e2 bq (ab 0) (eC (.int 0)))))))) (bL (eC (.bool false))) bT) (aL (iK (iO (tE (e2 (jw) (e1 cZ (e2 bq (ab 0) (eC (.int 0)))) (e1 cZ (ab 1)))) (fV (tE (aD bj (ae (e2 bq (ab 0) (eC (.int 1))) (ae (ab 1) aF)))))) (bL (eC (.bool false))) bT) (aL (gy (ir (qI (ab 1) (e2 bq (ab 0) (eC (.int 0))) (e2 bq (ab 0) (eC (.int 1)))) (rE 2 3 4) (aL (iK (iO (fV (tE (e1 (dS .int) (ab 3)))) (iO (tE (e1 (dS .bool) (ab 3))) (tE (e2 (iG true) (ab 3) (qJ (ae (eC (.int 0)) (ae (eC (.int 1)) aF))))))) (bL (eC (.bool false))) bT) (iK (tE (e2 (jw) (e2 (j9) (ab 4) (eC .none)) (e2 (jw) (e2 bq (ab 2) (eC (.int 0))) (ab 3)))) (bL (eC (.bool false))) bT)))) (bL (eC (.bool true))))))
def bx : List PyData → R PyData := dD 5 (e9 bj)
def jG : Fs :=
  (aL (iK (tE (e2 (ip) (e2 bq (e2 bq (ab 0) (ab 3)) (eC (.int 0))) (ab 1))) (bL (bC (cY (jo (ae (e2 bq (ab 2) (ab 3)) aF))) 1 [] (aI 0) (tE (e2 (eA) (ab 0) (eC .none))) (ab 0))) bT) (bL (e1 nc (e2 bq (e2 bq (ab 0) (ab 3)) (eC (.int 3))))))
def a4 : List PyData → R PyData := dD 4 (jG)
def gX (a4 : List PyData → R PyData) : Fs :=
  (aL (gy (ir (cY (ab 3)) (aI 4) (aL (bG 5 (aD a4 (ae (ab 0) (ae (ab 1) (ae (ab 2) (ae (ab 4) aF)))))) (iK (iO (tE (e2 (ip) (ab 5) (jo aF))) (tE (e2 (jw) (bC (cY (ab 5)) 1 [3] (aI 0) (tE (e2 (iG true) (ab 0) (ab 1))) (ab 0)) (jo aF)))) (bL (eC (.bool false))) bT)))) (bL (eC (.bool true))))
def ce : List PyData → R PyData := dD 6 (gX a4)
def gB (a4 : List PyData → R PyData) : Fs :=
  (aL (gO 5 (jo aF)) (aL (bG 6 (aD a4 (ae (ab 0) (ae (ab 1) (ae (ab 2) (ae (ab 3) aF)))))) (aL (gy (mt 1000000 (tE (e2 (jw) (ab 6) (jo aF))) (aL (bG 7 (e2 bq (ab 6) (eC (.int 0)))) (aL (bG 6 (Bg (ab 6) (qe (eC (.int 1))) p6)) (iK (fW (tE (e2 (iG false) (ab 7) (ab 4))) (tE (e2 (iG true) (ab 7) (eS 5)))) (aL (fA 5 (ab 7)) (bG 6 (e2 fx (ab 6) (aD a4 (ae (ab 0) (ae (ab 1) (ae (ab 2) (ae (ab 7) aF)))))))) bT))))) (tT 5))))
def bH : List PyData → R PyData := dD 8 (gB a4)
def du (ce : List PyData → R PyData) (bH : List PyData → R PyData) : Fs :=
  (aL (iK (fV (tE (aD ce (ae (ab 0) (ae (ab 1) (ae (ab 2) (ae (ab 3) aF))))))) (bL (eC (.bool false))) bT) (aL (gy (ir (cY (ab 3)) (aI 4) (aL (bG 5 (bC (cY (ab 3)) 1 [0, 4] (aI 0) (tE (e2 (eu BL) (e2 bq (e2 bq (ab 1) (ab 0)) (eC (.int 1))) (e2 bq (e2 bq (ab 1) (ab 2)) (eC (.int 1))))) (ab 0))) (aL (bG 6 (aD bH (ae (ab 0) (ae (ab 1) (ae (ab 2) (ae (ab 4) (ae (ab 5) aF))))))) (iK (fW (tE (e2 (jw) (e2 fR (e2 bq (e2 bq (ab 0) (ab 4)) (eC (.int 1))) (eC (.int 2))) (ab 1))) (tE (e2 (iG false) (ab 4) (ab 6)))) (bL (eC (.bool false))) bT))))) (bL (eC (.bool true)))))
def aN : List PyData → R PyData := dD 7 (du ce bH)
def ib : Fs :=
  (bL (tU (ae (e1 cZ (ab 0)) aF)))
def cb : List PyData → R PyData := dD 1 (ib)
def jV : Fs :=
  (bL (e1 dN (bC (lT (ab 0)) 2 [1] (dQ 0 1) (fun _ => .ok true) (yn (tE (e2 (iG false) (ab 0) (ab 2))) (ab 1) (eC .none)))))
def cq : List PyData → R PyData := dD 2 (jV)
def fg : Fs :=
  (bL (e1 dN (bC (uD (ab 0) (ab 1)) 2 [] (dQ 0 1) (fun _ => .ok true) (yn (tE (e2 (j9) (ab 0) (eC .none))) (ab 1) (ab 0)))))
def au : List PyData → R PyData := dD 2 (fg)
def mI : Fs :=
  (bL (e1 dN (bC (lT (ab 0)) 2 [] (dQ 0 1) (tE (e2 (eA) (ab 1) (eC .none))) (ab 0))))
def bM : List PyData → R PyData := dD 1 (mI)
def fi (bM : List PyData → R PyData) : Fs :=
  (aL (gO 3 (bC (cY (ab 2)) 1 [] (aI 0) (fun _ => .ok true) (eC .none))) (aL (gy (ir (cY (aD bM (ae (ab 2) aF))) (aI 4) (iK (fW (tE (e2 (ip) (e2 bq (e2 bq (ab 0) (ab 4)) (eC (.int 0))) (ab 1))) (tE (e2 (eu pV) (e2 bq (ab 2) (ab 4)) (eC (.int 0))))) (gh 3 (ab 4) (e2 bq (bC (cY (e2 bq (e2 bq (ab 0) (ab 4)) (eC (.int 3)))) 1 [2, 4] (aI 0) (tE (e2 (ip) (e2 bq (ab 1) (ab 0)) (e2 lO (e2 bq (ab 1) (ab 2)) (eC (.int 1))))) (ab 0)) (eC (.int 0)))) bT))) (bL (e1 dN (eS 3)))))
def aS : List PyData → R PyData := dD 5 (fi bM)
def ma : Fs :=
  (bL (e1 dN (bC (cY (ab 0)) 1 [1] (aI 0) (tE (e2 (iG false) (ab 0) (ab 1))) (ab 0))))
def bN : List PyData → R PyData := dD 2 (ma)
def iZ : Fs :=
  (aL (bG 4 (bC (cY (ab 1)) 1 [3] (aI 0) (tE (e2 (eA) (e2 bq (ab 1) (ab 0)) (eC .none))) (ab 0))) (aL (iK (tE (e2 (ip) (e2 bq (ab 0) (eC (.int 0))) (ab 2))) (bL (e2 (eu pV) (e1 cZ (ab 4)) (eC (.int 0)))) bT) (bL (e2 (ip) (e1 cZ (ab 4)) (e1 cZ (ab 1))))))
def bB : List PyData → R PyData := dD 5 (iZ)
def jK (bN : List PyData → R PyData) (bB : List PyData → R PyData) : Fs :=
  (aL (bG 4 (bC (cY (ab 0)) 1 [1] (aI 0) (fun _ => .ok true) (aD bN (ae (e2 bq (ab 0) (eC (.int 3))) (ae (ab 1) aF))))) (aL (gO 5 (bC (h7 (ae (e1 cZ (ab 0)) aF)) 1 [3] (aI 0) (fun _ => .ok true) (yn (tE (e2 (iG false) (ab 0) (ab 1))) (eC (.int 0)) (eC .none)))) (aL (bG 6 (eC (.int 0))) (aL (bG 7 (e1 nc (ab 3))) (aL (gy (mt 1000000 (tE (e2 (eu pV) (e1 cZ (ab 7)) (eC (.int 0)))) (aL (qS 6 (fun a b => a + b) (eC (.int 1))) (aL (bG 8 (bC (cY (ab 1)) 1 [5] (aI 0) (tE (e2 (j9) (e2 bq (eS 1) (ab 0)) (eC .none))) (ab 0))) (aL (bG 7 (bC (cY (ab 8)) 1 [0, 4, 2, 5] (aI 0) (tE (jv 4 (aD bB (ae (e2 bq (ab 1) (ab 0)) (ae (e2 bq (ab 2) (ab 0)) (ae (ab 3) (ae (ab 4) aF))))))) (ab 0))) (gy (ir (cY (ab 7)) (aI 9) (gh 5 (ab 9) (ab 6))))))))) (bL (e1 dN (eS 5))))))))
def bY : List PyData → R PyData := dD 10 (jK bN bB)
def jL : Fs :=
  (bL (e1 dN (bC (cY (ab 0)) 1 [] (aI 0) (fun _ => .ok true) (eC .none))))
def bA : List PyData → R PyData := dD 1 (jL)
def fq (bN : List PyData → R PyData) (bA : List PyData → R PyData) : Fs :=
  (aL (gO 3 (e1 nc (aD bA (ae (ab 0) aF)))) (aL (gy (ir (cY (ab 2)) (aI 4) (iK (tE (e2 (ip) (e2 bq (e2 bq (ab 0) (ab 4)) (eC (.int 0))) (ab 1))) (gh 3 (ab 4) (e2 bq (aD bN (ae (e2 bq (e2 bq (ab 0) (ab 4)) (eC (.int 3))) (ae (ab 2) aF))) (eC (.int 0)))) bT))) (bL (e1 dN (eS 3)))))
def a6 : List PyData → R PyData := dD 5 (fq bN bA)
def kQ : Fs :=
  (bL (e1 dN (bC (cY (ab 0)) 1 [1] (aI 0) (tE (e2 (iG true) (ab 0) (ab 1))) (ab 0))))
def bw : List PyData → R PyData := dD 2 (kQ)
def dl (cq : List PyData → R PyData) (au : List PyData → R PyData) (aS : List PyData → R PyData) (bM : List PyData → R PyData) (bY : List PyData → R PyData) (a6 : List PyData → R PyData) (az : List PyData → R PyData) (bw : List PyData → R PyData) (c_Share : Addr) : Fs :=
  (aL (bG 2 (e1 pL (bC (cY (ab 1)) 1 [0] (aI 0) (fun _ => .ok true) (e2 bq (e2 bq (ab 1) (ab 0)) (eC (.int 1)))))) (aL (bG 3 (e2 fR (ab 2) (eC (.int 2)))) (aL (bG 4 (e2 lO (eC (.int 1)) (ab 3))) (aL (bG 5 (bC (cY (ab 1)) 1 [0, 2] (aI 0) (tE (e2 (ip) (e2 bq (e2 bq (ab 1) (ab 0)) (eC (.int 1))) (ab 2))) (ab 0))) (aL (bG 6 (aD bY (ae (ab 0) (ae (ab 1) (ae (ab 3) (ae (ab 5) aF)))))) (aL (bG 7 (aD az (ae (ab 0) (ae (aD bw (ae (ab 1) (ae (aD bM (ae (ab 6) aF)) aF))) aF)))) (aL (bG 8 (bC (lT (e2 bq (ab 7) (eC (.int 0)))) 2 [4] (dQ 0 1) (tE (e2 (ip) (ab 1) (ab 2))) (ab 0))) (aL (iK (tE (e2 (ip) (e1 cZ (ab 8)) (eC (.int 0)))) (aL (bG 9 (aD au (ae (aD aS (ae (ab 0) (ae (ab 3) (ae (ab 6) aF)))) (ae (e2 bq (ab 7) (eC (.int 1))) aF)))) (bL (o0 c_Share ["who", "places", "moves"] (ae (ab 3) (ae (ab 1) (ae (aD au (ae (ab 9) (ae (aD a6 (ae (ab 0) (ae (ab 3) (ae (ab 1) aF)))) aF))) aF)))))) bT) (aL (bG 6 (aD bY (ae (ab 0) (ae (ab 1) (ae (ab 4) (ae (ab 8) aF)))))) (aL (bG 9 (aD au (ae (aD aS (ae (ab 0) (ae (ab 4) (ae (ab 6) aF)))) (ae (aD cq (ae (e2 bq (ab 7) (eC (.int 1))) (ae (ab 8) aF))) aF)))) (bL (o0 c_Share ["who", "places", "moves"] (ae (ab 4) (ae (aD bM (ae (ab 6) aF)) (ae (ab 9) aF)))))))))))))))
def dA (au : List PyData → R PyData) (bA : List PyData → R PyData) (c_Share : Addr) : Fs :=
  (aL (gO 2 (bC (cY (ab 0)) 1 [] (aI 0) (fun _ => .ok true) (eC .none))) (aL (bG 3 (aD bA (ae (ab 0) aF))) (aL (gy (ir (cY (ab 1)) (aI 4) (aL (gy (ir (cY (e1 (jl c_Share "places") (ab 4))) (aI 5) (gh 2 (ab 5) (e1 (jl c_Share "who") (ab 4))))) (bG 3 (aD au (ae (ab 3) (ae (e1 (jl c_Share "moves") (ab 4)) aF))))))) (bL (qJ (ae (e1 dN (eS 2)) (ae (ab 3) aF)))))))
def aO (c_Share : Addr) : List PyData → R PyData := dD 6 (dA au bA c_Share)
def dk (aJ : List PyData → R PyData) (aO : List PyData → R PyData) (bw : List PyData → R PyData) (c_Share : Addr) : Fs :=
  (aL (gO 2 (jo aF)) (aL (bG 3 (ab 1)) (aL (gy (mt 1000000 (tE (e2 (eu pV) (e1 cZ (ab 3)) (eC (.int 0)))) (aL (bG 4 (aD aJ (ae (ab 0) (ae (ab 3) aF)))) (aL (fA 2 (ab 4)) (bG 3 (aD bw (ae (ab 3) (ae (e1 (jl c_Share "places") (ab 4)) aF)))))))) (BP 2 (bL (aD aO (ae (ab 0) (ae (ab 2) aF))))))))
def az (c_Share : Addr) : Nat → List PyData → R PyData
  | 0 => fun _ => .no
  | k + 1 => dD 5 (dk (dD 10 (dl cq au aS bM bY a6 (az c_Share k) bw c_Share)) (aO c_Share) bw c_Share)
def aJ (c_Share : Addr) (k : Nat) : List PyData → R PyData := dD 10 (dl cq au aS bM bY a6 (az c_Share k) bw c_Share)
def wU (cb : List PyData → R PyData) (az : List PyData → R PyData) : Fs :=
  (bL (aD az (ae (ab 0) (ae (aD cb (ae (ab 0) aF)) aF))))
def jx (c_Share : Addr) : List PyData → R PyData := dD 1 (wU cb (az c_Share 14))
def wb (cc : List PyData → R PyData) (bx : List PyData → R PyData) (aN : List PyData → R PyData) (jx : List PyData → R PyData) : Fs :=
  (aL (bG 1 (aD cc (ae (ab 0) (ae (eC (.int 24)) aF)))) (aL (bG 2 (aD jx (ae (ab 1) aF))) (aL (iK (iO (fV (tE (aD bx (ae (ab 2) (ae (ab 1) aF))))) (tE (e2 (jw) (aD jx (ae (ab 1) aF)) (ab 2)))) (bL (eC (.bool false))) bT) (aL (gy (ir (cY (qJ (ae (eC (.int 0)) (ae (eC (.int 1)) aF)))) (aI 3) (aL (bG 4 (bC (h7 (ae (e1 cZ (ab 1)) aF)) 1 [2, 3] (aI 0) (tE (e2 (ip) (e2 bq (e2 bq (ab 1) (eC (.int 0))) (ab 0)) (ab 2))) (ab 0))) (iK (fV (tE (aD aN (ae (ab 1) (ae (ab 3) (ae (e2 bq (ab 2) (eC (.int 1))) (ae (ab 4) aF))))))) (bL (eC (.bool false))) bT)))) (bL (eC (.bool true)))))))
def tG (c_Share : Addr) : List PyData → R PyData := dD 5 (wb cc bx aN (jx c_Share))
end G
end
namespace G
open PySem PySem.Spec PyProof.Rows L2 D2
theorem xR (ns : List Int) {k : Int} (hk : 0 ≤ k) : ∃ v, bP [vg ns, .int k] = .ok (.int v) := by
  unfold bP gx
  by_cases h : k < ns.length
  · refine ⟨ns[k.toNat]'(by omega), ?_⟩
    have hx := qf (xs := ns.map PyData.int) (i := k) hk (by simpa using h)
    rw [fT]
    simp [h, hx]
  · refine ⟨0, ?_⟩
    rw [fT]
    simp [h]
theorem pK (ns : List Int) {k : Int} (hk : 0 ≤ k) : ∃ v, bV [vg ns, .int k] = .ok (.int v) ∧ 0 ≤ v ∧ v < 2147483629 := by
  obtain ⟨c, hc⟩ := xR ns hk
  unfold bV iI
  have m1 : ff (.int 7919) (.int k) = .ok (.int (7919 * k)) := gT (.inl (by omega))
  have m2 : ff (.int (c + 7919 * k + 1)) (.int 48271) = .ok (.int ((c + 7919 * k + 1) * 48271)) := gT (.inr (by omega))
  generalize hd : (c + 7919 * k + 1) * 48271 % 2147483647 = d
  have hd0 : 0 ≤ d := by omega
  have hd1 : d < 2147483647 := by omega
  have m3 : ff (.int d) (.int d) = .ok (.int (d * d)) := gT (.inl (by omega))
  have m4 : ff (.int 7) (.int d) = .ok (.int (7 * d)) := gT (.inl (by omega))
  refine ⟨(d * d + 7 * d + k) % 2147483629, ?_, by omega, by omega⟩
  rw [fT]
  simp [hc, m1, m2, hd, m3, m4, List.replicate]
theorem qF (n k : Int) : ∃ v, a9 [.int n, .int k] = .ok (.int v) ∧ 0 ≤ v ∧ v < 2147483629 := by
  unfold a9 iU
  have m1 : ff (.int 104729) (.int k) = .ok (.int (104729 * k)) := gT (.inl (by omega))
  have m2 : ff (.int (n + 104729 * k + 17)) (.int 69621) = .ok (.int ((n + 104729 * k + 17) * 69621)) := gT (.inr (by omega))
  generalize hd : (n + 104729 * k + 17) * 69621 % 2147483647 = d
  have hd0 : 0 ≤ d := by omega
  have hd1 : d < 2147483647 := by omega
  have m3 : ff (.int d) (.int d) = .ok (.int (d * d)) := gT (.inl (by omega))
  have m4 : ff (.int 3) (.int d) = .ok (.int (3 * d)) := gT (.inl (by omega))
  refine ⟨(d * d + 3 * d + k) % 2147483629, ?_, by omega, by omega⟩
  rw [fT]
  simp [m1, m2, hd, m3, m4, List.replicate]
theorem l6 (n c : Int) (hc : 1 ≤ c) : ∀ (ds : List PyData) (m : Nat) (kvs : List (PyData × PyData)) (x : aV), qX c m kvs → (∀ d ∈ ds, ∃ k, d = .int k) → m + ds.length ≤ 1000 →
    ∃ kvs' x', qX c (m + ds.length) kvs' ∧ dO (aI 3) (vn 2 (e2 fR (aD a9 (ae (ab 0) (ae (ab 3) aF))) (ab 1)) (eC (.bool true))) ds [.val (.int n), .val (.int c), .own (.dict kvs), x]
      = .ok (.nx [.val (.int n), .val (.int c), .own (.dict kvs'), x'])
  | [], m, kvs, x, hk, _, _ => ⟨kvs, x, hk, by rw [dE]⟩
  | d :: ds, m, kvs, x, hk, hi, hl => by
    obtain ⟨k, rfl⟩ := hi d List.mem_cons_self
    obtain ⟨v, hv, v0, v1⟩ := qF n k
    have hk' := hk.put (k := v % c) (Int.emod_nonneg _ (by omega)) (Int.emod_lt_of_pos _ (by omega)) (.bool true)
    obtain ⟨kvs', x', h1, h2⟩ := l6 n c hc ds (m + 1) _ (.val (.int k)) hk' (fun d hd => hi d (List.mem_cons_of_mem _ hd)) (by simp at hl; omega)
    refine ⟨kvs', x', by rw [List.length_cons]; simpa [Nat.add_comm, Nat.add_left_comm, Nat.add_assoc] using h1, ?_⟩
    have hlen := hk.len
    have hsz : kvs.length < sizeLine := Nat.lt_of_le_of_lt (show kvs.length ≤ 1000 by simp at hl; omega) (by decide)
    have hc' : 0 < c := by omega
    rw [dm, ← h2]
    simp [vn, hv, hc', gI, hsz]
theorem uL {n c : Int} (hn : 0 ≤ n) (hc : 1 ≤ c) : ∃ ns : List Int, cw [.int n, .int c] = .ok (.tuple (ns.map .int)) ∧ (∀ x ∈ ns, 0 ≤ x ∧ x < c) ∧ ns ≠ [] ∧ ns.Pairwise (· < ·) := by
  unfold cw iS
  have m1 : ∀ k : Int, ff (.int 20) (.int k) = .ok (.int (20 * k)) := fun k => gT (.inl (by omega))
  generalize hN : (1 + n % 3 + 20 * (if n / 3 % 29 = 7 then 1 else 0) : Int) = N
  have hN0 : 1 ≤ N := by split at hN <;> omega
  have hN1 : N ≤ 23 := by split at hN <;> omega
  obtain ⟨kvs, x, hk, hf⟩ := l6 n c hc (bt 0 N.toNat) 0 [] .non ⟨[], rfl, by simp, by simp, .inl rfl, by simp⟩ (pN _ _) (by rw [eG]; omega)
  obtain ⟨ns, e, hb, hl, hz, nd⟩ := hk.ex
  rw [eG] at hl hz
  have hi : dw (kvs.map (·.1)) = some ns := by rw [e, iX]
  have hs : jg (.dict kvs) = .ok (.list ((ft ns).map PyData.int)) := by
    show (match dw (kvs.map (·.1)) with | some ns => if ns.length < 64 then R.ok (PyData.list ((ft ns).map PyData.int)) else .no | none => .no) = _
    rw [hi]
    exact if_pos (by omega)
  have hr : -(2 ^ 62) ≤ N ∧ N < 2 ^ 62 := by omega
  refine ⟨ft ns, ?_, fun x hx => hb x ((eI ns).mem_iff.mp hx), ?_, u0 (gV ns) ((eI ns).nodup_iff.mpr nd)⟩
  · rw [fT]
    have hg : oO [.int N] = .ok (bt 0 N.toNat) := by
      show (if -(2 ^ 62) ≤ N ∧ N < 2 ^ 62 then R.ok (bt 0 N.toNat) else .no) = _
      rw [if_pos hr]
    simp [em, gf, m1, List.replicate, hN, hg, hf, hs]
  · intro z
    have := (eI ns).length_eq
    rw [z] at this
    rcases hz with q | q
    · omega
    · exact q (List.eq_nil_of_length_eq_zero this.symm)
theorem uZ {n c h : Int} (hn : 0 ≤ n) (hc : 1 ≤ c) (h0 : 0 ≤ h) : ∃ p : P4, cg [.int n, .int c, .int h] = .ok p.d ∧ Pl c h p := by
  obtain ⟨v, hv, v0, v1⟩ := qF n 9
  obtain ⟨ns, hg, hb, hne, hso⟩ := uL (n := v) (c := c) v0 hc
  unfold cg iJ
  have hh : 0 < h + 1 := by omega
  have s4 : 4 ≤ sizeLine := by decide
  have a1 := Int.emod_nonneg (n / 2) (show h + 1 ≠ 0 by omega)
  have a2 := Int.emod_lt_of_pos (n / 2) hh
  by_cases hq : n / 234 % 11 = 3
  · refine ⟨⟨n % 2, n / 2 % (h + 1), n / 26 % 41 - 20, ns⟩, ?_, ⟨by dsimp only; omega, by dsimp only; omega, a1, by dsimp only; omega, by dsimp only; omega, by dsimp only; omega, hne, hso, hb⟩⟩
    rw [fT]
    simp [hh, gf, hq, hv, hg, s4, P4.d]
  · refine ⟨⟨n % 2, n / 2 % (h + 1), n / 26 % 9 - 4, ns⟩, ?_, ⟨by dsimp only; omega, by dsimp only; omega, a1, by dsimp only; omega, by dsimp only; omega, by dsimp only; omega, hne, hso, hb⟩⟩
    rw [fT]
    simp [hh, gf, hq, hv, hg, s4, P4.d]
theorem qa (f : Fe) (ρ : aG) (i : Nat) (P : P4 → Prop) : ∀ ds : List PyData, (∀ d ∈ ds, ∃ p : P4, f (ρ.set i (.val d)) = .ok p.d ∧ P p) → ∃ ps : List P4, bJ (aI i) (fun _ => .ok true) f ρ ds = .ok (ps.map P4.d) ∧ ps.length = ds.length ∧ ∀ p ∈ ps, P p
  | [], _ => ⟨[], dg .., rfl, by simp⟩
  | d :: ds, h => by
    obtain ⟨x, h1, h2⟩ := h d List.mem_cons_self
    obtain ⟨xs, h3, h4, h5⟩ := qa f ρ i P ds fun d hd => h d (List.mem_cons_of_mem _ hd)
    refine ⟨x :: xs, ?_, by simp [h4], fun y hy => ?_⟩
    · rw [eJ, h1, h3]; rfl
    · rcases List.mem_cons.mp hy with rfl | hy
      · exact h2
      · exact h5 y hy
theorem sC (ns : List Int) {most : Int} (hm0 : 1 ≤ most) (hm1 : most ≤ 24) : ∃ (ps : List P4) (hi : Int), cc [vg ns, .int most] = .ok (gD ps) ∧ (∀ p ∈ ps, Pl ps.length hi p) ∧ 1 ≤ ps.length ∧ (ps.length : Int) ≤ most ∧ 0 ≤ hi ∧ hi ≤ 12 := by
  obtain ⟨v, hv, v0, v1⟩ := pK ns (k := 0) (by omega)
  unfold cc ia
  generalize hm : (if (if (ns.length : Int) > 4 then (ns.length : Int) else 4) < most then (if (ns.length : Int) > 4 then (ns.length : Int) else 4) else most) = m
  have m0 : 0 < m := by split at hm <;> split at hm <;> omega
  have m1 : m ≤ most := by split at hm <;> split at hm <;> omega
  generalize hc : 1 + v % m = c
  have c0 : 1 ≤ c := by have := Int.emod_nonneg v (show m ≠ 0 by omega); omega
  have c1 : c ≤ most := by have := Int.emod_lt_of_pos v m0; omega
  have hix : ∃ h, bq (.list [.int 1, .int 2, .int 3, .int 5, .int 12, .int 12]) (.int (v / 24 % 6)) = .ok (.int h) ∧ 0 ≤ h ∧ h ≤ 12 := by
    obtain ⟨x, hx, e⟩ := x0 (xs := [.int 1, .int 2, .int 3, .int 5, .int 12, .int 12]) (i := v / 24 % 6) (by omega) (by simp; omega)
    rw [e]
    simp at hx
    rcases hx with rfl | rfl | rfl | rfl | rfl <;> exact ⟨_, rfl, by decide, by decide⟩
  obtain ⟨h, hh, h0, h1⟩ := hix
  have s6 : 6 ≤ sizeLine := by decide
  have hr : oO [.int c] = .ok (bt 0 c.toNat) := by
    show (if -(2 ^ 62) ≤ c ∧ c < 2 ^ 62 then R.ok (bt 0 c.toNat) else .no) = _
    rw [if_pos (by omega)]
  obtain ⟨xs, e1, e2, e3⟩ := qa (aD cg (ae (aD bV (ae (ab 1) (ae (e2 fx (eC (.int 3)) (ab 0)) aF))) (ae (ab 2) (ae (ab 3) aF)))) (aw 1 [0, 3, 4] [.val (vg ns), .val (.int most), .val (.int v), .val (.int c), .val (.int h)]) 0 (Pl c h) (bt 0 c.toNat) fun d hd => by
    unfold bt at hd
    obtain ⟨k, _, rfl⟩ := List.mem_map.mp hd
    obtain ⟨w, hw, w0, w1⟩ := pK ns (k := 3 + (0 + (k : Int))) (by omega)
    obtain ⟨d, hd1, hd2⟩ := uZ (n := w) (c := c) (h := h) w0 c0 h0
    refine ⟨d, ?_, hd2⟩
    simp at hw
    simp [aw, List.replicate, hw, hd1]
  rw [eG] at e2
  have ec : (xs.length : Int) = c := by omega
  refine ⟨xs, h, ?_, by rw [ec]; exact e3, by omega, by omega, h0, h1⟩
  rw [fT]
  simp [hv, hm, m0, hc, s6, hh, List.replicate, bp, hr, eG, bS (show c.toNat ≤ 1000 by omega), e1]
def bQ (ns : List Int) (i : Int) : Bool := ns.any fun j => decide (j = i)
theorem bo {ns : List Int} {i : Int} : bQ ns i = true ↔ i ∈ ns := by
  unfold bQ
  rw [List.any_eq_true]
  constructor
  · rintro ⟨j, hj, e⟩
    have := of_decide_eq_true e
    exact this ▸ hj
  · exact fun h => ⟨i, h, decide_eq_true rfl⟩
theorem iF : ∀ ns : List Int, PyData.depthAll (ns.map .int) = 0
  | [] => by simp [PyData.depthAll]
  | n :: ns => by simp [PyData.depthAll, PyData.depth, iF ns]
theorem mE (ns : List Int) : PyData.canLayAll0 (ns.map .int) = true := me fun x hx => by
  obtain ⟨i, _, rfl⟩ := List.mem_map.mp hx
  exact qv i
theorem n4 (ns : List Int) (i : Int) : oo (ns.map .int) (.int i) = true := by
  unfold oo
  rw [mE, iF]
  simp [PyData.canLay0]
theorem pQ (ns : List Int) (i : Int) : ((ns.map PyData.int).any fun y => PyData.eqv y (.int i)) = bQ ns i := by
  rw [List.any_map]
  congr 1
theorem zU (ns : List Int) (i : Int) (neg : Bool) : iG neg (.int i) (.tuple (ns.map .int)) = .ok (.bool (if neg then !bQ ns i else bQ ns i)) := by
  show (if oo (ns.map .int) (.int i) = true then R.ok (PyData.bool _) else .no) = _
  rw [if_pos (n4 ns i), pQ]
theorem xD (ns : List Int) (i : Int) (neg : Bool) : iG neg (.int i) (.list (ns.map .int)) = .ok (.bool (if neg then !bQ ns i else bQ ns i)) := by
  show (if oo (ns.map .int) (.int i) = true then R.ok (PyData.bool _) else .no) = _
  rw [if_pos (n4 ns i), pQ]
theorem my : ∀ ns ms : List Int, PyData.eqvAll (ns.map .int) (ms.map .int) = decide (ns = ms)
  | [], [] => by simp [PyData.eqvAll]
  | [], _ :: _ => by simp [PyData.eqvAll]
  | _ :: _, [] => by simp [PyData.eqvAll]
  | n :: ns, m :: ms => by
    simp only [List.map_cons, PyData.eqvAll, my ns ms, oV]
    by_cases h : n = m <;> by_cases h2 : ns = ms <;> simp [h, h2]
theorem tV (ns ms : List Int) : o1 (.list (ns.map .int)) (.list (ms.map .int)) = true := by
  unfold o1
  simp [PyData.canLay0, mE, PyData.depth, iF]
theorem wV (ns ms : List Int) : jw (.list (ns.map .int)) (.list (ms.map .int)) = .ok (.bool (!decide (ns = ms))) := by
  unfold jw
  rw [if_pos (tV ns ms)]
  simp only [PyData.eqv, my]
theorem BH (ns ms : List Int) : ip (.list (ns.map .int)) (.list (ms.map .int)) = .ok (.bool (decide (ns = ms))) := by
  unfold ip
  rw [if_pos (tV ns ms)]
  simp only [PyData.eqv, my]
theorem bU {t : aG → R Bool} {ρ : aG} {p : Int → Bool} : ∀ ns : List Int, (∀ x ∈ ns, t ((aV.non :: ρ).set 0 (.val (.int x))) = .ok (p x)) → bJ (aI 0) t (ab 0) (.non :: ρ) (ns.map .int) = .ok ((ns.filter p).map .int)
  | [], _ => dg ..
  | x :: ns, h => by
    rw [List.map_cons, eJ, h x List.mem_cons_self, bU ns fun y hy => h y (List.mem_cons_of_mem _ hy)]
    cases hp : p x with
    | true => rw [List.filter_cons_of_pos hp]; rfl
    | false => rw [List.filter_cons_of_neg (by rw [hp]; simp)]; rfl
theorem jM (c : Nat) : bt 0 c = ((List.range c).map fun (k : Nat) => (k : Int)).map .int := by
  unfold bt
  rw [List.map_map]
  apply List.map_congr_left
  intro k _
  simp
def aW (ps : List P4) (i : Int) : List Int := (ps[i.toNat]?.map (·.ns)).getD []
theorem iL {ps : List P4} {i : Int} (h0 : 0 ≤ i) (h1 : i < ps.length) : bq (gD ps) (.int i) = .ok (ps[i.toNat]'(by omega)).d := by
  rw [sE h0 (by simpa using h1)]
  simp
theorem dc {ps : List P4} {i : Int} (h0 : 0 ≤ i) (h1 : i < ps.length) : aW ps i = (ps[i.toNat]'(by omega)).ns := by
  unfold aW
  rw [List.getElem?_eq_getElem (by omega)]
  rfl
theorem kO (p : P4) : bq p.d (.int 3) = .ok (.tuple (p.ns.map .int)) := rfl
theorem kU (p : P4) : bq p.d (.int 0) = .ok (.int p.w) := rfl
def ak (ps : List P4) (i : Int) : Int := (ps[i.toNat]?.map (·.w)).getD 0
theorem eE {ps : List P4} {i : Int} (h0 : 0 ≤ i) (h1 : i < ps.length) : ak ps i = (ps[i.toNat]'(by omega)).w := by
  unfold ak
  rw [List.getElem?_eq_getElem (by omega)]
  rfl
def bn (ps : List P4) (js : List Int) (i : Int) : List Int := (aW ps i).filter (bQ js)
def lc (ps : List P4) (js kn : List Int) (i : Int) : List Int := (bn ps js i).filter (bQ kn)
def iM (ps : List P4) (js : List Int) (who : Int) (kn : List Int) (i : Int) : Bool :=
  !bQ kn i && (decide (0 < (lc ps js kn i).length) && (decide (ak ps i = who) || decide ((lc ps js kn i).length = (bn ps js i).length)))
def dR (ps : List P4) (js : List Int) (who : Int) (kn is : List Int) : List Int := is.filter (iM ps js who kn)
def cy (ps : List P4) (js : List Int) (who r : Int) (kvs : List (Int × Int)) : List (Int × Int) := kvs ++ (dR ps js who (kvs.map (·.1)) js).map fun i => (i, r)
def gp (ps : List P4) (js : List Int) (who : Int) : Int → Nat → List (Int × Int) → List (Int × Int)
  | _, 0, kvs => kvs
  | r, n + 1, kvs => gp ps js who (r + 1) n (cy ps js who r kvs)
theorem kH : ∀ {l m : List Int}, l.Nodup → (∀ x ∈ l, x ∈ m) → l.length ≤ m.length
  | [], m, _, _ => Nat.zero_le _
  | x :: l, m, nd, h => by
    obtain ⟨n1, n2⟩ := List.nodup_cons.mp nd
    have hx := h x List.mem_cons_self
    have := kH (m := m.erase x) n2 fun y hy => (List.mem_erase_of_ne (by rintro rfl; exact n1 hy)).mpr (h y (List.mem_cons_of_mem _ hy))
    rw [List.length_erase_of_mem hx] at this
    have hp := List.length_pos_of_mem hx
    rw [List.length_cons]
    omega
structure iR (js : List Int) (kvs : List (Int × Int)) : Prop where
  nd : (kvs.map (·.1)).Nodup
  sub : ∀ x ∈ kvs.map (·.1), x ∈ js
theorem iR.len {js : List Int} {kvs : List (Int × Int)} (h : iR js kvs) (nj : js.Nodup) : kvs.length ≤ js.length := by
  have := kH h.nd h.sub
  simpa using this
theorem jP (ps : List P4) (js : List Int) (who r : Int) (kvs : List (Int × Int)) : (cy ps js who r kvs).map (·.1) = kvs.map (·.1) ++ dR ps js who (kvs.map (·.1)) js := by
  unfold cy
  rw [List.map_append, List.map_map]
  congr 1
  exact List.map_id _
theorem mL {ps : List P4} {js : List Int} {who : Int} {kn is : List Int} {x : Int} (h : x ∈ dR ps js who kn is) : x ∈ is ∧ x ∉ kn := by
  obtain ⟨h1, h2⟩ := List.mem_filter.mp h
  refine ⟨h1, fun z => ?_⟩
  unfold iM at h2
  rw [bo.mpr z] at h2
  simp at h2
theorem iR.round {ps : List P4} {js : List Int} {who r : Int} {kvs : List (Int × Int)} (h : iR js kvs) (nj : js.Nodup) : iR js (cy ps js who r kvs) := by
  refine ⟨?_, fun x hx => ?_⟩
  · rw [jP, List.nodup_append]
    refine ⟨h.nd, List.Pairwise.filter _ nj, fun a ha b hb e => ?_⟩
    subst e
    exact (mL hb).2 ha
  · rw [jP, List.mem_append] at hx
    rcases hx with z | z
    · exact h.sub x z
    · exact (mL z).1
theorem ke (ps : List P4) (js : List Int) (who : Int) : ∀ (n : Nat) (r : Int) (kvs : List (Int × Int)), gp ps js who r (n + 1) kvs = cy ps js who (r + n) (gp ps js who r n kvs)
  | 0, r, kvs => by
    show cy ps js who r kvs = cy ps js who (r + ((0 : Nat) : Int)) kvs
    simp
  | n + 1, r, kvs => by
    show gp ps js who (r + 1) (n + 1) (cy ps js who r kvs) = _
    rw [ke ps js who n (r + 1)]
    show cy ps js who (r + 1 + n) _ = cy ps js who (r + ((n + 1 : Nat) : Int)) _
    rw [show r + 1 + (n : Int) = r + ((n + 1 : Nat) : Int) by omega]
    rfl
def aK (ps : List P4) (js : List Int) (who : Int) (gs : List Int) : Nat → List Int
  | 0 => gs
  | m + 1 => aK ps js who gs m ++ dR ps js who (aK ps js who gs m) js
def uT (ps : List P4) (js : List Int) (who : Int) (gs : List Int) (m : Nat) : List (Int × Int) := gp ps js who 1 m (gs.map fun i => (i, 0))
theorem l5 (ps : List P4) (js : List Int) (who : Int) (gs : List Int) (m : Nat) : uT ps js who gs (m + 1) = cy ps js who (m + 1) (uT ps js who gs m) := by
  unfold uT
  rw [ke]
  congr 1
  omega
theorem ed (ps : List P4) (js : List Int) (who : Int) (gs : List Int) : ∀ m, (uT ps js who gs m).map (·.1) = aK ps js who gs m
  | 0 => by
    show (gs.map fun i => ((i, 0) : Int × Int)).map (·.1) = gs
    rw [List.map_map]
    exact List.map_id _
  | m + 1 => by
    rw [l5, jP, ed ps js who gs m]
    rfl
def look (kvs : List (Int × Int)) (i : Int) : Option Int := (kvs.find? fun q => decide (q.1 = i)).map (·.2)
theorem kZ (a b : List (Int × Int)) (i : Int) : look (a ++ b) i = (look a i).or (look b i) := by
  unfold look
  rw [List.find?_append]
  cases a.find? _ <;> rfl
theorem fM {kvs : List (Int × Int)} {i : Int} : look kvs i = none ↔ i ∉ kvs.map (·.1) := by
  unfold look
  rw [Option.map_eq_none_iff, List.find?_eq_none]
  constructor
  · intro h z
    obtain ⟨q, hq, e⟩ := List.mem_map.mp z
    exact h q hq (decide_eq_true e)
  · intro h q hq e
    exact h (List.mem_map.mpr ⟨q, hq, of_decide_eq_true e⟩)
theorem h8 (r : Int) (i : Int) : ∀ l : List Int, look (l.map fun j => (j, r)) i = if i ∈ l then some r else none
  | [] => rfl
  | j :: l => by
    have ih := h8 r i l
    unfold look at ih ⊢
    by_cases h : j = i
    · subst h
      rw [List.map_cons, List.find?_cons_of_pos (by simp)]
      simp
    · rw [List.map_cons, List.find?_cons_of_neg (by simpa using h), ih]
      by_cases h2 : i ∈ l
      · simp [h2]
      · have : ¬ (i = j) := fun z => h z.symm
        simp [h2, this]
section
variable {ps : List P4} {js : List Int} {who : Int} {gs : List Int}
theorem jc {i : Int} {k : Nat} (h : i ∈ aK ps js who gs k) : ∀ {m : Nat}, k ≤ m → i ∈ aK ps js who gs m
  | 0, hm => by have : k = 0 := by omega
                subst this; exact h
  | m + 1, hm => by
    by_cases e : k = m + 1
    · subst e; exact h
    · show i ∈ aK ps js who gs m ++ _
      exact List.mem_append_left _ (jc h (by omega))
theorem eP {i : Int} : ∀ {m : Nat} {q : Int}, look (uT ps js who gs m) i = some q ↔ ∃ k : Nat, q = k ∧ k ≤ m ∧ i ∈ aK ps js who gs k ∧ (k = 0 ∨ i ∉ aK ps js who gs (k - 1))
  | 0, q => by
    show look (gs.map fun j => (j, 0)) i = some q ↔ _
    rw [h8]
    constructor
    · intro h
      split at h
      · rename_i hi
        cases h
        exact ⟨0, rfl, Nat.le_refl _, hi, .inl rfl⟩
      · cases h
    · rintro ⟨k, rfl, hk, hi, _⟩
      have : k = 0 := by omega
      subst this
      rw [if_pos (show i ∈ gs from hi)]
      rfl
  | m + 1, q => by
    have ih := fun q => eP (i := i) (m := m) (q := q)
    have e : uT ps js who gs (m + 1) = uT ps js who gs m ++ (dR ps js who (aK ps js who gs m) js).map fun j => (j, ((m + 1 : Nat) : Int)) := by
      rw [l5]
      unfold cy
      rw [ed]
      rfl
    rw [e, kZ, h8]
    by_cases hi : i ∈ aK ps js who gs m
    · cases h0 : look (uT ps js who gs m) i with
      | none => rw [fM, ed] at h0; exact (h0 hi).elim
      | some q0 =>
        rw [Option.some_or, ← h0, ih q]
        constructor
        · rintro ⟨k, a, b, c, d⟩
          exact ⟨k, a, by omega, c, d⟩
        · rintro ⟨k, a, b, c, d⟩
          refine ⟨k, a, ?_, c, d⟩
          by_cases hk : k = m + 1
          · subst hk
            rcases d with d | d
            · omega
            · exact (d hi).elim
          · omega
    · have h0 : look (uT ps js who gs m) i = none := by rw [fM, ed]; exact hi
      rw [h0, Option.none_or]
      constructor
      · intro h
        split at h
        · rename_i hn
          cases h
          exact ⟨m + 1, rfl, Nat.le_refl _, List.mem_append_right _ hn, .inr hi⟩
        · cases h
      · rintro ⟨k, rfl, b, c, d⟩
        have hk : k = m + 1 := by
          by_cases hk : k = m + 1
          · exact hk
          · exact (hi (jc c (by omega))).elim
        subst hk
        have c' : i ∈ aK ps js who gs m ++ dR ps js who (aK ps js who gs m) js := c
        rw [if_pos ((List.mem_append.mp c').elim (fun z => (hi z).elim) id)]
theorem tx {k : Nat} (h : dR ps js who (aK ps js who gs k) js = []) : ∀ d, aK ps js who gs (k + d) = aK ps js who gs k
  | 0 => rfl
  | d + 1 => by
    show aK ps js who gs (k + d) ++ dR ps js who (aK ps js who gs (k + d)) js = _
    rw [tx h d, h, List.append_nil]
theorem om (ng : gs.Nodup) (hg : ∀ x ∈ gs, x ∈ js) (nj : js.Nodup) : ∀ m, iR js (uT ps js who gs m)
  | 0 => ⟨by rw [ed]; exact ng, fun x hx => by rw [ed] at hx; exact hg x hx⟩
  | m + 1 => by rw [l5]; exact (om ng hg nj m).round nj
theorem rM (ng : gs.Nodup) (hg : ∀ x ∈ gs, x ∈ js) (nj : js.Nodup) {m : Nat} {i : Int} (h : i ∈ aK ps js who gs m) : i ∈ js := by
  have := (om (ps := ps) (who := who) ng hg nj m).sub
  rw [ed] at this
  exact this i h
theorem zw (ng : gs.Nodup) (hg : ∀ x ∈ gs, x ∈ js) (nj : js.Nodup) (m : Nat) : (aK ps js who gs m).length ≤ js.length := by
  have := (om (ps := ps) (who := who) ng hg nj m).len nj
  rw [← ed, List.length_map]
  exact this
theorem sX : ∀ m, (∀ k, k < m → dR ps js who (aK ps js who gs k) js ≠ []) → m + gs.length ≤ (aK ps js who gs m).length
  | 0, _ => by show 0 + gs.length ≤ gs.length; omega
  | m + 1, h => by
    have := sX m fun k hk => h k (by omega)
    have h1 := h m (by omega)
    have h2 := List.length_pos_iff.mpr h1
    show _ ≤ (aK ps js who gs m ++ dR ps js who (aK ps js who gs m) js).length
    rw [List.length_append]
    omega
theorem Ap (ng : gs.Nodup) (hg : ∀ x ∈ gs, x ∈ js) (nj : js.Nodup) {n : Nat} (hn : js.length ≤ n) : dR ps js who (aK ps js who gs n) js = [] := by
  by_cases h : dR ps js who (aK ps js who gs n) js = []
  · exact h
  · have := sX (ps := ps) (js := js) (who := who) (gs := gs) (n + 1) fun k hk e => h (by
      have s := tx e (n - k)
      rw [show k + (n - k) = n by omega] at s
      rw [s]; exact e)
    have := zw (ps := ps) (who := who) ng hg nj (n + 1)
    omega
theorem gw {α : Type} (p : α → Bool) : ∀ l : List α, (l.filter p).length = l.length ↔ ∀ x ∈ l, p x = true
  | [] => by simp
  | x :: l => by
    have ih := gw p l
    have le := List.length_filter_le p l
    cases h : p x with
    | true => rw [List.filter_cons_of_pos h]; simp [ih, h]
    | false => rw [List.filter_cons_of_neg (by rw [h]; simp)]; simp [h]; omega
theorem md {α : Type} (p : α → Bool) (l : List α) : 0 < (l.filter p).length ↔ ∃ x ∈ l, p x = true := by
  rw [List.length_pos_iff_exists_mem]
  simp [List.mem_filter]
theorem eW {kn : List Int} {i : Int} : iM ps js who kn i = true ↔ i ∉ kn ∧ (∃ g ∈ bn ps js i, g ∈ kn) ∧ (ak ps i = who ∨ ∀ g ∈ bn ps js i, g ∈ kn) := by
  unfold iM lc
  rw [Bool.and_eq_true, Bool.and_eq_true, Bool.or_eq_true, decide_eq_true_iff, decide_eq_true_iff, decide_eq_true_iff, md, gw, Bool.not_eq_true', ← Bool.not_eq_true, bo]
  simp only [bo]
def rK (ps : List P4) (js : List Int) (who : Int) (gs : List Int) (i : Int) : Option Int := look (uT ps js who gs ps.length) i
structure rZ (ps : List P4) (js : List Int) (who : Int) (gs : List Int) (rk : Int → Option Int) : Prop where
  nneg : ∀ i q, rk i = some q → 0 ≤ q
  sub : ∀ i q, rk i = some q → i ∈ js
  zero : ∀ i, rk i = some 0 ↔ i ∈ gs
  own : ∀ i q, rk i = some q → 0 < q → ak ps i = who → ∃ g ∈ bn ps js i, rk g = some (q - 1)
  low : ∀ i q g t, rk i = some q → 0 < q → ak ps i = who → g ∈ bn ps js i → rk g = some t → q - 1 ≤ t
  oth : ∀ i q, rk i = some q → 0 < q → ak ps i ≠ who → (∃ g, g ∈ bn ps js i) ∧ ∀ g ∈ bn ps js i, ∃ t, rk g = some t ∧ t < q
  outO : ∀ i, i ∈ js → rk i = none → ak ps i = who → ∀ g ∈ bn ps js i, rk g = none
  outX : ∀ i, i ∈ js → rk i = none → ak ps i ≠ who → (∃ g, g ∈ bn ps js i) → ∃ g ∈ bn ps js i, rk g = none
theorem tw (ng : gs.Nodup) (hg : ∀ x ∈ gs, x ∈ js) (nj : js.Nodup) (hn : js.length ≤ ps.length) : rZ ps js who gs (rK ps js who gs) := by
  have ex : ∀ {i k}, i ∈ aK ps js who gs k → k ≤ ps.length → ∃ t : Nat, t ≤ k ∧ rK ps js who gs i = some (t : Int) := fun {i} => by
    intro k
    induction k with
    | zero => exact fun h _ => ⟨0, Nat.le_refl _, eP.mpr ⟨0, rfl, by omega, h, .inl rfl⟩⟩
    | succ k ih =>
      intro h hk
      by_cases h1 : i ∈ aK ps js who gs k
      · obtain ⟨t, a, b⟩ := ih h1 (by omega)
        exact ⟨t, by omega, b⟩
      · exact ⟨k + 1, Nat.le_refl _, eP.mpr ⟨k + 1, rfl, hk, h, .inr h1⟩⟩
  have nm : ∀ {i}, rK ps js who gs i = none ↔ i ∉ aK ps js who gs ps.length := fun {i} => by
    unfold rK; rw [fM, ed]
  have fix := Ap (ps := ps) (who := who) ng hg nj hn
  have new : ∀ {i k}, i ∈ aK ps js who gs (k + 1) → i ∉ aK ps js who gs k → iM ps js who (aK ps js who gs k) i = true := fun {i k} h1 h2 => by
    have h1' : i ∈ aK ps js who gs k ++ dR ps js who (aK ps js who gs k) js := h1
    rcases List.mem_append.mp h1' with z | z
    · exact (h2 z).elim
    · exact (List.mem_filter.mp z).2
  have not : ∀ {i k}, i ∈ js → i ∉ aK ps js who gs (k + 1) → ¬ iM ps js who (aK ps js who gs k) i = true := fun {i k} h1 h2 h3 =>
    h2 (show i ∈ aK ps js who gs k ++ dR ps js who (aK ps js who gs k) js from List.mem_append_right _ (List.mem_filter.mpr ⟨h1, h3⟩))
  have pos : ∀ {i q}, rK ps js who gs i = some q → 0 < q → ∃ k : Nat, q = ((k + 1 : Nat) : Int) ∧ k + 1 ≤ ps.length ∧ i ∈ aK ps js who gs (k + 1) ∧ i ∉ aK ps js who gs k := fun {i q} h hq => by
    obtain ⟨k, rfl, b, c, d⟩ := eP.mp h
    cases k with
    | zero => omega
    | succ k =>
      rcases d with d | d
      · omega
      · exact ⟨k, rfl, b, c, d⟩
  refine ⟨fun i q h => ?_, fun i q h => ?_, fun i => ?_, fun i q h hq ho => ?_, fun i q g t h hq ho hg' ht => ?_, fun i q h hq ho => ?_, fun i hi h ho g hg' => ?_, fun i hi h ho hw => ?_⟩
  · obtain ⟨k, rfl, _⟩ := eP.mp h; omega
  · obtain ⟨k, rfl, _, c, _⟩ := eP.mp h; exact rM ng hg nj c
  · constructor
    · intro h
      obtain ⟨k, e, _, c, _⟩ := eP.mp h
      have : k = 0 := by omega
      subst this
      exact c
    · exact fun h => eP.mpr ⟨0, rfl, by omega, h, .inl rfl⟩
  · obtain ⟨k, rfl, b, c, d⟩ := pos h hq
    obtain ⟨_, ⟨g, hg1, hg2⟩, _⟩ := eW.mp (new c d)
    obtain ⟨t, ht, hr⟩ := ex hg2 (by omega)
    refine ⟨g, hg1, ?_⟩
    by_cases e : t = k
    · subst e; rw [hr]; congr 1; omega
    · exfalso
      cases k with
      | zero => omega
      | succ k =>
        obtain ⟨t', e', _, c', _⟩ := eP.mp hr
        have e'' : t = t' := by omega
        subst e''
        exact not (rM ng hg nj c) d (eW.mpr ⟨fun z => d (jc z (by omega)), ⟨g, hg1, jc c' (by omega)⟩, .inl ho⟩)
  · obtain ⟨k, rfl, b, c, d⟩ := pos h hq
    obtain ⟨t', rfl, _, c', _⟩ := eP.mp ht
    by_cases e : k ≤ t'
    · omega
    · exfalso
      cases k with
      | zero => omega
      | succ k => exact not (rM ng hg nj c) d (eW.mpr ⟨fun z => d (jc z (by omega)), ⟨g, hg', jc c' (by omega)⟩, .inl ho⟩)
  · obtain ⟨k, rfl, b, c, d⟩ := pos h hq
    obtain ⟨_, ⟨g, hg1, _⟩, o⟩ := eW.mp (new c d)
    refine ⟨⟨g, hg1⟩, fun g' hg' => ?_⟩
    obtain ⟨t, ht, hr⟩ := ex ((o.resolve_left ho) g' hg') (by omega)
    exact ⟨t, hr, by omega⟩
  · rw [nm] at h ⊢
    intro hz
    have : i ∈ dR ps js who (aK ps js who gs ps.length) js := List.mem_filter.mpr ⟨hi, eW.mpr ⟨h, ⟨g, hg', hz⟩, .inl ho⟩⟩
    rw [fix] at this
    cases this
  · rw [nm] at h
    by_cases hz : ∃ g ∈ bn ps js i, rK ps js who gs g = none
    · exact hz
    · exfalso
      have all : ∀ g ∈ bn ps js i, g ∈ aK ps js who gs ps.length := fun g hg' => by
        by_cases z : g ∈ aK ps js who gs ps.length
        · exact z
        · exact (hz ⟨g, hg', nm.mpr z⟩).elim
      obtain ⟨g, hg'⟩ := hw
      have : i ∈ dR ps js who (aK ps js who gs ps.length) js := List.mem_filter.mpr ⟨hi, eW.mpr ⟨h, ⟨g, hg', all g hg'⟩, .inr all⟩⟩
      rw [fix] at this
      cases this
end
abbrev ids (n : Nat) : List Int := (List.range n).map fun (k : Nat) => (k : Int)
theorem cv {n : Nat} {i : Int} : i ∈ ids n ↔ 0 ≤ i ∧ i < n := by
  constructor
  · intro h
    obtain ⟨k, hk, rfl⟩ := List.mem_map.mp h
    have := List.mem_range.mp hk
    omega
  · rintro ⟨h0, h1⟩
    exact List.mem_map.mpr ⟨i.toNat, List.mem_range.mpr (by omega), by omega⟩
theorem xZ (n : Nat) : (ids n).length = n := by simp
theorem sO {n k : Nat} (h : k < n) : (ids n)[k]? = some (k : Int) := by
  rw [List.getElem?_map, List.getElem?_range h]; rfl
theorem Ao (n : Nat) : (ids n).Pairwise (· < ·) := by
  rw [List.pairwise_map]
  exact (List.pairwise_lt_range).imp fun h => by omega
theorem vI {l : List Int} (h : l.Pairwise (· < ·)) : l.Nodup := h.imp fun h => by omega
def cr (f : Int → PyData) (n : Nat) : List PyData := (ids n).map f
theorem bm (f : Int → PyData) (n : Nat) : (cr f n).length = n := by unfold cr; rw [List.length_map, xZ]
theorem fD {f : Int → PyData} {n : Nat} {i : Int} (h0 : 0 ≤ i) (h1 : i < n) : (cr f n)[i.toNat]'(by rw [bm]; omega) = f i := by
  have h := sO (n := n) (k := i.toNat) (by omega)
  have : (cr f n)[i.toNat]? = some (f i) := by
    unfold cr
    rw [List.getElem?_map, h, Option.map_some]
    congr 2
    omega
  exact Option.some.inj ((List.getElem?_eq_getElem _).symm.trans this)
theorem tt {f : Int → PyData} {n : Nat} {i : Int} (h0 : 0 ≤ i) (h1 : i < n) : bq (.tuple (cr f n)) (.int i) = .ok (f i) := by
  rw [sE h0 (by rw [bm]; exact h1), fD h0 h1]
theorem vq {f : Int → PyData} {n : Nat} {i : Int} (h0 : 0 ≤ i) (h1 : i < n) : bq (.list (cr f n)) (.int i) = .ok (f i) := by
  rw [qf h0 (by rw [bm]; exact h1), fD h0 h1]
theorem cu {f g : Int → PyData} {n : Nat} (h : ∀ i : Int, 0 ≤ i → i < n → f i = g i) : cr f n = cr g n :=
  List.map_congr_left fun i hi => h i (cv.mp hi).1 (cv.mp hi).2
theorem lF {f : Int → PyData} {n : Nat} {i : Int} {v : PyData} (h0 : 0 ≤ i) (h1 : i < n) : (cr f n).set i.toNat v = cr (fun j => if j = i then v else f j) n := by
  refine List.ext_getElem (by rw [List.length_set, bm, bm]) fun k hk1 hk2 => ?_
  rw [bm] at hk2
  have e := fD (f := fun j => if j = i then v else f j) (n := n) (i := (k : Int)) (by omega) (by omega)
  have e2 := fD (f := f) (n := n) (i := (k : Int)) (by omega) (by omega)
  simp only [Int.toNat_natCast] at e e2
  rw [e, List.getElem_set]
  by_cases h : i.toNat = k
  · rw [if_pos h, if_pos (by omega)]
  · rw [if_neg h, if_neg (by omega), e2]
theorem sx (f : Int → PyData) (ρ : aG) (g : Fe) (n : Nat) (h : ∀ i : Int, 0 ≤ i → i < n → g (ρ.set 0 (.val (.int i))) = .ok (f i)) : bJ (aI 0) (fun _ => .ok true) g ρ (bt 0 n) = .ok (cr f n) := by
  have := gH g ρ 0 (fun d => match d with | .int i => f i | d => d) (bt 0 n) fun d hd => by
    unfold bt at hd
    obtain ⟨k, hk, rfl⟩ := List.mem_map.mp hd
    have := List.mem_range.mp hk
    exact h _ (by omega) (by omega)
  rw [this]
  unfold cr
  rw [jM, List.map_map]
  rfl
def oD : Option Int → PyData
  | none => .none
  | some k => .int k
theorem t6 (o : Option Int) : eA (oD o) .none = .ok (.bool o.isSome) := by cases o <;> rfl
theorem rj (o : Option Int) : j9 (oD o) .none = .ok (.bool o.isNone) := by cases o <;> rfl
def rL (k m : Nat) : List Int := (List.range m).map fun (j : Nat) => ((k + j : Nat) : Int)
theorem pM (k m : Nat) : rL k (m + 1) = (k : Int) :: rL (k + 1) m := by
  unfold rL
  rw [List.range_succ_eq_map, List.map_cons, List.map_map]
  congr 1
  apply List.map_congr_left
  intro j _
  show ((k + (j + 1) : Nat) : Int) = ((k + 1 + j : Nat) : Int)
  omega
theorem o7 (n : Nat) : rL 0 n = ids n := by
  unfold rL
  apply List.map_congr_left
  intro j _
  simp
theorem iH {t : aG → R Bool} {ρ : aG} {p : Int → Bool} {g : Int → PyData} : ∀ (m k : Nat), (∀ j : Nat, k ≤ j → j < k + m → t (.val (.int j) :: .val (g j) :: ρ) = .ok (p j)) →
    bJ (dQ 0 1) t (ab 0) (.non :: .non :: ρ) (cX k ((rL k m).map g)) = .ok (((rL k m).filter p).map .int)
  | 0, k, _ => by unfold rL; simp [cX, dg]
  | m + 1, k, h => by
    rw [pM, List.map_cons]
    have e : cX k (g k :: (rL (k + 1) m).map g) = .tuple [.int k, g k] :: cX (k + 1) ((rL (k + 1) m).map g) := rfl
    rw [e, jT, iH m (k + 1) fun j h1 h2 => h j (by omega) (by omega)]
    have hk := h k (Nat.le_refl _) (by omega)
    simp only [List.set_cons_zero, List.set_cons_succ, hk, R.ok_bind, aj]
    cases hp : p k with
    | true => rw [List.filter_cons_of_pos hp]; rfl
    | false => rw [List.filter_cons_of_neg (by rw [hp]; simp)]; rfl
theorem lP (t : aG → R Bool) (g : Fs) (n : Nat) (ρ : aG) : cp t g (n + 1) ρ = (t ρ >>= fun b => if b = true then g ρ >>= mB (cp t g n) else .ok (.nx ρ)) := by
  rw [cp]
  congr 1
def qK (s : PyData) (js : List Int) : Prop := s = .tuple (js.map .int) ∨ s = .list (js.map .int)
theorem qK.inn {s : PyData} {js : List Int} (h : qK s js) (neg : Bool) (k : Int) : iG neg (.int k) s = .ok (.bool (if neg then !bQ js k else bQ js k)) := by
  rcases h with rfl | rfl
  · exact zU ..
  · exact xD ..
theorem qK.seq {s : PyData} {js : List Int} (h : qK s js) : hR s = .ok (js.map .int) := by
  rcases h with rfl | rfl <;> rfl
theorem qK.len {s : PyData} {js : List Int} (h : qK s js) : cZ s = .ok (.int js.length) := by
  rcases h with rfl | rfl <;> simp
theorem nH {s t : PyData} {ns js : List Int} (hs : qK s ns) (ht : qK t js) (hl : ns.length ≤ 1000) : bN [s, t] = .ok (.tuple ((ns.filter (bQ js)).map .int)) := by
  have hcmp := bU (t := tE (e2 (iG false) (ab 0) (ab 1))) (ρ := [.val t]) (p := bQ js) ns fun k hk => by simp [ht.inn]
  unfold bN ma
  refine dP ?_
  rw [show ([s, t].map aV.val ++ List.replicate (2 - [s, t].length) aV.non) = [.val s, .val t] from rfl]
  rw [cC, cA, bp, show aw 1 [1] [.val s, .val t] = [.non, .val t] from rfl]
  simp only [bI, aj, R.ok_bind, hs.seq, cm]
  rw [if_pos (by rw [List.length_map]; exact bS hl), hcmp]
  rfl
theorem l9 {s t : PyData} {ns js : List Int} (hs : qK s ns) (ht : qK t js) (hl : ns.length ≤ 1000) : bw [s, t] = .ok (.tuple ((ns.filter fun i => !bQ js i).map .int)) := by
  have hcmp := bU (t := tE (e2 (iG true) (ab 0) (ab 1))) (ρ := [.val t]) (p := fun i => !bQ js i) ns fun k hk => by simp [ht.inn]
  unfold bw kQ
  refine dP ?_
  rw [show ([s, t].map aV.val ++ List.replicate (2 - [s, t].length) aV.non) = [.val s, .val t] from rfl]
  rw [cC, cA, bp, show aw 1 [1] [.val s, .val t] = [.non, .val t] from rfl]
  simp only [bI, aj, R.ok_bind, hs.seq, cm]
  rw [if_pos (by rw [List.length_map]; exact bS hl), hcmp]
  rfl
structure cN (n : Nat) (js : List Int) : Prop where
  lt : js.Pairwise (· < ·)
  inn : ∀ x ∈ js, 0 ≤ x ∧ x < n
theorem cN.nd {n : Nat} {js : List Int} (h : cN n js) : js.Nodup := vI h.lt
theorem cN.len {n : Nat} {js : List Int} (h : cN n js) : js.length ≤ n := by
  have := jN js 0 n h.lt h.inn
  rcases this with z | z
  · rw [z]; simp
  · omega
theorem cN.filter {n : Nat} {js : List Int} (h : cN n js) (p : Int → Bool) : cN n (js.filter p) := ⟨h.lt.filter _, fun x hx => h.inn x (List.mem_filter.mp hx).1⟩
theorem cN.ids (n : Nat) : cN n (ids n) := ⟨Ao n, fun x hx => cv.mp hx⟩
def fu (ps : List P4) (js : List Int) : Prop := ∀ i ∈ js, ∃ g, g ∈ bn ps js i
theorem o2 {p : P4} {ws : List Int} {who : Int} {f : Int → Option Int} {n : Nat} (hw : ∀ g ∈ ws, 0 ≤ g ∧ g < n) (hl : ws.length ≤ 1000) :
    bB [p.d, .tuple (ws.map .int), .int who, .list (cr (fun i => oD (f i)) n)] = .ok (.bool (if p.w = who then decide (0 < (ws.filter fun g => (f g).isSome).length) else decide ((ws.filter fun g => (f g).isSome).length = ws.length))) := by
  have hcmp := bU (t := tE (e2 (eA) (e2 bq (ab 1) (ab 0)) (eC .none))) (ρ := [.val (.list (cr (fun i => oD (f i)) n))]) (p := fun g => (f g).isSome) ws fun k hk => by
    simp only [List.set_cons_zero, bZ, bc, aj, ai, bz, R.ok_bind, vq (hw k hk).1 (hw k hk).2, t6, ci]
  unfold bB iZ
  refine dP ?_
  rw [show ([p.d, .tuple (ws.map .int), .int who, .list (cr (fun i => oD (f i)) n)].map aV.val ++ List.replicate (5 - [p.d, .tuple (ws.map .int), .int who, .list (cr (fun i => oD (f i)) n)].length) aV.non) = [.val p.d, .val (.tuple (ws.map .int)), .val (.int who), .val (.list (cr (fun i => oD (f i)) n)), .non] from rfl]
  rw [aE (ρ' := [.val p.d, .val (.tuple (ws.map .int)), .val (.int who), .val (.list (cr (fun i => oD (f i)) n)), .val (.list ((ws.filter fun g => (f g).isSome).map .int))]) (by
    rw [bh, bp, show aw 1 [3] [.val p.d, .val (.tuple (ws.map .int)), .val (.int who), .val (.list (cr (fun i => oD (f i)) n)), .non] = [.non, .val (.list (cr (fun i => oD (f i)) n))] from rfl]
    simp only [bI, aj, ai, R.ok_bind, dL, cm]
    rw [if_pos (by rw [List.length_map]; exact bS hl), hcmp]
    rfl)]
  by_cases h : p.w = who
  · rw [if_pos h]
    refine pF ?_
    simp only [cU, bZ, bc, cA, aj, ai, bz, R.ok_bind, kU, gf, ci, h, decide_true, if_true, cC, lX, mm, List.length_map]
    congr 3
    simp
  · rw [if_neg h, aE (ρ' := [.val p.d, .val (.tuple (ws.map .int)), .val (.int who), .val (.list (cr (fun i => oD (f i)) n)), .val (.list ((ws.filter fun g => (f g).isSome).map .int))]) (by
      simp only [cU, bZ, bc, cA, aj, ai, bz, R.ok_bind, kU, gf, ci, h, decide_false]; rfl)]
    simp only [cC, bc, cA, aj, ai, R.ok_bind, lX, pe, gf, List.length_map]
    congr 3
    exact decide_eq_decide.mpr (by omega)
theorem zj {c : Int} (h0 : 0 ≤ c) (h1 : c ≤ 1000) : oO [.int c] = .ok (bt 0 c.toNat) := by
  show (if -(2 ^ 62) ≤ c ∧ c < 2 ^ 62 then R.ok (bt 0 c.toNat) else .no) = _
  rw [if_pos (by omega)]
def sF : Fs := (aL (qS 6 (fun a b => a + b) (eC (.int 1))) (aL (bG 8 (bC (cY (ab 1)) 1 [5] (aI 0) (tE (e2 (j9) (e2 bq (eS 1) (ab 0)) (eC .none))) (ab 0))) (aL (bG 7 (bC (cY (ab 8)) 1 [0, 4, 2, 5] (aI 0) (tE (jv 4 (aD bB (ae (e2 bq (ab 1) (ab 0)) (ae (e2 bq (ab 2) (ab 0)) (ae (ab 3) (ae (ab 4) aF))))))) (ab 0))) (gy (ir (cY (ab 7)) (aI 9) (gh 5 (ab 9) (ab 6)))))))
abbrev kr (ps : List P4) (js : List Int) : PyData := .list (cr (fun i => .tuple ((bn ps js i).map .int)) ps.length)
abbrev wp (kvs : List (Int × Int)) (n : Nat) : List PyData := cr (fun i => oD (look kvs i)) n
abbrev tR (ps : List P4) (s : PyData) (js : List Int) (who : Int) (g : PyData) (kvs : List (Int × Int)) (r : Int) (fs : List Int) (c8 c9 : aV) : aG :=
  [.val (gD ps), .val s, .val (.int who), .val g, .val (kr ps js), .own (.list (wp kvs ps.length)), .val (.int r), .val (.list (fs.map .int)), c8, c9]
theorem wF {kvs : List (Int × Int)} {i r : Int} (h : i ∉ kvs.map (·.1)) (j : Int) : look (kvs ++ [(i, r)]) j = if j = i then some r else look kvs j := by
  rw [kZ]
  by_cases e : j = i
  · subst e
    rw [if_pos rfl, fM.mpr h, Option.none_or]
    unfold look
    simp
  · rw [if_neg e]
    have : look [(i, r)] j = none := by
      unfold look
      have : ¬ i = j := fun z => e z.symm
      simp [this]
    rw [this, Option.or_none]
theorem yY {ps : List P4} {s : PyData} {js : List Int} {who : Int} {g : PyData} {r : Int} {fs0 : List Int} {c8 : aV} : ∀ (fs : List Int) (kvs : List (Int × Int)) (c9 : aV), fs.Nodup → (∀ x ∈ fs, x ∉ kvs.map (·.1)) → (∀ x ∈ fs, 0 ≤ x ∧ x < ps.length) →
    ∃ c9', dO (aI 9) (gh 5 (ab 9) (ab 6)) (fs.map .int) (tR ps s js who g kvs r fs0 c8 c9) = .ok (.nx (tR ps s js who g (kvs ++ fs.map fun i => (i, r)) r fs0 c8 c9'))
  | [], kvs, c9, _, _, _ => ⟨c9, by rw [List.map_nil, dE]; simp⟩
  | i :: fs, kvs, c9, nd, hn, hb => by
    obtain ⟨n1, n2⟩ := List.nodup_cons.mp nd
    have hi := hb i List.mem_cons_self
    obtain ⟨c9', e⟩ := yY (ps := ps) (s := s) (js := js) (who := who) (g := g) (r := r) (fs0 := fs0) (c8 := c8) fs (kvs ++ [(i, r)]) (.val (.int i)) n2 (fun x hx => by
      rw [List.map_append, List.mem_append]
      rintro (z | z)
      · exact hn x (List.mem_cons_of_mem _ hx) z
      · simp at z
        subst z
        exact n1 hx) fun x hx => hb x (List.mem_cons_of_mem _ hx)
    refine ⟨c9', ?_⟩
    rw [List.map_cons, dm]
    rw [show ((tR ps s js who g kvs r fs0 c8 c9).set 9 (.val (.int i))) = tR ps s js who g kvs r fs0 c8 (.val (.int i)) from rfl]
    rw [lL (ds := wp kvs ps.length) (n := i) (v := .int r) rfl rfl rfl hi.1 (by rw [bm]; exact hi.2), R.ok_bind, cP, lF hi.1 hi.2]
    rw [cu (g := fun j => oD (look (kvs ++ [(i, r)]) j)) fun j _ _ => by
      rw [wF (hn i List.mem_cons_self)]
      split <;> rfl]
    refine Eq.trans ?_ (e.trans (by simp))
    rfl
theorem mF {kvs : List (Int × Int)} {i : Int} : (look kvs i).isNone = !bQ (kvs.map (·.1)) i := by
  cases h : bQ (kvs.map (·.1)) i with
  | true =>
    cases h2 : look kvs i with
    | none => exact (fM.mp h2 (bo.mp h)).elim
    | some q => rfl
  | false =>
    rw [fM.mpr fun z => by rw [bo.mpr z] at h; cases h]
    rfl
theorem re {kvs : List (Int × Int)} {i : Int} : (look kvs i).isSome = bQ (kvs.map (·.1)) i := by
  have := mF (kvs := kvs) (i := i)
  cases h : look kvs i <;> rw [h] at this <;> cases h2 : bQ (kvs.map (·.1)) i <;> rw [h2] at this <;> simp_all
theorem qM {ps : List P4} {js : List Int} {who : Int} {kn : List Int} {i : Int} (hw : ∃ g, g ∈ bn ps js i) :
    (!bQ kn i && (if ak ps i = who then decide (0 < (lc ps js kn i).length) else decide ((lc ps js kn i).length = (bn ps js i).length))) = iM ps js who kn i := by
  obtain ⟨g, hg⟩ := hw
  have hp := List.length_pos_of_mem hg
  unfold iM
  by_cases ho : ak ps i = who
  · simp [ho]
  · by_cases he : (lc ps js kn i).length = (bn ps js i).length
    · simp [ho, he, hp]
    · simp [ho, he]
theorem v4 {ps : List P4} (hl : ∀ p ∈ ps, p.ns.length ≤ 100) (hgo : ∀ p ∈ ps, ∀ x ∈ p.ns, 0 ≤ x ∧ x < ps.length) (hp : ps.length ≤ 24) {s : PyData} {js : List Int} (hs : qK s js) (hj : cN ps.length js) (hw : fu ps js) {who : Int} {g : PyData} {kvs : List (Int × Int)} {r : Int} {fs : List Int} (c8 c9 : aV) :
    ∃ c8' c9', sF (tR ps s js who g kvs r fs c8 c9) = .ok (.nx (tR ps s js who g (cy ps js who (r + 1) kvs) (r + 1) (dR ps js who (kvs.map (·.1)) js) c8' c9')) := by
  have hlen := hj.len
  have h1 := bU (t := tE (e2 (j9) (e2 bq (eS 1) (ab 0)) (eC .none))) (ρ := [.own (.list (wp kvs ps.length))]) (p := fun i => !bQ (kvs.map (·.1)) i) js fun k hk => by
    simp only [List.set_cons_zero, bZ, bc, aj, oS, oU, bz, R.ok_bind, vq (hj.inn k hk).1 (hj.inn k hk).2, rj, ci, mF]
  have h2 := bU (t := tE (jv 4 (aD bB (ae (e2 bq (ab 1) (ab 0)) (ae (e2 bq (ab 2) (ab 0)) (ae (ab 3) (ae (ab 4) aF))))))) (ρ := [.val (gD ps), .val (kr ps js), .val (.int who), .own (.list (wp kvs ps.length))])
    (p := iM ps js who (kvs.map (·.1))) (js.filter fun i => !bQ (kvs.map (·.1)) i) fun k hk => by
    obtain ⟨hkj, hkn⟩ := List.mem_filter.mp hk
    have hb := hj.inn k hkj
    have hg := dc hb.1 hb.2
    have hwl : (bn ps js k).length ≤ 1000 := by
      refine Nat.le_trans (List.length_filter_le ..) ?_
      rw [hg]
      have := hl _ (List.getElem_mem (show k.toNat < ps.length by omega))
      omega
    have hwb : ∀ x ∈ bn ps js k, 0 ≤ x ∧ x < ps.length := fun x hx => by
      have := (List.mem_filter.mp hx).1
      rw [hg] at this
      exact hgo _ (List.getElem_mem _) x this
    have hf := o2 (p := ps[k.toNat]'(by omega)) (who := who) (f := look kvs) hwb hwl
    have ho := eE hb.1 hb.2
    have hgk : ((bn ps js k).filter fun g => (look kvs g).isSome) = lc ps js (kvs.map (·.1)) k := by
      unfold lc
      congr 1
      funext g
      exact re
    rw [hgk, ← ho] at hf
    have e4 : jv 4 (aD bB (ae (e2 bq (ab 1) (ab 0)) (ae (e2 bq (ab 2) (ab 0)) (ae (ab 3) (ae (ab 4) aF))))) [.val (.int k), .val (gD ps), .val (kr ps js), .val (.int who), .own (.list (wp kvs ps.length))]
      = (lD (aD bB (ae (e2 bq (ab 1) (ab 0)) (ae (e2 bq (ab 2) (ab 0)) (ae (ab 3) (ae (ab 4) aF)))) [.val (.int k), .val (gD ps), .val (kr ps js), .val (.int who), .val (.list (wp kvs ps.length))]) >>= nZ) := rfl
    have hc := qM (who := who) (kn := kvs.map (·.1)) (hw k hkj)
    rw [hkn, Bool.true_and] at hc
    rw [List.set_cons_zero, bZ, e4, aY]
    simp only [aH, aM, bc, aj, ai, R.ok_bind, iL hb.1 hb.2, vq hb.1 hb.2]
    rw [hf, hc]
    rfl
  have hfil : (js.filter fun i => !bQ (kvs.map (·.1)) i).filter (iM ps js who (kvs.map (·.1))) = dR ps js who (kvs.map (·.1)) js := by
    unfold dR
    rw [List.filter_filter]
    apply List.filter_congr
    intro x _
    unfold iM
    cases bQ (kvs.map (·.1)) x <;> simp
  rw [hfil] at h2
  have hnew : cN ps.length (dR ps js who (kvs.map (·.1)) js) := hj.filter _
  obtain ⟨c9', e⟩ := yY (ps := ps) (s := s) (js := js) (who := who) (g := g) (r := r + 1) (fs0 := dR ps js who (kvs.map (·.1)) js) (c8 := .val (.list ((js.filter fun i => !bQ (kvs.map (·.1)) i).map .int))) (dR ps js who (kvs.map (·.1)) js) kvs c9 hnew.nd (fun x hx => (mL hx).2) hnew.inn
  refine ⟨.val (.list ((js.filter fun i => !bQ (kvs.map (·.1)) i).map .int)), c9', ?_⟩
  unfold sF
  rw [aE (ρ' := tR ps s js who g kvs (r + 1) fs c8 c9) (by simp only [yg, ai, aj, bz, R.ok_bind, Bi]; rfl)]
  rw [aE (ρ' := tR ps s js who g kvs (r + 1) fs (.val (.list ((js.filter fun i => !bQ (kvs.map (·.1)) i).map .int))) c9) (by
    rw [bh, bp, show aw 1 [5] (tR ps s js who g kvs (r + 1) fs c8 c9) = [.non, .own (.list (wp kvs ps.length))] from rfl]
    simp only [bI, ai, aj, R.ok_bind, hs.seq, cm]
    rw [if_pos (by rw [List.length_map]; exact bS (by omega)), h1]
    rfl)]
  rw [aE (ρ' := tR ps s js who g kvs (r + 1) (dR ps js who (kvs.map (·.1)) js) (.val (.list ((js.filter fun i => !bQ (kvs.map (·.1)) i).map .int))) c9) (by
    rw [bh, bp, show aw 1 [0, 4, 2, 5] (tR ps s js who g kvs (r + 1) fs (.val (.list ((js.filter fun i => !bQ (kvs.map (·.1)) i).map .int))) c9) = [.non, .val (gD ps), .val (kr ps js), .val (.int who), .own (.list (wp kvs ps.length))] from rfl]
    simp only [bI, ai, aj, R.ok_bind, iD, cm]
    rw [if_pos (by rw [List.length_map]; exact bS (Nat.le_trans (List.length_filter_le ..) (by omega))), h2]
    rfl)]
  rw [dH, em, bI, ai, ai, ai, ai, ai, ai, ai, aj, R.ok_bind, iD, R.ok_bind, e]
  rfl
theorem eo {ps : List P4} {js : List Int} {who : Int} {kvs : List (Int × Int)} (h : dR ps js who (kvs.map (·.1)) js = []) : ∀ (n : Nat) (r : Int), gp ps js who r n kvs = kvs
  | 0, r => rfl
  | n + 1, r => by
    show gp ps js who (r + 1) n (cy ps js who r kvs) = kvs
    have : cy ps js who r kvs = kvs := by unfold cy; rw [h]; simp
    rw [this, eo h n]
theorem zg {ps : List P4} (hl : ∀ p ∈ ps, p.ns.length ≤ 100) (hgo : ∀ p ∈ ps, ∀ x ∈ p.ns, 0 ≤ x ∧ x < ps.length) (hp : ps.length ≤ 24) {s : PyData} {js : List Int} (hs : qK s js) (hj : cN ps.length js) (hw : fu ps js) {who : Int} {g : PyData} :
    ∀ (k n : Nat) (kvs : List (Int × Int)) (r : Int) (fs : List Int) (c8 c9 : aV), iR js kvs → js.length - kvs.length ≤ k → (fs = [] → dR ps js who (kvs.map (·.1)) js = []) → k + 3 ≤ n →
    ∃ K r' fs' c8' c9', cp (tE (e2 (eu pV) (e1 cZ (ab 7)) (eC (.int 0)))) sF n (tR ps s js who g kvs r fs c8 c9) = .ok (.nx (tR ps s js who g K r' fs' c8' c9')) ∧ ∀ N, k + 1 ≤ N → gp ps js who (r + 1) N kvs = K
  | k, 0, kvs, r, fs, c8, c9, _, _, _, h => by omega
  | k, n + 1, kvs, r, fs, c8, c9, hk, hm, hf, hn => by
    rw [lP]
    have ht : tE (e2 (eu pV) (e1 cZ (ab 7)) (eC (.int 0))) (tR ps s js who g kvs r fs c8 c9) = .ok (decide (0 < fs.length)) := by
      simp only [bZ, bc, cA, ai, aj, bz, R.ok_bind, lX, mm, ci, List.length_map]
      congr 1
      simp
    rw [ht, R.ok_bind]
    by_cases h0 : fs = []
    · have hs0 := hf h0
      subst h0
      exact ⟨kvs, r, [], c8, c9, rfl, fun N _ => eo hs0 N _⟩
    · rw [if_pos (decide_eq_true (List.length_pos_iff.mpr h0))]
      obtain ⟨c8', c9', e⟩ := v4 hl hgo hp hs hj hw (who := who) (g := g) (kvs := kvs) (r := r) (fs := fs) c8 c9
      rw [e, R.ok_bind, cP]
      by_cases h1 : dR ps js who (kvs.map (·.1)) js = []
      · have w1 : cy ps js who (r + 1) kvs = kvs := by unfold cy; rw [h1]; simp
        rw [h1, w1]
        refine ⟨kvs, r + 1, [], c8', c9', ?_, fun N _ => eo h1 N _⟩
        cases n with
        | zero => omega
        | succ n =>
          rw [lP]
          have ht2 : tE (e2 (eu pV) (e1 cZ (ab 7)) (eC (.int 0))) (tR ps s js who g kvs (r + 1) [] c8' c9') = .ok false := rfl
          rw [ht2, R.ok_bind]
          rfl
      · have hk' := hk.round (ps := ps) (who := who) (r := r + 1) hj.nd
        have hkl := hk'.len hj.nd
        have hgrow : kvs.length + 1 ≤ (cy ps js who (r + 1) kvs).length := by
          unfold cy
          rw [List.length_append, List.length_map]
          have := List.length_pos_iff.mpr h1
          omega
        obtain ⟨K, r', fs', d8, d9, w2, w3⟩ := zg hl hgo hp hs hj hw (who := who) (g := g) (k - 1) n (cy ps js who (r + 1) kvs) (r + 1) (dR ps js who (kvs.map (·.1)) js) c8' c9' hk' (by omega) (fun z => (h1 z).elim) (by omega)
        refine ⟨K, r', fs', d8, d9, w2, fun N hN => ?_⟩
        cases N with
        | zero => omega
        | succ N => exact w3 N (by omega)
theorem k9 {ps : List P4} (hl : ∀ p ∈ ps, p.ns.length ≤ 100) (hgo : ∀ p ∈ ps, ∀ x ∈ p.ns, 0 ≤ x ∧ x < ps.length) (hp : ps.length ≤ 24) {s g : PyData} {js gs : List Int} (hs : qK s js) (hsg : qK g gs) (hj : cN ps.length js) (hg : cN ps.length gs) (hsub : ∀ x ∈ gs, x ∈ js) (hw : fu ps js) {who : Int} :
    bY [gD ps, s, .int who, g] = .ok (.tuple (cr (fun i => oD (rK ps js who gs i)) ps.length)) := by
  have hlen := hj.len
  have hglen := hg.len
  have hgj : gs.length ≤ js.length := kH hg.nd hsub
  have hk0 : iR js (gs.map fun i => ((i, 0) : Int × Int)) := by
    have e : (gs.map fun i => ((i, 0) : Int × Int)).map (·.1) = gs := by rw [List.map_map]; exact List.map_id _
    exact ⟨by rw [e]; exact hg.nd, by rw [e]; exact hsub⟩
  have hk0e : (gs.map fun i => ((i, 0) : Int × Int)).map (·.1) = gs := by rw [List.map_map]; exact List.map_id _
  obtain ⟨K, r', fs', d8, d9, w2, w3⟩ := zg hl hgo hp hs hj hw (who := who) (g := g) (js.length - gs.length) 1000000 (gs.map fun i => (i, 0)) 0 gs .non .non hk0 (by rw [List.length_map]; exact Nat.le_refl _) (fun z => by
    rw [hk0e, z]
    unfold dR
    rw [List.filter_eq_nil_iff]
    intro i _
    rw [eW]
    rintro ⟨_, ⟨g, _, hz⟩, _⟩
    cases hz) (by omega)
  have hK : K = uT ps js who gs ps.length := by
    by_cases h0 : gs = []
    · subst h0
      have hz : dR ps js who (([] : List (Int × Int)).map (·.1)) js = [] := by
        unfold dR
        rw [List.filter_eq_nil_iff]
        intro i _
        rw [eW]
        rintro ⟨_, ⟨g, _, hz⟩, _⟩
        cases hz
      have e4 := w3 (js.length - 0 + 1) (Nat.le_refl _)
      rw [List.map_nil, eo hz] at e4
      rw [← e4]
      unfold uT
      rw [List.map_nil, eo hz]
    · have := List.length_pos_iff.mpr h0
      have e4 := w3 ps.length (by omega)
      rw [← e4]
      rfl
  have hways : bJ (aI 0) (fun _ => .ok true) (aD bN (ae (e2 bq (ab 0) (eC (.int 3))) (ae (ab 1) aF))) [.non, .val s] (ps.map P4.d) = .ok (cr (fun i => .tuple ((bn ps js i).map .int)) ps.length) := by
    have go : ∀ qs : List P4, (∀ p ∈ qs, p.ns.length ≤ 100) → bJ (aI 0) (fun _ => .ok true) (aD bN (ae (e2 bq (ab 0) (eC (.int 3))) (ae (ab 1) aF))) [.non, .val s] (qs.map P4.d) = .ok (qs.map fun p => .tuple ((p.ns.filter (bQ js)).map .int)) := by
      intro qs
      induction qs with
      | nil => exact fun _ => dg ..
      | cons p qs ih =>
        intro h
        have hc := nH (s := .tuple (p.ns.map .int)) (ns := p.ns) (.inl rfl) hs (by have := h p List.mem_cons_self; omega)
        rw [List.map_cons, eJ, ih fun q hq => h q (List.mem_cons_of_mem _ hq)]
        simp only [R.ok_bind, if_true, List.set_cons_zero, aY, aH, aM, bc, aj, ai, bz, kO, hc]
        rfl
    rw [go ps hl]
    congr 1
    refine List.ext_getElem (by rw [List.length_map, bm]) fun k h1 h2 => ?_
    rw [bm] at h2
    have e := fD (f := fun i => .tuple ((bn ps js i).map .int)) (n := ps.length) (i := (k : Int)) (by omega) (by omega)
    simp only [Int.toNat_natCast] at e
    rw [e, List.getElem_map]
    unfold bn
    rw [dc (by omega) (by omega)]
    simp
  have hinit : bJ (aI 0) (fun _ => .ok true) (yn (tE (e2 (iG false) (ab 0) (ab 1))) (eC (.int 0)) (eC .none)) [.non, .val g] (bt 0 ps.length) = .ok (wp (gs.map fun i => (i, 0)) ps.length) :=
    sx _ _ _ _ fun i h0 h1 => by
      simp only [List.set_cons_zero, qV, bZ, bc, aj, ai, bz, R.ok_bind, hsg.inn, ci, h8]
      cases hm : bQ gs i with
      | true => rw [if_pos (bo.mp hm)]; rfl
      | false => rw [if_neg (show ¬ i ∈ gs from fun z => by rw [bo.mpr z] at hm; cases hm)]; rfl
  have hr : oO [.int (ps.length : Int)] = .ok (bt 0 ps.length) := by
    rw [zj (by omega) (by omega), Int.toNat_natCast]
  have hlst : nc g = .ok (.list (gs.map .int)) := by rcases hsg with rfl | rfl <;> rfl
  unfold bY jK
  refine dP ?_
  rw [show ([gD ps, s, .int who, g].map aV.val ++ List.replicate (10 - [gD ps, s, .int who, g].length) aV.non) = [.val (gD ps), .val s, .val (.int who), .val g, .non, .non, .non, .non, .non, .non] from rfl]
  rw [aE (ρ' := [.val (gD ps), .val s, .val (.int who), .val g, .val (kr ps js), .non, .non, .non, .non, .non]) (by
    rw [bh, bp, show aw 1 [1] [.val (gD ps), .val s, .val (.int who), .val g, .non, .non, .non, .non, .non, .non] = [.non, .val s] from rfl]
    simp only [bI, aj, R.ok_bind, dL, cm]
    rw [if_pos (by rw [List.length_map]; exact bS (by omega)), hways]
    rfl)]
  rw [aE (ρ' := [.val (gD ps), .val s, .val (.int who), .val g, .val (kr ps js), .own (.list (wp (gs.map fun i => (i, 0)) ps.length)), .non, .non, .non, .non]) (by
    rw [kg, bp, show aw 1 [3] [.val (gD ps), .val s, .val (.int who), .val g, .val (kr ps js), .non, .non, .non, .non, .non] = [.non, .val g] from rfl]
    simp only [nO, aH, aM, cA, aj, R.ok_bind, pe, List.length_map, hr, cm]
    rw [if_pos (by rw [eG]; exact bS (by omega)), hinit]
    rfl)]
  rw [aE (ρ' := [.val (gD ps), .val s, .val (.int who), .val g, .val (kr ps js), .own (.list (wp (gs.map fun i => (i, 0)) ps.length)), .val (.int 0), .non, .non, .non]) (by rfl)]
  rw [aE (ρ' := tR ps s js who g (gs.map fun i => (i, 0)) 0 gs .non .non) (by
    simp only [bh, cA, ai, aj, R.ok_bind, hlst]
    rfl)]
  rw [aE (ρ' := tR ps s js who g K r' fs' d8 d9) (by
    rw [dH]
    show lD (cp (tE (e2 (eu pV) (e1 cZ (ab 7)) (eC (.int 0)))) sF 1000000 _) = _
    rw [w2]
    rfl)]
  rw [hK]
  rfl
def iB (f : Int → Option Int) (n : Nat) : List Int := (ids n).filter fun i => (f i).isSome
theorem lU (f : Int → Option Int) (n : Nat) : cN n (iB f n) := (cN.ids n).filter _
theorem gL {f : Int → Option Int} {n : Nat} {i : Int} : i ∈ iB f n ↔ (0 ≤ i ∧ i < n) ∧ ∃ q, f i = some q := by
  unfold iB
  rw [List.mem_filter, cv, Option.isSome_iff_exists]
abbrev oT (f : Int → Option Int) (n : Nat) : PyData := .tuple (cr (fun i => oD (f i)) n)
theorem kC {f : Int → Option Int} {n : Nat} (hn : n ≤ 1000) : bM [oT f n] = .ok (.tuple ((iB f n).map .int)) := by
  have hc := iH (t := tE (e2 (eA) (ab 1) (eC .none))) (ρ := []) (p := fun i => (f i).isSome) (g := fun i => oD (f i)) n 0 fun j _ _ => by
    simp only [bZ, bc, ai, aj, bz, R.ok_bind, t6, ci]
  rw [o7] at hc
  unfold bM mI
  refine dP ?_
  rw [show ([oT f n].map aV.val ++ List.replicate (1 - [oT f n].length) aV.non) = [.val (oT f n)] from rfl]
  rw [cC, cA, bp, show aw 2 [] [.val (oT f n)] = [.non, .non] from rfl]
  simp only [lS, aj, R.ok_bind, dL, cm]
  rw [if_pos (by rw [fL, bm]; exact bS hn)]
  rw [show cX 0 (cr (fun i => oD (f i)) n) = cX 0 ((ids n).map fun i => oD (f i)) from rfl, hc]
  rfl
theorem sJ (o : Option Int) (k : Int) : ip (oD o) (.int k) = .ok (.bool (decide (o = some k))) := by
  cases o with
  | none => rfl
  | some q =>
    show ip (.int q) (.int k) = _
    rw [gf]
    congr 2
    simp
def kz (ps : List P4) (who : Int) (f : Int → Option Int) (i : Int) : Option Int := match f i with
  | some q => if ak ps i = who ∧ 0 < q then ((aW ps i).filter fun g => decide (f g = some (q - 1))).head? else none
  | none => none
def sD : Fs := (iK (fW (tE (e2 (ip) (e2 bq (e2 bq (ab 0) (ab 4)) (eC (.int 0))) (ab 1))) (tE (e2 (eu pV) (e2 bq (ab 2) (ab 4)) (eC (.int 0))))) (gh 3 (ab 4) (e2 bq (bC (cY (e2 bq (e2 bq (ab 0) (ab 4)) (eC (.int 3)))) 1 [2, 4] (aI 0) (tE (e2 (ip) (e2 bq (ab 1) (ab 0)) (e2 lO (e2 bq (ab 1) (ab 2)) (eC (.int 1))))) (ab 0)) (eC (.int 0)))) bT)
structure Gr (ps : List P4) : Prop where
  hl : ∀ p ∈ ps, p.ns.length ≤ 100
  hgo : ∀ p ∈ ps, ∀ x ∈ p.ns, 0 ≤ x ∧ x < ps.length
  hp : ps.length ≤ 24
  lt : ∀ p ∈ ps, p.ns.Pairwise (· < ·)
  ne : ∀ p ∈ ps, p.ns ≠ []
theorem Gr.goals {ps : List P4} (G : Gr ps) {i x : Int} (h : x ∈ aW ps i) : 0 ≤ x ∧ x < ps.length := by
  unfold aW at h
  cases e : ps[i.toNat]? with
  | none => rw [e] at h; cases h
  | some p => rw [e] at h; exact G.hgo p (List.mem_of_getElem? e) x h
theorem Gr.glen {ps : List P4} (G : Gr ps) (i : Int) : (aW ps i).length ≤ 100 := by
  unfold aW
  cases e : ps[i.toNat]? with
  | none => simp
  | some p => exact G.hl p (List.mem_of_getElem? e)
theorem wO {ps : List P4} (G : Gr ps) {who : Int} {f : Int → Option Int} (hne : ∀ i q, f i = some q → 0 < q → ak ps i = who → ∃ g ∈ aW ps i, f g = some (q - 1)) : ∀ (is : List Int) (h : Int → PyData) (c4 : aV), is.Nodup → (∀ x ∈ is, (0 ≤ x ∧ x < ps.length) ∧ (∃ q, f x = some q) ∧ h x = .none) →
    ∃ c4', dO (aI 4) sD (is.map .int) [.val (gD ps), .val (.int who), .val (oT f ps.length), .own (.list (cr h ps.length)), c4] = .ok (.nx [.val (gD ps), .val (.int who), .val (oT f ps.length), .own (.list (cr (fun j => if j ∈ is then oD (kz ps who f j) else h j) ps.length)), c4'])
  | [], h, c4, _, _ => ⟨c4, by rw [List.map_nil, dE]; simp⟩
  | i :: is, h, c4, nd, hb => by
    obtain ⟨n1, n2⟩ := List.nodup_cons.mp nd
    obtain ⟨hi, ⟨q, hq⟩, hh⟩ := hb i List.mem_cons_self
    have ho := eE hi.1 hi.2
    have hg := dc hi.1 hi.2
    obtain ⟨c4', e⟩ := wO G hne is (fun j => if j = i then oD (kz ps who f i) else h j) (.val (.int i)) n2 (fun x hx => ⟨(hb x (List.mem_cons_of_mem _ hx)).1, (hb x (List.mem_cons_of_mem _ hx)).2.1, by
      have : x ≠ i := by rintro rfl; exact n1 hx
      show (if x = i then _ else h x) = _
      rw [if_neg this]
      exact (hb x (List.mem_cons_of_mem _ hx)).2.2⟩)
    refine ⟨c4', ?_⟩
    have fin : cr (fun j => if j ∈ is then oD (kz ps who f j) else (fun j => if j = i then oD (kz ps who f i) else h j) j) ps.length = cr (fun j => if j ∈ i :: is then oD (kz ps who f j) else h j) ps.length := cu fun j _ _ => by
      by_cases h1 : j = i
      · subst h1
        simp [n1]
      · by_cases h2 : j ∈ is <;> simp [h1, h2]
    rw [fin] at e
    rw [← e, List.map_cons, dm, show (([.val (gD ps), .val (.int who), .val (oT f ps.length), .own (.list (cr h ps.length)), c4] : aG).set 4 (.val (.int i))) = [.val (gD ps), .val (.int who), .val (oT f ps.length), .own (.list (cr h ps.length)), .val (.int i)] from rfl]
    have ht : (fW (tE (e2 (ip) (e2 bq (e2 bq (ab 0) (ab 4)) (eC (.int 0))) (ab 1))) (tE (e2 (eu pV) (e2 bq (ab 2) (ab 4)) (eC (.int 0))))) [.val (gD ps), .val (.int who), .val (oT f ps.length), .own (.list (cr h ps.length)), .val (.int i)] = .ok (decide (ak ps i = who ∧ 0 < q)) := by
      have hrk : bq (oT f ps.length) (.int i) = .ok (.int q) := by rw [tt hi.1 hi.2, hq]; rfl
      simp only [nh, bZ, bc, aj, ai, bz, R.ok_bind, iL hi.1 hi.2, kU, gf, ci, hrk, mm]
      rw [← ho]
      by_cases h1 : ak ps i = who
      · by_cases h2 : 0 < q <;> simp [h1, h2]
      · simp [h1]
    have hb1 : sD [.val (gD ps), .val (.int who), .val (oT f ps.length), .own (.list (cr h ps.length)), .val (.int i)] = .ok (.nx [.val (gD ps), .val (.int who), .val (oT f ps.length), .own (.list (cr (fun j => if j = i then oD (kz ps who f i) else h j) ps.length)), .val (.int i)]) := by
      unfold sD
      rw [cU, ht, R.ok_bind]
      by_cases hc : ak ps i = who ∧ 0 < q
      · rw [if_pos (decide_eq_true hc)]
        have hcmp := bU (t := tE (e2 (ip) (e2 bq (ab 1) (ab 0)) (e2 lO (e2 bq (ab 1) (ab 2)) (eC (.int 1))))) (ρ := [.val (oT f ps.length), .val (.int i)]) (p := fun g => decide (f g = some (q - 1))) (aW ps i) fun k hk => by
          have hkb := G.goals hk
          have hrk : bq (oT f ps.length) (.int i) = .ok (.int q) := by rw [tt hi.1 hi.2, hq]; rfl
          simp only [List.set_cons_zero, bZ, bc, aj, ai, bz, R.ok_bind, tt hkb.1 hkb.2, hrk, wc, sJ, ci]
        obtain ⟨g, hg1, hg2⟩ := hne i q hq hc.2 hc.1
        have hm : kz ps who f i = ((aW ps i).filter fun g => decide (f g = some (q - 1))).head? := by
          unfold kz
          rw [hq]
          exact if_pos hc
        have hmem : g ∈ (aW ps i).filter fun g => decide (f g = some (q - 1)) := List.mem_filter.mpr ⟨hg1, decide_eq_true hg2⟩
        cases hL : (aW ps i).filter fun g => decide (f g = some (q - 1)) with
        | nil => rw [hL] at hmem; cases hmem
        | cons v r =>
          rw [hL] at hm hcmp
          rw [lL (ds := cr h ps.length) (n := i) (v := .int v) rfl rfl ?_ hi.1 (by rw [bm]; exact hi.2), lF hi.1 hi.2, hm]
          · rfl
          · rw [bc, bp, show aw 1 [2, 4] [.val (gD ps), .val (.int who), .val (oT f ps.length), .own (.list (cr h ps.length)), .val (.int i)] = [.non, .val (oT f ps.length), .val (.int i)] from rfl]
            simp only [bI, bc, aj, ai, bz, R.ok_bind, iL hi.1 hi.2, kO, dL, cm]
            rw [← hg, if_pos (by rw [List.length_map]; exact bS (by have := G.glen i; omega)), hcmp, tK, R.ok_bind, qf (by omega) (by simp)]
            rfl
      · rw [if_neg (by rw [decide_eq_true_iff]; exact hc)]
        have hm : kz ps who f i = none := by
          unfold kz
          rw [hq]
          exact if_neg hc
        rw [qC, hm]
        congr 3
        rw [cu fun j _ _ => ?_]
        by_cases h1 : j = i
        · subst h1; rw [if_pos rfl, hh]; rfl
        · rw [if_neg h1]
    rw [hb1, R.ok_bind, cP]
theorem gG {ps : List P4} (G : Gr ps) {who : Int} {f : Int → Option Int} (hne : ∀ i q, f i = some q → 0 < q → ak ps i = who → ∃ g ∈ aW ps i, f g = some (q - 1)) :
    aS [gD ps, .int who, oT f ps.length] = .ok (oT (kz ps who f) ps.length) := by
  have hp := G.hp
  have h0 : bJ (aI 0) (fun _ => .ok true) (eC .none) [.non] (cr (fun i => oD (f i)) ps.length) = .ok (cr (fun _ => .none) ps.length) := by
    have := gH (eC .none) [.non] 0 (fun _ => .none) (cr (fun i => oD (f i)) ps.length) fun d _ => rfl
    rw [this]
    unfold cr
    rw [List.map_map]
    rfl
  obtain ⟨c4, e⟩ := wO G hne (iB f ps.length) (fun _ => .none) .non (lU f ps.length).nd fun x hx => ⟨(gL.mp hx).1, (gL.mp hx).2, rfl⟩
  have fin : cr (fun j => if j ∈ iB f ps.length then oD (kz ps who f j) else .none) ps.length = cr (fun j => oD (kz ps who f j)) ps.length := cu fun j h1 h2 => by
    by_cases h : j ∈ iB f ps.length
    · rw [if_pos h]
    · rw [if_neg h]
      have : f j = none := by
        cases hf : f j with
        | none => rfl
        | some q => exact (h (gL.mpr ⟨⟨h1, h2⟩, q, hf⟩)).elim
      unfold kz
      rw [this]
      rfl
  rw [fin] at e
  unfold aS fi
  refine dP ?_
  rw [show ([gD ps, .int who, oT f ps.length].map aV.val ++ List.replicate (5 - [gD ps, .int who, oT f ps.length].length) aV.non) = [.val (gD ps), .val (.int who), .val (oT f ps.length), .non, .non] from rfl]
  rw [aE (ρ' := [.val (gD ps), .val (.int who), .val (oT f ps.length), .own (.list (cr (fun _ => .none) ps.length)), .non]) (by
    rw [kg, bp, show aw 1 [] [.val (gD ps), .val (.int who), .val (oT f ps.length), .non, .non] = [.non] from rfl]
    simp only [bI, aj, ai, R.ok_bind, dL, cm]
    rw [if_pos (by rw [bm]; exact bS (by omega)), h0]
    rfl)]
  rw [aE (ρ' := [.val (gD ps), .val (.int who), .val (oT f ps.length), .own (.list (cr (fun j => oD (kz ps who f j)) ps.length)), c4]) (by
    rw [dH, em, bI]
    simp only [aY, aH, aM, aj, ai, R.ok_bind, kC (show ps.length ≤ 1000 by omega), dL]
    unfold sD at e
    rw [e]
    rfl)]
  rfl
theorem jQ {ps : List P4} {js : List Int} {who : Int} {gs : List Int} {rk : Int → Option Int} (A : rZ ps js who gs rk) : ∀ i q, rk i = some q → 0 < q → ak ps i = who → ∃ g ∈ aW ps i, rk g = some (q - 1) := fun i q h1 h2 h3 => by
  obtain ⟨g, hg, e⟩ := A.own i q h1 h2 h3
  exact ⟨g, (List.mem_filter.mp hg).1, e⟩
theorem xc {d : PyData} (hg : gF d) (hd : d.depth ≤ 60) : jw d d = .ok (.bool false) := by
  unfold jw
  rw [if_pos (by unfold o1; rw [hg]; simp; exact hd), PySem.SeqAt.eqv_refl d hg]
  rfl
def ut : List PyData → Prop := fun ds => ∀ x ∈ ds, gF x ∧ x.depth = 0
theorem ut.dep : ∀ {ds : List PyData}, ut ds → PyData.depthAll ds = 0
  | [], _ => by simp [PyData.depthAll]
  | d :: ds, h => by simp [PyData.depthAll, (h d List.mem_cons_self).2, ut.dep fun x hx => h x (List.mem_cons_of_mem _ hx)]
theorem ut.good {ds : List PyData} (h : ut ds) : gF (.tuple ds) := jD.mpr fun x hx => (h x hx).1
theorem yD (o : Option Int) : gF (oD o) ∧ (oD o).depth = 0 := by
  cases o
  · exact ⟨ul, by simp [oD, PyData.depth]⟩
  · exact ⟨qv _, by simp [oD, PyData.depth]⟩
theorem pW (f : Int → Option Int) (n : Nat) : ut (cr (fun i => oD (f i)) n) := fun x hx => by
  obtain ⟨i, _, rfl⟩ := List.mem_map.mp hx
  exact yD _
theorem oy (f : Int → Option Int) (n : Nat) : gF (oT f n) := (pW f n).good
theorem Bx {ps : List P4} {hi : Int} (hp : ∀ p ∈ ps, Pl ps.length hi p) (h24 : (ps.length : Int) ≤ 24) : Gr ps :=
  ⟨fun p h => by have := (hp p h).len; omega, fun p h => (hp p h).inn, by omega, fun p h => (hp p h).so, fun p h => (hp p h).ne⟩
theorem Gr.gne {ps : List P4} (G : Gr ps) {i : Int} (h0 : 0 ≤ i) (h1 : i < ps.length) : ∃ g, g ∈ aW ps i := by
  have := G.ne _ (List.getElem_mem (show i.toNat < ps.length by omega))
  rw [← dc h0 h1] at this
  exact List.exists_mem_of_ne_nil _ this
theorem ua {ps : List P4} (G : Gr ps) : fu ps (ids ps.length) := fun i hi => by
  obtain ⟨h0, h1⟩ := cv.mp hi
  obtain ⟨g, hg⟩ := G.gne h0 h1
  exact ⟨g, List.mem_filter.mpr ⟨hg, bo.mpr (cv.mpr (G.goals hg))⟩⟩
theorem qw {n : Nat} (h : n ≤ 1000) : AH .tuple [.int (n : Int)] = .ok (.tuple ((ids n).map .int)) := by
  rw [Bb (by omega) (by omega), jM]
  rfl
def gN (js : List Int) (some : List Int) : List Int := js.filter fun i => !bQ some i
theorem bd {js some : List Int} {i : Int} : i ∈ gN js some ↔ i ∈ js ∧ i ∉ some := by
  unfold gN
  rw [List.mem_filter, Bool.not_eq_true', ← Bool.not_eq_true, bo]
theorem k0 {ps : List P4} (hp : ps.length ≤ 1000) : bA [gD ps] = .ok (.tuple (cr (fun _ => .none) ps.length)) := by
  have h0 : bJ (aI 0) (fun _ => .ok true) (eC .none) [.non] (ps.map P4.d) = .ok (cr (fun _ => .none) ps.length) := by
    have := gH (eC .none) [.non] 0 (fun _ => .none) (ps.map P4.d) fun d _ => rfl
    rw [this]
    congr 1
    refine List.ext_getElem (by rw [List.length_map, List.length_map, bm]) fun k h1 h2 => ?_
    rw [bm] at h2
    have e := fD (f := fun _ => .none) (n := ps.length) (i := (k : Int)) (by omega) (by omega)
    simp only [Int.toNat_natCast] at e
    rw [e, List.getElem_map]
  unfold bA jL
  refine dP ?_
  rw [show ([gD ps].map aV.val ++ List.replicate (1 - [gD ps].length) aV.non) = [.val (gD ps)] from rfl]
  rw [cC, cA, bp, show aw 1 [] [.val (gD ps)] = [.non] from rfl]
  simp only [bI, aj, R.ok_bind, dL, cm]
  rw [if_pos (by rw [List.length_map]; exact bS hp), h0]
  rfl
def dY (ps : List P4) (who : Int) (part : List Int) (i : Int) : Option Int := if i ∈ part ∧ ak ps i = who then (bn ps part i).head? else none
def tP : Fs := (iK (tE (e2 (ip) (e2 bq (e2 bq (ab 0) (ab 4)) (eC (.int 0))) (ab 1))) (gh 3 (ab 4) (e2 bq (aD bN (ae (e2 bq (e2 bq (ab 0) (ab 4)) (eC (.int 3))) (ae (ab 2) aF))) (eC (.int 0)))) bT)
theorem wH {ps : List P4} (G : Gr ps) {who : Int} {s : PyData} {part : List Int} (hs : qK s part) (hj : cN ps.length part) (hne : ∀ i ∈ part, ak ps i = who → ∃ g, g ∈ bn ps part i) : ∀ (is : List Int) (h : Int → PyData) (c4 : aV), is.Nodup → (∀ x ∈ is, x ∈ part ∧ h x = .none) →
    ∃ c4', dO (aI 4) tP (is.map .int) [.val (gD ps), .val (.int who), .val s, .own (.list (cr h ps.length)), c4] = .ok (.nx [.val (gD ps), .val (.int who), .val s, .own (.list (cr (fun j => if j ∈ is then oD (dY ps who part j) else h j) ps.length)), c4'])
  | [], h, c4, _, _ => ⟨c4, by rw [List.map_nil, dE]; simp⟩
  | i :: is, h, c4, nd, hb => by
    obtain ⟨n1, n2⟩ := List.nodup_cons.mp nd
    obtain ⟨hip, hh⟩ := hb i List.mem_cons_self
    have hi := hj.inn i hip
    have ho := eE hi.1 hi.2
    have hg := dc hi.1 hi.2
    obtain ⟨c4', e⟩ := wH G hs hj hne is (fun j => if j = i then oD (dY ps who part i) else h j) (.val (.int i)) n2 (fun x hx => ⟨(hb x (List.mem_cons_of_mem _ hx)).1, by
      have : x ≠ i := by rintro rfl; exact n1 hx
      show (if x = i then _ else h x) = _
      rw [if_neg this]
      exact (hb x (List.mem_cons_of_mem _ hx)).2⟩)
    refine ⟨c4', ?_⟩
    have fin : cr (fun j => if j ∈ is then oD (dY ps who part j) else (fun j => if j = i then oD (dY ps who part i) else h j) j) ps.length = cr (fun j => if j ∈ i :: is then oD (dY ps who part j) else h j) ps.length := cu fun j _ _ => by
      by_cases h1 : j = i
      · subst h1
        simp [n1]
      · by_cases h2 : j ∈ is <;> simp [h1, h2]
    rw [fin] at e
    rw [← e, List.map_cons, dm, show (([.val (gD ps), .val (.int who), .val s, .own (.list (cr h ps.length)), c4] : aG).set 4 (.val (.int i))) = [.val (gD ps), .val (.int who), .val s, .own (.list (cr h ps.length)), .val (.int i)] from rfl]
    have ht : (tE (e2 (ip) (e2 bq (e2 bq (ab 0) (ab 4)) (eC (.int 0))) (ab 1))) [.val (gD ps), .val (.int who), .val s, .own (.list (cr h ps.length)), .val (.int i)] = .ok (decide (ak ps i = who)) := by
      simp only [bZ, bc, aj, ai, bz, R.ok_bind, iL hi.1 hi.2, kU, gf, ci]
      rw [← ho]
    have hb1 : tP [.val (gD ps), .val (.int who), .val s, .own (.list (cr h ps.length)), .val (.int i)] = .ok (.nx [.val (gD ps), .val (.int who), .val s, .own (.list (cr (fun j => if j = i then oD (dY ps who part i) else h j) ps.length)), .val (.int i)]) := by
      unfold tP
      rw [cU, ht, R.ok_bind]
      by_cases hc : ak ps i = who
      · rw [if_pos (decide_eq_true hc)]
        have hcm := nH (s := .tuple ((aW ps i).map .int)) (ns := aW ps i) (.inl rfl) hs (by have := G.glen i; omega)
        obtain ⟨g, hg1⟩ := hne i hip hc
        have hm : dY ps who part i = (bn ps part i).head? := if_pos ⟨hip, hc⟩
        have hw : (aW ps i).filter (bQ part) = bn ps part i := rfl
        rw [hw] at hcm
        cases hL : bn ps part i with
        | nil => rw [hL] at hg1; cases hg1
        | cons v r =>
          rw [hL] at hm hcm
          rw [lL (ds := cr h ps.length) (n := i) (v := .int v) rfl rfl ?_ hi.1 (by rw [bm]; exact hi.2), lF hi.1 hi.2, hm]
          · rfl
          · simp only [bc, aY, aH, aM, aj, ai, bz, R.ok_bind, iL hi.1 hi.2, kO]
            rw [← hg, hcm, R.ok_bind, sE (by omega) (by simp)]
            rfl
      · rw [if_neg (by rw [decide_eq_true_iff]; exact hc)]
        have hm : dY ps who part i = none := if_neg fun z => hc z.2
        rw [qC, hm]
        congr 3
        rw [cu fun j _ _ => ?_]
        by_cases h1 : j = i
        · subst h1; rw [if_pos rfl, hh]; rfl
        · rw [if_neg h1]
    rw [hb1, R.ok_bind, cP]
theorem kR {ps : List P4} (G : Gr ps) {who : Int} {s : PyData} {part : List Int} (hs : qK s part) (hj : cN ps.length part) (hne : ∀ i ∈ part, ak ps i = who → ∃ g, g ∈ bn ps part i) :
    a6 [gD ps, .int who, s] = .ok (oT (dY ps who part) ps.length) := by
  have hp := G.hp
  have hn := k0 (ps := ps) (by omega)
  obtain ⟨c4, e⟩ := wH G hs hj hne part (fun _ => .none) .non hj.nd fun x hx => ⟨hx, rfl⟩
  have fin : cr (fun j => if j ∈ part then oD (dY ps who part j) else .none) ps.length = cr (fun j => oD (dY ps who part j)) ps.length := cu fun j h1 h2 => by
    by_cases h : j ∈ part
    · rw [if_pos h]
    · rw [if_neg h]
      have : dY ps who part j = none := if_neg fun z => h z.1
      rw [this]
      rfl
  rw [fin] at e
  unfold a6 fq
  refine dP ?_
  rw [show ([gD ps, .int who, s].map aV.val ++ List.replicate (5 - [gD ps, .int who, s].length) aV.non) = [.val (gD ps), .val (.int who), .val s, .non, .non] from rfl]
  rw [aE (ρ' := [.val (gD ps), .val (.int who), .val s, .own (.list (cr (fun _ => .none) ps.length)), .non]) (by
    simp only [kg, cA, aY, aH, aM, aj, R.ok_bind, hn, x5]
    rfl)]
  rw [aE (ρ' := [.val (gD ps), .val (.int who), .val s, .own (.list (cr (fun j => oD (dY ps who part j)) ps.length)), c4]) (by
    rw [dH, em, bI]
    simp only [aj, ai, R.ok_bind, hs.seq]
    unfold tP at e
    rw [e]
    rfl)]
  rfl
theorem zk (ns : List Int) (i : Int) (neg : Bool) : iG neg (.int i) (.tuple (ns.map .int)) = .ok (.bool (if neg then !(ns.any fun j => decide (j = i)) else ns.any fun j => decide (j = i))) := zU ns i neg
def zE (ns : List Int) : PyData → Bool
  | .none => true
  | .int i => ns.any fun j => decide (j = i)
  | _ => false
def mX (ps : List P4) : PyData → Bool
  | .tuple ds => decide (ds.length = ps.length) && (ds.zip ps).all fun q => zE q.2.ns q.1
  | _ => false
theorem uj {ps : List P4} {f : Int → Option Int} (h : ∀ i g, f i = some g → g ∈ aW ps i) : mX ps (oT f ps.length) = true := by
  show (decide _ && _) = true
  rw [decide_eq_true (bm ..), Bool.true_and, List.all_eq_true]
  intro q hq
  obtain ⟨k, hk, e⟩ := List.mem_iff_getElem.mp hq
  rw [List.length_zip, bm, Nat.min_self] at hk
  rw [List.getElem_zip] at e
  have e2 := fD (f := fun i => oD (f i)) (n := ps.length) (i := (k : Int)) (by omega) (by omega)
  simp only [Int.toNat_natCast] at e2
  rw [e2] at e
  subst e
  cases hf : f (k : Int) with
  | none => rfl
  | some g =>
    have := h _ _ hf
    rw [dc (by omega) (by omega)] at this
    simp only [Int.toNat_natCast] at this
    exact bo.mpr this
theorem nY (s t : PyData) : ∀ (ds : List PyData) (ps : List P4) (x y : aV), (∀ d ∈ ds, gF d) → ∃ ρ,
    dO (dQ 2 3) (aL (iK (iO (tE (e1 (dS .bool) (ab 2))) (fW (tE (e2 (eA) (ab 2) (eC .none))) (fV (tE (e1 (dS .int) (ab 2)))))) (bL (eC (.bool false))) bT) (iK (fW (tE (e2 (eA) (ab 2) (eC .none))) (tE (e2 (iG true) (ab 2) (e2 bq (ab 3) (eC (.int 3)))))) (bL (eC (.bool false))) bT)) (iT ds (ps.map P4.d)) [.val s, .val t, x, y]
      = if ((ds.zip ps).all fun q => zE q.2.ns q.1) = true then .ok (.nx ρ) else .ok (.rt (.bool false))
  | [], ps, x, y, _ => ⟨[.val s, .val t, x, y], by unfold iT; simp⟩
  | d :: ds, [], x, y, _ => ⟨[.val s, .val t, x, y], by unfold iT; simp⟩
  | d :: ds, p :: ps, x, y, h => by
    have hg := h d List.mem_cons_self
    obtain ⟨ρ, e1⟩ := nY s t ds ps (.val d) (.val p.d) fun z hz => h z (List.mem_cons_of_mem _ hz)
    refine ⟨ρ, ?_⟩
    have e : iT (d :: ds) ((p :: ps).map P4.d) = .tuple [d, p.d] :: iT ds (ps.map P4.d) := rfl
    rw [e, u9, List.zip_cons_cons, List.all_cons]
    cases d with
    | none =>
      rw [show zE p.ns .none = true from rfl, Bool.true_and, ← e1]
      simp [dS, xi, eA, dZ]
    | int i =>
      cases hm : (p.ns.any fun j => decide (j = i)) with
      | true =>
        rw [show zE p.ns (.int i) = true from hm, Bool.true_and, ← e1]
        simp [dS, xi, eA, dZ, kO, zk, hm]
      | false =>
        rw [show zE p.ns (.int i) = false from hm, Bool.false_and]
        simp [dS, xi, eA, dZ, kO, zk, hm]
    | dict k => exact hg.noD.elim
    | _ =>
      rw [show zE p.ns _ = false from rfl, Bool.false_and]
      simp [dS, xi, eA, dZ]
theorem nz {d : PyData} (hg : gF d) {ps : List P4} : bj [d, gD ps] = .ok (.bool (mX ps d)) := by
  unfold bj eN
  rw [fT]
  cases d with
  | tuple ds =>
    have h := jD.mp hg
    by_cases hq : ds.length = ps.length
    · obtain ⟨ρ, e⟩ := nY (.tuple ds) (gD ps) ds ps .non .non h
      simp [dS, xi, nK, hq, em, List.replicate]
      rw [e]
      cases hb : ((ds.zip ps).all fun q => zE q.2.ns q.1) <;> simp [mX, hq, hb]
    · have hq' : ¬ ((ds.length : Int) = (ps.length : Int)) := by omega
      simp [dS, xi, nK, hq', hq, mX]
  | dict k => exact hg.noD.elim
  | _ => simp [dS, xi, mX]
def zr : Option Int → PyData
  | some i => .int i
  | none => .none
abbrev mD (mv : List (Option Int)) : PyData := .tuple (mv.map zr)
def jI (mv : List (Option Int)) (i : Int) : Option Int := (mv[i.toNat]?).getD none
theorem Bw {mv : List (Option Int)} {i : Int} (h0 : 0 ≤ i) (h1 : i < mv.length) : bq (mD mv) (.int i) = .ok (zr (jI mv i)) := by
  rw [sE h0 (by simpa using h1)]
  unfold jI
  rw [List.getElem?_eq_getElem (by omega)]
  simp
def cn (ps : List P4) (who : Int) (mv : List (Option Int)) (i : Int) : List Int := if ak ps i = who then (jI mv i).toList else aW ps i
theorem pE {ps : List P4} {mv : List (Option Int)} {who i : Int} (h0 : 0 ≤ i) (h1 : i < ps.length) (hm : mv.length = ps.length) : a4 [gD ps, .int who, mD mv, .int i] = .ok (.list ((cn ps who mv i).map .int)) := by
  have ho := eE h0 h1
  have hg := dc h0 h1
  have hix := iL h0 h1
  have hmx := Bw (mv := mv) h0 (by omega)
  unfold a4 jG
  refine dP ?_
  rw [show ([gD ps, .int who, mD mv, .int i].map aV.val ++ List.replicate (4 - [gD ps, .int who, mD mv, .int i].length) aV.non) = [.val (gD ps), .val (.int who), .val (mD mv), .val (.int i)] from rfl]
  unfold cn
  have s1 : (1 : Nat) ≤ sizeLine := by decide
  by_cases hw : ak ps i = who
  · rw [if_pos hw]
    refine pF ?_
    rw [cU]
    simp only [bZ, bc, aj, ai, bz, R.ok_bind, hix, kU, gf, ci]
    rw [← ho, if_pos (decide_eq_true hw), cC, bp]
    simp only [bI, lJ, aH, aM, bc, aj, ai, R.ok_bind, hmx, List.length_cons, List.length_nil]
    rw [if_pos s1]
    simp only [R.ok_bind, iD, cm, List.length_cons, List.length_nil]
    rw [if_pos s1, eJ, dg]
    cases hq : jI mv i with
    | none => rfl
    | some j => rfl
  · rw [if_neg hw]
    rw [aE (ρ' := [.val (gD ps), .val (.int who), .val (mD mv), .val (.int i)]) (by
      rw [cU]
      simp only [bZ, bc, aj, ai, bz, R.ok_bind, hix, kU, gf, ci]
      rw [← ho, if_neg (by simpa using hw)]
      rfl)]
    simp only [cC, cA, bc, aj, ai, bz, R.ok_bind, hix, kO, hg]
    rfl
def kh (ps : List P4) (who : Int) (mv : List (Option Int)) (qs : List Int) (i : Int) : Bool := !decide (cn ps who mv i = []) && decide ((cn ps who mv i).filter (fun j => !bQ qs j) = [])
def tO : Fs := (aL (bG 5 (aD a4 (ae (ab 0) (ae (ab 1) (ae (ab 2) (ae (ab 4) aF)))))) (iK (iO (tE (e2 (ip) (ab 5) (jo aF))) (tE (e2 (jw) (bC (cY (ab 5)) 1 [3] (aI 0) (tE (e2 (iG true) (ab 0) (ab 1))) (ab 0)) (jo aF)))) (bL (eC (.bool false))) bT))
theorem jf {ps : List P4} (hl : ∀ p ∈ ps, p.ns.length ≤ 100) {mv : List (Option Int)} {who i : Int} (h0 : 0 ≤ i) (h1 : i < ps.length) : (cn ps who mv i).length ≤ 100 := by
  unfold cn
  split
  · cases jI mv i <;> simp
  · rw [dc h0 h1]; exact hl _ (List.getElem_mem _)
theorem vT {ps : List P4} (hl : ∀ p ∈ ps, p.ns.length ≤ 100) {mv : List (Option Int)} {who i : Int} (h0 : 0 ≤ i) (h1 : i < ps.length) (hm : mv.length = ps.length) {qs : List Int} (c5 : aV) :
    tO [.val (gD ps), .val (.int who), .val (mD mv), .val (.list (qs.map .int)), .val (.int i), c5] = if kh ps who mv qs i = true then .ok (.nx [.val (gD ps), .val (.int who), .val (mD mv), .val (.list (qs.map .int)), .val (.int i), .val (.list ((cn ps who mv i).map .int))]) else .ok (.rt (.bool false)) := by
  have hw := pE (who := who) h0 h1 hm
  have hwl := jf hl (mv := mv) (who := who) h0 h1
  have hcmp := bU (t := tE (e2 (iG true) (ab 0) (ab 1))) (ρ := [.val (.list (qs.map .int))]) (p := fun j => !bQ qs j) (cn ps who mv i) fun k hk => by simp [xD]
  have n0 := BH (cn ps who mv i) []
  have n1 := wV ((cn ps who mv i).filter fun j => !bQ qs j) []
  simp only [List.map_nil] at n0 n1
  have s0 : ([] : List PyData).length ≤ sizeLine := Nat.zero_le _
  unfold tO
  rw [aE (ρ' := [.val (gD ps), .val (.int who), .val (mD mv), .val (.list (qs.map .int)), .val (.int i), .val (.list ((cn ps who mv i).map .int))]) (by simp [hw])]
  have ec : bC (cY (ab 5)) 1 [3] (aI 0) (tE (e2 (iG true) (ab 0) (ab 1))) (ab 0) [.val (gD ps), .val (.int who), .val (mD mv), .val (.list (qs.map .int)), .val (.int i), .val (.list ((cn ps who mv i).map .int))] = .ok (.list (((cn ps who mv i).filter fun j => !bQ qs j).map .int)) := by
    rw [bp]
    simp only [bI, ai, aj, R.ok_bind, iD, cm]
    rw [if_pos (by rw [List.length_map]; exact bS (by omega))]
    rw [show aw 1 [3] [.val (gD ps), .val (.int who), .val (mD mv), .val (.list (qs.map .int)), .val (.int i), .val (.list ((cn ps who mv i).map .int))] = [.non, .val (.list (qs.map .int))] from rfl, hcmp]
    rfl
  rw [cU, jX]
  simp only [bZ, bc, ai, aj, lJ, aM, R.ok_bind, ec, List.length_nil]
  rw [if_pos (Nat.zero_le _)]
  simp only [R.ok_bind, n0, n1, ci]
  unfold kh
  by_cases ha : cn ps who mv i = []
  · rw [decide_eq_true ha]; rfl
  · rw [decide_eq_false ha]
    by_cases hb : ((cn ps who mv i).filter fun j => !bQ qs j) = []
    · rw [decide_eq_true hb]; rfl
    · rw [decide_eq_false hb]; rfl
theorem vZ {ps : List P4} (hl : ∀ p ∈ ps, p.ns.length ≤ 100) {mv : List (Option Int)} {who : Int} (hm : mv.length = ps.length) {qs : List Int} : ∀ (is : List Int) (c4 c5 : aV), (∀ x ∈ is, 0 ≤ x ∧ x < ps.length) →
    ∃ ρ, dO (aI 4) tO (is.map .int) [.val (gD ps), .val (.int who), .val (mD mv), .val (.list (qs.map .int)), c4, c5] = if is.all (kh ps who mv qs) = true then .ok (.nx ρ) else .ok (.rt (.bool false))
  | [], c4, c5, _ => ⟨_, by rw [List.map_nil, dE]; rfl⟩
  | i :: is, c4, c5, hb => by
    have hi := hb i List.mem_cons_self
    obtain ⟨ρ, e⟩ := vZ hl hm (who := who) (qs := qs) is (.val (.int i)) (.val (.list ((cn ps who mv i).map .int))) fun x hx => hb x (List.mem_cons_of_mem _ hx)
    refine ⟨ρ, ?_⟩
    rw [List.map_cons, dm]
    rw [show (([.val (gD ps), .val (.int who), .val (mD mv), .val (.list (qs.map .int)), c4, c5] : aG).set 4 (.val (.int i))) = [.val (gD ps), .val (.int who), .val (mD mv), .val (.list (qs.map .int)), .val (.int i), c5] from rfl, vT hl hi.1 hi.2 hm]
    rw [List.all_cons]
    cases hk : kh ps who mv qs i with
    | true =>
      rw [if_pos rfl, R.ok_bind, cP, e]
      rfl
    | false => rfl
theorem ui {ps : List P4} (hl : ∀ p ∈ ps, p.ns.length ≤ 100) {mv : List (Option Int)} {who : Int} (hm : mv.length = ps.length) {qs : List Int} (hq : ∀ x ∈ qs, 0 ≤ x ∧ x < ps.length) : ce [gD ps, .int who, mD mv, .list (qs.map .int)] = .ok (.bool (qs.all (kh ps who mv qs))) := by
  obtain ⟨ρ, e⟩ := vZ hl hm (who := who) (qs := qs) qs .non .non hq
  unfold ce gX
  refine dP ?_
  rw [show ([gD ps, .int who, mD mv, .list (qs.map .int)].map aV.val ++ List.replicate (6 - [gD ps, .int who, mD mv, .list (qs.map .int)].length) aV.non) = [.val (gD ps), .val (.int who), .val (mD mv), .val (.list (qs.map .int)), .non, .non] from rfl]
  unfold tO at e
  have e' : (gy (ir (cY (ab 3)) (aI 4) (aL (bG 5 (aD a4 (ae (ab 0) (ae (ab 1) (ae (ab 2) (ae (ab 4) aF)))))) (iK (iO (tE (e2 (ip) (ab 5) (jo aF))) (tE (e2 (jw) (bC (cY (ab 5)) 1 [3] (aI 0) (tE (e2 (iG true) (ab 0) (ab 1))) (ab 0)) (jo aF)))) (bL (eC (.bool false))) bT)))) [.val (gD ps), .val (.int who), .val (mD mv), .val (.list (qs.map .int)), .non, .non] = if qs.all (kh ps who mv qs) = true then .ok (.nx ρ) else .ok (.rt (.bool false)) := by
    rw [dH, em, bI, ai, ai, ai, aj, R.ok_bind, iD, R.ok_bind, e]
    split <;> rfl
  cases hk : qs.all (kh ps who mv qs) with
  | true =>
    rw [hk, if_pos rfl] at e'
    rw [aE e']
    rfl
  | false =>
    rw [hk, if_neg (by simp)] at e'
    exact pF e'
theorem x3 (o : Option Int) : zr o = oD o := by cases o <;> rfl
abbrev xg (f : Int → Option Int) (n : Nat) : List (Option Int) := (ids n).map f
theorem yV (f : Int → Option Int) (n : Nat) : oT f n = mD (xg f n) := by
  show PyData.tuple _ = PyData.tuple _
  congr 1
  unfold cr xg
  rw [List.map_map (f := f)]
  apply List.map_congr_left
  intro i _
  exact (x3 _).symm
theorem tY (f : Int → Option Int) (n : Nat) : (xg f n).length = n := by simp
theorem r9 {f : Int → Option Int} {n : Nat} {i : Int} (h0 : 0 ≤ i) (h1 : i < n) : jI (xg f n) i = f i := by
  unfold jI
  rw [List.getElem?_map, sO (show i.toNat < n by omega)]
  show f _ = f i
  congr 1
  omega
theorem uB {ps : List P4} {who : Int} {f : Int → Option Int} {i : Int} (h0 : 0 ≤ i) (h1 : i < ps.length) : cn ps who (xg f ps.length) i = if ak ps i = who then (f i).toList else aW ps i := by
  unfold cn
  rw [r9 h0 h1]
theorem xT (x : PyData) (xs : List PyData) : AG (.list (x :: xs)) (some 1) none = .ok (.list xs) := by
  show R.ok (PyData.list (D2.qk (x :: xs) (some 1) none)) = _
  unfold D2.qk
  have h1 : HT.sIx (x :: xs).length 0 (some 1) = 1 := by
    unfold HT.sIx
    simp
  have h2 : HT.sIx (x :: xs).length (x :: xs).length none = (x :: xs).length := by
    unfold HT.sIx
    simp
  rw [h1, h2]
  simp
inductive vR (W : Int → List Int) (al : List Int) (s : Int) : Int → Prop
  | one {x : Int} : x ∈ W s → x ∈ al → vR W al s x
  | more {x y : Int} : vR W al s x → y ∈ W x → y ∈ al → vR W al s y
def tH : Fs := (aL (bG 7 (e2 bq (ab 6) (eC (.int 0)))) (aL (bG 6 (Bg (ab 6) (qe (eC (.int 1))) p6)) (iK (fW (tE (e2 (iG false) (ab 7) (ab 4))) (tE (e2 (iG true) (ab 7) (eS 5)))) (aL (fA 5 (ab 7)) (bG 6 (e2 fx (ab 6) (aD a4 (ae (ab 0) (ae (ab 1) (ae (ab 2) (ae (ab 7) aF)))))))) bT)))
abbrev mR (ps : List P4) (who : Int) (mv : List (Option Int)) (st : Int) (al found todo : List Int) (c7 : aV) : aG :=
  [.val (gD ps), .val (.int who), .val (mD mv), .val (.int st), .val (.list (al.map .int)), .own (.list (found.map .int)), .val (.list (todo.map .int)), c7]
theorem yd (x : Int) (xs : List Int) : bq (.list ((x :: xs).map .int)) (.int 0) = .ok (.int x) := by
  rw [qf (by omega) (by simp)]
  rfl
theorem wB {ps : List P4} (hl : ∀ p ∈ ps, p.ns.length ≤ 100) {mv : List (Option Int)} {who : Int} (hm : mv.length = ps.length) {st : Int} {al found todo : List Int} {x : Int} (h0 : x ∈ al → 0 ≤ x ∧ x < ps.length) (hf : found.length ≤ 1000) (ht : todo.length ≤ 1000000) (c7 : aV) :
    tH (mR ps who mv st al found (x :: todo) c7) = .ok (.nx (if x ∈ al ∧ x ∉ found then mR ps who mv st al (found ++ [x]) (todo ++ cn ps who mv x) (.val (.int x)) else mR ps who mv st al found todo (.val (.int x)))) := by
  unfold tH
  rw [aE (ρ' := mR ps who mv st al found (x :: todo) (.val (.int x))) (by
    rw [bh, bc, ai, ai, ai, ai, ai, ai, aj, R.ok_bind, bz, R.ok_bind, yd]
    rfl)]
  rw [aE (ρ' := mR ps who mv st al found todo (.val (.int x))) (by
    rw [bh, zn, ai, ai, ai, ai, ai, ai, aj, R.ok_bind, wK, bz, R.ok_bind, AK, R.ok_bind, R.ok_bind, vQ, R.ok_bind, List.map_cons, xT]
    rfl)]
  have htest : (fW (tE (e2 (iG false) (ab 7) (ab 4))) (tE (e2 (iG true) (ab 7) (eS 5)))) (mR ps who mv st al found todo (.val (.int x))) = .ok (bQ al x && !bQ found x) := by
    simp only [nh, bZ, bc, ai, aj, oS, oU, R.ok_bind, xD, ci]
    cases bQ al x <;> rfl
  rw [cU, htest, R.ok_bind]
  by_cases hx : x ∈ al ∧ x ∉ found
  · have hb : (bQ al x && !bQ found x) = true := by
      rw [bo.mpr hx.1]
      cases hq : bQ found x with
      | true => exact absurd (bo.mp hq) hx.2
      | false => rfl
    obtain ⟨b0, b1⟩ := h0 hx.1
    have hwl := jf hl (mv := mv) (who := who) b0 b1
    rw [hb, if_pos rfl, if_pos hx]
    rw [aE (ρ' := mR ps who mv st al (found ++ [x]) todo (.val (.int x))) (by
      rw [nX (ds := found.map .int) _ rfl (by rw [List.length_map]; exact Nat.lt_of_le_of_lt hf (by decide))]
      rw [ai, ai, ai, ai, ai, ai, ai, aj, cm, R.ok_bind]
      rw [show found.map PyData.int ++ [.int x] = (found ++ [x]).map .int by simp]
      rfl)]
    have hadd : fx (.list (todo.map .int)) (.list ((cn ps who mv x).map .int)) = .ok (.list ((todo ++ cn ps who mv x).map .int)) := by
      show (if (todo.map PyData.int).length + ((cn ps who mv x).map PyData.int).length ≤ sizeLine then R.ok (PyData.list _) else .no) = _
      rw [if_pos (by rw [List.length_map, List.length_map]; exact Nat.le_trans (show _ ≤ 1000100 by omega) (by decide)), List.map_append]
    rw [bh, bc, aY]
    simp only [aH, aM, ai, aj, R.ok_bind, pE b0 b1 hm, hadd]
    rfl
  · have hb : (bQ al x && !bQ found x) = false := by
      cases hq : bQ al x with
      | false => rfl
      | true =>
        cases hr : bQ found x with
        | true => rfl
        | false => exact absurd ⟨bo.mp hq, fun z => by rw [bo.mpr z] at hr; cases hr⟩ hx
    rw [hb, if_neg hx]
    rfl
structure pC (W : Int → List Int) (al : List Int) (st : Int) (found todo : List Int) : Prop where
  nd : found.Nodup
  sub : ∀ x ∈ found, x ∈ al
  rch : ∀ x ∈ found, vR W al st x
  cand : ∀ x ∈ todo, x ∈ al → vR W al st x
  first : ∀ y ∈ W st, y ∈ al → y ∈ found ∨ y ∈ todo
  closed : ∀ x ∈ found, ∀ y ∈ W x, y ∈ al → y ∈ found ∨ y ∈ todo
theorem pC.skip {W : Int → List Int} {al : List Int} {st : Int} {found todo : List Int} {x : Int} (h : pC W al st found (x :: todo)) (hx : ¬ (x ∈ al ∧ x ∉ found)) : pC W al st found todo := by
  have drop : ∀ y, y ∈ al → (y ∈ found ∨ y ∈ x :: todo) → y ∈ found ∨ y ∈ todo := fun y hy hq => by
    rcases hq with z | z
    · exact .inl z
    · rcases List.mem_cons.mp z with rfl | z
      · left
        exact Classical.byContradiction fun w => hx ⟨hy, w⟩
      · exact .inr z
  exact ⟨h.nd, h.sub, h.rch, fun y hy => h.cand y (List.mem_cons_of_mem _ hy), fun y h1 h2 => drop y h2 (h.first y h1 h2), fun z hz y h1 h2 => drop y h2 (h.closed z hz y h1 h2)⟩
theorem pC.take {W : Int → List Int} {al : List Int} {st : Int} {found todo : List Int} {x : Int} (h : pC W al st found (x :: todo)) (hx : x ∈ al ∧ x ∉ found) : pC W al st (found ++ [x]) (todo ++ W x) := by
  have hr : vR W al st x := h.cand x List.mem_cons_self hx.1
  have up : ∀ y, (y ∈ found ∨ y ∈ x :: todo) → y ∈ found ++ [x] ∨ y ∈ todo ++ W x := fun y hq => by
    rcases hq with z | z
    · exact .inl (List.mem_append_left _ z)
    · rcases List.mem_cons.mp z with rfl | z
      · exact .inl (List.mem_append_right _ List.mem_cons_self)
      · exact .inr (List.mem_append_left _ z)
  refine ⟨?_, fun y hy => ?_, fun y hy => ?_, fun y hy ha => ?_, fun y h1 h2 => up y (h.first y h1 h2), fun z hz y h1 h2 => ?_⟩
  · rw [List.nodup_append]
    refine ⟨h.nd, by simp, fun a ha b hb e => ?_⟩
    simp at hb
    subst hb
    subst e
    exact hx.2 ha
  · rcases List.mem_append.mp hy with z | z
    · exact h.sub y z
    · simp at z; subst z; exact hx.1
  · rcases List.mem_append.mp hy with z | z
    · exact h.rch y z
    · simp at z; subst z; exact hr
  · rcases List.mem_append.mp hy with z | z
    · exact h.cand y (List.mem_cons_of_mem _ z) ha
    · exact .more hr z ha
  · rcases List.mem_append.mp hz with w | w
    · exact up y (h.closed z w y h1 h2)
    · simp at w
      subst w
      exact .inr (List.mem_append_right _ h1)
theorem pC.done {W : Int → List Int} {al : List Int} {st : Int} {found : List Int} (h : pC W al st found []) (x : Int) : x ∈ found ↔ vR W al st x := by
  refine ⟨h.rch x, fun hr => ?_⟩
  induction hr with
  | one h1 h2 =>
    rcases h.first _ h1 h2 with z | z
    · exact z
    · cases z
  | more _ h1 h2 ih =>
    rcases h.closed _ ih _ h1 h2 with z | z
    · exact z
    · cases z
theorem jJ : ∀ {l m : List Int}, l.Nodup → (∀ x ∈ l, x ∈ m) → l.length ≤ m.length
  | [], m, _, _ => Nat.zero_le _
  | x :: l, m, nd, h => by
    obtain ⟨n1, n2⟩ := List.nodup_cons.mp nd
    have hx := h x List.mem_cons_self
    have := jJ (m := m.erase x) n2 fun y hy => (List.mem_erase_of_ne (by rintro rfl; exact n1 hy)).mpr (h y (List.mem_cons_of_mem _ hy))
    rw [List.length_erase_of_mem hx] at this
    have hp := List.length_pos_of_mem hx
    rw [List.length_cons]
    omega
theorem k8 (t : aG → R Bool) (g : Fs) (n : Nat) (ρ : aG) : cp t g (n + 1) ρ = (t ρ >>= fun b => if b = true then g ρ >>= mB (cp t g n) else .ok (.nx ρ)) := by
  rw [cp]
  congr 1
theorem vH {ps : List P4} (hl : ∀ p ∈ ps, p.ns.length ≤ 100) {mv : List (Option Int)} {who : Int} (hm : mv.length = ps.length) {st : Int} {al : List Int} (ha : ∀ x ∈ al, 0 ≤ x ∧ x < ps.length) (hal : al.length ≤ 100) : ∀ (n : Nat) (found todo : List Int) (c7 : aV), pC (cn ps who mv) al st found todo → todo.length + (al.length - found.length) * 101 + 1 ≤ n → n ≤ 1000000 →
    ∃ (rs : List Int) (c7' : aV), (∀ x, x ∈ rs ↔ vR (cn ps who mv) al st x) ∧ cp (tE (e2 (jw) (ab 6) (jo aF))) tH n (mR ps who mv st al found todo c7) = .ok (.nx (mR ps who mv st al rs [] c7'))
  | 0, found, todo, c7, _, h, _ => by omega
  | n + 1, found, [], c7, I, h, hn => by
    refine ⟨found, c7, fun x => I.done x, ?_⟩
    rw [k8]
    have n0 := wV ([] : List Int) []
    simp only [List.map_nil] at n0
    simp [n0]
  | n + 1, found, x :: todo, c7, I, h, hn => by
    have hfl := jJ I.nd I.sub
    rw [List.length_cons] at h
    have n0 := wV (x :: todo) []
    simp only [List.map_nil] at n0
    have htest : tE (e2 (jw) (ab 6) (jo aF)) (mR ps who mv st al found (x :: todo) c7) = .ok true := by
      simp only [bZ, bc, ai, aj, lJ, aM, R.ok_bind, List.length_nil]
      rw [if_pos (Nat.zero_le _), R.ok_bind, n0, R.ok_bind]
      rfl
    rw [k8, htest, R.ok_bind, if_pos rfl, wB hl hm (ha x) (by omega) (by omega), R.ok_bind, cP]
    by_cases hx : x ∈ al ∧ x ∉ found
    · rw [if_pos hx]
      have hwl := jf hl (mv := mv) (who := who) (ha x hx.1).1 (ha x hx.1).2
      have I' := I.take hx
      have hfl' := jJ I'.nd I'.sub
      rw [List.length_append] at hfl'
      simp only [List.length_cons, List.length_nil] at hfl'
      exact vH hl hm ha hal n (found ++ [x]) (todo ++ cn ps who mv x) (.val (.int x)) I' (by
        rw [List.length_append, List.length_append]
        simp only [List.length_cons, List.length_nil]
        have e : (al.length - found.length) = (al.length - (found.length + 1)) + 1 := by omega
        rw [e, Nat.add_mul] at h
        simp only [Nat.zero_add]
        omega) (by omega)
    · rw [if_neg hx]
      exact vH hl hm ha hal n found todo (.val (.int x)) (I.skip hx) (by omega) (by omega)
theorem sy {ps : List P4} (hl : ∀ p ∈ ps, p.ns.length ≤ 100) {mv : List (Option Int)} {who : Int} (hm : mv.length = ps.length) {st : Int} (s0 : 0 ≤ st) (s1 : st < ps.length) {al : List Int} (ha : ∀ x ∈ al, 0 ≤ x ∧ x < ps.length) (hal : al.length ≤ 100) :
    ∃ rs : List Int, bH [gD ps, .int who, mD mv, .int st, .list (al.map .int)] = .ok (.list (rs.map .int)) ∧ ∀ x, x ∈ rs ↔ vR (cn ps who mv) al st x := by
  have hwl := jf hl (mv := mv) (who := who) s0 s1
  obtain ⟨rs, c7, h1, h2⟩ := vH hl hm (who := who) (st := st) ha hal 1000000 [] (cn ps who mv st) .non ⟨by simp, by simp, by simp, fun x hx hy => .one hx hy, fun y hy _ => .inr hy, by simp⟩ (by simp; omega) (Nat.le_refl _)
  refine ⟨rs, ?_, h1⟩
  unfold bH gB
  refine dP ?_
  rw [show ([gD ps, .int who, mD mv, .int st, .list (al.map .int)].map aV.val ++ List.replicate (8 - [gD ps, .int who, mD mv, .int st, .list (al.map .int)].length) aV.non) = [.val (gD ps), .val (.int who), .val (mD mv), .val (.int st), .val (.list (al.map .int)), .non, .non, .non] from rfl]
  rw [aE (ρ' := [.val (gD ps), .val (.int who), .val (mD mv), .val (.int st), .val (.list (al.map .int)), .own (.list []), .non, .non]) (by
    rw [kg, lJ, aM, R.ok_bind, if_pos (show ([] : List PyData).length ≤ sizeLine from Nat.zero_le _)]
    rfl)]
  rw [aE (ρ' := mR ps who mv st al [] (cn ps who mv st) .non) (by
    rw [bh, aY]
    simp only [aH, aM, ai, aj, R.ok_bind, pE s0 s1 hm]
    rfl)]
  rw [aE (ρ' := mR ps who mv st al rs [] c7) (by
    rw [dH]
    unfold tH at h2
    show lD (cp _ _ 1000000 _) = _
    rw [h2]
    rfl)]
  rfl
structure Sh where
  w : Int
  pl : List Int
  mv : Int → Option Int
abbrev ye : List Str := ["who", "places", "moves"]
def im (c : Addr) (n : Nat) (s : Sh) : PyData := vO c ye [.int s.w, .tuple (s.pl.map .int), oT s.mv n]
theorem qT (c : Addr) (n : Nat) (s : Sh) : im c n s = .dict [(.none, .int c), (.str "who", .int s.w), (.str "places", .tuple (s.pl.map .int)), (.str "moves", oT s.mv n)] := rfl
theorem yz (c : Addr) (n : Nat) (s : Sh) : jl c "who" (im c n s) = .ok (.int s.w) := by
  rw [qT]
  show (if (c : Int) = (c : Int) then (if ("who" : Str) = "who" then R.ok _ else _) else .no) = _
  rw [if_pos rfl, if_pos rfl]
theorem mG (c : Addr) (n : Nat) (s : Sh) : jl c "places" (im c n s) = .ok (.tuple (s.pl.map .int)) := by
  rw [qT]
  show (if (c : Int) = (c : Int) then (if ("who" : Str) = "places" then _ else if ("places" : Str) = "places" then R.ok _ else _) else .no) = _
  rw [if_pos rfl, if_neg (by decide +kernel), if_pos rfl]
theorem ur (c : Addr) (n : Nat) (s : Sh) : jl c "moves" (im c n s) = .ok (oT s.mv n) := by
  rw [qT]
  show (if (c : Int) = (c : Int) then (if ("who" : Str) = "moves" then _ else if ("places" : Str) = "moves" then _ else if ("moves" : Str) = "moves" then R.ok _ else _) else .no) = _
  rw [if_pos rfl, if_neg (by decide +kernel), if_neg (by decide +kernel), if_pos rfl]
theorem ya {f g h : Int → PyData} {n : Nat} {fe : Fe} {ρ : aG} (hh : ∀ i : Int, 0 ≤ i → i < n → fe (.val (f i) :: .val (g i) :: ρ) = .ok (h i)) : bJ (dQ 0 1) (fun _ => .ok true) fe (.non :: .non :: ρ) (iT (cr f n) (cr g n)) = .ok (cr h n) := by
  have go : ∀ is : List Int, (∀ i ∈ is, 0 ≤ i ∧ i < n) → bJ (dQ 0 1) (fun _ => .ok true) fe (.non :: .non :: ρ) (iT (is.map f) (is.map g)) = .ok (is.map h) := by
    intro is
    induction is with
    | nil => intro _; unfold iT; simp [dg]
    | cons i is ih =>
      intro hb
      have e : iT ((i :: is).map f) ((i :: is).map g) = .tuple [f i, g i] :: iT (is.map f) (is.map g) := rfl
      rw [e, jT, ih fun x hx => hb x (List.mem_cons_of_mem _ hx)]
      have := hh i (hb i List.mem_cons_self).1 (hb i List.mem_cons_self).2
      simp only [R.ok_bind, if_true, List.set_cons_zero, List.set_cons_succ, this]
      rfl
  exact go (ids n) fun i hi => cv.mp hi
def dn (f g : Int → Option Int) (i : Int) : Option Int := (f i).or (g i)
theorem lK {f g : Int → Option Int} {n : Nat} (hn : n ≤ 1000) : au [oT f n, oT g n] = .ok (oT (dn f g) n) := by
  have hc := ya (f := fun i => oD (f i)) (g := fun i => oD (g i)) (h := fun i => oD (dn f g i)) (n := n) (ρ := []) (fe := yn (tE (e2 (j9) (ab 0) (eC .none))) (ab 1) (ab 0)) fun i _ _ => by
    simp only [qV, bZ, bc, aj, ai, bz, R.ok_bind, rj, ci]
    unfold dn
    cases f i <;> rfl
  unfold au fg
  refine dP ?_
  rw [show ([oT f n, oT g n].map aV.val ++ List.replicate (2 - [oT f n, oT g n].length) aV.non) = [.val (oT f n), .val (oT g n)] from rfl]
  rw [cC, cA, bp, show aw 2 [] [.val (oT f n), .val (oT g n)] = [.non, .non] from rfl]
  simp only [xy, aj, ai, R.ok_bind, dL, cm]
  rw [if_pos (by rw [mK, bm, bm, Nat.min_self]; exact bS hn), hc]
  rfl
theorem ny {ps : List P4} (hp : ps.length ≤ 1000) : cb [gD ps] = .ok (.tuple ((ids ps.length).map .int)) := by
  have hrt := qw (n := ps.length) hp
  have hlen : cZ (gD ps) = .ok (.int ps.length) := by simp
  unfold cb ib
  refine dP ?_
  rw [show ([gD ps].map aV.val ++ List.replicate (1 - [gD ps].length) aV.non) = [.val (gD ps)] from rfl]
  simp only [cC, wz, aH, aM, cA, aj, R.ok_bind, hlen, hrt]
def vM (s : Sh) (f : Int → Option Int) (i : Int) : Option Int := if i ∈ s.pl then some s.w else f i
def la : (Int → Option Int) → List Sh → Int → Option Int
  | f, [] => f
  | f, s :: l => la (vM s f) l
def p4 : (Int → Option Int) → List Sh → Int → Option Int
  | f, [] => f
  | f, s :: l => p4 (dn f s.mv) l
theorem ww {c : Addr} {n : Nat} {a b m : PyData} {s : Sh} : ∀ (is : List Int) (f : Int → Option Int) (c5 : aV), (∀ x ∈ is, 0 ≤ x ∧ x < n) →
    ∃ c5', dO (aI 5) (gh 2 (ab 5) (e1 (jl c "who") (ab 4))) (is.map .int) [.val a, .val b, .own (.list (cr (fun i => oD (f i)) n)), .val m, .val (im c n s), c5] = .ok (.nx [.val a, .val b, .own (.list (cr (fun i => oD (if i ∈ is then some s.w else f i)) n)), .val m, .val (im c n s), c5'])
  | [], f, c5, _ => ⟨c5, by rw [List.map_nil, dE]; simp⟩
  | i :: is, f, c5, hb => by
    obtain ⟨h0, h1⟩ := hb i List.mem_cons_self
    obtain ⟨c5', e⟩ := ww (c := c) (n := n) (a := a) (b := b) (m := m) (s := s) is (fun j => if j = i then some s.w else f j) (.val (.int i)) fun x hx => hb x (List.mem_cons_of_mem _ hx)
    refine ⟨c5', ?_⟩
    rw [List.map_cons, dm]
    rw [show (([.val a, .val b, .own (.list (cr (fun i => oD (f i)) n)), .val m, .val (im c n s), c5] : aG).set 5 (.val (.int i))) = [.val a, .val b, .own (.list (cr (fun i => oD (f i)) n)), .val m, .val (im c n s), .val (.int i)] from rfl]
    rw [lL (ds := cr (fun i => oD (f i)) n) (n := i) (v := .int s.w) rfl rfl (by simp only [cA, ai, aj, R.ok_bind, yz]) h0 (by rw [bm]; exact h1), R.ok_bind, cP, lF h0 h1]
    have ht : cr (fun j => if j = i then PyData.int s.w else oD (f j)) n = cr (fun j => oD (if j = i then some s.w else f j)) n := cu fun j _ _ => by split <;> rfl
    have ht2 : cr (fun j => oD (if j ∈ is then some s.w else if j = i then some s.w else f j)) n = cr (fun j => oD (if j ∈ i :: is then some s.w else f j)) n := cu fun j _ _ => by
      by_cases z1 : j ∈ is
      · simp [z1]
      · by_cases z2 : j = i <;> simp [z1, z2]
    rw [ht, ← ht2]
    exact e
def oE (c : Addr) : Fs := (aL (gy (ir (cY (e1 (jl c "places") (ab 4))) (aI 5) (gh 2 (ab 5) (e1 (jl c "who") (ab 4))))) (bG 3 (aD au (ae (ab 3) (ae (e1 (jl c "moves") (ab 4)) aF)))))
theorem sW {c : Addr} {n : Nat} (hn : n ≤ 1000) {a b : PyData} : ∀ (l : List Sh) (f m : Int → Option Int) (c4 c5 : aV), (∀ s ∈ l, ∀ x ∈ s.pl, 0 ≤ x ∧ x < n) →
    ∃ c4' c5', dO (aI 4) (oE c) (l.map (im c n)) [.val a, .val b, .own (.list (cr (fun i => oD (f i)) n)), .val (oT m n), c4, c5] = .ok (.nx [.val a, .val b, .own (.list (cr (fun i => oD (la f l i)) n)), .val (oT (p4 m l) n), c4', c5'])
  | [], f, m, c4, c5, _ => ⟨c4, c5, by rw [List.map_nil, dE]; rfl⟩
  | s :: l, f, m, c4, c5, hb => by
    obtain ⟨d5, e1⟩ := ww (c := c) (n := n) (a := a) (b := b) (m := oT m n) (s := s) s.pl f c5 (hb s List.mem_cons_self)
    obtain ⟨c4', c5', e⟩ := sW (c := c) hn (a := a) (b := b) l (vM s f) (dn m s.mv) (.val (im c n s)) d5 fun t ht => hb t (List.mem_cons_of_mem _ ht)
    refine ⟨c4', c5', ?_⟩
    rw [List.map_cons, dm]
    rw [show (([.val a, .val b, .own (.list (cr (fun i => oD (f i)) n)), .val (oT m n), c4, c5] : aG).set 4 (.val (im c n s))) = [.val a, .val b, .own (.list (cr (fun i => oD (f i)) n)), .val (oT m n), .val (im c n s), c5] from rfl]
    have hb1 : oE c [.val a, .val b, .own (.list (cr (fun i => oD (f i)) n)), .val (oT m n), .val (im c n s), c5] = .ok (.nx [.val a, .val b, .own (.list (cr (fun i => oD (vM s f i)) n)), .val (oT (dn m s.mv) n), .val (im c n s), d5]) := by
      unfold oE
      rw [aE (ρ' := [.val a, .val b, .own (.list (cr (fun i => oD (vM s f i)) n)), .val (oT m n), .val (im c n s), d5]) (by
        rw [dH, em, bI, cA]
        simp only [ai, aj, R.ok_bind, mG, dL]
        rw [e1]
        rfl)]
      simp only [bh, aY, aH, aM, cA, ai, aj, R.ok_bind, ur, lK hn]
      rfl
    rw [hb1, R.ok_bind, cP, e]
    rfl
theorem Bl {ps : List P4} (hp : ps.length ≤ 1000) {c : Addr} {l : List Sh} (hb : ∀ s ∈ l, ∀ x ∈ s.pl, 0 ≤ x ∧ x < ps.length) :
    aO c [gD ps, .list (l.map (im c ps.length))] = .ok (.tuple [oT (la (fun _ => none) l) ps.length, oT (p4 (fun _ => none) l) ps.length]) := by
  obtain ⟨c4, c5, e⟩ := sW (c := c) hp (a := gD ps) (b := .list (l.map (im c ps.length))) l (fun _ => none) (fun _ => none) .non .non hb
  have h0 : bJ (aI 0) (fun _ => .ok true) (eC .none) [.non] (ps.map P4.d) = .ok (cr (fun _ => oD none) ps.length) := by
    have := gH (eC .none) [.non] 0 (fun _ => .none) (ps.map P4.d) fun d _ => rfl
    rw [this]
    congr 1
    refine List.ext_getElem (by rw [List.length_map, List.length_map, bm]) fun k h1 h2 => ?_
    rw [bm] at h2
    have e := fD (f := fun _ => oD none) (n := ps.length) (i := (k : Int)) (by omega) (by omega)
    simp only [Int.toNat_natCast] at e
    rw [e, List.getElem_map]
    rfl
  have hn := k0 (ps := ps) hp
  unfold aO dA
  refine dP ?_
  rw [show ([gD ps, .list (l.map (im c ps.length))].map aV.val ++ List.replicate (6 - [gD ps, .list (l.map (im c ps.length))].length) aV.non) = [.val (gD ps), .val (.list (l.map (im c ps.length))), .non, .non, .non, .non] from rfl]
  rw [aE (ρ' := [.val (gD ps), .val (.list (l.map (im c ps.length))), .own (.list (cr (fun _ => oD none) ps.length)), .non, .non, .non]) (by
    rw [kg, bp, show aw 1 [] [.val (gD ps), .val (.list (l.map (im c ps.length))), .non, .non, .non, .non] = [.non] from rfl]
    simp only [bI, aj, R.ok_bind, dL, cm]
    rw [if_pos (by rw [List.length_map]; exact bS hp), h0]
    rfl)]
  rw [aE (ρ' := [.val (gD ps), .val (.list (l.map (im c ps.length))), .own (.list (cr (fun _ => oD none) ps.length)), .val (oT (fun _ => none) ps.length), .non, .non]) (by
    simp only [bh, aY, aH, aM, aj, R.ok_bind, hn]
    rfl)]
  rw [aE (ρ' := [.val (gD ps), .val (.list (l.map (im c ps.length))), .own (.list (cr (fun i => oD (la (fun _ => none) l i)) ps.length)), .val (oT (p4 (fun _ => none) l) ps.length), c4, c5]) (by
    rw [dH, em, bI]
    simp only [ai, aj, R.ok_bind, iD]
    unfold oE at e
    rw [e]
    rfl)]
  simp only [cC, o5, aH, aM, cA, oS, oU, ai, aj, R.ok_bind, wf]
  rfl
def Wy (ps : List P4) (js : List Int) (w : Int) (mv : Int → Option Int) (i g : Int) : Prop := (ak ps i = w ∧ mv i = some g) ∨ (ak ps i ≠ w ∧ g ∈ bn ps js i)
theorem eT {ps : List P4} {js : List Int} {i g : Int} (h : g ∈ bn ps js i) : g ∈ js := bo.mp (List.mem_filter.mp h).2
theorem df {ps : List P4} {js : List Int} {i g : Int} (h : g ∈ bn ps js i) : g ∈ aW ps i := (List.mem_filter.mp h).1
theorem gi {ps : List P4} {js : List Int} {i g : Int} (h : g ∈ aW ps i) (h2 : g ∈ js) : g ∈ bn ps js i := List.mem_filter.mpr ⟨h, bo.mpr h2⟩
theorem sL {ps : List P4} {js gs : List Int} {who : Int} {rk : Int → Option Int} (A : rZ ps js who gs rk) {i q : Int} (h : rk i = some q) (hq : 0 < q) (ho : ak ps i = who) : ∃ g, kz ps who rk i = some g ∧ g ∈ bn ps js i ∧ rk g = some (q - 1) := by
  obtain ⟨g, g1, g2⟩ := jQ A i q h hq ho
  have hm : kz ps who rk i = ((aW ps i).filter fun g => decide (rk g = some (q - 1))).head? := by
    unfold kz
    rw [h]
    exact if_pos ⟨ho, hq⟩
  have hmem : g ∈ (aW ps i).filter fun g => decide (rk g = some (q - 1)) := List.mem_filter.mpr ⟨g1, decide_eq_true g2⟩
  cases hL : (aW ps i).filter fun g => decide (rk g = some (q - 1)) with
  | nil => rw [hL] at hmem; cases hmem
  | cons v r =>
    rw [hL] at hm
    have hv : v ∈ (aW ps i).filter fun g => decide (rk g = some (q - 1)) := by rw [hL]; exact List.mem_cons_self
    have h2 := of_decide_eq_true (List.mem_filter.mp hv).2
    exact ⟨v, hm, gi (List.mem_filter.mp hv).1 (A.sub v _ h2), h2⟩
theorem fS {ps : List P4} {who : Int} {rk : Int → Option Int} {i : Int} (h : ak ps i ≠ who ∨ rk i = none ∨ rk i = some 0) : kz ps who rk i = none := by
  unfold kz
  rcases h with h | h | h
  · cases rk i with
    | none => rfl
    | some q => exact if_neg fun z => h z.1
  · rw [h]
  · rw [h]
    exact if_neg fun z => by omega
theorem uG {ps : List P4} {who : Int} {part : List Int} {i : Int} (hi : i ∈ part) (ho : ak ps i = who) (hw : ∃ g, g ∈ bn ps part i) : ∃ g, dY ps who part i = some g ∧ g ∈ bn ps part i := by
  have hm : dY ps who part i = (bn ps part i).head? := if_pos ⟨hi, ho⟩
  obtain ⟨g, hg⟩ := hw
  cases hL : bn ps part i with
  | nil => rw [hL] at hg; cases hg
  | cons v r =>
    rw [hL] at hm
    exact ⟨v, hm, List.mem_cons_self⟩
theorem rP {ps : List P4} {who : Int} {part : List Int} {i : Int} (h : i ∉ part ∨ ak ps i ≠ who) : dY ps who part i = none := if_neg fun z => h.elim (fun y => y z.1) fun y => y z.2
def t9 (ps : List P4) (i : Int) : PyData := (ps[i.toNat]?.map P4.d).getD .none
theorem zl (ps : List P4) : ps.map P4.d = cr (t9 ps) ps.length := by
  refine List.ext_getElem (by rw [List.length_map, bm]) fun k h1 h2 => ?_
  rw [bm] at h2
  have e := fD (f := t9 ps) (n := ps.length) (i := (k : Int)) (by omega) (by omega)
  simp only [Int.toNat_natCast] at e
  rw [e, List.getElem_map]
  unfold t9
  rw [List.getElem?_eq_getElem (by omega)]
  simp
theorem AZ {ps : List P4} {i : Int} (h0 : 0 ≤ i) (h1 : i < ps.length) : bq (t9 ps i) (.int 0) = .ok (.int (ak ps i)) := by
  unfold t9
  rw [List.getElem?_eq_getElem (show i.toNat < ps.length by omega), eE h0 h1]
  rfl
theorem qp (f g h : Int → PyData) : ∀ is : List Int, eX (is.map f) (is.map g) (is.map h) = is.map fun i => .tuple [f i, g i, h i]
  | [] => rfl
  | i :: is => by rw [List.map_cons, List.map_cons, List.map_cons, List.map_cons, ← qp f g h is]; rfl
theorem AT (a b : Bool) : jw (.bool a) (.bool b) = .ok (.bool (a != b)) := by
  unfold jw
  rw [if_pos (by unfold o1; simp [PyData.canLay0, PyData.depth])]
  cases a <;> cases b <;> rfl
def kb : Fs := (aL (iK (iO (fV (tE (e1 (dS .int) (ab 3)))) (iO (tE (e1 (dS .bool) (ab 3))) (tE (e2 (iG true) (ab 3) (qJ (ae (eC (.int 0)) (ae (eC (.int 1)) aF))))))) (bL (eC (.bool false))) bT) (iK (tE (e2 (jw) (e2 (j9) (ab 4) (eC .none)) (e2 (jw) (e2 bq (ab 2) (eC (.int 0))) (ab 3)))) (bL (eC (.bool false))) bT))
theorem nM {a b : PyData} {ps : List P4} {win : Int → Int} {mv : Int → Option Int} (h01 : ∀ i : Int, 0 ≤ i → i < ps.length → win i = 0 ∨ win i = 1) (hn : ∀ i : Int, 0 ≤ i → i < ps.length → (mv i = none ↔ ak ps i ≠ win i)) : ∀ (is : List Int) (c2 c3 c4 : aV), (∀ x ∈ is, 0 ≤ x ∧ x < ps.length) →
    ∃ ρ, dO (rE 2 3 4) kb (is.map fun i => .tuple [t9 ps i, .int (win i), oD (mv i)]) [.val a, .val b, c2, c3, c4] = .ok (.nx ρ)
  | [], c2, c3, c4, _ => ⟨_, by rw [List.map_nil, dE]⟩
  | i :: is, c2, c3, c4, hb => by
    obtain ⟨h0, h1⟩ := hb i List.mem_cons_self
    obtain ⟨ρ, e⟩ := nM (a := a) (b := b) h01 hn is (.val (t9 ps i)) (.val (.int (win i))) (.val (oD (mv i))) fun x hx => hb x (List.mem_cons_of_mem _ hx)
    refine ⟨ρ, ?_⟩
    rw [List.map_cons, vi]
    rw [show ((([.val a, .val b, c2, c3, c4] : aG).set 2 (.val (t9 ps i))).set 3 (.val (.int (win i)))).set 4 (.val (oD (mv i))) = [.val a, .val b, .val (t9 ps i), .val (.int (win i)), .val (oD (mv i))] from rfl]
    have hb1 : kb [.val a, .val b, .val (t9 ps i), .val (.int (win i)), .val (oD (mv i))] = .ok (.nx [.val a, .val b, .val (t9 ps i), .val (.int (win i)), .val (oD (mv i))]) := by
      have hin := zU [0, 1] (win i) true
      have hm : bQ [0, 1] (win i) = true := bo.mpr (by rcases h01 i h0 h1 with z | z <;> simp [z])
      rw [hm] at hin
      simp only [List.map_cons, List.map_nil] at hin
      unfold kb
      rw [aE (ρ' := [.val a, .val b, .val (t9 ps i), .val (.int (win i)), .val (oD (mv i))]) (by
        simp only [cU, jX, gM, bZ, cA, bc, o5, aH, aM, ai, aj, bz, R.ok_bind, show dS .int (.int (win i)) = .ok (.bool true) from rfl, show dS .bool (.int (win i)) = .ok (.bool false) from rfl, ci]
        rw [if_neg (by simp), if_neg (by simp), if_pos (by show 2 ≤ _; decide), R.ok_bind, hin]
        rfl)]
      simp only [cU, bZ, bc, ai, aj, bz, R.ok_bind, rj, AZ h0 h1, nK, AT, ci]
      have : ((mv i).isNone != !decide (ak ps i = win i)) = false := by
        have := hn i h0 h1
        cases hm : mv i with
        | none =>
          rw [hm] at this
          have := this.mp rfl
          simp [this]
        | some g =>
          rw [hm] at this
          have : ak ps i = win i := by
            by_cases z : ak ps i = win i
            · exact z
            · cases this.mpr z
          simp [this]
      rw [this]
      rfl
    rw [hb1, R.ok_bind, cP, e]
theorem x9 {ps : List P4} {win : Int → Int} {mv : Int → Option Int} (h01 : ∀ i : Int, 0 ≤ i → i < ps.length → win i = 0 ∨ win i = 1) (hn : ∀ i : Int, 0 ≤ i → i < ps.length → (mv i = none ↔ ak ps i ≠ win i)) (hg : ∀ i g, mv i = some g → g ∈ aW ps i) {f : PyData} (hf : f = .tuple [oT (fun i => some (win i)) ps.length, oT mv ps.length]) :
    bx [f, gD ps] = .ok (.bool true) := by
  have hmg := nz (d := oT mv ps.length) (oy _ _) (ps := ps)
  rw [uj hg] at hmg
  obtain ⟨ρ, e⟩ := nM (a := f) (b := gD ps) h01 hn (ids ps.length) .non .non .non fun x hx => cv.mp hx
  have hf0 : bq f (.int 0) = .ok (oT (fun i => some (win i)) ps.length) := by rw [hf]; rfl
  have hf1 : bq f (.int 1) = .ok (oT mv ps.length) := by rw [hf]; rfl
  have hfl : cZ f = .ok (.int 2) := by rw [hf]; rfl
  have hfi : dS .tuple f = .ok (.bool true) := by rw [hf]; rfl
  have hlen : cZ (gD ps) = .ok (.int ps.length) := by simp
  have hz : eX (ps.map P4.d) (cr (fun i => oD (some (win i))) ps.length) (cr (fun i => oD (mv i)) ps.length) = (ids ps.length).map fun i => .tuple [t9 ps i, .int (win i), oD (mv i)] := by
    rw [zl]
    exact qp _ _ _ _
  unfold bx e9
  refine dP ?_
  rw [show ([f, gD ps].map aV.val ++ List.replicate (5 - [f, gD ps].length) aV.non) = [.val f, .val (gD ps), .non, .non, .non] from rfl]
  rw [aE (ρ' := [.val f, .val (gD ps), .non, .non, .non]) (by
    simp only [cU, jX, gM, bZ, cA, bc, ai, aj, bz, R.ok_bind, hfi, hfl, hf0, ci, nK, show dS .tuple (oT (fun i => some (win i)) ps.length) = .ok (.bool true) from rfl]
    rfl)]
  rw [aE (ρ' := [.val f, .val (gD ps), .non, .non, .non]) (by
    simp only [cU, jX, gM, bZ, cA, bc, aY, aH, aM, ai, aj, bz, R.ok_bind, hf0, hf1, hlen, hmg, pe, bm, ci, nK, decide_true]
    rfl)]
  rw [aE (ρ' := ρ) (by
    rw [dH, em, wC]
    simp only [bc, ai, aj, bz, R.ok_bind, hf0, hf1, AC, hz]
    unfold kb at e
    rw [e]
    rfl)]
  rfl
theorem uS {f g : Int → Option Int} {n : Nat} : jw (.tuple [oT f n, oT g n]) (.tuple [oT f n, oT g n]) = .ok (.bool false) := by
  refine xc (jD.mpr fun x hx => ?_) ?_
  · simp at hx
    rcases hx with rfl | rfl
    · exact oy _ _
    · exact oy _ _
  · simp [PyData.depth, PyData.depthAll, (pW _ _).dep]
theorem lE {ps : List P4} (G : Gr ps) {w : Int} {mv : Int → Option Int} {i g : Int} (h0 : 0 ≤ i) (h1 : i < ps.length) : g ∈ cn ps w (xg mv ps.length) i ↔ Wy ps (ids ps.length) w mv i g := by
  rw [uB h0 h1]
  unfold Wy
  by_cases ho : ak ps i = w
  · rw [if_pos ho]
    simp [ho, Option.mem_toList]
  · rw [if_neg ho]
    constructor
    · exact fun h => .inr ⟨ho, gi h (cv.mpr (G.goals h))⟩
    · rintro (⟨z, _⟩ | ⟨_, z⟩)
      · exact (ho z).elim
      · exact df z
theorem wA {ps : List P4} (G : Gr ps) {w : Int} {mv : Int → Option Int} {qs : List Int} (hq : ∀ x ∈ qs, 0 ≤ x ∧ x < ps.length) (hs : ∀ i ∈ qs, ∀ g, Wy ps (ids ps.length) w mv i g → g ∈ qs) (hx : ∀ i ∈ qs, ak ps i = w → ∃ g, mv i = some g) : qs.all (kh ps w (xg mv ps.length) qs) = true := by
  rw [List.all_eq_true]
  intro i hi
  obtain ⟨h0, h1⟩ := hq i hi
  unfold kh
  rw [Bool.and_eq_true]
  constructor
  · rw [Bool.not_eq_true', decide_eq_false_iff_not]
    intro z
    by_cases ho : ak ps i = w
    · obtain ⟨g, hg⟩ := hx i hi ho
      have := (lE G h0 h1).mpr (show Wy ps (ids ps.length) w mv i g from .inl ⟨ho, hg⟩)
      rw [z] at this
      cases this
    · obtain ⟨g, hg⟩ := G.gne h0 h1
      have := (lE G h0 h1).mpr (show Wy ps (ids ps.length) w mv i g from .inr ⟨ho, gi hg (cv.mpr (G.goals hg))⟩)
      rw [z] at this
      cases this
  · rw [decide_eq_true_iff, List.filter_eq_nil_iff]
    intro g hg
    rw [bo.mpr (hs i hi g ((lE G h0 h1).mp hg))]
    simp
theorem wn {W : Int → List Int} {al : List Int} {s x : Int} (h : vR W al s x) : x ∈ al := by cases h <;> assumption
inductive o8 (E : Int → Int → Prop) (al : Int → Prop) (s : Int) : Int → Prop
  | one {x : Int} : E s x → al x → o8 E al s x
  | more {x y : Int} : o8 E al s x → E x y → al y → o8 E al s y
theorem o8.al {E : Int → Int → Prop} {al : Int → Prop} {s x : Int} (h : o8 E al s x) : al x := by cases h <;> assumption
theorem o8.imp {E E' : Int → Int → Prop} {al al' : Int → Prop} {s t : Int} (h : o8 E al s t) (h1 : ∀ y, E s y → al y → E' s y ∧ al' y) (h2 : ∀ x y, al x → E x y → al y → E' x y ∧ al' y) : o8 E' al' s t := by
  induction h with
  | one a b => exact .one (h1 _ a b).1 (h1 _ a b).2
  | more r a b ih => exact .more ih (h2 _ _ r.al a b).1 (h2 _ _ r.al a b).2
theorem o8.inn {E : Int → Int → Prop} {al : Int → Prop} {s t : Int} {P : Int → Prop} (h : o8 E al s t) (hs : P s) (hP : ∀ x y, P x → E x y → al y → P y) : o8 E (fun x => al x ∧ P x) s t := by
  induction h with
  | one a b => exact .one a ⟨b, hP _ _ hs a b⟩
  | more r a b ih => exact .more ih a ⟨b, hP _ _ ih.al.2 a b⟩
theorem o8.out {E : Int → Int → Prop} {al : Int → Prop} {s t : Int} {P : Int → Prop} (h : o8 E al s t) (ht : ¬ P t) (hP : ∀ x y, al x → P x → E x y → al y → P y) : o8 E (fun x => al x ∧ ¬ P x) s t := by
  induction h with
  | one a b => exact .one a ⟨b, ht⟩
  | more r a b ih =>
    have hx := fun z => ht (hP _ _ r.al z a b)
    exact .more (ih hx) a ⟨b, ht⟩
theorem o8.less {E : Int → Int → Prop} {al : Int → Prop} {s t : Int} {φ : Int → Int} (h : o8 E al s t) (h1 : ∀ y, E s y → al y → φ y < φ s) (h2 : ∀ x y, al x → E x y → al y → φ y ≤ φ x) : φ t < φ s := by
  induction h with
  | one a b => exact h1 _ a b
  | more r a b ih =>
    have := h2 _ _ r.al a b
    omega
def av (ps : List P4) (i : Int) : Int := (ps[i.toNat]?.map (·.m)).getD 0
structure tu (ps : List P4) (js : List Int) (win : Int → Int) (mv : Int → Option Int) : Prop where
  two : ∀ i ∈ js, win i = 0 ∨ win i = 1
  has : ∀ i ∈ js, ak ps i = win i → ∃ g, mv i = some g ∧ g ∈ aW ps i
  non : ∀ i ∈ js, ak ps i ≠ win i → mv i = none
  stay : ∀ i ∈ js, ∀ g, Wy ps js (win i) mv i g → g ∈ js ∧ win g = win i
  good : ∀ i ∈ js, av ps i % 2 ≠ win i → ¬ o8 (Wy ps js (win i) mv) (fun x => x ∈ js ∧ win x = win i ∧ av ps x ≤ av ps i) i i
structure gk (ps : List P4) (js : List Int) (s : Sh) : Prop where
  two : s.w = 0 ∨ s.w = 1
  sub : ∀ i ∈ s.pl, i ∈ js
  ne : s.pl ≠ []
  has : ∀ i ∈ s.pl, ak ps i = s.w → ∃ g, s.mv i = some g ∧ g ∈ aW ps i
  non : ∀ i, (i ∉ s.pl ∨ ak ps i ≠ s.w) → s.mv i = none
  stay : ∀ i ∈ s.pl, ∀ g, Wy ps js s.w s.mv i g → g ∈ s.pl
  outO : ∀ i ∈ js, i ∉ s.pl → ak ps i = s.w → ∀ g ∈ bn ps js i, g ∉ s.pl
  outX : ∀ i ∈ js, i ∉ s.pl → ak ps i ≠ s.w → ∃ g ∈ bn ps js i, g ∉ s.pl
  good : ∀ i ∈ s.pl, av ps i % 2 ≠ s.w → ¬ o8 (Wy ps js s.w s.mv) (fun x => x ∈ s.pl ∧ av ps x ≤ av ps i) i i
theorem jy {ps : List P4} {K : List Int} {w : Int} {m1 m2 : Int → Option Int} {i g : Int} (e : m1 i = m2 i) (h : Wy ps K w m1 i g) : Wy ps K w m2 i g := by
  rcases h with ⟨a, b⟩ | h
  · exact .inl ⟨a, by rw [← e]; exact b⟩
  · exact .inr h
theorem gk.whole {ps : List P4} {js : List Int} {s : Sh} (S : gk ps js s) (hw : fu ps js) : fu ps (gN js s.pl) := by
  intro i hi
  obtain ⟨h1, h2⟩ := bd.mp hi
  have fin : ∀ g ∈ bn ps js i, g ∉ s.pl → ∃ g, g ∈ bn ps (gN js s.pl) i := fun g g1 g2 => ⟨g, gi (df g1) (bd.mpr ⟨eT g1, g2⟩)⟩
  by_cases ho : ak ps i = s.w
  · obtain ⟨g, hg⟩ := hw i h1
    exact fin g hg (S.outO i h1 h2 ho g hg)
  · obtain ⟨g, g1, g2⟩ := S.outX i h1 h2 ho
    exact fin g g1 g2
theorem wt {ps : List P4} {js : List Int} (hown : ∀ i ∈ js, ak ps i = 0 ∨ ak ps i = 1) {s : Sh} (S : gk ps js s) {win : Int → Int} {mv : Int → Option Int} (I : tu ps (gN js s.pl) win mv) :
    tu ps js (fun i => if i ∈ s.pl then s.w else win i) (fun i => if i ∈ s.pl then s.mv i else mv i) := by
  have wP : ∀ {i}, i ∈ s.pl → (if i ∈ s.pl then s.w else win i) = s.w := fun h => if_pos h
  have wR : ∀ {i}, i ∉ s.pl → (if i ∈ s.pl then s.w else win i) = win i := fun h => if_neg h
  have mP : ∀ {i}, i ∈ s.pl → (if i ∈ s.pl then s.mv i else mv i) = s.mv i := fun h => if_pos h
  have mR : ∀ {i}, i ∉ s.pl → (if i ∈ s.pl then s.mv i else mv i) = mv i := fun h => if_neg h
  have goR : ∀ i g, i ∈ js → i ∉ s.pl → Wy ps js (win i) mv i g → (g ∈ js ∧ g ∉ s.pl ∧ Wy ps (gN js s.pl) (win i) mv i g) ∨ (win i = s.w ∧ g ∈ s.pl) := fun i g hi hn h => by
    have hi' := bd.mpr ⟨hi, hn⟩
    rcases h with ⟨ho, hm⟩ | ⟨ho, hm⟩
    · have w : Wy ps (gN js s.pl) (win i) mv i g := .inl ⟨ho, hm⟩
      obtain ⟨z1, z2⟩ := bd.mp (I.stay i hi' g w).1
      exact .inl ⟨z1, z2, w⟩
    · by_cases hg : g ∈ s.pl
      · right
        refine ⟨?_, hg⟩
        have h1 : ak ps i ≠ s.w := fun z => S.outO i hi hn z g hm hg
        have := hown i hi
        have := I.two i hi'
        have := S.two
        omega
      · exact .inl ⟨eT hm, hg, .inr ⟨ho, gi (df hm) (bd.mpr ⟨eT hm, hg⟩)⟩⟩
  refine ⟨fun i hi => ?_, fun i hi ho => ?_, fun i hi ho => ?_, fun i hi g hg => ?_, fun i hi hm hp => ?_⟩
  · by_cases h : i ∈ s.pl
    · rw [wP h]; exact S.two
    · rw [wR h]; exact I.two i (bd.mpr ⟨hi, h⟩)
  · by_cases h : i ∈ s.pl
    · rw [mP h]; exact S.has i h (ho.trans (wP h))
    · rw [mR h]; exact I.has i (bd.mpr ⟨hi, h⟩) (ho.trans (wR h))
  · by_cases h : i ∈ s.pl
    · rw [mP h]; exact S.non i (.inr fun z => ho (z.trans (wP h).symm))
    · rw [mR h]; exact I.non i (bd.mpr ⟨hi, h⟩) fun z => ho (z.trans (wR h).symm)
  · by_cases h : i ∈ s.pl
    · rw [wP h] at hg ⊢
      have := S.stay i h g (jy (mP h) hg)
      exact ⟨S.sub g this, wP this⟩
    · rw [wR h] at hg ⊢
      rcases goR i g hi h (jy (mR h) hg) with ⟨z1, z2, z3⟩ | ⟨z1, z2⟩
      · refine ⟨z1, ?_⟩
        rw [wR z2]
        exact (I.stay i (bd.mpr ⟨hi, h⟩) g z3).2
      · refine ⟨S.sub g z2, ?_⟩
        rw [wP z2]
        exact z1.symm
  · by_cases h : i ∈ s.pl
    · rw [wP h] at hm hp
      refine S.good i h hm ?_
      refine (hp.inn (P := fun x => x ∈ s.pl) h fun x y hx e _ => S.stay x hx y (jy (mP hx) e)).imp (fun y e a => ⟨jy (mP h) e, a.2, a.1.2.2⟩) fun x y ax e a => ⟨jy (mP ax.2) e, a.2, a.1.2.2⟩
    · rw [wR h] at hm hp
      refine I.good i (bd.mpr ⟨hi, h⟩) hm ?_
      have hp2 := hp.out (P := fun x => x ∈ s.pl) h fun x y ax hx e a => by
        have hw : s.w = win i := (wP hx).symm.trans ax.2.1
        exact S.stay x hx y (jy (mP hx) (by rw [hw]; exact e))
      have st : ∀ x y, x ∈ js → x ∉ s.pl → win x = win i → Wy ps js (win i) (fun i => if i ∈ s.pl then s.mv i else mv i) x y → (y ∈ js ∧ (if y ∈ s.pl then s.w else win y) = win i ∧ av ps y ≤ av ps i) ∧ y ∉ s.pl → Wy ps (gN js s.pl) (win i) mv x y ∧ (y ∈ gN js s.pl ∧ win y = win i ∧ av ps y ≤ av ps i) := fun x y hx hxn hwx e a => by
        refine ⟨?_, bd.mpr ⟨a.1.1, a.2⟩, (wR a.2).symm.trans a.1.2.1, a.1.2.2⟩
        rcases goR x y hx hxn (by rw [hwx]; exact jy (mR hxn) e) with ⟨_, _, z⟩ | ⟨_, z⟩
        · rw [hwx] at z; exact z
        · exact (a.2 z).elim
      exact hp2.imp (fun y e a => st i y hi h rfl e a) fun x y ax e a => st x y ax.1.1 ax.2 ((wR ax.2).symm.trans ax.1.2.1) e a
theorem xx {ps : List P4} (win : Int → Int) (mv : Int → Option Int) : tu ps [] win mv := by
  refine ⟨?_, ?_, ?_, ?_, ?_⟩ <;> intro i hi <;> cases hi
section
variable {ps : List P4} {js : List Int} (hj : cN ps.length js) (hw : fu ps js) (hown : ∀ i ∈ js, ak ps i = 0 ∨ ak ps i = 1) {h w : Int} (ew : w = h % 2) (hmax : ∀ i ∈ js, av ps i ≤ h)
  {tops : List Int} (htop : ∀ i, i ∈ tops ↔ i ∈ js ∧ av ps i = h) {rk : Int → Option Int} (A : rZ ps js w tops rk) {sub : List Int} (hsub : ∀ i, i ∈ sub ↔ i ∈ js ∧ rk i = none) {win : Int → Int} {mv : Int → Option Int} (I : tu ps sub win mv) (hmv : ∀ i, i ∉ sub → mv i = none)
include hj hw hown ew hmax htop A hsub I hmv
theorem uU (hne : js ≠ []) (hl : ∀ i ∈ sub, win i = w) : gk ps js ⟨w, js, dn (dn (kz ps w rk) mv) (dY ps w js)⟩ := by
  have w01 : w = 0 ∨ w = 1 := by omega
  obtain ⟨M, eM⟩ : ∃ M, M = dn (dn (kz ps w rk) mv) (dY ps w js) := ⟨_, rfl⟩
  rw [← eM]
  -- the move at a place of w
  have own : ∀ i ∈ js, ak ps i = w → ∃ g, M i = some g ∧ g ∈ aW ps i ∧ g ∈ js ∧ (∀ q, rk i = some q → 0 < q → rk g = some (q - 1)) ∧ (rk i = none → mv i = some g) := fun i hi ho => by
    rw [eM]
    unfold dn
    cases hr : rk i with
    | none =>
      have his := (hsub i).mpr ⟨hi, hr⟩
      obtain ⟨g, g1, g2⟩ := I.has i his (by rw [hl i his]; exact ho)
      have gs := (I.stay i his g (by rw [hl i his]; exact .inl ⟨ho, g1⟩)).1
      exact ⟨g, by rw [fS (.inr (.inl hr)), g1]; rfl, g2, ((hsub g).mp gs).1, (fun q z => nomatch z), fun _ => g1⟩
    | some q =>
      by_cases hq : 0 < q
      · obtain ⟨g, g1, g2, g3⟩ := sL A hr hq ho
        exact ⟨g, by rw [g1]; rfl, df g2, eT g2, fun q' z _ => by cases z; exact g3, fun z => by cases z⟩
      · obtain ⟨g, g1, g2⟩ := uG hi ho (hw i hi)
        have h0 : q = 0 := by have := A.nneg i q hr; omega
        have hn : mv i = none := hmv i fun z => by have := ((hsub i).mp z).2; rw [hr] at this; cases this
        refine ⟨g, by rw [fS (.inr (.inr (by rw [hr, h0]))), hn, g1]; rfl, df g2, eT g2, fun q' z y => by cases z; omega, fun z => by cases z⟩
  refine ⟨w01, fun i hi => hi, hne, fun i hi ho => ?_, fun i hi => ?_, fun i hi g hg => ?_, fun i hi hn => (hn hi).elim, fun i hi hn => (hn hi).elim, fun i hi hm hp => ?_⟩
  · obtain ⟨g, g1, g2, _⟩ := own i hi ho
    exact ⟨g, g1, g2⟩
  · show M i = none
    rw [eM]
    unfold dn
    rw [rP hi]
    rcases hi with hi | hi
    · have hr : rk i = none := by
        cases hr : rk i with
        | none => rfl
        | some q => exact (hi (A.sub i q hr)).elim
      rw [fS (.inr (.inl hr)), hmv i fun z => hi ((hsub i).mp z).1]
      rfl
    · rw [fS (.inl hi)]
      by_cases his : i ∈ sub
      · rw [I.non i his (by rw [hl i his]; exact hi)]; rfl
      · rw [hmv i his]; rfl
  · show g ∈ js
    rcases hg with ⟨ho, hm⟩ | ⟨_, hm⟩
    · obtain ⟨g', g1, _, g3, _⟩ := own i hi ho
      rw [show M i = some g from hm] at g1
      cases g1
      exact g3
    · exact eT hm
  · -- a bad ring
    have hm' : av ps i % 2 ≠ w := hm
    have hlt : av ps i < h := by
      have := hmax i hi
      by_cases z : av ps i = h
      · rw [z] at hm'; exact (hm' ew.symm).elim
      · omega
    have dec : ∀ x y q, x ∈ js → av ps x ≤ av ps i → rk x = some q → Wy ps js w M x y → ∃ t, rk y = some t ∧ t < q := fun x y q hx hmx hq e => by
      have hpos : 0 < q := by
        have := A.nneg x q hq
        by_cases z : q = 0
        · subst z
          have := ((htop x).mp ((A.zero x).mp hq)).2
          omega
        · omega
      rcases e with ⟨ho, hmv'⟩ | ⟨ho, hmv'⟩
      · obtain ⟨g, g1, _, _, g4, _⟩ := own x hx ho
        rw [hmv'] at g1
        cases g1
        exact ⟨q - 1, g4 q hq hpos, by omega⟩
      · exact (A.oth x q hq hpos ho).2 y hmv'
    by_cases hri : rk i = none
    · -- all of it lies in what is left
      have his := (hsub i).mpr ⟨hi, hri⟩
      have hp2 := hp.out (P := fun x => ∃ q, rk x = some q) (by rintro ⟨q, hq⟩; rw [hri] at hq; cases hq) fun x y ax ⟨q, hq⟩ e _ => by
        obtain ⟨t, ht, _⟩ := dec x y q ax.1 ax.2 hq e
        exact ⟨t, ht⟩
      have non : ∀ {x}, ¬ (∃ q, rk x = some q) → rk x = none := fun {x} z => by
        cases hr : rk x with
        | none => rfl
        | some q => exact (z ⟨q, hr⟩).elim
      refine I.good i his (by rw [hl i his]; exact hm') ?_
      rw [hl i his]
      have st : ∀ x y, x ∈ js → rk x = none → Wy ps js w M x y → (y ∈ js ∧ av ps y ≤ av ps i) ∧ ¬ (∃ q, rk y = some q) → Wy ps sub w mv x y ∧ (y ∈ sub ∧ win y = w ∧ av ps y ≤ av ps i) := fun x y hx hrx e a => by
        have hys := (hsub y).mpr ⟨a.1.1, non a.2⟩
        refine ⟨?_, hys, hl y hys, a.1.2⟩
        rcases e with ⟨ho, hmv'⟩ | ⟨ho, hmv'⟩
        · obtain ⟨g, g1, _, _, _, g5⟩ := own x hx ho
          rw [hmv'] at g1
          cases g1
          exact .inl ⟨ho, g5 hrx⟩
        · exact .inr ⟨ho, gi (df hmv') hys⟩
      exact hp2.imp (fun y e a => st i y hi hri e a) fun x y ax e a => st x y ax.1.1 (non ax.2) e a
    · -- ranks fall
      obtain ⟨q0, hq0⟩ : ∃ q, rk i = some q := by
        cases hr : rk i with
        | none => exact (hri hr).elim
        | some q => exact ⟨q, rfl⟩
      have hp2 := hp.inn (P := fun x => x ∈ js ∧ av ps x ≤ av ps i ∧ ∃ q, rk x = some q) ⟨hi, Int.le_refl _, q0, hq0⟩ fun x y ⟨hx, hmx, q, hq⟩ e a => by
        obtain ⟨t, ht, _⟩ := dec x y q hx hmx hq e
        exact ⟨a.1, a.2, t, ht⟩
      have fall : ∀ x y, x ∈ js → av ps x ≤ av ps i → (∃ q, rk x = some q) → Wy ps js w M x y → (rk y).getD 0 < (rk x).getD 0 := fun x y hx hmx ⟨q, hq⟩ e => by
        obtain ⟨t, ht, hlt'⟩ := dec x y q hx hmx hq e
        rw [ht, hq]
        exact hlt'
      have := hp2.less (φ := fun x => (rk x).getD 0) (fun y e _ => fall i y hi (Int.le_refl _) ⟨q0, hq0⟩ e) fun x y ax e _ => by
        have := fall x y ax.2.1 ax.2.2.1 ax.2.2.2 e
        omega
      exact absurd this (Int.lt_irrefl _)
theorem rN {lost : List Int} (hlost : ∀ i, i ∈ lost ↔ i ∈ sub ∧ win i = 1 - w) (hne : lost ≠ []) {rk2 : Int → Option Int} (B : rZ ps js (1 - w) lost rk2) {pl : List Int} (hpl : ∀ i, i ∈ pl ↔ ∃ q, rk2 i = some q) :
    gk ps js ⟨1 - w, pl, dn (kz ps (1 - w) rk2) (fun i => if i ∈ lost then mv i else none)⟩ := by
  have w01 : w = 0 ∨ w = 1 := by omega
  obtain ⟨M, eM⟩ : ∃ M, M = dn (kz ps (1 - w) rk2) (fun i => if i ∈ lost then mv i else none) := ⟨_, rfl⟩
  rw [← eM]
  have l0 : ∀ {i}, i ∈ lost → rk2 i = some 0 := fun {i} hi => (B.zero i).mpr hi
  have own : ∀ i q, rk2 i = some q → ak ps i = 1 - w → ∃ g, M i = some g ∧ g ∈ aW ps i ∧ ((0 < q ∧ rk2 g = some (q - 1)) ∨ (q = 0 ∧ g ∈ lost ∧ mv i = some g)) := fun i q hq ho => by
    rw [eM]
    unfold dn
    by_cases hp : 0 < q
    · obtain ⟨g, g1, g2, g3⟩ := sL B hq hp ho
      exact ⟨g, by rw [g1]; rfl, df g2, .inl ⟨hp, g3⟩⟩
    · have h0 : q = 0 := by have := B.nneg i q hq; omega
      have hi : i ∈ lost := (B.zero i).mp (by rw [hq, h0])
      obtain ⟨hs, hwi⟩ := (hlost i).mp hi
      obtain ⟨g, g1, g2⟩ := I.has i hs (by rw [hwi]; exact ho)
      obtain ⟨s1, s2⟩ := I.stay i hs g (by rw [hwi]; exact .inl ⟨ho, g1⟩)
      refine ⟨g, ?_, g2, .inr ⟨h0, (hlost g).mpr ⟨s1, s2.trans hwi⟩, g1⟩⟩
      rw [fS (.inr (.inr (by rw [hq, h0])))]
      show (if i ∈ lost then mv i else none) = _
      rw [if_pos hi, g1]
  have go : ∀ i q g, rk2 i = some q → Wy ps js (1 - w) M i g → ∃ t, rk2 g = some t ∧ ((t < q) ∨ (q = 0 ∧ t = 0 ∧ Wy ps sub (1 - w) mv i g)) := fun i q g hq e => by
    rcases e with ⟨ho, hm⟩ | ⟨ho, hm⟩
    · obtain ⟨g', g1, _, g3⟩ := own i q hq ho
      rw [hm] at g1
      cases g1
      rcases g3 with ⟨z1, z2⟩ | ⟨z1, z2, z3⟩
      · exact ⟨q - 1, z2, .inl (by omega)⟩
      · exact ⟨0, l0 z2, .inr ⟨z1, rfl, .inl ⟨ho, z3⟩⟩⟩
    · by_cases hp : 0 < q
      · obtain ⟨t, t1, t2⟩ := (B.oth i q hq hp ho).2 g hm
        exact ⟨t, t1, .inl t2⟩
      · have h0 : q = 0 := by have := B.nneg i q hq; omega
        have hi : i ∈ lost := (B.zero i).mp (by rw [hq, h0])
        obtain ⟨hs, hwi⟩ := (hlost i).mp hi
        obtain ⟨hij, hin⟩ := (hsub i).mp hs
        have how : ak ps i = w := by have := hown i hij; omega
        have hgs : g ∈ sub := (hsub g).mpr ⟨eT hm, A.outO i hij hin how g hm⟩
        have wy : Wy ps sub (1 - w) mv i g := .inr ⟨ho, gi (df hm) hgs⟩
        obtain ⟨s1, s2⟩ := I.stay i hs g (by rw [hwi]; exact wy)
        exact ⟨0, l0 ((hlost g).mpr ⟨s1, s2.trans hwi⟩), .inr ⟨h0, rfl, wy⟩⟩
  refine ⟨by show 1 - w = 0 ∨ 1 - w = 1; omega, fun i hi => ?_, ?_, fun i hi ho => ?_, fun i hi => ?_, fun i hi g hg => ?_, fun i hi hn ho g hg hgp => ?_, fun i hi hn ho => ?_, fun i hi hm hp => ?_⟩
  · obtain ⟨q, hq⟩ := (hpl i).mp hi
    exact B.sub i q hq
  · obtain ⟨i, hi⟩ := List.exists_mem_of_ne_nil _ hne
    exact List.ne_nil_of_mem ((hpl i).mpr ⟨0, l0 hi⟩)
  · obtain ⟨q, hq⟩ := (hpl i).mp hi
    obtain ⟨g, g1, g2, _⟩ := own i q hq ho
    exact ⟨g, g1, g2⟩
  · show M i = none
    rw [eM]
    unfold dn
    rcases hi with hi | hi
    · have hr : rk2 i = none := by
        cases hr : rk2 i with
        | none => rfl
        | some q => exact (hi ((hpl i).mpr ⟨q, hr⟩)).elim
      rw [fS (.inr (.inl hr))]
      show (if i ∈ lost then mv i else none) = _
      rw [if_neg fun z => by rw [l0 z] at hr; cases hr]
    · rw [fS (.inl hi)]
      show (if i ∈ lost then mv i else none) = _
      by_cases z : i ∈ lost
      · obtain ⟨hs, hwi⟩ := (hlost i).mp z
        rw [if_pos z, I.non i hs (by rw [hwi]; exact hi)]
      · rw [if_neg z]
  · obtain ⟨q, hq⟩ := (hpl i).mp hi
    obtain ⟨t, ht, _⟩ := go i q g hq hg
    exact (hpl g).mpr ⟨t, ht⟩
  · have hr : rk2 i = none := by
      cases hr : rk2 i with
      | none => rfl
      | some q => exact (hn ((hpl i).mpr ⟨q, hr⟩)).elim
    obtain ⟨q, hq⟩ := (hpl g).mp hgp
    rw [B.outO i hi hr ho g hg] at hq
    cases hq
  · have hr : rk2 i = none := by
      cases hr : rk2 i with
      | none => rfl
      | some q => exact (hn ((hpl i).mpr ⟨q, hr⟩)).elim
    obtain ⟨g, g1, g2⟩ := B.outX i hi hr ho (hw i hi)
    refine ⟨g, g1, fun z => ?_⟩
    obtain ⟨q, hq⟩ := (hpl g).mp z
    rw [g2] at hq
    cases hq
  · -- a bad ring
    have hi' : i ∈ pl := hi
    have hm' : av ps i % 2 ≠ 1 - w := hm
    obtain ⟨q0, hq0⟩ := (hpl i).mp hi'
    have le : ∀ x y, x ∈ pl → Wy ps js (1 - w) M x y → (rk2 y).getD 0 ≤ (rk2 x).getD 0 := fun x y hx e => by
      obtain ⟨q, hq⟩ := (hpl x).mp hx
      obtain ⟨t, ht, z⟩ := go x q y hq e
      rw [hq, ht]
      show t ≤ q
      omega
    by_cases hz : q0 = 0
    · subst hz
      have hil : i ∈ lost := (B.zero i).mp hq0
      obtain ⟨his, hwi⟩ := (hlost i).mp hil
      have hp2 := hp.inn (P := fun x => x ∈ lost) hil fun x y hx e _ => by
        obtain ⟨t, ht, z⟩ := go x 0 y (l0 hx) e
        have := B.nneg y t ht
        have t0 : t = 0 := by omega
        exact (B.zero y).mp (by rw [ht, t0])
      refine I.good i his (by rw [hwi]; exact hm') ?_
      rw [hwi]
      have st : ∀ x y, x ∈ lost → Wy ps js (1 - w) M x y → (y ∈ pl ∧ av ps y ≤ av ps i) ∧ y ∈ lost → Wy ps sub (1 - w) mv x y ∧ (y ∈ sub ∧ win y = 1 - w ∧ av ps y ≤ av ps i) := fun x y hx e a => by
        obtain ⟨s1, s2⟩ := (hlost y).mp a.2
        refine ⟨?_, s1, s2, a.1.2⟩
        obtain ⟨t, ht, z⟩ := go x 0 y (l0 hx) e
        have := B.nneg y t ht
        rcases z with z | ⟨_, _, z⟩
        · omega
        · exact z
      exact hp2.imp (fun y e a => st i y hil e a) fun x y ax e a => st x y ax.2 e a
    · have := hp.less (φ := fun x => (rk2 x).getD 0) (fun y e _ => by
        obtain ⟨t, ht, z⟩ := go i q0 y hq0 e
        show (rk2 y).getD 0 < (rk2 i).getD 0
        rw [ht, hq0]
        show t < q0
        omega) fun x y ax e _ => le x y ax.1 e
      exact absurd this (Int.lt_irrefl _)
end
theorem og (p : P4) : bq p.d (.int 1) = .ok (.int p.m) := rfl
theorem fK {ps : List P4} {i : Int} (h0 : 0 ≤ i) (h1 : i < ps.length) : av ps i = (ps[i.toNat]'(by omega)).m := by
  unfold av
  rw [List.getElem?_eq_getElem (by omega)]
  rfl
theorem qO {fe : Fe} {ρ : aG} {g h : Int → PyData} : ∀ (m k : Nat), (∀ j : Nat, k ≤ j → j < k + m → fe (.val (.int j) :: .val (g j) :: ρ) = .ok (h j)) →
    bJ (dQ 0 1) (fun _ => .ok true) fe (.non :: .non :: ρ) (cX k ((rL k m).map g)) = .ok ((rL k m).map h)
  | 0, k, _ => by unfold rL; simp [cX, dg]
  | m + 1, k, hh => by
    rw [pM, List.map_cons]
    have e : cX k (g k :: (rL (k + 1) m).map g) = .tuple [.int k, g k] :: cX (k + 1) ((rL (k + 1) m).map g) := rfl
    rw [e, jT, qO m (k + 1) fun j h1 h2 => hh j (by omega) (by omega)]
    have hk := hh k (Nat.le_refl _) (by omega)
    simp only [R.ok_bind, if_true, List.set_cons_zero, List.set_cons_succ, hk]
    rfl
theorem qg {f : Int → Option Int} {n : Nat} (hn : n ≤ 1000) {s : PyData} {js : List Int} (hs : qK s js) : cq [oT f n, s] = .ok (oT (fun i => if i ∈ js then f i else none) n) := by
  have hc := qO (fe := yn (tE (e2 (iG false) (ab 0) (ab 2))) (ab 1) (eC .none)) (ρ := [.val s]) (g := fun i => oD (f i)) (h := fun i => oD (if i ∈ js then f i else none)) n 0 fun j _ _ => by
    simp only [qV, bZ, bc, ai, aj, bz, R.ok_bind, hs.inn, ci]
    cases hm : bQ js j with
    | true => rw [if_pos (bo.mp hm)]; rfl
    | false => rw [if_neg (show ¬ (j : Int) ∈ js from fun z => by rw [bo.mpr z] at hm; cases hm)]; rfl
  rw [o7] at hc
  unfold cq jV
  refine dP ?_
  rw [show ([oT f n, s].map aV.val ++ List.replicate (2 - [oT f n, s].length) aV.non) = [.val (oT f n), .val s] from rfl]
  rw [cC, cA, bp, show aw 2 [1] [.val (oT f n), .val s] = [.non, .non, .val s] from rfl]
  simp only [lS, aj, R.ok_bind, dL, cm]
  rw [if_pos (by rw [fL, bm]; exact bS hn)]
  rw [show cX 0 (cr (fun i => oD (f i)) n) = cX 0 ((ids n).map fun i => oD (f i)) from rfl, hc]
  rfl
theorem uE {ps : List P4} {js : List Int} (hne : js ≠ []) : ∃ h, pL (.list ((js.map (av ps)).map .int)) = .ok (.int h) ∧ (∃ i ∈ js, av ps i = h) ∧ ∀ i ∈ js, av ps i ≤ h := by
  cases js with
  | nil => exact (hne rfl).elim
  | cons j js =>
    obtain ⟨s1, s2⟩ := nW (av ps j) (js.map (av ps))
    refine ⟨rS (av ps j) (js.map (av ps)), ?_, ?_, fun i hi => ?_⟩
    · show (match dw (((j :: js).map (av ps)).map .int) with | some (n :: ns) => R.ok (PyData.int (rS n ns)) | _ => .no) = _
      rw [iX]
      rfl
    · rw [← List.map_cons (f := av ps)] at s1
      obtain ⟨i, hi, e⟩ := List.mem_map.mp s1
      exact ⟨i, hi, e⟩
    · exact s2 _ (by rw [← List.map_cons (f := av ps)]; exact List.mem_map.mpr ⟨i, hi, rfl⟩)
def j8 (sub : List Int) (win : Int → Int) (i : Int) : Option Int := if i ∈ sub then some (win i) else none
section
variable {ps : List P4} (G : Gr ps) {c : Addr} {k : Nat} {js : List Int} (hj : cN ps.length js) (hw : fu ps js) (hne : js ≠ []) (hown : ∀ i ∈ js, ak ps i = 0 ∨ ak ps i = 1)
include G hj hw hne hown
theorem wq (ih : ∀ (h : Int) (sub : List Int), cN ps.length sub → fu ps sub → (∀ i ∈ sub, i ∈ js ∧ av ps i < h) → (∃ i ∈ js, av ps i = h) → ∃ win mv, az c k [gD ps, .tuple (sub.map .int)] = .ok (.tuple [oT (j8 sub win) ps.length, oT mv ps.length]) ∧ tu ps sub win mv ∧ ∀ i, i ∉ sub → mv i = none) :
    ∃ s, aJ c k [gD ps, .tuple (js.map .int)] = .ok (im c ps.length s) ∧ gk ps js s ∧ cN ps.length s.pl := by
  have hp := G.hp
  have hjl := hj.len
  obtain ⟨h, hmx, htopx, hmax⟩ := uE (ps := ps) hne
  obtain ⟨w, ew⟩ : ∃ w, w = h % 2 := ⟨_, rfl⟩
  have w01 : w = 0 ∨ w = 1 := by omega
  obtain ⟨tops, etops⟩ : ∃ tops, tops = js.filter fun i => decide (av ps i = h) := ⟨_, rfl⟩
  have htop : ∀ i, i ∈ tops ↔ i ∈ js ∧ av ps i = h := fun i => by rw [etops, List.mem_filter, decide_eq_true_iff]
  have tp : cN ps.length tops := by rw [etops]; exact hj.filter _
  obtain ⟨rk, erk⟩ : ∃ rk, rk = rK ps js w tops := ⟨_, rfl⟩
  have A : rZ ps js w tops rk := by rw [erk]; exact tw tp.nd (fun x hx => ((htop x).mp hx).1) hj.nd hj.len
  have h1 := k9 G.hl G.hgo G.hp (s := .tuple (js.map .int)) (g := .list (tops.map .int)) (.inl rfl) (.inr rfl) hj tp (fun x hx => ((htop x).mp hx).1) hw (who := w)
  rw [← erk] at h1
  have h2 := kC (f := rk) (n := ps.length) (by omega)
  have h3 := l9 (s := .tuple (js.map .int)) (t := .tuple ((iB rk ps.length).map .int)) (.inl rfl) (.inl rfl) (by omega)
  obtain ⟨sub, esub⟩ : ∃ sub, sub = gN js (iB rk ps.length) := ⟨_, rfl⟩
  have hsub : ∀ i, i ∈ sub ↔ i ∈ js ∧ rk i = none := fun i => by
    rw [esub, bd, gL]
    constructor
    · rintro ⟨a, b⟩
      refine ⟨a, ?_⟩
      cases hr : rk i with
      | none => rfl
      | some q => exact (b ⟨hj.inn i a, q, hr⟩).elim
    · rintro ⟨a, b⟩
      exact ⟨a, fun ⟨_, q, hq⟩ => by rw [b] at hq; cases hq⟩
  have sp : cN ps.length sub := by rw [esub]; exact hj.filter _
  have sw : fu ps sub := by
    intro i hi
    obtain ⟨a, b⟩ := (hsub i).mp hi
    have fin : ∀ g ∈ bn ps js i, rk g = none → ∃ g, g ∈ bn ps sub i := fun g g1 g2 => ⟨g, gi (df g1) ((hsub g).mpr ⟨eT g1, g2⟩)⟩
    by_cases ho : ak ps i = w
    · obtain ⟨g, hg⟩ := hw i a
      exact fin g hg (A.outO i a b ho g hg)
    · obtain ⟨g, g1, g2⟩ := A.outX i a b ho (hw i a)
      exact fin g g1 g2
  obtain ⟨win, mv, h4, I, hmv⟩ := ih h sub sp sw (fun i hi => by
    obtain ⟨a, b⟩ := (hsub i).mp hi
    refine ⟨a, ?_⟩
    have := hmax i a
    by_cases z : av ps i = h
    · have := (A.zero i).mpr ((htop i).mpr ⟨a, z⟩)
      rw [b] at this
      cases this
    · omega) htopx
  have h5 := gG G (jQ A)
  -- the lists
  have hmarks : bJ (aI 0) (fun _ => .ok true) (e2 bq (e2 bq (ab 1) (ab 0)) (eC (.int 1))) [.non, .val (gD ps)] (js.map .int) = .ok ((js.map (av ps)).map .int) := by
    have go : ∀ is : List Int, (∀ x ∈ is, 0 ≤ x ∧ x < ps.length) → bJ (aI 0) (fun _ => .ok true) (e2 bq (e2 bq (ab 1) (ab 0)) (eC (.int 1))) [.non, .val (gD ps)] (is.map .int) = .ok ((is.map (av ps)).map .int) := by
      intro is
      induction is with
      | nil => exact fun _ => dg ..
      | cons i is ih' =>
        intro hb
        obtain ⟨b0, b1⟩ := hb i List.mem_cons_self
        rw [List.map_cons, eJ, ih' fun x hx => hb x (List.mem_cons_of_mem _ hx)]
        simp only [R.ok_bind, if_true, List.set_cons_zero, bc, aj, ai, bz, iL b0 b1, og]
        rw [← fK b0 b1]
        rfl
    exact go js hj.inn
  have htops := bU (t := tE (e2 (ip) (e2 bq (e2 bq (ab 1) (ab 0)) (eC (.int 1))) (ab 2))) (ρ := [.val (gD ps), .val (.int h)]) (p := fun i => decide (av ps i = h)) js fun i hi => by
    obtain ⟨b0, b1⟩ := hj.inn i hi
    simp only [List.set_cons_zero, bZ, bc, aj, ai, bz, R.ok_bind, iL b0 b1, og, gf, ci]
    rw [← fK b0 b1]
  rw [← etops] at htops
  obtain ⟨lost, elost⟩ : ∃ lost, lost = (ids ps.length).filter fun i => decide (j8 sub win i = some (1 - w)) := ⟨_, rfl⟩
  have hlost : ∀ i, i ∈ lost ↔ i ∈ sub ∧ win i = 1 - w := fun i => by
    rw [elost, List.mem_filter, decide_eq_true_iff]
    unfold j8
    constructor
    · rintro ⟨a, b⟩
      split at b
      · rename_i z; exact ⟨z, Option.some.inj b⟩
      · cases b
    · rintro ⟨a, b⟩
      exact ⟨cv.mpr (sp.inn i a), by rw [if_pos a, b]⟩
  have lp : cN ps.length lost := by rw [elost]; exact (cN.ids _).filter _
  have hlist := iH (t := tE (e2 (ip) (ab 1) (ab 2))) (ρ := [.val (.int (1 - w))]) (p := fun i => decide (j8 sub win i = some (1 - w))) (g := fun i => oD (j8 sub win i)) ps.length 0 fun j _ _ => by
    simp only [bZ, bc, ai, aj, R.ok_bind, sJ, ci]
  rw [o7, ← elost] at hlist
  obtain ⟨B, hB⟩ : ∃ B, B = PyData.tuple [oT (j8 sub win) ps.length, oT mv ps.length] := ⟨_, rfl⟩
  rw [← hB] at h4
  have hB0 : bq B (.int 0) = .ok (oT (j8 sub win) ps.length) := by rw [hB]; rfl
  have hB1 : bq B (.int 1) = .ok (oT mv ps.length) := by rw [hB]; rfl
  -- up to the test
  have pre : ∀ {r : R PyData}, ((aL (iK (tE (e2 (ip) (e1 cZ (ab 8)) (eC (.int 0)))) (aL (bG 9 (aD au (ae (aD aS (ae (ab 0) (ae (ab 3) (ae (ab 6) aF)))) (ae (e2 bq (ab 7) (eC (.int 1))) aF)))) (bL (o0 c ["who", "places", "moves"] (ae (ab 3) (ae (ab 1) (ae (aD au (ae (ab 9) (ae (aD a6 (ae (ab 0) (ae (ab 3) (ae (ab 1) aF)))) aF))) aF)))))) bT) (aL (bG 6 (aD bY (ae (ab 0) (ae (ab 1) (ae (ab 4) (ae (ab 8) aF)))))) (aL (bG 9 (aD au (ae (aD aS (ae (ab 0) (ae (ab 4) (ae (ab 6) aF)))) (ae (aD cq (ae (e2 bq (ab 7) (eC (.int 1))) (ae (ab 8) aF))) aF)))) (bL (o0 c ["who", "places", "moves"] (ae (ab 4) (ae (aD bM (ae (ab 6) aF)) (ae (ab 9) aF)))))))) [.val (gD ps), .val (.tuple (js.map .int)), .val (.int h), .val (.int w), .val (.int (1 - w)), .val (.list (tops.map .int)), .val (oT rk ps.length), .val B, .val (.list (lost.map .int)), .non] >>= zQ) = r → aJ c k [gD ps, .tuple (js.map .int)] = r := fun {r} hr => by
    unfold aJ dl
    rw [fT, show ([gD ps, .tuple (js.map .int)].map aV.val ++ List.replicate (10 - [gD ps, .tuple (js.map .int)].length) aV.non) = [.val (gD ps), .val (.tuple (js.map .int)), .non, .non, .non, .non, .non, .non, .non, .non] from rfl]
    rw [aE (ρ' := [.val (gD ps), .val (.tuple (js.map .int)), .val (.int h), .non, .non, .non, .non, .non, .non, .non]) (by
      rw [bh, cA, bp, show aw 1 [0] [.val (gD ps), .val (.tuple (js.map .int)), .non, .non, .non, .non, .non, .non, .non, .non] = [.non, .val (gD ps)] from rfl]
      simp only [bI, aj, ai, R.ok_bind, dL, cm]
      rw [if_pos (by rw [List.length_map]; exact bS (by omega)), hmarks, tK, R.ok_bind, hmx]
      rfl)]
    rw [aE (ρ' := [.val (gD ps), .val (.tuple (js.map .int)), .val (.int h), .val (.int w), .non, .non, .non, .non, .non, .non]) (by
      simp only [bh, bc, aj, ai, bz, R.ok_bind, wd]
      rw [if_pos (by decide), ← ew]; rfl)]
    rw [aE (ρ' := [.val (gD ps), .val (.tuple (js.map .int)), .val (.int h), .val (.int w), .val (.int (1 - w)), .non, .non, .non, .non, .non]) (by
      simp only [bh, bc, aj, ai, bz, R.ok_bind, wc]; rfl)]
    rw [aE (ρ' := [.val (gD ps), .val (.tuple (js.map .int)), .val (.int h), .val (.int w), .val (.int (1 - w)), .val (.list (tops.map .int)), .non, .non, .non, .non]) (by
      rw [bh, bp, show aw 1 [0, 2] [.val (gD ps), .val (.tuple (js.map .int)), .val (.int h), .val (.int w), .val (.int (1 - w)), .non, .non, .non, .non, .non] = [.non, .val (gD ps), .val (.int h)] from rfl]
      simp only [bI, aj, ai, R.ok_bind, dL, cm]
      rw [if_pos (by rw [List.length_map]; exact bS (by omega)), htops]
      rfl)]
    rw [aE (ρ' := [.val (gD ps), .val (.tuple (js.map .int)), .val (.int h), .val (.int w), .val (.int (1 - w)), .val (.list (tops.map .int)), .val (oT rk ps.length), .non, .non, .non]) (by
      simp only [bh, aY, aH, aM, aj, ai, R.ok_bind, h1]; rfl)]
    rw [aE (ρ' := [.val (gD ps), .val (.tuple (js.map .int)), .val (.int h), .val (.int w), .val (.int (1 - w)), .val (.list (tops.map .int)), .val (oT rk ps.length), .val B, .non, .non]) (by
      simp only [bh, aY, aH, aM, aj, ai, R.ok_bind, h2, h3]
      rw [show (js.filter fun i => !bQ (iB rk ps.length) i) = sub from esub.symm, h4]
      rfl)]
    rw [aE (ρ' := [.val (gD ps), .val (.tuple (js.map .int)), .val (.int h), .val (.int w), .val (.int (1 - w)), .val (.list (tops.map .int)), .val (oT rk ps.length), .val B, .val (.list (lost.map .int)), .non]) (by
      rw [bh, bp, show aw 2 [4] [.val (gD ps), .val (.tuple (js.map .int)), .val (.int h), .val (.int w), .val (.int (1 - w)), .val (.list (tops.map .int)), .val (oT rk ps.length), .val B, .non, .non] = [.non, .non, .val (.int (1 - w))] from rfl]
      simp only [lS, bc, aj, ai, bz, R.ok_bind, hB0, dL, cm]
      rw [if_pos (by rw [fL, bm]; exact bS (by omega))]
      rw [show cX 0 (cr (fun i => oD (j8 sub win i)) ps.length) = cX 0 ((ids ps.length).map fun i => oD (j8 sub win i)) from rfl, hlist]
      rfl)]
    exact hr
  by_cases hl : lost = []
  · have hall : ∀ i ∈ sub, win i = w := fun i hi => by
      by_cases z : win i = 1 - w
      · have := (hlost i).mpr ⟨hi, z⟩
        rw [hl] at this
        cases this
      · have := I.two i hi
        omega
    have S := uU hj hw hown ew hmax htop A hsub I hmv hne hall
    have h6 := kR G (who := w) (s := .tuple (js.map .int)) (.inl rfl) hj fun i hi _ => hw i hi
    refine ⟨_, pre ?_, S, hj⟩
    rw [pF (d := im c ps.length ⟨w, js, dn (dn (kz ps w rk) mv) (dY ps w js)⟩) ?_]
    · rfl
    · rw [cU, bZ, bc, cA]
      simp only [aj, ai, bz, R.ok_bind, hl, List.map_nil, lX, List.length_nil, gf, ci]
      rw [if_pos (by decide)]
      rw [aE (ρ' := [.val (gD ps), .val (.tuple (js.map .int)), .val (.int h), .val (.int w), .val (.int (1 - w)), .val (.list (tops.map .int)), .val (oT rk ps.length), .val B, .val (.list []), .val (oT (dn (kz ps w rk) mv) ps.length)]) (by
        simp only [bh, aY, aH, aM, bc, bz, aj, ai, R.ok_bind, h5, hB1, lK (show ps.length ≤ 1000 by omega)]
        rfl)]
      unfold o0
      simp only [cC, aY, aH, aM, aj, ai, R.ok_bind, h6, lK (show ps.length ≤ 1000 by omega)]
      rfl
  · obtain ⟨rk2, erk2⟩ : ∃ rk2, rk2 = rK ps js (1 - w) lost := ⟨_, rfl⟩
    have lsub : ∀ x ∈ lost, x ∈ js := fun x hx => ((hsub x).mp ((hlost x).mp hx).1).1
    have B2 : rZ ps js (1 - w) lost rk2 := by rw [erk2]; exact tw lp.nd lsub hj.nd hj.len
    have g1 := k9 G.hl G.hgo G.hp (s := .tuple (js.map .int)) (g := .list (lost.map .int)) (.inl rfl) (.inr rfl) hj lp lsub hw (who := 1 - w)
    rw [← erk2] at g1
    have g2 := kC (f := rk2) (n := ps.length) (by omega)
    have g3 := gG G (jQ B2)
    have g4 := qg (f := mv) (n := ps.length) (by omega) (s := .list (lost.map .int)) (js := lost) (.inr rfl)
    have S := rN hj hw hown ew hmax htop A hsub I hmv hlost hl B2 (pl := iB rk2 ps.length) fun i => by
      rw [gL]
      exact ⟨fun z => z.2, fun ⟨q, hq⟩ => ⟨hj.inn i (B2.sub i q hq), q, hq⟩⟩
    have hlen : ¬ (lost.length : Int) = 0 := by
      have := List.length_pos_iff.mpr hl
      omega
    refine ⟨_, pre ?_, S, lU _ _⟩
    rw [aE (ρ' := [.val (gD ps), .val (.tuple (js.map .int)), .val (.int h), .val (.int w), .val (.int (1 - w)), .val (.list (tops.map .int)), .val (oT rk ps.length), .val B, .val (.list (lost.map .int)), .non]) (by
      rw [cU, bZ, bc, cA]
      simp only [aj, ai, bz, R.ok_bind, lX, List.length_map, gf, ci, decide_eq_false hlen]
      rfl)]
    rw [aE (ρ' := [.val (gD ps), .val (.tuple (js.map .int)), .val (.int h), .val (.int w), .val (.int (1 - w)), .val (.list (tops.map .int)), .val (oT rk2 ps.length), .val B, .val (.list (lost.map .int)), .non]) (by
      simp only [bh, aY, aH, aM, aj, ai, R.ok_bind, g1]; rfl)]
    rw [aE (ρ' := [.val (gD ps), .val (.tuple (js.map .int)), .val (.int h), .val (.int w), .val (.int (1 - w)), .val (.list (tops.map .int)), .val (oT rk2 ps.length), .val B, .val (.list (lost.map .int)), .val (oT (dn (kz ps (1 - w) rk2) fun i => if i ∈ lost then mv i else none) ps.length)]) (by
      simp only [bh, aY, aH, aM, bc, bz, aj, ai, R.ok_bind, g3, hB1, g4, lK (show ps.length ≤ 1000 by omega)]
      rfl)]
    unfold o0
    simp only [cC, aY, aH, aM, aj, ai, R.ok_bind, g2]
    rfl
end
def tq (c : Addr) (k : Nat) : Fs := (aL (bG 4 (aD (aJ c k) (ae (ab 0) (ae (ab 3) aF)))) (aL (fA 2 (ab 4)) (bG 3 (aD bw (ae (ab 3) (ae (e1 (jl c "places") (ab 4)) aF))))))
abbrev lR (ps : List P4) (c : Addr) (s : PyData) (acc : List Sh) (js : List Int) (c4 : aV) : aG :=
  [.val (gD ps), .val s, .own (.list (acc.map (im c ps.length))), .val (.tuple (js.map .int)), c4]
theorem zb {ps : List P4} (G : Gr ps) {c : Addr} {kk : Nat} {s0 : PyData} {Pm : Int → Prop} (hown : ∀ i, Pm i → ak ps i = 0 ∨ ak ps i = 1) (hS : ∀ js, cN ps.length js → fu ps js → js ≠ [] → (∀ i ∈ js, Pm i) → ∃ s, aJ c kk [gD ps, .tuple (js.map .int)] = .ok (im c ps.length s) ∧ gk ps js s ∧ cN ps.length s.pl) :
    ∀ (k n : Nat) (js : List Int) (acc : List Sh) (c4 : aV), cN ps.length js → fu ps js → (∀ i ∈ js, Pm i) → js.length ≤ k → k + 1 ≤ n → acc.length + k ≤ 1000 →
    ∃ l c4' win mv, cp (tE (e2 (eu pV) (e1 cZ (ab 3)) (eC (.int 0)))) (tq c kk) n (lR ps c s0 acc js c4) = .ok (.nx (lR ps c s0 (acc ++ l) [] c4')) ∧ (∀ f i, la f l i = if i ∈ js then some (win i) else f i) ∧ (∀ m i, (i ∈ js → m i = none) → p4 m l i = if i ∈ js then mv i else m i) ∧ tu ps js win mv ∧ ∀ s ∈ l, ∀ x ∈ s.pl, 0 ≤ x ∧ x < ps.length
  | k, 0, js, acc, c4, _, _, _, _, h, _ => by omega
  | k, n + 1, js, acc, c4, hj, hw, hm, hk, hn, hz => by
    have hp := G.hp
    rw [lP]
    have ht : tE (e2 (eu pV) (e1 cZ (ab 3)) (eC (.int 0))) (lR ps c s0 acc js c4) = .ok (decide (0 < js.length)) := by
      simp only [bZ, bc, cA, ai, aj, bz, R.ok_bind, pe, mm, ci, List.length_map]
      congr 1
      simp
    rw [ht, R.ok_bind]
    by_cases h0 : js = []
    · subst h0
      refine ⟨[], c4, fun _ => 0, fun _ => none, by rw [List.append_nil]; rfl, fun f i => by simp [la], fun m i _ => by simp [p4], xx _ _, fun s hs => by cases hs⟩
    · have hpos := List.length_pos_iff.mpr h0
      rw [if_pos (decide_eq_true hpos)]
      cases k with
      | zero => omega
      | succ k =>
        obtain ⟨s, h1, S, sp⟩ := hS js hj hw h0 hm
        have hl : (gN js s.pl).length < js.length := by
          obtain ⟨i, hi⟩ := List.exists_mem_of_ne_nil _ S.ne
          refine Nat.lt_of_le_of_ne (List.length_filter_le ..) fun z => ?_
          have := (gw _ js).mp z i (S.sub i hi)
          rw [bo.mpr hi] at this
          cases this
        obtain ⟨l, c4', win, mv, e, q1, q2, I, q3⟩ := zb G hown hS k n (gN js s.pl) (acc ++ [s]) (.val (im c ps.length s)) (hj.filter _) (S.whole hw) (fun i hi => hm i (bd.mp hi).1) (by omega) (by omega) (by simp; omega)
        have h2 := l9 (s := .tuple (js.map .int)) (t := .tuple (s.pl.map .int)) (.inl rfl) (.inl rfl) (by have := hj.len; omega)
        have hb : tq c kk (lR ps c s0 acc js c4) = .ok (.nx (lR ps c s0 (acc ++ [s]) (gN js s.pl) (.val (im c ps.length s)))) := by
          unfold tq
          rw [aE (ρ' := lR ps c s0 acc js (.val (im c ps.length s))) (by
            simp only [bh, aY, aH, aM, aj, ai, R.ok_bind, h1]
            rfl)]
          rw [aE (ρ' := lR ps c s0 (acc ++ [s]) js (.val (im c ps.length s))) (by
            rw [nX (ds := acc.map (im c ps.length)) (ab 4) rfl (Nat.lt_of_lt_of_le (show _ < 1001 by rw [List.length_map]; omega) (by decide))]
            simp only [aj, ai, cm, R.ok_bind]
            rw [show acc.map (im c ps.length) ++ [im c ps.length s] = (acc ++ [s]).map (im c ps.length) by simp]
            rfl)]
          simp only [bh, aY, aH, aM, cA, aj, ai, R.ok_bind, mG, h2]
          rfl
        refine ⟨s :: l, c4', fun i => if i ∈ s.pl then s.w else win i, fun i => if i ∈ s.pl then s.mv i else mv i, ?_, fun f i => ?_, fun m i hmi => ?_, wt (fun i hi => hown i (hm i hi)) S I, fun t ht' x hx => ?_⟩
        · rw [hb, R.ok_bind, cP, e]
          simp
        · show la (vM s f) l i = _
          rw [q1]
          by_cases hi : i ∈ js
          · rw [if_pos hi]
            dsimp only
            by_cases hs : i ∈ s.pl
            · rw [if_neg fun z => (bd.mp z).2 hs, if_pos hs]
              exact if_pos hs
            · rw [if_pos (bd.mpr ⟨hi, hs⟩), if_neg hs]
          · rw [if_neg fun z => hi (bd.mp z).1, if_neg hi]
            exact if_neg fun z => hi (S.sub i z)
        · show p4 (dn m s.mv) l i = _
          rw [q2 (dn m s.mv) i fun z => by
            obtain ⟨z1, z2⟩ := bd.mp z
            show (m i).or _ = none
            rw [hmi z1, Option.none_or, S.non i (.inl z2)]]
          by_cases hi : i ∈ js
          · rw [if_pos hi]
            dsimp only
            by_cases hs : i ∈ s.pl
            · rw [if_neg fun z => (bd.mp z).2 hs, if_pos hs]
              show (m i).or _ = _
              rw [hmi hi, Option.none_or]
            · rw [if_pos (bd.mpr ⟨hi, hs⟩), if_neg hs]
          · rw [if_neg fun z => hi (bd.mp z).1, if_neg hi]
            show (m i).or _ = _
            rw [S.non i (.inl fun z => hi (S.sub i z)), Option.or_none]
        · rcases List.mem_cons.mp ht' with rfl | z
          · exact sp.inn x hx
          · exact q3 t z x hx
theorem tu.congr {ps : List P4} {js : List Int} {win : Int → Int} {mv mv' : Int → Option Int} (h : tu ps js win mv) (e : ∀ i ∈ js, mv' i = mv i) : tu ps js win mv' := by
  refine ⟨h.two, fun i hi ho => by rw [e i hi]; exact h.has i hi ho, fun i hi ho => by rw [e i hi]; exact h.non i hi ho, fun i hi g hg => h.stay i hi g (jy (e i hi) hg), fun i hi hm hp => h.good i hi hm ?_⟩
  exact hp.imp (fun y a b => ⟨jy (e i hi) a, b⟩) fun x y ax a b => ⟨jy (e x ax.1) a, b⟩
theorem nL {ps : List P4} (G : Gr ps) {c : Addr} {k : Nat} {Pm : Int → Prop} (hown : ∀ i, Pm i → ak ps i = 0 ∨ ak ps i = 1) (hS : ∀ js, cN ps.length js → fu ps js → js ≠ [] → (∀ i ∈ js, Pm i) → ∃ s, aJ c k [gD ps, .tuple (js.map .int)] = .ok (im c ps.length s) ∧ gk ps js s ∧ cN ps.length s.pl) {js : List Int} (hj : cN ps.length js) (hw : fu ps js) (hm : ∀ i ∈ js, Pm i) :
    ∃ win mv, az c (k + 1) [gD ps, .tuple (js.map .int)] = .ok (.tuple [oT (j8 js win) ps.length, oT mv ps.length]) ∧ tu ps js win mv ∧ ∀ i, i ∉ js → mv i = none := by
  have hp := G.hp
  have hjl := hj.len
  obtain ⟨l, c4, win, mv, e, q1, q2, I, q3⟩ := zb G (c := c) (s0 := .tuple (js.map .int)) hown hS js.length 1000000 js [] .non hj hw hm (Nat.le_refl _) (by omega) (by simp; omega)
  rw [List.nil_append] at e
  have h3 := Bl (ps := ps) (by omega) (c := c) q3
  have e1' : oT (la (fun _ => none) l) ps.length = oT (j8 js win) ps.length := congrArg PyData.tuple (cu fun i _ _ => by rw [q1]; rfl)
  have e2' : oT (p4 (fun _ => none) l) ps.length = oT (fun i => if i ∈ js then mv i else none) ps.length := congrArg PyData.tuple (cu fun i _ _ => by rw [q2 _ i fun _ => rfl])
  rw [e1', e2'] at h3
  refine ⟨win, fun i => if i ∈ js then mv i else none, ?_, I.congr fun i hi => if_pos hi, fun i hi => if_neg hi⟩
  show dD 5 (dk (aJ c k) (aO c) bw c) _ = _
  unfold dk
  refine dP ?_
  rw [show ([gD ps, .tuple (js.map .int)].map aV.val ++ List.replicate (5 - [gD ps, .tuple (js.map .int)].length) aV.non) = [.val (gD ps), .val (.tuple (js.map .int)), .non, .non, .non] from rfl]
  rw [aE (ρ' := [.val (gD ps), .val (.tuple (js.map .int)), .own (.list []), .non, .non]) (by rfl)]
  rw [aE (ρ' := lR ps c (.tuple (js.map .int)) [] js .non) (by rfl)]
  rw [aE (ρ' := lR ps c (.tuple (js.map .int)) l [] c4) (by
    rw [dH]
    show lD (cp (tE (e2 (eu pV) (e1 cZ (ab 3)) (eC (.int 0)))) (tq c k) 1000000 _) = _
    rw [e]
    rfl)]
  unfold BP
  show bL _ ((lR ps c (.tuple (js.map .int)) l [] c4).set 2 (.val (.list (l.map (im c ps.length))))) = _
  simp only [List.set_cons_succ, List.set_cons_zero, cC, aY, aH, aM, aj, ai, R.ok_bind, h3]
theorem nR {ps : List P4} (G : Gr ps) {c : Addr} : ∀ (k : Nat) (js : List Int), cN ps.length js → fu ps js → (∀ i ∈ js, (ak ps i = 0 ∨ ak ps i = 1) ∧ 0 ≤ av ps i ∧ av ps i < k) →
    ∃ win mv, az c (k + 1) [gD ps, .tuple (js.map .int)] = .ok (.tuple [oT (j8 js win) ps.length, oT mv ps.length]) ∧ tu ps js win mv ∧ ∀ i, i ∉ js → mv i = none
  | 0, js, hj, hw, hm => nL G (c := c) (Pm := fun i => (ak ps i = 0 ∨ ak ps i = 1) ∧ 0 ≤ av ps i ∧ av ps i < (0 : Nat)) (fun i h => h.1) (fun js' _ _ hne h => by
      obtain ⟨i, hi⟩ := List.exists_mem_of_ne_nil _ hne
      have := (h i hi).2
      omega) hj hw hm
  | k + 1, js, hj, hw, hm => nL G (c := c) (Pm := fun i => (ak ps i = 0 ∨ ak ps i = 1) ∧ 0 ≤ av ps i ∧ av ps i < ((k + 1 : Nat) : Int)) (fun i h => h.1) (fun js' hj' hw' hne h => wq G hj' hw' hne (fun i hi => (h i hi).1) fun hh sub sp sw hs ⟨i0, hi0, e0⟩ => nR G k sub sp sw fun i hi => by
      obtain ⟨a, b⟩ := hs i hi
      have h1 := h i a
      have h2 := (h i0 hi0).2.2
      exact ⟨h1.1, h1.2.1, by omega⟩) hj hw hm
theorem AB {ps : List P4} (G : Gr ps) (hw : fu ps (ids ps.length)) {c : Addr} (hm : ∀ i ∈ ids ps.length, (ak ps i = 0 ∨ ak ps i = 1) ∧ 0 ≤ av ps i ∧ av ps i < 13) :
    ∃ win mv, jx c [gD ps] = .ok (.tuple [oT (fun i => some (win i)) ps.length, oT mv ps.length]) ∧ tu ps (ids ps.length) win mv ∧ ∀ i, i ∉ ids ps.length → mv i = none := by
  obtain ⟨win, mv, e, I, q⟩ := nR G (c := c) 13 (ids ps.length) (cN.ids _) hw hm
  refine ⟨win, mv, ?_, I, q⟩
  have h2 := ny (ps := ps) (by have := G.hp; omega)
  have e' : oT (j8 (ids ps.length) win) ps.length = oT (fun i => some (win i)) ps.length := congrArg PyData.tuple (cu fun i h0 h1 => by unfold j8; rw [if_pos (cv.mpr ⟨h0, h1⟩)])
  rw [e'] at e
  unfold jx wU
  refine dP ?_
  rw [show ([gD ps].map aV.val ++ List.replicate (1 - [gD ps].length) aV.non) = [.val (gD ps)] from rfl]
  simp only [cC, aY, aH, aM, aj, R.ok_bind, h2, e]
theorem xq {W : Int → List Int} {al : List Int} {s x : Int} {E : Int → Int → Prop} {A : Int → Prop} (h : vR W al s x) (hs : ∀ y, y ∈ W s → y ∈ al → E s y ∧ A y) (hx : ∀ x, x ∈ al → ∀ y, y ∈ W x → y ∈ al → E x y ∧ A y) : o8 E A s x := by
  induction h with
  | one a b => exact .one (hs _ a b).1 (hs _ a b).2
  | more r a b ih => exact .more ih (hx _ (wn r) _ a b).1 (hx _ (wn r) _ a b).2
def tQ : Fs := (aL (bG 5 (bC (cY (ab 3)) 1 [0, 4] (aI 0) (tE (e2 (eu BL) (e2 bq (e2 bq (ab 1) (ab 0)) (eC (.int 1))) (e2 bq (e2 bq (ab 1) (ab 2)) (eC (.int 1))))) (ab 0))) (aL (bG 6 (aD bH (ae (ab 0) (ae (ab 1) (ae (ab 2) (ae (ab 4) (ae (ab 5) aF))))))) (iK (fW (tE (e2 (jw) (e2 fR (e2 bq (e2 bq (ab 0) (ab 4)) (eC (.int 1))) (eC (.int 2))) (ab 1))) (tE (e2 (iG false) (ab 4) (ab 6)))) (bL (eC (.bool false))) bT)))
section
variable {ps : List P4} (G : Gr ps) {win : Int → Int} {mv : Int → Option Int} (I : tu ps (ids ps.length) win mv) {w : Int} {qs : List Int} (hq : ∀ i, i ∈ qs ↔ i ∈ ids ps.length ∧ win i = w) (pq : cN ps.length qs)
include G I hq pq
theorem w8 : ∀ (is : List Int) (c4 c5 c6 : aV), (∀ x ∈ is, x ∈ qs) →
    ∃ c4' c5' c6', dO (aI 4) tQ (is.map .int) [.val (gD ps), .val (.int w), .val (oT mv ps.length), .val (.list (qs.map .int)), c4, c5, c6] = .ok (.nx [.val (gD ps), .val (.int w), .val (oT mv ps.length), .val (.list (qs.map .int)), c4', c5', c6'])
  | [], c4, c5, c6, _ => ⟨c4, c5, c6, by rw [List.map_nil, dE]⟩
  | i :: is, c4, c5, c6, hb => by
    have hi := hb i List.mem_cons_self
    obtain ⟨hii, hwi⟩ := (hq i).mp hi
    obtain ⟨h0, h1⟩ := cv.mp hii
    have hp := G.hp
    have hql := pq.len
    obtain ⟨low, elow⟩ : ∃ low, low = qs.filter fun j => decide (av ps j ≤ av ps i) := ⟨_, rfl⟩
    have hlow := bU (t := tE (e2 (eu BL) (e2 bq (e2 bq (ab 1) (ab 0)) (eC (.int 1))) (e2 bq (e2 bq (ab 1) (ab 2)) (eC (.int 1))))) (ρ := [.val (gD ps), .val (.int i)]) (p := fun j => decide (av ps j ≤ av ps i)) qs fun j hj => by
      obtain ⟨j0, j1⟩ := pq.inn j hj
      simp only [List.set_cons_zero, bZ, bc, aj, ai, bz, R.ok_bind, iL j0 j1, iL h0 h1, og, mm, ci]
      rw [← fK j0 j1, ← fK h0 h1]
    rw [← elow] at hlow
    have plow : cN ps.length low := by rw [elow]; exact pq.filter _
    have mlow : ∀ j, j ∈ low ↔ j ∈ qs ∧ av ps j ≤ av ps i := fun j => by rw [elow, List.mem_filter, decide_eq_true_iff]
    obtain ⟨rs, e1, e2⟩ := sy G.hl (who := w) (mv := xg mv ps.length) (tY _ _) h0 h1 (al := low) plow.inn (by have := plow.len; omega)
    rw [← yV] at e1
    have hm : av ps i % 2 ≠ w → bQ rs i = false := fun hne => by
      cases h : bQ rs i with
      | false => rfl
      | true =>
        exfalso
        have hr := (e2 i).mp (bo.mp h)
        refine I.good i hii (by rw [hwi]; exact hne) ?_
        rw [hwi]
        have st : ∀ x : Int, 0 ≤ x ∧ x < ps.length → ∀ y, y ∈ cn ps w (xg mv ps.length) x → y ∈ low → Wy ps (ids ps.length) w mv x y ∧ (y ∈ ids ps.length ∧ win y = w ∧ av ps y ≤ av ps i) := fun x hx y hy hyl => by
          obtain ⟨a, b⟩ := (mlow y).mp hyl
          obtain ⟨a1, a2⟩ := (hq y).mp a
          exact ⟨(lE G hx.1 hx.2).mp hy, a1, a2, b⟩
        exact xq hr (fun y hy hyl => st i ⟨h0, h1⟩ y hy hyl) fun x hx y hy hyl => st x (plow.inn x hx) y hy hyl
    obtain ⟨c4', c5', c6', e⟩ := w8 is (.val (.int i)) (.val (.list (low.map .int))) (.val (.list (rs.map .int))) fun x hx => hb x (List.mem_cons_of_mem _ hx)
    refine ⟨c4', c5', c6', ?_⟩
    rw [List.map_cons, dm]
    rw [show (([.val (gD ps), .val (.int w), .val (oT mv ps.length), .val (.list (qs.map .int)), c4, c5, c6] : aG).set 4 (.val (.int i))) = [.val (gD ps), .val (.int w), .val (oT mv ps.length), .val (.list (qs.map .int)), .val (.int i), c5, c6] from rfl]
    have hb1 : tQ [.val (gD ps), .val (.int w), .val (oT mv ps.length), .val (.list (qs.map .int)), .val (.int i), c5, c6] = .ok (.nx [.val (gD ps), .val (.int w), .val (oT mv ps.length), .val (.list (qs.map .int)), .val (.int i), .val (.list (low.map .int)), .val (.list (rs.map .int))]) := by
      unfold tQ
      rw [aE (ρ' := [.val (gD ps), .val (.int w), .val (oT mv ps.length), .val (.list (qs.map .int)), .val (.int i), .val (.list (low.map .int)), c6]) (by
        rw [bh, bp, show aw 1 [0, 4] [.val (gD ps), .val (.int w), .val (oT mv ps.length), .val (.list (qs.map .int)), .val (.int i), c5, c6] = [.non, .val (gD ps), .val (.int i)] from rfl]
        simp only [bI, aj, ai, R.ok_bind, iD, cm]
        rw [if_pos (by rw [List.length_map]; exact bS (by omega)), hlow]
        rfl)]
      rw [aE (ρ' := [.val (gD ps), .val (.int w), .val (oT mv ps.length), .val (.list (qs.map .int)), .val (.int i), .val (.list (low.map .int)), .val (.list (rs.map .int))]) (by
        simp only [bh, aY, aH, aM, aj, ai, R.ok_bind, e1]
        rfl)]
      simp only [cU, nh, bZ, bc, aj, ai, bz, R.ok_bind, iL h0 h1, og, wd]
      rw [if_pos (by decide), R.ok_bind, nK, R.ok_bind, ci, R.ok_bind, ← fK h0 h1]
      by_cases hne : av ps i % 2 = w
      · rw [decide_eq_true hne]; rfl
      · rw [decide_eq_false hne]
        simp only [Bool.not_false, if_true, xD, R.ok_bind, hm hne, ci]
        rfl
    rw [hb1, R.ok_bind, cP, e]
theorem yk : aN [gD ps, .int w, oT mv ps.length, .list (qs.map .int)] = .ok (.bool true) := by
  obtain ⟨c4, c5, c6, e⟩ := w8 G I hq pq qs .non .non .non fun x hx => hx
  have hin := ui G.hl (mv := xg mv ps.length) (who := w) (tY _ _) (qs := qs) pq.inn
  rw [wA G pq.inn (fun i hi' g hg' => by
    obtain ⟨a, b⟩ := (hq i).mp hi'
    obtain ⟨s1, s2⟩ := I.stay i a g (by rw [b]; exact hg')
    exact (hq g).mpr ⟨s1, s2.trans b⟩) (fun i hi' ho => by
    obtain ⟨a, b⟩ := (hq i).mp hi'
    obtain ⟨g, g1, _⟩ := I.has i a (ho.trans b.symm)
    exact ⟨g, g1⟩), ← yV] at hin
  unfold aN du
  refine dP ?_
  rw [show ([gD ps, .int w, oT mv ps.length, .list (qs.map .int)].map aV.val ++ List.replicate (7 - [gD ps, .int w, oT mv ps.length, .list (qs.map .int)].length) aV.non) = [.val (gD ps), .val (.int w), .val (oT mv ps.length), .val (.list (qs.map .int)), .non, .non, .non] from rfl]
  rw [aE (ρ' := [.val (gD ps), .val (.int w), .val (oT mv ps.length), .val (.list (qs.map .int)), .non, .non, .non]) (by
    simp only [cU, gM, bZ, aY, aH, aM, aj, ai, R.ok_bind, hin, ci]; rfl)]
  rw [aE (ρ' := [.val (gD ps), .val (.int w), .val (oT mv ps.length), .val (.list (qs.map .int)), c4, c5, c6]) (by
    rw [dH, em, bI]
    simp only [aj, ai, R.ok_bind, iD]
    unfold tQ at e
    rw [e]
    rfl)]
  rfl
end
def t5 : Fs := (aL (bG 4 (bC (h7 (ae (e1 cZ (ab 1)) aF)) 1 [2, 3] (aI 0) (tE (e2 (ip) (e2 bq (e2 bq (ab 1) (eC (.int 0))) (ab 0)) (ab 2))) (ab 0))) (iK (fV (tE (aD aN (ae (ab 1) (ae (ab 3) (ae (e2 bq (ab 2) (eC (.int 1))) (ae (ab 4) aF))))))) (bL (eC (.bool false))) bT))
theorem vW {a : PyData} {ps : List P4} (G : Gr ps) {win : Int → Int} {mv : Int → Option Int} (I : tu ps (ids ps.length) win mv) {f : PyData} (hf0 : bq f (.int 0) = .ok (oT (fun i => some (win i)) ps.length)) (hf1 : bq f (.int 1) = .ok (oT mv ps.length)) : ∀ (ws : List Int) (c3 c4 : aV),
    ∃ c3' c4', dO (aI 3) t5 (ws.map .int) [.val a, .val (gD ps), .val f, c3, c4] = .ok (.nx [.val a, .val (gD ps), .val f, c3', c4'])
  | [], c3, c4 => ⟨c3, c4, by rw [List.map_nil, dE]⟩
  | w :: ws, c3, c4 => by
    have hp := G.hp
    obtain ⟨qs, eqs⟩ : ∃ qs, qs = (ids ps.length).filter fun i => decide (win i = w) := ⟨_, rfl⟩
    have hmi := bU (t := tE (e2 (ip) (e2 bq (e2 bq (ab 1) (eC (.int 0))) (ab 0)) (ab 2))) (ρ := [.val f, .val (.int w)]) (p := fun i => decide (win i = w)) (ids ps.length) fun i hi' => by
      obtain ⟨h0, h1⟩ := cv.mp hi'
      simp only [List.set_cons_zero, bZ, bc, aj, ai, bz, R.ok_bind, hf0, tt h0 h1, oD, gf, ci]
    rw [← eqs] at hmi
    have hq : ∀ i, i ∈ qs ↔ i ∈ ids ps.length ∧ win i = w := fun i => by rw [eqs, List.mem_filter, decide_eq_true_iff]
    have pq : cN ps.length qs := by rw [eqs]; exact (cN.ids _).filter _
    have hwin := yk G I hq pq
    have hlen : cZ (gD ps) = .ok (.int ps.length) := by simp
    have hr1 : oO [.int (ps.length : Int)] = .ok (bt 0 ps.length) := by rw [zj (by omega) (by omega), Int.toNat_natCast]
    have hrm : bt 0 ps.length = (ids ps.length).map .int := jM _
    obtain ⟨c3', c4', e⟩ := vW (a := a) G I hf0 hf1 ws (.val (.int w)) (.val (.list (qs.map .int)))
    refine ⟨c3', c4', ?_⟩
    rw [List.map_cons, dm]
    rw [show (([.val a, .val (gD ps), .val f, c3, c4] : aG).set 3 (.val (.int w))) = [.val a, .val (gD ps), .val f, .val (.int w), c4] from rfl]
    have hb1 : t5 [.val a, .val (gD ps), .val f, .val (.int w), c4] = .ok (.nx [.val a, .val (gD ps), .val f, .val (.int w), .val (.list (qs.map .int))]) := by
      unfold t5
      rw [aE (ρ' := [.val a, .val (gD ps), .val f, .val (.int w), .val (.list (qs.map .int))]) (by
        rw [bh, bp, show aw 1 [2, 3] [.val a, .val (gD ps), .val f, .val (.int w), c4] = [.non, .val f, .val (.int w)] from rfl]
        simp only [nO, aH, aM, cA, aj, ai, R.ok_bind, hlen, hr1, cm]
        rw [if_pos (by rw [eG]; exact bS (by omega)), hrm, hmi]
        rfl)]
      simp only [cU, gM, bZ, bc, aY, aH, aM, aj, ai, bz, R.ok_bind, hf1, hwin, ci]
      rfl
    rw [hb1, R.ok_bind, cP, e]
theorem v9 (c : Addr) : vC (tG c) := by
  intro ns hns
  obtain ⟨ps, hi, hgr, hpl, hp1, hp24, hi0, hi12⟩ := sC ns (most := 24) (by omega) (by omega)
  have G : Gr ps := Bx hpl hp24
  have hp := G.hp
  have hw := ua G
  obtain ⟨win, mv, hwon, I, hn⟩ := AB G hw (c := c) fun i hi' => by
    obtain ⟨h0, h1⟩ := cv.mp hi'
    have P := hpl _ (List.getElem_mem (show i.toNat < ps.length by omega))
    rw [eE h0 h1, fK h0 h1]
    have := P.w0
    have := P.w1
    have := P.m0
    have := P.m1
    omega
  obtain ⟨f, hf⟩ : ∃ f, f = PyData.tuple [oT (fun i => some (win i)) ps.length, oT mv ps.length] := ⟨_, rfl⟩
  have htold := x9 (ps := ps) (win := win) (mv := mv) (fun i h0 h1 => I.two i (cv.mpr ⟨h0, h1⟩)) (fun i h0 h1 => by
    have hi' := cv.mpr ⟨h0, h1⟩
    constructor
    · intro z ho
      obtain ⟨g, hg', _⟩ := I.has i hi' ho
      rw [z] at hg'
      cases hg'
    · exact I.non i hi') (fun i g h => by
    by_cases hi' : i ∈ ids ps.length
    · by_cases ho : ak ps i = win i
      · obtain ⟨g', h1, h2⟩ := I.has i hi' ho
        rw [h1] at h
        cases h
        exact h2
      · rw [I.non i hi' ho] at h
        cases h
    · rw [hn i hi'] at h
      cases h) hf
  have hsame : jw f f = .ok (.bool false) := by rw [hf]; exact uS
  rw [← hf] at hwon
  have hf0 : bq f (.int 0) = .ok (oT (fun i => some (win i)) ps.length) := by rw [hf]; rfl
  have hf1 : bq f (.int 1) = .ok (oT mv ps.length) := by rw [hf]; rfl
  obtain ⟨c3, c4, hloop⟩ := vW (a := vg ns) G I hf0 hf1 [0, 1] .non .non
  unfold tG wb
  refine dP ?_
  rw [show ([vg ns].map aV.val ++ List.replicate (5 - [vg ns].length) aV.non) = [.val (vg ns), .non, .non, .non, .non] from rfl]
  rw [aE (ρ' := [.val (vg ns), .val (gD ps), .non, .non, .non]) (by
    simp only [bh, aY, aH, aM, aj, bz, R.ok_bind, hgr]; rfl)]
  rw [aE (ρ' := [.val (vg ns), .val (gD ps), .val f, .non, .non]) (by
    simp only [bh, aY, aH, aM, aj, ai, R.ok_bind, hwon]; rfl)]
  rw [aE (ρ' := [.val (vg ns), .val (gD ps), .val f, .non, .non]) (by
    simp only [cU, jX, gM, bZ, bc, aY, aH, aM, aj, ai, R.ok_bind, htold, hwon, hsame, ci]; rfl)]
  rw [aE (ρ' := [.val (vg ns), .val (gD ps), .val f, c3, c4]) (by
    rw [dH, em, bI, o5]
    simp only [aH, aM, bz, R.ok_bind]
    rw [if_pos (by show 2 ≤ _; decide), R.ok_bind, dL, R.ok_bind]
    unfold t5 at hloop
    rw [show ([.int 0, .int 1] : List PyData) = [(0 : Int), 1].map .int from rfl, hloop]
    rfl)]
  rfl
def A1 : List Stmt := PySem.Challenge.pw_duelground_k30_whole_won_by_marks.main.body
abbrev top (i : Nat) : Stmt := A1.getD i (.Pass ⟨0, 0, 0, 0⟩)
abbrev gA : Stmt := top 23
abbrev iQ : Stmt := top 24
abbrev iy : Stmt := top 25
abbrev iA : Stmt := top 26
abbrev iY : Stmt := top 27
abbrev fy : Stmt := top 28
abbrev eD : Stmt := top 30
abbrev eZ : Stmt := top 35
abbrev gU : Stmt := top 31
abbrev fI : Stmt := top 33
abbrev gE : Stmt := top 32
abbrev cD : Stmt := top 34
abbrev gQ : Stmt := top 5
abbrev gY : Stmt := top 10
abbrev dG : Stmt := top 9
abbrev jY : Stmt := top 16
abbrev cM : Stmt := top 17
abbrev jZ : Stmt := top 6
abbrev gj : Stmt := top 14
abbrev dI : Stmt := top 15
abbrev hV : Stmt := top 8
abbrev fj : Stmt := top 11
abbrev i6 : Stmt := top 7
abbrev cj : Stmt := top 19
abbrev cF : Stmt := top 12
abbrev eO : Stmt := top 20
abbrev wk : Stmt := top 21
abbrev ju : Stmt := top 36
section
variable {P : Program} {w : World} {K : PySem.W.Frag} {mg : Str → Option Value} {base : Heap} {f : Addr} {fd : FuncData} {k : Nat}
abbrev i9 : Stmt := yC (top 4) 0
theorem xH : aT ["self", "who", "places", "moves"] ["self", "who", "places", "moves"] (ah i9) := ⟨rfl, rfl, rfl, by decide +kernel, rfl, by decide +kernel, by decide +kernel⟩
theorem yE {P : Program} {w : World} {K : PySem.W.Frag} {mg : Str → Option Value} {base : Heap} {f C : Addr} {fd : FuncData} (F : ie K "__init__" "Share.__init__" i9 f fd) (cl : uz K C) (n0 : da K C "who") (n1 : da K C "places") (n2 : da K C "moves") :
    aX P w K mg base (cG P w mg) 1 f fd ["self", "who", "places", "moves"] (BE C ["who", "places", "moves"]) := by
  obtain ⟨oc, od, kV, doc, pm, an, cdv, ct, osl, rfl, lk, hcd⟩ := F.ex
  refine v8 (k := 0) lk hcd xH (fun vs H Q E h => ?_) fun A outer s H vs Q E hr h => ?_
  · obtain ⟨x, dx, ws, rfl, _, hl, _⟩ := h
    rw [List.length_cons, hl]
    rfl
  · obtain ⟨x, dx, ws, rfl, hx, hl, k⟩ := h
    match ws, hl with
    | [w1, w2, w3], _ =>
      refine ⟨_, mH (se (pv 0) (pv 1) rfl) (mH (se (pv 0) (pv 2) rfl) (tM (se (pv 0) (pv 3) rfl))), ?_⟩
      refine ⟨_, rfl, _, rfl, x, C, dx, [], rfl, hx, cl, n0, (by show 0 < 1000; decide), _, rfl, _, rfl, x, C, dx, _, rfl, aU, cl, n1, (by show 1 < 1000; decide), _, rfl, _, rfl, x, C, dx, _, rfl, aU, cl, n2, (by refine Nat.lt_of_le_of_lt (gn _ _ _) ?_; exact Nat.lt_of_le_of_lt (Nat.succ_le_succ (gn _ _ _)) (by show 2 < 1000; decide)), ?_⟩
      refine k _ (by rw [aU, AR (by decide +kernel) (by decide +kernel) (by decide +kernel)]; rfl) fun b hb => ?_
      rw [ao hb, ao hb, ao hb]
theorem nA : aT ["_law_script", "_law_k"] ["_law_script", "_law_k"] (ah gA) := ⟨rfl, rfl, rfl, by decide +kernel, rfl, by decide +kernel, by decide +kernel⟩
theorem nv (W : ie K "_law_cell_at" "_law_cell_at" gA f fd) (b_len : mg "len" = none) :
    aX P w K mg base (cG P w mg) (k + 1) f fd ["_law_script", "_law_k"] (dh (dD 2 (gx)) 2) := by
  refine Z.fn_dataT W nA (G := ["len"]) (by decide +kernel) fun cdv A outer s H E hr T => ?_
  exact (Z.am (Z.dr (Z.sn (Z.ag.b (Z.aa T 1 rfl)) (Z.ag.b (Z.cV T 0 rfl b_len (Z.ag.b (Z.aa T 0 rfl))))) (Z.aA (Z.aQ (Z.a5 T.hu (Z.ag.b (Z.aa T 0 rfl)) (Z.ag.b (Z.aa T 1 rfl)) (fun _ _ => rfl)))) Z.cs)
      (Z.aA (Z.aQ Z.ap)))
theorem p0 : aT ["_law_script", "_law_k", "_law_drawn_here"] ["_law_script", "_law_k"] (ah iQ) := ⟨rfl, rfl, rfl, by decide +kernel, rfl, by decide +kernel, by decide +kernel⟩
theorem qQ (W : ie K "_law_mixed" "_law_mixed" iQ f fd) {f15 : Addr} {d15 : FuncData} {bP : il} (C15 : iq P w K mg base k "_law_cell_at" ["_law_script", "_law_k"] bP f15 d15) :
    aX P w K mg base (cG P w mg) (k + 1) f fd ["_law_script", "_law_k"] (dh (dD 3 (iI bP)) 2) := by
  refine Z.fn_dataT W p0 (G := ["_law_cell_at"]) (by decide +kernel) fun cdv A outer s H E hr T => ?_
  exact (Z.am (Z.br T 2 rfl (Z.cT (Z.ag.b (Z.fQ (Z.ag.b (Z.dt (Z.ag.b (Z.dt (Z.ag.b (Z.aP C15 hr T 0 rfl (Z.af (Z.aa T 0 rfl) (Z.af (Z.aa T 1 rfl) Z.ay)) rfl (ad (ad ar)))) (Z.ag.b (Z.fQ (Z.ag.b Z.ap) (Z.ag.b (Z.aa T 1 rfl)))))) (Z.ag.b Z.ap))) (Z.ag.b Z.ap))) (Z.ag.b Z.ap)))
      (Z.aA (Z.aQ (Z.cT (Z.ag.b (Z.dt (Z.ag.b (Z.dt (Z.ag.b (Z.fQ (Z.ag.b (Z.aa T 2 rfl)) (Z.ag.b (Z.aa T 2 rfl)))) (Z.ag.b (Z.fQ (Z.ag.b Z.ap) (Z.ag.b (Z.aa T 2 rfl)))))) (Z.ag.b (Z.aa T 1 rfl)))) (Z.ag.b Z.ap)))))
theorem qG : aT ["_law_number", "_law_k", "_law_drawn_here"] ["_law_number", "_law_k"] (ah iy) := ⟨rfl, rfl, rfl, by decide +kernel, rfl, by decide +kernel, by decide +kernel⟩
theorem qD (W : ie K "_law_drawn" "_law_drawn" iy f fd) :
    aX P w K mg base (cG P w mg) (k + 1) f fd ["_law_number", "_law_k"] (dh (dD 3 (iU)) 2) := by
  refine Z.fn_dataT W qG (G := []) (by decide +kernel) fun cdv A outer s H E hr T => ?_
  exact (Z.am (Z.br T 2 rfl (Z.cT (Z.ag.b (Z.fQ (Z.ag.b (Z.dt (Z.ag.b (Z.dt (Z.ag.b (Z.aa T 0 rfl)) (Z.ag.b (Z.fQ (Z.ag.b Z.ap) (Z.ag.b (Z.aa T 1 rfl)))))) (Z.ag.b Z.ap))) (Z.ag.b Z.ap))) (Z.ag.b Z.ap)))
      (Z.aA (Z.aQ (Z.cT (Z.ag.b (Z.dt (Z.ag.b (Z.dt (Z.ag.b (Z.fQ (Z.ag.b (Z.aa T 2 rfl)) (Z.ag.b (Z.aa T 2 rfl)))) (Z.ag.b (Z.fQ (Z.ag.b Z.ap) (Z.ag.b (Z.aa T 2 rfl)))))) (Z.ag.b (Z.aa T 1 rfl)))) (Z.ag.b Z.ap)))))
theorem qB : aT ["_law_number", "_law_count", "_law_found", "_law_k"] ["_law_number", "_law_count"] (ah iA) := ⟨rfl, rfl, rfl, by decide +kernel, rfl, by decide +kernel, by decide +kernel⟩
theorem pO (W : ie K "_law_goals" "_law_goals" iA f fd) {f17 : Addr} {d17 : FuncData} {a9 : il} (C17 : iq P w K mg base k "_law_drawn" ["_law_number", "_law_k"] a9 f17 d17) (b_int : mg "int" = none) (b_range : mg "range" = none) (b_sorted : mg "sorted" = none) (b_tuple : mg "tuple" = none) :
    aX P w K mg base (cG P w mg) (k + 1) f fd ["_law_number", "_law_count"] (dh (dD 4 (iS a9)) 2) := by
  refine Z.fn_dataT W qB (G := ["range", "int", "_law_drawn", "tuple", "sorted"]) (by decide +kernel) fun cdv A outer s H E hr T => ?_
  exact (Z.am (Z.jR T 2 rfl Z.kK)
      (Z.am (Z.cE (have T := T.nox; Z.eF PassesOwn.never T.calm (Z.fN T 0 rfl b_range (Z.af (Z.dt (Z.ag.b (Z.dt (Z.ag.b Z.ap) (Z.ag.b (Z.cT (Z.ag.b (Z.aa T 0 rfl)) (Z.ag.b Z.ap))))) (Z.ag.b (Z.fQ (Z.ag.b Z.ap) (Z.ag.b (Z.pB T 1 rfl b_int (Z.ag.b (Z.tf T.hu (Z.ag.b (Z.cT (Z.ag.b (Z.ix (Z.ag.b (Z.aa T 0 rfl)) (Z.ag.b Z.ap))) (Z.ag.b Z.ap))) (Z.ag.b Z.ap)))))))) Z.ay) (ad ar)) (Z.ba T 3 rfl) (Z.aA (Z.r0 T 2 rfl (Z.cT (Z.ag.b (Z.aP C17 hr T 2 rfl (Z.af (Z.aa T 0 rfl) (Z.af (Z.aa T 3 rfl) Z.ay)) rfl (ad (ad ar)))) (Z.ag.b (Z.aa T 1 rfl))) Z.bW))))
      (Z.aA (Z.aQ (Z.cx T 3 rfl b_tuple (Z.fF.b (Z.jS T 4 rfl b_sorted (Z.eh T 2 rfl))))))))
theorem qc : aT ["_law_number", "_law_count", "_law_high", "_law_gain"] ["_law_number", "_law_count", "_law_high"] (ah iY) := ⟨rfl, rfl, rfl, by decide +kernel, rfl, by decide +kernel, by decide +kernel⟩
theorem pX (W : ie K "_law_place" "_law_place" iY f fd) {f17 : Addr} {d17 : FuncData} {a9 : il} (C17 : iq P w K mg base k "_law_drawn" ["_law_number", "_law_k"] a9 f17 d17) {f18 : Addr} {d18 : FuncData} {cw : il} (C18 : iq P w K mg base k "_law_goals" ["_law_number", "_law_count"] cw f18 d18) :
    aX P w K mg base (cG P w mg) (k + 1) f fd ["_law_number", "_law_count", "_law_high"] (dh (dD 4 (iJ a9 cw)) 3) := by
  refine Z.fn_dataT W qc (G := ["_law_goals", "_law_drawn"]) (by decide +kernel) fun cdv A outer s H E hr T => ?_
  exact (Z.am (Z.br T 3 rfl (Z.kT (Z.ag.b (Z.cT (Z.ag.b (Z.ix (Z.ag.b (Z.aa T 0 rfl)) (Z.ag.b Z.ap))) (Z.ag.b Z.ap))) (Z.ag.b Z.ap)))
      (Z.am (Z.dr (Z.eK T.hu (Z.ag.b (Z.cT (Z.ag.b (Z.ix (Z.ag.b (Z.aa T 0 rfl)) (Z.ag.b Z.ap))) (Z.ag.b Z.ap))) (Z.ag.b Z.ap)) (Z.aA (Z.br T 3 rfl (Z.kT (Z.ag.b (Z.cT (Z.ag.b (Z.ix (Z.ag.b (Z.aa T 0 rfl)) (Z.ag.b Z.ap))) (Z.ag.b Z.ap))) (Z.ag.b Z.ap)))) Z.cs)
      (Z.aA (Z.aQ (Z.ku (Z.af (Z.cT (Z.ag.b (Z.aa T 0 rfl)) (Z.ag.b Z.ap)) (Z.af (Z.cT (Z.ag.b (Z.ix (Z.ag.b (Z.aa T 0 rfl)) (Z.ag.b Z.ap))) (Z.ag.b (Z.dt (Z.ag.b (Z.aa T 2 rfl)) (Z.ag.b Z.ap)))) (Z.af (Z.aa T 3 rfl) (Z.af (Z.aP C18 hr T 0 rfl (Z.af (Z.aP C17 hr T 1 rfl (Z.af (Z.aa T 0 rfl) (Z.af Z.ap Z.ay)) rfl (ad (ad ar))) (Z.af (Z.aa T 1 rfl) Z.ay)) rfl (ad (ad ar))) Z.ay)))))))))
theorem oJ : aT ["_law_script", "_law_most", "_law_number", "_law_count", "_law_high"] ["_law_script", "_law_most"] (ah fy) := ⟨rfl, rfl, rfl, by decide +kernel, rfl, by decide +kernel, by decide +kernel⟩
theorem oQ (W : ie K "_law_ground" "_law_ground" fy f fd) {f16 : Addr} {d16 : FuncData} {bV : il} (C16 : iq P w K mg base k "_law_mixed" ["_law_script", "_law_k"] bV f16 d16) {f19 : Addr} {d19 : FuncData} {cg : il} (C19 : iq P w K mg base k "_law_place" ["_law_number", "_law_count", "_law_high"] cg f19 d19) (b_len : mg "len" = none) (b_max : mg "max" = none) (b_min : mg "min" = none) (b_range : mg "range" = none) (b_tuple : mg "tuple" = none) :
    aX P w K mg base (cG P w mg) (k + 1) f fd ["_law_script", "_law_most"] (dh (dD 5 (ia bV cg)) 2) := by
  refine Z.fn_dataT W oJ (G := ["_law_mixed", "min", "max", "len", "tuple", "range"]) (by decide +kernel) fun cdv A outer s H E hr T => ?_
  exact (Z.am (Z.br T 2 rfl (Z.aP C16 hr T 0 rfl (Z.af (Z.aa T 0 rfl) (Z.af Z.ap Z.ay)) rfl (ad (ad ar))))
      (Z.am (Z.br T 3 rfl (Z.dt (Z.ag.b Z.ap) (Z.ag.b (Z.cT (Z.ag.b (Z.aa T 2 rfl)) (Z.ag.b (Z.qU T 1 rfl b_min (Z.ag.b (Z.aa T 1 rfl)) (Z.ag.b (Z.qW T 2 rfl b_max (Z.ag.b Z.ap) (Z.ag.b (Z.cV T 3 rfl b_len (Z.ag.b (Z.aa T 0 rfl))))))))))))
      (Z.am (Z.br T 4 rfl (Z.a5 T.hu (Z.fF.b (Z.fG (Z.af Z.ap (Z.af Z.ap (Z.af Z.ap (Z.af Z.ap (Z.af Z.ap (Z.af Z.ap Z.ay)))))))) (Z.ag.b (Z.cT (Z.ag.b (Z.ix (Z.ag.b (Z.aa T 2 rfl)) (Z.ag.b Z.ap))) (Z.ag.b Z.ap))) (fun _ _ => rfl)))
      (Z.aA (Z.aQ (Z.cx T 4 rfl b_tuple (Z.fF.b (Z.bO (N := ["_law_k", "_law_script", "_law_count", "_law_high"]) (own := 1) (G := ["_law_place", "_law_mixed"]) (fr := [0, 3, 4]) T rfl rfl (oN := ["_law_script", "_law_most", "_law_number", "_law_count", "_law_high"]) (on := (ah fy).names) (by decide +kernel) (Z.fN T 5 rfl b_range (Z.af (Z.aa T 3 rfl) Z.ay) (ad ar)) (bu (by decide)) (fun cl C s' H' fp T => ⟨(Z.ba T 0 rfl), Z.gc, (Z.aP C19 hr T 0 rfl (Z.af (Z.aP C16 hr T 1 rfl (Z.af (Z.aa T 1 rfl) (Z.af (Z.dt (Z.ag.b Z.ap) (Z.ag.b (Z.aa T 0 rfl))) Z.ay)) rfl (ad (ad ar))) (Z.af (Z.aa T 2 rfl) (Z.af (Z.aa T 3 rfl) Z.ay))) rfl (ad (ad (ad ar))))⟩)))))))))
theorem kB : aT ["_law_moves", "_law_ground_here", "_law_move", "_law_place_here"] ["_law_moves", "_law_ground_here"] (ah eD) := ⟨rfl, rfl, rfl, by decide +kernel, rfl, by decide +kernel, by decide +kernel⟩
theorem ky (W : ie K "_law_moves_good" "_law_moves_good" eD f fd) (b_bool : mg "bool" = none) (b_int : mg "int" = none) (b_isinstance : mg "isinstance" = none) (b_len : mg "len" = none) (b_tuple : mg "tuple" = none) (b_zip : mg "zip" = none) :
    aX P w K mg base (cG P w mg) (k + 1) f fd ["_law_moves", "_law_ground_here"] (dh (dD 4 (eN)) 2) := by
  refine Z.fn_dataT W kB (G := ["isinstance", "tuple", "len", "zip", "bool", "int"]) (by decide +kernel) fun cdv A outer s H E hr T => ?_
  exact (Z.am (Z.dr (Z.jB.t (Z.fY (Z.dW (Z.cW (Z.dU T 0 rfl b_isinstance T 1 rfl b_tuple (Z.ag.b (Z.aa T 0 rfl))))) (Z.fB (Z.gv T.hu (Z.ag.b (Z.cV T 2 rfl b_len (Z.ag.b (Z.aa T 0 rfl)))) (Z.ag.b (Z.cV T 2 rfl b_len (Z.ag.b (Z.aa T 1 rfl)))))))) (Z.aA (Z.aQ Z.bW)) Z.cs)
      (Z.am (Z.cE (have T := T.nox; Z.eF PassesOwn.never T.calm (Z.oX T 3 rfl b_zip (Z.aa T 0 rfl) (Z.aa T 1 rfl)) (Z.hW T 2 3 rfl rfl) (Z.am (Z.dr (Z.jB.t (Z.fY (Z.cW (Z.gq T 0 rfl b_isinstance T 4 rfl b_bool (Z.ag.b (Z.aa T 2 rfl)))) (Z.fB (Z.jB.t (Z.hZ (Z.fU (Z.ag.b (Z.aa T 2 rfl)) (Z.ag.b Z.cJ)) (Z.fP (Z.dW (Z.cW (Z.hU T 0 rfl b_isinstance T 5 rfl b_int (Z.ag.b (Z.aa T 2 rfl))))))))))) (Z.aA (Z.aQ Z.bW)) Z.cs)
      (Z.aA (Z.dr (Z.jB.t (Z.hZ (Z.fU (Z.ag.b (Z.aa T 2 rfl)) (Z.ag.b Z.cJ)) (Z.fP (Z.eB T.hu (Z.ag.b (Z.aa T 2 rfl)) (Z.ag.b (Z.a5 T.hu (Z.ag.b (Z.aa T 3 rfl)) (Z.ag.b Z.ap) (fun _ _ => rfl))) (by with_unfolding_all rfl))))) (Z.aA (Z.aQ Z.bW)) Z.cs)))))
      (Z.aA (Z.aQ Z.bW))))
theorem ls : aT ["_law_found", "_law_ground_here", "_law_place_here", "_law_winner", "_law_move"] ["_law_found", "_law_ground_here"] (ah eZ) := ⟨rfl, rfl, rfl, by decide +kernel, rfl, by decide +kernel, by decide +kernel⟩
theorem ln (W : ie K "_law_told_well" "_law_told_well" eZ f fd) {f22 : Addr} {d22 : FuncData} {bj : il} (C22 : iq P w K mg base k "_law_moves_good" ["_law_moves", "_law_ground_here"] bj f22 d22) (b_bool : mg "bool" = none) (b_int : mg "int" = none) (b_isinstance : mg "isinstance" = none) (b_len : mg "len" = none) (b_tuple : mg "tuple" = none) (b_zip : mg "zip" = none) :
    aX P w K mg base (cG P w mg) (k + 1) f fd ["_law_found", "_law_ground_here"] (dh (dD 5 (e9 bj)) 2) := by
  refine Z.fn_dataT W ls (G := ["isinstance", "tuple", "len", "_law_moves_good", "zip", "int", "bool"]) (by decide +kernel) fun cdv A outer s H E hr T => ?_
  exact (Z.am (Z.dr (Z.jB.t (Z.fY (Z.dW (Z.cW (Z.dU T 0 rfl b_isinstance T 1 rfl b_tuple (Z.ag.b (Z.aa T 0 rfl))))) (Z.fY (Z.gv T.hu (Z.ag.b (Z.cV T 2 rfl b_len (Z.ag.b (Z.aa T 0 rfl)))) (Z.ag.b Z.ap)) (Z.fB (Z.dW (Z.cW (Z.dU T 0 rfl b_isinstance T 1 rfl b_tuple (Z.ag.b (Z.a5 T.hu (Z.ag.b (Z.aa T 0 rfl)) (Z.ag.b Z.ap) (fun _ _ => rfl)))))))))) (Z.aA (Z.aQ Z.bW)) Z.cs)
      (Z.am (Z.dr (Z.jB.t (Z.fY (Z.gv T.hu (Z.ag.b (Z.cV T 2 rfl b_len (Z.ag.b (Z.a5 T.hu (Z.ag.b (Z.aa T 0 rfl)) (Z.ag.b Z.ap) (fun _ _ => rfl))))) (Z.ag.b (Z.cV T 2 rfl b_len (Z.ag.b (Z.aa T 1 rfl))))) (Z.fB (Z.dW (Z.cW (Z.aP C22 hr T 3 rfl (Z.af (Z.a5 T.hu (Z.ag.b (Z.aa T 0 rfl)) (Z.ag.b Z.ap) (fun _ _ => rfl)) (Z.af (Z.aa T 1 rfl) Z.ay)) rfl (ad (ad ar)))))))) (Z.aA (Z.aQ Z.bW)) Z.cs)
      (Z.am (Z.cE (have T := T.nox; Z.eF PassesOwn.never T.calm (Z.pd T 4 rfl b_zip (Z.aa T 1 rfl) (Z.a5 T.hu (Z.ag.b (Z.aa T 0 rfl)) (Z.ag.b Z.ap) (fun _ _ => rfl)) (Z.a5 T.hu (Z.ag.b (Z.aa T 0 rfl)) (Z.ag.b Z.ap) (fun _ _ => rfl))) (Z.sd T 2 3 4 rfl rfl rfl) (Z.am (Z.dr (Z.jB.t (Z.fY (Z.dW (Z.cW (Z.hU T 0 rfl b_isinstance T 5 rfl b_int (Z.ag.b (Z.aa T 3 rfl))))) (Z.fY (Z.cW (Z.gq T 0 rfl b_isinstance T 6 rfl b_bool (Z.ag.b (Z.aa T 3 rfl)))) (Z.fB (Z.eB T.hu (Z.ag.b (Z.aa T 3 rfl)) (Z.ag.b (Z.ku (Z.af Z.ap (Z.af Z.ap Z.ay)))) (by with_unfolding_all rfl)))))) (Z.aA (Z.aQ Z.bW)) Z.cs)
      (Z.aA (Z.dr (Z.gv T.hu (Z.ag.b (Z.rW (Z.ag.b (Z.aa T 4 rfl)) (Z.ag.b Z.cJ))) (Z.ag.b (Z.wx T.hu (Z.ag.b (Z.a5 T.hu (Z.ag.b (Z.aa T 2 rfl)) (Z.ag.b Z.ap) (fun _ _ => rfl))) (Z.ag.b (Z.aa T 3 rfl))))) (Z.aA (Z.aQ Z.bW)) Z.cs)))))
      (Z.aA (Z.aQ Z.bW)))))
theorem rm : aT ["_law_ground_here", "_law_who", "_law_moves", "_law_place_here"] ["_law_ground_here", "_law_who", "_law_moves", "_law_place_here"] (ah gU) := ⟨rfl, rfl, rfl, by decide +kernel, rfl, by decide +kernel, by decide +kernel⟩
theorem rF (W : ie K "_law_ways" "_law_ways" gU f fd) (b_list : mg "list" = none) :
    aX P w K mg base (cG P w mg) (k + 1) f fd ["_law_ground_here", "_law_who", "_law_moves", "_law_place_here"] (dh (dD 4 (jG)) 4) := by
  refine Z.fn_dataT W rm (G := ["list"]) (by decide +kernel) fun cdv A outer s H E hr T => ?_
  exact (Z.am (Z.dr (Z.eK T.hu (Z.ag.b (Z.a5 T.hu (Z.ag.b (Z.a5 T.hu (Z.ag.b (Z.aa T 0 rfl)) (Z.ag.b (Z.aa T 3 rfl)) (fun _ _ => rfl))) (Z.ag.b Z.ap) (fun _ _ => rfl))) (Z.ag.b (Z.aa T 1 rfl))) (Z.aA (Z.aQ (Z.fF.e (Z.bO (N := ["_law_move"]) (own := 1) (G := []) (fr := []) T rfl rfl (oN := ["_law_ground_here", "_law_who", "_law_moves", "_law_place_here"]) (on := (ah gU).names) (by decide +kernel) (Z.bX (Z.fF.e (Z.fG (Z.af (Z.a5 T.hu (Z.ag.b (Z.aa T 2 rfl)) (Z.ag.b (Z.aa T 3 rfl)) (fun _ _ => rfl)) Z.ay)))) (bu (by decide)) (fun cl C s' H' fp T => ⟨(Z.ba T 0 rfl), (Z.dM (Z.fU (Z.ag.b (Z.aa T 0 rfl)) (Z.ag.b Z.cJ))), (Z.aa T 0 rfl)⟩))))) Z.cs)
      (Z.aA (Z.aQ (Z.fF.e (Z.iV T 0 rfl b_list (Z.ag.b (Z.a5 T.hu (Z.ag.b (Z.a5 T.hu (Z.ag.b (Z.aa T 0 rfl)) (Z.ag.b (Z.aa T 3 rfl)) (fun _ _ => rfl))) (Z.ag.b Z.ap) (fun _ _ => rfl))))))))
theorem ou : aT ["_law_ground_here", "_law_who", "_law_moves", "_law_places", "_law_place_here", "_law_ways_here"] ["_law_ground_here", "_law_who", "_law_moves", "_law_places"] (ah fI) := ⟨rfl, rfl, rfl, by decide +kernel, rfl, by decide +kernel, by decide +kernel⟩
theorem oF (W : ie K "_law_inside" "_law_inside" fI f fd) {f23 : Addr} {d23 : FuncData} {a4 : il} (C23 : iq P w K mg base k "_law_ways" ["_law_ground_here", "_law_who", "_law_moves", "_law_place_here"] a4 f23 d23) :
    aX P w K mg base (cG P w mg) (k + 1) f fd ["_law_ground_here", "_law_who", "_law_moves", "_law_places"] (dh (dD 6 (gX a4)) 4) := by
  refine Z.fn_dataT W ou (G := ["_law_ways"]) (by decide +kernel) fun cdv A outer s H E hr T => ?_
  exact (Z.am (Z.cE (have T := T.nox; Z.eF PassesOwn.never T.calm (Z.bX (Z.aa T 3 rfl)) (Z.ba T 4 rfl) (Z.am (Z.br T 5 rfl (Z.aP C23 hr T 0 rfl (Z.af (Z.aa T 0 rfl) (Z.af (Z.aa T 1 rfl) (Z.af (Z.aa T 2 rfl) (Z.af (Z.aa T 4 rfl) Z.ay)))) rfl (ad (ad (ad (ad ar))))))
      (Z.aA (Z.dr (Z.jB.t (Z.fY (Z.eK T.hu (Z.ag.b (Z.aa T 5 rfl)) (Z.fF.b (Z.fG Z.ay))) (Z.fB (Z.gv T.hu (Z.fF.b (Z.bO (N := ["_law_way", "_law_places"]) (own := 1) (G := []) (fr := [3]) T rfl rfl (oN := ["_law_ground_here", "_law_who", "_law_moves", "_law_places", "_law_place_here", "_law_ways_here"]) (on := (ah fI).names) (by decide +kernel) (Z.bX (Z.aa T 5 rfl)) (bu (by decide)) (fun cl C s' H' fp T => ⟨(Z.ba T 0 rfl), (Z.dM (Z.eB T.hu (Z.ag.b (Z.aa T 0 rfl)) (Z.ag.b (Z.aa T 1 rfl)) (by with_unfolding_all rfl))), (Z.aa T 0 rfl)⟩))) (Z.fF.b (Z.fG Z.ay)))))) (Z.aA (Z.aQ Z.bW)) Z.cs)))))
      (Z.aA (Z.aQ Z.bW)))
theorem nD : aT ["_law_ground_here", "_law_who", "_law_moves", "_law_start", "_law_allowed", "_law_found", "_law_todo", "_law_place_here"] ["_law_ground_here", "_law_who", "_law_moves", "_law_start", "_law_allowed"] (ah gE) := ⟨rfl, rfl, rfl, by decide +kernel, rfl, by decide +kernel, by decide +kernel⟩
theorem nC (W : ie K "_law_reached" "_law_reached" gE f fd) {f23 : Addr} {d23 : FuncData} {a4 : il} (C23 : iq P w K mg base k "_law_ways" ["_law_ground_here", "_law_who", "_law_moves", "_law_place_here"] a4 f23 d23) :
    aX P w K mg base (cG P w mg) (k + 1) f fd ["_law_ground_here", "_law_who", "_law_moves", "_law_start", "_law_allowed"] (dh (dD 8 (gB a4)) 5) := by
  refine Z.fn_dataT W nD (G := ["_law_ways"]) (by decide +kernel) fun cdv A outer s H E hr T => ?_
  exact (Z.am (Z.jR T 5 rfl (Z.fG Z.ay))
      (Z.am (Z.br T 6 rfl (Z.aP C23 hr T 0 rfl (Z.af (Z.aa T 0 rfl) (Z.af (Z.aa T 1 rfl) (Z.af (Z.aa T 2 rfl) (Z.af (Z.aa T 3 rfl) Z.ay)))) rfl (ad (ad (ad (ad ar))))))
      (Z.am (Z.cE (have T := T.nox; Z.i4 1000000 PassesOwn.never (Z.gv T.hu (Z.ag.b (Z.aa T 6 rfl)) (Z.fF.b (Z.fG Z.ay))) (Z.am (Z.br T 7 rfl (Z.a5 T.hu (Z.ag.b (Z.aa T 6 rfl)) (Z.ag.b Z.ap) (fun _ _ => rfl)))
      (Z.am (Z.br T 6 rfl (Z.lW (Z.ag.b (Z.aa T 6 rfl)) (Z.oR Z.ap) Z.oM))
      (Z.aA (Z.dr (Z.jB.t (Z.hZ (Z.jC T.hu (Z.ag.b (Z.aa T 7 rfl)) (Z.ag.b (Z.aa T 4 rfl)) (by with_unfolding_all rfl)) (Z.fP (Z.eB T.hu (Z.ag.b (Z.aa T 7 rfl)) (Z.eh T 5 rfl) (by with_unfolding_all rfl))))) (Z.am (Z.jh T 5 rfl (Z.aa T 7 rfl))
      (Z.aA (Z.br T 6 rfl (Z.dt (Z.ag.b (Z.aa T 6 rfl)) (Z.ag.b (Z.aP C23 hr T 0 rfl (Z.af (Z.aa T 0 rfl) (Z.af (Z.aa T 1 rfl) (Z.af (Z.aa T 2 rfl) (Z.af (Z.aa T 7 rfl) Z.ay)))) rfl (ad (ad (ad (ad ar)))))))))) Z.cs))))))
      (Z.aA (Z.oI T 5 rfl)))))
theorem jm : aT ["_law_ground_here", "_law_who", "_law_moves", "_law_places", "_law_place_here", "_law_low", "_law_back"] ["_law_ground_here", "_law_who", "_law_moves", "_law_places"] (ah cD) := ⟨rfl, rfl, rfl, by decide +kernel, rfl, by decide +kernel, by decide +kernel⟩
theorem jn (W : ie K "_law_wins_by_marks" "_law_wins_by_marks" cD f fd) {f25 : Addr} {d25 : FuncData} {ce : il} (C25 : iq P w K mg base k "_law_inside" ["_law_ground_here", "_law_who", "_law_moves", "_law_places"] ce f25 d25) {f24 : Addr} {d24 : FuncData} {bH : il} (C24 : iq P w K mg base k "_law_reached" ["_law_ground_here", "_law_who", "_law_moves", "_law_start", "_law_allowed"] bH f24 d24) :
    aX P w K mg base (cG P w mg) (k + 1) f fd ["_law_ground_here", "_law_who", "_law_moves", "_law_places"] (dh (dD 7 (du ce bH)) 4) := by
  refine Z.fn_dataT W jm (G := ["_law_inside", "_law_reached"]) (by decide +kernel) fun cdv A outer s H E hr T => ?_
  exact (Z.am (Z.dr (Z.dW (Z.cW (Z.aP C25 hr T 0 rfl (Z.af (Z.aa T 0 rfl) (Z.af (Z.aa T 1 rfl) (Z.af (Z.aa T 2 rfl) (Z.af (Z.aa T 3 rfl) Z.ay)))) rfl (ad (ad (ad (ad ar))))))) (Z.aA (Z.aQ Z.bW)) Z.cs)
      (Z.am (Z.cE (have T := T.nox; Z.eF PassesOwn.never T.calm (Z.bX (Z.aa T 3 rfl)) (Z.ba T 4 rfl) (Z.am (Z.eR.fz (Z.dX 5 rfl (N := ["_law_other", "_law_ground_here", "_law_place_here"]) (own := 1) (G := []) (fr := [0, 4]) T rfl rfl (oN := ["_law_ground_here", "_law_who", "_law_moves", "_law_places", "_law_place_here", "_law_low", "_law_back"]) (on := (ah cD).names) (by decide +kernel) (Z.bX (Z.aa T 3 rfl)) (bu (by decide)) (fun cl C s' H' fp T => ⟨(Z.ba T 0 rfl), (Z.dM (Z.sA (Z.ag.b (Z.a5 T.hu (Z.ag.b (Z.a5 T.hu (Z.ag.b (Z.aa T 1 rfl)) (Z.ag.b (Z.aa T 0 rfl)) (fun _ _ => rfl))) (Z.ag.b Z.ap) (fun _ _ => rfl))) (Z.ag.b (Z.a5 T.hu (Z.ag.b (Z.a5 T.hu (Z.ag.b (Z.aa T 1 rfl)) (Z.ag.b (Z.aa T 2 rfl)) (fun _ _ => rfl))) (Z.ag.b Z.ap) (fun _ _ => rfl))))), (Z.aa T 0 rfl)⟩)) (show 5 < 7 by decide))
      (Z.am (Z.br T 6 rfl (Z.aP C24 hr T 1 rfl (Z.af (Z.aa T 0 rfl) (Z.af (Z.aa T 1 rfl) (Z.af (Z.aa T 2 rfl) (Z.af (Z.aa T 4 rfl) (Z.af (Z.aa T 5 rfl) Z.ay))))) rfl (ad (ad (ad (ad (ad ar)))))))
      (Z.aA (Z.dr (Z.jB.t (Z.hZ (Z.gv T.hu (Z.ag.b (Z.cT (Z.ag.b (Z.a5 T.hu (Z.ag.b (Z.a5 T.hu (Z.ag.b (Z.aa T 0 rfl)) (Z.ag.b (Z.aa T 4 rfl)) (fun _ _ => rfl))) (Z.ag.b Z.ap) (fun _ _ => rfl))) (Z.ag.b Z.ap))) (Z.ag.b (Z.aa T 1 rfl))) (Z.fP (Z.jC T.hu (Z.ag.b (Z.aa T 4 rfl)) (Z.ag.b (Z.aa T 6 rfl)) (by with_unfolding_all rfl))))) (Z.aA (Z.aQ Z.bW)) Z.cs))))))
      (Z.aA (Z.aQ Z.bW))))
theorem oK : aT ["ground"] ["ground"] (ah gQ) := ⟨rfl, rfl, rfl, by decide +kernel, rfl, by decide +kernel, by decide +kernel⟩
theorem oH (W : ie K "all_places" "all_places" gQ f fd) (b_len : mg "len" = none) (b_range : mg "range" = none) (b_tuple : mg "tuple" = none) :
    aX P w K mg base (cG P w mg) (k + 1) f fd ["ground"] (dh (dD 1 (ib)) 1) := by
  refine Z.fn_dataT W oK (G := ["tuple", "range", "len"]) (by decide +kernel) fun cdv A outer s H E hr T => ?_
  exact (Z.aA (Z.aQ (Z.oP T 0 rfl b_tuple 1 rfl b_range (Z.af (Z.cV T 2 rfl b_len (Z.ag.b (Z.aa T 0 rfl))) Z.ay))))
theorem sj : aT ["moves", "places"] ["moves", "places"] (ah gY) := ⟨rfl, rfl, rfl, by decide +kernel, rfl, by decide +kernel, by decide +kernel⟩
theorem sk (W : ie K "moves_at" "moves_at" gY f fd) (b_enumerate : mg "enumerate" = none) (b_tuple : mg "tuple" = none) :
    aX P w K mg base (cG P w mg) (k + 1) f fd ["moves", "places"] (dh (dD 2 (jV)) 2) := by
  refine Z.fn_dataT W sj (G := ["tuple", "enumerate"]) (by decide +kernel) fun cdv A outer s H E hr T => ?_
  exact (Z.aA (Z.aQ (Z.cx T 0 rfl b_tuple (Z.fF.b (Z.bO (N := ["number", "move", "places"]) (own := 2) (G := []) (fr := [1]) T rfl rfl (oN := ["moves", "places"]) (on := (ah gY).names) (by decide +kernel) (Z.j6 T 1 rfl b_enumerate (Z.aa T 0 rfl)) (i8 (by decide) (by decide)) (fun cl C s' H' fp T => ⟨(Z.hW T 0 1 rfl rfl), Z.gc, (Z.iN (Z.jC T.hu (Z.ag.b (Z.aa T 0 rfl)) (Z.ag.b (Z.aa T 2 rfl)) (by with_unfolding_all rfl)) (Z.aa T 1 rfl) Z.cJ)⟩))))))
theorem lx : aT ["moves", "others"] ["moves", "others"] (ah dG) := ⟨rfl, rfl, rfl, by decide +kernel, rfl, by decide +kernel, by decide +kernel⟩
theorem lr (W : ie K "moves_of_both" "moves_of_both" dG f fd) (b_tuple : mg "tuple" = none) (b_zip : mg "zip" = none) :
    aX P w K mg base (cG P w mg) (k + 1) f fd ["moves", "others"] (dh (dD 2 (fg)) 2) := by
  refine Z.fn_dataT W lx (G := ["tuple", "zip"]) (by decide +kernel) fun cdv A outer s H E hr T => ?_
  exact (Z.aA (Z.aQ (Z.cx T 0 rfl b_tuple (Z.fF.b (Z.bO (N := ["move", "other"]) (own := 2) (G := []) (fr := []) T rfl rfl (oN := ["moves", "others"]) (on := (ah dG).names) (by decide +kernel) (Z.oX T 1 rfl b_zip (Z.aa T 0 rfl) (Z.aa T 1 rfl)) (i8 (by decide) (by decide)) (fun cl C s' H' fp T => ⟨(Z.hW T 0 1 rfl rfl), Z.gc, (Z.iN (Z.lG (Z.ag.b (Z.aa T 0 rfl)) (Z.ag.b Z.cJ)) (Z.aa T 1 rfl) (Z.aa T 0 rfl))⟩))))))
theorem wQ : aT ["ranks"] ["ranks"] (ah jY) := ⟨rfl, rfl, rfl, by decide +kernel, rfl, by decide +kernel, by decide +kernel⟩
theorem vt (W : ie K "ranked" "ranked" jY f fd) (b_enumerate : mg "enumerate" = none) (b_tuple : mg "tuple" = none) :
    aX P w K mg base (cG P w mg) (k + 1) f fd ["ranks"] (dh (dD 1 (mI)) 1) := by
  refine Z.fn_dataT W wQ (G := ["tuple", "enumerate"]) (by decide +kernel) fun cdv A outer s H E hr T => ?_
  exact (Z.aA (Z.aQ (Z.cx T 0 rfl b_tuple (Z.fF.b (Z.bO (N := ["number", "rank"]) (own := 2) (G := []) (fr := []) T rfl rfl (oN := ["ranks"]) (on := (ah jY).names) (by decide +kernel) (Z.j6 T 1 rfl b_enumerate (Z.aa T 0 rfl)) (i8 (by decide) (by decide)) (fun cl C s' H' fp T => ⟨(Z.hW T 0 1 rfl rfl), (Z.dM (Z.fU (Z.ag.b (Z.aa T 1 rfl)) (Z.ag.b Z.cJ))), (Z.aa T 0 rfl)⟩))))))
theorem lC : aT ["ground", "who", "ranks", "moves", "number"] ["ground", "who", "ranks"] (ah cM) := ⟨rfl, rfl, rfl, by decide +kernel, rfl, by decide +kernel, by decide +kernel⟩
theorem lv (W : ie K "pulling_moves" "pulling_moves" cM f fd) {f10 : Addr} {d10 : FuncData} {bM : il} (C10 : iq P w K mg base k "ranked" ["ranks"] bM f10 d10) {t_GOALS : Tok} (g_GOALS : mg "GOALS" = some (.int 3 t_GOALS)) {t_WHO : Tok} (g_WHO : mg "WHO" = some (.int 0 t_WHO)) (b_tuple : mg "tuple" = none) :
    aX P w K mg base (cG P w mg) (k + 1) f fd ["ground", "who", "ranks"] (dh (dD 5 (fi bM)) 3) := by
  refine Z.fn_dataT W lC (G := ["ranked", "WHO", "GOALS", "tuple"]) (by decide +kernel) fun cdv A outer s H E hr T => ?_
  exact (Z.am (Z.dX 3 rfl (N := ["rank"]) (own := 1) (G := []) (fr := []) T rfl rfl (oN := ["ground", "who", "ranks", "moves", "number"]) (on := (ah cM).names) (by decide +kernel) (Z.bX (Z.aa T 2 rfl)) (bu (by decide)) (fun cl C s' H' fp T => ⟨(Z.ba T 0 rfl), Z.gc, Z.cJ⟩))
      (Z.am (Z.cE (have T := T.nox; Z.eF PassesOwn.never T.calm (Z.bX (Z.aP C10 hr T 0 rfl (Z.af (Z.aa T 2 rfl) Z.ay) rfl (ad ar))) (Z.ba T 4 rfl) (Z.aA (Z.dr (Z.jB.t (Z.hZ (Z.eK T.hu (Z.ag.b (Z.a5 T.hu (Z.ag.b (Z.a5 T.hu (Z.ag.b (Z.aa T 0 rfl)) (Z.ag.b (Z.aa T 4 rfl)) (fun _ _ => rfl))) (Z.ag.b (Z.eQ T 1 rfl g_WHO)) (fun _ _ => rfl))) (Z.ag.b (Z.aa T 1 rfl))) (Z.fP (Z.lY (Z.ag.b (Z.a5 T.hu (Z.ag.b (Z.aa T 2 rfl)) (Z.ag.b (Z.aa T 4 rfl)) (fun _ _ => rfl))) (Z.ag.b Z.ap))))) (Z.aA (Z.jd T 3 rfl (have T := T.nox; (Z.aa T 4 rfl)) (Z.a5 T.hu (Z.fF.b (Z.bO (N := ["goal", "ranks", "number"]) (own := 1) (G := []) (fr := [2, 4]) T rfl rfl (oN := ["ground", "who", "ranks", "moves", "number"]) (on := (ah cM).names) (by decide +kernel) (Z.bX (Z.a5 T.hu (Z.ag.b (Z.a5 T.hu (Z.ag.b (Z.aa T 0 rfl)) (Z.ag.b (Z.aa T 4 rfl)) (fun _ _ => rfl))) (Z.ag.b (Z.eQ T 2 rfl g_GOALS)) (fun _ _ => rfl))) (bu (by decide)) (fun cl C s' H' fp T => ⟨(Z.ba T 0 rfl), (Z.dM (Z.eK T.hu (Z.ag.b (Z.a5 T.hu (Z.ag.b (Z.aa T 1 rfl)) (Z.ag.b (Z.aa T 0 rfl)) (fun _ _ => rfl))) (Z.ag.b (Z.kT (Z.ag.b (Z.a5 T.hu (Z.ag.b (Z.aa T 1 rfl)) (Z.ag.b (Z.aa T 2 rfl)) (fun _ _ => rfl))) (Z.ag.b Z.ap))))), (Z.aa T 0 rfl)⟩))) (Z.ag.b Z.ap) (fun _ _ => rfl)))) Z.cs))))
      (Z.aA (Z.aQ (Z.cx T 3 rfl b_tuple (Z.eh T 3 rfl))))))
theorem wS : aT ["some", "others"] ["some", "others"] (ah jZ) := ⟨rfl, rfl, rfl, by decide +kernel, rfl, by decide +kernel, by decide +kernel⟩
theorem wl (W : ie K "common" "common" jZ f fd) (b_tuple : mg "tuple" = none) :
    aX P w K mg base (cG P w mg) (k + 1) f fd ["some", "others"] (dh (dD 2 (ma)) 2) := by
  refine Z.fn_dataT W wS (G := ["tuple"]) (by decide +kernel) fun cdv A outer s H E hr T => ?_
  exact (Z.aA (Z.aQ (Z.cx T 0 rfl b_tuple (Z.fF.b (Z.bO (N := ["number", "others"]) (own := 1) (G := []) (fr := [1]) T rfl rfl (oN := ["some", "others"]) (on := (ah jZ).names) (by decide +kernel) (Z.bX (Z.aa T 0 rfl)) (bu (by decide)) (fun cl C s' H' fp T => ⟨(Z.ba T 0 rfl), (Z.dM (Z.jC T.hu (Z.ag.b (Z.aa T 0 rfl)) (Z.ag.b (Z.aa T 1 rfl)) (by with_unfolding_all rfl))), (Z.aa T 0 rfl)⟩))))))
theorem qb : aT ["place", "ways", "who", "ranks", "known"] ["place", "ways", "who", "ranks"] (ah gj) := ⟨rfl, rfl, rfl, by decide +kernel, rfl, by decide +kernel, by decide +kernel⟩
theorem pS (W : ie K "is_forced" "is_forced" gj f fd) {t_WHO : Tok} (g_WHO : mg "WHO" = some (.int 0 t_WHO)) (b_len : mg "len" = none) :
    aX P w K mg base (cG P w mg) (k + 1) f fd ["place", "ways", "who", "ranks"] (dh (dD 5 (iZ)) 4) := by
  refine Z.fn_dataT W qb (G := ["WHO", "len"]) (by decide +kernel) fun cdv A outer s H E hr T => ?_
  exact (Z.am (Z.eR.fz (Z.dX 4 rfl (N := ["goal", "ranks"]) (own := 1) (G := []) (fr := [3]) T rfl rfl (oN := ["place", "ways", "who", "ranks", "known"]) (on := (ah gj).names) (by decide +kernel) (Z.bX (Z.aa T 1 rfl)) (bu (by decide)) (fun cl C s' H' fp T => ⟨(Z.ba T 0 rfl), (Z.dM (Z.fU (Z.ag.b (Z.a5 T.hu (Z.ag.b (Z.aa T 1 rfl)) (Z.ag.b (Z.aa T 0 rfl)) (fun _ _ => rfl))) (Z.ag.b Z.cJ))), (Z.aa T 0 rfl)⟩)) (show 4 < 5 by decide))
      (Z.am (Z.dr (Z.eK T.hu (Z.ag.b (Z.a5 T.hu (Z.ag.b (Z.aa T 0 rfl)) (Z.ag.b (Z.eQ T 0 rfl g_WHO)) (fun _ _ => rfl))) (Z.ag.b (Z.aa T 2 rfl))) (Z.aA (Z.aQ (Z.vD (Z.ag.b (Z.cV T 1 rfl b_len (Z.ag.b (Z.aa T 4 rfl)))) (Z.ag.b Z.ap)))) Z.cs)
      (Z.aA (Z.aQ (Z.tf T.hu (Z.ag.b (Z.cV T 1 rfl b_len (Z.ag.b (Z.aa T 4 rfl)))) (Z.ag.b (Z.cV T 1 rfl b_len (Z.ag.b (Z.aa T 1 rfl)))))))))
theorem rD : aT ["ground", "inside", "who", "goals", "ways", "ranks", "rank", "found", "unranked", "number"] ["ground", "inside", "who", "goals"] (ah dI) := ⟨rfl, rfl, rfl, by decide +kernel, rfl, by decide +kernel, by decide +kernel⟩
theorem rX (W : ie K "ranks_to" "ranks_to" dI f fd) {f1 : Addr} {d1 : FuncData} {bN : il} (C1 : iq P w K mg base k "common" ["some", "others"] bN f1 d1) {f8 : Addr} {d8 : FuncData} {bB : il} (C8 : iq P w K mg base k "is_forced" ["place", "ways", "who", "ranks"] bB f8 d8) {t_GOALS : Tok} (g_GOALS : mg "GOALS" = some (.int 3 t_GOALS)) (b_len : mg "len" = none) (b_list : mg "list" = none) (b_range : mg "range" = none) (b_tuple : mg "tuple" = none) :
    aX P w K mg base (cG P w mg) (k + 1) f fd ["ground", "inside", "who", "goals"] (dh (dD 10 (jK bN bB)) 4) := by
  refine Z.fn_dataT W rD (G := ["range", "len", "list", "tuple"]) (by decide +kernel) fun cdv A outer s H E hr T => ?_
  exact (Z.am (Z.br T 4 rfl (Z.fF.e (Z.bO (N := ["place", "inside"]) (own := 1) (G := ["common", "GOALS"]) (fr := [1]) T rfl rfl (oN := ["ground", "inside", "who", "goals", "ways", "ranks", "rank", "found", "unranked", "number"]) (on := (ah dI).names) (by decide +kernel) (Z.bX (Z.aa T 0 rfl)) (bu (by decide)) (fun cl C s' H' fp T => ⟨(Z.ba T 0 rfl), Z.gc, (Z.aP C1 hr T 0 rfl (Z.af (Z.a5 T.hu (Z.ag.b (Z.aa T 0 rfl)) (Z.ag.b (Z.eQ T 1 rfl g_GOALS)) (fun _ _ => rfl)) (Z.af (Z.aa T 1 rfl) Z.ay)) rfl (ad (ad ar)))⟩))))
      (Z.am (Z.jR T 5 rfl (Z.bO (N := ["number", "goals"]) (own := 1) (G := []) (fr := [3]) T rfl rfl (oN := ["ground", "inside", "who", "goals", "ways", "ranks", "rank", "found", "unranked", "number"]) (on := (ah dI).names) (by decide +kernel) (Z.fN T 0 rfl b_range (Z.af (Z.cV T 1 rfl b_len (Z.ag.b (Z.aa T 0 rfl))) Z.ay) (ad ar)) (bu (by decide)) (fun cl C s' H' fp T => ⟨(Z.ba T 0 rfl), Z.gc, (Z.iN (Z.jC T.hu (Z.ag.b (Z.aa T 0 rfl)) (Z.ag.b (Z.aa T 1 rfl)) (by with_unfolding_all rfl)) Z.ap Z.cJ)⟩)))
      (Z.am (Z.br T 6 rfl Z.ap)
      (Z.am (Z.br T 7 rfl (Z.fF.e (Z.iV T 2 rfl b_list (Z.ag.b (Z.aa T 3 rfl)))))
      (Z.am (Z.cE (have T := T.nox; Z.i4 1000000 PassesOwn.never (Z.lY (Z.ag.b (Z.cV T 1 rfl b_len (Z.ag.b (Z.aa T 7 rfl)))) (Z.ag.b Z.ap)) (Z.am (Z.pb T 6 rfl Z.ap)
      (Z.am (Z.eR.fz (Z.dX 8 rfl (N := ["number", "ranks"]) (own := 1) (G := []) (fr := [5]) T rfl rfl (oN := ["ground", "inside", "who", "goals", "ways", "ranks", "rank", "found", "unranked", "number"]) (on := (ah dI).names) (by decide +kernel) (Z.bX (Z.aa T 1 rfl)) (bu (by decide)) (fun cl C s' H' fp T => ⟨(Z.ba T 0 rfl), (Z.dM (Z.lG (Z.ag.b (Z.a5 T.hu (Z.eh T 1 rfl) (Z.ag.b (Z.aa T 0 rfl)) (fun _ _ => rfl))) (Z.ag.b Z.cJ))), (Z.aa T 0 rfl)⟩)) (show 8 < 10 by decide))
      (Z.am (Z.eR.fz (Z.dX 7 rfl (N := ["number", "ground", "ways", "who", "ranks"]) (own := 1) (G := ["is_forced"]) (fr := [0, 4, 2, 5]) T rfl rfl (oN := ["ground", "inside", "who", "goals", "ways", "ranks", "rank", "found", "unranked", "number"]) (on := (ah dI).names) (by decide +kernel) (Z.bX (Z.aa T 8 rfl)) (bu (by decide)) (fun cl C s' H' fp T => ⟨(Z.ba T 0 rfl), (Z.dM (Z.cW (Z.ag.lent 4 (Z.aP C8 hr T 0 rfl (Z.af (Z.a5 T.hu (Z.ag.b (Z.aa T 1 rfl)) (Z.ag.b (Z.aa T 0 rfl)) (fun _ _ => rfl)) (Z.af (Z.a5 T.hu (Z.ag.b (Z.aa T 2 rfl)) (Z.ag.b (Z.aa T 0 rfl)) (fun _ _ => rfl)) (Z.af (Z.aa T 3 rfl) (Z.af (Z.aa T 4 rfl) Z.ay)))) rfl (ad (ad (ad (ad ar)))))))), (Z.aa T 0 rfl)⟩)) (show 7 < 10 by decide))
      (Z.aA (Z.cE (have T := T.nox; Z.eF PassesOwn.never T.calm (Z.bX (Z.aa T 7 rfl)) (Z.ba T 9 rfl) (Z.aA (Z.jd T 5 rfl (have T := T.nox; (Z.aa T 9 rfl)) (Z.aa T 6 rfl)))))))))))
      (Z.aA (Z.aQ (Z.cx T 3 rfl b_tuple (Z.eh T 5 rfl)))))))))
theorem rB : aT ["ground"] ["ground"] (ah hV) := ⟨rfl, rfl, rfl, by decide +kernel, rfl, by decide +kernel, by decide +kernel⟩
theorem rU (W : ie K "no_moves" "no_moves" hV f fd) (b_tuple : mg "tuple" = none) :
    aX P w K mg base (cG P w mg) (k + 1) f fd ["ground"] (dh (dD 1 (jL)) 1) := by
  refine Z.fn_dataT W rB (G := ["tuple"]) (by decide +kernel) fun cdv A outer s H E hr T => ?_
  exact (Z.aA (Z.aQ (Z.cx T 0 rfl b_tuple (Z.fF.b (Z.bO (N := ["place"]) (own := 1) (G := []) (fr := []) T rfl rfl (oN := ["ground"]) (on := (ah hV).names) (by decide +kernel) (Z.bX (Z.aa T 0 rfl)) (bu (by decide)) (fun cl C s' H' fp T => ⟨(Z.ba T 0 rfl), Z.gc, Z.cJ⟩))))))
theorem lh : aT ["ground", "who", "part", "moves", "number"] ["ground", "who", "part"] (ah fj) := ⟨rfl, rfl, rfl, by decide +kernel, rfl, by decide +kernel, by decide +kernel⟩
theorem ly (W : ie K "staying_moves" "staying_moves" fj f fd) {f1 : Addr} {d1 : FuncData} {bN : il} (C1 : iq P w K mg base k "common" ["some", "others"] bN f1 d1) {f3 : Addr} {d3 : FuncData} {bA : il} (C3 : iq P w K mg base k "no_moves" ["ground"] bA f3 d3) {t_GOALS : Tok} (g_GOALS : mg "GOALS" = some (.int 3 t_GOALS)) {t_WHO : Tok} (g_WHO : mg "WHO" = some (.int 0 t_WHO)) (b_list : mg "list" = none) (b_tuple : mg "tuple" = none) :
    aX P w K mg base (cG P w mg) (k + 1) f fd ["ground", "who", "part"] (dh (dD 5 (fq bN bA)) 3) := by
  refine Z.fn_dataT W lh (G := ["list", "no_moves", "WHO", "common", "GOALS", "tuple"]) (by decide +kernel) fun cdv A outer s H E hr T => ?_
  exact (Z.am (Z.jR T 3 rfl (Z.iV T 0 rfl b_list (Z.ag.b (Z.aP C3 hr T 1 rfl (Z.af (Z.aa T 0 rfl) Z.ay) rfl (ad ar)))))
      (Z.am (Z.cE (have T := T.nox; Z.eF PassesOwn.never T.calm (Z.bX (Z.aa T 2 rfl)) (Z.ba T 4 rfl) (Z.aA (Z.dr (Z.eK T.hu (Z.ag.b (Z.a5 T.hu (Z.ag.b (Z.a5 T.hu (Z.ag.b (Z.aa T 0 rfl)) (Z.ag.b (Z.aa T 4 rfl)) (fun _ _ => rfl))) (Z.ag.b (Z.eQ T 2 rfl g_WHO)) (fun _ _ => rfl))) (Z.ag.b (Z.aa T 1 rfl))) (Z.aA (Z.jd T 3 rfl (have T := T.nox; (Z.aa T 4 rfl)) (Z.a5 T.hu (Z.ag.b (Z.aP C1 hr T 3 rfl (Z.af (Z.a5 T.hu (Z.ag.b (Z.a5 T.hu (Z.ag.b (Z.aa T 0 rfl)) (Z.ag.b (Z.aa T 4 rfl)) (fun _ _ => rfl))) (Z.ag.b (Z.eQ T 4 rfl g_GOALS)) (fun _ _ => rfl)) (Z.af (Z.aa T 2 rfl) Z.ay)) rfl (ad (ad ar)))) (Z.ag.b Z.ap) (fun _ _ => rfl)))) Z.cs))))
      (Z.aA (Z.aQ (Z.cx T 5 rfl b_tuple (Z.eh T 3 rfl))))))
theorem uo : aT ["some", "others"] ["some", "others"] (ah i6) := ⟨rfl, rfl, rfl, by decide +kernel, rfl, by decide +kernel, by decide +kernel⟩
theorem ux (W : ie K "without" "without" i6 f fd) (b_tuple : mg "tuple" = none) :
    aX P w K mg base (cG P w mg) (k + 1) f fd ["some", "others"] (dh (dD 2 (kQ)) 2) := by
  refine Z.fn_dataT W uo (G := ["tuple"]) (by decide +kernel) fun cdv A outer s H E hr T => ?_
  exact (Z.aA (Z.aQ (Z.cx T 0 rfl b_tuple (Z.fF.b (Z.bO (N := ["number", "others"]) (own := 1) (G := []) (fr := [1]) T rfl rfl (oN := ["some", "others"]) (on := (ah i6).names) (by decide +kernel) (Z.bX (Z.aa T 0 rfl)) (bu (by decide)) (fun cl C s' H' fp T => ⟨(Z.ba T 0 rfl), (Z.dM (Z.eB T.hu (Z.ag.b (Z.aa T 0 rfl)) (Z.ag.b (Z.aa T 1 rfl)) (by with_unfolding_all rfl))), (Z.aa T 0 rfl)⟩))))))
theorem kJ : aT ["ground", "inside", "highest", "who", "other", "tops", "ranks", "below", "lost", "moves"] ["ground", "inside"] (ah cj) := ⟨rfl, rfl, rfl, by decide +kernel, rfl, by decide +kernel, by decide +kernel⟩
theorem kM (W : ie K "share_by_marks" "share_by_marks" cj f fd) {f5 : Addr} {d5 : FuncData} {cq : il} (C5 : iq P w K mg base k "moves_at" ["moves", "places"] cq f5 d5) {f4 : Addr} {d4 : FuncData} {au : il} (C4 : iq P w K mg base k "moves_of_both" ["moves", "others"] au f4 d4) {f11 : Addr} {d11 : FuncData} {aS : il} (C11 : iq P w K mg base k "pulling_moves" ["ground", "who", "ranks"] aS f11 d11) {f10 : Addr} {d10 : FuncData} {bM : il} (C10 : iq P w K mg base k "ranked" ["ranks"] bM f10 d10) {f9 : Addr} {d9 : FuncData} {bY : il} (C9 : iq P w K mg base k "ranks_to" ["ground", "inside", "who", "goals"] bY f9 d9) {f6 : Addr} {d6 : FuncData} {a6 : il} (C6 : iq P w K mg base k "staying_moves" ["ground", "who", "part"] a6 f6 d6) {f13 : Addr} {d13 : FuncData} {az : il} (C13 : iq P w K mg base k "winners_within" ["ground", "inside"] az f13 d13) {f2 : Addr} {d2 : FuncData} {bw : il} (C2 : iq P w K mg base k "without" ["some", "others"] bw f2 d2) {t_MARK : Tok} (g_MARK : mg "MARK" = some (.int 1 t_MARK)) (b_enumerate : mg "enumerate" = none) (b_len : mg "len" = none) (b_max : mg "max" = none) {c_Share : Addr} (cl_Share : uz K c_Share) (n_Share_moves : da K c_Share "moves") (n_Share_places : da K c_Share "places") (n_Share_who : da K c_Share "who") (m_Share : mg "Share" = some (.ref c_Share)) {fi_Share : Addr} {di_Share : FuncData} (MK_Share : Mk K c_Share fi_Share) (I_Share : aX P w K mg base (cG P w mg) 1 fi_Share di_Share ["self", "who", "places", "moves"] (BE c_Share ["who", "places", "moves"])) (B_Share : ig K di_Share ["self", "who", "places", "moves"] []) (hk : 2 ≤ k) :
    aX P w K mg base (cG P w mg) (k + 1) f fd ["ground", "inside"] (dh (dD 10 (dl cq au aS bM bY a6 az bw c_Share)) 2) := by
  refine Z.fn_dataT W kJ (G := ["max", "ranks_to", "winners_within", "without", "ranked", "enumerate", "len", "moves_of_both", "pulling_moves", "Share", "staying_moves", "moves_at"]) (by decide +kernel) fun cdv A outer s H E hr T => ?_
  exact (Z.am (Z.br T 2 rfl (Z.pH T 0 rfl b_max (Z.fF.b (Z.bO (N := ["number", "ground"]) (own := 1) (G := ["MARK"]) (fr := [0]) T rfl rfl (oN := ["ground", "inside", "highest", "who", "other", "tops", "ranks", "below", "lost", "moves"]) (on := (ah cj).names) (by decide +kernel) (Z.bX (Z.aa T 1 rfl)) (bu (by decide)) (fun cl C s' H' fp T => ⟨(Z.ba T 0 rfl), Z.gc, (Z.a5 T.hu (Z.ag.b (Z.a5 T.hu (Z.ag.b (Z.aa T 1 rfl)) (Z.ag.b (Z.aa T 0 rfl)) (fun _ _ => rfl))) (Z.ag.b (Z.eQ T 0 rfl g_MARK)) (fun _ _ => rfl))⟩)))))
      (Z.am (Z.br T 3 rfl (Z.cT (Z.ag.b (Z.aa T 2 rfl)) (Z.ag.b Z.ap)))
      (Z.am (Z.br T 4 rfl (Z.kT (Z.ag.b Z.ap) (Z.ag.b (Z.aa T 3 rfl))))
      (Z.am (Z.eR.fz (Z.dX 5 rfl (N := ["number", "ground", "highest"]) (own := 1) (G := ["MARK"]) (fr := [0, 2]) T rfl rfl (oN := ["ground", "inside", "highest", "who", "other", "tops", "ranks", "below", "lost", "moves"]) (on := (ah cj).names) (by decide +kernel) (Z.bX (Z.aa T 1 rfl)) (bu (by decide)) (fun cl C s' H' fp T => ⟨(Z.ba T 0 rfl), (Z.dM (Z.eK T.hu (Z.ag.b (Z.a5 T.hu (Z.ag.b (Z.a5 T.hu (Z.ag.b (Z.aa T 1 rfl)) (Z.ag.b (Z.aa T 0 rfl)) (fun _ _ => rfl))) (Z.ag.b (Z.eQ T 0 rfl g_MARK)) (fun _ _ => rfl))) (Z.ag.b (Z.aa T 2 rfl)))), (Z.aa T 0 rfl)⟩)) (show 5 < 10 by decide))
      (Z.am (Z.br T 6 rfl (Z.aP C9 hr T 1 rfl (Z.af (Z.aa T 0 rfl) (Z.af (Z.aa T 1 rfl) (Z.af (Z.aa T 3 rfl) (Z.af (Z.aa T 5 rfl) Z.ay)))) rfl (ad (ad (ad (ad ar))))))
      (Z.am (Z.br T 7 rfl (Z.aP C13 hr T 2 rfl (Z.af (Z.aa T 0 rfl) (Z.af (Z.aP C2 hr T 3 rfl (Z.af (Z.aa T 1 rfl) (Z.af (Z.aP C10 hr T 4 rfl (Z.af (Z.aa T 6 rfl) Z.ay) rfl (ad ar)) Z.ay)) rfl (ad (ad ar))) Z.ay)) rfl (ad (ad ar))))
      (Z.am (Z.eR.fz (Z.dX 8 rfl (N := ["number", "winner", "other"]) (own := 2) (G := []) (fr := [4]) T rfl rfl (oN := ["ground", "inside", "highest", "who", "other", "tops", "ranks", "below", "lost", "moves"]) (on := (ah cj).names) (by decide +kernel) (Z.j6 T 5 rfl b_enumerate (Z.a5 T.hu (Z.ag.b (Z.aa T 7 rfl)) (Z.ag.b Z.ap) (fun _ _ => rfl))) (i8 (by decide) (by decide)) (fun cl C s' H' fp T => ⟨(Z.hW T 0 1 rfl rfl), (Z.dM (Z.eK T.hu (Z.ag.b (Z.aa T 1 rfl)) (Z.ag.b (Z.aa T 2 rfl)))), (Z.aa T 0 rfl)⟩)) (show 8 < 10 by decide))
      (Z.am (Z.dr (Z.eK T.hu (Z.ag.b (Z.cV T 6 rfl b_len (Z.ag.b (Z.aa T 8 rfl)))) (Z.ag.b Z.ap)) (Z.am (Z.br T 9 rfl (Z.aP C4 hr T 7 rfl (Z.af (Z.aP C11 hr T 8 rfl (Z.af (Z.aa T 0 rfl) (Z.af (Z.aa T 3 rfl) (Z.af (Z.aa T 6 rfl) Z.ay))) rfl (ad (ad (ad ar)))) (Z.af (Z.a5 T.hu (Z.ag.b (Z.aa T 7 rfl)) (Z.ag.b Z.ap) (fun _ _ => rfl)) Z.ay)) rfl (ad (ad ar))))
      (Z.aA (Z.aQ (Z.n9 MK_Share I_Share (hr.mono hk) T 9 rfl m_Share B_Share (Z.af (Z.aa T 3 rfl) (Z.af (Z.aa T 1 rfl) (Z.af (Z.aP C4 hr T 7 rfl (Z.af (Z.aa T 9 rfl) (Z.af (Z.aP C6 hr T 10 rfl (Z.af (Z.aa T 0 rfl) (Z.af (Z.aa T 3 rfl) (Z.af (Z.aa T 1 rfl) Z.ay))) rfl (ad (ad (ad ar)))) Z.ay)) rfl (ad (ad ar))) Z.ay))) (ad (ad (ad ar))))))) Z.cs)
      (Z.am (Z.br T 6 rfl (Z.aP C9 hr T 1 rfl (Z.af (Z.aa T 0 rfl) (Z.af (Z.aa T 1 rfl) (Z.af (Z.aa T 4 rfl) (Z.af (Z.aa T 8 rfl) Z.ay)))) rfl (ad (ad (ad (ad ar))))))
      (Z.am (Z.br T 9 rfl (Z.aP C4 hr T 7 rfl (Z.af (Z.aP C11 hr T 8 rfl (Z.af (Z.aa T 0 rfl) (Z.af (Z.aa T 4 rfl) (Z.af (Z.aa T 6 rfl) Z.ay))) rfl (ad (ad (ad ar)))) (Z.af (Z.aP C5 hr T 11 rfl (Z.af (Z.a5 T.hu (Z.ag.b (Z.aa T 7 rfl)) (Z.ag.b Z.ap) (fun _ _ => rfl)) (Z.af (Z.aa T 8 rfl) Z.ay)) rfl (ad (ad ar))) Z.ay)) rfl (ad (ad ar))))
      (Z.aA (Z.aQ (Z.n9 MK_Share I_Share (hr.mono hk) T 9 rfl m_Share B_Share (Z.af (Z.aa T 4 rfl) (Z.af (Z.aP C10 hr T 4 rfl (Z.af (Z.aa T 6 rfl) Z.ay) rfl (ad ar)) (Z.af (Z.aa T 9 rfl) Z.ay))) (ad (ad (ad ar))))))))))))))))
theorem jr : aT ["ground", "shares", "winners", "moves", "share", "number"] ["ground", "shares"] (ah cF) := ⟨rfl, rfl, rfl, by decide +kernel, rfl, by decide +kernel, by decide +kernel⟩
theorem jp (W : ie K "winners_and_moves" "winners_and_moves" cF f fd) {f4 : Addr} {d4 : FuncData} {au : il} (C4 : iq P w K mg base k "moves_of_both" ["moves", "others"] au f4 d4) {f3 : Addr} {d3 : FuncData} {bA : il} (C3 : iq P w K mg base k "no_moves" ["ground"] bA f3 d3) (b_tuple : mg "tuple" = none) {c_Share : Addr} (cl_Share : uz K c_Share) (n_Share_moves : da K c_Share "moves") (n_Share_places : da K c_Share "places") (n_Share_who : da K c_Share "who") :
    aX P w K mg base (cG P w mg) (k + 1) f fd ["ground", "shares"] (dh (dD 6 (dA au bA c_Share)) 2) := by
  refine Z.fn_dataT W jr (G := ["no_moves", "moves_of_both", "tuple"]) (by decide +kernel) fun cdv A outer s H E hr T => ?_
  exact (Z.am (Z.dX 2 rfl (N := ["place"]) (own := 1) (G := []) (fr := []) T rfl rfl (oN := ["ground", "shares", "winners", "moves", "share", "number"]) (on := (ah cF).names) (by decide +kernel) (Z.bX (Z.aa T 0 rfl)) (bu (by decide)) (fun cl C s' H' fp T => ⟨(Z.ba T 0 rfl), Z.gc, Z.cJ⟩))
      (Z.am (Z.br T 3 rfl (Z.aP C3 hr T 0 rfl (Z.af (Z.aa T 0 rfl) Z.ay) rfl (ad ar)))
      (Z.am (Z.cE (have T := T.nox; Z.eF PassesOwn.never T.calm (Z.bX (Z.aa T 1 rfl)) (Z.ba T 4 rfl) (Z.am (Z.cE (have T := T.nox; Z.eF PassesOwn.never T.calm (Z.bX (Z.kA cl_Share n_Share_places (Z.aa T 4 rfl))) (Z.ba T 5 rfl) (Z.aA (Z.jd T 2 rfl (have T := T.nox; (Z.aa T 5 rfl)) (Z.kA cl_Share n_Share_who (Z.aa T 4 rfl))))))
      (Z.aA (Z.br T 3 rfl (Z.aP C4 hr T 1 rfl (Z.af (Z.aa T 3 rfl) (Z.af (Z.kA cl_Share n_Share_moves (Z.aa T 4 rfl)) Z.ay)) rfl (ad (ad ar))))))))
      (Z.aA (Z.aQ (Z.ku (Z.af (Z.cx T 2 rfl b_tuple (Z.eh T 2 rfl)) (Z.af (Z.aa T 3 rfl) Z.ay))))))))
theorem kI : aT ["ground", "inside", "shares", "left", "share"] ["ground", "inside"] (ah eO) := ⟨rfl, rfl, rfl, by decide +kernel, rfl, by decide +kernel, by decide +kernel⟩
theorem kN (W : ie K "winners_within" "winners_within" eO f fd) {f12 : Addr} {d12 : FuncData} {aJ : il} (C12 : iq P w K mg base k "share_by_marks" ["ground", "inside"] aJ f12 d12) {f7 : Addr} {d7 : FuncData} {aO : il} (C7 : iq P w K mg base k "winners_and_moves" ["ground", "shares"] aO f7 d7) {f2 : Addr} {d2 : FuncData} {bw : il} (C2 : iq P w K mg base k "without" ["some", "others"] bw f2 d2) (b_len : mg "len" = none) {c_Share : Addr} (cl_Share : uz K c_Share) (n_Share_places : da K c_Share "places") :
    aX P w K mg base (cG P w mg) (k + 1) f fd ["ground", "inside"] (dh (dD 5 (dk aJ aO bw c_Share)) 2) := by
  refine Z.fn_dataT W kI (G := ["len", "share_by_marks", "without", "winners_and_moves"]) (by decide +kernel) fun cdv A outer s H E hr T => ?_
  exact (Z.am (Z.jR T 2 rfl (Z.fG Z.ay))
      (Z.am (Z.br T 3 rfl (Z.aa T 1 rfl))
      (Z.am (Z.cE (have T := T.nox; Z.i4 1000000 PassesOwn.never (Z.lY (Z.ag.b (Z.cV T 0 rfl b_len (Z.ag.b (Z.aa T 3 rfl)))) (Z.ag.b Z.ap)) (Z.am (Z.br T 4 rfl (Z.aP C12 hr T 1 rfl (Z.af (Z.aa T 0 rfl) (Z.af (Z.aa T 3 rfl) Z.ay)) rfl (ad (ad ar))))
      (Z.am (Z.jh T 2 rfl (Z.aa T 4 rfl))
      (Z.aA (Z.br T 3 rfl (Z.aP C2 hr T 2 rfl (Z.af (Z.aa T 3 rfl) (Z.af (Z.kA cl_Share n_Share_places (Z.aa T 4 rfl)) Z.ay)) rfl (ad (ad ar)))))))))
      (Z.aA (Z.wM 2 (Z.aQ (Z.aP C7 hr T 3 rfl (Z.af (Z.aa T 0 rfl) (Z.af (Z.aa T 2 rfl) Z.ay)) rfl (ad (ad ar)))))))))
theorem BA : aT ["ground"] ["ground"] (ah wk) := ⟨rfl, rfl, rfl, by decide +kernel, rfl, by decide +kernel, by decide +kernel⟩
theorem Bs (W : ie K "won" "won" wk f fd) {f0 : Addr} {d0 : FuncData} {cb : il} (C0 : iq P w K mg base k "all_places" ["ground"] cb f0 d0) {f13 : Addr} {d13 : FuncData} {az : il} (C13 : iq P w K mg base k "winners_within" ["ground", "inside"] az f13 d13) :
    aX P w K mg base (cG P w mg) (k + 1) f fd ["ground"] (dh (dD 1 (wU cb az)) 1) := by
  refine Z.fn_dataT W BA (G := ["winners_within", "all_places"]) (by decide +kernel) fun cdv A outer s H E hr T => ?_
  exact (Z.aA (Z.aQ (Z.aP C13 hr T 0 rfl (Z.af (Z.aa T 0 rfl) (Z.af (Z.aP C0 hr T 1 rfl (Z.af (Z.aa T 0 rfl) Z.ay) rfl (ad ar)) Z.ay)) rfl (ad (ad ar)))))
theorem Bu : aT ["_law_script", "_law_ground_here", "_law_found", "_law_who", "_law_places"] ["_law_script"] (ah ju) := ⟨rfl, rfl, rfl, by decide +kernel, rfl, by decide +kernel, by decide +kernel⟩
theorem AX (W : ie K "law" "law" ju f fd) {f20 : Addr} {d20 : FuncData} {cc : il} (C20 : iq P w K mg base k "_law_ground" ["_law_script", "_law_most"] cc f20 d20) {f27 : Addr} {d27 : FuncData} {bx : il} (C27 : iq P w K mg base k "_law_told_well" ["_law_found", "_law_ground_here"] bx f27 d27) {f26 : Addr} {d26 : FuncData} {aN : il} (C26 : iq P w K mg base k "_law_wins_by_marks" ["_law_ground_here", "_law_who", "_law_moves", "_law_places"] aN f26 d26) {f14 : Addr} {d14 : FuncData} {jx : il} (C14 : iq P w K mg base k "won" ["ground"] jx f14 d14) (b_len : mg "len" = none) (b_range : mg "range" = none) :
    aX P w K mg base (cG P w mg) (k + 1) f fd ["_law_script"] (dh (dD 5 (wb cc bx aN jx)) 1) := by
  refine Z.fn_dataT W Bu (G := ["_law_ground", "won", "_law_told_well", "range", "len", "_law_wins_by_marks"]) (by decide +kernel) fun cdv A outer s H E hr T => ?_
  exact (Z.am (Z.br T 1 rfl (Z.aP C20 hr T 0 rfl (Z.af (Z.aa T 0 rfl) (Z.af Z.ap Z.ay)) rfl (ad (ad ar))))
      (Z.am (Z.br T 2 rfl (Z.aP C14 hr T 1 rfl (Z.af (Z.aa T 1 rfl) Z.ay) rfl (ad ar)))
      (Z.am (Z.dr (Z.jB.t (Z.fY (Z.dW (Z.cW (Z.aP C27 hr T 2 rfl (Z.af (Z.aa T 2 rfl) (Z.af (Z.aa T 1 rfl) Z.ay)) rfl (ad (ad ar))))) (Z.fB (Z.gv T.hu (Z.ag.b (Z.aP C14 hr T 1 rfl (Z.af (Z.aa T 1 rfl) Z.ay) rfl (ad ar))) (Z.ag.b (Z.aa T 2 rfl)))))) (Z.aA (Z.aQ Z.bW)) Z.cs)
      (Z.am (Z.cE (have T := T.nox; Z.eF PassesOwn.never T.calm (Z.bX (Z.ku (Z.af Z.ap (Z.af Z.ap Z.ay)))) (Z.ba T 3 rfl) (Z.am (Z.eR.fz (Z.dX 4 rfl (N := ["_law_place_here", "_law_found", "_law_who"]) (own := 1) (G := []) (fr := [2, 3]) T rfl rfl (oN := ["_law_script", "_law_ground_here", "_law_found", "_law_who", "_law_places"]) (on := (ah ju).names) (by decide +kernel) (Z.fN T 3 rfl b_range (Z.af (Z.cV T 4 rfl b_len (Z.ag.b (Z.aa T 1 rfl))) Z.ay) (ad ar)) (bu (by decide)) (fun cl C s' H' fp T => ⟨(Z.ba T 0 rfl), (Z.dM (Z.eK T.hu (Z.ag.b (Z.a5 T.hu (Z.ag.b (Z.a5 T.hu (Z.ag.b (Z.aa T 1 rfl)) (Z.ag.b Z.ap) (fun _ _ => rfl))) (Z.ag.b (Z.aa T 0 rfl)) (fun _ _ => rfl))) (Z.ag.b (Z.aa T 2 rfl)))), (Z.aa T 0 rfl)⟩)) (show 4 < 5 by decide))
      (Z.aA (Z.dr (Z.dW (Z.cW (Z.aP C26 hr T 5 rfl (Z.af (Z.aa T 1 rfl) (Z.af (Z.aa T 3 rfl) (Z.af (Z.a5 T.hu (Z.ag.b (Z.aa T 2 rfl)) (Z.ag.b Z.ap) (fun _ _ => rfl)) (Z.af (Z.aa T 4 rfl) Z.ay)))) rfl (ad (ad (ad (ad ar))))))) (Z.aA (Z.aQ Z.bW)) Z.cs)))))
      (Z.aA (Z.aQ Z.bW))))))
end
noncomputable def F0 : List PyData → R PyData := fun ds => open Classical in if ∃ ns : List Int, ns.length ≤ 63 ∧ ds = [.list (ns.map .int)] then .ok (.bool true) else .no
theorem sY : vC F0 := fun ns h => if_pos ⟨ns, h, rfl⟩
theorem BK {c_Share : Addr} (vs : List V) (H : Hp) (Q : VK) (E : XK) (h : dh F0 1 vs H Q E) : dh (tG c_Share) 1 vs H Q E := by
  obtain ⟨ds, r, hl, q⟩ := h
  refine ⟨ds, r, hl, ?_⟩
  by_cases hd : ∃ ns : List Int, ns.length ≤ 63 ∧ ds = [.list (ns.map .int)]
  · obtain ⟨ns, h1, rfl⟩ := hd
    rw [sY ns h1] at q
    rw [v9 c_Share ns h1]
    exact q
  · unfold F0 at q
    rw [if_neg hd] at q
    exact q.elim
theorem zV {l : PySem.W.OpenLaw} {w : World} {K : PySem.W.Frag} {h : Heap} {mg : Str → Option Value} {fa : Addr} (X : K.In h) (G : h.Ns mainGlobals mg) (hfa : mg "law" = some (.ref fa))
    {f27 : Addr} {od27 an27 : Option Addr} {sl27 : Array (Option Value)} {oc27 kV27 dc27 pm27 cd27 ct27 : Value}
    {f0 : Addr} {d0 : FuncData} (q0 : cz K "_law_cell_at" gA f0 d0)
    {f1 : Addr} {d1 : FuncData} (q1 : cz K "_law_mixed" iQ f1 d1)
    {f2 : Addr} {d2 : FuncData} (q2 : cz K "_law_drawn" iy f2 d2)
    {f3 : Addr} {d3 : FuncData} (q3 : cz K "_law_goals" iA f3 d3)
    {f4 : Addr} {d4 : FuncData} (q4 : cz K "_law_place" iY f4 d4)
    {f5 : Addr} {d5 : FuncData} (q5 : cz K "_law_ground" fy f5 d5)
    {f6 : Addr} {d6 : FuncData} (q6 : cz K "_law_moves_good" eD f6 d6)
    {f7 : Addr} {d7 : FuncData} (q7 : cz K "_law_told_well" eZ f7 d7)
    {f8 : Addr} {d8 : FuncData} (q8 : cz K "_law_ways" gU f8 d8)
    {f9 : Addr} {d9 : FuncData} (q9 : cz K "_law_inside" fI f9 d9)
    {f10 : Addr} {d10 : FuncData} (q10 : cz K "_law_reached" gE f10 d10)
    {f11 : Addr} {d11 : FuncData} (q11 : cz K "_law_wins_by_marks" cD f11 d11)
    {f12 : Addr} {d12 : FuncData} (q12 : cz K "all_places" gQ f12 d12)
    {f13 : Addr} {d13 : FuncData} (q13 : cz K "moves_at" gY f13 d13)
    {f14 : Addr} {d14 : FuncData} (q14 : cz K "moves_of_both" dG f14 d14)
    {f15 : Addr} {d15 : FuncData} (q15 : cz K "ranked" jY f15 d15)
    {f16 : Addr} {d16 : FuncData} (q16 : cz K "pulling_moves" cM f16 d16)
    {f17 : Addr} {d17 : FuncData} (q17 : cz K "common" jZ f17 d17)
    {f18 : Addr} {d18 : FuncData} (q18 : cz K "is_forced" gj f18 d18)
    {f19 : Addr} {d19 : FuncData} (q19 : cz K "ranks_to" dI f19 d19)
    {f20 : Addr} {d20 : FuncData} (q20 : cz K "no_moves" hV f20 d20)
    {f21 : Addr} {d21 : FuncData} (q21 : cz K "staying_moves" fj f21 d21)
    {f22 : Addr} {d22 : FuncData} (q22 : cz K "without" i6 f22 d22)
    {f23 : Addr} {d23 : FuncData} (q23 : cz K "share_by_marks" cj f23 d23)
    {f24 : Addr} {d24 : FuncData} (q24 : cz K "winners_and_moves" cF f24 d24)
    {f25 : Addr} {d25 : FuncData} (q25 : cz K "winners_within" eO f25 d25)
    {f26 : Addr} {d26 : FuncData} (q26 : cz K "won" wk f26 d26)
    (a27 : PySem.W.nsIn K mainGlobals "law" = some (some (.ref f27))) (l27 : K.lookup f27 = some ⟨oc27, od27, .func (PySem.W.fnOf "law" "law" (fH ju) (dj ju) (ah ju) .none kV27 dc27 pm27 an27 cd27 ct27), sl27⟩) (c27 : PySem.W.codeIn K cd27 "law" = true) (k27 : PySem.W.keepIn K (.ref f27) = true)
    {t0 : Tok} (qg0 : PySem.W.nsIn K mainGlobals "GOALS" = some (some (.int 3 t0)))
    {t1 : Tok} (qg1 : PySem.W.nsIn K mainGlobals "MARK" = some (some (.int 1 t1)))
    {t2 : Tok} (qg2 : PySem.W.nsIn K mainGlobals "WHO" = some (some (.int 0 t2)))
    (qz0 : PySem.W.nsIn K mainGlobals "bool" = some none)
    (qz1 : PySem.W.nsIn K mainGlobals "enumerate" = some none)
    (qz2 : PySem.W.nsIn K mainGlobals "int" = some none)
    (qz3 : PySem.W.nsIn K mainGlobals "isinstance" = some none)
    (qz4 : PySem.W.nsIn K mainGlobals "len" = some none)
    (qz5 : PySem.W.nsIn K mainGlobals "list" = some none)
    (qz6 : PySem.W.nsIn K mainGlobals "max" = some none)
    (qz7 : PySem.W.nsIn K mainGlobals "min" = some none)
    (qz8 : PySem.W.nsIn K mainGlobals "range" = some none)
    (qz9 : PySem.W.nsIn K mainGlobals "sorted" = some none)
    (qz10 : PySem.W.nsIn K mainGlobals "tuple" = some none)
    (qz11 : PySem.W.nsIn K mainGlobals "zip" = some none)
    {c_Share fi_Share : Addr} {od_Share an_Share : Option Addr} {sl_Share : Array (Option Value)} {oc_Share kV_Share dc_Share pm_Share cd_Share ct_Share : Value}
    (qa_Share : PySem.W.nsIn K mainGlobals "Share" = some (some (.ref c_Share)))
    (qi_Share : PySem.W.findIn K (.ref c_Share) "__init__" = some (some (.ref fi_Share))) (qf_Share : PySem.W.isFn K (.ref fi_Share) = true)
    (ql_Share : K.lookup fi_Share = some ⟨oc_Share, od_Share, .func (PySem.W.fnOf "__init__" "Share.__init__" (fH i9) (dj i9) (ah i9) .none kV_Share dc_Share pm_Share an_Share cd_Share ct_Share), sl_Share⟩)
    (qc_Share : PySem.W.codeIn K cd_Share "Share.__init__" = true) (qk_Share : PySem.W.keepIn K (.ref fi_Share) = true)
    (qpg_Share : PySem.W.plainGet K c_Share Str.empty = true) (qhd_Share : PySem.W.hasDictIn K c_Share = true) (qpo_Share : PySem.W.plainOver K c_Share = true) (qsa_Share : PySem.W.findIn K (.ref c_Share) "__setattr__" = some (some (.builtin "object.__setattr__"))) (qmk_Share : PySem.W.makesIn K c_Share = true) (qkc_Share : PySem.W.keepIn K (.ref c_Share) = true)
    (qn_Share_who : PySem.W.findIn K (.ref c_Share) "who" = some none)
    (qn_Share_places : PySem.W.findIn K (.ref c_Share) "places" = some none)
    (qn_Share_moves : PySem.W.findIn K (.ref c_Share) "moves" = some none)
    (nl : lI K = true) :
    lI K = true ∧ ∃ fd : FuncData, (∀ (s : Shared) (v : Value), BindsTo s fd ⟨[v], []⟩ [("_law_script", v)]) ∧ ∀ base : Heap, K.In base → base.Ns mainGlobals mg → aX l.prog w K mg base (cG l.prog w mg) 33 fa fd ["_law_script"] (dh F0 1) := by
  have e := hfa.symm.trans (PySem.W.mg_of X G a27)
  cases e
  have b0 := q0.fn.binds (ps := ["_law_script", "_law_k"]) fun _ _ _ _ _ _ us hl => match us, hl with | [_, _], _ => rfl
  have m0 := PySem.W.mg_of X G q0.ns
  have b1 := q1.fn.binds (ps := ["_law_script", "_law_k"]) fun _ _ _ _ _ _ us hl => match us, hl with | [_, _], _ => rfl
  have m1 := PySem.W.mg_of X G q1.ns
  have b2 := q2.fn.binds (ps := ["_law_number", "_law_k"]) fun _ _ _ _ _ _ us hl => match us, hl with | [_, _], _ => rfl
  have m2 := PySem.W.mg_of X G q2.ns
  have b3 := q3.fn.binds (ps := ["_law_number", "_law_count"]) fun _ _ _ _ _ _ us hl => match us, hl with | [_, _], _ => rfl
  have m3 := PySem.W.mg_of X G q3.ns
  have b4 := q4.fn.binds (ps := ["_law_number", "_law_count", "_law_high"]) fun _ _ _ _ _ _ us hl => match us, hl with | [_, _, _], _ => rfl
  have m4 := PySem.W.mg_of X G q4.ns
  have b5 := q5.fn.binds (ps := ["_law_script", "_law_most"]) fun _ _ _ _ _ _ us hl => match us, hl with | [_, _], _ => rfl
  have m5 := PySem.W.mg_of X G q5.ns
  have b6 := q6.fn.binds (ps := ["_law_moves", "_law_ground_here"]) fun _ _ _ _ _ _ us hl => match us, hl with | [_, _], _ => rfl
  have m6 := PySem.W.mg_of X G q6.ns
  have b7 := q7.fn.binds (ps := ["_law_found", "_law_ground_here"]) fun _ _ _ _ _ _ us hl => match us, hl with | [_, _], _ => rfl
  have m7 := PySem.W.mg_of X G q7.ns
  have b8 := q8.fn.binds (ps := ["_law_ground_here", "_law_who", "_law_moves", "_law_place_here"]) fun _ _ _ _ _ _ us hl => match us, hl with | [_, _, _, _], _ => rfl
  have m8 := PySem.W.mg_of X G q8.ns
  have b9 := q9.fn.binds (ps := ["_law_ground_here", "_law_who", "_law_moves", "_law_places"]) fun _ _ _ _ _ _ us hl => match us, hl with | [_, _, _, _], _ => rfl
  have m9 := PySem.W.mg_of X G q9.ns
  have b10 := q10.fn.binds (ps := ["_law_ground_here", "_law_who", "_law_moves", "_law_start", "_law_allowed"]) fun _ _ _ _ _ _ us hl => match us, hl with | [_, _, _, _, _], _ => rfl
  have m10 := PySem.W.mg_of X G q10.ns
  have b11 := q11.fn.binds (ps := ["_law_ground_here", "_law_who", "_law_moves", "_law_places"]) fun _ _ _ _ _ _ us hl => match us, hl with | [_, _, _, _], _ => rfl
  have m11 := PySem.W.mg_of X G q11.ns
  have b12 := q12.fn.binds (ps := ["ground"]) fun _ _ _ _ _ _ us hl => match us, hl with | [_], _ => rfl
  have m12 := PySem.W.mg_of X G q12.ns
  have b13 := q13.fn.binds (ps := ["moves", "places"]) fun _ _ _ _ _ _ us hl => match us, hl with | [_, _], _ => rfl
  have m13 := PySem.W.mg_of X G q13.ns
  have b14 := q14.fn.binds (ps := ["moves", "others"]) fun _ _ _ _ _ _ us hl => match us, hl with | [_, _], _ => rfl
  have m14 := PySem.W.mg_of X G q14.ns
  have b15 := q15.fn.binds (ps := ["ranks"]) fun _ _ _ _ _ _ us hl => match us, hl with | [_], _ => rfl
  have m15 := PySem.W.mg_of X G q15.ns
  have b16 := q16.fn.binds (ps := ["ground", "who", "ranks"]) fun _ _ _ _ _ _ us hl => match us, hl with | [_, _, _], _ => rfl
  have m16 := PySem.W.mg_of X G q16.ns
  have b17 := q17.fn.binds (ps := ["some", "others"]) fun _ _ _ _ _ _ us hl => match us, hl with | [_, _], _ => rfl
  have m17 := PySem.W.mg_of X G q17.ns
  have b18 := q18.fn.binds (ps := ["place", "ways", "who", "ranks"]) fun _ _ _ _ _ _ us hl => match us, hl with | [_, _, _, _], _ => rfl
  have m18 := PySem.W.mg_of X G q18.ns
  have b19 := q19.fn.binds (ps := ["ground", "inside", "who", "goals"]) fun _ _ _ _ _ _ us hl => match us, hl with | [_, _, _, _], _ => rfl
  have m19 := PySem.W.mg_of X G q19.ns
  have b20 := q20.fn.binds (ps := ["ground"]) fun _ _ _ _ _ _ us hl => match us, hl with | [_], _ => rfl
  have m20 := PySem.W.mg_of X G q20.ns
  have b21 := q21.fn.binds (ps := ["ground", "who", "part"]) fun _ _ _ _ _ _ us hl => match us, hl with | [_, _, _], _ => rfl
  have m21 := PySem.W.mg_of X G q21.ns
  have b22 := q22.fn.binds (ps := ["some", "others"]) fun _ _ _ _ _ _ us hl => match us, hl with | [_, _], _ => rfl
  have m22 := PySem.W.mg_of X G q22.ns
  have b23 := q23.fn.binds (ps := ["ground", "inside"]) fun _ _ _ _ _ _ us hl => match us, hl with | [_, _], _ => rfl
  have m23 := PySem.W.mg_of X G q23.ns
  have b24 := q24.fn.binds (ps := ["ground", "shares"]) fun _ _ _ _ _ _ us hl => match us, hl with | [_, _], _ => rfl
  have m24 := PySem.W.mg_of X G q24.ns
  have b25 := q25.fn.binds (ps := ["ground", "inside"]) fun _ _ _ _ _ _ us hl => match us, hl with | [_, _], _ => rfl
  have m25 := PySem.W.mg_of X G q25.ns
  have b26 := q26.fn.binds (ps := ["ground"]) fun _ _ _ _ _ _ us hl => match us, hl with | [_], _ => rfl
  have m26 := PySem.W.mg_of X G q26.ns
  have F27 := sv (st := ju) l27 c27 k27
  have FF_Share := sv (st := i9) ql_Share qc_Share qk_Share
  have bb_Share := FF_Share.binds (ps := ["self", "who", "places", "moves"]) fun _ _ _ _ _ _ us hl => match us, hl with | [_, _, _, _], _ => rfl
  have mm_Share := PySem.W.mg_of X G qa_Share
  have ccl_Share : uz K c_Share := ⟨qpg_Share, qhd_Share, qpo_Share, qsa_Share⟩
  have h0 := PySem.W.mg_of X G qg0
  have h1 := PySem.W.mg_of X G qg1
  have h2 := PySem.W.mg_of X G qg2
  have y0 := PySem.W.mg_none_of X G qz0
  have y1 := PySem.W.mg_none_of X G qz1
  have y2 := PySem.W.mg_none_of X G qz2
  have y3 := PySem.W.mg_none_of X G qz3
  have y4 := PySem.W.mg_none_of X G qz4
  have y5 := PySem.W.mg_none_of X G qz5
  have y6 := PySem.W.mg_none_of X G qz6
  have y7 := PySem.W.mg_none_of X G qz7
  have y8 := PySem.W.mg_none_of X G qz8
  have y9 := PySem.W.mg_none_of X G qz9
  have y10 := PySem.W.mg_none_of X G qz10
  have y11 := PySem.W.mg_none_of X G qz11
  refine ⟨nl, PySem.W.fnOf "law" "law" (fH ju) (dj ju) (ah ju) .none kV27 dc27 pm27 an27 cd27 ct27, fun s v => .of_eq rfl, fun base _ _ => ?_⟩
  have QI_Share : aX l.prog w K mg base (cG l.prog w mg) 1 fi_Share _ ["self", "who", "places", "moves"] (BE c_Share ["who", "places", "moves"]) := yE FF_Share ccl_Share qn_Share_who qn_Share_places qn_Share_moves
  have Q0 : aX l.prog w K mg base (cG l.prog w mg) 1 f0 _ ["_law_script", "_law_k"] (dh bP 2) := nv (k := 0) (W := q0.fn) (b_len := y4)
  have Q1 : aX l.prog w K mg base (cG l.prog w mg) 2 f1 _ ["_law_script", "_law_k"] (dh bV 2) := qQ (k := 1) (W := q1.fn) (C15 := ⟨Q0.mono (by decide), m0, q0.fn.kp, b0⟩)
  have Q2 : aX l.prog w K mg base (cG l.prog w mg) 1 f2 _ ["_law_number", "_law_k"] (dh a9 2) := qD (k := 0) (W := q2.fn)
  have Q3 : aX l.prog w K mg base (cG l.prog w mg) 2 f3 _ ["_law_number", "_law_count"] (dh cw 2) := pO (k := 1) (W := q3.fn) (C17 := ⟨Q2.mono (by decide), m2, q2.fn.kp, b2⟩) (b_int := y2) (b_range := y8) (b_sorted := y9) (b_tuple := y10)
  have Q4 : aX l.prog w K mg base (cG l.prog w mg) 3 f4 _ ["_law_number", "_law_count", "_law_high"] (dh cg 3) := pX (k := 2) (W := q4.fn) (C17 := ⟨Q2.mono (by decide), m2, q2.fn.kp, b2⟩) (C18 := ⟨Q3.mono (by decide), m3, q3.fn.kp, b3⟩)
  have Q5 : aX l.prog w K mg base (cG l.prog w mg) 4 f5 _ ["_law_script", "_law_most"] (dh cc 2) := oQ (k := 3) (W := q5.fn) (C16 := ⟨Q1.mono (by decide), m1, q1.fn.kp, b1⟩) (C19 := ⟨Q4.mono (by decide), m4, q4.fn.kp, b4⟩) (b_len := y4) (b_max := y6) (b_min := y7) (b_range := y8) (b_tuple := y10)
  have Q6 : aX l.prog w K mg base (cG l.prog w mg) 1 f6 _ ["_law_moves", "_law_ground_here"] (dh bj 2) := ky (k := 0) (W := q6.fn) (b_bool := y0) (b_int := y2) (b_isinstance := y3) (b_len := y4) (b_tuple := y10) (b_zip := y11)
  have Q7 : aX l.prog w K mg base (cG l.prog w mg) 2 f7 _ ["_law_found", "_law_ground_here"] (dh bx 2) := ln (k := 1) (W := q7.fn) (C22 := ⟨Q6.mono (by decide), m6, q6.fn.kp, b6⟩) (b_bool := y0) (b_int := y2) (b_isinstance := y3) (b_len := y4) (b_tuple := y10) (b_zip := y11)
  have Q8 : aX l.prog w K mg base (cG l.prog w mg) 1 f8 _ ["_law_ground_here", "_law_who", "_law_moves", "_law_place_here"] (dh a4 4) := rF (k := 0) (W := q8.fn) (b_list := y5)
  have Q9 : aX l.prog w K mg base (cG l.prog w mg) 2 f9 _ ["_law_ground_here", "_law_who", "_law_moves", "_law_places"] (dh ce 4) := oF (k := 1) (W := q9.fn) (C23 := ⟨Q8.mono (by decide), m8, q8.fn.kp, b8⟩)
  have Q10 : aX l.prog w K mg base (cG l.prog w mg) 2 f10 _ ["_law_ground_here", "_law_who", "_law_moves", "_law_start", "_law_allowed"] (dh bH 5) := nC (k := 1) (W := q10.fn) (C23 := ⟨Q8.mono (by decide), m8, q8.fn.kp, b8⟩)
  have Q11 : aX l.prog w K mg base (cG l.prog w mg) 3 f11 _ ["_law_ground_here", "_law_who", "_law_moves", "_law_places"] (dh aN 4) := jn (k := 2) (W := q11.fn) (C25 := ⟨Q9.mono (by decide), m9, q9.fn.kp, b9⟩) (C24 := ⟨Q10.mono (by decide), m10, q10.fn.kp, b10⟩)
  have Q12 : aX l.prog w K mg base (cG l.prog w mg) 1 f12 _ ["ground"] (dh cb 1) := oH (k := 0) (W := q12.fn) (b_len := y4) (b_range := y8) (b_tuple := y10)
  have Q13 : aX l.prog w K mg base (cG l.prog w mg) 1 f13 _ ["moves", "places"] (dh cq 2) := sk (k := 0) (W := q13.fn) (b_enumerate := y1) (b_tuple := y10)
  have Q14 : aX l.prog w K mg base (cG l.prog w mg) 1 f14 _ ["moves", "others"] (dh au 2) := lr (k := 0) (W := q14.fn) (b_tuple := y10) (b_zip := y11)
  have Q15 : aX l.prog w K mg base (cG l.prog w mg) 1 f15 _ ["ranks"] (dh bM 1) := vt (k := 0) (W := q15.fn) (b_enumerate := y1) (b_tuple := y10)
  have Q16 : aX l.prog w K mg base (cG l.prog w mg) 2 f16 _ ["ground", "who", "ranks"] (dh aS 3) := lv (k := 1) (W := q16.fn) (C10 := ⟨Q15.mono (by decide), m15, q15.fn.kp, b15⟩) (g_GOALS := h0) (g_WHO := h2) (b_tuple := y10)
  have Q17 : aX l.prog w K mg base (cG l.prog w mg) 1 f17 _ ["some", "others"] (dh bN 2) := wl (k := 0) (W := q17.fn) (b_tuple := y10)
  have Q18 : aX l.prog w K mg base (cG l.prog w mg) 1 f18 _ ["place", "ways", "who", "ranks"] (dh bB 4) := pS (k := 0) (W := q18.fn) (g_WHO := h2) (b_len := y4)
  have Q19 : aX l.prog w K mg base (cG l.prog w mg) 2 f19 _ ["ground", "inside", "who", "goals"] (dh bY 4) := rX (k := 1) (W := q19.fn) (C1 := ⟨Q17.mono (by decide), m17, q17.fn.kp, b17⟩) (C8 := ⟨Q18.mono (by decide), m18, q18.fn.kp, b18⟩) (g_GOALS := h0) (b_len := y4) (b_list := y5) (b_range := y8) (b_tuple := y10)
  have Q20 : aX l.prog w K mg base (cG l.prog w mg) 1 f20 _ ["ground"] (dh bA 1) := rU (k := 0) (W := q20.fn) (b_tuple := y10)
  have Q21 : aX l.prog w K mg base (cG l.prog w mg) 2 f21 _ ["ground", "who", "part"] (dh a6 3) := ly (k := 1) (W := q21.fn) (C1 := ⟨Q17.mono (by decide), m17, q17.fn.kp, b17⟩) (C3 := ⟨Q20.mono (by decide), m20, q20.fn.kp, b20⟩) (g_GOALS := h0) (g_WHO := h2) (b_list := y5) (b_tuple := y10)
  have Q22 : aX l.prog w K mg base (cG l.prog w mg) 1 f22 _ ["some", "others"] (dh bw 2) := ux (k := 0) (W := q22.fn) (b_tuple := y10)
  have Q24 : aX l.prog w K mg base (cG l.prog w mg) 2 f24 _ ["ground", "shares"] (dh (aO c_Share) 2) := jp (k := 1) (W := q24.fn) (C4 := ⟨Q14.mono (by decide), m14, q14.fn.kp, b14⟩) (C3 := ⟨Q20.mono (by decide), m20, q20.fn.kp, b20⟩) (b_tuple := y10) (cl_Share := ccl_Share) (n_Share_moves := qn_Share_moves) (n_Share_places := qn_Share_places) (n_Share_who := qn_Share_who)
  have HH25 : ∀ n, aX l.prog w K mg base (cG l.prog w mg) (2 * n + 3) f25 _ ["ground", "inside"] (dh (az c_Share n) 2) → aX l.prog w K mg base (cG l.prog w mg) (2 * n + 4) f23 _ ["ground", "inside"] (dh (aJ c_Share n) 2) := fun n ih => kM (k := 2 * n + 3) (W := q23.fn) (C13 := ⟨ih, m25, q25.fn.kp, b25⟩) (C5 := ⟨Q13.mono (by omega), m13, q13.fn.kp, b13⟩) (C4 := ⟨Q14.mono (by omega), m14, q14.fn.kp, b14⟩) (C11 := ⟨Q16.mono (by omega), m16, q16.fn.kp, b16⟩) (C10 := ⟨Q15.mono (by omega), m15, q15.fn.kp, b15⟩) (C9 := ⟨Q19.mono (by omega), m19, q19.fn.kp, b19⟩) (C6 := ⟨Q21.mono (by omega), m21, q21.fn.kp, b21⟩) (C2 := ⟨Q22.mono (by omega), m22, q22.fn.kp, b22⟩) (g_MARK := h1) (b_enumerate := y1) (b_len := y4) (b_max := y6) (cl_Share := ccl_Share) (n_Share_moves := qn_Share_moves) (n_Share_places := qn_Share_places) (n_Share_who := qn_Share_who) (m_Share := mm_Share) (MK_Share := ⟨qmk_Share, qi_Share, qf_Share, qkc_Share⟩) (I_Share := QI_Share) (B_Share := bb_Share) (hk := by omega)
  have Q25 : ∀ n, aX l.prog w K mg base (cG l.prog w mg) (2 * n + 3) f25 _ ["ground", "inside"] (dh (az c_Share n) 2) := fun n => by
    induction n with
    | zero => exact uM
    | succ n ih => exact kN (k := 2 * n + 4) (W := q25.fn) (C12 := ⟨HH25 n ih, m23, q23.fn.kp, b23⟩) (C7 := ⟨Q24.mono (by omega), m24, q24.fn.kp, b24⟩) (C2 := ⟨Q22.mono (by omega), m22, q22.fn.kp, b22⟩) (b_len := y4) (cl_Share := ccl_Share) (n_Share_places := qn_Share_places)
  have Q25 := Q25 14
  have Q26 : aX l.prog w K mg base (cG l.prog w mg) 32 f26 _ ["ground"] (dh (jx c_Share) 1) := Bs (k := 31) (W := q26.fn) (C0 := ⟨Q12.mono (by decide), m12, q12.fn.kp, b12⟩) (C13 := ⟨Q25.mono (by decide), m25, q25.fn.kp, b25⟩)
  have Q27 : aX l.prog w K mg base (cG l.prog w mg) 33 fa _ ["_law_script"] (dh (tG c_Share) 1) := AX (k := 32) (W := F27) (C20 := ⟨Q5.mono (by decide), m5, q5.fn.kp, b5⟩) (C27 := ⟨Q7.mono (by decide), m7, q7.fn.kp, b7⟩) (C26 := ⟨Q11.mono (by decide), m11, q11.fn.kp, b11⟩) (C14 := ⟨Q26.mono (by decide), m26, q26.fn.kp, b26⟩) (b_len := y4) (b_range := y8)
  exact Q27.imp BK
end G
open PySem PySem.W PyProof.Rows
set_option maxRecDepth 100000 in
set_option maxHeartbeats 0 in
theorem PySem.Challenge.cw_duelground_k30_whole_won_by_marks_holds : PySem.Challenge.rw_duelground_k30_whole_won_by_marks.Holds := by
  w_on; o_law; k_head; (case hw => w_witness2)
  k_fill
  refine D2.Cf (l := PySem.Challenge.rw_duelground_k30_whole_won_by_marks) (k := 33) (x := "_law_script") (F := G.F0) rfl rfl ⟨rfl, by decide, by decide⟩ (fun w h Y => PySem.W.kIn_of Y) G.sY ?F
  case F =>
    intro w mg fa h KX GG hmg
    refine' G.zV KX GG hmg ?q0 ?q1 ?q2 ?q3 ?q4 ?q5 ?q6 ?q7 ?q8 ?q9 ?q10 ?q11 ?q12 ?q13 ?q14 ?q15 ?q16 ?q17 ?q18 ?q19 ?q20 ?q21 ?q22 ?q23 ?q24 ?q25 ?q26 ?a27 ?l27 ?c27 ?k27 ?qg0 ?qg1 ?qg2 ?qz0 ?qz1 ?qz2 ?qz3 ?qz4 ?qz5 ?qz6 ?qz7 ?qz8 ?qz9 ?qz10 ?qz11 ?qa_Share ?qi_Share ?qf_Share ?ql_Share ?qc_Share ?qk_Share ?qpg_Share ?qhd_Share ?qpo_Share ?qsa_Share ?qmk_Share ?qkc_Share ?qn_Share_who ?qn_Share_places ?qn_Share_moves ?nl
    (case q0 => refine' D2.aZ ?a ?l ?c ?k; (case a => k_is); (case l => k_is); (case c => k_is); (case k => k_is))
    (case q1 => refine' D2.aZ ?a ?l ?c ?k; (case a => k_is); (case l => k_is); (case c => k_is); (case k => k_is))
    (case q2 => refine' D2.aZ ?a ?l ?c ?k; (case a => k_is); (case l => k_is); (case c => k_is); (case k => k_is))
    (case q3 => refine' D2.aZ ?a ?l ?c ?k; (case a => k_is); (case l => k_is); (case c => k_is); (case k => k_is))
    (case q4 => refine' D2.aZ ?a ?l ?c ?k; (case a => k_is); (case l => k_is); (case c => k_is); (case k => k_is))
    (case q5 => refine' D2.aZ ?a ?l ?c ?k; (case a => k_is); (case l => k_is); (case c => k_is); (case k => k_is))
    (case q6 => refine' D2.aZ ?a ?l ?c ?k; (case a => k_is); (case l => k_is); (case c => k_is); (case k => k_is))
    (case q7 => refine' D2.aZ ?a ?l ?c ?k; (case a => k_is); (case l => k_is); (case c => k_is); (case k => k_is))
    (case q8 => refine' D2.aZ ?a ?l ?c ?k; (case a => k_is); (case l => k_is); (case c => k_is); (case k => k_is))
    (case q9 => refine' D2.aZ ?a ?l ?c ?k; (case a => k_is); (case l => k_is); (case c => k_is); (case k => k_is))
    (case q10 => refine' D2.aZ ?a ?l ?c ?k; (case a => k_is); (case l => k_is); (case c => k_is); (case k => k_is))
    (case q11 => refine' D2.aZ ?a ?l ?c ?k; (case a => k_is); (case l => k_is); (case c => k_is); (case k => k_is))
    (case q12 => refine' D2.aZ ?a ?l ?c ?k; (case a => k_is); (case l => k_is); (case c => k_is); (case k => k_is))
    (case q13 => refine' D2.aZ ?a ?l ?c ?k; (case a => k_is); (case l => k_is); (case c => k_is); (case k => k_is))
    (case q14 => refine' D2.aZ ?a ?l ?c ?k; (case a => k_is); (case l => k_is); (case c => k_is); (case k => k_is))
    (case q15 => refine' D2.aZ ?a ?l ?c ?k; (case a => k_is); (case l => k_is); (case c => k_is); (case k => k_is))
    (case q16 => refine' D2.aZ ?a ?l ?c ?k; (case a => k_is); (case l => k_is); (case c => k_is); (case k => k_is))
    (case q17 => refine' D2.aZ ?a ?l ?c ?k; (case a => k_is); (case l => k_is); (case c => k_is); (case k => k_is))
    (case q18 => refine' D2.aZ ?a ?l ?c ?k; (case a => k_is); (case l => k_is); (case c => k_is); (case k => k_is))
    (case q19 => refine' D2.aZ ?a ?l ?c ?k; (case a => k_is); (case l => k_is); (case c => k_is); (case k => k_is))
    (case q20 => refine' D2.aZ ?a ?l ?c ?k; (case a => k_is); (case l => k_is); (case c => k_is); (case k => k_is))
    (case q21 => refine' D2.aZ ?a ?l ?c ?k; (case a => k_is); (case l => k_is); (case c => k_is); (case k => k_is))
    (case q22 => refine' D2.aZ ?a ?l ?c ?k; (case a => k_is); (case l => k_is); (case c => k_is); (case k => k_is))
    (case q23 => refine' D2.aZ ?a ?l ?c ?k; (case a => k_is); (case l => k_is); (case c => k_is); (case k => k_is))
    (case q24 => refine' D2.aZ ?a ?l ?c ?k; (case a => k_is); (case l => k_is); (case c => k_is); (case k => k_is))
    (case q25 => refine' D2.aZ ?a ?l ?c ?k; (case a => k_is); (case l => k_is); (case c => k_is); (case k => k_is))
    (case q26 => refine' D2.aZ ?a ?l ?c ?k; (case a => k_is); (case l => k_is); (case c => k_is); (case k => k_is))
    (case a27 => k_is)
    (case l27 => k_is)
    (case c27 => k_is)
    (case k27 => k_is)
    (case qg0 => k_is)
    (case qg1 => k_is)
    (case qg2 => k_is)
    (case qz0 => k_is)
    (case qz1 => k_is)
    (case qz2 => k_is)
    (case qz3 => k_is)
    (case qz4 => k_is)
    (case qz5 => k_is)
    (case qz6 => k_is)
    (case qz7 => k_is)
    (case qz8 => k_is)
    (case qz9 => k_is)
    (case qz10 => k_is)
    (case qz11 => k_is)
    (case qa_Share => k_is)
    (case qi_Share => k_is)
    (case qf_Share => k_is)
    (case ql_Share => k_is)
    (case qc_Share => k_is)
    (case qk_Share => k_is)
    (case qpg_Share => k_is)
    (case qhd_Share => k_is)
    (case qpo_Share => k_is)
    (case qsa_Share => k_is)
    (case qmk_Share => k_is)
    (case qkc_Share => k_is)
    (case qn_Share_who => k_is)
    (case qn_Share_places => k_is)
    (case qn_Share_moves => k_is)
    (case nl => first | rfl | k_is | decide)

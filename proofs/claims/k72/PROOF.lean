import PyProof.Rows.All
import Wide.All
import OpenK.AllK
import Wide.FinOn
import Lean
import PyProof.EqAt
import PyProof.EqKinds
import PyProof.TupleCall
import PySem.Challenge.RW_duelground_k72_whole_again_by_marks
set_option Elab.async false
set_option linter.all false
set_option maxRecDepth 100000
namespace L2
open PySem PySem.Spec PyProof.Rows
abbrev cV := Sum Int Str
def mn : cV → Value → Bool
  | .inl k, v => Value.isInt k v
  | .inr x, v => Value.isStrOf x v
def Ca (w : World) : cV → Int
  | .inl k => hashInt k
  | .inr x => hashStr w x
theorem cu : ∀ {k : cV} {v : Value}, mn k v = true → (∃ i t, k = Sum.inl i ∧ v = Value.int i t) ∨ (∃ x t, k = Sum.inr x ∧ v = Value.str x t)
  | .inl i, v, h => by
    obtain ⟨t, e⟩ := Value.isInt_shape (k := i) (v := v) h
    exact .inl ⟨i, t, rfl, e⟩
  | .inr x, v, h => by
    obtain ⟨t, e⟩ := Value.isStrOf_shape (x := x) (v := v) h
    exact .inr ⟨x, t, rfl, e⟩
theorem vb (i : Int) (t : Tok) : mn (.inl i) (.int i t) = true := by simp [mn, Value.isInt]
theorem vk (x : Str) (t : Tok) : mn (.inr x) (.str x t) = true := by simp [mn, Value.isStrOf]
theorem AH (a b : Int) : decide ((Sum.inl a : cV) = Sum.inl b) = (a == b) := by
  by_cases e : a = b
  · subst e; simp
  · have h : ¬ (Sum.inl a : cV) = Sum.inl b := fun q => e (Sum.inl.inj q)
    rw [decide_eq_false h]
    exact (beq_eq_false_iff_ne.mpr e).symm
theorem zI (a b : Str) : decide ((Sum.inr a : cV) = Sum.inr b) = decide (a = b) := by
  by_cases e : a = b
  · subst e; simp
  · have h : ¬ (Sum.inr a : cV) = Sum.inr b := fun q => e (Sum.inr.inj q)
    rw [decide_eq_false h, decide_eq_false e]
theorem AF (a : Int) (b : Str) : decide ((Sum.inl a : cV) = Sum.inr b) = false := decide_eq_false (fun q => nomatch q)
theorem Ah (a : Str) (b : Int) : decide ((Sum.inr a : cV) = Sum.inl b) = false := decide_eq_false (fun q => nomatch q)
def c7 (prog : Program) (w : World) : PySem.KeyKind prog w cV where
  is := mn
  hash := Ca w
  inj := fun v a b ha hb => by
    rcases cu ha with ⟨i, t, rfl, rfl⟩ | ⟨x, t, rfl, rfl⟩
    · rcases cu hb with ⟨j, u, rfl, e⟩ | ⟨y, u, rfl, e⟩
      · injection e with e1 _; rw [e1]
      · exact nomatch e
    · rcases cu hb with ⟨j, u, rfl, e⟩ | ⟨y, u, rfl, e⟩
      · exact nomatch e
      · injection e with e1 _; rw [e1]
  byValue := fun k v h => by
    rcases cu h with ⟨i, t, rfl, rfl⟩ | ⟨x, t, rfl, rfl⟩ <;> rfl
  pyHash := fun hv h => by
    rcases cu hv with ⟨i, t, rfl, rfl⟩ | ⟨x, t, rfl, rfl⟩
    · exact wpAny_pyHash_int h
    · exact wpAny_pyHash_str h
  eqBool := fun hu hv h => by
    rcases cu hu with ⟨i, t, rfl, rfl⟩ | ⟨x, t, rfl, rfl⟩
    · rcases cu hv with ⟨j, u, rfl, rfl⟩ | ⟨y, u, rfl, rfl⟩
      · rw [AH] at h; exact wpAny_eqBool_int h
      · rw [AF] at h; exact SeqAt.EqAt.int_str i t y u _ _ _ _ h
    · rcases cu hv with ⟨j, u, rfl, rfl⟩ | ⟨y, u, rfl, rfl⟩
      · rw [Ah] at h; exact SeqAt.EqAt.str_int x t j u _ _ _ _ h
      · rw [zI] at h; exact wpAny_eqBool_str h
  «strs» := fun k x t v h => by
    rcases cu h with ⟨i, u, rfl, e⟩ | ⟨y, u, rfl, e⟩
    · exact nomatch e
    · injection e with e1 _
      subst e1
      cases v <;> rfl
theorem qJ (prog : Program) (w : World) (i : Int) (t : Tok) : (c7 prog w).is (.inl i) (.int i t) = true := vb i t
theorem p8 (prog : Program) (w : World) (x : Str) (t : Tok) : (c7 prog w).is (.inr x) (.str x t) = true := vk x t
inductive V where
  | non | bl (b : Bool) | int (i : Int) | str (x : Str) | byt (b : Array UInt8) | flt (b : UInt64) | ref (a : Addr) | ty (n : String)
  deriving DecidableEq
def bM : V → Value → Prop
  | .non, u => u = Value.none
  | .bl b, u => u = Value.bool b
  | .int i, u => ∃ t, u = Value.int i t
  | .str x, u => ∃ t, u = Value.str x t
  | .byt b, u => ∃ t, u = Value.bytes b t
  | .flt b, u => ∃ t, u = Value.float b t
  | .ref a, u => u = Value.ref a
  | .ty n, u => u = Value.type n
abbrev bw : List V → List Value → Prop := Paired bM
theorem bw.length {xs : List V} {us : List Value} (r : bw xs us) : xs.length = us.length := Paired.length r
theorem bw.get : ∀ {xs : List V} {us : List Value} {i : Nat} {x : V}, bw xs us → xs[i]? = some x → ∃ u, us[i]? = some u ∧ bM x u
  | _, _, _, _, .nil, e => by simp at e
  | _, _, 0, _, .cons r _, e => by simp at e; subst e; exact ⟨_, rfl, r⟩
  | _, _, i + 1, x, .cons _ t, e => by
    obtain ⟨u, h1, h2⟩ := bw.get (i := i) (x := x) t (by simpa using e)
    exact ⟨u, by simpa using h1, h2⟩
theorem bw.set {x : V} {u : Value} (r : bM x u) : ∀ {xs : List V} {us : List Value} (i : Nat), bw xs us → bw (xs.set i x) (us.set i u)
  | _, _, _, .nil => .nil
  | _, _, 0, .cons _ t => .cons r t
  | _, _, i + 1, .cons q t => .cons q (bw.set r i t)
theorem bw.append : ∀ {xs ys : List V} {us ws : List Value}, bw xs us → bw ys ws → bw (xs ++ ys) (us ++ ws)
  | _, _, _, _, .nil, s => s
  | _, _, _, _, .cons r t, s => .cons r (bw.append t s)
theorem bw.take : ∀ {xs : List V} {us : List Value} (n : Nat), bw xs us → bw (xs.take n) (us.take n)
  | _, _, 0, _ => .nil
  | _, _, _ + 1, .nil => .nil
  | _, _, n + 1, .cons r t => .cons r (bw.take n t)
theorem bw.drop : ∀ {xs : List V} {us : List Value} (n : Nat), bw xs us → bw (xs.drop n) (us.drop n)
  | _, _, 0, r => r
  | _, _, _ + 1, .nil => .nil
  | _, _, n + 1, .cons _ t => bw.drop n t
def k4 : Option V → Option Value → Prop
  | some v, some u => bM v u
  | none, none => True
  | _, _ => False
def KV {κ : Type} : List (κ × V) → List (κ × Value) → Prop := Paired fun (p : κ × V) (q : κ × Value) => p.1 = q.1 ∧ bM p.2 q.2
def kV : cV → V
  | .inl i => .int i
  | .inr x => .str x
inductive HO where
  /-- a list -/
  | lst (xs : List V)
  /-- a tuple (never changes) -/
  | tup (xs : List V)
  /-- a dict whose keys are ints and texts; one whose keys are tuples of ints and texts (the empty one is both) -/
  | dK (kvs : List (cV × V)) | dT (kvs : List (List cV × V))
  /-- a set of ints: its members, its size -/
  | set (S : Int → Bool) (n : Nat)
  /-- an instance of the class at C, its dict at dx, its attributes -/
  | ins (C dx : Addr) (fs : List (Str × V))
  /-- the dict of the instance at x -/
  | own (x : Addr)
  /-- the dict of an exception -/
  | xd (fs : List (Str × V))
  /-- a bound method, f of x -/
  | met (f x : Addr)
  /-- a range object lo, lo + 1, .. below hi -/
  | rng (lo hi : Int)
  /-- a thing that is known to the object (the script; a dict while a loop walks it): read, never written while it is so -/
  | frz (o : Obj) (u : HO)
  /-- a code object's table -/
  | tbl (ps : Array Value)
  /-- any other thing, by what is true of its one object (a def of one's own: SetO a S n := HO.ext fun h => ..) -/
  | ext (φ : Heap → Prop)
abbrev Hp := Addr → Option HO
def cx (H : Hp) (a : Addr) (o : HO) : Hp := fun b => if b = a then some o else H b
theorem bi {H : Hp} {a : Addr} {o : HO} : cx H a o a = some o := by unfold cx; rw [if_pos rfl]
theorem az {H : Hp} {a b : Addr} {o : HO} (h : b ≠ a) : cx H a o b = H b := by unfold cx; rw [if_neg h]
theorem BH {H : Hp} {a b : Addr} {o u : HO} (h : H a = some o) (h' : H b = some u) (d : o ≠ u) : a ≠ b := by
  intro e; subst e; rw [h] at h'; exact d (Option.some.inj h')
theorem bd {H : Hp} {a b : Addr} {o : HO} (h : H a = some o) (h' : H b = none) : a ≠ b := by
  intro e; subst e; rw [h] at h'; cases h'
section
variable (P : Program) (w : World)
def bW (H : Hp) (h : Heap) (a : Addr) : HO → Prop
  | .lst xs => xs.length ≤ sizeLine ∧ ∃ (its : List Value) (n : Nat), bw xs its ∧ h.get? a = some { cls := .type "list", data := .seq its.toArray n }
  | .tup xs => xs.length ≤ sizeLine ∧ ∃ its : List Value, bw xs its ∧ IsTup h a its.toArray
  | .dK kvs => kvs.length ≤ sizeLine ∧ (a == sysModules) = false ∧ ∃ vs, KV kvs vs ∧ h.DictOf (c7 P w) a vs
  | .dT kvs => kvs.length ≤ sizeLine ∧ (a == sysModules) = false ∧ ∃ xs : List (List cV × Addr × Value),
      Paired (fun (p : List cV × V) (q : List cV × Addr × Value) => p.1 = q.1 ∧ H q.2.1 = some (.tup (p.1.map kV)) ∧ bM p.2 q.2.2) kvs xs ∧
      ∃ o es ep, h.get? a = some o ∧ o.ExactDict ∧ o.data = .dict es ep ∧ es.toList = xs.map (entryOfKey (tupleKind (c7 P w))) ∧ (xs.map (·.1)).Nodup
  | .set S n => h.SetOf (intKind P w) a S n
  | .ins C dx fs => H dx = some (.own a) ∧ fs.length ≤ 1000 ∧ dx ≠ a ∧ h.get? a = some (PySem.W.instObj C dx) ∧
      ∃ mA, h.Ns1 dx mA ∧ (∀ f, k4 (fs.lookup f) (mA f)) ∧ PySem.Within mA (fs.map (·.1))
  | .own _ => ∃ o, h.get? a = some o
  | .xd fs => ∃ mA, h.Ns1 a mA ∧ ∀ f, k4 (fs.lookup f) (mA f)
  | .rng lo hi => ∃ t u v, h.get? a = some { cls := .type "range", data := .fields #[.int lo t, .int hi u, .int 1 v] }
  | .frz o u => h.get? a = some o ∧ bW H h a u
  | .tbl ps => h.get? a = some { cls := .none, data := .fields ps }
  | .met f x => h.get? a = some (PySem.W.methodObj (.ref f) (.ref x))
  | .ext φ => φ h ∧ (∃ o, h.get? a = some o) ∧ ∀ h1 h2 : Heap, φ h1 → (∀ o, h1.get? a = some o → h2.get? a = some o) → φ h2
def jg (H : Hp) (h : Heap) : Prop := ∀ a o, H a = some o → bW P w H h a o
end
section
variable {P : Program} {w : World} {H H' : Hp} {h h' : Heap} {a : Addr} {o : HO}
theorem bW.lt (x : bW P w H h a o) : a < h.objs.size := by
  cases o with
  | lst xs => obtain ⟨_, _, _, _, e⟩ := x; exact Heap.lt_size e
  | tup xs => obtain ⟨_, _, _, p⟩ := x; exact p.lt
  | dK kvs => obtain ⟨_, _, _, _, o, _, _, e, _⟩ := x; exact Heap.lt_size e
  | dT kvs => obtain ⟨_, _, _, _, o, _, _, e, _⟩ := x; exact Heap.lt_size e
  | set S n => obtain ⟨o, _, _, _, e, _⟩ := x; exact Heap.lt_size e
  | ins C dx fs => obtain ⟨_, _, _, e, _⟩ := x; exact Heap.lt_size e
  | own y => obtain ⟨_, e⟩ := x; exact Heap.lt_size e
  | xd fs => obtain ⟨_, ⟨_, _, _, e, _⟩, _⟩ := x; exact Heap.lt_size e
  | rng lo hi => obtain ⟨_, _, _, e⟩ := x; exact Heap.lt_size e
  | frz ob u => obtain ⟨e, _⟩ := x; exact Heap.lt_size e
  | tbl ps => exact Heap.lt_size (show h.get? a = some _ from x)
  | met f y => exact Heap.lt_size (show h.get? a = some _ from x)
  | ext φ => obtain ⟨_, ⟨_, e⟩, _⟩ := x; exact Heap.lt_size e
theorem Paired.mapP {α β : Type} {F G : α → β → Prop} : ∀ {l₁ : List α} {l₂ : List β}, Paired F l₁ l₂ → (∀ a b, F a b → G a b) → Paired G l₁ l₂
  | _, _, .nil, _ => .nil
  | _, _, .cons r t, f => .cons (f _ _ r) (Paired.mapP t f)
theorem bW.stay (x : bW P w H h a o) (k : ∀ b u, (b = a ∨ H b = some (.own a)) → h.get? b = some u → h'.get? b = some u)
    (ho : ∀ b, H b = some (.own a) → H' b = some (.own a)) (ht : ∀ b xs, H b = some (.tup xs) → H' b = some (.tup xs)) : bW P w H' h' a o := by
  induction o with
  | lst xs => obtain ⟨z, its, n, r, e⟩ := x; exact ⟨z, its, n, r, k _ _ (.inl rfl) e⟩
  | tup xs => obtain ⟨z, its, r, ob, e, c⟩ := x; exact ⟨z, its, r, ob, k _ _ (.inl rfl) e, c⟩
  | dK kvs => obtain ⟨z, y, vs, r, ob, es, ep, e, c⟩ := x; exact ⟨z, y, vs, r, ob, es, ep, k _ _ (.inl rfl) e, c⟩
  | dT kvs =>
    obtain ⟨z, y, xs, r, ob, es, ep, e, c⟩ := x
    exact ⟨z, y, xs, Paired.mapP r fun p q z => ⟨z.1, ht _ _ z.2.1, z.2.2⟩, ob, es, ep, k _ _ (.inl rfl) e, c⟩
  | set S n => obtain ⟨ob, es, ep, t, e, c⟩ := x; exact ⟨ob, es, ep, t, k _ _ (.inl rfl) e, c⟩
  | ins C dx fs =>
    obtain ⟨d, z, ne, e, mA, ⟨od, es, ep, e2, c⟩, r⟩ := x
    exact ⟨ho _ d, z, ne, k _ _ (.inl rfl) e, mA, ⟨od, es, ep, k _ _ (.inr d) e2, c⟩, r⟩
  | own y => obtain ⟨ob, e⟩ := x; exact ⟨ob, k _ _ (.inl rfl) e⟩
  | xd fs => obtain ⟨mA, ⟨od, es, ep, e, c⟩, r⟩ := x; exact ⟨mA, ⟨od, es, ep, k _ _ (.inl rfl) e, c⟩, r⟩
  | rng lo hi => obtain ⟨t, u, v, e⟩ := x; exact ⟨t, u, v, k _ _ (.inl rfl) e⟩
  | frz ob u ih => obtain ⟨e, q⟩ := x; exact ⟨k _ _ (.inl rfl) e, ih q⟩
  | tbl ps =>
    have e : h.get? a = some { cls := .none, data := .fields ps } := x
    show h'.get? a = some { cls := .none, data := .fields ps }
    exact k a _ (.inl rfl) e
  | met f y =>
    have e : h.get? a = some (PySem.W.methodObj (.ref f) (.ref y)) := x
    show h'.get? a = some (PySem.W.methodObj (.ref f) (.ref y))
    exact k a _ (.inl rfl) e
  | ext φ => obtain ⟨p, ⟨o, e⟩, st⟩ := x; exact ⟨st _ _ p fun o q => k _ _ (.inl rfl) q, ⟨o, k _ _ (.inl rfl) e⟩, st⟩
theorem jg.lt (x : jg P w H h) (e : H a = some o) : a < h.objs.size := (x a o e).lt
theorem jg.fresh (x : jg P w H h) (e : h.objs.size ≤ a) : H a = none := by
  cases q : H a with
  | none => rfl
  | some u => exact absurd (Nat.lt_of_lt_of_le (x.lt q) e) (Nat.lt_irrefl _)
theorem jg.kept (x : jg P w H h) (k : ∀ b u, h.get? b = some u → h'.get? b = some u) : jg P w H h' := fun a o e =>
  (x a o e).stay (fun b u _ q => k b u q) (fun _ q => q) fun _ _ q => q
theorem jg.laid (x : jg P w H h) (k : ∀ b u, h.get? b = some u → h'.get? b = some u) (hp : h.objs.size ≤ a) (new : bW P w (cx H a o) h' a o) : jg P w (cx H a o) h' := fun b u e => by
  have hn := x.fresh hp
  by_cases hb : b = a
  · subst hb; rw [bi] at e; cases e; exact new
  · rw [az hb] at e
    exact (x b u e).stay (fun c v _ q => k c v q) (fun c q => by rw [az (bd q hn)]; exact q) fun c xs q => by rw [az (bd q hn)]; exact q
end
def Rd (H : Hp) (a : Addr) (u : HO) : Prop := H a = some u ∨ ∃ o, H a = some (.frz o u)
theorem Rd.ok {P : Program} {w : World} {H : Hp} {h : Heap} {a : Addr} {u : HO} (r : Rd H a u) (x : jg P w H h) : bW P w H h a u := by
  rcases r with r | ⟨o, r⟩
  · exact x a u r
  · obtain ⟨_, q⟩ := x a _ r
    exact q
def BD : Option HO → Prop
  | some (.lst _) => True
  | some (.dK _) => True
  | some (.dT _) => True
  | some (.set _ _) => True
  | some (.ins _ _ _) => True
  | some (.ext _) => True
  | _ => False
section
variable {P : Program} {w : World} {H : Hp} {h h' : Heap} {x e : Addr} {o' : HO}
theorem jg.write (ok : jg P w H h) (mu : BD (H x)) (he : e = x ∨ H e = some (.own x)) (k : ∀ b u, b ≠ e → h.get? b = some u → h'.get? b = some u) (heo : ∃ u, h'.get? e = some u)
    (new : bW P w (cx H x o') h' x o') : jg P w (cx H x o') h' := fun b u q => by
  have nown : ∀ c y, H c = some (.own y) → c ≠ x := fun c y r z => by subst z; rw [r] at mu; exact mu
  have ntup : ∀ c xs, H c = some (.tup xs) → c ≠ x := fun c xs r z => by subst z; rw [r] at mu; exact mu
  by_cases hb : b = x
  · subst hb; rw [bi] at q; cases q; exact new
  · rw [az hb] at q
    by_cases hbe : b = e
    · have q' : H b = some (.own x) := by
        rcases he with z | z
        · exact absurd (hbe.trans z) hb
        · rw [hbe]; exact z
      rw [q] at q'; cases q'
      obtain ⟨v, hv⟩ := heo
      exact ⟨v, by rw [hbe]; exact hv⟩
    · refine (ok b u q).stay (fun c v hc r => k c v ?_ r) (fun c r => by rw [az (nown c b r)]; exact r) fun c xs r => by rw [az (ntup c xs r)]; exact r
      rcases hc with rfl | hc
      · exact hbe
      · rintro rfl
        rcases he with z | z
        · exact nown c b hc z
        · rw [hc] at z; cases z; exact hb rfl
end
structure Un (fs ex : List Addr) (H H' : Hp) (h h' : Heap) : Prop where
  keep : ∀ b o, h.get? b = some o → H b = none → b ∉ fs → b ∉ ex → h'.get? b = some o
  slot : ∀ b o, h.get? b = some o → H b = none → b ∈ fs → b ∉ ex → ∃ sl, h'.get? b = some { o with slots := sl }
  free : ∀ b o, h.get? b = some o → H b = none → b ∉ ex → H' b = none
  there : ∀ b o, h.get? b = some o → b ∉ ex → ∃ o', h'.get? b = some o'
  tups : ∀ b xs, H b = some (.tup xs) → H' b = some (.tup xs)
  frzs : ∀ b o u, H b = some (.frz o u) → H' b = some (.frz o u)
  tbls : ∀ b ps, H b = some (.tbl ps) → ∃ more, H' b = some (.tbl (ps ++ more))
section
variable {fs fs' ex ex' : List Addr} {H H1 H2 : Hp} {h h1 h2 h' : Heap} {a x e : Addr} {o : HO}
theorem Un.any (u : Un fs ex H H1 h h1) {b : Addr} {ob : Obj} (q : h.get? b = some ob) (n : H b = none) (hx : b ∉ ex) : ∃ sl, h1.get? b = some { ob with slots := sl } := by
  by_cases hb : b ∈ fs
  · exact u.slot b ob q n hb hx
  · exact ⟨ob.slots, u.keep b ob q n hb hx⟩
theorem Un.trans (a : Un fs ex H H1 h h1) (b : Un fs ex H1 H2 h1 h2) : Un fs ex H H2 h h2 where
  keep := fun c ob q n hc hx => b.keep c ob (a.keep c ob q n hc hx) (a.free c ob q n hx) hc hx
  slot := fun c ob q n hc hx => by
    obtain ⟨sl, e1⟩ := a.slot c ob q n hc hx
    obtain ⟨sl', e2⟩ := b.slot c _ e1 (a.free c ob q n hx) hc hx
    exact ⟨sl', e2⟩
  free := fun c ob q n hx => by
    obtain ⟨o', e1⟩ := a.there c ob q hx
    exact b.free c o' e1 (a.free c ob q n hx) hx
  there := fun c ob q hx => by
    obtain ⟨o', e1⟩ := a.there c ob q hx
    exact b.there c o' e1 hx
  tups := fun c xs q => b.tups c xs (a.tups c xs q)
  frzs := fun c ob xs q => b.frzs c ob xs (a.frzs c ob xs q)
  tbls := fun c ps q => by
    obtain ⟨m1, e1⟩ := a.tbls c ps q
    obtain ⟨m2, e2⟩ := b.tbls c _ e1
    exact ⟨m1 ++ m2, by rw [e2, Array.append_assoc]⟩
theorem Un.kept (k : ∀ b u, h.get? b = some u → h'.get? b = some u) : Un fs ex H H h h' :=
  ⟨fun b ob q _ _ _ => k b ob q, fun b ob q _ _ _ => ⟨ob.slots, k b ob q⟩, fun _ _ _ n _ => n, fun b ob q _ => ⟨ob, k b ob q⟩, fun _ _ q => q, fun _ _ _ q => q, fun _ ps q => ⟨#[], by rw [q]; simp⟩⟩
theorem Un.refl : Un fs ex H H h h := Un.kept fun _ _ q => q
theorem Un.laid (k : ∀ b u, h.get? b = some u → h'.get? b = some u) (hp : h.objs.size ≤ a) (hn : H a = none) : Un fs ex H (cx H a o) h h' where
  keep := fun b u q _ _ _ => k b u q
  slot := fun b u q _ _ _ => ⟨u.slots, k b u q⟩
  free := fun b u q n _ => by rw [az (Nat.ne_of_lt (Nat.lt_of_lt_of_le (Heap.lt_size q) hp))]; exact n
  there := fun b u q _ => ⟨u, k b u q⟩
  tups := fun b xs q => by rw [az (bd q hn)]; exact q
  frzs := fun b u xs q => by rw [az (bd q hn)]; exact q
  tbls := fun b ps q => ⟨#[], by rw [az (bd q hn), q]; simp⟩
theorem Un.write (mu : BD (H x)) (he : e = x ∨ H e = some (.own x)) (k : ∀ b u, b ≠ e → h.get? b = some u → h'.get? b = some u) (heo : ∃ u, h'.get? e = some u) : Un fs ex H (cx H x o) h h' := by
  have hx : ∀ b, H b = none → b ≠ x := fun b n z => by subst z; rw [n] at mu; exact mu
  have hb : ∀ b, H b = none → b ≠ e := fun b n z => by
    subst z
    rcases he with r | r
    · exact hx b n r
    · rw [n] at r; cases r
  have hm : ∀ b u, H b = some u → ¬ BD (some u) → b ≠ x := fun b u q nm z => by subst z; rw [q] at mu; exact nm mu
  refine ⟨fun b u q n _ _ => k b u (hb b n) q, fun b u q n _ _ => ⟨u.slots, k b u (hb b n) q⟩, fun b u q n _ => by rw [az (hx b n)]; exact n, fun b u q _ => ?_,
    fun b xs q => by rw [az (hm b _ q fun z => z)]; exact q, fun b u xs q => by rw [az (hm b _ q fun z => z)]; exact q, fun b ps q => ⟨#[], by rw [az (hm b _ q fun z => z), q]; simp⟩⟩
  by_cases hbe : b = e
  · subst hbe; exact heo
  · exact ⟨u, k b u hbe q⟩
end
def B0 (h : Heap) (H : Hp) : List Addr := (List.range h.objs.size).filter fun a => (H a).isSome
def pW (h : Heap) (H : Hp) : Heap := PySem.W.hideAll h (B0 h H)
theorem uR (h : Heap) (H : Hp) : (pW h H).objs.size = h.objs.size := PySem.W.hideAll_size _ _
theorem wu {h : Heap} {H : Hp} {b : Addr} {o : Obj} (e : h.get? b = some o) (n : H b = none) : (pW h H).get? b = some o :=
  PySem.W.hideAll_get _ e fun hm => by
    have q : (H b).isSome = true := (List.mem_filter.mp hm).2
    rw [n] at q; simp at q
theorem yz {h : Heap} {H : Hp} {b : Addr} {o : Obj} (e : (pW h H).get? b = some o) : h.get? b = some o ∧ H b = none := by
  have e' : h.get? b = some o := PySem.W.of_hideAll (B0 h H) e
  refine ⟨e', ?_⟩
  cases q : H b with
  | none => rfl
  | some x =>
    have hm : b ∈ B0 h H := List.mem_filter.mpr ⟨List.mem_range.mpr (Heap.lt_size e'), by simp [q]⟩
    have z : (pW h H).get? b = none := PySem.W.hideAll_none (B0 h H) hm
    rw [z] at e; cases e
def ye (g h : Heap) (L : Addr) : List (Addr × Obj) := (List.range h.objs.size).filterMap fun a => if a = L ∨ (g.get? a).isSome = true then none else (h.get? a).map fun o => (a, o)
def rest (g h : Heap) (L d : Addr) : List (Addr × Obj) := (ye g h L).filter fun p => decide (p.1 ≠ d)
structure Mod (K : PySem.W.Frag) (mg : Str → Option Value) (base : Heap) : Prop where
  kin : K.In base
  glob : base.Ns mainGlobals mg
  blt : ∃ mb, base.Ns builtinsNs mb ∧ ∀ x : Str, x ≠ "__name__" → mb x = bootBuiltins x
  nolimit : base.NoLimit
structure Cx where
  prog : Program
  w : World
  K : PySem.W.Frag
  mg : Str → Option Value
  base : Heap
  A : Around
  N : List Str
  s₀ : Shared
  H₀ : Hp
  env : Env
  outer : List Env
  stack : List Env
  ex : List Addr
  fn : Str → Bool
  calm : Bool
  pn : List (Addr × Obj)
  xe : Value → Shared → Prop
def nJ (l : List Env) : List Addr := l.filterMap (·.frame)
abbrev Cx.fs (X : Cx) : List Addr := nJ X.outer
def Av (sc : Scope) (x : Str) : Prop := sc.names.lookup x = some .local ∨ sc.names.lookup x = some .cell ∨ sc.names.lookup x = some .free
def yT (sc : Scope) (x : Str) : Prop := sc.names.lookup x = some .local ∨ sc.names.lookup x = some .cell
def B9 (env : Env) (h : Heap) (m : Str → Option Value) (x : Str) (u : Value) : Prop :=
  (env.kindOf x = some .local ∧ m x = some u) ∨ ((env.kindOf x = some .cell ∨ env.kindOf x = some .free) ∧ ∃ c, env.cells.lookup x = some c ∧ h.IsCell c (some u))
structure Cx.Ok (X : Cx) : Prop where
  mod : Mod X.K X.mg X.base
  kind : X.env.scope.kind = .function
  glob : X.env.globals = mainGlobals
  blt : X.env.builtins = builtinsNs
  above : X.s₀.heap.objs.size ≤ X.env.locals
  inj : ∀ x y c, X.env.cells.lookup x = some c → X.env.cells.lookup y = some c → x = y
  has : ∀ x, (X.env.kindOf x = some .cell ∨ X.env.kindOf x = some .free) → ∃ c, X.env.cells.lookup x = some c
  cab : ∀ x c, X.fn x = true → X.env.cells.lookup x = some c → X.s₀.heap.objs.size ≤ c
  hd : X.calm = true → X.A.handled = none
  frames : X.A.frames = some X.stack
  stk : X.stack = X.outer ∨ (X.stack = X.env :: X.outer ∧ X.env.frame = some X.env.locals)
  exf : ∀ b ∈ X.ex, b ≠ X.env.locals ∧ ∀ x c, X.env.cells.lookup x = some c → c ≠ b
  bs : ∀ b o, X.base.get? b = some o → X.s₀.heap.get? b = some o ∧ X.H₀ b = none
  bsz : X.base.objs.size ≤ X.s₀.heap.objs.size
  noex : ∀ b o, X.base.get? b = some o → b ∉ X.ex
  exfs : ∀ b ∈ X.ex, b ∉ X.fs
  funs : X.s₀.heap.FunFrames X.base X.outer
  frf : ∀ b ∈ X.fs, X.H₀ b = none
structure aU (X : Cx) (pins : List (Addr × Obj)) (σ : List (Option V)) (H : Hp) (s : Shared) : Prop where
  ok : X.Ok
  os : s.os = X.s₀.os
  bare : AllBare s.gens
  base : Un X.fs X.ex X.H₀ H X.s₀.heap s.heap
  loc : ∃ m, s.heap.Ns X.env.locals m ∧ ∀ (i : Nat) (x : Str) (v : V), X.N[i]? = some x → σ[i]? = some (some v) → Av X.env.scope x → ∃ u, bM v u ∧ B9 X.env s.heap m x u
  cell : ∀ x c, X.env.cells.lookup x = some c → ∃ v, s.heap.IsCell c v
  free : H X.env.locals = none
  freeC : ∀ x c, X.env.cells.lookup x = some c → H c = none
  pin : ∀ p ∈ X.pn ++ pins, s.heap.get? p.1 = some p.2 ∧ H p.1 = none ∧ p.1 ≠ X.env.locals ∧ p.1 ∉ X.fs ∧ ∀ v, p.2.data ≠ .cell v
  hok : jg X.prog X.w H s.heap
  len : σ.length = X.N.length
section
variable {X : Cx} {pins : List (Addr × Obj)} {σ : List (Option V)} {H H' : Hp} {s : Shared} {h' : Heap}
theorem Cx.Ok.nofr (ok : X.Ok) {b : Addr} {o : Obj} (e : X.base.get? b = some o) : b ∉ X.fs := fun hb => by
  have := (ok.funs.mem hb).1
  rw [e] at this; cases this
theorem aU.bs (I : aU X pins σ H s) : ∀ b o, X.base.get? b = some o → s.heap.get? b = some o ∧ H b = none := fun b o e =>
  ⟨I.base.keep b o (I.ok.bs b o e).1 (I.ok.bs b o e).2 (I.ok.nofr e) (I.ok.noex b o e), I.base.free b o (I.ok.bs b o e).1 (I.ok.bs b o e).2 (I.ok.noex b o e)⟩
theorem aU.bk (I : aU X pins σ H s) : ∀ b o, X.base.get? b = some o → s.heap.get? b = some o := fun b o e => (I.bs b o e).1
theorem aU.mod (I : aU X pins σ H s) : Mod X.K X.mg X.base := I.ok.mod
theorem aU.kIn (I : aU X pins σ H s) : X.K.In s.heap := I.ok.mod.kin.keeps I.bk
theorem aU.lt (I : aU X pins σ H s) : X.env.locals < s.heap.objs.size := let ⟨_, hn, _⟩ := I.loc; hn.lt
theorem aU.sz (I : aU X pins σ H s) : X.s₀.heap.objs.size ≤ s.heap.objs.size := Nat.le_trans I.ok.above (Nat.le_of_lt I.lt)
theorem aU.nofs (I : aU X pins σ H s) {a : Addr} (h : s.heap.objs.size ≤ a) : a ∉ X.fs := fun hb => by
  obtain ⟨_, o, ho, _⟩ := I.ok.funs.mem hb
  exact absurd (Nat.lt_of_lt_of_le (Heap.lt_size ho) (Nat.le_trans I.sz h)) (Nat.lt_irrefl _)
theorem aU.cne (I : aU X pins σ H s) : ∀ x c, X.env.cells.lookup x = some c → c ≠ X.env.locals := fun x c e z => by
  obtain ⟨v, o, ho, hd⟩ := I.cell x c e
  obtain ⟨m, ⟨o', es, ep, ho', hd', _⟩, _⟩ := I.loc
  rw [z, ho'] at ho; cases ho; rw [hd'] at hd; cases hd
theorem aU.funs (I : aU X pins σ H s) : s.heap.FunFrames X.base X.outer := by
  have all : ∀ (l : List Env), (∀ b ∈ nJ l, b ∈ X.fs) → X.s₀.heap.FunFrames X.base l → s.heap.FunFrames X.base l := by
    intro l
    induction l with
    | nil => intro _ _; trivial
    | cons env r ih =>
      intro hs hl
      obtain ⟨hk, ⟨L, o, hf, hn, ho, hd⟩, hr⟩ := hl
      have hL : L ∈ X.fs := hs L (by unfold nJ; rw [List.filterMap_cons, hf]; exact List.mem_cons_self)
      obtain ⟨sl, e⟩ := I.base.slot L o ho (I.ok.frf L hL) hL fun z => I.ok.exfs L z hL
      exact ⟨hk, ⟨L, _, hf, hn, e, hd⟩, ih (fun b hb => hs b (by unfold nJ; rw [List.filterMap_cons, hf]; exact List.mem_cons_of_mem _ hb)) hr⟩
  exact all X.outer (fun _ hb => hb) I.ok.funs
theorem aU.stack (I : aU X pins σ H s) : s.heap.FunFrames X.base X.stack := by
  rcases I.ok.stk with e | ⟨e, hf⟩
  · rw [e]; exact I.funs
  · rw [e]
    obtain ⟨m, hn, _⟩ := I.loc
    refine .cons (by rw [I.ok.kind]; decide) hf hn ?_ I.funs
    exact Heap.get?_none_of_le (Nat.le_trans I.ok.bsz I.ok.above)
theorem aU.stkSub (I : aU X pins σ H s) : ∀ b ∈ nJ X.stack, b ∈ X.env.locals :: X.fs := fun b hb => by
  rcases I.ok.stk with e | ⟨e, hf⟩
  · rw [e] at hb; exact List.mem_cons_of_mem _ hb
  · rw [e] at hb
    unfold nJ at hb
    rw [List.filterMap_cons, hf] at hb
    exact hb
theorem aU.stkFree (I : aU X pins σ H s) : ∀ b ∈ nJ X.stack, H b = none := fun b hb => by
  rcases List.mem_cons.mp (I.stkSub b hb) with e | hb
  · rw [e]; exact I.free
  · obtain ⟨_, o, ho, _⟩ := I.ok.funs.mem hb
    exact I.base.free b o ho (I.ok.frf b hb) fun z => I.ok.exfs b z hb
theorem aU.step {g' : Array GenState} {t' : Nat} {d' : Drawn} {ch : List Addr} (I : aU X pins σ H s)
    (hch : ∀ b ∈ ch, (b ∈ X.ex ∨ X.s₀.heap.objs.size ≤ b) ∧ b ≠ X.env.locals ∧ (∀ x c, X.env.cells.lookup x = some c → c ≠ b) ∧ ∀ p ∈ X.pn ++ pins, p.1 ≠ b)
    (keep : ∀ b o, b ≠ X.env.locals → b ∉ X.fs → b ∉ ch → s.heap.get? b = some o → H b = none → h'.get? b = some o)
    (slot : ∀ b o, b ≠ X.env.locals → b ∈ X.fs → b ∉ ch → s.heap.get? b = some o → H b = none → ∃ sl, h'.get? b = some { o with slots := sl }) (free : ∀ b o, b ∉ ch → s.heap.get? b = some o → H b = none → H' b = none)
    (there : ∀ b o, b ∉ ch → s.heap.get? b = some o → ∃ o', h'.get? b = some o')
    (tups : ∀ b xs, H b = some (.tup xs) → H' b = some (.tup xs)) (frzs : ∀ b o u, H b = some (.frz o u) → H' b = some (.frz o u)) (tbls : ∀ b ps, H b = some (.tbl ps) → ∃ more, H' b = some (.tbl (ps ++ more)))
    (ns : ∀ m, s.heap.Ns X.env.locals m → h'.Ns X.env.locals m) (hok : jg X.prog X.w H' h') (hg : AllBare g') :
    aU X pins σ H' { s with heap := h', gens := g', drawn := d', toks := t' } := by
  have neL : ∀ b o, X.s₀.heap.get? b = some o → b ≠ X.env.locals := fun b o e => Nat.ne_of_lt (Nat.lt_of_lt_of_le (Heap.lt_size e) I.ok.above)
  have neC : ∀ b o, X.s₀.heap.get? b = some o → b ∉ X.ex → b ∉ ch := fun b o e hx hb => by
    rcases (hch b hb).1 with z | z
    · exact hx z
    · exact absurd (Nat.lt_of_lt_of_le (Heap.lt_size e) z) (Nat.lt_irrefl _)
  have cellK : ∀ x c, X.env.cells.lookup x = some c → ∀ v, s.heap.IsCell c v → h'.IsCell c v := fun x c e v ⟨o, ho, hd⟩ => by
    have nch : c ∉ ch := fun z => (hch c z).2.2.1 x c e rfl
    by_cases hc : c ∈ X.fs
    · obtain ⟨sl, q⟩ := slot c o (I.cne x c e) hc nch ho (I.freeC x c e)
      exact ⟨_, q, hd⟩
    · exact ⟨o, keep c o (I.cne x c e) hc nch ho (I.freeC x c e), hd⟩
  refine ⟨I.ok, I.os, hg, ⟨fun b o e n hb hx => ?_, fun b o e n hb hx => ?_, fun b o e n hx => ?_, fun b o e hx => ?_, fun b xs e => tups b xs (I.base.tups b xs e), fun b o xs e => frzs b o xs (I.base.frzs b o xs e), fun b ps e => ?_⟩, ?_, fun x c e => ?_, ?_, fun x c e => ?_, fun p hp => ?_, hok, I.len⟩
  · exact keep b o (neL b o e) hb (neC b o e hx) (I.base.keep b o e n hb hx) (I.base.free b o e n hx)
  · obtain ⟨sl, e1⟩ := I.base.slot b o e n hb hx
    obtain ⟨sl', e2⟩ := slot b _ (neL b o e) hb (neC b o e hx) e1 (I.base.free b o e n hx)
    exact ⟨sl', e2⟩
  · obtain ⟨o', e1⟩ := I.base.there b o e hx
    exact free b o' (neC b o e hx) e1 (I.base.free b o e n hx)
  · obtain ⟨o', e1⟩ := I.base.there b o e hx
    exact there b o' (neC b o e hx) e1
  · obtain ⟨m1, e1⟩ := I.base.tbls b ps e
    obtain ⟨m2, e2⟩ := tbls b _ e1
    exact ⟨m1 ++ m2, by rw [e2, Array.append_assoc]⟩
  · obtain ⟨m, hn, hl⟩ := I.loc
    refine ⟨m, ns m hn, fun i x v e1 e2 e3 => ?_⟩
    obtain ⟨u, r, l⟩ := hl i x v e1 e2 e3
    refine ⟨u, r, ?_⟩
    rcases l with l | ⟨k, c, e, z⟩
    · exact .inl l
    · exact .inr ⟨k, c, e, cellK x c e _ z⟩
  · obtain ⟨v, z⟩ := I.cell x c e
    exact ⟨v, cellK x c e v z⟩
  · obtain ⟨m, ⟨o, _, _, ho, _⟩, _⟩ := I.loc
    exact free _ o (fun z => (hch _ z).2.1 rfl) ho I.free
  · obtain ⟨v, o, ho, hd⟩ := I.cell x c e
    exact free c o (fun z => (hch c z).2.2.1 x c e rfl) ho (I.freeC x c e)
  · obtain ⟨e, n, ne, nf, d⟩ := I.pin p hp
    have nch : p.1 ∉ ch := fun z => (hch p.1 z).2.2.2 p hp rfl
    exact ⟨keep p.1 p.2 ne nf nch e n, free p.1 p.2 nch e n, ne, nf, d⟩
theorem aU.un {t' : Nat} (I : aU X pins σ H s) (u : Un X.fs [] H H' s.heap h') (hok : jg X.prog X.w H' h') : aU X pins σ H' { s with heap := h', toks := t' } := by
  obtain ⟨m, ⟨o, es, ep, ho, r⟩, _⟩ := id I.loc
  obtain ⟨sl, hL⟩ := u.any ho I.free (by simp)
  exact I.step (g' := s.gens) (d' := s.drawn) (ch := []) (fun _ z => nomatch z) (fun b o _ hb _ e n => u.keep b o e n hb (by simp)) (fun b o _ hb _ e n => u.slot b o e n hb (by simp)) (fun b o _ e n => u.free b o e n (by simp)) (fun b o _ e => u.there b o e (by simp)) u.tups u.frzs u.tbls (fun m' hm => by
    obtain ⟨o', es', ep', ho', r'⟩ := hm
    rw [ho] at ho'; cases ho'
    exact ⟨_, es', ep', hL, r'⟩) hok I.bare
theorem aU.call {g' : Array GenState} {t' : Nat} {d' : Drawn} {ch : List Addr} (I : aU X pins σ H s) (u : Un (nJ X.stack) ch H H' s.heap h') (hok : jg X.prog X.w H' h') (hg : AllBare g')
    (hch : ∀ b ∈ ch, (b ∈ X.ex ∨ X.s₀.heap.objs.size ≤ b) ∧ b ≠ X.env.locals ∧ (∀ x c, X.env.cells.lookup x = some c → c ≠ b) ∧ ∀ p ∈ X.pn ++ pins, p.1 ≠ b) :
    aU X pins σ H' { s with heap := h', gens := g', drawn := d', toks := t' } := by
  obtain ⟨m, ⟨o, es, ep, ho, r⟩, _⟩ := id I.loc
  obtain ⟨sl, hL⟩ := u.any ho I.free fun z => (hch _ z).2.1 rfl
  exact I.step (ch := ch) hch (fun b o hL hb hc e n => u.keep b o e n (fun z => (List.mem_cons.mp (I.stkSub b z)).elim hL hb) hc) (fun b o _ _ hc e n => u.any e n hc) (fun b o hc e n => u.free b o e n hc) (fun b o hc e => u.there b o e hc) u.tups u.frzs u.tbls (fun m' hm => by
    obtain ⟨o', es', ep', ho', r'⟩ := hm
    rw [ho] at ho'; cases ho'
    exact ⟨_, es', ep', hL, r'⟩) hok hg
theorem aU.turned {t' : Nat} {it : Addr} (I : aU X pins σ H s) (k : ∀ b o, b ≠ it → s.heap.get? b = some o → h'.get? b = some o) (hn : H it = none) (hL : it ≠ X.env.locals)
    (h1 : it ∈ X.ex ∨ X.s₀.heap.objs.size ≤ it) (h2 : ∀ x c, X.env.cells.lookup x = some c → c ≠ it) (h3 : ∀ p ∈ X.pn ++ pins, p.1 ≠ it) : aU X pins σ H { s with heap := h', toks := t' } := by
  have nit : ∀ b u, H b = some u → b ≠ it := fun b u e z => by rw [z, hn] at e; cases e
  refine I.step (g' := s.gens) (d' := s.drawn) (ch := [it]) (fun b hb => ?_) (fun b o _ _ hc e _ => k b o (fun z => hc (by simp [z])) e) (fun b o _ _ hc e _ => ⟨o.slots, k b o (fun z => hc (by simp [z])) e⟩) (fun _ _ _ _ n => n)
    (fun b o hc e => ⟨o, k b o (fun z => hc (by simp [z])) e⟩) (fun _ _ e => e) (fun _ _ _ e => e) (fun b ps e => ⟨#[], by rw [e]; simp⟩) (fun m hm => ?_) (fun b u e => ?_) I.bare
  · have e : b = it := by simpa using hb
    subst e
    exact ⟨h1, hL, h2, h3⟩
  · obtain ⟨o, es, ep, ho, r⟩ := hm
    exact ⟨o, es, ep, k _ o (Ne.symm hL) ho, r⟩
  · refine (I.hok b u e).stay (fun c v hc q => k c v ?_ q) (fun _ q => q) fun _ _ q => q
    rcases hc with z | z
    · rw [z]; exact nit b u e
    · exact nit c _ z
theorem aU.tok (I : aU X pins σ H s) (t : Nat) : aU X pins σ H { s with toks := t } := I.un (h' := s.heap) (t' := t) Un.refl I.hok
theorem aU.kept {t' : Nat} (I : aU X pins σ H s) (k : ∀ b u, s.heap.get? b = some u → h'.get? b = some u) : aU X pins σ H { s with heap := h', toks := t' } := I.un (Un.kept k) (I.hok.kept k)
theorem aU.laid {a : Addr} {o : HO} {t' : Nat} (I : aU X pins σ H s) (k : ∀ b u, s.heap.get? b = some u → h'.get? b = some u) (hp : s.heap.objs.size ≤ a) (new : bW X.prog X.w (cx H a o) h' a o) :
    aU X pins σ (cx H a o) { s with heap := h', toks := t' } := I.un (Un.laid k hp (I.hok.fresh hp)) (I.hok.laid k hp new)
theorem aU.write {x e : Addr} {o : HO} {t' : Nat} (I : aU X pins σ H s) (mu : BD (H x)) (he : e = x ∨ H e = some (.own x)) (k : ∀ b u, b ≠ e → s.heap.get? b = some u → h'.get? b = some u) (heo : ∃ u, h'.get? e = some u)
    (new : bW X.prog X.w (cx H x o) h' x o) : aU X pins σ (cx H x o) { s with heap := h', toks := t' } := I.un (Un.write mu he k heo) (I.hok.write mu he k heo new)
theorem aU.pins_of {pins' : List (Addr × Obj)} (I : aU X pins σ H s) (h : ∀ p ∈ pins', s.heap.get? p.1 = some p.2 ∧ H p.1 = none ∧ p.1 ≠ X.env.locals ∧ p.1 ∉ X.fs ∧ ∀ v, p.2.data ≠ .cell v) : aU X pins' σ H s :=
  ⟨I.ok, I.os, I.bare, I.base, I.loc, I.cell, I.free, I.freeC, fun p hp => (List.mem_append.mp hp).elim (fun z => I.pin p (List.mem_append_left _ z)) (h p), I.hok, I.len⟩
theorem qg {N : List Str} (hN : N.Nodup) {i j : Nat} {x : Str} (a : N[i]? = some x) (b : N[j]? = some x) : i = j := by
  obtain ⟨h1, e1⟩ := List.getElem?_eq_some_iff.mp a
  obtain ⟨h2, e2⟩ := List.getElem?_eq_some_iff.mp b
  exact (List.getElem_inj hN).mp (e1.trans e2.symm)
theorem n5 {M : Model} {A : Around} {E : Value → Shared → Prop} {i : Nat} {x : Str} {v : V} {u : Value} {Q : Unit → Shared → Prop} (I : aU X pins σ H s) (hN : X.N.Nodup) (hi : X.N[i]? = some x) (hx : yT X.env.scope x) (r : bM v u)
    (h : ∀ s', aU X pins (σ.set i (some v)) H s' → (∃ a, Heap.SameBut a s.heap s'.heap ∧ (a = X.env.locals ∨ X.env.cells.lookup x = some a)) → Q () s') (hf : X.fn x = true ∨ X.env.scope.names.lookup x = some .local := by first | exact .inl rfl | exact .inr rfl | assumption) : wpAny M A (storeName X.env x u) Q E s := by
  obtain ⟨m, hn, hl⟩ := id I.loc
  have hcls : (X.env.scope.kind == .class || (X.env.scope.kind == .module && X.env.locals != X.env.globals)) = false := by rw [I.ok.kind]; rfl
  have hiσ : i < σ.length := by rw [I.len]; exact (List.getElem?_eq_some_iff.mp hi).1
  have cne := I.cne
  have tracked : ∀ {a : Addr} {h' : Heap}, (∃ o, s.heap.get? a = some o ∧ H a = none) → Heap.SameBut a s.heap h' → jg X.prog X.w H h' := fun {a h'} ha hs b ob e => by
    obtain ⟨_, _, hfree⟩ := ha
    refine (I.hok b ob e).stay (fun c w' hc q => (hs.2 c ?_).trans q) (fun _ q => q) fun _ _ q => q
    rintro rfl
    rcases hc with rfl | hc
    · rw [hfree] at e; cases e
    · rw [hfree] at hc; cases hc
  rcases hx with hk | hk
  · refine wpAny_storeName_local hk hn (fun h' hn' hs => ?_) hcls
    obtain ⟨oL, _, _, hoL, _⟩ := id hn
    refine h _ ⟨I.ok, I.os, I.bare, ⟨fun b o e n hb hx => ?_, fun b o e n hb hx => ?_, I.base.free, fun b o e hx => ?_, I.base.tups, I.base.frzs, I.base.tbls⟩, ⟨_, hn', fun j y v' e1 e2 e3 => ?_⟩, fun y c e => ?_, I.free, I.freeC, fun p hp => ?_, tracked ⟨oL, hoL, I.free⟩ hs, by simpa using I.len⟩ ⟨_, hs, .inl rfl⟩
    · exact (hs.2 b (Nat.ne_of_lt (Nat.lt_of_lt_of_le (Heap.lt_size e) I.ok.above))).trans (I.base.keep b o e n hb hx)
    · obtain ⟨sl, e1⟩ := I.base.slot b o e n hb hx
      exact ⟨sl, (hs.2 b (Nat.ne_of_lt (Nat.lt_of_lt_of_le (Heap.lt_size e) I.ok.above))).trans e1⟩
    · obtain ⟨o', e1⟩ := I.base.there b o e hx
      exact ⟨o', (hs.2 b (Nat.ne_of_lt (Nat.lt_of_lt_of_le (Heap.lt_size e) I.ok.above))).trans e1⟩
    · by_cases hj : j = i
      · subst hj
        rw [hi] at e1; cases e1
        rw [List.getElem?_set_self hiσ] at e2
        cases e2
        exact ⟨u, r, .inl ⟨hk, by simp⟩⟩
      · rw [List.getElem?_set_ne (Ne.symm hj)] at e2
        obtain ⟨u', r', q⟩ := hl j y v' e1 e2 e3
        refine ⟨u', r', ?_⟩
        rcases q with ⟨k, e⟩ | ⟨k, c, e, z⟩
        · refine .inl ⟨k, ?_⟩
          have : y ≠ x := fun e => hj (qg hN e1 (e ▸ hi))
          simp [this, e]
        · exact .inr ⟨k, c, e, z.sameBut hs (cne y c e)⟩
    · obtain ⟨w', z⟩ := I.cell y c e
      exact ⟨w', z.sameBut hs (cne y c e)⟩
    · obtain ⟨e, n, ne, nf, d⟩ := I.pin p hp
      exact ⟨(hs.2 p.1 ne).trans e, n, ne, nf, d⟩
  · have hfn : X.fn x = true := by
      rcases hf with z | z
      · exact z
      · rw [z] at hk; cases hk
    obtain ⟨c, hc⟩ := I.ok.has x (.inl hk)
    obtain ⟨w', z⟩ := I.cell x c hc
    refine wpAny_storeName_cell I.ok.kind hk hc z (fun h' hc' hs => ?_)
    obtain ⟨oc, hoc, hocd⟩ := id z
    refine h { s with heap := h' } ⟨I.ok, I.os, I.bare, ⟨fun b o e n hb hx => ?_, fun b o e n hb hx => ?_, I.base.free, fun b o e hx => ?_, I.base.tups, I.base.frzs, I.base.tbls⟩, ⟨m, hn.sameBut hs (Ne.symm (cne x c hc)), fun j y v' e1 e2 e3 => ?_⟩, fun y c' e => ?_, I.free, I.freeC, fun p hp => ?_, tracked ⟨oc, hoc, I.freeC x c hc⟩ hs, by simpa using I.len⟩ ⟨c, hs, .inr hc⟩
    · exact (hs.2 b (Nat.ne_of_lt (Nat.lt_of_lt_of_le (Heap.lt_size e) (I.ok.cab x c hfn hc)))).trans (I.base.keep b o e n hb hx)
    · obtain ⟨sl, e1⟩ := I.base.slot b o e n hb hx
      exact ⟨sl, (hs.2 b (Nat.ne_of_lt (Nat.lt_of_lt_of_le (Heap.lt_size e) (I.ok.cab x c hfn hc)))).trans e1⟩
    · obtain ⟨o', e1⟩ := I.base.there b o e hx
      exact ⟨o', (hs.2 b (Nat.ne_of_lt (Nat.lt_of_lt_of_le (Heap.lt_size e) (I.ok.cab x c hfn hc)))).trans e1⟩
    · by_cases hj : j = i
      · subst hj
        rw [hi] at e1; cases e1
        rw [List.getElem?_set_self hiσ] at e2
        cases e2
        exact ⟨u, r, .inr ⟨.inl hk, c, hc, hc'⟩⟩
      · rw [List.getElem?_set_ne (Ne.symm hj)] at e2
        obtain ⟨u', r', q⟩ := hl j y v' e1 e2 e3
        refine ⟨u', r', ?_⟩
        rcases q with q | ⟨k, c', e, z'⟩
        · exact .inl q
        · refine .inr ⟨k, c', e, z'.sameBut hs ?_⟩
          rintro rfl
          exact hj (qg hN e1 (I.ok.inj _ _ _ e hc ▸ hi))
    · by_cases hcc : c' = c
      · subst hcc; exact ⟨_, hc'⟩
      · obtain ⟨w2, z2⟩ := I.cell y c' e
        exact ⟨w2, z2.sameBut hs hcc⟩
    · obtain ⟨e, n, ne, nf, d⟩ := I.pin p hp
      refine ⟨(hs.2 p.1 ?_).trans e, n, ne, nf, d⟩
      intro q
      rw [q, hoc] at e
      have q' : oc = p.2 := Option.some.inj e
      exact d w' (by rw [← q']; exact hocd)
theorem nE {M : Model} {A : Around} {E : Value → Shared → Prop} {i : Nat} {x : Str} {v : V} {u : Value} {Q : Unit → Shared → Prop} (I : aU X pins σ H s) (hN : X.N.Nodup) (hi : X.N[i]? = some x) (hx : yT X.env.scope x) (r : bM v u)
    (h : ∀ s', aU X pins (σ.set i (some v)) H s' → Q () s') (hf : X.fn x = true ∨ X.env.scope.names.lookup x = some .local := by first | exact .inl rfl | exact .inr rfl | assumption) : wpAny M A (storeName X.env x u) Q E s :=
  n5 I hN hi hx r (fun s' I' _ => h s' I') hf
theorem aU.call' {s' : Shared} {ch : List Addr} (I : aU X pins σ H s) (ho : s'.os = s.os) (u : Un (nJ X.stack) ch H H' s.heap s'.heap) (hok : jg X.prog X.w H' s'.heap) (hg : AllBare s'.gens)
    (hch : ∀ b ∈ ch, (b ∈ X.ex ∨ X.s₀.heap.objs.size ≤ b) ∧ b ≠ X.env.locals ∧ (∀ x c, X.env.cells.lookup x = some c → c ≠ b) ∧ ∀ p ∈ X.pn ++ pins, p.1 ≠ b) : aU X pins σ H' s' := by
  obtain ⟨h', g', d', t', o'⟩ := s'
  have e : o' = s.os := ho
  subst e
  exact I.call (g' := g') (t' := t') (d' := d') u hok hg hch
end
abbrev XK := Value → Option Addr → Hp → Prop
abbrev St := List (Option V)
abbrev VK := V → Hp → Prop
abbrev TE := St → Hp → VK → Prop
abbrev TT := St → Hp → (Bool → Hp → Prop) → Prop
abbrev TA := St → Hp → (List V → Hp → Prop) → Prop
structure qe where
  nx : St → Hp → Prop
  rt : VK
  bk : St → Hp → Prop := fun _ _ => False
  ct : St → Hp → Prop := fun _ _ => False
abbrev TS := qe → St → Hp → Prop
def EP (X : Cx) (pins : List (Addr × Obj)) (σ : St) (Q : VK) (u : Value) (s' : Shared) : Prop := ∃ v H', aU X pins σ H' s' ∧ bM v u ∧ Q v H'
def TP (X : Cx) (pins : List (Addr × Obj)) (σ : St) (Q : Bool → Hp → Prop) (b : Bool) (s' : Shared) : Prop := ∃ H', aU X pins σ H' s' ∧ Q b H'
def AP (X : Cx) (pins : List (Addr × Obj)) (σ : St) (Q : List V → Hp → Prop) (us : List Value) (s' : Shared) : Prop := ∃ vs H', aU X pins σ H' s' ∧ bw vs us ∧ Q vs H'
def SP (X : Cx) (pins : List (Addr × Obj)) (D : qe) (f : Flow) (s' : Shared) : Prop :=
  match f with
  | .next => ∃ σ' H', aU X pins σ' H' s' ∧ D.nx σ' H'
  | .brk => ∃ σ' H', aU X pins σ' H' s' ∧ D.bk σ' H'
  | .cont => ∃ σ' H', aU X pins σ' H' s' ∧ D.ct σ' H'
  | .ret u => ∃ v σ' H', aU X pins σ' H' s' ∧ bM v u ∧ D.rt v H'
def PE (X : Cx) (e : Expr) (t : TE) : Prop :=
  ∀ (pins : List (Addr × Obj)) (s : Shared) (σ : St) (H : Hp) (Q : VK), aU X pins σ H s → t σ H Q → wpAny (model X.prog X.w) X.A (eval e X.env) (EP X pins σ Q) X.xe s
def PT (X : Cx) (e : Expr) (t : TT) : Prop :=
  ∀ (pins : List (Addr × Obj)) (s : Shared) (σ : St) (H : Hp) (Q : Bool → Hp → Prop), aU X pins σ H s → t σ H Q → wpAny (model X.prog X.w) X.A (isTrue e X.env (eval e X.env)) (TP X pins σ Q) X.xe s
def PW (X : Cx) (e : Expr) (t : TT) : Prop :=
  ∀ (whole : Sem Value) (pins : List (Addr × Obj)) (s : Shared) (σ : St) (H : Hp) (Q : Bool → Hp → Prop), aU X pins σ H s → t σ H Q → wpAny (model X.prog X.w) X.A (isTrue e X.env whole) (TP X pins σ Q) X.xe s
theorem PW.pt {X : Cx} {e : Expr} {t : TT} (h : PW X e t) : PT X e t := h _
def PA (X : Cx) (es : List Expr) (t : TA) : Prop :=
  ∀ (pos : Pos) (pins : List (Addr × Obj)) (s : Shared) (σ : St) (H : Hp) (Q : List V → Hp → Prop), aU X pins σ H s → t σ H Q → wpAny (model X.prog X.w) X.A (spliced (backTo pos (starEach es X.env))) (AP X pins σ Q) X.xe s
def PS (X : Cx) (st : Stmt) (t : TS) : Prop :=
  ∀ (pins : List (Addr × Obj)) (s : Shared) (σ : St) (H : Hp) (D : qe), aU X pins σ H s → t D σ H → wpAny (model X.prog X.w) X.A (exec st X.env) (SP X pins D) X.xe s
def o8 (X : Cx) (st : List Stmt) (t : TS) : Prop :=
  ∀ (pins : List (Addr × Obj)) (s : Shared) (σ : St) (H : Hp) (D : qe), aU X pins σ H s → t D σ H → wpAny (model X.prog X.w) X.A (execs st X.env) (SP X pins D) X.xe s
theorem da {α : Type} {t : Sem α} {Q Q' : α → Shared → Prop} {M : Model} {A : Around} {E : Value → Shared → Prop} {s : Shared} (h : wpAny M A t Q E s) (hQ : ∀ a s, Q a s → Q' a s) : wpAny M A t Q' E s := wpAny_mono h hQ fun _ _ x => x
section
variable {X : Cx}
theorem Dm {a b : Expr} {ta tb : TE} (ha : PE X a ta) (hb : PE X b tb) {pins : List (Addr × Obj)} {s : Shared} {σ : St} {H : Hp} {R : V → V → Hp → Prop} (I : aU X pins σ H s) (h : ta σ H fun x H1 => tb σ H1 fun y H2 => R x y H2)
    {α : Type} {Q : α → Shared → Prop} {f : Value → Value → Sem α}
    (hf : ∀ v u s2 x y H2, aU X pins σ H2 s2 → bM x v → bM y u → R x y H2 → wpAny (model X.prog X.w) X.A (f v u) Q X.xe s2) :
    wpAny (model X.prog X.w) X.A (eval a X.env) (fun v s₁ => wpAny (model X.prog X.w) X.A (eval b X.env) (fun u s₂ => wpAny (model X.prog X.w) X.A (f v u) Q X.xe s₂) X.xe s₁) X.xe s := by
  refine da (ha pins s σ H _ I h) fun v s1 ⟨x, H1, I1, r1, q1⟩ => ?_
  refine da (hb pins s1 σ H1 _ I1 q1) fun u s2 ⟨y, H2, I2, r2, q2⟩ => ?_
  exact hf v u s2 x y H2 I2 r1 r2 q2
def BA (i : Nat) : TE := fun σ H Q => ∃ v, σ[i]? = some (some v) ∧ Q v H
def tC (v : V) : TE := fun _ H Q => Q v H
theorem kR {i : Nat} {x : Str} {pos : Pos} (hN : X.N[i]? = some x) (hv : Av X.env.scope x) (hd : (x == ("__debug__" : Str)) = false := by decide) (hcd : (x == ("__classdict__" : Str)) = false := by decide) : PE X (.Name x pos) (BA i) := by
  intro pins s σ H Q I h
  obtain ⟨v, e, h⟩ := h
  obtain ⟨m, hn, hl⟩ := I.loc
  obtain ⟨u, r, l⟩ := hl i x v hN e hv
  have fin : EP X pins σ Q u s := ⟨v, H, I, r, h⟩
  rcases l with ⟨hk, hm⟩ | ⟨hk, c, hc, hcell⟩
  · exact wpAny_Name (wpAny_loadName_local I.ok.kind hk hn hm fin) hd
  · rcases hk with hk | hk
    · exact wpAny_Name (wpAny_loadName_cell I.ok.kind hk hc hcell fin) hd
    · exact wpAny_Name (wpAny_loadName_free I.ok.kind hk hc hcell fin hcd) hd
theorem AL {i j pos} : PE X (.Constant (.int i) j pos) (tC (.int i)) := fun _ _ _ H _ I h => wpAny_Constant_int ⟨.int i, H, I.tok _, ⟨_, rfl⟩, h⟩
theorem Br {b j pos} : PE X (.Constant (.bool b) j pos) (tC (.bl b)) := fun _ _ _ H _ I h => Constant_bool ⟨.bl b, H, I, rfl, h⟩
theorem Al {j pos} : PE X (.Constant .none j pos) (tC .non) := fun _ _ _ H _ I h => Constant_none ⟨.non, H, I, rfl, h⟩
theorem zM {x j pos} : PE X (.Constant (.str x) j pos) (tC (.str x)) := fun _ _ _ H _ I h => Calls.Constant_str ⟨.str x, H, I.tok _, ⟨_, rfl⟩, h⟩
def Gl (X : Cx) (x : Str) : Prop := X.env.kindOf x = some .globalImplicit
theorem lW {E : Value → Shared → Prop} {pins : List (Addr × Obj)} {s : Shared} {σ : St} {H : Hp} {x : Str} {u : Value} {pos : Pos} {Q : Value → Shared → Prop} (I : aU X pins σ H s) (hg : Gl X x) (hm : X.mg x = some u) (h : Q u s)
    (hd : (x == ("__debug__" : Str)) = false := by decide) : wpAny (model X.prog X.w) X.A (eval (.Name x pos) X.env) Q E s :=
  Calls.Name_function_global I.ok.kind hg (Calls.loadGlobal_global (by rw [I.ok.glob]; exact I.mod.glob.keeps I.bk) hm h) hd
theorem iJ {E : Value → Shared → Prop} {pins : List (Addr × Obj)} {s : Shared} {σ : St} {H : Hp} {x : Str} {u : Value} {pos : Pos} {Q : Value → Shared → Prop} (I : aU X pins σ H s) (hg : Gl X x) (hm : X.mg x = none) (hv : bootBuiltins x = some u) (h : Q u s)
    (hn : x ≠ "__name__" := by decide) (hd : (x == ("__debug__" : Str)) = false := by decide) : wpAny (model X.prog X.w) X.A (eval (.Name x pos) X.env) Q E s := by
  obtain ⟨mb, h1, h2⟩ := I.mod.blt
  exact Calls.Name_function_global I.ok.kind hg (Calls.loadGlobal_builtin (by rw [I.ok.glob]; exact I.mod.glob.keeps I.bk) hm (by rw [I.ok.blt]; exact h1.keeps I.bk) ((h2 x hn).trans hv) h) hd
theorem xy {x : Str} {v : V} {u : Value} {pos : Pos} (hg : Gl X x) (hm : X.mg x = some u) (r : bM v u) (hd : (x == ("__debug__" : Str)) = false := by decide) : PE X (.Name x pos) (tC v) :=
  fun _ _ _ H _ I h => lW I hg hm ⟨v, H, I, r, h⟩ hd
theorem yf {x : Str} {v : V} {u : Value} {pos : Pos} (hg : Gl X x) (hm : X.mg x = none) (hv : bootBuiltins x = some u) (r : bM v u) (hn : x ≠ "__name__" := by decide) (hd : (x == ("__debug__" : Str)) = false := by decide) : PE X (.Name x pos) (tC v) :=
  fun _ _ _ H _ I h => iJ I hg hm hv ⟨v, H, I, r, h⟩ hn hd
variable {a b : Expr} {ta tb : TE} {pos : Pos}
def PC (X : Cx) (op : CmpOp) (a b : Expr) (t : TE) : Prop :=
  ∀ (pins : List (Addr × Obj)) (s : Shared) (σ : St) (H : Hp) (Q : VK), aU X pins σ H s → t σ H Q →
    wpAny (model X.prog X.w) X.A (eval a X.env) (fun v s₁ => wpAny (model X.prog X.w) X.A (eval b X.env) (fun u s₂ => wpAny (model X.prog X.w) X.A (compareOp op v u) (EP X pins σ Q) X.xe s₂) X.xe s₁) X.xe s
theorem wY (b : Expr) {op : CmpOp} (h : op ≠ .In) (h2 : op ≠ .NotIn) : behindInMarks op b = false := by
  have e1 : (op == CmpOp.In) = false := by cases op <;> first | rfl | exact absurd rfl h
  have e2 : (op == CmpOp.NotIn) = false := by cases op <;> first | rfl | exact absurd rfl h2
  cases b <;> simp [behindInMarks, e1, e2]
def tB (t : TE) : TT := fun σ H Q => t σ H fun x H1 => ∃ c, x = .bl c ∧ Q c H1
theorem CI {op : CmpOp} {t : TE} (h : PC X op a b t) (h1 : behindInMarks op b = false := by first | exact wY _ (by decide) (by decide) | rfl) : PT X (.Compare a [op] [b] pos) (tB t) := by
  intro pins s σ H Q I hw
  refine wpAny_isTrue_Compare1 (da (h pins s σ H _ I hw) fun v s1 h1 => da h1 fun u s2 h2 => da h2 fun c s3 ⟨x, H1, I1, r1, q1⟩ => ?_) h1
  obtain ⟨d, rfl, q⟩ := q1
  cases r1
  exact wpAny_truthy_bool ⟨H1, I1, q⟩
theorem AK {e : Expr} {t : TE} (h : PE X e t) (he : ∀ whole, isTrue e X.env whole = (do let v ← whole; standAt e.pos; holding [v] (truthy v)) := by intro _; rfl) : PT X e (tB t) := by
  intro pins s σ H Q I hw
  refine isTrue_plain (da (h pins s σ H _ I hw) fun v s1 ⟨x, H1, I1, r1, q1⟩ => ?_) (he _)
  obtain ⟨d, rfl, q⟩ := q1
  cases r1
  exact wpAny_truthy_bool ⟨H1, I1, q⟩
variable {tA tB' : TT} {rest : List Expr}
def CB (t u : TT) : TT := fun σ H Q => t σ H fun c H1 => if c = true then u σ H1 Q else Q false H1
def Dl (t u : TT) : TT := fun σ H Q => t σ H fun c H1 => if c = true then Q true H1 else u σ H1 Q
def Cy (t : TT) : TT := fun σ H Q => t σ H fun c H1 => Q (!c) H1
theorem pw_and1 (ha : PT X a tA) : PW X (.BoolOp .And [a] pos) tA := by
  intro wh pins s σ H Q I h
  refine isTrue_and (da (ha pins s σ H Q I h) fun c s1 e => ?_)
  cases c with
  | true => exact isTrue_and_nil e
  | false => exact e
theorem pw_or1 (ha : PT X a tA) : PW X (.BoolOp .Or [a] pos) tA := by
  intro wh pins s σ H Q I h
  refine isTrue_or (da (ha pins s σ H Q I h) fun c s1 e => ?_)
  cases c with
  | false => exact isTrue_or_nil e
  | true => exact e
theorem pw_and (ha : PT X a tA) (hb : PW X (.BoolOp .And (b :: rest) pos) tB') : PW X (.BoolOp .And (a :: b :: rest) pos) (CB tA tB') := by
  intro wh pins s σ H Q I h
  refine isTrue_and (da (ha pins s σ H _ I h) fun c s1 ⟨H1, I1, q1⟩ => ?_)
  cases c with
  | true => exact hb wh pins s1 σ H1 Q I1 q1
  | false => exact ⟨H1, I1, q1⟩
theorem pw_or (ha : PT X a tA) (hb : PW X (.BoolOp .Or (b :: rest) pos) tB') : PW X (.BoolOp .Or (a :: b :: rest) pos) (Dl tA tB') := by
  intro wh pins s σ H Q I h
  refine isTrue_or (da (ha pins s σ H _ I h) fun c s1 ⟨H1, I1, q1⟩ => ?_)
  cases c with
  | true => exact ⟨H1, I1, q1⟩
  | false => exact hb wh pins s1 σ H1 Q I1 q1
theorem Ac (ha : PT X a tA) : PT X (.UnaryOp .Not a pos) (Cy tA) := by
  intro pins s σ H Q I h
  exact isTrue_not (ha pins s σ H (fun c H1 => Q (!c) H1) I h)
def Bg (ta tb : TE) : TE := fun σ H Q => ta σ H fun x H1 => ∃ c, x = .bl c ∧ if c = true then tb σ H1 Q else Q (.bl false) H1
def Bm (ta : TE) : TE := fun σ H Q => ta σ H fun x H1 => ∃ c, x = .bl c ∧ Q (.bl (!c)) H1
theorem Aq {op} {t : TE} (h : PE X a t) : PE X (.BoolOp op [a] pos) t := fun pins s σ H Q I hw => BoolOp_one (h pins s σ H Q I hw)
theorem Am (ha : PE X a ta) (hb : PE X (.BoolOp .And (b :: rest) pos) tb) : PE X (.BoolOp .And (a :: b :: rest) pos) (Bg ta tb) := by
  intro pins s σ H Q I h
  refine BoolOp_and (da (ha pins s σ H _ I h) fun v s1 ⟨x, H1, I1, r1, q1⟩ => ?_)
  obtain ⟨c, rfl, q1⟩ := q1
  cases r1
  refine wpAny_truthy_bool ?_
  cases c with
  | true => exact hb pins s1 σ H1 Q I1 q1
  | false => exact ⟨.bl false, H1, I1, rfl, q1⟩
theorem zr (ha : PE X a ta) : PE X (.UnaryOp .Not a pos) (Bm ta) := by
  intro pins s σ H Q I h
  refine UnaryOp_ (da (ha pins s σ H _ I h) fun v s1 ⟨x, H1, I1, r1, q1⟩ => ?_)
  obtain ⟨c, rfl, q1⟩ := q1
  cases r1
  exact not_of (wpAny_truthy_bool ⟨.bl (!c), H1, I1, rfl, q1⟩)
def Dk (t : TT) (ta tb : TE) : TE := fun σ H Q => t σ H fun c H1 => if c = true then ta σ H1 Q else tb σ H1 Q
theorem wF {c : Expr} (hc : PT X c tA) (ha : PE X a ta) (hb : PE X b tb) : PE X (.IfExp c a b pos) (Dk tA ta tb) := by
  intro pins s σ H Q I h
  refine wpAny_IfExp (da (hc pins s σ H _ I h) fun d s1 ⟨H1, I1, q1⟩ => ?_)
  cases d with
  | true => exact ha pins s1 σ H1 Q I1 q1
  | false => exact hb pins s1 σ H1 Q I1 q1
end
def lZ (K : PySem.W.Frag) (H : Hp) (a : Addr) (xs : List V) : Prop :=
  Rd H a (.lst xs) ∨
    ∃ (o : Obj) (its : Array Value) (n : Nat), K.lookup a = some o ∧ o.cls = .type "list" ∧ o.dict = none ∧ o.data = .seq its n ∧ its.size ≤ sizeLine ∧ bw xs its.toList
def i4 (K : PySem.W.Frag) (H : Hp) (a : Addr) (xs : List V) : Prop :=
  Rd H a (.tup xs) ∨
    ∃ (o : Obj) (its : Array Value) (n : Nat), K.lookup a = some o ∧ o.cls = .type "tuple" ∧ o.data = .seq its n ∧ its.size ≤ sizeLine ∧ bw xs its.toList
def CA : Value → Option V
  | .none => some .non
  | .bool b => some (.bl b)
  | .int i _ => some (.int i)
  | .str x _ => some (.str x)
  | .bytes b _ => some (.byt b)
  | .float b _ => some (.flt b)
  | .ref a => some (.ref a)
  | .type n => some (.ty n)
  | _ => none
theorem bM.abs {x : V} {u : Value} (r : bM x u) : CA u = some x := by
  cases x with
  | non => cases r; rfl
  | bl _ => cases r; rfl
  | int _ => obtain ⟨t, rfl⟩ := r; rfl
  | str _ => obtain ⟨t, rfl⟩ := r; rfl
  | byt _ => obtain ⟨t, rfl⟩ := r; rfl
  | flt _ => obtain ⟨t, rfl⟩ := r; rfl
  | ref _ => cases r; rfl
  | ty _ => cases r; rfl
theorem bM.inj {x y : V} {u : Value} (r : bM x u) (q : bM y u) : x = y := Option.some.inj (r.abs.symm.trans q.abs)
theorem bw.inj : ∀ {xs ys : List V} {us : List Value}, bw xs us → bw ys us → xs = ys
  | _, _, _, .nil, .nil => rfl
  | _, _, _, .cons r t, .cons r' t' => by rw [r.inj r', bw.inj t t']
section
variable {X : Cx} {pins : List (Addr × Obj)} {σ : St} {H : Hp} {s : Shared} {a : Addr} {xs ys : List V}
theorem lZ.of {K : PySem.W.Frag} (h : H a = some (.lst xs)) : lZ K H a xs := .inl (.inl h)
theorem i4.of {K : PySem.W.Frag} (h : H a = some (.tup xs)) : i4 K H a xs := .inl (.inl h)
theorem aU.list (I : aU X pins σ H s) (h : lZ X.K H a xs) : ∃ its : List Value, bw xs its ∧ PlainL s.heap a its.toArray ∧ xs.length ≤ sizeLine := by
  rcases h with h | ⟨o, its, n, hk, hc, hd, hs, hz, r⟩
  · obtain ⟨z, its, n, r, e⟩ := h.ok I.hok
    exact ⟨its, r, ⟨_, n, e, rfl, rfl, rfl⟩, z⟩
  · refine ⟨its.toList, r, ⟨o, n, I.kIn a o hk, hc, hd, by simpa using hs⟩, ?_⟩
    have e := r.length
    simp only [Array.length_toList] at e
    omega
theorem aU.tuple (I : aU X pins σ H s) (h : i4 X.K H a xs) : ∃ its : List Value, bw xs its ∧ IsTup s.heap a its.toArray ∧ xs.length ≤ sizeLine := by
  rcases h with h | ⟨o, its, n, hk, hc, hs, hz, r⟩
  · obtain ⟨z, its, r, p⟩ := h.ok I.hok
    exact ⟨its, r, p, z⟩
  · refine ⟨its.toList, r, ⟨o, I.kIn a o hk, hc, n, by simpa using hs⟩, ?_⟩
    have e := r.length
    simp only [Array.length_toList] at e
    omega
theorem aU.list_inj (I : aU X pins σ H s) (h : lZ X.K H a xs) (h' : lZ X.K H a ys) : xs = ys := by
  obtain ⟨its, r, ⟨o, n, e, _, _, d⟩, _⟩ := I.list h
  obtain ⟨its', r', ⟨o', n', e', _, _, d'⟩, _⟩ := I.list h'
  rw [e] at e'; cases e'
  rw [d] at d'
  injection d' with d1 _
  have : its = its' := by simpa using congrArg Array.toList d1
  subst this
  exact r.inj r'
theorem aU.tuple_inj (I : aU X pins σ H s) (h : i4 X.K H a xs) (h' : i4 X.K H a ys) : xs = ys := by
  obtain ⟨its, r, ⟨o, e, _, n, d⟩, _⟩ := I.tuple h
  obtain ⟨its', r', ⟨o', e', _, n', d'⟩, _⟩ := I.tuple h'
  rw [e] at e'; cases e'
  rw [d] at d'
  injection d' with d1 _
  have : its = its' := by simpa using congrArg Array.toList d1
  subst this
  exact r.inj r'
end
abbrev Cx.wish (X : Cx) (E : Value → Shared → Prop) : Cx := { X with xe := E }
abbrev Cx.nox (X : Cx) : Cx := X.wish fun _ _ => False
theorem Cx.Ok.wish {X : Cx} (ok : X.Ok) (E : Value → Shared → Prop) : (X.wish E).Ok :=
  ⟨ok.mod, ok.kind, ok.glob, ok.blt, ok.above, ok.inj, ok.has, ok.cab, ok.hd, ok.frames, ok.stk, ok.exf, ok.bs, ok.bsz, ok.noex, ok.exfs, ok.funs, ok.frf⟩
theorem Cx.Ok.unwish {X : Cx} {E : Value → Shared → Prop} (ok : (X.wish E).Ok) : X.Ok :=
  ⟨ok.mod, ok.kind, ok.glob, ok.blt, ok.above, ok.inj, ok.has, ok.cab, ok.hd, ok.frames, ok.stk, ok.exf, ok.bs, ok.bsz, ok.noex, ok.exfs, ok.funs, ok.frf⟩
section
variable {X : Cx} {pins : List (Addr × Obj)} {σ : St} {H : Hp} {s : Shared} {E : Value → Shared → Prop}
theorem aU.wish (I : aU X pins σ H s) (E : Value → Shared → Prop) : aU (X.wish E) pins σ H s := ⟨I.ok.wish E, I.os, I.bare, I.base, I.loc, I.cell, I.free, I.freeC, I.pin, I.hok, I.len⟩
theorem aU.unwish (I : aU (X.wish E) pins σ H s) : aU X pins σ H s := ⟨I.ok.unwish, I.os, I.bare, I.base, I.loc, I.cell, I.free, I.freeC, I.pin, I.hok, I.len⟩
theorem SP.unwish {D : qe} {f : Flow} {s' : Shared} (h : SP (X.wish E) pins D f s') : SP X pins D f s' := by
  cases f with
  | next => obtain ⟨σ', H', I, q⟩ := h; exact ⟨σ', H', I.unwish, q⟩
  | brk => obtain ⟨σ', H', I, q⟩ := h; exact ⟨σ', H', I.unwish, q⟩
  | cont => obtain ⟨σ', H', I, q⟩ := h; exact ⟨σ', H', I.unwish, q⟩
  | ret u => obtain ⟨v, σ', H', I, r, q⟩ := h; exact ⟨v, σ', H', I.unwish, r, q⟩
theorem PE.nox {e : Expr} {t : TE} (h : PE X.nox e t) : PE X e t := fun pins s σ H Q I hw =>
  wpAny_mono (h pins s σ H Q (I.wish _) hw) (fun _ _ ⟨v, H', I', r, q⟩ => ⟨v, H', I'.unwish, r, q⟩) fun _ _ z => False.elim z
theorem PT.nox {e : Expr} {t : TT} (h : PT X.nox e t) : PT X e t := fun pins s σ H Q I hw =>
  wpAny_mono (h pins s σ H Q (I.wish _) hw) (fun _ _ ⟨H', I', q⟩ => ⟨H', I'.unwish, q⟩) fun _ _ z => False.elim z
theorem o8.nox {st : List Stmt} {t : TS} (h : o8 X.nox st t) : o8 X st t := fun pins s σ H D I hw =>
  wpAny_mono (h pins s σ H D (I.wish _) hw) (fun _ _ q => q.unwish) fun _ _ z => False.elim z
end
section
variable {X : Cx} {st : Stmt} {rest : List Stmt} {t u : TS} {e : Expr} {te : TE} {pos : Pos}
def BM : TS := fun D σ H => D.nx σ H
def Cz (t u : TS) : TS := fun D σ H => t { D with nx := u D } σ H
theorem xF : o8 X [] BM := fun _ _ σ H _ I h => wpAny_execs_nil ⟨σ, H, I, h⟩
theorem mC (h1 : PS X st t) (h2 : o8 X rest u) : o8 X (st :: rest) (Cz t u) := by
  intro pins s σ H D I h
  refine wpAny_execs_cons (da (h1 pins s σ H { D with nx := u D } I h) fun f s1 q => ?_)
  cases f with
  | next =>
    obtain ⟨σ', H', I', q⟩ := q
    exact h2 pins s1 σ' H' D I' q
  | ret v => exact q
  | brk => exact q
  | cont => exact q
theorem ul (h1 : PS X st t) : o8 X [st] t := by
  intro pins s σ H D I h
  refine wpAny_execs_cons (da (h1 pins s σ H D I h) fun f s1 q => ?_)
  cases f with
  | next => exact wpAny_execs_nil q
  | ret v => exact q
  | brk => exact q
  | cont => exact q
theorem aU.quiet {pins : List (Addr × Obj)} {σ : St} {H : Hp} {s : Shared} (I : aU X pins σ H s) : interactive X.env = false := by simp [interactive, I.ok.kind]
def AY (te : TE) : TS := fun D σ H => te σ H fun _ H1 => D.nx σ H1
theorem tQ (he : PE X e te) (hs : swapsWith e none pos.line X.env = pure false := by rfl) : PS X (.Expr e pos) (AY te) := by
  intro pins s σ H D I h
  exact wpAny_Expr_any (da (he pins s σ H _ I h) fun v s1 ⟨x, H1, I1, r1, q1⟩ => ⟨σ, H1, I1, q1⟩) I.quiet hs
def Cm (te : TE) : TS := fun D σ H => te σ H D.rt
theorem zR (he : PE X e te) : PS X (.Return (some e) pos) (Cm te) := by
  intro pins s σ H D I h
  exact wpAny_Return_some (da (he pins s σ H _ I h) fun v s1 ⟨x, H1, I1, r1, q1⟩ => ⟨x, σ, H1, I1, r1, q1⟩)
def Co (c : TT) (t u : TS) : TS := fun D σ H => c σ H fun b H1 => if b = true then t D σ H1 else u D σ H1
theorem AT {c : Expr} {a b : List Stmt} {tc : TT} (hc : PT X c tc) (ha : o8 X a t) (hb : o8 X b u) : PS X (.If c a b pos) (Co tc t u) := by
  intro pins s σ H D I h
  refine wpAny_If (da (hc pins s σ H _ I h) fun d s1 ⟨H1, I1, q1⟩ => ?_)
  cases d with
  | true => exact ha pins s1 σ H1 D I1 q1
  | false => exact hb pins s1 σ H1 D I1 q1
end
abbrev TG := V → St → Hp → (St → Hp → Prop) → Prop
abbrev zB := List V → St → Hp → (St → Hp → Prop) → Prop
def PG (X : Cx) (target : Expr) (t : TG) : Prop :=
  ∀ (pins : List (Addr × Obj)) (s : Shared) (σ : St) (H : Hp) (v : V) (u : Value) (Q : St → Hp → Prop), aU X pins σ H s → bM v u → t v σ H Q →
    wpAny (model X.prog X.w) X.A (assign target X.env u) (fun _ s' => ∃ σ' H', aU X pins σ' H' s' ∧ Q σ' H') X.xe s
def BZ (X : Cx) (ts : List Expr) (t : zB) : Prop :=
  ∀ (pins : List (Addr × Obj)) (s : Shared) (σ : St) (H : Hp) (vs : List V) (us : List Value) (Q : St → Hp → Prop), aU X pins σ H s → bw vs us → t vs σ H Q →
    wpAny (model X.prog X.w) X.A (assignInOrder ((assignEach ts X.env).map (·.2)) us) (fun _ s' => ∃ σ' H', aU X pins σ' H' s' ∧ Q σ' H') X.xe s
abbrev Az := V → V → V → Hp → (Hp → Prop) → Prop
def BT (X : Cx) (t : Az) : Prop :=
  ∀ (pins : List (Addr × Obj)) (s : Shared) (σ : St) (H : Hp) (o i v : V) (ov iv u : Value) (Q : Hp → Prop), aU X pins σ H s → bM o ov → bM i iv → bM v u → t o i v H Q →
    wpAny (model X.prog X.w) X.A (setItem ov iv u) (fun _ s' => ∃ H', aU X pins σ H' s' ∧ Q H') X.xe s
abbrev B3 := V → V → Hp → VK → Prop
def Cb (X : Cx) (op : Operator) (t : B3) : Prop :=
  ∀ (pins : List (Addr × Obj)) (s : Shared) (σ : St) (H : Hp) (x y : V) (v u : Value) (Q : VK), aU X pins σ H s → bM x v → bM y u → t x y H Q →
    wpAny (model X.prog X.w) X.A (inplaceOp op v u) (EP X pins σ Q) X.xe s
section
variable {X : Cx} {pos : Pos}
def zg (i : Nat) : TG := fun v σ H Q => Q (σ.set i (some v)) H
theorem pI {i : Nat} {x : Str} (hN : X.N.Nodup) (hi : X.N[i]? = some x) (hx : yT X.env.scope x) (hf : X.fn x = true ∨ X.env.scope.names.lookup x = some .local := by first | exact .inl rfl | exact .inr rfl | assumption) : PG X (.Name x pos) (zg i) := by
  intro pins s σ H v u Q I r h
  exact wpAny_assign_Name (nE I hN hi hx r (fun s' I' => ⟨_, H, I', h⟩) hf)
def CD : zB := fun vs σ H Q => vs = [] ∧ Q σ H
def BL (t : TG) (u : zB) : zB := fun vs σ H Q => ∃ v r, vs = v :: r ∧ t v σ H fun σ' H' => u r σ' H' Q
theorem ya : BZ X [] CD := by
  intro pins s σ H vs us Q I r h
  obtain ⟨e, h⟩ := h
  subst e
  cases r
  exact assignInOrder_nil ⟨σ, H, I, h⟩
theorem qU {e : Expr} {es : List Expr} {t : TG} {u : zB} (h1 : PG X e t) (h2 : BZ X es u)
    (hs : (assignEach (e :: es) X.env).map (·.2) = assign e X.env :: (assignEach es X.env).map (·.2) := by rfl) : BZ X (e :: es) (BL t u) := by
  intro pins s σ H vs us Q I r h
  obtain ⟨v, vr, e1, h⟩ := h
  subst e1
  cases r with
  | cons r rr =>
    rw [hs]
    refine assignInOrder_cons (da (h1 pins s σ H _ _ _ I r h) fun _ s1 ⟨σ1, H1, I1, q1⟩ => ?_)
    exact h2 pins s1 σ1 H1 _ _ Q I1 rr q1
def Cg (K : PySem.W.Frag) (n : Nat) (t : zB) : TG := fun v σ H Q => ∃ a xs, v = .ref a ∧ i4 K H a xs ∧ xs.length = n ∧ t xs σ H Q
theorem Af {es : List Expr} {k : Nat} {t : zB} {n : Nat} (hc : X.calm = true) (h : BZ X es t)
    (hn : (assignEach es X.env).length = n := by rfl) (hst : (assignEach es X.env).findIdx? (·.1) = none := by rfl) : PG X (.Tuple es k pos) (Cg X.K n t) := by
  intro pins s σ H v u Q I r hw
  obtain ⟨a, xs, e1, hq, hl, hw⟩ := hw
  subst e1
  cases r
  obtain ⟨its, rv, ht, hz⟩ := I.tuple hq
  refine assign_Tuple_tuple (I.ok.hd hc) ht (by simp [hn, ← hl, rv.length]) hst fun h' hx => ?_
  have I1 : aU X pins σ H { s with heap := h' } := I.kept (t' := s.toks) fun b o e => hx b o (Nat.ne_of_lt (Heap.lt_size e)) e
  exact h pins _ σ H xs _ Q I1 (by simpa using rv) hw
def B8 (to ti : TE) (t : Az) : TG := fun v σ H Q => to σ H fun o H1 => ti σ H1 fun i H2 => t o i v H2 fun H3 => Q σ H3
theorem zt {o i : Expr} {to ti : TE} {t : Az} (ho : PE X o to) (hi : PE X i ti) (hs : BT X t)
    (ha : ∀ v, assign (.Subscript o i pos) X.env v = (do
      let ov ← holding [v] (eval o X.env)
      let iv ← holding [v, ov] (eval i X.env)
      standAt pos
      holding [v, ov, iv] (setItem ov iv v)
      release [v, ov, iv] []) := by intro _; rfl) : PG X (.Subscript o i pos) (B8 to ti t) := by
  intro pins s σ H v u Q I r h
  rw [ha]
  refine wpAny_bind (wpAny_holding (da (ho pins s σ H _ I h) fun ov s1 ⟨x, H1, I1, r1, q1⟩ => ?_))
  refine wpAny_bind (wpAny_holding (da (hi pins s1 σ H1 _ I1 q1) fun iv s2 ⟨y, H2, I2, r2, q2⟩ => ?_))
  refine wpAny_bind (wpAny_standAt (wpAny_bind (wpAny_holding (da (hs pins s2 σ H2 x y v ov iv u _ I2 r1 r2 r q2) fun _ s3 ⟨H3, I3, q3⟩ => ?_))))
  exact wpAny_release ⟨σ, H3, I3, q3⟩
def A4 (te : TE) (g : TG) : TS := fun D σ H => te σ H fun x H1 => g x σ H1 D.nx
theorem Ap {tg e : Expr} {te : TE} {g : TG} (he : PE X e te) (hg : PG X tg g) (hs : swapsWithSole [tg] e pos.line X.env = pure false := by rfl) (hw : swappedStores [tg] e X.env = pure none := by rfl)
    (h1 : (assignEach [tg] X.env).map (·.2) = [assign tg X.env] := by rfl) : PS X (.Assign [tg] e pos) (A4 te g) := by
  intro pins s σ H D I h
  refine wpAny_Assign_stores (da (he pins s σ H _ I h) fun v s1 ⟨x, H1, I1, r1, q1⟩ => ?_) hs hw
  rw [h1]
  exact da (hg pins s1 σ H1 x v _ I1 r1 q1) fun _ s2 q => q
theorem wD {i : Nat} {x : Str} {e : Expr} {te : TE} {pos' : Pos} (hN : X.N.Nodup) (hi : X.N[i]? = some x) (hx : yT X.env.scope x) (he : PE X e te) (hs : swapsWith e (some (.Name x pos')) pos.line X.env = pure false := by rfl) (hf : X.fn x = true ∨ X.env.scope.names.lookup x = some .local := by first | exact .inl rfl | exact .inr rfl | assumption) :
    PS X (.Assign [.Name x pos'] e pos) (A4 te (zg i)) := by
  intro pins s σ H D I h
  refine wpAny_Assign_Name (da (he pins s σ H _ I h) fun v s1 ⟨y, H1, I1, r1, q1⟩ => ?_) hs
  exact nE I1 hN hi hx r1 (fun s2 I2 => ⟨_, H1, I2, q1⟩) hf
def CG (i : Nat) (te : TE) (ti : B3) : TS := fun D σ H => ∃ x, σ[i]? = some (some x) ∧ te σ H fun y H1 => ti x y H1 fun z H2 => D.nx (σ.set i (some z)) H2
theorem zO {i : Nat} {x : Str} {e : Expr} {te : TE} {op : Operator} {ti : B3} {pos' : Pos} (hN : X.N.Nodup) (hi : X.N[i]? = some x) (hx : yT X.env.scope x) (he : PE X e te) (ho : Cb X op ti) (hf : X.fn x = true ∨ X.env.scope.names.lookup x = some .local := by first | exact .inl rfl | exact .inr rfl | assumption) :
    PS X (.AugAssign (.Name x pos') op e pos) (CG i te ti) := by
  intro pins s σ H D I h
  obtain ⟨v, e1, h⟩ := h
  obtain ⟨m, hn, hl⟩ := I.loc
  have vis : Av X.env.scope x := by rcases hx with k | k; exact .inl k; exact .inr (.inl k)
  obtain ⟨u, r, l⟩ := hl i x v hi e1 vis
  refine wpAny_AugAssign_Name ?_
  have go : wpAny (model X.prog X.w) X.A (eval e X.env) (fun w s₂ => wpAny (model X.prog X.w) X.A (inplaceOp op u w) (fun r s₃ => wpAny (model X.prog X.w) X.A (storeName X.env x r) (fun _ => SP X pins D .next) X.xe s₃) X.xe s₂) X.xe s := by
    refine da (he pins s σ H _ I h) fun w s1 ⟨y, H1, I1, r1, q1⟩ => ?_
    refine da (ho pins s1 σ H1 v y u w _ I1 r r1 q1) fun z s2 ⟨zv, H2, I2, r2, q2⟩ => ?_
    exact nE I2 hN hi hx r2 (fun s3 I3 => ⟨_, H2, I3, q2⟩) hf
  rcases l with ⟨hk, hm⟩ | ⟨hk, c, hc, hcell⟩
  · exact wpAny_loadName_local I.ok.kind hk hn hm go
  · rcases hk with hk | hk
    · exact wpAny_loadName_cell I.ok.kind hk hc hcell go
    · rcases hx with k | k
      · have : X.env.scope.names.lookup x = some .free := hk
        rw [k] at this; cases this
      · have : X.env.scope.names.lookup x = some .free := hk
        rw [k] at this; cases this
def CP (f : Int → Int → Int) : B3 := fun x y H Q => ∃ i j, x = .int i ∧ y = .int j ∧ Q (.int (f i j)) H
theorem zl : Cb X .Add (CP fun i j => i + j) := by
  intro pins s σ H x y v u Q I r1 r2 h
  obtain ⟨i, j, e1, e2, q⟩ := h
  subst e1; subst e2
  obtain ⟨t, rfl⟩ := r1
  obtain ⟨t', rfl⟩ := r2
  exact iadd_int ⟨.int _, H, I.tok _, ⟨_, rfl⟩, q⟩
end
section
variable {X : Cx} {pos : Pos}
def zy (c : TT) (tb : TS) : TS := fun D σ H => ∃ W : Nat → St → Hp → Prop, (∃ m, W m σ H) ∧ ∀ m σ H, W m σ H →
  c σ H fun b H1 => if b = true then ∃ N : St → Hp → Prop, (∀ σ' H', N σ' H' → ∃ m', m' < m ∧ W m' σ' H') ∧ tb { D with nx := N, ct := N, bk := D.nx } σ H1 else D.nx σ H1
theorem wJ {c : Expr} {body : List Stmt} {tc : TT} {tb : TS} (hp : PassesOwn (model X.prog X.w) X.A X.env X.xe) (hc : PT X c tc) (hb : o8 X body tb) : PS X (.While c body [] pos) (zy tc tb) := by
  intro pins s σ H D I h
  obtain ⟨W, ⟨m0, w0⟩, turn⟩ := h
  refine wpAny_While (codeAny_whileLoop (fun n s' => ∃ σ' H', aU X pins σ' H' s' ∧ W n σ' H') ?_ m0 ⟨σ, H, I, w0⟩)
  rintro n s1 ⟨σ1, H1, I1, w1⟩
  refine wpAny_passesOwn hp (da (hc pins s1 σ1 H1 _ I1 (turn n σ1 H1 w1)) fun b s2 ⟨H2, I2, q2⟩ => ?_)
  cases b with
  | true =>
    obtain ⟨N, hN, q2⟩ := q2
    rw [if_pos rfl]
    refine wpAny_passesOwn hp (da (hb pins s2 σ1 H2 _ I2 q2) fun f s3 q3 => ?_)
    cases f with
    | next =>
      obtain ⟨σ3, H3, I3, n3⟩ := q3
      obtain ⟨m', hm, w3⟩ := hN σ3 H3 n3
      exact ⟨m', hm, σ3, H3, I3, w3⟩
    | cont =>
      obtain ⟨σ3, H3, I3, n3⟩ := q3
      obtain ⟨m', hm, w3⟩ := hN σ3 H3 n3
      exact ⟨m', hm, σ3, H3, I3, w3⟩
    | brk => exact q3
    | ret v => exact q3
  | false =>
    rw [if_neg Bool.false_ne_true]
    exact wpAny_execs_nil ⟨σ1, H2, I2, q2⟩
end
structure It where
  go : Nat → Hp → Prop
  yld : Nat → Hp → V → Hp → Prop
  stop : Nat → Hp → Prop
def lK (X : Cx) (pins : List (Addr × Obj)) (H : Hp) (b : Addr) : Prop :=
  H b = none ∧ b ≠ X.env.locals ∧ b ∉ X.fs ∧ (b ∈ X.ex ∨ X.s₀.heap.objs.size ≤ b) ∧ (∀ x c, X.env.cells.lookup x = some c → c ≠ b) ∧ ∀ p ∈ X.pn ++ pins, p.1 ≠ b
theorem aU.fpOk {X : Cx} {pins : List (Addr × Obj)} {σ : St} {H H' : Hp} {s : Shared} {b : Addr} (I : aU X pins σ H s) (hb : s.heap.objs.size ≤ b) (hn : H' b = none) : lK X pins H' b := by
  refine ⟨hn, Nat.ne_of_gt (Nat.lt_of_lt_of_le I.lt hb), I.nofs hb, .inr (Nat.le_trans I.sz hb), fun x c e z => ?_, fun p hp z => ?_⟩
  · obtain ⟨v, q⟩ := I.cell x c e
    exact absurd (Nat.lt_of_lt_of_le q.lt (by rw [z]; exact hb)) (Nat.lt_irrefl _)
  · exact absurd (Nat.lt_of_lt_of_le (Heap.lt_size (I.pin p hp).1) (by rw [z]; exact hb)) (Nat.lt_irrefl _)
structure rO (P : Program) (w : World) (K : PySem.W.Frag) (tg : Expr) (J : It) (fp : List Addr) (it : Addr) (tn : Nat → Heap → Prop) : Prop where
  mem : it ∈ fp
  obj : ∀ i h, tn i h → ∀ b ∈ fp, ∃ o, h.get? b = some o ∧ ∀ v, o.data ≠ .cell v
  keep : ∀ i h h', tn i h → (∀ b ∈ fp, ∀ o, h.get? b = some o → h'.get? b = some o) → tn i h'
  item : ∀ (X : Cx), X.prog = P → X.w = w → X.K = K → X.calm = true → ∀ (i : Nat) (pins : List (Addr × Obj)) (s : Shared) (σ : St) (H : Hp) (E : Value → Shared → Prop), aU X pins σ H s → (∀ b ∈ fp, lK X pins H b) → tn i s.heap → J.go i H →
    wpAny (model P w) X.A (pyNext (.ref it)) (fun r s1 => ∃ u, r = some u ∧
      wpAny (model P w) X.A (letOwnedTupleGo tg (.ref it) u) (fun _ s2 => ∃ x H', aU X pins σ H' s2 ∧ bM x u ∧ J.yld i H x H' ∧ tn (i + 1) s2.heap ∧ ∀ b ∈ fp, H' b = none) E s1) E s
  done : ∀ (X : Cx), X.prog = P → X.w = w → X.K = K → X.calm = true → ∀ (i : Nat) (pins : List (Addr × Obj)) (s : Shared) (σ : St) (H : Hp) (E : Value → Shared → Prop), aU X pins σ H s → (∀ b ∈ fp, lK X pins H b) → tn i s.heap → J.stop i H →
    wpAny (model P w) X.A (pyNext (.ref it)) (fun r s1 => r = none ∧ aU X pins σ H s1) E s
  self : ∀ (A : Around) (i : Nat) (s : Shared) (Q : Value → Shared → Prop) (E : Value → Shared → Prop), tn i s.heap → Q (.ref it) s → wpAny (model P w) A (pyIter (.ref it)) Q E s
abbrev TI := St → Hp → (It → Hp → Prop) → Prop
def CM (X : Cx) (pins : List (Addr × Obj)) (σ : St) (tg : Expr) (R : It → Hp → Prop) (itv : Value) (s2 : Shared) : Prop :=
  ∃ (it : Addr) (fp : List Addr) (tn : Nat → Heap → Prop) (J : It) (H' : Hp), itv = .ref it ∧ aU X pins σ H' s2 ∧ rO X.prog X.w X.K tg J fp it tn ∧ tn 0 s2.heap ∧ (∀ b ∈ fp, lK X pins H' b) ∧ R J H'
def PI (X : Cx) (tg iter : Expr) (wi : TI) : Prop :=
  ∀ (pins : List (Addr × Obj)) (s : Shared) (σ : St) (H : Hp) (R : It → Hp → Prop), aU X pins σ H s → wi σ H R →
    wpAny (model X.prog X.w) X.A (eval iter X.env) (fun v s1 => wpAny (model X.prog X.w) X.A (pyIter v) (CM X pins σ tg R) X.xe s1) X.xe s
theorem vK {M : Model} {A : Around} {E : Value → Shared → Prop} {s : Shared} {tg : Expr} {it : Addr} {u : Value} {o : Obj} {n : String} {vs : Array Value} {Q : Unit → Shared → Prop} (ho : s.heap.get? it = some o) (hc : o.cls = .type n) (hd : o.data = .fields vs)
    (hn : ["enumerate", "zip", "dict_itemiterator", "dict_reverseitemiterator", "odict_iterator", "itertools.zip_longest", "itertools.pairwise"].contains n = false) (hQ : Q () s) : wpAny M A (letOwnedTupleGo tg (.ref it) u) Q E s := by
  unfold letOwnedTupleGo
  cases tg <;> first
    | exact wpAny_pure hQ
    | (cases u <;> first
        | exact wpAny_pure hQ
        | (refine wpAny_bind (wpAny_load ho ?_)
           rw [hc, hd]
           show wpAny M A (if (["enumerate", "zip", "dict_itemiterator", "dict_reverseitemiterator", "odict_iterator", "itertools.zip_longest", "itertools.pairwise"].contains n && vs[0]? == some (rawInt _)) = true then _ else _) Q E s
           rw [if_neg (by intro h; rw [hn, Bool.false_and] at h; cases h)]
           exact wpAny_pure hQ))
def Cv (K : PySem.W.Frag) (a : Addr) : It :=
  ⟨fun i H => ∃ xs x, lZ K H a xs ∧ xs[i]? = some x, fun i H x H' => H' = H ∧ ∀ xs, lZ K H a xs → xs[i]? = some x, fun i H => ∃ xs, lZ K H a xs ∧ xs.length ≤ i⟩
def CK (K : PySem.W.Frag) (a : Addr) : It :=
  ⟨fun i H => ∃ xs x, i4 K H a xs ∧ xs[i]? = some x, fun i H x H' => H' = H ∧ ∀ xs, i4 K H a xs → xs[i]? = some x, fun i H => ∃ xs, i4 K H a xs ∧ xs.length ≤ i⟩
def BW (lo : Int) (n : Nat) : It := ⟨fun i _ => i < n, fun i H x H' => H' = H ∧ x = .int (lo + i), fun i _ => n ≤ i⟩
theorem vg {P : Program} {w : World} {K : PySem.W.Frag} {tg : Expr} (a it : Addr) : rO P w K tg (Cv K a) [it] it (fun i h => h.IsListIter it a i) where
  mem := by simp
  obj := fun i h st b hb => by
    have e : b = it := by simpa using hb
    subst e
    obtain ⟨o, e, c, d⟩ := st
    exact ⟨o, e, fun v z => by rw [d] at z; cases z⟩
  keep := fun i h h' st k => st.at fun o e => k it (by simp) o e
  item := by
    intro X hP hw hK hc i pins s σ H E I hf st hg
    subst hP hw hK
    obtain ⟨xs, x, hq, hx⟩ := hg
    obtain ⟨its, rv, p, hz⟩ := I.list hq
    obtain ⟨u, hu, ru⟩ := rv.get hx
    obtain ⟨f0, f1, f2, f3, f4, f5⟩ := hf it (by simp)
    refine wpAny_pyNext_list_item st p.isList (x := u) (by simpa using hu) fun h' st' sb => ?_
    have I1 : aU X pins σ H { s with heap := h' } := I.turned (t' := s.toks) (fun b o hb e => (sb.2 b hb).trans e) f0 f1 f3 f4 f5
    obtain ⟨o, e, c, d⟩ := id st'
    exact ⟨u, rfl, vK (s := { s with heap := h' }) e c d (by decide) ⟨x, H, I1, ru, ⟨rfl, fun ys hy => by rw [I.list_inj hy hq]; exact hx⟩, st', fun b hb => (hf b hb).1⟩⟩
  done := by
    intro X hP hw hK hc i pins s σ H E I hf st hg
    subst hP hw hK
    obtain ⟨xs, hq, hx⟩ := hg
    obtain ⟨its, rv, p, hz⟩ := I.list hq
    obtain ⟨f0, f1, f2, f3, f4, f5⟩ := hf it (by simp)
    have hl := rv.length
    exact wpAny_pyNext_list_end (I.ok.hd hc) st p.isList (by simp; omega) fun h' eb => ⟨rfl, I.turned (t' := s.toks) (fun b o hb e => eb b o hb e) f0 f1 f3 f4 f5⟩
  self := fun _ _ _ _ _ st h => wpAny_pyIter_listiter st h
theorem sQ {P : Program} {w : World} {K : PySem.W.Frag} {tg : Expr} (a it : Addr) : rO P w K tg (CK K a) [it] it (fun i h => h.IsTupleIter it a i) where
  mem := by simp
  obj := fun i h st b hb => by
    have e : b = it := by simpa using hb
    subst e
    obtain ⟨o, e, c, d⟩ := st
    exact ⟨o, e, fun v z => by rw [d] at z; cases z⟩
  keep := fun i h h' st k => st.at fun o e => k it (by simp) o e
  item := by
    intro X hP hw hK hc i pins s σ H E I hf st hg
    subst hP hw hK
    obtain ⟨xs, x, hq, hx⟩ := hg
    obtain ⟨its, rv, p, hz⟩ := I.tuple hq
    obtain ⟨u, hu, ru⟩ := rv.get hx
    obtain ⟨f0, f1, f2, f3, f4, f5⟩ := hf it (by simp)
    refine wpAny_pyNext_tuple_item st (show s.heap.IsTuple a its.toArray from p) (x := u) (by simpa using hu) fun h' st' sb => ?_
    have I1 : aU X pins σ H { s with heap := h' } := I.turned (t' := s.toks) (fun b o hb e => (sb.2 b hb).trans e) f0 f1 f3 f4 f5
    obtain ⟨o, e, c, d⟩ := id st'
    exact ⟨u, rfl, vK (s := { s with heap := h' }) e c d (by decide) ⟨x, H, I1, ru, ⟨rfl, fun ys hy => by rw [I.tuple_inj hy hq]; exact hx⟩, st', fun b hb => (hf b hb).1⟩⟩
  done := by
    intro X hP hw hK hc i pins s σ H E I hf st hg
    subst hP hw hK
    obtain ⟨xs, hq, hx⟩ := hg
    obtain ⟨its, rv, p, hz⟩ := I.tuple hq
    obtain ⟨f0, f1, f2, f3, f4, f5⟩ := hf it (by simp)
    have hl := rv.length
    exact wpAny_pyNext_tuple_end (I.ok.hd hc) st (show s.heap.IsTuple a its.toArray from p) (by simp; omega) fun h' eb => ⟨rfl, I.turned (t' := s.toks) (fun b o hb e => eb b o hb e) f0 f1 f3 f4 f5⟩
  self := fun _ _ _ _ _ st h => wpAny_pyIter_tupleiter st h
theorem rV {P : Program} {w : World} {K : PySem.W.Frag} {tg : Expr} (it : Addr) (lo : Int) (n : Nat) : rO P w K tg (BW lo n) [it] it (fun i h => IsRangeIter h it (lo + (i : Nat) * 1) ((n : Int) - (i : Nat)) 1) where
  mem := by simp
  obj := fun i h st b hb => by
    have e : b = it := by simpa using hb
    subst e
    exact ⟨_, st, fun v z => by
      have z' : Data.fields _ = Data.cell v := z
      cases z'⟩
  keep := fun i h h' st k => k it (by simp) _ st
  item := by
    intro X hP hw hK hc i pins s σ H E I hf st hg
    subst hP hw hK
    obtain ⟨f0, f1, f2, f3, f4, f5⟩ := hf it (by simp)
    have W := Walks.range (prog := X.prog) (w := X.w) (I.ok.hd hc) it lo 1 n
    refine W.item i s _ _ hg st fun v h' tk hv st' kk => ?_
    obtain ⟨t, rfl⟩ := hv
    have I1 : aU X pins σ H { s with heap := h', toks := tk } := I.turned (fun b o hb e => kk b o (by simpa using hb) e) f0 f1 f3 f4 f5
    refine ⟨_, rfl, vK (s := { s with heap := h', toks := tk }) (n := "range_iterator") st' rfl rfl (by decide) ⟨.int (lo + i), H, I1, ⟨t, ?_⟩, ⟨rfl, rfl⟩, st', fun b hb => (hf b hb).1⟩⟩
    rw [Int.mul_one]
  done := by
    intro X hP hw hK hc i pins s σ H E I hf st hg
    subst hP hw hK
    obtain ⟨f0, f1, f2, f3, f4, f5⟩ := hf it (by simp)
    exact wpAny_pyNext_range_end (I.ok.hd hc) st (by have : n ≤ i := hg; omega) fun h' eb => ⟨rfl, I.turned (t' := s.toks) (fun b o hb e => eb b o hb e) f0 f1 f3 f4 f5⟩
  self := fun _ _ _ _ _ st h => wpAny_pyIter_rangeiter st h
section
variable {X : Cx} {tg : Expr}
theorem wO {pins : List (Addr × Obj)} {σ : St} {H : Hp} {s : Shared} {R : It → Hp → Prop} {E : Value → Shared → Prop} {lo hi : Int} {t u v : Tok} {tk : Nat} (I : aU X pins σ H s) (h1 : -(2 ^ 62) ≤ lo) (h2 : lo < 2 ^ 62) (h3 : -(2 ^ 62) ≤ hi) (h4 : hi < 2 ^ 62)
    (q : R (BW lo (hi - lo).toNat) H) : wpAny (model X.prog X.w) X.A (pyIter (.ref s.heap.objs.size)) (CM X pins σ tg R) E { s with heap := s.heap.push { cls := .type "range", data := .fields #[.int lo t, .int hi u, .int 1 v] }, toks := tk } := by
  refine wpAny_pyIter_range (IsRange.new ..) (small_one h1 h2 h3 h4) ?_
  have I1 : aU X pins σ H { s with heap := s.heap.push { cls := .type "range", data := .fields #[.int lo t, .int hi u, .int 1 v] }, toks := tk } := I.kept fun b o e => Heap.get?_push_of_some _ e
  refine ⟨(s.heap.push { cls := .type "range", data := .fields #[.int lo t, .int hi u, .int 1 v] }).objs.size, [(s.heap.push { cls := .type "range", data := .fields #[.int lo t, .int hi u, .int 1 v] }).objs.size], _, _, H, rfl,
    I1.kept (t' := tk) fun b o e => Heap.get?_push_of_some _ e, rV _ lo (hi - lo).toNat, ?_, fun b hb => ?_, q⟩
  · have e1 : lo + ((0 : Nat) : Int) * 1 = lo := by simp
    have e2 : (((hi - lo).toNat : Nat) : Int) - ((0 : Nat) : Int) = Builtin.Range.rangeSize lo hi 1 := by rw [rangeSize_one]; split <;> omega
    show IsRangeIter _ _ (lo + ((0 : Nat) : Int) * 1) ((((hi - lo).toNat : Nat) : Int) - ((0 : Nat) : Int)) 1
    rw [e1, e2]
    exact Heap.get?_push_size _ rfl
  · have e : b = (s.heap.push { cls := .type "range", data := .fields #[.int lo t, .int hi u, .int 1 v] }).objs.size := by simpa using hb
    subst e
    exact I1.fpOk (Nat.le_refl _) (I1.hok.fresh (Nat.le_refl _))
def A7 (ta : TA) : TI := fun σ H R => ta σ H fun vs H1 => ∃ j : Int, vs = [.int j] ∧ -(2 ^ 62) ≤ j ∧ j < 2 ^ 62 ∧ R (BW 0 j.toNat) H1
theorem u7 {a : Expr} {ta : TA} {p pos : Pos} (hg : Gl X "range") (hm : X.mg "range" = none) (ha : PA X [a] ta) (hs : starEach [a] X.env = [(false, eval a X.env)] := by rfl) : PI X tg (.Call (.Name "range" p) [a] [] pos) (A7 ta) := by
  intro pins s σ H R I h
  refine Call_ (iJ I hg hm boot_range (PyProof.Rows.callWith_type1 (da (ha pos pins s σ H _ I h) fun us s1 ⟨vs, H1, I1, r1, q1⟩ => ?_) hs rfl))
  obtain ⟨j, e, q1, q2, q⟩ := q1
  subst e
  cases r1 with
  | cons r rr =>
    cases rr
    obtain ⟨t, rfl⟩ := r
    exact call_range_1 (wO I1 (by omega) (by omega) q1 q2 (by simpa using q))
def Cd (wi : TI) (g : TG) (tb : TS) : TS := fun D σ H => wi σ H fun J H1 => ∃ W : Nat → Nat → St → Hp → Prop, (∃ m, W 0 m σ H1) ∧ ∀ i m σ H, W i m σ H →
  (J.stop i H ∧ D.nx σ H) ∨ (J.go i H ∧ ∃ N : St → Hp → Prop, (∀ σ' H', N σ' H' → ∃ m', m' < m ∧ W (i + 1) m' σ' H') ∧ ∀ x H', J.yld i H x H' → g x σ H' fun σ2 H2 => tb { D with nx := N, ct := N, bk := D.nx } σ2 H2)
def mV (fp : List Addr) (h : Heap) : List (Addr × Obj) := fp.filterMap fun b => (h.get? b).map fun o => (b, o)
theorem ik {fp : List Addr} {h : Heap} {b : Addr} {o : Obj} (hb : b ∈ fp) (e : h.get? b = some o) : (b, o) ∈ mV fp h := List.mem_filterMap.mpr ⟨b, hb, by rw [e]; rfl⟩
theorem vw {fp : List Addr} {h : Heap} {p : Addr × Obj} (hp : p ∈ mV fp h) : p.1 ∈ fp ∧ h.get? p.1 = some p.2 := by
  obtain ⟨b, hb, e⟩ := List.mem_filterMap.mp hp
  cases q : h.get? b with
  | none => rw [q] at e; cases e
  | some o =>
    rw [q] at e
    have e' : (b, o) = p := Option.some.inj e
    subst e'
    exact ⟨hb, q⟩
theorem aU.pinned {pins : List (Addr × Obj)} {σ : St} {H : Hp} {s : Shared} {fp : List Addr} (I : aU X pins σ H s) (hf : ∀ b ∈ fp, lK X pins H b) (ho : ∀ b ∈ fp, ∃ o, s.heap.get? b = some o ∧ ∀ v, o.data ≠ .cell v) : aU X (pins ++ mV fp s.heap) σ H s :=
  I.pins_of fun p hp => (List.mem_append.mp hp).elim (fun z => I.pin p (List.mem_append_right _ z)) fun z => by
    obtain ⟨hb, e⟩ := vw z
    obtain ⟨f0, f1, f2, _⟩ := hf p.1 hb
    obtain ⟨o, e', d⟩ := ho p.1 hb
    rw [e] at e'; cases e'
    exact ⟨e, f0, f1, f2, d⟩
theorem aU.unpinned {pins pl : List (Addr × Obj)} {σ : St} {H : Hp} {s : Shared} (I : aU X (pins ++ pl) σ H s) : aU X pins σ H s := I.pins_of fun p hp => I.pin p (List.mem_append_right _ (List.mem_append_left _ hp))
theorem zS {iter : Expr} {body : List Stmt} {wi : TI} {g : TG} {tb : TS} {pos : Pos} (hp : PassesOwn (model X.prog X.w) X.A X.env X.xe) (hc : X.calm = true) (hi : PI X tg iter wi) (hg : PG X tg g) (hb : o8 X body tb)
    (hs : ∀ x, foldedSetIterable iter X.env x = pure x := by intro _; rfl) : PS X (.For tg iter body [] pos) (Cd wi g tb) := by
  intro pins s σ H D I h
  refine wpAny_For (da (hi pins s σ H _ I h) fun v s1 h1 => da h1 fun itv s2 h2 => ?_) hs
  obtain ⟨it, fp, tn, J, H2, e, I2, T, st2, f2, W, ⟨m0, w0⟩, turn⟩ := h2
  subst e
  -- what stays true of the iterator's objects through the loop
  have stat : ∀ {H' : Hp}, (∀ b ∈ fp, H' b = none) → ∀ b ∈ fp, lK X pins H' b := fun hn b hb => ⟨hn b hb, (f2 b hb).2⟩
  refine codeAny_forLoop_any (fun n s' => ∃ i σ' H', aU X pins σ' H' s' ∧ tn i s'.heap ∧ (∀ b ∈ fp, H' b = none) ∧ W i n σ' H') ?_ m0 ⟨0, σ, H2, I2, st2, fun b hb => (f2 b hb).1, w0⟩
  rintro n s3 ⟨i, σ3, H3, I3, st3, fr3, w3⟩
  rcases turn i n σ3 H3 w3 with ⟨stop, qn⟩ | ⟨go, N, hN, step⟩
  · refine wpAny_passesOwn hp (da (T.done X rfl rfl rfl hc i pins s3 σ3 H3 X.xe I3 (stat fr3) st3 stop) fun r s4 ⟨hr, I4⟩ => ?_)
    subst hr
    exact wpAny_execs_nil ⟨σ3, H3, I4, qn⟩
  · refine wpAny_passesOwn hp (da (T.item X rfl rfl rfl hc i pins s3 σ3 H3 X.xe I3 (stat fr3) st3 go) fun r s4 ⟨u, hr, h4⟩ => ?_)
    subst hr
    refine wpAny_passesOwn hp (da h4 fun _ s5 ⟨x, H5, I5, r5, y5, st5, fr5⟩ => ?_)
    have I5' := I5.pinned (stat fr5) (T.obj _ _ st5)
    refine wpAny_passesOwn hp (da (hg _ s5 σ3 H5 x u _ I5' r5 (step x H5 y5)) fun _ s6 ⟨σ6, H6, I6, q6⟩ => ?_)
    refine wpAny_passesOwn hp (da (hb _ s6 σ6 H6 _ I6 q6) fun f s7 q7 => ?_)
    have again : ∀ {σ7 : St} {H7 : Hp}, aU X (pins ++ mV fp s5.heap) σ7 H7 s7 → N σ7 H7 → ∃ m, m < n ∧ ∃ i σ' H', aU X pins σ' H' s7 ∧ tn i s7.heap ∧ (∀ b ∈ fp, H' b = none) ∧ W i m σ' H' := fun {σ7 H7} I7 n7 => by
      obtain ⟨m', hm, w7⟩ := hN σ7 H7 n7
      refine ⟨m', hm, i + 1, σ7, H7, I7.unpinned, T.keep _ _ _ st5 fun b hb o e => (I7.pin (b, o) (List.mem_append_right _ (List.mem_append_right _ (ik hb e)))).1, fun b hb => ?_, w7⟩
      obtain ⟨o, e, d⟩ := T.obj _ _ st5 b hb
      exact (I7.pin (b, o) (List.mem_append_right _ (List.mem_append_right _ (ik hb e)))).2.1
    cases f with
    | next => obtain ⟨σ7, H7, I7, n7⟩ := q7; exact again I7 n7
    | cont => obtain ⟨σ7, H7, I7, n7⟩ := q7; exact again I7 n7
    | brk => obtain ⟨σ7, H7, I7, q7⟩ := q7; exact ⟨σ7, H7, I7.unpinned, q7⟩
    | ret v => obtain ⟨x7, σ7, H7, I7, r7, q7⟩ := q7; exact ⟨x7, σ7, H7, I7.unpinned, r7, q7⟩
end
abbrev R2 := V → V → Hp → VK → Prop
def ix (X : Cx) (f : Value → Value → Sem Value) (r : R2) : Prop :=
  ∀ (pins : List (Addr × Obj)) (s : Shared) (σ : St) (H : Hp) (x y : V) (v u : Value) (Q : VK), aU X pins σ H s → bM x v → bM y u → r x y H Q →
    wpAny (model X.prog X.w) X.A (f v u) (EP X pins σ Q) X.xe s
def dq (X : Cx) (f : Value) (r : List V → Hp → VK → Prop) : Prop :=
  ∀ (pins : List (Addr × Obj)) (s : Shared) (σ : St) (H : Hp) (xs : List V) (us : List Value) (Q : VK), aU X pins σ H s → bw xs us → r xs H Q →
    wpAny (model X.prog X.w) X.A (call f us) (EP X pins σ Q) X.xe s
def Bf (r : R2) (ta tb : TE) : TE := fun σ H Q => ta σ H fun x H1 => tb σ H1 fun y H2 => r x y H2 Q
def rI (C : Int → Int → Prop) (g : Int → Int → V) : R2 := fun x y H Q => ∃ i j, x = .int i ∧ y = .int j ∧ C i j ∧ Q (g i j) H
def xp (g : Int → Int → V) : R2 := fun x y H Q => ∃ i j, x = .int i ∧ y = .int j ∧ Q (g i j) H
section
variable {X : Cx} {a b c : Expr} {ta tb tc : TE} {pos : Pos}
theorem AD (ha : PE X a ta) (hb : PE X b tb) {pins : List (Addr × Obj)} {s : Shared} {σ : St} {H : Hp} {R : V → V → Hp → Prop} (I : aU X pins σ H s)
    (h : ta σ H fun x H1 => tb σ H1 fun y H2 => R x y H2) {Q : Value → Shared → Prop} {f : Value → Value → Sem Value}
    (hf : ∀ v u s2 x y H2, aU X pins σ H2 s2 → bM x v → bM y u → R x y H2 → wpAny (model X.prog X.w) X.A (f v u) Q X.xe s2) :
    wpAny (model X.prog X.w) X.A (eval a X.env) (fun v s₁ => wpAny (model X.prog X.w) X.A (eval b X.env) (fun u s₂ => wpAny (model X.prog X.w) X.A (f v u) Q X.xe s₂) X.xe s₁) X.xe s := by
  refine da (ha pins s σ H _ I h) fun v s1 ⟨x, H1, I1, r1, q1⟩ => ?_
  refine da (hb pins s1 σ H1 _ I1 q1) fun u s2 ⟨y, H2, I2, r2, q2⟩ => ?_
  exact hf v u s2 x y H2 I2 r1 r2 q2
theorem Bv {op : Operator} {r : R2} (ho : ix X (binaryOp op) r) (ha : PE X a ta) (hb : PE X b tb) : PE X (.BinOp a op b pos) (Bf r ta tb) := by
  intro pins s σ H Q I h
  exact wpAny_BinOp (AD ha hb I h fun v u s2 x y H2 I2 rx ry q => ho pins s2 σ H2 x y v u Q I2 rx ry q)
theorem Cs {f : Value → Value → Sem Value} {C : Int → Int → Prop} {g : Int → Int → Int}
    (rule : ∀ (i j : Int) (t u : Tok) (s : Shared) (Q : Value → Shared → Prop) (E : Value → Shared → Prop), C i j → Q (.int (g i j) s.toks) { s with toks := s.toks + 1 } → wpAny (model X.prog X.w) X.A (f (.int i t) (.int j u)) Q E s) :
    ix X f (rI C fun i j => .int (g i j)) := by
  intro pins s σ H x y v u Q I rx ry h
  obtain ⟨i, j, rfl, rfl, hc, q⟩ := h
  obtain ⟨t, rfl⟩ := rx
  obtain ⟨t', rfl⟩ := ry
  exact rule i j t t' s _ _ hc ⟨.int (g i j), H, I.tok _, ⟨_, rfl⟩, q⟩
theorem Bj {f : Value → Value → Sem Value} {g : Int → Int → Int}
    (rule : ∀ (i j : Int) (t u : Tok) (s : Shared) (Q : Value → Shared → Prop) (E : Value → Shared → Prop), Q (.int (g i j) s.toks) { s with toks := s.toks + 1 } → wpAny (model X.prog X.w) X.A (f (.int i t) (.int j u)) Q E s) :
    ix X f (xp fun i j => .int (g i j)) := by
  intro pins s σ H x y v u Q I rx ry h
  obtain ⟨i, j, rfl, rfl, q⟩ := h
  obtain ⟨t, rfl⟩ := rx
  obtain ⟨t', rfl⟩ := ry
  exact rule i j t t' s _ _ ⟨.int (g i j), H, I.tok _, ⟨_, rfl⟩, q⟩
theorem Ad {f : Value → Value → Sem Value} {g : Int → Int → Bool}
    (rule : ∀ (i j : Int) (t u : Tok) (s : Shared) (Q : Value → Shared → Prop) (E : Value → Shared → Prop), Q (.bool (g i j)) s → wpAny (model X.prog X.w) X.A (f (.int i t) (.int j u)) Q E s) :
    ix X f (xp fun i j => .bl (g i j)) := by
  intro pins s σ H x y v u Q I rx ry h
  obtain ⟨i, j, rfl, rfl, q⟩ := h
  obtain ⟨t, rfl⟩ := rx
  obtain ⟨t', rfl⟩ := ry
  exact rule i j t t' s _ _ ⟨.bl (g i j), H, I, rfl, q⟩
def Bh (i j : Int) : Prop := 0 < j ∧ j < 1073741824
def yF (i j : Int) : Prop := (-(2 ^ 64) < i ∧ i < 2 ^ 64) ∨ (-(2 ^ 64) < j ∧ j < 2 ^ 64)
theorem yF.ok {i j : Int} (h : yF i j) : IntMulOk i j := by
  rcases h with ⟨h1, h2⟩ | ⟨h1, h2⟩
  · exact .of_left (intBits_le_64 h1 h2)
  · exact .of_right (intBits_le_64 h1 h2)
theorem zU : ix X (binaryOp .Add) (xp fun i j => .int (i + j)) := Bj fun _ _ _ _ _ _ _ q => add_int q
theorem zA : ix X (binaryOp .Sub) (xp fun i j => .int (i - j)) := Bj fun _ _ _ _ _ _ _ q => sub_int q
theorem zD : ix X (binaryOp .Mult) (rI yF fun i j => .int (i * j)) := Cs fun _ _ _ _ _ _ _ hc q => mul_int q hc.ok
theorem yI : ix X (binaryOp .FloorDiv) (rI Bh fun i j => .int (i / j)) := Cs fun i j _ _ _ _ _ hc q => by
  have h1 : (0 : Int) < j := hc.1
  have h2 : j < 1073741824 := hc.2
  exact floordiv_int (by omega) (by rw [Int.fdiv_eq_ediv_of_nonneg i (by omega)]; exact q) (.inl (PyProof.noPylong_small (by omega)))
theorem As : ix X (binaryOp .Mod) (rI (fun _ j => 0 < j) fun i j => .int (i % j)) := Cs fun i j _ _ _ _ _ hc q => by
  have h1 : (0 : Int) < j := hc
  exact mod_int' (by omega) (by rw [Int.fmod_eq_emod_of_nonneg i (by omega)]; exact q)
end
section
variable {X : Cx} {a b c : Expr} {ta tb tc : TE} {pos : Pos}
theorem vV {pins : List (Addr × Obj)} {σ : St} {H : Hp} {s : Shared} {Q : VK} {k k' : Bool} (I : aU X pins σ H s) (q : Q (.bl k) H) (e : k = k') : EP X pins σ Q (.bool k') s := by
  subst e
  exact ⟨.bl k, H, I, rfl, q⟩
theorem A8 : ix X (compareOp .Lt) (xp fun i j => .bl (decide (i < j))) := Ad fun _ _ _ _ _ _ _ q => lt_int q
theorem zf : ix X (compareOp .LtE) (xp fun i j => .bl (decide (i ≤ j))) := Ad fun _ _ _ _ _ _ _ q => le_int q
theorem zb : ix X (compareOp .Gt) (xp fun i j => .bl (decide (j < i))) := Ad fun _ _ _ _ _ _ _ q => gt_int q
theorem z9 : ix X (compareOp .Is) (fun x y H Q => y = .non ∧ Q (.bl (decide (x = .non))) H) := by
  intro pins s σ H x y v u Q I rx ry h
  obtain ⟨rfl, q⟩ := h
  cases ry
  refine is_none_gen (vV I q ?_)
  cases x <;> first
    | (cases rx; rfl)
    | (obtain ⟨t, rfl⟩ := rx; rfl)
theorem x5 : ix X (compareOp .IsNot) (fun x y H Q => y = .non ∧ Q (.bl (!decide (x = .non))) H) := by
  intro pins s σ H x y v u Q I rx ry h
  obtain ⟨rfl, q⟩ := h
  cases ry
  refine isnot_none_gen (vV I q ?_)
  cases x <;> first
    | (cases rx; rfl)
    | (obtain ⟨t, rfl⟩ := rx; rfl)
theorem ix.or {f : Value → Value → Sem Value} {r r' : R2} (h : ix X f r) (h' : ix X f r') : ix X f (fun x y H Q => r x y H Q ∨ r' x y H Q) := by
  intro pins s σ H x y v u Q I rx ry q
  rcases q with q | q
  · exact h pins s σ H x y v u Q I rx ry q
  · exact h' pins s σ H x y v u Q I rx ry q
theorem iK (b : Expr) {op : CmpOp} (h : op ≠ .In := by decide) (h2 : op ≠ .NotIn := by decide) : behindInMarks op b = false := by
  have e1 : (op == CmpOp.In) = false := by cases op <;> first | rfl | exact absurd rfl h
  have e2 : (op == CmpOp.NotIn) = false := by cases op <;> first | rfl | exact absurd rfl h2
  cases b <;> simp [behindInMarks, e1, e2]
theorem yJ {op : CmpOp} {r : R2} (ho : ix X (compareOp op) r) (ha : PE X a ta) (hb : PE X b tb) (hm : behindInMarks op b = false) : PE X (.Compare a [op] [b] pos) (Bf r ta tb) := by
  intro pins s σ H Q I h
  exact wpAny_Compare1 (AD ha hb I h fun v u s2 x y H2 I2 rx ry q => ho pins s2 σ H2 x y v u Q I2 rx ry q) hm
def BE (t : TE) : TT := fun σ H Q => t σ H fun x H' => ∃ k, x = .bl k ∧ Q k H'
theorem yc {op : CmpOp} {r : R2} (ho : ix X (compareOp op) r) (ha : PE X a ta) (hb : PE X b tb) (hm : behindInMarks op b = false) : PT X (.Compare a [op] [b] pos) (BE (Bf r ta tb)) := by
  intro pins s σ H Q I h
  refine wpAny_isTrue_Compare1 (da (ha pins s σ H _ I h) fun v s1 ⟨x, H1, I1, r1, q1⟩ => da (hb pins s1 σ H1 _ I1 q1) fun u s2 ⟨y, H2, I2, r2, q2⟩ =>
    da (ho pins s2 σ H2 x y v u _ I2 r1 r2 q2) fun c s3 ⟨z, H3, I3, r3, k, e, q3⟩ => ?_) hm
  subst e
  cases r3
  exact wpAny_truthy_bool ⟨H3, I3, q3⟩
def wG (r r' : R2) (ta tb tc : TE) : TE := fun σ H Q => ta σ H fun x H1 => tb σ H1 fun y H2 => r x y H2 fun z H3 => ∃ k, z = .bl k ∧
  (if k = true then tc σ H3 fun w' H4 => r' y w' H4 Q else Q (.bl false) H3)
theorem vT {op op' : CmpOp} {r r' : R2} (ho : ix X (compareOp op) r) (ho' : ix X (compareOp op') r') (ha : PE X a ta) (hb : PE X b tb) (hc : PE X c tc)
    (hm : lastMarks [op, op'] [b, c] = false := by with_unfolding_all rfl) : PE X (.Compare a [op, op'] [b, c] pos) (wG r r' ta tb tc) := by
  intro pins s σ H Q I h
  refine Compare_chain (da (ha pins s σ H _ I h) fun v s1 ⟨x, H1, I1, r1, q1⟩ => chain_link (da (hb pins s1 σ H1 _ I1 q1) fun u s2 ⟨y, H2, I2, r2, q2⟩ =>
    da (ho pins s2 σ H2 x y v u _ I2 r1 r2 q2) fun d s3 ⟨z, H3, I3, r3, k, e, q3⟩ => ?_)) hm
  subst e
  cases r3
  refine wpAny_truthy_bool ?_
  cases k with
  | false => exact ite_ff ⟨.bl false, H3, I3, rfl, q3⟩
  | true => exact ite_tt (chain_last (da (hc pins s3 σ H3 _ I3 q3) fun w' s4 ⟨z', H4, I4, r4, q4⟩ => ho' pins s4 σ H4 y z' u w' Q I4 r2 r4 q4))
theorem kM : (sizeLine : Nat) < 2 ^ 63 := by rw [sizeLine_eq]; decide
theorem gx {x : V} {us : List Value} (r : bw [x] us) : ∃ u, us = [u] ∧ bM x u := by
  cases r with
  | cons r1 r2 => cases r2; exact ⟨_, rfl, r1⟩
theorem tw {x y : V} {us : List Value} (r : bw [x, y] us) : ∃ u w', us = [u, w'] ∧ bM x u ∧ bM y w' := by
  cases r with
  | cons r1 r2 =>
    cases r2 with
    | cons r3 r4 => cases r4; exact ⟨_, _, rfl, r1, r3⟩
theorem vn (hc : X.calm = true) : dq X (.builtin "max") (fun xs H Q => ∃ i j, xs = [.int i, .int j] ∧ Q (.int (if j > i then j else i)) H) := by
  intro pins s σ H xs us Q I r h
  obtain ⟨i, j, rfl, q⟩ := h
  obtain ⟨u, w', rfl, ⟨t, rfl⟩, ⟨t', rfl⟩⟩ := tw r
  refine max_two_ints (I.ok.hd hc) fun h' tk k => ⟨_, H, I.kept k, ?_, q⟩
  by_cases hj : j > i
  · rw [if_pos hj, if_pos hj]; exact ⟨_, rfl⟩
  · rw [if_neg hj, if_neg hj]; exact ⟨_, rfl⟩
theorem uM (hc : X.calm = true) : dq X (.builtin "min") (fun xs H Q => ∃ i j, xs = [.int i, .int j] ∧ Q (.int (if j < i then j else i)) H) := by
  intro pins s σ H xs us Q I r h
  obtain ⟨i, j, rfl, q⟩ := h
  obtain ⟨u, w', rfl, ⟨t, rfl⟩, ⟨t', rfl⟩⟩ := tw r
  refine min_two_ints (I.ok.hd hc) fun h' tk k => ⟨_, H, I.kept k, ?_, q⟩
  by_cases hj : j < i
  · rw [if_pos hj, if_pos hj]; exact ⟨_, rfl⟩
  · rw [if_neg hj, if_neg hj]; exact ⟨_, rfl⟩
theorem uS : dq X (.type "int") (fun xs H Q => (∃ i, xs = [.int i] ∧ Q (.int i) H) ∨ ∃ k, xs = [.bl k] ∧ Q (.int (if k then 1 else 0)) H) := by
  intro pins s σ H xs us Q I r h
  rcases h with ⟨i, rfl, q⟩ | ⟨k, rfl, q⟩
  · obtain ⟨u, rfl, t, rfl⟩ := gx r
    exact call_int_int ⟨.int i, H, I, ⟨_, rfl⟩, q⟩
  · obtain ⟨u, rfl, r1⟩ := gx r
    cases r1
    exact call_int_bool ⟨.int (if k then 1 else 0), H, I.tok _, ⟨_, rfl⟩, q⟩
end
structure vi (h : Heap) (x dx C : Addr) (mA : Str → Option Value) : Prop where
  obj : h.get? x = some (PySem.W.instObj C dx)
  ns : h.Ns1 dx mA
  ne : dx ≠ x
theorem uB {h : Heap} {dx : Addr} {mA : Str → Option Value} (n : h.Ns1 dx mA) : ∃ od, h.get? dx = some od ∧ ∀ name, PySem.W.lookIn name od = some (mA name) := by
  obtain ⟨o, es, ep, ho, hd, hk, _, hm⟩ := n
  refine ⟨o, ho, fun name => ?_⟩
  have e := hm name
  unfold nsFind findBy at e
  rw [← Array.find?_toList] at e
  unfold PySem.W.lookIn
  rw [hd]
  dsimp only
  split
  · rename_i y q
    rw [q] at e
    exact congrArg some e
  · rename_i q
    rw [q] at e
    have a : es.toList.any (·.refKey) = false := by
      rw [List.any_eq_false]
      intro y hy
      obtain ⟨z, t, hkey⟩ := hk y (Array.mem_toList_iff.mp hy)
      simp [DictEntry.refKey, hkey]
    have a' : ¬ es.toList.any (·.refKey) = true := by rw [a]; exact Bool.false_ne_true
    rw [if_neg a']
    exact congrArg some e
theorem vi.look {h : Heap} {x dx C : Addr} {mA : Str → Option Value} (I : vi h x dx C mA) : ∃ od, PySem.W.InstAt h x (PySem.W.instObj C dx) C (some od) ∧ ∀ name, PySem.W.lookIn name od = some (mA name) :=
  let ⟨od, ho, hl⟩ := uB I.ns
  ⟨od, ⟨I.obj, rfl, rfl, ho⟩, hl⟩
section
variable {prog : Program} {w : World} {A : Around} {E : Value → Shared → Prop} {s : Shared} {K : PySem.W.Frag} {x dx C f : Addr} {mA : Str → Option Value} {name : Str} {v : Value}
theorem xP {expr : Bool} {Q : Value → Shared → Prop} (X : K.In s.heap) (I : vi s.heap x dx C mA) (hg : PySem.W.plainGet K C name = true) (hh : PySem.W.hasDictIn K C = true)
    (ha : PySem.W.findIn K (.ref C) name = some none) (hv : mA name = some v) (hv' : PySem.W.handedIn v = true) (h : Q v { s with toks := s.toks + 1 }) :
    wpAny (model prog w) A (getAttr (.ref x) name expr) Q E s := by
  obtain ⟨od, J, hl⟩ := I.look
  exact PySem.W.get_value X J (PySem.W.plainGet_of hg).1 (PySem.W.findObj_own hh ha rfl (by rw [hl, hv])) hv' h
theorem xL {ns : List Str} {Q : Unit → Shared → Prop} (X : K.In s.heap) (I : vi s.heap x dx C mA)
    (hs : PySem.W.findIn K (.ref C) "__setattr__" = some (some (.builtin "object.__setattr__"))) (hp : PySem.W.plainOver K C = true) (ht : PySem.W.takerIn K C name = some none) (hh : PySem.W.hasDictIn K C = true)
    (hw : PySem.Within mA ns) (hsz : ns.length ≤ sizeLine)
    (h : ∀ h', vi h' x dx C (fun y => if y = name then some v else mA y) → Heap.SameBut dx s.heap h' → Q () { s with heap := h', toks := s.toks + 2 }) :
    wpAny (model prog w) A (setAttr (.ref x) name v) Q E s := by
  obtain ⟨od, J, hl⟩ := I.look
  refine PySem.W.set_plain X J hs (PySem.W.osa_open (s := { s with toks := s.toks + 1 }) (r := none) X J hp ht fun b => ?_)
  obtain ⟨cd, hc, hd'⟩ := PySem.W.any_some hh
  have hx : s.heap.get? x = some ⟨.ref C, some dx, .plain, #[]⟩ := I.obj
  refine wpAny_bind (wpAny_pure (wpAny_bind (wpAny_bind (wpAny_loadPart hx (wpAny_bind (PySem.W.Looks.here (s := { s with toks := s.toks + 1 }) (PySem.W.looks_clsIn X hc) ?_))))))
  rw [hd']
  refine wpAny_pure (a := some dx) (wpAny_bind (wpAny_pure (wpAny_bind ?_)))
  refine wpAny_nsSet1 (s := { s with toks := s.toks + 1 }) I.ns fun h' hn2 hs2 => ?_
  obtain ⟨oD, esD, epD, hoD, hdD, hcD⟩ := hn2.count (PySem.Within.cons name v hw)
  refine wpAny_bind (wpAny_lookBehind hoD (by rw [hdD]; exact pastItsLine_dict (Nat.le_trans hcD (by rw [List.length_cons]; omega))) ?_)
  exact wpAny_pure (h _ ⟨(hs2.2 _ (Ne.symm I.ne)).trans I.obj, hn2, I.ne⟩ hs2)
theorem vX {R : Result → Shared → Prop} {vs : List Value} {kw : List (Str × Value)} (X : K.In s.heap) (hm : PySem.W.makesIn K C = true)
    (hi : PySem.W.findIn K (.ref C) "__init__" = some (some (.ref f))) (hf : PySem.W.typeIn K (.ref f) = some (.type "function"))
    (h : codeAny (model prog w) (A.under (.builtin "type.__call__" ⟨.ref C :: vs, kw⟩)) (.call (.ref f) ⟨.ref (s.heap.objs.size + 1) :: vs, kw⟩) (PySem.W.InitBack (s.heap.objs.size + 1) R)
      { s with heap := (s.heap.push PySem.W.emptyDict).push (PySem.W.instObj C s.heap.objs.size) }) :
    codeAny (model prog w) A (.call (.ref C) ⟨vs, kw⟩) R s := by
  obtain ⟨hh, g, d, t, os⟩ := s
  exact PySem.W.make_core (PySem.W.makes_of X hm) (PySem.W.looks_findIn X hi) (fun self => PySem.W.bind_fn X self hf) (.inl rfl) h
end
def gM (f : Str) (v : V) : List (Str × V) → List (Str × V)
  | [] => [(f, v)]
  | (g, x) :: r => if g = f then (g, v) :: r else (g, x) :: gM f v r
theorem ld (f g : Str) (v : V) : ∀ fs : List (Str × V), (gM f v fs).lookup g = if g = f then some v else fs.lookup g
  | [] => by
    show List.lookup g [(f, v)] = _
    by_cases h : g = f
    · have hb : (g == f) = true := beq_iff_eq.mpr h
      simp only [List.lookup, hb, if_pos h]
    · have hb : (g == f) = false := beq_eq_false_iff_ne.mpr h
      simp only [List.lookup, hb, if_neg h]
  | (k, x) :: r => by
    have ih := ld f g v r
    rw [show gM f v ((k, x) :: r) = (if k = f then (k, v) :: r else (k, x) :: gM f v r) from rfl]
    by_cases hk : k = f
    · rw [if_pos hk]
      by_cases h : g = k
      · have hb : (g == k) = true := beq_iff_eq.mpr h
        simp only [List.lookup, hb, if_pos (h.trans hk)]
      · have hb : (g == k) = false := beq_eq_false_iff_ne.mpr h
        simp only [List.lookup, hb, if_neg (fun e : g = f => h (e.trans hk.symm))]
    · rw [if_neg hk]
      by_cases h : g = k
      · have hb : (g == k) = true := beq_iff_eq.mpr h
        simp only [List.lookup, hb, if_neg (fun e : g = f => hk (h.symm.trans e))]
      · have hb : (g == k) = false := beq_eq_false_iff_ne.mpr h
        simp only [List.lookup, hb]
        exact ih
theorem k9 (f : Str) (v : V) : ∀ fs : List (Str × V), f ∈ (gM f v fs).map (·.1) ∧ ∀ g, g ∈ fs.map (·.1) → g ∈ (gM f v fs).map (·.1)
  | [] => ⟨by simp [gM], fun g h => by simp at h⟩
  | (k, x) :: r => by
    obtain ⟨i1, i2⟩ := k9 f v r
    rw [show gM f v ((k, x) :: r) = (if k = f then (k, v) :: r else (k, x) :: gM f v r) from rfl]
    by_cases hk : k = f
    · rw [if_pos hk]
      subst hk
      exact ⟨by simp, fun g h => by simpa using h⟩
    · rw [if_neg hk]
      refine ⟨?_, fun g h => ?_⟩
      · rw [List.map_cons]
        exact List.mem_cons_of_mem _ i1
      · rw [List.map_cons] at h ⊢
        rcases List.mem_cons.mp h with e | e
        · exact List.mem_cons.mpr (.inl e)
        · exact List.mem_cons_of_mem _ (i2 g e)
theorem gy (f : Str) (v : V) : ∀ fs : List (Str × V), (gM f v fs).length ≤ fs.length + 1
  | [] => by simp [gM]
  | (k, x) :: r => by
    have ih := gy f v r
    rw [show gM f v ((k, x) :: r) = (if k = f then (k, v) :: r else (k, x) :: gM f v r) from rfl]
    by_cases hk : k = f
    · rw [if_pos hk, List.length_cons, List.length_cons]; omega
    · rw [if_neg hk, List.length_cons, List.length_cons]; omega
theorem k4.some_of {v : V} {o : Option Value} (r : k4 (some v) o) : ∃ u, o = some u ∧ bM v u := by
  cases o with
  | none => exact (show False from r).elim
  | some u => exact ⟨u, rfl, r⟩
theorem uU {v : V} {u : Value} (r : bM v u) : PySem.W.handedIn u = true := by
  cases v with
  | non => cases (show u = Value.none from r); rfl
  | bl b => cases (show u = Value.bool b from r); rfl
  | int i => obtain ⟨t, e⟩ := (show ∃ t, u = Value.int i t from r); cases e; rfl
  | str x => obtain ⟨t, e⟩ := (show ∃ t, u = Value.str x t from r); cases e; rfl
  | byt b => obtain ⟨t, e⟩ := (show ∃ t, u = Value.bytes b t from r); cases e; rfl
  | flt b => obtain ⟨t, e⟩ := (show ∃ t, u = Value.float b t from r); cases e; rfl
  | ref a => cases (show u = Value.ref a from r); rfl
  | ty n => cases (show u = Value.type n from r); rfl
section
variable {P : Program} {w : World} {H H' : Hp} {h h' : Heap} {a C dx : Addr} {fs fs' : List (Str × V)}
theorem uh (hok : jg P w H h) (e : H a = some (.ins C dx fs)) : ∃ mA, vi h a dx C mA ∧ (∀ f, k4 (fs.lookup f) (mA f)) ∧ PySem.Within mA (fs.map (·.1)) ∧ fs.length ≤ 1000 ∧ H dx = some (.own a) := by
  obtain ⟨d, z, ne, ob, mA, n, r, q⟩ := (show bW P w H h a (.ins C dx fs) from hok a _ e)
  exact ⟨mA, ⟨ob, n, ne⟩, r, q, z, d⟩
end
structure rm (K : PySem.W.Frag) (C : Addr) : Prop where
  pg : PySem.W.plainGet K C Str.empty = true
  hd : PySem.W.hasDictIn K C = true
  po : PySem.W.plainOver K C = true
  sa : PySem.W.findIn K (.ref C) "__setattr__" = some (some (.builtin "object.__setattr__"))
theorem rm.get {K : PySem.W.Frag} {C : Addr} (c : rm K C) (f : Str) : PySem.W.plainGet K C f = true := c.pg
def cQ (K : PySem.W.Frag) (C : Addr) (f : Str) : Prop := PySem.W.findIn K (.ref C) f = some none
theorem cQ.taker {K : PySem.W.Frag} {C : Addr} {f : Str} (n : cQ K C f) : PySem.W.takerIn K C f = some none := by
  unfold PySem.W.takerIn
  rw [show PySem.W.findIn K (.ref C) f = some none from n]
  rfl
section
variable {X : Cx} {pins : List (Addr × Obj)} {σ : St} {H : Hp} {s : Shared} {a C dx : Addr} {fs : List (Str × V)} {f : Str} {v : V} {A : Around} {E : Value → Shared → Prop}
theorem rF {y : V} {u : Value} {Q : Unit → Shared → Prop} (I : aU X pins σ H s) (e : H a = some (.ins C dx fs)) (c : rm X.K C) (n : cQ X.K C f) (hl : fs.length < 1000) (ry : bM y u)
    (h : ∀ s', aU X pins σ (cx H a (.ins C dx (gM f y fs))) s' → Q () s') : wpAny (model X.prog X.w) A (setAttr (.ref a) f u) Q E s := by
  obtain ⟨mA, O, r, wi, _, ho⟩ := uh I.hok e
  have hz : (fs.map (·.1)).length ≤ sizeLine := by rw [List.length_map, sizeLine_eq]; omega
  refine xL I.kIn O c.sa c.po n.taker c.hd wi hz fun h' O' sb => h _ ?_
  have hd : ∃ o, h'.get? dx = some o := let ⟨o, _, _, e', _⟩ := O'.ns; ⟨o, e'⟩
  refine I.write (x := a) (e := dx) (by rw [e]; exact True.intro) (.inr ho) (fun b q hb z => (sb.2 b hb).trans z) hd ?_
  refine ⟨by rw [az O.ne]; exact ho, ?_, O.ne, O'.obj, _, O'.ns, fun g => ?_, fun g hg => ?_⟩
  · have := gy f y fs; omega
  · show k4 ((gM f y fs).lookup g) (if g = f then some u else mA g)
    rw [ld]
    by_cases q : g = f
    · rw [if_pos q, if_pos q]; exact ry
    · rw [if_neg q, if_neg q]; exact r g
  · by_cases q : g = f
    · rw [q]; exact (k9 f y fs).1
    · refine (k9 f y fs).2 g (wi g fun z => hg ?_)
      show (if g = f then some u else mA g) = none
      rw [if_neg q]; exact z
theorem aU.made (I : aU X pins σ H s) : aU X pins σ (cx (cx H s.heap.objs.size (.own (s.heap.objs.size + 1))) (s.heap.objs.size + 1) (.ins C s.heap.objs.size []))
    { s with heap := (s.heap.push PySem.W.emptyDict).push (PySem.W.instObj C s.heap.objs.size) } := by
  have e1 : (s.heap.push PySem.W.emptyDict).get? s.heap.objs.size = some PySem.W.emptyDict := Heap.get?_push_size s.heap rfl
  have e2 : ((s.heap.push PySem.W.emptyDict).push (PySem.W.instObj C s.heap.objs.size)).get? (s.heap.objs.size + 1) = some (PySem.W.instObj C s.heap.objs.size) := by
    have := Heap.get?_push_size (s.heap.push PySem.W.emptyDict) (o := PySem.W.instObj C s.heap.objs.size) rfl
    rwa [Heap.size_push] at this
  have e3 : (s.heap.push PySem.W.emptyDict).Ns s.heap.objs.size (fun _ => none) := ⟨PySem.W.emptyDict, #[], _, e1, rfl, (fun e he => absurd he (by simp)), fun _ => rfl⟩
  have I1 := I.laid (a := s.heap.objs.size) (o := .own (s.heap.objs.size + 1)) (h' := s.heap.push PySem.W.emptyDict) (t' := s.toks) (fun b u q => Heap.get?_push_of_some _ q) (Nat.le_refl _) ⟨_, e1⟩
  refine I1.laid (a := s.heap.objs.size + 1) (o := .ins C s.heap.objs.size []) (t' := s.toks) (fun b u q => Heap.get?_push_of_some _ q) (Nat.le_of_eq (Heap.size_push _ _)) ?_
  have ne : s.heap.objs.size ≠ s.heap.objs.size + 1 := Nat.ne_of_lt (Nat.lt_succ_self _)
  refine ⟨by rw [az ne, bi], Nat.zero_le _, ne, e2, fun _ => none, (Heap.Ns1.of_empty e3).at fun o q => Heap.get?_push_of_some _ q, fun _ => True.intro, fun y hy => absurd rfl hy⟩
theorem yt {prog : Program} {w : World} {env : Env} {e : Expr} {f : Str} {pos : Pos} {s : Shared} {Q : Value → Shared → Prop} (hb : attributeBase e f env (eval e env) = eval e env)
    (h : wpAny (model prog w) A (eval e env) (fun o s₁ => wpAny (model prog w) A (getAttr o f true) Q E s₁) E s) : wpAny (model prog w) A (eval (.Attribute e f pos) env) Q E s :=
  Attribute_any_ h (by rw [arm_eval_Attribute, hb])
end
def Cp (K : PySem.W.Frag) (ta tv : TE) (f : Str) : TS := fun D σ H => tv σ H fun y H1 => ta σ H1 fun x H2 => ∃ a C dx fs, x = .ref a ∧ H2 a = some (.ins C dx fs) ∧ rm K C ∧ cQ K C f ∧ fs.length < 1000 ∧
  D.nx σ (cx H2 a (.ins C dx (gM f y fs)))
section
variable {X : Cx} {o e value : Expr} {f : Str} {pos pos' tpos : Pos} {ta tv : TE}
theorem ss (ha : PE X o ta) (hv : PE X value tv) (hs : swapsWith value (some (.Attribute o f pos')) pos.line X.env = pure false) : PS X (.Assign [.Attribute o f pos'] value pos) (Cp X.K ta tv f) := by
  intro pins s σ H D I h
  refine plainObj_wpAny_Assign_Attribute (da (hv pins s σ H _ I h) fun u s1 ⟨y, H1, I1, ry, q⟩ => da (ha pins s1 σ H1 _ I1 q) fun ov s2 ⟨x, H2, I2, rx, a, C, dx, fs, ex, ea, c, n, l, q2⟩ => ?_) hs
  subst ex
  obtain rfl : ov = Value.ref a := rx
  exact rF I2 ea c n l ry fun s3 I3 => ⟨σ, _, I3, q2⟩
end
section
variable {X : Cx} {pins : List (Addr × Obj)} {σ : St} {H : Hp} {s : Shared} {A : Around} {E : Value → Shared → Prop} {Q : Value → Shared → Prop} {c : Value} {b : Bool}
inductive kz (K : PySem.W.Frag) (H : Hp) : V → Value → Prop where
  | non : kz K H .non (.type "NoneType")
  | bl (x : Bool) : kz K H (.bl x) (.type "bool")
  | int (i : Int) : kz K H (.int i) (.type "int")
  | str (x : Str) : kz K H (.str x) (.type "str")
  | flt (x : UInt64) : kz K H (.flt x) (.type "float")
  | lst {a : Addr} {xs : List V} (e : H a = some (.lst xs)) : kz K H (.ref a) (.type "list")
  | frz {a : Addr} {o : Obj} {xs : List V} (e : H a = some (.frz o (.lst xs))) : kz K H (.ref a) (.type "list")
  | tup {a : Addr} {xs : List V} (e : H a = some (.tup xs)) : kz K H (.ref a) (.type "tuple")
  | dK {a : Addr} {kvs : List (cV × V)} (e : H a = some (.dK kvs)) : kz K H (.ref a) (.type "dict")
  | dT {a : Addr} {kvs : List (List cV × V)} (e : H a = some (.dT kvs)) : kz K H (.ref a) (.type "dict")
  | ins {a C dx : Addr} {fs : List (Str × V)} (e : H a = some (.ins C dx fs)) (cl : rm K C) (ha : PySem.W.findIn K (.ref C) "__class__" = some (some (.builtin "object.__class__")))
      (hn : PySem.W.specialIn K (.builtin "object.__class__") "__get__" = some (some (.builtin "getset_descriptor.__get__"))) (htk : PySem.W.takesIn K (.builtin "object.__class__") = some true)
      (hm : PySem.W.mroIn K C (.type "object") = some true) : kz K H (.ref a) (.ref C)
theorem uH {x : V} {u t : Value} (I : aU X pins σ H s) (rx : bM x u) (ty : kz X.K H x t) (e : PySem.W.kitOne X.K t c = some b) (h : ∀ tk, Q (.bool b) { s with toks := tk }) :
    wpAny (model X.prog X.w) A (call (.builtin "isinstance") [u, c]) Q E s := by
  cases ty with
  | non => cases (show u = Value.none from rx); exact PySem.W.kia_one PySem.W.kitx_none I.kIn True.intro e (fun z => nomatch z) h
  | bl y => cases (show u = Value.bool y from rx); exact PySem.W.kia_one PySem.W.kitx_bool I.kIn True.intro e (fun z => nomatch z) h
  | int i => obtain ⟨t, q⟩ := (show ∃ t, u = Value.int i t from rx); cases q; exact PySem.W.kia_one PySem.W.kitx_int I.kIn True.intro e (fun z => nomatch z) h
  | str y => obtain ⟨t, q⟩ := (show ∃ t, u = Value.str y t from rx); cases q; exact PySem.W.kia_one PySem.W.kitx_str I.kIn True.intro e (fun z => nomatch z) h
  | flt y => obtain ⟨t, q⟩ := (show ∃ t, u = Value.float y t from rx); cases q; exact PySem.W.kia_one PySem.W.kitx_float I.kIn True.intro e (fun z => nomatch z) h
  | @lst a xs ea =>
    cases (show u = Value.ref a from rx)
    obtain ⟨_, _, n, _, h1⟩ := (show bW X.prog X.w H s.heap a (.lst xs) from I.hok a _ ea)
    exact PySem.W.kia_one PySem.W.kitx_list I.kIn ⟨_, h1, rfl⟩ e (fun z => nomatch z) h
  | @frz a ob xs ea =>
    cases (show u = Value.ref a from rx)
    obtain ⟨_, _, _, n, _, h1⟩ := (show bW X.prog X.w H s.heap a (.frz ob (.lst xs)) from I.hok a _ ea)
    exact PySem.W.kia_one PySem.W.kitx_list I.kIn ⟨_, h1, rfl⟩ e (fun z => nomatch z) h
  | @tup a xs ea =>
    cases (show u = Value.ref a from rx)
    obtain ⟨_, _, _, p⟩ := (show bW X.prog X.w H s.heap a (.tup xs) from I.hok a _ ea)
    obtain ⟨o, h1, h2, _⟩ := p
    exact PySem.W.kia_one PySem.W.kitx_tuple I.kIn ⟨o, h1, h2⟩ e (fun z => nomatch z) h
  | @dK a kvs ea =>
    cases (show u = Value.ref a from rx)
    obtain ⟨_, _, vs, _, p⟩ := (show bW X.prog X.w H s.heap a (.dK kvs) from I.hok a _ ea)
    obtain ⟨o, es, ep, h1, h2, _⟩ := p
    exact PySem.W.kia_one PySem.W.kitx_dict I.kIn ⟨o, h1, h2.1⟩ e (fun z => nomatch z) h
  | @dT a kvs ea =>
    cases (show u = Value.ref a from rx)
    obtain ⟨_, _, xs, _, o, es, ep, h1, h2, _⟩ := (show bW X.prog X.w H s.heap a (.dT kvs) from I.hok a _ ea)
    exact PySem.W.kia_one PySem.W.kitx_dict I.kIn ⟨o, h1, h2.1⟩ e (fun z => nomatch z) h
  | @ins a C dx fs ea cl ha hn htk hm =>
    cases (show u = Value.ref a from rx)
    obtain ⟨mA, O, _⟩ := uh I.hok ea
    obtain ⟨od, J, _⟩ := O.look
    exact PySem.W.kia_one (PySem.W.kitx_own (cl.get _) cl.hd ha hn htk hm) I.kIn J e (fun z => nomatch z) h
end
structure dQ (k : Nat) (A : Around) : Prop where
  hd : A.handled = none
  dp : A.depth + 3 * k + 5 < recursionLimit
  un : A.units + 16 * k + 200 < cLine
theorem dQ.mono {j k : Nat} {A : Around} (r : dQ k A) (h : j ≤ k) : dQ j A := ⟨r.hd, by have := r.dp; omega, by have := r.un; omega⟩
theorem dQ.deeper {k : Nat} {A : Around} (r : dQ (k + 1) A) (env : Env) : dQ k (A.deeper env) :=
  ⟨r.hd, by have := r.dp; show A.depth + 1 + 3 * k + 5 < _; omega, by have := r.un; show A.units + 3 + 16 * k + 200 < _; omega⟩
theorem sh {A : Around} {C : Addr} {us : List Value} {kw : List (Str × Value)} : (A.under (.builtin "type.__call__" ⟨.ref C :: us, kw⟩)).depth = A.depth + 1 := by
  first | rfl | simp [Around.under, Code.weight, Code.isCreation, Code.isGuard, Code.isCaller, Code.frames, Code.isFrame, guardIds]
theorem sP {A : Around} {C : Addr} {us : List Value} {kw : List (Str × Value)} : (A.under (.builtin "type.__call__" ⟨.ref C :: us, kw⟩)).units = A.units + 1 := by
  first | rfl | simp [Around.under, Code.cUnits, Code.frames, Code.isFrame]
theorem dQ.make {k : Nat} {A : Around} (r : dQ (k + 1) A) (C : Addr) (us : List Value) (kw : List (Str × Value)) : dQ k (A.under (.builtin "type.__call__" ⟨.ref C :: us, kw⟩)) :=
  ⟨r.hd, by have := r.dp; rw [sh]; omega, by have := r.un; rw [sP]; omega⟩
theorem dQ.depth {k : Nat} {A : Around} (r : dQ k A) : A.depth < recursionLimit := by have := r.dp; omega
theorem dQ.units {k : Nat} {A : Around} (r : dQ k A) : A.units + 64 < cLine := by have := r.un; omega
def Cf : TA := fun _ H Q => Q [] H
def BF (ta : TE) (tr : TA) : TA := fun σ H Q => ta σ H fun x H1 => tr σ H1 fun xs H2 => Q (x :: xs) H2
section
variable {X : Cx} {e : Expr} {es : List Expr} {te : TE} {t : TA} {pos : Pos}
theorem v8 : PA X [] Cf := fun _ _ _ _ H Q I h => Calls.spliced_nil ⟨[], H, I, .nil, h⟩
theorem oZ (ha : PE X e te) (hr : PA X es t) (hs : starEach (e :: es) X.env = (false, eval e X.env) :: starEach es X.env := by rfl) : PA X (e :: es) (BF te t) := by
  intro pos pins s σ H Q I h
  rw [hs]
  show wpAny _ _ (spliced ((false, eval e X.env) :: backTo pos (starEach es X.env))) _ _ s
  refine Calls.spliced_cons (da (ha pins s σ H _ I h) fun u s1 ⟨x, H1, I1, r1, q1⟩ => ?_)
  exact da (hr pos pins s1 σ H1 _ I1 q1) fun us s2 ⟨xs, H2, I2, r2, q2⟩ => ⟨x :: xs, H2, I2, .cons r1 r2, q2⟩
def CC (t : TA) : TE := fun σ H Q => t σ H fun xs H1 => xs.length ≤ sizeLine ∧ ∀ p, H1 p = none → Q (.ref p) (cx H1 p (.tup xs))
def CJ (t : TA) : TE := fun σ H Q => t σ H fun xs H1 => xs.length ≤ sizeLine ∧ ∀ p, H1 p = none → Q (.ref p) (cx H1 p (.lst xs))
theorem zY {x1} (h : PA X es t) : PE X (.Tuple es x1 pos) (CC t) := by
  intro pins s σ H Q I hq
  refine wpAny_Tuple_spliced (da (h pos pins s σ H _ I hq) fun us s1 ⟨xs, H1, I1, r, z, q⟩ => ⟨by rw [← r.length]; exact z, ?_⟩)
  have hf : H1 s1.heap.objs.size = none := I1.hok.fresh (Nat.le_refl _)
  refine ⟨.ref s1.heap.objs.size, cx H1 s1.heap.objs.size (.tup xs), I1.laid (t' := s1.toks) (fun b u e => Heap.get?_push_of_some _ e) (Nat.le_refl _) ?_, rfl, q _ hf⟩
  exact ⟨z, us, r, ⟨_, Heap.get?_push_size _ rfl, rfl, _, rfl⟩⟩
theorem zp (h : PA X es t) : PE X (.List es pos) (CJ t) := by
  intro pins s σ H Q I hq
  refine wpAny_List_spliced (da (h pos pins s σ H _ I hq) fun us s1 ⟨xs, H1, I1, r, z, q⟩ => ⟨by rw [← r.length]; exact z, ?_⟩)
  have hf : H1 s1.heap.objs.size = none := I1.hok.fresh (Nat.le_refl _)
  refine ⟨.ref s1.heap.objs.size, cx H1 s1.heap.objs.size (.lst xs), I1.laid (t' := s1.toks) (fun b u e => Heap.get?_push_of_some _ e) (Nat.le_refl _) ?_, rfl, q _ hf⟩
  exact ⟨z, us, 0, r, Heap.get?_push_size _ rfl⟩
end
abbrev Sp := List V → Hp → VK → XK → Prop
abbrev vB := List Env → Hp → Shared → XK → Value → Shared → Prop
structure sD (P : Program) (w : World) (K : PySem.W.Frag) (mg : Str → Option Value) (base : Heap) (A : Around) (outer : List Env) (s : Shared) (H : Hp) : Prop where
  frames : A.frames = some outer
  mod : Mod K mg base
  bs : ∀ b o, base.get? b = some o → s.heap.get? b = some o ∧ H b = none
  bsz : base.objs.size ≤ s.heap.objs.size
  funs : s.heap.FunFrames base outer
  frf : ∀ b ∈ nJ outer, H b = none
  hok : jg P w H s.heap
  bare : AllBare s.gens
def CE (outer : List Env) (P : Program) (w : World) (H : Hp) (s : Shared) (Q : VK) (u : Value) (s' : Shared) : Prop :=
  ∃ v H', s'.os = s.os ∧ AllBare s'.gens ∧ Un (nJ outer) [] H H' s.heap s'.heap ∧ jg P w H' s'.heap ∧ bM v u ∧ Q v H'
def CR (CX : vB) (outer : List Env) (P : Program) (w : World) (H : Hp) (s : Shared) (Q : VK) (E : XK) (r : Result) (s' : Shared) : Prop :=
  match r with
  | .ok (.ret u) => CE outer P w H s Q u s'
  | .ok _ => False
  | .error e => CX outer H s E e s'
structure bf (P : Program) (w : World) (K : PySem.W.Frag) (mg : Str → Option Value) (base : Heap) (CX : vB) (k : Nat) (f : Addr) (fd : FuncData) (ps : List Str) (sp : Sp) : Prop where
  len : ∀ vs H Q E, sp vs H Q E → vs.length = ps.length
  run : ∀ (A : Around) (outer : List Env) (s : Shared) (H : Hp) (args : Args) (us : List Value) (vs : List V) (Q : VK) (E : XK), dQ k A → sD P w K mg base A outer s H → BindsTo s fd args (ps.zip us) → bw vs us → sp vs H Q E →
    codeAny (model P w) A (.call (.ref f) args) (CR CX outer P w H s Q E) s
theorem bf.mono {P : Program} {w : World} {K : PySem.W.Frag} {mg : Str → Option Value} {base : Heap} {CX : vB} {j k : Nat} {f : Addr} {fd : FuncData} {ps : List Str} {sp : Sp} (F : bf P w K mg base CX j f fd ps sp) (h : j ≤ k) :
    bf P w K mg base CX k f fd ps sp := ⟨F.len, fun A outer s H args us vs Q E hr => F.run A outer s H args us vs Q E (hr.mono h)⟩
theorem bf.imp {P : Program} {w : World} {K : PySem.W.Frag} {mg : Str → Option Value} {base : Heap} {CX : vB} {k : Nat} {f : Addr} {fd : FuncData} {ps : List Str} {sp sp' : Sp} (F : bf P w K mg base CX k f fd ps sp)
    (h : ∀ vs H Q E, sp' vs H Q E → sp vs H Q E) : bf P w K mg base CX k f fd ps sp' :=
  ⟨fun vs H Q E q => F.len vs H Q E (h _ _ _ _ q), fun A outer s H args us vs Q E hr he hb hv hs => F.run A outer s H args us vs Q E hr he hb hv (h _ _ _ _ hs)⟩
theorem sD.make {P : Program} {w : World} {K : PySem.W.Frag} {mg : Str → Option Value} {base : Heap} {A : Around} {outer : List Env} {s : Shared} {H : Hp} (e : sD P w K mg base A outer s H) (C : Addr) (us : List Value) (kw : List (Str × Value)) :
    sD P w K mg base (A.under (.builtin "type.__call__" ⟨.ref C :: us, kw⟩)) outer s H := ⟨by first | exact e.frames | (simpa [Around.under, Code.envs, Code.isFrame, pushEnvs] using e.frames), e.mod, e.bs, e.bsz, e.funs, e.frf, e.hok, e.bare⟩
section
variable {X : Cx} {pins : List (Addr × Obj)} {σ : St} {H : Hp} {s s' : Shared}
theorem aU.env0 (I : aU X pins σ H s) : sD X.prog X.w X.K X.mg X.base X.A X.stack s H :=
  ⟨I.ok.frames, I.ok.mod, I.bs, Nat.le_trans I.ok.bsz I.sz, I.stack, I.stkFree, I.hok, I.bare⟩
theorem aU.after {Q : VK} {u : Value} (I : aU X pins σ H s) (h : CE X.stack X.prog X.w H s Q u s') : EP X pins σ Q u s' := by
  obtain ⟨v, H', os, bare, un, hok, r, q⟩ := h
  obtain ⟨hh, g, d, t, os'⟩ := s'
  obtain rfl : os' = s.os := os
  exact ⟨v, H', I.call (h' := hh) (g' := g) (d' := d) (t' := t) (ch := []) un hok bare (fun b z => absurd z (by simp)), r, q⟩
end
def Ba (sp : Sp) (dvs : List V) (E : XK) (t : TA) : TE := fun σ H Q => t σ H fun vs H1 => sp (vs ++ dvs) H1 Q E
def Bu (C : Addr) (sp : Sp) (dvs : List V) (E : XK) (t : TA) : TE := fun σ H Q => t σ H fun vs H1 => ∀ x dx, H1 x = none → H1 dx = none → dx ≠ x →
  sp (.ref x :: (vs ++ dvs)) (cx (cx H1 dx (.own x)) x (.ins C dx [])) (fun v H2 => v = .non ∧ Q (.ref x) H2) E
def gH (K : PySem.W.Frag) (fd : FuncData) (ps : List Str) (ds : List Value) : Prop :=
  ∀ (s : Shared) (us : List Value), K.In s.heap → (us ++ ds).length = ps.length → BindsTo s fd ⟨us, []⟩ (ps.zip (us ++ ds))
theorem gH.all {K : PySem.W.Frag} {fd : FuncData} {ps : List Str} (h : ∀ us : List Value, us.length = ps.length → bindArgs fd ⟨us, []⟩ = pure (ps.zip us)) : gH K fd ps [] := fun s us _ hl => by
  rw [List.append_nil] at hl ⊢
  exact .of_eq (h us hl)
def my (CX : vB) (X : Cx) (E : XK) : Prop := ∀ (pins : List (Addr × Obj)) (σ : St) (H : Hp) (s : Shared) (e : Value) (s' : Shared), aU X pins σ H s → CX X.stack H s E e s' → X.xe e s'
section
variable {X : Cx} {CX : vB} {k : Nat} {f C : Addr} {fd : FuncData} {ps : List Str} {sp : Sp} {dvs : List V} {ds : List Value} {E : XK} {x m : Str} {p pos apos : Pos} {e o : Expr} {es : List Expr} {ta : TE} {t : TA}
theorem AG {pins : List (Addr × Obj)} {σ : St} {H : Hp} {s : Shared} {Q : VK} {us : List Value} {vs : List V} (F : bf X.prog X.w X.K X.mg X.base CX k f fd ps sp) (hr : dQ k X.A) (hb : gH X.K fd ps ds) (hd : bw dvs ds) (hx : my CX X E)
    (I : aU X pins σ H s) (r : bw vs us) (h : sp (vs ++ dvs) H Q E) : wpAny (model X.prog X.w) X.A (call (.ref f) us) (EP X pins σ Q) X.xe s := by
  have r2 : bw (vs ++ dvs) (us ++ ds) := r.append hd
  have hl : (us ++ ds).length = ps.length := by rw [← r2.length]; exact F.len _ _ _ _ h
  refine wpAny_call (codeAny_mono (F.run X.A X.stack s H ⟨us, []⟩ (us ++ ds) (vs ++ dvs) Q E hr I.env0 (hb s us I.kIn hl) r2 h) fun r s' hq => ?_)
  cases r with
  | error e => exact hx pins σ H s e s' I hq
  | ok fl =>
    cases fl with
    | ret u => exact I.after hq
    | next => exact False.elim hq
    | brk => exact False.elim hq
    | cont => exact False.elim hq
theorem xT (F : bf X.prog X.w X.K X.mg X.base CX k f fd ps sp) (hr : dQ k X.A) (hg : Gl X x) (hm : X.mg x = some (.ref f)) (hk : PySem.W.keepIn X.K (.ref f) = true) (hb : gH X.K fd ps ds) (hd : bw dvs ds) (hx : my CX X E)
    (ha : PA X (e :: es) t) (hdb : (x == ("__debug__" : Str)) = false := by decide) (he : starEach (e :: es) X.env = (false, eval e X.env) :: starEach es X.env := by rfl) (hpl : (backTo pos (starEach es X.env)).any (·.1) = false := by rfl) :
    PE X (.Call (.Name x p) (e :: es) [] pos) (Ba sp dvs E t) := by
  intro pins s σ H Q I h
  refine wpAny_Call_Name_kw (lW I hg hm ?_ hdb)
  refine PySem.W.callWith_K (h₀ := X.base) I.ok.mod.kin hk (da (ha pos pins s σ H _ I h) fun us s1 ⟨vs, H1, I1, r, q⟩ => ⟨I1.kIn, ?_⟩) he hpl
  exact AG F hr hb hd hx I1 r q
structure Mk (K : PySem.W.Frag) (C f : Addr) : Prop where
  makes : PySem.W.makesIn K C = true
  init : PySem.W.findIn K (.ref C) "__init__" = some (some (.ref f))
  fn : PySem.W.isFn K (.ref f) = true
  kp : PySem.W.keepIn K (.ref C) = true
theorem vU {pins : List (Addr × Obj)} {σ : St} {H : Hp} {s : Shared} {Q : VK} {us : List Value} {vs : List V} (M : Mk X.K C f) (F : bf X.prog X.w X.K X.mg X.base CX k f fd ps sp) (hr : dQ (k + 1) X.A) (hb : gH X.K fd ps ds) (hd : bw dvs ds)
    (hx : my CX X E) (I : aU X pins σ H s) (r : bw vs us)
    (h : ∀ x dx, H x = none → H dx = none → dx ≠ x → sp (.ref x :: (vs ++ dvs)) (cx (cx H dx (.own x)) x (.ins C dx [])) (fun v H2 => v = .non ∧ Q (.ref x) H2) E) :
    wpAny (model X.prog X.w) X.A (call (.ref C) us) (EP X pins σ Q) X.xe s := by
  have hq := h (s.heap.objs.size + 1) s.heap.objs.size (I.hok.fresh (Nat.le_succ _)) (I.hok.fresh (Nat.le_refl _)) (Nat.ne_of_lt (Nat.lt_succ_self _))
  have I2 := aU.made (C := C) I
  have r2 : bw (V.ref (s.heap.objs.size + 1) :: (vs ++ dvs)) (Value.ref (s.heap.objs.size + 1) :: (us ++ ds)) := .cons rfl (r.append hd)
  have hl : (Value.ref (s.heap.objs.size + 1) :: us ++ ds).length = ps.length := by
    have e := r2.length
    rw [F.len _ _ _ _ hq] at e
    exact e.symm
  refine wpAny_call (vX (f := f) I.kIn M.makes M.init (beq_iff_eq.mp M.fn) (codeAny_mono (F.run _ X.stack _ _ ⟨Value.ref (s.heap.objs.size + 1) :: us, []⟩ (Value.ref (s.heap.objs.size + 1) :: (us ++ ds)) _ _ E (hr.make C us [])
    (I2.env0.make C us []) (hb _ (Value.ref (s.heap.objs.size + 1) :: us) I2.kIn hl) r2 hq) fun r s' hq' => ?_))
  cases r with
  | error e => exact hx pins σ _ _ e s' I2 hq'
  | ok fl =>
    cases fl with
    | ret u =>
      obtain ⟨v, H', I3, rv, ev, q3⟩ := I2.after hq'
      subst ev
      exact ⟨rv, ⟨V.ref (s.heap.objs.size + 1), H', I3, rfl, q3⟩⟩
    | next => exact False.elim hq'
    | brk => exact False.elim hq'
    | cont => exact False.elim hq'
theorem xZ (M : Mk X.K C f) (F : bf X.prog X.w X.K X.mg X.base CX k f fd ps sp) (hr : dQ (k + 1) X.A) (hg : Gl X x) (hm : X.mg x = some (.ref C)) (hb : gH X.K fd ps ds) (hd : bw dvs ds) (hx : my CX X E)
    (ha : PA X (e :: es) t) (hdb : (x == ("__debug__" : Str)) = false := by decide) (he : starEach (e :: es) X.env = (false, eval e X.env) :: starEach es X.env := by rfl) (hpl : (backTo pos (starEach es X.env)).any (·.1) = false := by rfl) :
    PE X (.Call (.Name x p) (e :: es) [] pos) (Bu C sp dvs E t) := by
  intro pins s σ H Q I h
  refine wpAny_Call_Name_kw (lW I hg hm ?_ hdb)
  refine PySem.W.callWith_K (h₀ := X.base) I.ok.mod.kin M.kp (da (ha pos pins s σ H _ I h) fun us s1 ⟨vs, H1, I1, r, q⟩ => ⟨I1.kIn, ?_⟩) he hpl
  exact vU M F hr hb hd hx I1 r q
end
structure a5 (N P : List Str) (sc : Scope) : Prop where
  kind : sc.kind = .function
  co : sc.isCoroutine = false
  gen : sc.isGenerator = false
  nd : N.Nodup
  pre : N.take P.length = P
  par : ∀ x ∈ P, sc.names.lookup x = some .local ∨ sc.names.lookup x = some .cell
  nofree : ∀ y ∈ sc.names, y.2 ≠ .free
theorem oq {kindOf : Str → Option NameKind} {x : Str} : ∀ {binds : List (Str × Value)} {m : Str → Option Value}, (∀ v, (x, v) ∉ binds) → bindL kindOf binds m x = m x
  | [], _, _ => rfl
  | (n, v) :: r, m, h => by
    unfold bindL
    rw [oq fun w hw => h w (List.mem_cons_of_mem _ hw)]
    split
    · have : x ≠ n := by rintro rfl; exact h v List.mem_cons_self
      simp [this]
    · rfl
theorem n6 {kindOf : Str → Option NameKind} {x : Str} : ∀ {binds : List (Str × Value)} {m : Str → Option Value}, (∀ v, (x, v) ∉ binds) → bindC kindOf binds m x = m x
  | [], _, _ => rfl
  | (n, v) :: r, m, h => by
    unfold bindC
    rw [n6 fun w hw => h w (List.mem_cons_of_mem _ hw)]
    split
    · rfl
    · have : x ≠ n := by rintro rfl; exact h v List.mem_cons_self
      simp [this]
theorem oa {kindOf : Str → Option NameKind} {x : Str} {v : Value} : ∀ {P : List Str} {vs : List Value} {i : Nat} {m : Str → Option Value}, P.Nodup → P[i]? = some x → vs[i]? = some v → kindOf x = some .local →
    bindL kindOf (P.zip vs) m x = some v
  | [], _, _, _, _, h, _, _ => by simp at h
  | _ :: _, [], _, _, _, _, h, _ => by simp at h
  | p :: P, w :: vs, 0, m, nd, h1, h2, hk => by
    simp at h1 h2; subst h1; subst h2
    show bindL kindOf ((p, w) :: P.zip vs) m p = _
    unfold bindL
    rw [oq fun v hv => (List.nodup_cons.mp nd).1 (List.of_mem_zip hv).1, if_pos hk]
    simp
  | p :: P, w :: vs, i + 1, m, nd, h1, h2, hk => by
    show bindL kindOf ((p, w) :: P.zip vs) m x = _
    unfold bindL
    exact oa (i := i) (List.nodup_cons.mp nd).2 (by simpa using h1) (by simpa using h2) hk
theorem nZ {kindOf : Str → Option NameKind} {x : Str} {v : Value} : ∀ {P : List Str} {vs : List Value} {i : Nat} {m : Str → Option Value}, P.Nodup → P[i]? = some x → vs[i]? = some v → kindOf x ≠ some .local →
    bindC kindOf (P.zip vs) m x = some v
  | [], _, _, _, _, h, _, _ => by simp at h
  | _ :: _, [], _, _, _, _, h, _ => by simp at h
  | p :: P, w :: vs, 0, m, nd, h1, h2, hk => by
    simp at h1 h2; subst h1; subst h2
    show bindC kindOf ((p, w) :: P.zip vs) m p = _
    unfold bindC
    rw [n6 fun v hv => (List.nodup_cons.mp nd).1 (List.of_mem_zip hv).1, if_neg hk]
    simp
  | p :: P, w :: vs, i + 1, m, nd, h1, h2, hk => by
    show bindC kindOf ((p, w) :: P.zip vs) m x = _
    unfold bindC
    exact nZ (i := i) (List.nodup_cons.mp nd).2 (by simpa using h1) (by simpa using h2) hk
def iu (N : List Str) (vs : List V) : St := vs.map some ++ List.replicate (N.length - vs.length) none
def ff (CX : vB) (P : Program) (w : World) (K : PySem.W.Frag) (mg : Str → Option Value) (base : Heap) (N : List Str) (qual : Str) (scope : Scope) (f : Addr) (cd : Value) (A : Around) (outer : List Env) (s : Shared) (H : Hp) (E : XK) : Cx where
  prog := P
  w := w
  K := K
  mg := mg
  base := base
  A := A.deeper (envOfC qual scope s.heap.objs.size f cd)
  N := N
  s₀ := s
  H₀ := H
  env := envOfC qual scope s.heap.objs.size f cd
  outer := outer
  stack := envOfC qual scope s.heap.objs.size f cd :: outer
  ex := []
  calm := true
  fn := fun _ => true
  pn := []
  xe := fun e s' => wpAny (model P w) (A.deeper (envOfC qual scope s.heap.objs.size f cd)) (leaving (envOfC qual scope s.heap.objs.size f cd) e) (fun _ s'' => CX outer H s E e s'') (fun e' s'' => CX outer H s E e' s'') s'
theorem qO {sc : Scope} {n : Nat} {x : Str} (h : sc.names.lookup x = some .cell) : ∃ c, (cellsFrom n sc.names []).lookup x = some c := by
  have q := PySem.W.cellsFrom_some sc.names n [] (.inl h)
  exact Option.isSome_iff_exists.mp q
theorem vj {CX : vB} {P : Program} {w : World} {K : PySem.W.Frag} {mg : Str → Option Value} {base : Heap} {N ps : List Str} {qual : Str} {scope : Scope} {f : Addr} {cd : Value} {A : Around} {outer : List Env} {s s1 : Shared} {H : Hp} {E : XK} {us : List Value} {vs : List V}
    (S : a5 N ps scope) (hd : A.handled = none) (e0 : sD P w K mg base A outer s H) (hl : vs.length = ps.length) (r : bw vs us)
    (x : InCallC s s.heap.objs.size (bindL (envOfC qual scope s.heap.objs.size f cd).kindOf (ps.zip us) fun _ => none) (cellsFrom (s.heap.objs.size + 1) scope.names []) (bindC (envOfC qual scope s.heap.objs.size f cd).kindOf (ps.zip us) fun _ => none) s1) :
    aU (ff CX P w K mg base N qual scope f cd A outer s H E) [] (iu N vs) H s1 := by
  have hpl : ps.length ≤ N.length := by have := congrArg List.length S.pre; rw [List.length_take] at this; omega
  obtain ⟨h1, tk, rfl, hk⟩ := x.done
  have noA : ∀ b : Addr, b ∉ (ff CX P w K mg base N qual scope f cd A outer s H E).ex := fun b z => absurd (show b ∈ ([] : List Addr) from z) (by simp)
  refine ⟨⟨e0.mod, S.kind, rfl, rfl, Nat.le_refl _, fun y z c h1 h2 => ?_, fun y hy => ?_, fun y c _ h => ?_, fun _ => hd, Around.frames_deeper e0.frames, .inr ⟨rfl, rfl⟩, fun b z => absurd z (noA b), e0.bs, e0.bsz, fun b _ _ => noA b, fun b z => absurd z (noA b), e0.funs, e0.frf⟩,
    rfl, e0.bare, Un.kept hk, ⟨_, x.toInCall.ns, fun i y v h1 h2 h3 => ?_⟩, fun y c h => ⟨_, x.cell y c h⟩, e0.hok.fresh (Nat.le_refl _), fun y c h => ?_, fun p hp => absurd (show p ∈ ([] : List (Addr × Obj)) from hp) (by simp), e0.hok.kept hk, ?_⟩
  · exact name_of_addr x.apart (PySem.mem_of_lookup h1) (PySem.mem_of_lookup h2)
  · have hy : scope.names.lookup y = some .cell ∨ scope.names.lookup y = some .free := hy
    rcases hy with hy | hy
    · exact qO hy
    · exact absurd rfl (S.nofree _ (PySem.mem_of_lookup hy))
  · exact Nat.le_of_lt (x.above y c (PySem.mem_of_lookup h))
  · have hi : i < vs.length := by
      unfold iu at h2
      by_cases hi : i < vs.length
      · exact hi
      · rw [List.getElem?_append_right (by simpa using hi)] at h2
        rw [List.getElem?_replicate] at h2
        split at h2 <;> cases h2
    have ha : vs[i]? = some v := by
      unfold iu at h2
      rw [List.getElem?_append_left (by simpa using hi), List.getElem?_map] at h2
      cases e : vs[i]? with
      | none => rw [e] at h2; cases h2
      | some a => rw [e] at h2; cases h2; rfl
    obtain ⟨u, hu, rv⟩ := r.get ha
    have hp : ps[i]? = some y := by
      rw [← S.pre, List.getElem?_take_of_lt (by omega)]; exact h1
    have ndP : ps.Nodup := by rw [← S.pre]; exact S.nd.sublist (List.take_sublist _ _)
    refine ⟨u, rv, ?_⟩
    rcases S.par y (List.mem_of_getElem? hp) with k | k
    · exact .inl ⟨k, oa ndP hp hu k⟩
    · obtain ⟨c, e⟩ := qO (n := s.heap.objs.size + 1) k
      refine .inr ⟨.inl k, c, e, ?_⟩
      have q := x.cell y c e
      rw [nZ ndP hp hu (by show scope.names.lookup y ≠ _; rw [k]; decide)] at q
      exact q
  · exact e0.hok.fresh (Nat.le_of_lt (x.above y c (PySem.mem_of_lookup h)))
  · unfold iu
    show _ = N.length
    rw [List.length_append, List.length_map, List.length_replicate]
    omega
theorem wM {CX : vB} {P : Program} {w : World} {K : PySem.W.Frag} {mg : Str → Option Value} {base : Heap} {k : Nat} {f : Addr} {name qual : Str} {params : Arguments} {body : List Stmt} {scope : Scope} {dV kV doc pm cdv ct oc : Value} {an od : Option Addr}
    {osl : Array (Option Value)} {N ps : List Str} {sp : Sp} (lk : K.lookup f = some ⟨oc, od, .func (PySem.W.fnOf name qual params body scope dV kV doc pm an cdv ct), osl⟩) (hcd : PySem.W.codeIn K cdv qual = true) (S : a5 N ps scope)
    (len : ∀ vs H Q E, sp vs H Q E → vs.length = ps.length)
    (hbody : ∀ (A : Around) (outer : List Env) (s : Shared) (H : Hp) (vs : List V) (Q : VK) (E : XK), dQ k (A.deeper (envOfC qual scope s.heap.objs.size f cdv)) → sp vs H Q E →
      ∃ t, o8 (ff CX P w K mg base N qual scope f cdv A outer s H E) body t ∧ t { nx := fun _ H' => Q .non H', rt := Q } (iu N vs) H) :
    bf P w K mg base CX (k + 1) f (PySem.W.fnOf name qual params body scope dV kV doc pm an cdv ct) ps sp := by
  refine ⟨len, fun A outer s H args us vs Q E hr e0 hb r hsp => ?_⟩
  have hl := len _ _ _ _ hsp
  have KX : K.In s.heap := e0.mod.kin.keeps fun b o e => (e0.bs b o e).1
  have lim : s.heap.NoLimit := e0.mod.nolimit.keeps fun b o e => (e0.bs b o e).1
  have hkind : ∀ y ∈ ps.zip us, scope.names.lookup y.1 = some .local ∨ (scope.names.lookup y.1 = some .cell ∧ ((cellsFrom (s.heap.objs.size + 1) scope.names []).lookup y.1).isSome = true) := fun ⟨n, v⟩ hy => by
    rcases S.par n (List.of_mem_zip hy).1 with q | q
    · exact .inl q
    · exact .inr ⟨q, PySem.W.cellsFrom_some _ _ _ (.inl q)⟩
  refine codeAny_call_function hr.depth (KX _ _ lk) rfl S.co S.gen rfl (PySem.W.codeRec_of KX hcd) (hb _ _ _ _ ?_)
  refine wpAny_newFunctionEnv_cells S.kind hkind fun env he s1 x => ?_
  subst he
  refine ⟨lim.keeps x.toInCall.keep, codeAny_func ?_⟩
  obtain ⟨t, ht, hq⟩ := hbody A outer s H vs Q E (hr.deeper _) hsp
  have I : aU (ff CX P w K mg base N qual scope f cdv A outer s H E) [] (iu N vs) H s1 := vj S hr.hd e0 hl r x
  refine wpAny_mono (ht [] s1 (iu N vs) H _ I hq) (fun fl s' hs => ?_) fun e s' hs => hs
  have fin : ∀ {σ' : St} {H' : Hp} {v : V} {u : Value}, aU (ff CX P w K mg base N qual scope f cdv A outer s H E) [] σ' H' s' → bM v u → Q v H' → CE outer P w H s Q u s' :=
    fun {σ' H' v u} J rv q => ⟨v, H', J.os, J.bare, J.base, J.hok, rv, q⟩
  cases fl with
  | ret u =>
    obtain ⟨v, σ', H', J, rv, q⟩ := hs
    exact fin J rv q
  | next =>
    obtain ⟨σ', H', J, q⟩ := hs
    exact fin (v := V.non) (u := Value.none) J rfl q
  | brk =>
    obtain ⟨_, _, _, q⟩ := hs
    exact False.elim q
  | cont =>
    obtain ⟨_, _, _, q⟩ := hs
    exact False.elim q
section
variable {X : Cx} {x : Str} {p pos : Pos} {e : Expr} {es : List Expr} {t : TA} {id T : String} {r : List V → Hp → VK → Prop}
def Cc (r : List V → Hp → VK → Prop) (t : TA) : TE := fun σ H Q => t σ H fun vs H1 => r vs H1 Q
theorem nr (hc : dq X (.builtin id) r) (hg : Gl X x) (hm : X.mg x = none) (hv : bootBuiltins x = some (.builtin id)) (ha : PA X (e :: es) t) (hn : x ≠ "__name__" := by decide) (hdb : (x == ("__debug__" : Str)) = false := by decide)
    (he : starEach (e :: es) X.env = (false, eval e X.env) :: starEach es X.env := by rfl) (hpl : (backTo pos (starEach es X.env)).any (·.1) = false := by rfl) : PE X (.Call (.Name x p) (e :: es) [] pos) (Cc r t) := by
  intro pins s σ H Q I h
  refine wpAny_Call_Name_kw (iJ I hg hm hv ?_ hn hdb)
  exact PyProof.Rows.callWith_builtin1 (da (ha pos pins s σ H _ I h) fun us s1 ⟨vs, H1, I1, r1, q1⟩ => hc pins s1 σ H1 vs us Q I1 r1 q1) he hpl
theorem uI (hc : dq X (.type T) r) (hg : Gl X x) (hm : X.mg x = none) (hv : bootBuiltins x = some (.type T)) (ha : PA X (e :: es) t) (hn : x ≠ "__name__" := by decide) (hdb : (x == ("__debug__" : Str)) = false := by decide)
    (he : starEach (e :: es) X.env = (false, eval e X.env) :: starEach es X.env := by rfl) (hpl : (backTo pos (starEach es X.env)).any (·.1) = false := by rfl) : PE X (.Call (.Name x p) (e :: es) [] pos) (Cc r t) := by
  intro pins s σ H Q I h
  refine wpAny_Call_Name_kw (iJ I hg hm hv ?_ hn hdb)
  exact PyProof.Rows.callWith_type1 (da (ha pos pins s σ H _ I h) fun us s1 ⟨vs, H1, I1, r1, q1⟩ => hc pins s1 σ H1 vs us Q I1 r1 q1) he hpl
end
end L2
namespace HT
open PySem PyProof.Rows
section
open PySem.SeqAt
open PySem.AutoSeq1 (wpAny_loadPart')
open PySem.MeetsSeq PySem.MeetsSeq2 PySem.MeetsSeq3
end
section
variable {prog : Program} {w : World} {A : Around} {E : Value → Shared → Prop} {s : Shared}
theorem cat_tup {t b : Addr} {vs ws : List Value} {Q : Value → Shared → Prop} (ht : IsTup s.heap t vs.toArray) (hb : IsTup s.heap b ws.toArray) (hv : vs ≠ [])
    (h1 : ws = [] → Q (.ref t) s) (h2 : ws ≠ [] → Q (.ref s.heap.objs.size) { s with heap := s.heap.push { cls := .type "tuple", data := .seq (vs ++ ws).toArray } })
    (hsz : vs.length + ws.length ≤ sizeLine) : wpAny (model prog w) A (binaryOp .Add (.ref t) (.ref b)) Q E s := by
  obtain ⟨⟨cls, dd, data, sl⟩, ho, hc, n, hd⟩ := id ht
  obtain ⟨⟨cls2, dd2, data2, sl2⟩, ho2, hc2, n2, hd2⟩ := id hb
  simp only at hc hd hc2 hd2
  subst hc hd hc2 hd2
  have e : vs.toArray ++ ws.toArray = (vs ++ ws).toArray := by simp
  by_cases hw : ws = []
  · exact concat_meets ⟨_, ho, rfl⟩ ⟨_, ho2, rfl⟩ noFill_tuple_add seq_tuple_add PySem.F.slot_tuple_add PySem.F.entry_tuple_add (PySem.F.args_tuple_add_2 _ _)
      (tuple_addW1 t b vs.toArray ws.toArray n n2 dd dd2 sl sl2 (by simpa using hv) (by simp [hw])) ⟨ho, ho2, h1 hw⟩
  · refine concat_meets ⟨_, ho, rfl⟩ ⟨_, ho2, rfl⟩ noFill_tuple_add seq_tuple_add PySem.F.slot_tuple_add PySem.F.entry_tuple_add (PySem.F.args_tuple_add_2 _ _)
      (tuple_addW2 t b vs.toArray ws.toArray n n2 dd dd2 sl sl2 (by simpa using hv) (by simpa using hw) (by rw [List.size_toArray, List.size_toArray]; exact hsz)) ⟨ho, ho2, ?_⟩
    rw [e]
    exact h2 hw
def sIx (n d : Nat) : Option Int → Nat
  | none => d
  | some v => if v < 0 then (v + (n : Int)).toNat else min v.toNat n
end
end HT
namespace L2
open PySem PySem.Spec PyProof.Rows
theorem jI {ns : List Int} : ∀ {us : List Value}, bw (ns.map V.int) us → IntsAre us ns := by
  induction ns with
  | nil => intro us r; rw [List.map_nil] at r; cases r; exact .nil
  | cons n ns ih =>
    intro us r
    rw [List.map_cons] at r
    cases r with
    | cons r1 r2 =>
      obtain ⟨t, e⟩ := r1
      subst e
      exact .cons n t (ih r2)
section
variable {X : Cx} {e : Expr} {te : TE} {lo hi : Option Expr} {tl th : TO} {pos p2 : Pos}
def CY (X : Cx) (r : V → Option Int → Option Int → Hp → VK → Prop) : Prop :=
  ∀ (pins : List (Addr × Obj)) (s : Shared) (σ : St) (H : Hp) (x : V) (v vl vu : Value) (lo hi : Option Int) (sl : Addr) (Q : VK), aU X pins σ H s → bM x v → s.heap.IsSliceOf sl vl vu .none → IsPart vl lo → IsPart vu hi → r x lo hi H Q →
    ∃ T id, typeLookup (.type T) "__getitem__" = pure (some (.builtin id)) ∧ s.TypeIs v T ∧ wpAny (model X.prog X.w) X.A (getItem v (.ref sl)) (EP X pins σ Q) X.xe s
def xz (xs : List V) (lo hi : Option Int) : List V := (xs.drop (HT.sIx xs.length 0 lo)).take (HT.sIx xs.length xs.length hi - HT.sIx xs.length 0 lo)
theorem qB (xs : List V) (lo hi : Option Int) : (xz xs lo hi).length ≤ xs.length := by
  unfold xz
  rw [List.length_take, List.length_drop]
  omega
def yR (K : PySem.W.Frag) : R2 := fun x y H Q => ∃ a b xs ys, x = .ref a ∧ y = .ref b ∧ i4 K H a xs ∧ i4 K H b ys ∧ xs ≠ [] ∧ xs.length + ys.length ≤ sizeLine ∧
  (ys = [] → Q (.ref a) H) ∧ (ys ≠ [] → ∀ p, H p = none → Q (.ref p) (cx H p (.tup (xs ++ ys))))
theorem bw.nil_iff {xs : List V} {us : List Value} (r : bw xs us) : us = [] ↔ xs = [] := by
  cases r with
  | nil => simp
  | cons _ _ => simp
theorem yu : ix X (binaryOp .Add) (yR X.K) := by
  intro pins s σ H x y v u Q I rx ry h
  obtain ⟨a, b, xs, ys, rfl, rfl, ha, hb, hx, hz, q1, q2⟩ := h
  cases rx
  cases ry
  obtain ⟨its, r1, p1, _⟩ := I.tuple ha
  obtain ⟨its2, r2, p2, _⟩ := I.tuple hb
  refine HT.cat_tup p1 p2 (fun z => hx (r1.nil_iff.mp z)) (fun z => ⟨.ref a, H, I, rfl, q1 (r2.nil_iff.mp z)⟩) (fun z => ?_) (by rw [← r1.length, ← r2.length]; exact hz)
  refine ⟨.ref s.heap.objs.size, _, I.laid (t' := s.toks) (o := .tup (xs ++ ys)) (fun b ob q => Heap.get?_push_of_some _ q) (Nat.le_refl _) ?_, rfl, q2 (fun w => z (r2.nil_iff.mpr w)) _ (I.hok.fresh (Nat.le_refl _))⟩
  exact ⟨by rw [List.length_append]; exact hz, _, r1.append r2, IsTup.new _ _⟩
end
def tL (n : Nat) (i : Int) : Option Nat := if 0 ≤ i then (if i < n then some i.toNat else none) else if -(n : Int) ≤ i then some (i + n).toNat else none
def atI {α : Type} (xs : List α) (i : Int) : Option α := (tL xs.length i).bind fun j => xs[j]?
theorem tV {n : Nat} {i : Int} {j : Nat} (h : tL n i = some j) : seqIndex? i n = some j ∧ j < n ∧ -(n : Int) ≤ i ∧ i < n := by
  unfold tL at h
  by_cases h0 : 0 ≤ i
  · rw [if_pos h0] at h
    by_cases h1 : i < n
    · rw [if_pos h1] at h
      have e : i.toNat = j := Option.some.inj h
      exact ⟨by rw [seqIndex_of h0 h1, e], by omega, by omega, h1⟩
    · rw [if_neg h1] at h; cases h
  · rw [if_neg h0] at h
    by_cases h1 : -(n : Int) ≤ i
    · rw [if_pos h1] at h
      have e : (i + n).toNat = j := Option.some.inj h
      exact ⟨by rw [seqIndex_neg (by omega) h1, e], by omega, h1, by omega⟩
    · rw [if_neg h1] at h; cases h
theorem pS {α : Type} {xs : List α} {i : Int} {v : α} (h : atI xs i = some v) : ∃ j, seqIndex? i xs.length = some j ∧ xs[j]? = some v ∧ j < xs.length ∧ -(xs.length : Int) ≤ i ∧ i < xs.length := by
  unfold atI at h
  cases e : tL xs.length i with
  | none => rw [e] at h; cases h
  | some j =>
    rw [e] at h
    obtain ⟨h1, h2, h3, h4⟩ := tV e
    exact ⟨j, h1, h, h2, h3, h4⟩
theorem pO {α : Type} {xs : List α} {j : Nat} {v : α} (h : xs[j]? = some v) : atI xs (j : Int) = some v := by
  have hj : j < xs.length := (List.getElem?_eq_some_iff.mp h).1
  have e : tL xs.length (j : Int) = some j := by
    unfold tL
    rw [if_pos (by omega), if_pos (by omega)]; simp
  unfold atI; rw [e]; exact h
def pT (b : Expr) : Prop := ∀ o i, subscripted b false o i = operate [o, i] (getItem o i)
def yh (X : Cx) (r : R2) : Prop :=
  ∀ (value slice : Expr) (pins : List (Addr × Obj)) (s : Shared) (σ : St) (H : Hp) (x y : V) (v u : Value) (Q : VK), aU X pins σ H s → bM x v → bM y u → r x y H Q →
    subscripted slice false v u = operate [v, u] (getItem v u) → wpAny (model X.prog X.w) X.A (subscriptTail value slice v u) (EP X pins σ Q) X.xe s
def Dc (X : Cx) (id : String) (r : V → List V → Hp → VK → Prop) : Prop :=
  ∀ (pins : List (Addr × Obj)) (s : Shared) (σ : St) (H : Hp) (x : V) (xs : List V) (v : Value) (us : List Value) (Q : VK), aU X pins σ H s → bM x v → bw xs us → r x xs H Q →
    wpAny (model X.prog X.w) X.A (call (.builtin id) (v :: us)) (EP X pins σ Q) X.xe s
section
variable {X : Cx} {a b : Expr} {ta tb : TE} {pos : Pos}
theorem yh.or {r r' : R2} (h : yh X r) (h' : yh X r') : yh X (fun x y H Q => r x y H Q ∨ r' x y H Q) := by
  intro value slice pins s σ H x y v u Q I rx ry q hs
  rcases q with q | q
  · exact h value slice pins s σ H x y v u Q I rx ry q hs
  · exact h' value slice pins s σ H x y v u Q I rx ry q hs
theorem A3 {r : R2} (hr : yh X r) (ha : PE X a ta) (hb : PE X b tb) (hs : pT b) : PE X (.Subscript a b pos) (Bf r ta tb) := by
  intro pins s σ H Q I h
  exact Subscript_ (AD ha hb I h fun v u s2 x y H2 I2 rx ry q => hr a b pins s2 σ H2 x y v u Q I2 rx ry q (hs _ _))
def Bz (K : PySem.W.Frag) : R2 := fun x y H Q => ∃ p xs i v, x = .ref p ∧ y = .int i ∧ lZ K H p xs ∧ atI xs i = some v ∧ Q v H
def BR (K : PySem.W.Frag) : R2 := fun x y H Q => ∃ p xs i v, x = .ref p ∧ y = .int i ∧ i4 K H p xs ∧ atI xs i = some v ∧ Q v H
def BP : R2 := fun x y H Q => ∃ z i c, x = .str z ∧ y = .int i ∧ z.length ≤ sizeLine ∧ atI z.cps.toList i = some c ∧ Q (.str ⟨#[c]⟩) H
theorem xW : yh X (Bz X.K) := by
  intro value slice pins s σ H x y v u Q I rx ry h hs
  obtain ⟨p, xs, i, z, rfl, rfl, hq, he, q⟩ := h
  cases rx
  obtain ⟨t, rfl⟩ := ry
  obtain ⟨its, r, pl, hz⟩ := I.list hq
  obtain ⟨j, h1, h2, h3, h4, h5⟩ := pS he
  obtain ⟨w, ew, rw'⟩ := r.get h2
  have hl := r.length
  have hn := kM
  have fin : EP X pins σ Q w s := ⟨z, H, I, rw', q⟩
  by_cases h0 : 0 ≤ i
  · have hj : i.toNat = j := by
      rw [seqIndex_of h0 h5] at h1
      exact Option.some.inj h1
    exact item_listR pl.isList h0 (by omega) (by rw [hj]; simpa using ew) fin hs
  · have hj : (i + (its.toArray.size : Int)).toNat = j := by
      rw [seqIndex_neg (by omega) h4] at h1
      rw [List.size_toArray, ← hl]
      exact Option.some.inj h1
    exact subscriptTail_builtinR (x := w) pl.isList.typeIs slot_list_getitem.lookup
      (wpAny_getItem_list_neg (Q := fun r s' => r = w ∧ EP X pins σ Q r s') pl.isList (by omega) (by rw [List.size_toArray] <;> omega) (by omega) (by rw [hj]; simpa using ew) ⟨rfl, fin⟩) hs
theorem zq : yh X (BR X.K) := by
  intro value slice pins s σ H x y v u Q I rx ry h hs
  obtain ⟨p, xs, i, z, rfl, rfl, hq, he, q⟩ := h
  cases rx
  obtain ⟨t, rfl⟩ := ry
  obtain ⟨its, r, pl, hz⟩ := I.tuple hq
  obtain ⟨j, h1, h2, h3, h4, h5⟩ := pS he
  obtain ⟨w, ew, rw'⟩ := r.get h2
  have hl := r.length
  have hn := kM
  have fin : EP X pins σ Q w s := ⟨z, H, I, rw', q⟩
  exact subscriptTail_builtinR (x := w) pl.typeIs slot_tuple_getitem.lookup
    (getItem_tuple (j := j) (Q := fun r s' => r = w ∧ EP X pins σ Q r s') pl (by omega) (by omega) (by rw [List.size_toArray, ← hl]; exact h1) (by simpa using ew) ⟨rfl, fin⟩) hs
theorem zH : yh X BP := by
  intro value slice pins s σ H x y v u Q I rx ry h hs
  obtain ⟨z, i, c, rfl, rfl, hz, he, q⟩ := h
  obtain ⟨t, rfl⟩ := rx
  obtain ⟨t', rfl⟩ := ry
  obtain ⟨j, h1, h2, h3, h4, h5⟩ := pS he
  have hl : z.cps.toList.length = z.length := by simp [Str.length]
  rw [hl] at h1 h4 h5
  have hn := kM
  exact tail_any (typeIs_str s z t) slot_str_getitem.lookup (getItem_str (c := c) (by
    have e1 : decide (i < -(2 ^ 63 : Int)) = false := decide_eq_false (by omega)
    have e2 : decide (i ≥ 2 ^ 63) = false := decide_eq_false (by omega)
    rw [e1, e2, Bool.or_false]) (by rw [h1]; simpa using h2) ⟨.str ⟨#[c]⟩, H, I.tok _, ⟨_, rfl⟩, q⟩) hs
theorem sR (its : List Value) (n j : Nat) (u : Value) : Obj.mapSeq (·.setIfInBounds j u) { cls := .type "list", data := .seq its.toArray n } = { cls := .type "list", data := .seq (its.set j u).toArray n } := by
  simp [Obj.mapSeq]
theorem aU.lst {pins : List (Addr × Obj)} {σ : St} {H : Hp} {s : Shared} {p : Addr} {xs : List V} (I : aU X pins σ H s) (h : H p = some (.lst xs)) :
    ∃ (its : List Value) (n : Nat), bw xs its ∧ s.heap.get? p = some { cls := .type "list", data := .seq its.toArray n } ∧ xs.length ≤ sizeLine := by
  obtain ⟨z, its, n, r, e⟩ := I.hok p _ h
  exact ⟨its, n, r, e, z⟩
theorem aU.lstUpd {pins : List (Addr × Obj)} {σ : St} {H : Hp} {s : Shared} {p : Addr} {xs ys : List V} {its its' : List Value} {n n' : Nat} {f : Obj → Obj} (I : aU X pins σ H s) (h : H p = some (.lst xs))
    (ho : s.heap.get? p = some { cls := .type "list", data := .seq its.toArray n }) (hf : f { cls := .type "list", data := .seq its.toArray n } = { cls := .type "list", data := .seq its'.toArray n' }) (r : bw ys its') (hz : ys.length ≤ sizeLine) (t : Nat) :
    aU X pins σ (cx H p (.lst ys)) { s with heap := s.heap.update p f, toks := t } := by
  have e : (s.heap.update p f).get? p = some { cls := .type "list", data := .seq its'.toArray n' } := by
    rw [Heap.get?_update_self f ho (by rw [hf] <;> rfl), hf]
  refine I.write (x := p) (e := p) (by rw [h]; trivial) (.inl rfl) (fun b u hb q => (Heap.get?_update_other _ _ (Ne.symm hb)).trans q) ⟨_, e⟩ ?_
  exact ⟨hz, its', n', r, e⟩
def BS : V → V → V → Hp → (Hp → Prop) → Prop := fun o i v H Q => ∃ p xs k j, o = .ref p ∧ i = .int k ∧ H p = some (.lst xs) ∧ tL xs.length k = some j ∧ Q (cx H p (.lst (xs.set j v)))
theorem xb : BT X BS := by
  intro pins s σ H o i v ov iv u Q I ro ri rv h
  obtain ⟨p, xs, k, j, rfl, rfl, hp, hj, q⟩ := h
  cases ro
  obtain ⟨t, rfl⟩ := ri
  obtain ⟨its, n, r, ho, hz⟩ := I.lst hp
  obtain ⟨h1, h2, h3, h4⟩ := tV hj
  have hl := r.length
  have hn := kM
  have I' : aU X pins σ (cx H p (.lst (xs.set j v))) { s with heap := s.heap.update p (Obj.mapSeq (·.setIfInBounds j u)) } :=
    I.lstUpd hp ho (sR its n j u) (r.set rv j) (by rw [List.length_set]; exact hz) s.toks
  by_cases h0 : 0 ≤ k
  · have hk : k.toNat = j := by
      rw [seqIndex_of h0 h4] at h1
      exact Option.some.inj h1
    exact PySem.W.ki_setAt ho h0 (by omega) (by rw [List.size_toArray, ← hl]; exact h4) (by rw [hk]; exact ⟨_, I', q⟩)
  · have hk : (k + (its.toArray.size : Int)).toNat = j := by
      rw [seqIndex_neg (by omega) h3] at h1
      rw [List.size_toArray, ← hl]
      exact Option.some.inj h1
    exact PySem.W.ki_setBack ho (by omega) (by rw [List.size_toArray, ← hl]; exact h3) (by omega) (by rw [hk]; exact ⟨_, I', q⟩)
theorem pr (lo hi : Option Int) (n : Nat) : (sliceBounds lo hi none n).1 = ((HT.sIx n 0 lo : Nat) : Int) ∧ (sliceBounds lo hi none n).2.1 = ((HT.sIx n n hi : Nat) : Int) ∧ (sliceBounds lo hi none n).2.2 = 1 := by
  refine ⟨?_, ?_, rfl⟩
  · cases lo with
    | none => simp [sliceBounds, HT.sIx]
    | some i =>
      simp only [sliceBounds, HT.sIx, Option.getD_none, show (1 : Int) > 0 by decide, if_true]
      by_cases h : i < 0
      · simp only [h, if_true] <;> omega
      · simp only [h, if_false] <;> omega
  · cases hi with
    | none => simp [sliceBounds, HT.sIx]
    | some i =>
      simp only [sliceBounds, HT.sIx, Option.getD_none, show (1 : Int) > 0 by decide, if_true]
      by_cases h : i < 0
      · simp only [h, if_true] <;> omega
      · simp only [h, if_false] <;> omega
theorem nM (its : List Value) (lo hi : Option Int) : slicePick its.toArray lo hi none = ((its.drop (HT.sIx its.length 0 lo)).take (HT.sIx its.length its.length hi - HT.sIx its.length 0 lo)).toArray := by
  obtain ⟨h1, h2, h3⟩ := pr lo hi its.toArray.size
  unfold slicePick
  rw [h1, h2, h3]
  simp only [sliceRange_one, pick_run, List.size_toArray] <;> rfl
def Ch (K : PySem.W.Frag) : V → Option Int → Option Int → Hp → VK → Prop := fun x lo hi H Q => ∃ a xs, x = .ref a ∧ lZ K H a xs ∧ ∀ p, H p = none → Q (.ref p) (cx H p (.lst (xz xs lo hi)))
theorem B5 : CY X (Ch X.K) := by
  intro pins s σ H x v vl vu lo hi sl Q I rx hs pl pu h
  obtain ⟨a, xs, rfl, hx, q⟩ := h
  cases rx
  obtain ⟨its, r, ht, hz⟩ := I.list hx
  have hlen := r.length
  refine ⟨"list", _, slot_list_getitem.lookup, ht.isList.typeIs, ?_⟩
  refine wpAny_getItem_list_slice ht.isList hs pl pu .none (by simp) ?_ (by rw [List.size_toArray] <;> omega)
  rw [nM, ← hlen]
  refine ⟨.ref s.heap.objs.size, _, I.laid (t' := s.toks) (o := .lst (xz xs lo hi)) (fun b ob q => Heap.get?_push_of_some _ q) (Nat.le_refl _) ?_, rfl, q _ (I.hok.fresh (Nat.le_refl _))⟩
  exact ⟨Nat.le_trans (qB xs lo hi) hz, _, 0, (r.drop (HT.sIx xs.length 0 lo)).take (HT.sIx xs.length xs.length hi - HT.sIx xs.length 0 lo), Heap.get?_push_size _ rfl⟩
theorem pG : dq X (.builtin "len") (fun xs H Q => ∃ p ys, xs = [.ref p] ∧ (lZ X.K H p ys ∨ i4 X.K H p ys) ∧ Q (.int ys.length) H) := by
  intro pins s σ H xs us Q I r h
  obtain ⟨p, ys, rfl, hq, q⟩ := h
  obtain ⟨u, rfl, rx⟩ := gx r
  cases rx
  have hn := kM
  rcases hq with hq | hq
  · obtain ⟨its, r', pl, hz⟩ := I.list hq
    have hlen := r'.length
    exact Calls.call_len_list pl.isList (by simp only [List.size_toArray] <;> omega) ⟨.int ys.length, H, I.tok _, ⟨s.toks + 1, by rw [List.size_toArray, hlen]⟩, q⟩
  · obtain ⟨its, r', pl, hz⟩ := I.tuple hq
    have hlen := r'.length
    exact len_tuple pl (by simp only [List.size_toArray] <;> omega) ⟨.int ys.length, H, I.tok _, ⟨s.toks + 1, by rw [List.size_toArray, hlen]⟩, q⟩
theorem oQ : dq X (.builtin "len") (fun xs H Q => ∃ z, xs = [.str z] ∧ z.length ≤ sizeLine ∧ Q (.int z.length) H) := by
  intro pins s σ H xs us Q I r h
  obtain ⟨z, rfl, hz, q⟩ := h
  obtain ⟨u, rfl, t, rfl⟩ := gx r
  have hn := kM
  exact len_str (by omega) ⟨.int z.length, H, I.tok _, ⟨_, rfl⟩, q⟩
theorem dq.or {f : Value} {r r' : List V → Hp → VK → Prop} (h : dq X f r) (h' : dq X f r') : dq X f (fun xs H Q => r xs H Q ∨ r' xs H Q) := by
  intro pins s σ H xs us Q I rs q
  rcases q with q | q
  · exact h pins s σ H xs us Q I rs q
  · exact h' pins s σ H xs us Q I rs q
theorem pD : dq X (.type "list") (fun xs H Q => ∃ p ys, xs = [.ref p] ∧ (lZ X.K H p ys ∨ i4 X.K H p ys) ∧ ∀ l, H l = none → Q (.ref l) (cx H l (.lst ys))) := by
  intro pins s σ H xs us Q I r h
  obtain ⟨p, ys, rfl, hq, q⟩ := h
  obtain ⟨u, rfl, rx⟩ := gx r
  cases rx
  have fin : ∀ (its : List Value), bw ys its → ys.length ≤ sizeLine → ∀ (h' : Heap) (c' : Nat), (∀ b o', s.heap.get? b = some o' → h'.get? b = some o') →
      h'.get? s.heap.objs.size = some { cls := .type "list", dict := none, data := .seq its.toArray c', slots := #[] } → EP X pins σ Q (.ref s.heap.objs.size) { s with heap := h' } := fun its r' hz h' c' kp e =>
    ⟨.ref s.heap.objs.size, _, I.laid (t' := s.toks) kp (Nat.le_refl _) (show bW X.prog X.w _ h' _ (.lst ys) from ⟨hz, its, c', r', e⟩), rfl, q _ (I.hok.fresh (Nat.le_refl _))⟩
  rcases hq with hq | hq
  · obtain ⟨its, r', pl, hz⟩ := I.list hq
    have hlen := r'.length
    obtain ⟨o, ho, hc, n, hd⟩ := pl.isList
    exact call_list_seq p (.inl rfl) ho hc hd (fun h' c' kp e => fin its r' hz h' c' kp e) (by simp only [List.size_toArray] <;> omega)
  · obtain ⟨its, r', pl, hz⟩ := I.tuple hq
    have hlen := r'.length
    obtain ⟨o, ho, hc, n, hd⟩ := pl
    exact call_list_seq p (.inr rfl) ho hc hd (fun h' c' kp e => fin its r' hz h' c' kp e) (by simp only [List.size_toArray] <;> omega)
theorem nQ : dq X (.type "tuple") (fun xs H Q => ∃ p ys, xs = [.ref p] ∧ ((lZ X.K H p ys ∧ ∀ l, H l = none → Q (.ref l) (cx H l (.tup ys))) ∨ (i4 X.K H p ys ∧ Q (.ref p) H))) := by
  intro pins s σ H xs us Q I r h
  obtain ⟨p, ys, rfl, h⟩ := h
  obtain ⟨u, rfl, rx⟩ := gx r
  cases rx
  rcases h with ⟨hq, q⟩ | ⟨hq, q⟩
  · obtain ⟨its, r', pl, hz⟩ := I.list hq
    have hlen := r'.length
    refine call_tuple_list pl.isList (fun h' kp => ?_) (by simp only [List.size_toArray] <;> omega)
    have I1 : aU X pins σ H { s with heap := h' } := I.kept (t' := s.toks) kp
    have I2 : aU X pins σ (cx H h'.objs.size (.tup ys)) { s with heap := h'.push { cls := .type "tuple", data := .seq its.toArray } } :=
      I1.laid (t' := s.toks) (fun b o e => Heap.get?_push_of_some _ e) (Nat.le_refl _) (show bW X.prog X.w _ _ _ (.tup ys) from ⟨hz, its, r', IsTup.new _ _⟩)
    exact ⟨.ref h'.objs.size, _, I2, rfl, q _ (I1.hok.fresh (Nat.le_refl _))⟩
  · obtain ⟨its, r', pl, hz⟩ := I.tuple hq
    exact call_tuple_same pl ⟨.ref p, H, I, rfl, q⟩
def CQ (K : PySem.W.Frag) (T : String) (x : V) (H : Hp) : Prop := match x with
  | .str _ => T = "str"
  | .int _ => T = "int"
  | .ref p => (T = "list" ∧ ∃ xs, lZ K H p xs) ∨ (T = "tuple" ∧ ∃ o, K.lookup p = some o ∧ o.cls = .type "tuple" ∧ o.dict = none) ∨
      (T = "dict" ∧ ((∃ kvs, H p = some (.dK kvs)) ∨ ∃ kvs, H p = some (.dT kvs))) ∨ (T = "set" ∧ ∃ S n, H p = some (.set S n))
  | _ => False
theorem Aj {pins : List (Addr × Obj)} {σ : St} {H : Hp} {s : Shared} {T : String} {x : V} {v : Value} (I : aU X pins σ H s) (r : bM x v) (ty : CQ X.K T x H) :
    s.TypeIs v T ∧ ∀ a, v = .ref a → ∃ ob, s.heap.get? a = some ob ∧ ob.dict = none := by
  cases x with
  | str z =>
    obtain ⟨t, rfl⟩ := r
    cases (show T = "str" from ty)
    exact ⟨typeIs_str s z t, fun _ e => nomatch e⟩
  | int i =>
    obtain ⟨t, rfl⟩ := r
    cases (show T = "int" from ty)
    exact ⟨typeIs_int s i t, fun _ e => nomatch e⟩
  | ref p =>
    cases r
    rcases ty with ⟨rfl, xs, hq⟩ | ⟨rfl, o, hk, hc, hd⟩ | ⟨rfl, hk⟩ | ⟨rfl, S, n, hk⟩
    · obtain ⟨its, _, pl, _⟩ := I.list hq
      refine ⟨pl.isList.typeIs, fun a e => ?_⟩
      cases e
      obtain ⟨o, n, e, c, hd, _⟩ := pl
      exact ⟨o, e, hd⟩
    · refine ⟨⟨o, I.kIn p o hk, hc⟩, fun a e => ?_⟩
      cases e
      exact ⟨o, I.kIn _ o hk, hd⟩
    · have z : ∃ o, s.heap.get? p = some o ∧ o.ExactDict := by
        rcases hk with ⟨kvs, hk⟩ | ⟨kvs, hk⟩
        · obtain ⟨_, _, _, _, o, _, _, e, ex, _⟩ := I.hok p _ hk
          exact ⟨o, e, ex⟩
        · obtain ⟨_, _, _, _, o, _, _, e, ex, _⟩ := I.hok p _ hk
          exact ⟨o, e, ex⟩
      obtain ⟨o, e, ex⟩ := z
      refine ⟨⟨o, e, ex.1⟩, fun a e2 => ?_⟩
      cases e2
      exact ⟨o, e, ex.2.1⟩
    · obtain ⟨o, _, _, _, e, ex, _⟩ := I.hok p _ hk
      refine ⟨⟨o, e, ex.1⟩, fun a e2 => ?_⟩
      cases e2
      exact ⟨o, e, ex.2.1⟩
  | _ => exact False.elim ty
def CW (K : PySem.W.Frag) (T : String) (r : V → List V → Hp → VK → Prop) (to : TE) (t : TA) : TE := fun σ H Q => to σ H fun x H1 => CQ K T x H1 ∧ t σ H1 fun xs H2 => r x xs H2 Q
variable {o e : Expr} {es : List Expr} {to : TE} {t : TA} {name : Str} {apos cpos : Pos} {T id : String} {r : V → List V → Hp → VK → Prop}
theorem Bn (pa : PlainAttrs T) (slot : Slot T name id) (hty : typeOf (.builtin id) = pure (.type "method_descriptor")) (hm : Dc X id r) (ho : PE X o to) (ha : PA X (e :: es) t)
    (hbase : attributeBase o name X.env (eval o X.env) = eval o X.env := by rfl)
    (hfew : ((backTo cpos (starEach (e :: es) X.env)).all (fun x => !x.1) && (backToKw cpos (keywordEach [] X.env)).all (fun x => x.1.isSome)
      && decide ((e :: es).length + ([] : List Keyword).length + (if ([] : List Keyword).isEmpty then 0 else 1) < 30)) = true := by rfl)
    (hline : (apos.endLine == cpos.line) = true := by rfl) (hs : starEach (e :: es) X.env = (false, eval e X.env) :: starEach es X.env := by rfl) (hplain : (backTo cpos (starEach es X.env)).any (·.1) = false := by rfl) :
    PE X (.Call (.Attribute o name apos) (e :: es) [] cpos) (CW X.K T r to t) := by
  intro pins s σ H Q I h
  refine wpAny_Call_method_late hbase hfew hline rfl (da (ho pins s σ H _ I h) fun v s1 ⟨x, H1, I1, r1, ty, q1⟩ => ?_)
  obtain ⟨h1, h2⟩ := Aj I1 r1 ty
  refine ⟨T, id, pa, slot, hty, h1, h2, ?_⟩
  have hA := ha cpos pins s1 σ H1 _ I1 q1
  rw [hs] at hA ⊢
  refine Calls.callWith_builtin (by show (false || (backTo cpos (starEach es X.env)).any (·.1)) = false; rw [hplain] <;> rfl) (Calls.evalArgs_plain ?_)
  exact da hA fun us s2 ⟨vs, H2, I2, r2, q2⟩ => hm pins s2 σ H2 x vs v us Q I2 r1 r2 q2
end
def Dj (X : Cx) (id : String) (r : V → List V → Hp → VK → Prop) : Prop :=
  ∀ (pins : List (Addr × Obj)) (s : Shared) (σ : St) (H : Hp) (x : V) (xs : List V) (v : Value) (us : List Value) (Q : VK), aU X pins σ H s → bM x v → bw xs us → r x xs H Q →
    wpAny (model X.prog X.w) X.A (call (.builtin id) (v :: us)) (EP X pins σ Q) X.xe s
theorem bw.one : ∀ {x : V} {us : List Value}, bw [x] us → ∃ u, us = [u] ∧ bM x u
  | _, _, .cons r .nil => ⟨_, rfl, r⟩
theorem bw.rep {xs : List V} {us : List Value} (h : bw xs us) : ∀ k : Nat, bw (List.replicate k xs).flatten (List.replicate k us).flatten
  | 0 => .nil
  | k + 1 => by
    rw [List.replicate_succ, List.replicate_succ, List.flatten_cons, List.flatten_cons]
    exact bw.append h (bw.rep h k)
theorem oy (its : List Value) : ∀ (k : Nat) (acc : List Value),
    List.foldl (fun x1 x2 => x1 ++ x2) acc.toArray (List.replicate k its.toArray) = (acc ++ (List.replicate k its).flatten).toArray
  | 0, acc => by simp
  | k + 1, acc => by
    have e : acc.toArray ++ its.toArray = (acc ++ its).toArray := by simp
    have e2 : (acc ++ its) ++ (List.replicate k its).flatten = acc ++ (List.replicate (k + 1) its).flatten := by
      rw [List.replicate_succ, List.flatten_cons, List.append_assoc]
    rw [← e2, ← oy its k (acc ++ its), ← e, List.replicate_succ, List.foldl_cons]
section
variable {X : Cx} {pins : List (Addr × Obj)} {σ : St} {H : Hp} {s : Shared} {l b : Addr} {xs ys zs : List V}
theorem aU.lset {its its' : List Value} {n : Nat} {f : Array Value → Array Value} {t' : Nat} (I : aU X pins σ H s) (hH : H l = some (.lst xs))
    (e : s.heap.get? l = some { cls := .type "list", data := .seq its.toArray n }) (hf : f its.toArray = its'.toArray) (hv : bw ys its') (hz : ys.length ≤ sizeLine) :
    aU X pins σ (cx H l (.lst ys)) { s with heap := s.heap.update l (Obj.mapSeq f), toks := t' } := by
  have q := PySem.IsL.update e f
  rw [hf] at q
  refine I.write (x := l) (e := l) (by rw [hH]; exact trivial) (.inl rfl) (fun b' u hb hu => (Heap.get?_update_other s.heap (Obj.mapSeq f) (Ne.symm hb)).trans hu) ⟨_, q⟩ ?_
  exact ⟨hz, its', _, hv, q⟩
theorem aU.lnew {its : List Value} {t' : Nat} (I : aU X pins σ H s) (hv : bw ys its) (hz : ys.length ≤ sizeLine) :
    aU X pins σ (cx H s.heap.objs.size (.lst ys)) { s with heap := s.heap.push { cls := .type "list", data := .seq its.toArray }, toks := t' } :=
  I.laid (fun _ _ q => Heap.get?_push_of_some _ q) (Nat.le_refl _) ⟨hz, its, 0, hv, Heap.get?_push_size _ rfl⟩
theorem aU.fresh (I : aU X pins σ H s) : H s.heap.objs.size = none := I.hok.fresh (Nat.le_refl _)
theorem aU.lstM (I : aU X pins σ H s) (hH : H l = some (.lst xs)) : xs.length ≤ sizeLine ∧ ∃ (its : List Value) (n : Nat), bw xs its ∧ xs.length = its.length ∧ s.heap.get? l = some { cls := .type "list", data := .seq its.toArray n } := by
  obtain ⟨z, its, n, r, e⟩ := I.hok l _ hH
  exact ⟨z, its, n, r, r.length, e⟩
end
section
variable {X : Cx}
def xA : V → List V → Hp → VK → Prop := fun x vs H Q => ∃ l xs y, x = .ref l ∧ vs = [y] ∧ H l = some (.lst xs) ∧ xs.length < sizeLine ∧ Q .non (cx H l (.lst (xs ++ [y])))
theorem og : Dj X "list.append" xA := by
  intro pins s σ H x vs v us Q I rx rv h
  obtain ⟨l, xs, y, rfl, rfl, hH, hz, q⟩ := h
  cases rx
  obtain ⟨u, rfl, ru⟩ := rv.one
  obtain ⟨z, its, n, r, hl, e⟩ := I.lstM hH
  refine call_meets F.slot_list_append ⟨_, e, rfl⟩ F.entry_list_append (F.args_list_append_2 _ _) (PySem.list_append l its.toArray n u (by rw [List.size_toArray]; omega)) ⟨e, ?_⟩
  refine ⟨.non, _, I.lset (its' := its ++ [u]) hH e (by simp) (r.append (.cons ru .nil)) ?_, rfl, q⟩
  rw [List.length_append, List.length_singleton]
  omega
theorem ut {α : Type} (xs : List α) (k : Nat) : (List.replicate k xs).flatten.length = k * xs.length := by
  induction k with
  | zero => simp
  | succ k ih => rw [List.replicate_succ, List.flatten_cons, List.length_append, ih, Nat.succ_mul, Nat.add_comm]
end
end L2
namespace Att
open PySem PySem.W PySem.Calls PyProof.Rows
theorem lE {P : Params} {h : Heap} : ∀ (ns : List Int) (vs : List Value), WellAll P h vs (ns.map WData.int) → IntsAre vs ns := by
  intro ns
  induction ns with
  | nil =>
    intro vs w
    rw [List.map_nil] at w
    cases w
    exact .nil
  | cons n ns ih =>
    intro vs w
    rw [List.map_cons] at w
    cases w with
    | cons a b =>
      cases a
      exact .cons _ _ (ih _ b)
theorem uA {l : OpenLaw} {n : Nat} (hn : l.most = some n) {P : Params} {h : Heap} {args : List WData} {vals : List Value}
    (hpre : l.row.toRowW.claim.pre args = true) (hwl : WellAll P h vals args) :
    ∃ a vs ns, vals = [Value.ref a] ∧ args = [WData.list (ns.map WData.int)] ∧ h.get? a = some { cls := .type "list", data := .seq vs.toArray } ∧ IntsAre vs ns ∧ ns.length ≤ n := by
  have hsh : WShape.hasAll [] args [.list .int] = true := (pre_splitW hpre).1
  have hc : l.pre.holds [] { args := args } = true := (pre_splitW hpre).2
  obtain ⟨d, r, rfl, h1, h2⟩ := hasAllW_cons hsh
  obtain rfl := hasAllW_nil h2
  obtain ⟨xs, rfl, h3⟩ := hasW_list h1
  obtain ⟨ns, rfl⟩ := items_int h3
  have hlen : ns.length ≤ n := by
    unfold OpenLaw.pre at hc
    have h4 : (WTm.not (.lt (.lit (.int (n : Int))) (.len (.arg 0)))).holds [] { args := [.list (ns.map .int)] } = true := by
      have h4 := (holds_andW hc).1
      rw [hn] at h4
      exact h4
    have h5 := condW_of h4 (w_not (w_lt w_lit (w_len_list (w_arg rfl))))
    rw [List.length_map] at h5
    refine Nat.le_of_not_lt fun q => ?_
    have q' : (n : Int) < ((ns.length : Nat) : Int) := by omega
    first
      | (rw [decide_eq_true q'] at h5; exact absurd h5 (by decide))
      | (simp at h5; omega)
  cases hwl with
  | cons w1 w2 =>
    cases w2
    cases w1 with
    | list ho hall => exact ⟨_, _, ns, rfl, rfl, ho, lE ns _ hall, hlen⟩
theorem u8 (l : OpenLaw) (args : List WData) : l.row.toRowW.claim.post args (.bool true) args = true :=
  postW_of (r := l.row.toRowW) (X := (true == true))
    (show WShape.has [] (.bool true) .bool = true by first | rfl | decide | simp [WShape.has, WShape.arms, WShape.armsAll])
    (show (WTm.eq .res (.lit (.bool true))).value [] { args := args, res := some (.bool true), after := args } = some (.bool (true == true)) from w_eq_bool (w_res rfl) w_lit) rfl
theorem attach_call {l : OpenLaw} {n : Nat} {q : Program} {loose : List Str} {XP : (Str → Option Value) → Heap → Prop} {YP : World → Heap → Prop} {d : DefRec}
    (hn : l.most = some n) (hdf : d.params.defaults = [])
    (call : ∀ (w : World) (s₀ s₁ : Shared) (mg mb : Str → Option Value) (fa : Addr) (o : Obj) (pm cd doc : Value) (a : Addr) (vs : List Value) (ns : List Int),
      Ground q loose [] XP w s₀ mg mb s₁.heap → YP w s₁.heap →
      s₁.heap.get? fa = some o → o.data = .func (docDef d.name d.params d.body d.scope pm cd doc) → s₁.heap.CodeRec cd d.name → mg d.name = some (.ref fa) →
      s₁.heap.get? a = some { cls := .type "list", data := .seq vs.toArray } → IntsAre vs ns → ns.length ≤ n → s₁.gens = #[] →
      codeAny (model l.prog w) callerA (.call (.ref fa) ⟨[.ref a], []⟩) (fun r s' => r = .ok (.ret (.bool true)) ∧ OldK s₁.heap s'.heap ∧ s'.os = s₁.os ∧ AllBare s'.gens) s₁) :
    WalkO q loose XP YP l.row.toRowW d [] (fun f vs => PySem.call f vs) := by
  intro w s₀ s₁ mg mb G Y fa o pm cd doc dV kV ho hd hcd hD hmg hg args vals as hpre hlay hrd hwl hlo
  obtain rfl : dV = .none := Dflts.none hD hdf
  obtain rfl : kV = .none := Dflts.noKw hD
  obtain ⟨a, vs, ns, rfl, rfl, hobj, hints, hlen⟩ := uA hn hpre hwl
  refine enter_call (codeAny_mono (call w s₀ s₁ mg mb fa o pm cd doc a vs ns G Y ho (fd_plain hd) hcd hmg hobj hints hlen hg) fun r s' hq => ?_)
  obtain ⟨rfl, h2, h3, h4⟩ := hq
  exact ⟨.inl ⟨.bool true, .bool true, [], rfl, fun _ => rfl, .bool true, u8 l _, fun _ => ⟨List.Pairwise.nil, fun _ hm => (nomatch hm)⟩⟩, h2, h3, h4⟩
end Att
namespace L2
open PySem PySem.Spec PyProof.Rows
theorem jc : ∀ {vs : List Value} {ns : List Int}, IntsAre vs ns → bw (ns.map V.int) vs
  | _, _, .nil => .nil
  | _, _, .cons n t h => .cons ⟨t, rfl⟩ (jc h)
def Bk (H : Hp) : Prop := ∀ b, H b = none ∨ ∃ o xs, H b = some (.frz o (.lst xs))
theorem wB {P : Program} {w : World} {K : PySem.W.Frag} {mg mb : Str → Option Value} {CX : vB} {k : Nat} {fa a : Addr} {fd : FuncData} {x : Str} {sp : Sp} {s₁ : Shared} {vs : List Value} {ns : List Int}
    (KX : K.In s₁.heap) (hns : s₁.heap.Ns mainGlobals mg) (hb : s₁.heap.Ns builtinsNs mb) (hbb : ∀ x : Str, x ≠ "__name__" → mb x = bootBuiltins x) (hlim : s₁.heap.NoLimit) (hg : s₁.gens = #[])
    (ha : s₁.heap.get? a = some { cls := .type "list", data := .seq vs.toArray }) (hi : IntsAre vs ns) (hl : ns.length ≤ sizeLine) (hr : dQ k callerA)
    (F : ∀ base : Heap, K.In base → base.Ns mainGlobals mg → bf P w K mg base CX k fa fd [x] sp) (hbind : ∀ (s : Shared) (u : Value), BindsTo s fd ⟨[u], []⟩ [(x, u)])
    (hsp : ∀ H : Hp, Bk H → lZ K H a (ns.map V.int) → sp [.ref a] H (fun v _ => v = .bl true) fun _ _ _ => False)
    (hCX : ∀ H e s', CX [] H s₁ (fun _ _ _ => False) e s' → False) :
    codeAny (model P w) callerA (.call (.ref fa) ⟨[.ref a], []⟩) (fun r s' => r = .ok (.ret (.bool true)) ∧ OldK s₁.heap s'.heap ∧ s'.os = s₁.os ∧ AllBare s'.gens) s₁ := by
  have rv := jc hi
  have lenV := hi.length
  -- from an abstract heap in which nothing but the script may be tracked
  have core : ∀ H : Hp, Bk H → lZ K H a (ns.map V.int) → jg P w H s₁.heap → (∀ b, H b ≠ none → b = a) → (H a ≠ none → K.lookup a = none) →
      codeAny (model P w) callerA (.call (.ref fa) ⟨[.ref a], []⟩) (fun r s' => r = .ok (.ret (.bool true)) ∧ OldK s₁.heap s'.heap ∧ s'.os = s₁.os ∧ AllBare s'.gens) s₁ := by
    intro H hO hS hok hA hK
    have base_of : ∀ {b : Addr} {o : Obj}, s₁.heap.get? b = some o → H b = none → (pW s₁.heap H).get? b = some o := fun e n => wu e n
    have noA : ∀ {b : Addr} {o : Obj} {es : Array DictEntry} {ep : Nat}, s₁.heap.get? b = some o → o.data = .dict es ep → H b = none := fun {b o es ep} e d => by
      cases q : H b with
      | none => rfl
      | some u =>
        have e' : b = a := hA b (by rw [q]; simp)
        subst e'
        rw [ha] at e; cases e
        have d' : Data.seq vs.toArray _ = Data.dict es ep := d
        cases d'
    have nsK : ∀ {b : Addr} {m : Str → Option Value}, s₁.heap.Ns b m → (pW s₁.heap H).Ns b m := fun {b m} ⟨o, es, ep, e, d, r⟩ => ⟨o, es, ep, base_of e (noA e d), d, r⟩
    have hKb : K.In (pW s₁.heap H) := fun b o e => base_of (KX b o e) (by
      cases q : H b with
      | none => rfl
      | some u =>
        have e' : b = a := hA b (by rw [q]; simp)
        subst e'
        rw [hK (by rw [q]; simp)] at e; cases e)
    have hM : Mod K mg (pW s₁.heap H) := ⟨hKb, nsK hns, ⟨mb, nsK hb, hbb⟩, let ⟨mc, h1, h2⟩ := hlim; ⟨mc, nsK h1, h2⟩⟩
    have e0 : sD P w K mg (pW s₁.heap H) callerA [] s₁ H := ⟨rfl, hM, fun b o e => yz e, Nat.le_of_eq (uR _ _), trivial, fun b hb => absurd (show b ∈ ([] : List Addr) from hb) (by simp), hok, .of_eq hg⟩
    refine codeAny_mono ((F _ hKb (nsK hns)).run callerA [] s₁ H ⟨[.ref a], []⟩ [.ref a] [.ref a] _ _ hr e0 (hbind s₁ (.ref a)) (.cons rfl .nil) (hsp H hO hS)) fun r s' h => ?_
    cases r with
    | error e => exact (hCX H e s' h).elim
    | ok fl =>
      cases fl with
      | next => exact False.elim h
      | brk => exact False.elim h
      | cont => exact False.elim h
      | ret u =>
        obtain ⟨v, H', os, bare, un, hok', r', q⟩ := h
        have q' : v = .bl true := q
        subst q'
        obtain rfl : u = Value.bool true := r'
        refine ⟨rfl, OldK.of_keep fun b o e => ?_, os, bare⟩
        cases q : H b with
        | none => exact un.keep b o e q (by intro z; exact absurd (show b ∈ ([] : List Addr) from z) (by simp)) (by simp)
        | some u =>
          rcases hO b with z | ⟨ob, xs, z⟩
          · rw [q] at z; cases z
          · have z2 := un.frzs b ob _ z
            obtain ⟨e1, _⟩ := hok b _ z
            obtain ⟨e2, _⟩ := hok' b _ z2
            rw [e] at e1; cases e1
            exact e2
  cases hk : K.lookup a with
  | some o =>
    -- the script is one of the module's own objects
    have e := KX a o hk
    rw [ha] at e
    cases e
    refine core (fun _ => none) (fun _ => .inl rfl) (.inr ⟨_, vs.toArray, _, hk, rfl, rfl, rfl, by rw [List.size_toArray, lenV]; exact hl, by simpa using rv⟩) (fun b u z => by have z' : (none : Option HO) = some u := z; cases z') (fun b z => absurd rfl z) fun z => absurd rfl z
  | none =>
    refine core (fun b => if b = a then some (.frz { cls := .type "list", data := .seq vs.toArray } (.lst (ns.map V.int))) else none) (fun b => ?_) (.inl (.inr ⟨{ cls := .type "list", data := .seq vs.toArray }, if_pos rfl⟩)) (fun b u z => ?_) (fun b z => ?_) fun _ => hk
    · by_cases hb : b = a
      · exact .inr ⟨_, _, if_pos hb⟩
      · exact .inl (if_neg hb)
    · by_cases hb : b = a
      · have z' := (if_pos hb).symm.trans z
        cases z'
        subst hb
        exact ⟨ha, by rw [List.length_map]; exact hl, vs, _, rv, ha⟩
      · have z' := (if_neg hb).symm.trans z
        cases z'
    · by_cases hb : b = a
      · exact hb
      · exact absurd (if_neg hb) z
def yi (s : Stmt) (j : Nat) : Stmt := match s with
  | .ClassDef _ _ _ body _ _ _ _ _ _ _ => body.getD j (.Pass ⟨0, 0, 0, 0⟩)
  | _ => .Pass ⟨0, 0, 0, 0⟩
def fK (s : Stmt) : Arguments := match s with
  | .FunctionDef _ a _ _ _ _ _ _ _ _ => a
  | _ => { posonlyargs := [], args := [], vararg := none, kwonlyargs := [], kw_defaults := [], kwarg := none, defaults := [] }
def dB (s : Stmt) : List Stmt := match s with
  | .FunctionDef _ _ b _ _ _ _ _ _ _ => b
  | _ => []
def aj (s : Stmt) : Scope := match s with
  | .FunctionDef _ _ _ _ _ _ sc _ _ _ => sc
  | _ => { kind := .function, names := [], isGenerator := false, isCoroutine := false }
abbrev CV : vB := fun _ _ _ _ _ _ => False
structure gP (K : PySem.W.Frag) (x qual : Str) (st : Stmt) (f : Addr) (fd : FuncData) : Prop where
  ex : ∃ (oc : Value) (od : Option Addr) (kV doc pm : Value) (an : Option Addr) (cdv ct : Value) (osl : Array (Option Value)),
    fd = PySem.W.fnOf x qual (fK st) (dB st) (aj st) .none kV doc pm an cdv ct ∧ K.lookup f = some ⟨oc, od, .func fd, osl⟩ ∧ PySem.W.codeIn K cdv qual = true
  kp : PySem.W.keepIn K (.ref f) = true
section
variable {P : Program} {w : World} {K : PySem.W.Frag} {mg : Str → Option Value} {base : Heap}
theorem gP.ok {x qual : Str} {st : Stmt} {f : Addr} {fd : FuncData} {N ps : List Str} {k : Nat} {sp : Sp} (F : gP K x qual st f fd) (S : a5 N ps (aj st)) (len : ∀ vs H Q E, sp vs H Q E → vs.length = ps.length)
    (hbody : ∀ (cdv : Value) (A : Around) (outer : List Env) (s : Shared) (H : Hp) (vs : List V) (Q : VK) (E : XK), dQ k (A.deeper (envOfC qual (aj st) s.heap.objs.size f cdv)) → sp vs H Q E →
      ∃ t, o8 (ff CV P w K mg base N qual (aj st) f cdv A outer s H E).nox (dB st) t ∧ t { nx := fun _ H' => Q .non H', rt := Q } (iu N vs) H) : bf P w K mg base CV (k + 1) f fd ps sp := by
  obtain ⟨oc, od, kV, doc, pm, an, cdv, ct, osl, rfl, lk, hcd⟩ := F.ex
  refine wM lk hcd S len fun A outer s H vs Q E hr hsp => ?_
  obtain ⟨t, h, q⟩ := hbody cdv A outer s H vs Q E hr hsp
  exact ⟨t, h.nox, q⟩
theorem gP.binds {x qual : Str} {st : Stmt} {f : Addr} {fd : FuncData} {ps : List Str} (F : gP K x qual st f fd)
    (h : ∀ (kV doc pm : Value) (an : Option Addr) (cdv ct : Value) (us : List Value), us.length = ps.length → bindArgs (PySem.W.fnOf x qual (fK st) (dB st) (aj st) .none kV doc pm an cdv ct) ⟨us, []⟩ = pure (ps.zip us)) : gH K fd ps [] := by
  obtain ⟨oc, od, kV, doc, pm, an, cdv, ct, osl, rfl, lk, hcd⟩ := F.ex
  exact .all (h kV doc pm an cdv ct)
theorem rW {x qual : Str} {st : Stmt} {f : Addr} {oc : Value} {od an : Option Addr} {osl : Array (Option Value)} {kV doc pm cdv ct : Value} (l : K.lookup f = some ⟨oc, od, .func (PySem.W.fnOf x qual (fK st) (dB st) (aj st) .none kV doc pm an cdv ct), osl⟩)
    (c : PySem.W.codeIn K cdv qual = true) (k : PySem.W.keepIn K (.ref f) = true) : gP K x qual st f (PySem.W.fnOf x qual (fK st) (dB st) (aj st) .none kV doc pm an cdv ct) := ⟨⟨oc, od, kV, doc, pm, an, cdv, ct, osl, rfl, l, c⟩, k⟩
end
section
variable {X : Cx}
theorem pv (i : Nat) {x : Str} {pos : Pos} (hN : X.N[i]? = some x := by rfl) (hv : Av X.env.scope x := by first | exact Or.inl rfl | exact Or.inr (Or.inl rfl) | exact Or.inr (Or.inr rfl)) (hd : (x == ("__debug__" : Str)) = false := by decide)
    (hcd : (x == ("__classdict__" : Str)) = false := by decide) : PE X (.Name x pos) (BA i) := kR hN hv hd hcd
end
def aR (H H' : Hp) : Prop := ∀ b o, H b = some o → H' b = some o
theorem aR.refl (H : Hp) : aR H H := fun _ _ h => h
theorem aR.trans {H H1 H2 : Hp} (a : aR H H1) (b : aR H1 H2) : aR H H2 := fun c o h => b c o (a c o h)
theorem aR.free {H H' : Hp} (e : aR H H') {l : Addr} (h : H' l = Option.none) : H l = Option.none := by
  cases q : H l with
  | none => rfl
  | some o =>
    rw [e l o q] at h
    cases h
section
variable {κ : Type} [DecidableEq κ]
def jv (kvs : List (κ × V)) (k : κ) : Option V := (kvs.find? fun kv => decide (kv.1 = k)).map (·.2)
def ku (kvs : List (κ × V)) (k : κ) (v : V) : List (κ × V) :=
  if (kvs.any fun kv => decide (kv.1 = k)) = true then kvs.map (fun kv => if kv.1 = k then (kv.1, v) else kv) else kvs ++ [(k, v)]
def yN (kvs : List (κ × V)) (k : κ) : List (κ × V) := kvs.filter fun kv => decide (kv.1 ≠ k)
theorem nD {p : κ × V} {r : List (κ × V)} {k : κ} (e : p.1 = k) : jv (p :: r) k = some p.2 := by simp [jv, List.find?_cons, e]
theorem nk {p : κ × V} {r : List (κ × V)} {k : κ} (e : ¬ p.1 = k) : jv (p :: r) k = jv r k := by simp [jv, List.find?_cons, e]
theorem qW (k : κ) : ∀ kvs : List (κ × V), (kvs.any fun kv => decide (kv.1 = k)) = (jv kvs k).isSome
  | [] => rfl
  | p :: r => by
    rw [List.any_cons]
    by_cases e : p.1 = k
    · simp only [nD e, decide_eq_true e, Bool.true_or, Option.isSome_some]
    · rw [nk e, decide_eq_false e, Bool.false_or]; exact qW k r
theorem lc (kvs : List (κ × V)) (k : κ) (v : V) : (ku kvs k v).length ≤ kvs.length + 1 := by
  unfold ku
  split
  · rw [List.length_map]; omega
  · rw [List.length_append, List.length_cons, List.length_nil]; omega
theorem k4.isSome_eq {o : Option V} {u : Option Value} (r : k4 o u) : o.isSome = u.isSome := by
  cases o with
  | none => cases u with
    | none => rfl
    | some _ => exact (show False from r).elim
  | some _ => cases u with
    | none => exact (show False from r).elim
    | some _ => rfl
theorem KV.val {kvs : List (κ × V)} {vs : List (κ × Value)} (r : KV kvs vs) (k : κ) : k4 (jv kvs k) (valueAt vs k) := by
  unfold KV at r
  induction r with
  | nil => exact True.intro
  | @cons p q ps qs h t ih =>
    obtain ⟨h1, h2⟩ := h
    by_cases e : p.1 = k
    · have e' : q.1 = k := h1.symm.trans e
      have b : valueAt (q :: qs) k = some q.2 := by simp [valueAt, List.find?_cons, e']
      rw [nD e, b]; exact h2
    · have e' : ¬ q.1 = k := fun z => e (h1.trans z)
      have b : valueAt (q :: qs) k = valueAt qs k := by simp [valueAt, List.find?_cons, e']
      rw [nk e, b]; exact ih
theorem KV.any {kvs : List (κ × V)} {vs : List (κ × Value)} (r : KV kvs vs) (k : κ) : (kvs.any fun kv => decide (kv.1 = k)) = vs.any fun kv => decide (kv.1 = k) := by
  unfold KV at r
  induction r with
  | nil => rfl
  | cons h t ih => rw [List.any_cons, List.any_cons, ih, h.1]
theorem KV.repl {kvs : List (κ × V)} {vs : List (κ × Value)} (r : KV kvs vs) (k : κ) {y : V} {u : Value} (ry : bM y u) :
    KV (kvs.map fun kv => if kv.1 = k then (kv.1, y) else kv) (vs.map fun kv => if kv.1 = k then (kv.1, u) else kv) := by
  unfold KV at r ⊢
  induction r with
  | nil => exact .nil
  | @cons p q ps qs h t ih =>
    rw [List.map_cons, List.map_cons]
    refine .cons ?_ ih
    obtain ⟨h1, h2⟩ := h
    by_cases e : p.1 = k
    · rw [if_pos e, if_pos (h1.symm.trans e)]; exact ⟨h1, ry⟩
    · rw [if_neg e, if_neg (fun z => e (h1.trans z))]; exact ⟨h1, h2⟩
theorem KV.put {kvs : List (κ × V)} {vs : List (κ × Value)} (r : KV kvs vs) (k : κ) {y : V} {u : Value} (ry : bM y u) : KV (ku kvs k y) (stored vs k u) := by
  unfold ku stored
  rw [r.any k]
  by_cases e : (vs.any fun kv => decide (kv.1 = k)) = true
  · rw [if_pos e, if_pos e]; exact r.repl k ry
  · rw [if_neg e, if_neg e]; exact Paired.snoc r ⟨rfl, ry⟩
theorem KV.drop {kvs : List (κ × V)} {vs : List (κ × Value)} (r : KV kvs vs) (k : κ) : KV (yN kvs k) (without vs k) := by
  unfold KV at r ⊢
  unfold yN without
  induction r with
  | nil => exact .nil
  | @cons p q ps qs h t ih =>
    obtain ⟨h1, h2⟩ := h
    rw [List.filter_cons, List.filter_cons]
    by_cases e : p.1 = k
    · have a : ¬ decide (p.1 ≠ k) = true := by simp [e]
      have b : ¬ decide (q.1 ≠ k) = true := by simp [h1.symm.trans e]
      rw [if_neg a, if_neg b]; exact ih
    · have e' : ¬ q.1 = k := fun z => e (h1.trans z)
      have a : decide (p.1 ≠ k) = true := by simp [e]
      have b : decide (q.1 ≠ k) = true := by simp [e']
      rw [if_pos a, if_pos b]; exact .cons ⟨h1, h2⟩ ih
theorem KV.keys {kvs : List (κ × V)} {vs : List (κ × Value)} (r : KV kvs vs) : kvs.map (·.1) = vs.map (·.1) := by
  unfold KV at r
  induction r with
  | nil => rfl
  | cons h t ih => rw [List.map_cons, List.map_cons, ih, h.1]
theorem KV.length {kvs : List (κ × V)} {vs : List (κ × Value)} (r : KV kvs vs) : kvs.length = vs.length := Paired.length r
end
theorem qT {P : Program} {w : World} {k : cV} {u : Value} (r : bM (kV k) u) : (c7 P w).is k u = true := by
  cases k with
  | inl i => obtain ⟨t, e⟩ := (show ∃ t, u = Value.int i t from r); subst e; exact qJ P w i t
  | inr x => obtain ⟨t, e⟩ := (show ∃ t, u = Value.str x t from r); subst e; exact p8 P w x t
theorem n4 {P : Program} {w : World} : ∀ {ks : List cV} {us : List Value}, bw (ks.map kV) us → ItemsAre (c7 P w) ks us
  | [], _, r => by rw [List.map_nil] at r; cases r; exact .nil
  | k :: ks, _, r => by
    rw [List.map_cons] at r
    cases r with
    | cons h t => exact .cons (qT h) (n4 t)
abbrev KT (H : Hp) : List (List cV × V) → List (List cV × Addr × Value) → Prop := Paired fun p q => p.1 = q.1 ∧ H q.2.1 = some (.tup (p.1.map kV)) ∧ bM p.2 q.2.2
theorem KT.val {H : Hp} {kvs : List (List cV × V)} {xs : List (List cV × Addr × Value)} (r : KT H kvs xs) (k : List cV) : k4 (jv kvs k) ((atKey xs k).map (·.2)) := by
  induction r with
  | nil => exact True.intro
  | @cons p q ps qs h t ih =>
    obtain ⟨h1, _, h2⟩ := h
    by_cases e : p.1 = k
    · have e' : q.1 = k := h1.symm.trans e
      have b : atKey (q :: qs) k = some q.2 := by simp [atKey, List.find?_cons, e']
      rw [nD e, b]; exact h2
    · have e' : ¬ q.1 = k := fun z => e (h1.trans z)
      have b : atKey (q :: qs) k = atKey qs k := by simp [atKey, List.find?_cons, e']
      rw [nk e, b]; exact ih
theorem KT.repl {H : Hp} {kvs : List (List cV × V)} {xs : List (List cV × Addr × Value)} (r : KT H kvs xs) (k : List cV) {y : V} {u : Value} (ry : bM y u) :
    KT H (kvs.map fun kv => if kv.1 = k then (kv.1, y) else kv) (xs.map (putAt k u)) := by
  induction r with
  | nil => exact .nil
  | @cons p q ps qs h t ih =>
    rw [List.map_cons, List.map_cons]
    refine .cons ?_ ih
    obtain ⟨h1, h2, h3⟩ := h
    unfold putAt
    by_cases e : p.1 = k
    · rw [if_pos e, if_pos (h1.symm.trans e)]; exact ⟨h1, h2, ry⟩
    · rw [if_neg e, if_neg (fun z => e (h1.trans z))]; exact ⟨h1, h2, h3⟩
theorem KT.put {H : Hp} {kvs : List (List cV × V)} {xs : List (List cV × Addr × Value)} (r : KT H kvs xs) (k : List cV) {b : Addr} {y : V} {u : Value} (hb : H b = some (.tup (k.map kV))) (ry : bM y u) :
    KT H (ku kvs k y) (storedH xs k b u) := by
  have e : (kvs.any fun kv => decide (kv.1 = k)) = (atKey xs k).isSome := by
    rw [qW, (r.val k).isSome_eq, Option.isSome_map]
  unfold ku storedH
  rw [e]
  by_cases q : (atKey xs k).isSome = true
  · rw [if_pos q, if_pos q]; exact r.repl k ry
  · rw [if_neg q, if_neg q]; exact Paired.snoc r ⟨rfl, hb, ry⟩
theorem KT.keeps {H H' : Hp} {kvs : List (List cV × V)} {xs : List (List cV × Addr × Value)} (r : KT H kvs xs) (ht : ∀ b ys, H b = some (.tup ys) → H' b = some (.tup ys)) : KT H' kvs xs :=
  Paired.mapP r fun _ _ z => ⟨z.1, ht _ _ z.2.1, z.2.2⟩
section
variable {P : Program} {w : World} {H : Hp} {h : Heap} {a : Addr}
theorem yW {u : HO} (ok : jg P w H h) (e : Rd H a u) : bW P w H h a u := e.ok ok
theorem mw {kvs : List (cV × V)} (ok : jg P w H h) (e : Rd H a (.dK kvs)) : kvs.length ≤ sizeLine ∧ (a == sysModules) = false ∧ ∃ vs, KV kvs vs ∧ h.DictOf (c7 P w) a vs :=
  show bW P w H h a (.dK kvs) from yW ok e
theorem Bs {kvs : List (cV × V)} (ok : jg P w H h) (e : H a = some (.dK kvs)) : kvs.length ≤ sizeLine ∧ (a == sysModules) = false ∧ ∃ vs, KV kvs vs ∧ h.DictOf (c7 P w) a vs := mw ok (.inl e)
theorem nF {ks : List cV} (ok : jg P w H h) (e : H a = some (.tup (ks.map kV))) : (tupleKind (c7 P w)).is h ks a := by
  obtain ⟨_, its, r, o, h1, h2, n, h3⟩ := (show bW P w H h a (.tup (ks.map kV)) from ok a _ e)
  exact ⟨o, its.toArray, n, h1, h2, h3, by simpa using n4 r⟩
theorem qF {kvs : List (List cV × V)} (ok : jg P w H h) (e : Rd H a (.dT kvs)) : kvs.length ≤ sizeLine ∧ (a == sysModules) = false ∧
    ∃ xs, KT H kvs xs ∧ h.DictOfH (tupleKind (c7 P w)) a xs := by
  obtain ⟨z, y, xs, r, o, es, ep, h1, h2, h3, h4, h5⟩ := (show bW P w H h a (.dT kvs) from yW ok e)
  refine ⟨z, y, xs, r, o, es, ep, h1, h2, h3, h4, fun x hx => ?_, h5⟩
  have all : ∀ {l : List (List cV × V)} {m : List (List cV × Addr × Value)}, KT H l m → ∀ x ∈ m, (tupleKind (c7 P w)).is h x.1 x.2.1 := by
    intro l m q
    induction q with
    | nil => intro x hx; exact nomatch hx
    | @cons p q ps qs hq t ih =>
      intro x hx
      rcases List.mem_cons.mp hx with e | hx
      · subst e
        exact nF ok (by rw [← hq.1]; exact hq.2.1)
      · exact ih x hx
  exact all r x hx
theorem Bi {kvs : List (List cV × V)} (ok : jg P w H h) (e : H a = some (.dT kvs)) : kvs.length ≤ sizeLine ∧ (a == sysModules) = false ∧
    ∃ xs, KT H kvs xs ∧ h.DictOfH (tupleKind (c7 P w)) a xs := qF ok (.inl e)
end
def mE (H : Hp) (a : Addr) (y : V) (r : Option V) : Prop :=
  (∃ kvs k, Rd H a (.dK kvs) ∧ y = kV k ∧ r = jv kvs k) ∨ ∃ kvs k b, Rd H a (.dT kvs) ∧ y = .ref b ∧ H b = some (.tup (k.map kV)) ∧ r = jv kvs k
def sN (H : Hp) (a : Addr) (y v : V) (H' : Hp) : Prop :=
  (∃ kvs k, H a = some (.dK kvs) ∧ y = kV k ∧ kvs.length < sizeLine ∧ H' = cx H a (.dK (ku kvs k v))) ∨
  ∃ kvs k b, H a = some (.dT kvs) ∧ y = .ref b ∧ H b = some (.tup (k.map kV)) ∧ kvs.length < sizeLine ∧ H' = cx H a (.dT (ku kvs k v))
theorem mE.k {H : Hp} {a : Addr} {kvs : List (cV × V)} {k : cV} (e : H a = some (.dK kvs)) : mE H a (kV k) (jv kvs k) := .inl ⟨kvs, k, .inl e, rfl, rfl⟩
theorem mE.t {H : Hp} {a b : Addr} {kvs : List (List cV × V)} {k : List cV} (e : H a = some (.dT kvs)) (eb : H b = some (.tup (k.map kV))) : mE H a (.ref b) (jv kvs k) := .inr ⟨kvs, k, b, .inl e, rfl, eb, rfl⟩
theorem sN.k {H : Hp} {a : Addr} {kvs : List (cV × V)} {k : cV} {v : V} (e : H a = some (.dK kvs)) (hl : kvs.length < sizeLine) : sN H a (kV k) v (cx H a (.dK (ku kvs k v))) := .inl ⟨kvs, k, e, rfl, hl, rfl⟩
theorem sN.t {H : Hp} {a b : Addr} {kvs : List (List cV × V)} {k : List cV} {v : V} (e : H a = some (.dT kvs)) (eb : H b = some (.tup (k.map kV))) (hl : kvs.length < sizeLine) :
    sN H a (.ref b) v (cx H a (.dT (ku kvs k v))) := .inr ⟨kvs, k, b, e, rfl, eb, hl, rfl⟩
section
variable {X : Cx} {pins : List (Addr × Obj)} {σ : St} {H : Hp} {s : Shared} {a : Addr} {y v : V} {u r : Value} {o : Option V} {A : Around} {E : Value → Shared → Prop}
theorem aU.big (I : aU X pins σ H s) : sysModules < s.heap.objs.size := by
  have h : mainGlobals < s.heap.objs.size := (I.mod.glob.keeps I.bk).lt
  exact Nat.lt_trans (by decide) h
theorem uV {Q : Value → Shared → Prop} (hu : A.units + 1 < cLine) (I : aU X pins σ H s) (g : mE H a y (some v)) (ry : bM y u) (h : ∀ w' s', aU X pins σ H s' → bM v w' → Q w' s') :
    wpAny (model X.prog X.w) A (getItem (.ref a) u) Q E s := by
  rcases g with ⟨kvs, k, e, ey, l⟩ | ⟨kvs, k, b, e, ey, eb, l⟩
  · subst ey
    obtain ⟨z, hd, vs, rel, dd⟩ := mw I.hok e
    obtain ⟨w', hw, rw'⟩ := k4.some_of (v := v) (o := valueAt vs k) (by rw [l]; exact rel.val k)
    exact wpAny_getItem_of (qT ry) dd.mapOf hw (h w' _ (I.tok _) rw')
  · subst ey
    cases (show u = Value.ref b from ry)
    obtain ⟨z, hd, xs, rel, dd⟩ := qF I.hok e
    obtain ⟨w', hw, rw'⟩ := k4.some_of (v := v) (o := (atKey xs k).map (·.2)) (by rw [l]; exact rel.val k)
    obtain ⟨p, hp, hp2⟩ := Option.map_eq_some_iff.mp hw
    refine wpAny_getItem_heap (tupleKind_room_in1 hu) (nF I.hok eb) dd hp ?_
    rw [hp2]
    exact h w' _ (I.tok _) rw'
theorem Cl {Q : Value → Shared → Prop} (hu : A.units + 1 < cLine) (I : aU X pins σ H s) (g : mE H a y o) (ry : bM y u) (h : ∀ s', aU X pins σ H s' → Q (.bool o.isSome) s') :
    wpAny (model X.prog X.w) A (compareOp .In u (.ref a)) Q E s := by
  rcases g with ⟨kvs, k, e, ey, l⟩ | ⟨kvs, k, b, e, ey, eb, l⟩
  · subst ey
    obtain ⟨z, hd, vs, rel, dd⟩ := mw I.hok e
    refine wpAny_in_of (qT ry) hd dd.mapOf ?_
    rw [← (rel.val k).isSome_eq, ← l]
    exact h _ (I.tok _)
  · subst ey
    cases (show u = Value.ref b from ry)
    obtain ⟨z, hd, xs, rel, dd⟩ := qF I.hok e
    refine wpAny_in_heap (tupleKind_room_in1 hu) (nF I.hok eb) hd dd ?_
    have q := (rel.val k).isSome_eq
    rw [Option.isSome_map] at q
    rw [← q, ← l]
    exact h _ (I.tok _)
theorem xC {Q : Value → Shared → Prop} (hu : A.units + 1 < cLine) (I : aU X pins σ H s) (g : mE H a y o) (ry : bM y u) (h : ∀ s', aU X pins σ H s' → Q (.bool (!o.isSome)) s') :
    wpAny (model X.prog X.w) A (compareOp .NotIn u (.ref a)) Q E s := by
  rcases g with ⟨kvs, k, e, ey, l⟩ | ⟨kvs, k, b, e, ey, eb, l⟩
  · subst ey
    obtain ⟨z, hd, vs, rel, dd⟩ := mw I.hok e
    refine wpAny_notIn_of (qT ry) hd dd.mapOf ?_
    rw [← (rel.val k).isSome_eq, ← l]
    exact h _ (I.tok _)
  · subst ey
    cases (show u = Value.ref b from ry)
    obtain ⟨z, hd, xs, rel, dd⟩ := qF I.hok e
    refine wpAny_notIn_heap (tupleKind_room_in1 hu) (nF I.hok eb) hd dd ?_
    have q := (rel.val k).isSome_eq
    rw [Option.isSome_map] at q
    rw [← q, ← l]
    exact h _ (I.tok _)
theorem tJ {h' : Heap} {t' : Nat} {ob : HO} (I : aU X pins σ H s) (mu : BD (H a)) (hs : Heap.SameBut a s.heap h') (he : ∃ q, h'.get? a = some q) (new : bW X.prog X.w (cx H a ob) h' a ob) :
    aU X pins σ (cx H a ob) { s with heap := h', toks := t' } :=
  I.write (x := a) (e := a) mu (.inl rfl) (fun b q hb z => (hs.2 b hb).trans z) he new
theorem zJ {P : Program} {w : World} {H' : Hp} {h' : Heap} {kvs : List (cV × V)} {vs : List (cV × Value)} (z : kvs.length ≤ sizeLine) (hd : (a == sysModules) = false) (rel : KV kvs vs) (dd : h'.DictOf (c7 P w) a vs) :
    bW P w H' h' a (.dK kvs) := ⟨z, hd, vs, rel, dd⟩
theorem uY {H' : Hp} {Q : Unit → Shared → Prop} (hu : A.units + 1 < cLine) (I : aU X pins σ H s) (g : sN H a y v H') (ry : bM y u) (rv : bM v r) (h : ∀ s', aU X pins σ H' s' → Q () s') :
    wpAny (model X.prog X.w) A (setItem (.ref a) u r) Q E s := by
  rcases g with ⟨kvs, k, e, ey, l, eH⟩ | ⟨kvs, k, b, e, ey, eb, l, eH⟩
  · subst ey eH
    obtain ⟨z, hd, vs, rel, dd⟩ := Bs I.hok e
    have hz : vs.length ≤ sizeLine := by rw [← rel.length]; exact z
    have hl : (ku kvs k v).length ≤ sizeLine := by have := lc kvs k v; omega
    refine wpAny_setItem_pairs (hsz := hz) (qT ry) dd fun h' dd' hs => h _ ?_
    have he : ∃ q, h'.get? a = some q := let ⟨q, _, _, hq, _⟩ := dd'; ⟨q, hq⟩
    exact tJ I (by rw [e]; exact True.intro) hs he (zJ hl hd (rel.put k rv) dd')
  · subst ey eH
    cases (show u = Value.ref b from ry)
    obtain ⟨z, hd, xs, rel, dd⟩ := Bi I.hok e
    have hz : xs.length ≤ sizeLine := by rw [← Paired.length rel]; exact z
    have hl : (ku kvs k v).length ≤ sizeLine := by have := lc kvs k v; omega
    refine wpAny_setItem_heap (hsz := hz) (tupleKind_room_in1 hu) (nF I.hok eb) dd fun h' dd' hs => h _ ?_
    obtain ⟨q, es, ep, hq, h2, h3, h4, _, h5⟩ := dd'
    refine tJ I (by rw [e]; exact True.intro) hs ⟨q, hq⟩ ⟨hl, hd, _, (rel.put k eb rv).keeps fun c ys ec => ?_, q, es, ep, hq, h2, h3, h4, h5⟩
    rw [az (BH ec e (fun z => nomatch z))]
    exact ec
end
section
variable {X : Cx} {pins : List (Addr × Obj)} {σ : St} {H : Hp} {s : Shared} {a : Addr} {kvs : List (cV × V)} {k : cV} {u : Value} {A : Around} {E : Value → Shared → Prop}
theorem Bd {Q : Value → Shared → Prop} (I : aU X pins σ H s) (e : Rd H a (.dK kvs)) (h : ∀ t s', aU X pins σ H s' → Q (.int kvs.length t) s') : wpAny (model X.prog X.w) A (call (.builtin "len") [.ref a]) Q E s := by
  obtain ⟨z, hd, vs, rel, dd⟩ := mw I.hok e
  refine call_len_dict hd dd (by rw [← rel.length]; rw [sizeLine_eq] at z; omega) ?_
  rw [← rel.length]
  exact h _ _ (I.tok _)
end
theorem qv {X : Cx} {pins : List (Addr × Obj)} {σ : St} {H : Hp} {s : Shared} {a : Addr} {y : V} {o : Option V} (I : aU X pins σ H s) (g : mE H a y o) : s.TypeIs (.ref a) "dict" := by
  rcases g with ⟨kvs, k, e, _, _⟩ | ⟨kvs, k, b, e, _, _, _⟩
  · obtain ⟨_, _, vs, _, dd⟩ := mw I.hok e
    exact dd.typeIs
  · obtain ⟨_, _, xs, _, dd⟩ := qF I.hok e
    exact dd.typeIs
def AW (td ty tv : TE) : TS := fun D σ H => tv σ H fun v H1 => td σ H1 fun x H2 => ty σ H2 fun y H3 => ∃ a H4, x = .ref a ∧ sN H3 a y v H4 ∧ D.nx σ H4
section
variable {X : Cx} {o i e value : Expr} {pos pos' tpos : Pos} {td ty tv : TE}
theorem xN (hu : X.A.units + 1 < cLine) (ho : PE X o td) (hi : PE X i ty) (hv : PE X value tv) (hs : swapsWith value (some (.Subscript o i pos')) pos.line X.env = pure false) :
    PS X (.Assign [.Subscript o i pos'] value pos) (AW td ty tv) := by
  intro pins s σ H D I h
  refine wpAny_Assign_Subscript (da (hv pins s σ H _ I h) fun r s1 ⟨v, H1, I1, rv, q1⟩ => da (ho pins s1 σ H1 _ I1 q1) fun u s2 ⟨x, H2, I2, rx, q2⟩ => da (hi pins s2 σ H2 _ I2 q2) fun iv s3 ⟨y, H3, I3, ry, a, H4, ex, g, q3⟩ => ?_) hs
  subst ex
  obtain rfl : u = Value.ref a := rx
  exact uY hu I3 g ry rv fun s4 I4 => ⟨σ, H4, I4, q3⟩
end
theorem wI {P : Program} {w : World} {H : Hp} (h : Heap) (hb : sysModules < h.objs.size) : bW P w H (h.push { cls := .type "dict", data := .dict #[] }) h.objs.size (.dK []) :=
  ⟨Nat.zero_le _, beq_eq_false_iff_ne.mpr (Ne.symm (Nat.ne_of_lt hb)), [], .nil, Heap.DictOf.new h⟩
def Ae : TE := fun _ H Q => ∀ p, H p = none → Q (.ref p) (cx H p (.dK []))
section
variable {X : Cx} {pos : Pos}
theorem vZ : PE X (.Dict [] [] pos) Ae := fun pins s σ H Q I h =>
  wpAny_Dict_empty ⟨.ref s.heap.objs.size, _, I.laid (a := s.heap.objs.size) (o := .dK []) (t' := s.toks) (fun _ _ q => Heap.get?_push_of_some _ q) (Nat.le_refl _) (wI s.heap I.big), rfl, h _ (I.hok.fresh (Nat.le_refl _))⟩
end
end L2
set_option maxHeartbeats 4000000
namespace D2
open PySem PySem.Spec PyProof.Rows L2
abbrev St := L2.St
abbrev aU := @L2.aU
def fo : cV → PyData
  | .inl i => .int i
  | .inr x => .str x
mutual
def Rp (H : Hp) : PyData → V → Prop
  | .none, v => v = .non
  | .bool b, v => v = .bl b
  | .int i, v => v = .int i
  | .str x, v => v = .str x
  | .tuple ds, v => ∃ a vs, v = .ref a ∧ H a = some (.tup vs) ∧ bF H ds vs
  | .list ds, v => ∃ a o vs, v = .ref a ∧ H a = some (.frz o (.lst vs)) ∧ bF H ds vs
  | .dict kvs, v => (∃ a o ks, v = .ref a ∧ H a = some (.frz o (.dK ks)) ∧ dL H kvs ks) ∨ ∃ a o C dx fs, v = .ref a ∧ H a = some (.frz o (.ins C dx fs)) ∧ vA H C fs kvs
def bF (H : Hp) : List PyData → List V → Prop
  | [], vs => vs = []
  | d :: ds, vs => ∃ v r, vs = v :: r ∧ Rp H d v ∧ bF H ds r
def dL (H : Hp) : List (PyData × PyData) → List (cV × V) → Prop
  | [], ks => ks = []
  | kd :: kvs, ks => ∃ x v r, ks = (x, v) :: r ∧ xn H kd x v ∧ dL H kvs r
def xn (H : Hp) : PyData × PyData → cV → V → Prop
  | (k, d), x, v => k = fo x ∧ Rp H d v
def vA (H : Hp) (C : Addr) (fs : List (Str × V)) : List (PyData × PyData) → Prop
  | [] => False
  | kd :: kvs => kd = (.none, .int C) ∧ rh H kvs fs
def rh (H : Hp) : List (PyData × PyData) → List (Str × V) → Prop
  | [], fs => fs = []
  | kd :: kvs, fs => ∃ x v r, fs = (x, v) :: r ∧ yQ H kd x v ∧ rh H kvs r
def yQ (H : Hp) : PyData × PyData → Str → V → Prop
  | (k, d), x, v => k = .str x ∧ Rp H d v
end
def oC : List (PyData × PyData) → Bool
  | (.none, _) :: _ => true
  | _ => false
def Kp (H H' : Hp) : Prop := (∀ b xs, H b = some (.tup xs) → H' b = some (.tup xs)) ∧ ∀ b o u, H b = some (.frz o u) → H' b = some (.frz o u)
theorem Kp.trans {H H1 H2 : Hp} (a : Kp H H1) (b : Kp H1 H2) : Kp H H2 := ⟨fun c xs h => b.1 c xs (a.1 c xs h), fun c o u h => b.2 c o u (a.2 c o u h)⟩
theorem Kp.of {H H' : Hp} (s : aR H H') : Kp H H' := ⟨fun b xs h => s b _ h, fun b o u h => s b _ h⟩
mutual
theorem Rp.kp {H H' : Hp} (k : Kp H H') : ∀ (d : PyData) (v : V), Rp H d v → Rp H' d v
  | .none, v, h => by simpa only [Rp] using h
  | .bool b, v, h => by simpa only [Rp] using h
  | .int i, v, h => by simpa only [Rp] using h
  | .str x, v, h => by simpa only [Rp] using h
  | .tuple ds, v, h => by
    simp only [Rp] at h ⊢
    obtain ⟨a, vs, e, ha, r⟩ := h
    exact ⟨a, vs, e, k.1 _ _ ha, bF.kp k ds vs r⟩
  | .list ds, v, h => by
    simp only [Rp] at h ⊢
    obtain ⟨a, o, vs, e, ha, r⟩ := h
    exact ⟨a, o, vs, e, k.2 _ _ _ ha, bF.kp k ds vs r⟩
  | .dict kvs, v, h => by
    simp only [Rp] at h ⊢
    rcases h with ⟨a, o, ks, e, ha, r⟩ | ⟨a, o, C, dx, fs, e, ha, r⟩
    · exact .inl ⟨a, o, ks, e, k.2 _ _ _ ha, dL.kp k kvs ks r⟩
    · exact .inr ⟨a, o, C, dx, fs, e, k.2 _ _ _ ha, vA.kp k C fs kvs r⟩
theorem bF.kp {H H' : Hp} (k : Kp H H') : ∀ (ds : List PyData) (vs : List V), bF H ds vs → bF H' ds vs
  | [], vs, h => by simpa only [bF] using h
  | d :: ds, vs, h => by
    simp only [bF] at h ⊢
    obtain ⟨v, r, e, h1, h2⟩ := h
    exact ⟨v, r, e, Rp.kp k d v h1, bF.kp k ds r h2⟩
theorem dL.kp {H H' : Hp} (k : Kp H H') : ∀ (kvs : List (PyData × PyData)) (ks : List (cV × V)), dL H kvs ks → dL H' kvs ks
  | [], ks, h => by simpa only [dL] using h
  | kd :: kvs, ks, h => by
    simp only [dL] at h ⊢
    obtain ⟨x, v, r, e, h1, h2⟩ := h
    exact ⟨x, v, r, e, xn.kp k kd x v h1, dL.kp k kvs r h2⟩
theorem xn.kp {H H' : Hp} (k : Kp H H') : ∀ (kd : PyData × PyData) (x : cV) (v : V), xn H kd x v → xn H' kd x v
  | (c, d), x, v, h => by
    simp only [xn] at h ⊢
    exact ⟨h.1, Rp.kp k d v h.2⟩
theorem vA.kp {H H' : Hp} (k : Kp H H') (C : Addr) (fs : List (Str × V)) : ∀ (kvs : List (PyData × PyData)), vA H C fs kvs → vA H' C fs kvs
  | [], h => by simpa only [vA] using h
  | kd :: kvs, h => by
    simp only [vA] at h ⊢
    exact ⟨h.1, rh.kp k kvs fs h.2⟩
theorem rh.kp {H H' : Hp} (k : Kp H H') : ∀ (kvs : List (PyData × PyData)) (fs : List (Str × V)), rh H kvs fs → rh H' kvs fs
  | [], fs, h => by simpa only [rh] using h
  | kd :: kvs, fs, h => by
    simp only [rh] at h ⊢
    obtain ⟨x, v, r, e, h1, h2⟩ := h
    exact ⟨x, v, r, e, yQ.kp k kd x v h1, rh.kp k kvs r h2⟩
theorem yQ.kp {H H' : Hp} (k : Kp H H') : ∀ (kd : PyData × PyData) (x : Str) (v : V), yQ H kd x v → yQ H' kd x v
  | (c, d), x, v, h => by
    simp only [yQ] at h ⊢
    exact ⟨h.1, Rp.kp k d v h.2⟩
end
theorem Rp.mono {H H' : Hp} {d : PyData} {v : V} (h : Rp H d v) (s : aR H H') : Rp H' d v := Rp.kp (Kp.of s) d v h
theorem bF.mono {H H' : Hp} {ds : List PyData} {vs : List V} (h : bF H ds vs) (s : aR H H') : bF H' ds vs := bF.kp (Kp.of s) ds vs h
def iC (H : Hp) : PyData → V → Prop
  | .list ds, v => ∃ a vs, v = .ref a ∧ H a = some (.lst vs) ∧ bF H ds vs
  | .dict kvs, v => ∃ a ks, v = .ref a ∧ H a = some (.dK ks) ∧ dL H kvs ks
  | _, _ => False
theorem iC.mono {H H' : Hp} {d : PyData} {v : V} (h : iC H d v) (s : aR H H') : iC H' d v := by
  cases d <;> simp only [iC] at h ⊢
  · obtain ⟨a, vs, e, ha, r⟩ := h
    exact ⟨a, vs, e, s _ _ ha, bF.mono r s⟩
  · obtain ⟨a, vs, e, ha, r⟩ := h
    exact ⟨a, vs, e, s _ _ ha, dL.kp (Kp.of s) _ _ r⟩
def iw (H : Hp) (d : PyData) (v : V) : Prop := Rp H d v ∨ iC H d v
theorem iw.mono {H H' : Hp} {d : PyData} {v : V} (h : iw H d v) (s : aR H H') : iw H' d v := h.elim (fun h => .inl (h.mono s)) fun h => .inr (h.mono s)
def AO (H H' : Hp) (d : PyData) (v : V) : Prop := iC H' d v ∧ ∃ a, v = .ref a ∧ H a = none
inductive bo where
  | non
  | val (d : PyData)
  | own (d : PyData)
  | exc (p : Addr)
abbrev aX := List bo
def iG (H : Hp) : bo → Option V → Prop
  | .non, _ => True
  | .val d, o => ∃ v, o = some v ∧ Rp H d v
  | .own d, o => ∃ v, o = some v ∧ iC H d v
  | .exc p, o => o = some (.ref p)
def Sl (H : Hp) (σ : St) (ρ : aX) : Prop := σ.length = ρ.length ∧ ∀ (i : Nat) (c : bo) (o : Option V), ρ[i]? = some c → σ[i]? = some o → iG H c o
theorem iG.mono {H H' : Hp} {c : bo} {o : Option V} (h : iG H c o) (s : aR H H') : iG H' c o := by
  cases c <;> simp only [iG] at h ⊢
  · obtain ⟨v, e, h⟩ := h; exact ⟨v, e, h.mono s⟩
  · obtain ⟨v, e, h⟩ := h; exact ⟨v, e, h.mono s⟩
  · exact h
theorem Sl.mono {H H' : Hp} {σ : St} {ρ : aX} (h : Sl H σ ρ) (s : aR H H') : Sl H' σ ρ := ⟨h.1, fun i c o h1 h2 => (h.2 i c o h1 h2).mono s⟩
inductive R (α : Type) where
  | ok (a : α)
  | ex (c : Str)
  | no
def R.bind {α β : Type} : R α → (α → R β) → R β
  | .ok a, f => f a
  | .ex c, _ => .ex c
  | .no, _ => .no
instance : Monad R where
  pure := .ok
  bind := R.bind
@[simp] theorem R.ok_bind {α β : Type} (a : α) (f : α → R β) : (R.ok a >>= f) = f a := (rfl)
structure Bl (P : Program) (w : World) (outer : List Env) (H : Hp) (s : Shared) (C : Addr) (H' : Hp) (e : Value) (s' : Shared) : Prop where
  os : s'.os = s.os
  bare : AllBare s'.gens
  same : aR H H'
  ex : ∃ (p : Addr) (a0 : Value) (B : Heap), e = .ref p ∧ Heap.FlyingW B outer p (.ref C) a0 s'.heap ∧ jg P w H' B ∧ H' p = none ∧ ∀ b o, s.heap.get? b = some o → H b = none → b ∉ nJ outer → B.get? b = some o ∧ H' b = none
  slot : ∀ b o, s.heap.get? b = some o → H b = none → b ∈ nJ outer → (∃ sl, s'.heap.get? b = some { o with slots := sl }) ∧ H' b = none
def cF (P : Program) (w : World) (mg : Str → Option Value) : vB := fun outer H s E e s' => ∃ n C H', mg n = some (.ref C) ∧ Bl P w outer H s C H' e s' ∧ E (.str n 0) none H'
def EX (X : Cx) : XK := fun v _ H' => ∀ (n : Str) (C : Addr), v = .str n 0 → X.mg n = some (.ref C) → ∀ (pins : List (Addr × Obj)) (σ : St) (H : Hp) (s : Shared) (e : Value) (s' : Shared), aU X pins σ H s → Bl X.prog X.w X.stack H s C H' e s' → X.xe e s'
theorem ua {X : Cx} : my (cF X.prog X.w X.mg) X (EX X) := fun pins σ H s e s' I ⟨n, C, H', hm, f, q⟩ => q n C rfl hm pins σ H s e s' I f
def Xw (X : Cx) (c : Str) (H : Hp) : Prop := ∀ H1, aR H H1 → EX X (.str c 0) none H1
theorem Xw.mono {X : Cx} {c : Str} {H H' : Hp} (h : Xw X c H) (s : aR H H') : Xw X c H' := fun H1 s1 => h H1 (s.trans s1)
def Bp (X : Cx) (c : Str) (Fm : Hp) : Prop := ∀ C, X.mg c = some (.ref C) → ∀ (pins : List (Addr × Obj)) (σ : St) (H : Hp) (s : Shared), aR Fm H → aU X pins σ H s → ∀ (h' : Heap) (p : Addr) (vs : List Value), Heap.MadeExcOf s.heap h' p (.ref C) vs → X.xe (.ref p) { s with heap := h' }
theorem Bp.mono {X : Cx} {c : Str} {H H' : Hp} (h : Bp X c H) (s : aR H H') : Bp X c H' := fun C hm pins σ H1 s1 e => h C hm pins σ H1 s1 (s.trans e)
def uo (X : Cx) (P : Hp → Hp → PyData → V → Prop) (r : R PyData) (H : Hp) (Q : VK) : Prop :=
  match r with
  | .ok d => ∀ v H', aR H H' → P H H' d v → Q v H'
  | .ex c => Xw X c H
  | .no => False
abbrev gI : Hp → Hp → PyData → V → Prop := fun _ H' d v => Rp H' d v
abbrev u0 : Hp → Hp → PyData → V → Prop := fun _ H' d v => iw H' d v
abbrev B1 : Hp → Hp → PyData → V → Prop := fun H H' d v => Rp H' d v ∨ AO H H' d v
abbrev Fe := aX → R PyData
def ju (X : Cx) (P : Hp → Hp → PyData → V → Prop) (f : Fe) : TE := fun σ H Q => ∃ ρ, Sl H σ ρ ∧ uo X P (f ρ) H Q
def ak (X : Cx) (e : Expr) (f : Fe) : Prop := PE X e (ju X gI f)
structure Z.ak (X : Cx) (e : Expr) (f : Fe) : Prop where
  un : D2.ak X e f
def bU (X : Cx) (e : Expr) (f : Fe) : Prop := PE X e (ju X u0 f)
structure Z.bU (X : Cx) (e : Expr) (f : Fe) : Prop where
  un : D2.bU X e f
def yp (X : Cx) (e : Expr) (f : Fe) : Prop := PE X e (ju X B1 f)
structure Z.yp (X : Cx) (e : Expr) (f : Fe) : Prop where
  un : D2.yp X e f
def gf (X : Cx) (e : Expr) (f : Fe) : Prop := PE X e (ju X AO f)
structure Z.gf (X : Cx) (e : Expr) (f : Fe) : Prop where
  un : D2.gf X e f
def RA (I : Hp → PyData → V → Prop) (H : Hp) : List PyData → List V → Prop
  | [], vs => vs = []
  | d :: ds, vs => ∃ v r, vs = v :: r ∧ I H d v ∧ RA I H ds r
theorem mG {H : Hp} : ∀ {ds : List PyData} {vs : List V}, RA Rp H ds vs ↔ bF H ds vs
  | [], vs => by simp only [RA, bF]
  | d :: ds, vs => by simp only [RA, bF, mG (ds := ds)]
def wK (X : Cx) (I : Hp → PyData → V → Prop) (f : aX → R (List PyData)) : TA := fun σ H Q => ∃ ρ, Sl H σ ρ ∧ match f ρ with
  | .ok ds => ∀ vs H', aR H H' → RA I H' ds vs → Q vs H'
  | .ex c => Xw X c H
  | .no => False
def nT (X : Cx) (es : List Expr) (f : aX → R (List PyData)) : Prop := PA X es (wK X Rp f)
structure Z.nT (X : Cx) (es : List Expr) (f : aX → R (List PyData)) : Prop where
  un : D2.nT X es f
def AC (X : Cx) (es : List Expr) (f : aX → R (List PyData)) : Prop := PA X es (wK X iw f)
def yC (X : Cx) (f : aX → R Bool) : TT := fun σ H Q => ∃ ρ, Sl H σ ρ ∧ match f ρ with
  | .ok b => ∀ H', aR H H' → Q b H'
  | .ex c => Xw X c H
  | .no => False
def gE (X : Cx) (e : Expr) (f : aX → R Bool) : Prop := PT X e (yC X f)
structure Z.gE (X : Cx) (e : Expr) (f : aX → R Bool) : Prop where
  un : D2.gE X e f
def nW (X : Cx) (e : Expr) (f : aX → R Bool) : Prop := PW X e (yC X f)
structure Z.nW (X : Cx) (e : Expr) (f : aX → R Bool) : Prop where
  un : D2.nW X e f
theorem PE.imp {X : Cx} {e : Expr} {t t' : TE} (h : PE X e t) (i : ∀ σ H Q, t' σ H Q → t σ H Q) : PE X e t' := fun pins s σ H Q I q => h pins s σ H Q I (i σ H Q q)
theorem PT.imp {X : Cx} {e : Expr} {t t' : TT} (h : PT X e t) (i : ∀ σ H Q, t' σ H Q → t σ H Q) : PT X e t' := fun pins s σ H Q I q => h pins s σ H Q I (i σ H Q q)
theorem PW.imp {X : Cx} {e : Expr} {t t' : TT} (h : PW X e t) (i : ∀ σ H Q, t' σ H Q → t σ H Q) : PW X e t' := fun wh pins s σ H Q I q => h wh pins s σ H Q I (i σ H Q q)
theorem PA.imp {X : Cx} {e : List Expr} {t t' : TA} (h : PA X e t) (i : ∀ σ H Q, t' σ H Q → t σ H Q) : PA X e t' := fun pos pins s σ H Q I q => h pos pins s σ H Q I (i σ H Q q)
theorem ju.post {X : Cx} {P : Hp → Hp → PyData → V → Prop} {f : Fe} {σ : St} {H : Hp} {Q Q' : VK} (h : ju X P f σ H Q) (i : ∀ v H', Q v H' → Q' v H') : ju X P f σ H Q' := by
  obtain ⟨ρ, sl, q⟩ := h
  refine ⟨ρ, sl, ?_⟩
  cases e : f ρ with
  | ok d => rw [e] at q; exact fun v H' s p => i _ _ (q v H' s p)
  | ex c => rw [e] at q; exact q
  | no => rw [e] at q; exact q
theorem yC.post {X : Cx} {f : aX → R Bool} {σ : St} {H : Hp} {Q Q' : Bool → Hp → Prop} (h : yC X f σ H Q) (i : ∀ b H', Q b H' → Q' b H') : yC X f σ H Q' := by
  obtain ⟨ρ, sl, q⟩ := h
  refine ⟨ρ, sl, ?_⟩
  cases e : f ρ with
  | ok d => rw [e] at q; exact fun H' s => i _ _ (q H' s)
  | ex c => rw [e] at q; exact q
  | no => rw [e] at q; exact q
theorem wK.post {X : Cx} {I : Hp → PyData → V → Prop} {f : aX → R (List PyData)} {σ : St} {H : Hp} {Q Q' : List V → Hp → Prop} (h : wK X I f σ H Q) (i : ∀ vs H', Q vs H' → Q' vs H') : wK X I f σ H Q' := by
  obtain ⟨ρ, sl, q⟩ := h
  refine ⟨ρ, sl, ?_⟩
  cases e : f ρ with
  | ok d => rw [e] at q; exact fun vs H' s p => i _ _ (q vs H' s p)
  | ex c => rw [e] at q; exact q
  | no => rw [e] at q; exact q
theorem ju.weaken {X : Cx} {P P' : Hp → Hp → PyData → V → Prop} {f : Fe} (h : ∀ H H' d v, P H H' d v → P' H H' d v) (σ : St) (H : Hp) (Q : VK) (q : ju X P' f σ H Q) : ju X P f σ H Q := by
  obtain ⟨ρ, sl, q⟩ := q
  refine ⟨ρ, sl, ?_⟩
  cases e : f ρ with
  | ok d => rw [e] at q; exact fun v H' s p => q v H' s (h _ _ _ _ p)
  | ex c => rw [e] at q; exact q
  | no => rw [e] at q; exact q
section
variable {X : Cx} {e : Expr} {f : Fe}
theorem ak.b (h : ak X e f) : bU X e f := PE.imp h (ju.weaken fun _ _ _ _ p => Or.inl p)
theorem Z.ak.b (h : Z.ak X e f) : Z.bU X e f :=
  ⟨D2.ak.b h.un⟩
theorem gf.b (h : gf X e f) : bU X e f := PE.imp h (ju.weaken fun _ _ _ _ p => Or.inr p.1)
theorem Z.gf.b (h : Z.gf X e f) : Z.bU X e f :=
  ⟨D2.gf.b h.un⟩
theorem gf.toF (h : gf X e f) : yp X e f := PE.imp h (ju.weaken fun _ _ _ _ p => Or.inr p)
end
section
variable {X : Cx} {pins : List (Addr × Obj)} {σ : St} {H : Hp} {s : Shared} {a : Addr} {u : HO}
theorem ge (I : aU X pins σ H s) (h : H a = some u) (hm : (∃ xs, u = .lst xs) ∨ ∃ ks, u = .dK ks) : ∃ o, aU X pins σ (cx H a (.frz o u)) s := by
  have ob := I.hok a u h
  have hg : ∃ o, s.heap.get? a = some o := by
    rcases hm with ⟨xs, rfl⟩ | ⟨ks, rfl⟩
    · obtain ⟨_, _, _, _, e⟩ := ob; exact ⟨_, e⟩
    · obtain ⟨_, _, _, _, o, _, _, e, _⟩ := ob; exact ⟨_, e⟩
  obtain ⟨o, hg⟩ := hg
  have nt : ∀ b xs, H b = some (.tup xs) → b ≠ a := fun b xs q z => by subst z; rw [h] at q; rcases hm with ⟨_, rfl⟩ | ⟨_, rfl⟩ <;> cases q
  have nf : ∀ b o' u', H b = some (.frz o' u') → b ≠ a := fun b o' u' q z => by subst z; rw [h] at q; rcases hm with ⟨_, rfl⟩ | ⟨_, rfl⟩ <;> cases q
  have nb : ∀ b ps, H b = some (.tbl ps) → b ≠ a := fun b ps q z => by subst z; rw [h] at q; rcases hm with ⟨_, rfl⟩ | ⟨_, rfl⟩ <;> cases q
  have nw : ∀ b y, H b = some (.own y) → b ≠ a := fun b y q z => by subst z; rw [h] at q; rcases hm with ⟨_, rfl⟩ | ⟨_, rfl⟩ <;> cases q
  have nn : ∀ b, H b = none → b ≠ a := fun b q z => by subst z; rw [h] at q; cases q
  have st : ∀ b x, bW X.prog X.w H s.heap b x → bW X.prog X.w (cx H a (.frz o u)) s.heap b x := fun b x q =>
    q.stay (fun c v _ e => e) (fun c e => by rw [az (nw _ _ e)]; exact e) fun c xs e => by rw [az (nt _ _ e)]; exact e
  refine ⟨o, ⟨I.ok, I.os, I.bare, ⟨I.base.keep, I.base.slot, fun b ob' e n hx => ?_, I.base.there, fun b xs e => ?_, fun b ob' v e => ?_, fun b ps e => ?_⟩, I.loc, I.cell, ?_, fun x c e => ?_, fun p hp => ?_, fun b x e => ?_, I.len⟩⟩
  · have := I.base.free b ob' e n hx
    rw [az (nn _ this)]; exact this
  · have := I.base.tups b xs e
    rw [az (nt _ _ this)]; exact this
  · have := I.base.frzs b ob' v e
    rw [az (nf _ _ _ this)]; exact this
  · obtain ⟨m, q⟩ := I.base.tbls b ps e
    exact ⟨m, by rw [az (nb _ _ q)]; exact q⟩
  · rw [az (nn _ I.free)]; exact I.free
  · rw [az (nn _ (I.freeC x c e))]; exact I.freeC x c e
  · obtain ⟨p1, p2, p3⟩ := I.pin p hp
    exact ⟨p1, by rw [az (nn _ p2)]; exact p2, p3⟩
  · by_cases hb : b = a
    · subst hb
      rw [bi] at e; cases e
      exact ⟨hg, st b u ob⟩
    · rw [az hb] at e
      exact st b x (I.hok b x e)
theorem gc {o' : HO} (h : H a = some u) (hm : (∃ xs, u = .lst xs) ∨ ∃ ks, u = .dK ks) : Kp H (cx H a o') := by
  refine ⟨fun b xs e => ?_, fun b o v e => ?_⟩
  · rw [az]; exact e
    rintro rfl; rw [h] at e; rcases hm with ⟨_, rfl⟩ | ⟨_, rfl⟩ <;> cases e
  · rw [az]; exact e
    rintro rfl; rw [h] at e; rcases hm with ⟨_, rfl⟩ | ⟨_, rfl⟩ <;> cases e
theorem zn {H0 : Hp} {d : PyData} {v : V} (I : aU X pins σ H s) (hs : aR H0 H) (n : AO H0 H d v) : ∃ H', aU X pins σ H' s ∧ aR H0 H' ∧ Rp H' d v := by
  obtain ⟨n, a, rfl, h0⟩ := n
  have go : ∀ u : HO, H a = some u → ((∃ xs, u = .lst xs) ∨ ∃ ks, u = .dK ks) → ∃ o, aU X pins σ (cx H a (.frz o u)) s ∧ aR H0 (cx H a (.frz o u)) ∧ Kp H (cx H a (.frz o u)) := fun u hu hm => by
    obtain ⟨o, J⟩ := ge I hu hm
    refine ⟨o, J, fun b x e => ?_, gc hu hm⟩
    rw [az (bd e h0)]; exact hs b x e
  cases d <;> simp only [iC] at n
  · obtain ⟨a', vs, e, ha, r⟩ := n
    cases e
    obtain ⟨o, J, S, K⟩ := go _ ha (.inl ⟨_, rfl⟩)
    refine ⟨_, J, S, ?_⟩
    simp only [Rp]
    exact ⟨a, o, vs, rfl, bi, bF.kp K _ _ r⟩
  · obtain ⟨a', vs, e, ha, r⟩ := n
    cases e
    obtain ⟨o, J, S, K⟩ := go _ ha (.inr ⟨_, rfl⟩)
    refine ⟨_, J, S, ?_⟩
    simp only [Rp]
    exact .inl ⟨a, o, vs, rfl, bi, dL.kp K _ _ r⟩
end
theorem yp.e {X : Cx} {e : Expr} {f : Fe} (h : yp X e f) : ak X e f := by
  intro pins s σ H Q I q
  obtain ⟨ρ, sl, q⟩ := q
  cases ef : f ρ with
  | ok d =>
    rw [ef] at q
    refine da (h pins s σ H (fun v H' => aR H H' ∧ B1 H H' d v) I ⟨ρ, sl, by rw [ef]; exact fun v H' hs p => ⟨hs, p⟩⟩) fun u s' ⟨v, H', I', r, hs, p⟩ => ?_
    rcases p with p | p
    · exact ⟨v, H', I', r, q v H' hs p⟩
    · obtain ⟨H2, I2, S2, p2⟩ := zn I' hs p
      exact ⟨v, H2, I2, r, q v H2 S2 p2⟩
  | ex c => rw [ef] at q; exact da (h pins s σ H (fun _ _ => False) I ⟨ρ, sl, by rw [ef]; exact q⟩) fun u s' ⟨v, H', I', r, z⟩ => z.elim
  | no => rw [ef] at q; exact q.elim
theorem Z.yp.e {X : Cx} {e : Expr} {f : Fe} (h : Z.yp X e f) : Z.ak X e f :=
  ⟨D2.yp.e h.un⟩
theorem gf.e {X : Cx} {e : Expr} {f : Fe} (h : gf X e f) : ak X e f := (gf.toF h).e
theorem Z.gf.e {X : Cx} {e : Expr} {f : Fe} (h : Z.gf X e f) : Z.ak X e f :=
  ⟨D2.gf.e h.un⟩
structure AB {β : Type} (X : Cx) (T : R β → Hp → Prop) : Prop where
  mono : ∀ r H H', T r H → aR H H' → T r H'
  ex : ∀ c H, T (.ex c) H → Xw X c H
  no : ∀ H, ¬ T .no H
def Dn (P : Hp → Hp → PyData → V → Prop) : Prop := ∀ H H1 H' d v, aR H H1 → P H1 H' d v → P H H' d v
theorem fM : Dn gI := fun _ _ _ _ _ _ p => p
theorem yr : Dn AO := fun _ _ _ _ _ s p => ⟨p.1, let ⟨a, e, h⟩ := p.2; ⟨a, e, s.free h⟩⟩
theorem Cr : Dn B1 := fun _ _ _ _ _ s p => p.elim .inl fun p => .inr (yr _ _ _ _ _ s p)
section
variable {X : Cx} {σ : St} {H : Hp}
theorem gt {P : Hp → Hp → PyData → V → Prop} (hP : Dn P) (Q : VK) : AB X (fun r H => uo X P r H Q) where
  mono := fun r H H' h s => by
    cases r with
    | ok d => exact fun v H2 s2 p => h v H2 (s.trans s2) (hP _ _ _ _ _ s p)
    | ex c => exact Xw.mono h s
    | no => exact h
  ex := fun c H h => h
  no := fun H h => h
theorem uw (Q : Bool → Hp → Prop) : AB X (fun (r : R Bool) H => match r with | .ok b => ∀ H', aR H H' → Q b H' | .ex c => Xw X c H | .no => False) where
  mono := fun r H H' h s => by
    cases r with
    | ok d => exact fun H2 s2 => h H2 (s.trans s2)
    | ex c => exact Xw.mono h s
    | no => exact h
  ex := fun c H h => h
  no := fun H h => h
theorem yP (I : Hp → PyData → V → Prop) (Q : List V → Hp → Prop) : AB X (fun (r : R (List PyData)) H => match r with | .ok ds => ∀ vs H', aR H H' → RA I H' ds vs → Q vs H' | .ex c => Xw X c H | .no => False) where
  mono := fun r H H' h s => by
    cases r with
    | ok d => exact fun vs H2 s2 => h vs H2 (s.trans s2)
    | ex c => exact Xw.mono h s
    | no => exact h
  ex := fun c H h => h
  no := fun H h => h
theorem fZ {β : Type} {T : R β → Hp → Prop} (t : AB X T) {P : Hp → Hp → PyData → V → Prop} {f : Fe} {k : aX → PyData → R β} (h : ∃ ρ, Sl H σ ρ ∧ T (f ρ >>= k ρ) H) :
    ju X P f σ H (fun v H1 => ∃ ρ d, Sl H1 σ ρ ∧ aR H H1 ∧ P H H1 d v ∧ T (k ρ d) H1) := by
  obtain ⟨ρ, sl, q⟩ := h
  refine ⟨ρ, sl, ?_⟩
  cases e : f ρ with
  | ok d => rw [e] at q; exact fun v H1 s p => ⟨ρ, d, sl.mono s, s, p, t.mono _ _ _ q s⟩
  | ex c => rw [e] at q; exact t.ex _ _ q
  | no => rw [e] at q; exact (t.no _ q).elim
theorem o4 {β : Type} {T : R β → Hp → Prop} (t : AB X T) {f : aX → R Bool} {k : aX → Bool → R β} (h : ∃ ρ, Sl H σ ρ ∧ T (f ρ >>= k ρ) H) :
    yC X f σ H (fun b H1 => ∃ ρ, Sl H1 σ ρ ∧ aR H H1 ∧ T (k ρ b) H1) := by
  obtain ⟨ρ, sl, q⟩ := h
  refine ⟨ρ, sl, ?_⟩
  cases e : f ρ with
  | ok d => rw [e] at q; exact fun H1 s => ⟨ρ, sl.mono s, s, t.mono _ _ _ q s⟩
  | ex c => rw [e] at q; exact t.ex _ _ q
  | no => rw [e] at q; exact (t.no _ q).elim
theorem mM {β : Type} {T : R β → Hp → Prop} (t : AB X T) {I : Hp → PyData → V → Prop} {f : aX → R (List PyData)} {k : aX → List PyData → R β} (h : ∃ ρ, Sl H σ ρ ∧ T (f ρ >>= k ρ) H) :
    wK X I f σ H (fun vs H1 => ∃ ρ ds, Sl H1 σ ρ ∧ aR H H1 ∧ RA I H1 ds vs ∧ T (k ρ ds) H1) := by
  obtain ⟨ρ, sl, q⟩ := h
  refine ⟨ρ, sl, ?_⟩
  cases e : f ρ with
  | ok d => rw [e] at q; exact fun vs H1 s p => ⟨ρ, d, sl.mono s, s, p, t.mono _ _ _ q s⟩
  | ex c => rw [e] at q; exact t.ex _ _ q
  | no => rw [e] at q; exact (t.no _ q).elim
end
def af (i : Nat) : Fe := fun ρ => match ρ[i]? with
  | some (.val d) => .ok d
  | _ => .no
def fT (i : Nat) : Fe := fun ρ => match ρ[i]? with
  | some (.val d) => .ok d
  | some (.own d) => .ok d
  | _ => .no
def eC (d : PyData) : Fe := fun _ => .ok d
structure Tb (X : Cx) (nl : Nat) (G : List Str) : Prop where
  hu : X.A.units + 64 < cLine
  calm : X.calm = true
  nd : X.N.Nodup
  vis : ∀ x ∈ X.N, Av X.env.scope x ∧ (x == ("__debug__" : Str)) = false ∧ (x == ("__classdict__" : Str)) = false
  loc : ∀ x ∈ X.N.take nl, yT X.env.scope x ∧ (X.fn x = true ∨ X.env.scope.names.lookup x = some .local)
  gl : ∀ x ∈ G, Gl X x ∧ (x == ("__debug__" : Str)) = false ∧ x ≠ ("__name__" : Str)
section
variable {X : Cx} {nl : Nat} {G : List Str} {x : Str} {pos : Pos}
theorem Sl.at {H : Hp} {σ : St} {ρ : aX} {i : Nat} {c : bo} (h : Sl H σ ρ) (e : ρ[i]? = some c) : ∃ o, σ[i]? = some o ∧ iG H c o := by
  have hi : i < σ.length := by rw [h.1]; exact (List.getElem?_eq_some_iff.mp e).1
  exact ⟨σ[i], List.getElem?_eq_getElem hi, h.2 i c _ e (List.getElem?_eq_getElem hi)⟩
theorem aa (T : Tb X nl G) (i : Nat) (hN : X.N[i]? = some x) : ak X (.Name x pos) (af i) := by
  have hm := T.vis x (List.mem_of_getElem? hN)
  refine PE.imp (kR hN hm.1 hm.2.1 hm.2.2) fun σ H Q ⟨ρ, sl, q⟩ => ?_
  unfold af at q
  split at q
  · rename_i d e
    obtain ⟨o, h1, v, rfl, h2⟩ := sl.at e
    exact ⟨v, h1, q v H (aR.refl H) h2⟩
  · exact q.elim
theorem Z.aa (T : Tb X nl G) (i : Nat) (hN : X.N[i]? = some x) : Z.ak X (.Name x pos) (af i) :=
  ⟨D2.aa T i hN⟩
theorem eF (T : Tb X nl G) (i : Nat) (hN : X.N[i]? = some x) : bU X (.Name x pos) (fT i) := by
  have hm := T.vis x (List.mem_of_getElem? hN)
  refine PE.imp (kR hN hm.1 hm.2.1 hm.2.2) fun σ H Q ⟨ρ, sl, q⟩ => ?_
  unfold fT at q
  split at q
  · rename_i d e
    obtain ⟨o, h1, v, rfl, h2⟩ := sl.at e
    exact ⟨v, h1, q v H (aR.refl H) (.inl h2)⟩
  · rename_i d e
    obtain ⟨o, h1, v, rfl, h2⟩ := sl.at e
    exact ⟨v, h1, q v H (aR.refl H) (.inr h2)⟩
  · exact q.elim
theorem Z.eF (T : Tb X nl G) (i : Nat) (hN : X.N[i]? = some x) : Z.bU X (.Name x pos) (fT i) :=
  ⟨D2.eF T i hN⟩
theorem nA {e : Expr} {d : PyData} {v : V} (h : PE X e (tC v)) (r : ∀ H, Rp H d v) : ak X e (eC d) :=
  PE.imp h fun σ H Q ⟨ρ, sl, q⟩ => q v H (aR.refl H) (r H)
theorem av {i j} : ak X (.Constant (.int i) j pos) (eC (.int i)) := nA AL fun H => by simp only [Rp]
theorem Z.av {i j} : Z.ak X (.Constant (.int i) j pos) (eC (.int i)) :=
  ⟨D2.av⟩
theorem gU {b j} : ak X (.Constant (.bool b) j pos) (eC (.bool b)) := nA Br fun H => by simp only [Rp]
theorem Z.gU {b j} : Z.ak X (.Constant (.bool b) j pos) (eC (.bool b)) :=
  ⟨D2.gU⟩
theorem eJ {j} : ak X (.Constant .none j pos) (eC .none) := nA Al fun H => by simp only [Rp]
theorem Z.eJ {j} : Z.ak X (.Constant .none j pos) (eC .none) :=
  ⟨D2.eJ⟩
theorem jT {y j} : ak X (.Constant (.str y) j pos) (eC (.str y)) := nA zM fun H => by simp only [Rp]
theorem Z.jT {y j} : Z.ak X (.Constant (.str y) j pos) (eC (.str y)) :=
  ⟨D2.jT⟩
theorem eA {i : Int} {t : Tok} (T : Tb X nl G) (j : Nat) (hG : G[j]? = some x) (hm : X.mg x = some (.int i t)) : ak X (.Name x pos) (eC (.int i)) := by
  have g := T.gl x (List.mem_of_getElem? hG)
  exact nA (xy g.1 hm (v := .int i) ⟨t, rfl⟩ g.2.1) fun H => by simp only [Rp]
theorem Z.eA {i : Int} {t : Tok} (T : Tb X nl G) (j : Nat) (hG : G[j]? = some x) (hm : X.mg x = some (.int i t)) : Z.ak X (.Name x pos) (eC (.int i)) :=
  ⟨D2.eA T j hG hm⟩
end
section
variable {X : Cx} {a b c : Expr} {fa fb fc : Fe} {pos : Pos}
def e2 (g : PyData → PyData → R PyData) (fa fb : Fe) : Fe := fun ρ => fa ρ >>= fun x => fb ρ >>= fun y => g x y
def e1 (g : PyData → R PyData) (fa : Fe) : Fe := fun ρ => fa ρ >>= fun x => g x
def ca (X : Cx) (P : Hp → Hp → PyData → V → Prop) (r : R2) (g : PyData → PyData → R PyData) : Prop :=
  ∀ H x y dx dy Q, iw H dx x → iw H dy y → uo X P (g dx dy) H Q → r x y H Q
theorem two {P : Hp → Hp → PyData → V → Prop} {r : R2} {g : PyData → PyData → R PyData} (hP : Dn P) (hg : ca X P r g) (σ : St) (H : Hp) (Q : VK) (h : ju X P (e2 g fa fb) σ H Q) :
    Bf r (ju X u0 fa) (ju X u0 fb) σ H Q :=
  (fZ (P := u0) (gt (X := X) hP Q) h).post fun v H1 ⟨ρ1, d1, sl1, _, p1, q1⟩ =>
    (fZ (P := u0) (f := fb) (k := fun _ y => g d1 y) (gt (X := X) hP Q) ⟨ρ1, sl1, q1⟩).post fun u H2 ⟨_, d2, _, s2, p2, q2⟩ => hg H2 v u d1 d2 Q (iw.mono p1 s2) p2 q2
theorem mS {op : Operator} {P : Hp → Hp → PyData → V → Prop} {r : R2} {g : PyData → PyData → R PyData} (hP : Dn P) (ho : ix X (binaryOp op) r) (hg : ca X P r g) (ha : bU X a fa) (hb : bU X b fb) :
    PE X (.BinOp a op b pos) (ju X P (e2 g fa fb)) := PE.imp (Bv ho ha hb) (two hP hg)
theorem rU {op : CmpOp} {r : R2} {g : PyData → PyData → R PyData} (ho : ix X (compareOp op) r) (hg : ca X gI r g) (ha : bU X a fa) (hb : bU X b fb) (hm : behindInMarks op b = false) :
    ak X (.Compare a [op] [b] pos) (e2 g fa fb) := PE.imp (yJ ho ha hb hm) (two fM hg)
end
def ub : PyData → R Bool
  | .bool b => .ok b
  | _ => .no
def tE (f : Fe) : aX → R Bool := fun ρ => f ρ >>= ub
theorem tW {X : Cx} {f : Fe} {σ : St} {H : Hp} {Q : Bool → Hp → Prop} (h : yC X (tE f) σ H Q) : ju X gI f σ H (fun x H' => ∃ k, x = .bl k ∧ Q k H') :=
  (fZ (P := gI) (f := f) (k := fun _ => ub) (uw (X := X) Q) h).post fun v H1 ⟨ρ1, d1, _, _, p1, q1⟩ => by
    cases d1 with
    | bool b =>
      have p2 : v = .bl b := by simpa only [Rp] using p1
      exact ⟨b, p2, q1 H1 (aR.refl _)⟩
    | _ => exact q1.elim
section
variable {X : Cx} {a b c : Expr} {fa fb fc : Fe} {pos : Pos}
theorem gr {op : CmpOp} {r : R2} {g : PyData → PyData → R PyData} (ho : ix X (compareOp op) r) (hg : ca X gI r g) (ha : bU X a fa) (hb : bU X b fb) (hm : behindInMarks op b = false) :
    gE X (.Compare a [op] [b] pos) (tE (e2 g fa fb)) :=
  PT.imp (yc ho ha hb hm) fun σ H Q h => two fM hg σ H _ (tW h)
theorem fO {e : Expr} {f : Fe} (h : ak X e f) (he : ∀ whole, isTrue e X.env whole = (do let v ← whole; standAt e.pos; holding [v] (truthy v)) := by intro _; rfl) : gE X e (tE f) :=
  PT.imp (AK h he) fun σ H Q h => tW h
theorem Z.fO {e : Expr} {f : Fe} (h : Z.ak X e f) (he : ∀ whole, isTrue e X.env whole = (do let v ← whole; standAt e.pos; holding [v] (truthy v)) := by intro _; rfl) : Z.gE X e (tE f) :=
  ⟨D2.fO h.un he⟩
def ou (f g : aX → R Bool) : aX → R Bool := fun ρ => f ρ >>= fun b => if b = true then g ρ else .ok false
def vS (f g : aX → R Bool) : aX → R Bool := fun ρ => f ρ >>= fun b => if b = true then .ok true else g ρ
def jD (f : aX → R Bool) : aX → R Bool := fun ρ => f ρ >>= fun b => .ok (!b)
variable {ga gb : aX → R Bool} {rest : List Expr}
theorem mL (ha : gE X a ga) : nW X (.BoolOp .And [a] pos) ga := pw_and1 ha
theorem Z.mL (ha : Z.gE X a ga) : Z.nW X (.BoolOp .And [a] pos) ga :=
  ⟨D2.mL ha.un⟩
theorem pB (ha : gE X a ga) : nW X (.BoolOp .Or [a] pos) ga := pw_or1 ha
theorem Z.pB (ha : Z.gE X a ga) : Z.nW X (.BoolOp .Or [a] pos) ga :=
  ⟨D2.pB ha.un⟩
theorem oS (ha : gE X a ga) (hb : nW X (.BoolOp .And (b :: rest) pos) gb) : nW X (.BoolOp .And (a :: b :: rest) pos) (ou ga gb) :=
  PW.imp (pw_and ha hb) fun σ H Q h => (o4 (f := ga) (k := fun ρ b => if b = true then gb ρ else .ok false) (uw (X := X) Q) h).post fun d H1 ⟨ρ1, sl1, _, q1⟩ => by
    cases d with
    | true => exact ⟨ρ1, sl1, q1⟩
    | false => exact q1 H1 (aR.refl _)
theorem Z.oS (ha : Z.gE X a ga) (hb : Z.nW X (.BoolOp .And (b :: rest) pos) gb) : Z.nW X (.BoolOp .And (a :: b :: rest) pos) (ou ga gb) :=
  ⟨D2.oS ha.un hb.un⟩
theorem sr (ha : gE X a ga) (hb : nW X (.BoolOp .Or (b :: rest) pos) gb) : nW X (.BoolOp .Or (a :: b :: rest) pos) (vS ga gb) :=
  PW.imp (pw_or ha hb) fun σ H Q h => (o4 (f := ga) (k := fun ρ b => if b = true then .ok true else gb ρ) (uw (X := X) Q) h).post fun d H1 ⟨ρ1, sl1, _, q1⟩ => by
    cases d with
    | false => exact ⟨ρ1, sl1, q1⟩
    | true => exact q1 H1 (aR.refl _)
theorem Z.sr (ha : Z.gE X a ga) (hb : Z.nW X (.BoolOp .Or (b :: rest) pos) gb) : Z.nW X (.BoolOp .Or (a :: b :: rest) pos) (vS ga gb) :=
  ⟨D2.sr ha.un hb.un⟩
theorem nW.t {e : Expr} (h : nW X e ga) : gE X e ga := PW.pt h
theorem Z.nW.t {e : Expr} (h : Z.nW X e ga) : Z.gE X e ga :=
  ⟨D2.nW.t h.un⟩
theorem gk (ha : gE X a ga) : gE X (.UnaryOp .Not a pos) (jD ga) :=
  PT.imp (Ac ha) fun σ H Q h => (o4 (f := ga) (k := fun _ b => .ok (!b)) (uw (X := X) Q) h).post fun d H1 ⟨ρ1, sl1, _, q1⟩ => q1 H1 (aR.refl _)
theorem Z.gk (ha : Z.gE X a ga) : Z.gE X (.UnaryOp .Not a pos) (jD ga) :=
  ⟨D2.gk ha.un⟩
def w6 (f g : Fe) : Fe := fun ρ => f ρ >>= fun d => ub d >>= fun b => if b = true then g ρ else .ok (.bool false)
def zP (f : Fe) : Fe := fun ρ => f ρ >>= fun d => ub d >>= fun b => .ok (.bool (!b))
theorem uk {k : aX → Bool → R PyData} {f : Fe} {σ : St} {H : Hp} {Q : VK} (h : ju X gI (fun ρ => f ρ >>= fun d => ub d >>= fun b => k ρ b) σ H Q) :
    ju X gI f σ H (fun x H' => ∃ c, x = .bl c ∧ ju X gI (fun ρ => k ρ c) σ H' Q) :=
  (fZ (P := gI) (f := f) (k := fun ρ d => ub d >>= fun b => k ρ b) (gt (X := X) fM Q) h).post fun v H1 ⟨ρ1, d1, sl1, _, p1, q1⟩ => by
    cases d1 with
    | bool b =>
      have p2 : v = .bl b := by simpa only [Rp] using p1
      exact ⟨b, p2, ρ1, sl1, q1⟩
    | _ => exact q1.elim
theorem pR {op} (h : ak X a fa) : ak X (.BoolOp op [a] pos) fa := Aq h
theorem Z.pR {op} (h : Z.ak X a fa) : Z.ak X (.BoolOp op [a] pos) fa :=
  ⟨D2.pR h.un⟩
theorem o7 (ha : ak X a fa) (hb : ak X (.BoolOp .And (b :: rest) pos) fb) : ak X (.BoolOp .And (a :: b :: rest) pos) (w6 fa fb) :=
  PE.imp (Am ha hb) fun σ H Q h => (uk (k := fun ρ b => if b = true then fb ρ else .ok (.bool false)) h).post fun v H1 ⟨c, e1, q1⟩ => by
    refine ⟨c, e1, ?_⟩
    cases c with
    | true => exact q1
    | false =>
      obtain ⟨_, _, q2⟩ := q1
      exact q2 _ H1 (aR.refl _) (by simp only [Rp])
theorem Z.o7 (ha : Z.ak X a fa) (hb : Z.ak X (.BoolOp .And (b :: rest) pos) fb) : Z.ak X (.BoolOp .And (a :: b :: rest) pos) (w6 fa fb) :=
  ⟨D2.o7 ha.un hb.un⟩
theorem rY (ha : ak X a fa) : ak X (.UnaryOp .Not a pos) (zP fa) :=
  PE.imp (zr ha) fun σ H Q h => (uk (k := fun ρ b => .ok (.bool (!b))) h).post fun v H1 ⟨c, e1, _, _, q2⟩ => ⟨c, e1, q2 _ H1 (aR.refl _) (by simp only [Rp])⟩
theorem Z.rY (ha : Z.ak X a fa) : Z.ak X (.UnaryOp .Not a pos) (zP fa) :=
  ⟨D2.rY ha.un⟩
def yB (t : aX → R Bool) (f g : Fe) : Fe := fun ρ => t ρ >>= fun b => if b = true then f ρ else g ρ
theorem iY {e : Expr} (hc : gE X e ga) (ha : ak X a fa) (hb : ak X b fb) : ak X (.IfExp e a b pos) (yB ga fa fb) :=
  PE.imp (wF hc ha hb) fun σ H Q h => (o4 (f := ga) (k := fun ρ b => if b = true then fa ρ else fb ρ) (gt (X := X) fM Q) h).post fun d H1 ⟨ρ1, sl1, _, q1⟩ => by
    cases d with
    | true => exact ⟨ρ1, sl1, q1⟩
    | false => exact ⟨ρ1, sl1, q1⟩
theorem Z.iY {e : Expr} (hc : Z.gE X e ga) (ha : Z.ak X a fa) (hb : Z.ak X b fb) : Z.ak X (.IfExp e a b pos) (yB ga fa fb) :=
  ⟨D2.iY hc.un ha.un hb.un⟩
end
def aG : Expr → Bool
  | .Starred .. => false
  | _ => true
theorem bB {e : Expr} {es : List Expr} {env : Env} (h : aG e = true) : starEach (e :: es) env = (false, eval e env) :: starEach es env := by
  cases e <;> first | rfl | (cases h)
theorem mT {es : List Expr} {env : Env} {pos : Pos} (h : es.all aG = true) : (backTo pos (starEach es env)).any (·.1) = false := by
  induction es with
  | nil => rfl
  | cons e es ih =>
    rw [List.all_cons, Bool.and_eq_true] at h
    rw [bB h.1]
    have := ih h.2
    simpa [backTo] using this
def aH : aX → R (List PyData) := fun _ => .ok []
def ag (f : Fe) (g : aX → R (List PyData)) : aX → R (List PyData) := fun ρ => f ρ >>= fun d => g ρ >>= fun ds => .ok (d :: ds)
section
variable {X : Cx} {e : Expr} {es : List Expr} {f : Fe} {g : aX → R (List PyData)}
theorem uu {I : Hp → PyData → V → Prop} : PA X [] (wK X I aH) := PA.imp v8 fun σ H Q ⟨ρ, sl, q⟩ => q [] H (aR.refl _) (by simp only [RA])
theorem ap : nT X [] aH := uu
theorem Z.ap  : Z.nT X [] aH :=
  ⟨D2.ap⟩
theorem sg : AC X [] aH := uu
theorem qX {I : Hp → PyData → V → Prop} (hI : ∀ H H' d v, I H d v → aR H H' → I H' d v) (ha : PE X e (ju X (fun _ H' d v => I H' d v) f)) (hr : PA X es (wK X I g))
    (hs : starEach (e :: es) X.env = (false, eval e X.env) :: starEach es X.env := by rfl) : PA X (e :: es) (wK X I (ag f g)) :=
  PA.imp (oZ ha hr hs) fun σ H Q h =>
    (fZ (P := fun _ H' d v => I H' d v) (f := f) (k := fun ρ d => g ρ >>= fun ds => .ok (d :: ds)) (yP (X := X) I Q) h).post fun v H1 ⟨ρ1, d1, sl1, _, p1, q1⟩ =>
      (mM (I := I) (f := g) (k := fun _ ds => .ok (d1 :: ds)) (yP (X := X) I Q) ⟨ρ1, sl1, q1⟩).post fun vs H2 ⟨_, ds1, _, s2, p3, q3⟩ =>
        q3 (v :: vs) H2 (aR.refl _) (by simp only [RA]; exact ⟨v, vs, rfl, hI _ _ _ _ p1 s2, p3⟩)
theorem ae (ha : ak X e f) (hr : nT X es g) (hs : aG e = true := by rfl) : nT X (e :: es) (ag f g) := qX (fun _ _ _ _ h s => h.mono s) ha hr (bB hs)
theorem Z.ae (ha : Z.ak X e f) (hr : Z.nT X es g) (hs : aG e = true := by rfl) : Z.nT X (e :: es) (ag f g) :=
  ⟨D2.ae ha.un hr.un hs⟩
theorem lV (ha : bU X e f) (hr : AC X es g) (hs : aG e = true := by rfl) : AC X (e :: es) (ag f g) := qX (fun _ _ _ _ h s => h.mono s) ha hr (bB hs)
end
section
variable {K : PySem.W.Frag} {H : Hp} {x : V}
theorem kC (h : iw H .none x) : x = .non := by
  rcases h with h | h
  · simpa only [Rp] using h
  · simp only [iC] at h
theorem mZ {b : Bool} (h : iw H (.bool b) x) : x = .bl b := by
  rcases h with h | h
  · simpa only [Rp] using h
  · simp only [iC] at h
theorem bT {i : Int} (h : iw H (.int i) x) : x = .int i := by
  rcases h with h | h
  · simpa only [Rp] using h
  · simp only [iC] at h
theorem gS {y : Str} (h : iw H (.str y) x) : x = .str y := by
  rcases h with h | h
  · simpa only [Rp] using h
  · simp only [iC] at h
theorem dw {ds : List PyData} (h : iw H (.tuple ds) x) : ∃ a vs, x = .ref a ∧ H a = some (.tup vs) ∧ bF H ds vs := by
  rcases h with h | h
  · simpa only [Rp] using h
  · simp only [iC] at h
theorem fi {ds : List PyData} (h : iw H (.list ds) x) : ∃ a vs, x = .ref a ∧ lZ K H a vs ∧ bF H ds vs := by
  rcases h with h | h
  · simp only [Rp] at h
    obtain ⟨a, o, vs, e, ha, r⟩ := h
    exact ⟨a, vs, e, .inl (.inr ⟨o, ha⟩), r⟩
  · simp only [iC] at h
    obtain ⟨a, vs, e, ha, r⟩ := h
    exact ⟨a, vs, e, .inl (.inl ha), r⟩
theorem xY {C : Addr} {fs : List (Str × V)} {kvs : List (PyData × PyData)} (h : vA H C fs kvs) : oC kvs = true := by
  cases kvs with
  | nil => simp only [vA] at h
  | cons kd kvs => simp only [vA] at h; rw [h.1]; rfl
theorem we {kvs : List (PyData × PyData)} (h : iw H (.dict kvs) x) : ∃ a, x = .ref a := by
  rcases h with h | h
  · simp only [Rp] at h
    rcases h with ⟨a, o, vs, e, _⟩ | ⟨a, o, C, dx, fs, e, _⟩
    · exact ⟨a, e⟩
    · exact ⟨a, e⟩
  · simp only [iC] at h
    obtain ⟨a, vs, e, _⟩ := h
    exact ⟨a, e⟩
theorem kB {kvs : List (PyData × PyData)} (hi : oC kvs = false) (h : iw H (.dict kvs) x) : ∃ a ks, x = .ref a ∧ Rd H a (.dK ks) ∧ dL H kvs ks := by
  rcases h with h | h
  · simp only [Rp] at h
    rcases h with ⟨a, o, vs, e, ha, r⟩ | ⟨a, o, C, dx, fs, e, ha, r⟩
    · exact ⟨a, vs, e, .inr ⟨o, ha⟩, r⟩
    · rw [xY r] at hi; cases hi
  · simp only [iC] at h
    obtain ⟨a, vs, e, ha, r⟩ := h
    exact ⟨a, vs, e, .inl ha, r⟩
end
theorem bF.nil {H : Hp} : bF H [] [] := by simp only [bF]
theorem bF.cons {H : Hp} {d : PyData} {ds : List PyData} {v : V} {vs : List V} (h : Rp H d v) (t : bF H ds vs) : bF H (d :: ds) (v :: vs) := by simp only [bF]; exact ⟨v, vs, rfl, h, t⟩
theorem bF.nil_inv {H : Hp} {vs : List V} (h : bF H [] vs) : vs = [] := by simpa only [bF] using h
theorem bF.cons_inv {H : Hp} {d : PyData} {ds : List PyData} {vs : List V} (h : bF H (d :: ds) vs) : ∃ v r, vs = v :: r ∧ Rp H d v ∧ bF H ds r := by simpa only [bF] using h
theorem bF.length {H : Hp} : ∀ {ds : List PyData} {vs : List V}, bF H ds vs → vs.length = ds.length
  | [], vs, h => by rw [h.nil_inv]; rfl
  | d :: ds, vs, h => by
    obtain ⟨v, r, rfl, _, t⟩ := h.cons_inv
    rw [List.length_cons, List.length_cons, bF.length t]
theorem bF.get {H : Hp} : ∀ {ds : List PyData} {vs : List V} {i : Nat} {d : PyData}, bF H ds vs → ds[i]? = some d → ∃ v, vs[i]? = some v ∧ Rp H d v
  | [], vs, i, d, h, e => by simp at e
  | d0 :: ds, vs, 0, d, h, e => by
    obtain ⟨v, r, rfl, p, _⟩ := h.cons_inv
    simp at e; subst e
    exact ⟨v, rfl, p⟩
  | d0 :: ds, vs, i + 1, d, h, e => by
    obtain ⟨v, r, rfl, _, t⟩ := h.cons_inv
    obtain ⟨u, e1, p⟩ := bF.get (i := i) t (by simpa using e)
    exact ⟨u, by simpa using e1, p⟩
theorem bF.append {H : Hp} : ∀ {ds es : List PyData} {vs us : List V}, bF H ds vs → bF H es us → bF H (ds ++ es) (vs ++ us)
  | [], es, vs, us, h, g => by rw [h.nil_inv]; exact g
  | d :: ds, es, vs, us, h, g => by
    obtain ⟨v, r, rfl, p, t⟩ := h.cons_inv
    exact bF.cons p (bF.append t g)
theorem bF.take {H : Hp} : ∀ {ds : List PyData} {vs : List V} (n : Nat), bF H ds vs → bF H (ds.take n) (vs.take n)
  | ds, vs, 0, h => by simp only [List.take_zero]; exact bF.nil
  | [], vs, n + 1, h => by rw [h.nil_inv]; exact bF.nil
  | d :: ds, vs, n + 1, h => by
    obtain ⟨v, r, rfl, p, t⟩ := h.cons_inv
    exact bF.cons p (bF.take n t)
theorem bF.drop {H : Hp} : ∀ {ds : List PyData} {vs : List V} (n : Nat), bF H ds vs → bF H (ds.drop n) (vs.drop n)
  | ds, vs, 0, h => h
  | [], vs, n + 1, h => by rw [h.nil_inv]; exact bF.nil
  | d :: ds, vs, n + 1, h => by
    obtain ⟨v, r, rfl, p, t⟩ := h.cons_inv
    exact bF.drop n t
theorem bF.rep {H : Hp} {ds : List PyData} {vs : List V} (h : bF H ds vs) : ∀ k : Nat, bF H (List.replicate k ds).flatten (List.replicate k vs).flatten
  | 0 => bF.nil
  | k + 1 => by rw [List.replicate_succ, List.replicate_succ, List.flatten_cons, List.flatten_cons]; exact bF.append h (bF.rep h k)
theorem bF.ints {H : Hp} : ∀ ns : List Int, bF H (ns.map PyData.int) (ns.map V.int)
  | [] => bF.nil
  | n :: ns => bF.cons (by simp only [Rp]) (bF.ints ns)
theorem cB {H : Hp} {p : Addr} (h : H p = none) (o : HO) : aR H (cx H p o) := fun b u q => by rw [az (bd q h)]; exact q
theorem dR {H : Hp} {p : Addr} {ds : List PyData} {vs : List V} (h : H p = none) (r : bF H ds vs) : Rp (cx H p (.tup vs)) (.tuple ds) (.ref p) := by
  simp only [Rp]; exact ⟨p, vs, rfl, bi, r.mono (cB h _)⟩
theorem dZ {H : Hp} {p : Addr} {ds : List PyData} {vs : List V} (h : H p = none) (r : bF H ds vs) : AO H (cx H p (.lst vs)) (.list ds) (.ref p) := by
  refine ⟨?_, p, rfl, h⟩
  simp only [iC]; exact ⟨p, vs, rfl, bi, r.mono (cB h _)⟩
section
variable {P : Program} {w : World} {H : Hp} {h : Heap}
mutual
theorem ql (ok : jg P w H h) : ∀ (d : PyData) (v : V) (u : Value), d.canLay0 = true → Rp H d v → bM v u → ∃ as, Reads h u d as
  | .none, v, u, _, r, e => by simp only [Rp] at r; subst r; cases e; exact ⟨_, .none⟩
  | .bool b, v, u, _, r, e => by simp only [Rp] at r; subst r; cases e; exact ⟨_, .bool b⟩
  | .int i, v, u, _, r, e => by simp only [Rp] at r; subst r; obtain ⟨t, rfl⟩ := e; exact ⟨_, .int i t⟩
  | .str x, v, u, _, r, e => by simp only [Rp] at r; subst r; obtain ⟨t, rfl⟩ := e; exact ⟨_, .str x t⟩
  | .tuple ds, v, u, c, r, e => by
    simp only [Rp] at r
    obtain ⟨a, vs, rfl, ha, r⟩ := r
    cases e
    obtain ⟨_, its, rv, o, h1, h2, n, h3⟩ := (show bW P w H h a (.tup vs) from ok a _ ha)
    obtain ⟨as, q⟩ := gv ok ds vs its (by simpa only [PyData.canLay0] using c) r rv
    exact ⟨as, .tuple h1 h2 h3 (by simpa using q)⟩
  | .list ds, v, u, c, r, e => by
    simp only [Rp] at r
    obtain ⟨a, ob, vs, rfl, ha, r⟩ := r
    cases e
    obtain ⟨_, _, its, n, rv, h1⟩ := (show bW P w H h a (.frz ob (.lst vs)) from ok a _ ha)
    obtain ⟨as, q⟩ := gv ok ds vs its (by simpa only [PyData.canLay0] using c) r rv
    exact ⟨a :: as, .list h1 rfl rfl (by simpa using q)⟩
  | .dict kvs, v, u, c, r, e => by simp [PyData.canLay0] at c
theorem gv (ok : jg P w H h) : ∀ (ds : List PyData) (vs : List V) (us : List Value), PyData.canLayAll0 ds = true → bF H ds vs → bw vs us → ∃ as, ReadsAll h us ds as
  | [], vs, us, _, r, e => by rw [r.nil_inv] at e; cases e; exact ⟨_, .nil⟩
  | d :: ds, vs, us, c, r, e => by
    obtain ⟨v, r', rfl, p, t⟩ := r.cons_inv
    have c' : d.canLay0 = true ∧ PyData.canLayAll0 ds = true := by simpa [PyData.canLayAll0] using c
    cases e with
    | cons e1 e2 =>
      obtain ⟨as, q1⟩ := ql ok d v _ c'.1 p e1
      obtain ⟨bs, q2⟩ := gv ok ds r' _ c'.2 t e2
      exact ⟨as ++ bs, .cons q1 q2⟩
end
theorem de (ok : jg P w H h) {d : PyData} {v : V} {u : Value} (c : d.canLay0 = true) (r : iw H d v) (e : bM v u) : ∃ as, Reads h u d as := by
  rcases r with r | r
  · exact ql ok d v u c r e
  · cases d <;> simp only [iC] at r
    · rename_i ds
      obtain ⟨a, vs, rfl, ha, r⟩ := r
      cases e
      obtain ⟨_, its, n, rv, h1⟩ := (show bW P w H h a (.lst vs) from ok a _ ha)
      obtain ⟨as, q⟩ := gv ok ds vs its (by simpa only [PyData.canLay0] using c) r rv
      exact ⟨a :: as, .list h1 rfl rfl (by simpa using q)⟩
    · simp [PyData.canLay0] at c
end
def gN : PyData → Option cV
  | .int i => some (.inl i)
  | .str y => some (.inr y)
  | _ => none
def gq : PyData → PyData → Bool
  | .int i, .int j => decide (i = j)
  | .str i, .str j => decide (i = j)
  | _, _ => false
def rn (kvs : List (PyData × PyData)) (k v : PyData) : List (PyData × PyData) :=
  if (kvs.any fun kv => gq kv.1 k) = true then kvs.map (fun kv => if gq kv.1 k = true then (kv.1, v) else kv) else kvs ++ [(k, v)]
theorem je (κ κ' : cV) : gq (fo κ) (fo κ') = decide (κ = κ') := by
  cases κ with
  | inl i =>
    cases κ' with
    | inl j => simp [fo, gq]
    | inr j => simp [fo, gq]
  | inr i =>
    cases κ' with
    | inl j => simp [fo, gq]
    | inr j => simp [fo, gq]
theorem dL.cons {H : Hp} {k d : PyData} {kvs : List (PyData × PyData)} {κ : cV} {v : V} {ks : List (cV × V)} (e : k = fo κ) (h : Rp H d v) (t : dL H kvs ks) : dL H ((k, d) :: kvs) ((κ, v) :: ks) := by
  simp only [dL, xn]; exact ⟨κ, v, ks, rfl, ⟨e, h⟩, t⟩
theorem dL.cons_inv {H : Hp} {k d : PyData} {kvs : List (PyData × PyData)} {ks : List (cV × V)} (h : dL H ((k, d) :: kvs) ks) : ∃ κ v r, ks = (κ, v) :: r ∧ k = fo κ ∧ Rp H d v ∧ dL H kvs r := by
  simp only [dL, xn] at h
  obtain ⟨κ, v, r, e, ⟨e1, p⟩, t⟩ := h
  exact ⟨κ, v, r, e, e1, p, t⟩
theorem dL.nil_inv {H : Hp} {ks : List (cV × V)} (h : dL H [] ks) : ks = [] := by simpa only [dL] using h
theorem dL.any {H : Hp} (κ : cV) : ∀ {kvs : List (PyData × PyData)} {ks : List (cV × V)}, dL H kvs ks → (kvs.any fun kv => gq kv.1 (fo κ)) = ks.any fun kv => decide (kv.1 = κ)
  | [], ks, h => by rw [h.nil_inv]; rfl
  | (k, d) :: kvs, ks, h => by
    obtain ⟨κ', v, r, rfl, rfl, p, t⟩ := h.cons_inv
    rw [List.any_cons, List.any_cons, dL.any κ t, je]
theorem dL.repl {H : Hp} (κ : cV) {d : PyData} {v : V} (hv : Rp H d v) : ∀ {kvs : List (PyData × PyData)} {ks : List (cV × V)}, dL H kvs ks →
    dL H (kvs.map fun kv => if gq kv.1 (fo κ) = true then (kv.1, d) else kv) (ks.map fun kv => if kv.1 = κ then (kv.1, v) else kv)
  | [], ks, h => by rw [h.nil_inv]; simp only [List.map_nil, dL]
  | (k, d') :: kvs, ks, h => by
    obtain ⟨κ', v', r, rfl, rfl, p, t⟩ := h.cons_inv
    rw [List.map_cons, List.map_cons]
    dsimp only
    rw [je]
    by_cases e : κ' = κ
    · rw [if_pos (decide_eq_true e), if_pos e]; exact dL.cons rfl hv (dL.repl κ hv t)
    · rw [if_neg (by rw [decide_eq_false e]; exact Bool.false_ne_true), if_neg e]; exact dL.cons rfl p (dL.repl κ hv t)
theorem dL.snoc {H : Hp} {κ : cV} {d : PyData} {v : V} (hv : Rp H d v) : ∀ {kvs : List (PyData × PyData)} {ks : List (cV × V)}, dL H kvs ks → dL H (kvs ++ [(fo κ, d)]) (ks ++ [(κ, v)])
  | [], ks, h => by rw [h.nil_inv]; exact dL.cons rfl hv (by simp only [dL])
  | (k, d') :: kvs, ks, h => by
    obtain ⟨κ', v', r, rfl, rfl, p, t⟩ := h.cons_inv
    exact dL.cons rfl p (dL.snoc hv t)
theorem dL.put {H : Hp} (κ : cV) {d : PyData} {v : V} (hv : Rp H d v) {kvs : List (PyData × PyData)} {ks : List (cV × V)} (h : dL H kvs ks) : dL H (rn kvs (fo κ) d) (ku ks κ v) := by
  unfold rn ku
  rw [h.any κ]
  split
  · exact h.repl κ hv
  · exact h.snoc hv
def lA (kvs : List (PyData × PyData)) (k : PyData) : Option PyData := (kvs.find? fun kv => gq kv.1 k).map (·.2)
theorem dL.look {H : Hp} (κ : cV) : ∀ {kvs : List (PyData × PyData)} {ks : List (cV × V)}, dL H kvs ks → (lA kvs (fo κ) = none ∧ jv ks κ = none) ∨ ∃ d v, lA kvs (fo κ) = some d ∧ jv ks κ = some v ∧ Rp H d v
  | [], ks, h => .inl (by rw [h.nil_inv]; exact ⟨rfl, rfl⟩)
  | (k, d) :: kvs, ks, h => by
    obtain ⟨κ', v, r, rfl, rfl, p, t⟩ := h.cons_inv
    unfold lA jv
    by_cases e : κ' = κ
    · rw [List.find?_cons_of_pos (by rw [je]; exact decide_eq_true e), List.find?_cons_of_pos (by exact decide_eq_true e)]
      exact .inr ⟨d, v, rfl, rfl, p⟩
    · rw [List.find?_cons_of_neg (by rw [je, decide_eq_false e]; exact Bool.false_ne_true), List.find?_cons_of_neg (by rw [decide_eq_false e]; exact Bool.false_ne_true)]
      exact dL.look κ t
theorem qC {d : PyData} {κ : cV} (h : gN d = some κ) : d = fo κ := by
  cases d <;> simp only [gN] at h <;> cases h <;> rfl
theorem tT {H : Hp} {d : PyData} {x : V} {κ : cV} (h : iw H d x) (e : gN d = some κ) : x = kV κ := by
  cases d <;> simp only [gN] at e <;> cases e
  · exact bT h
  · exact gS h
theorem ux {H : Hp} {a : Addr} {kvs : List (PyData × PyData)} {ks : List (cV × V)} {κ : cV} (h : Rd H a (.dK ks)) (r : dL H kvs ks) : ∃ o, mE H a (kV κ) o ∧ o.isSome = (lA kvs (fo κ)).isSome ∧ ∀ d, lA kvs (fo κ) = some d → ∃ v, o = some v ∧ Rp H d v := by
  refine ⟨jv ks κ, .inl ⟨ks, κ, h, rfl, rfl⟩, ?_⟩
  rcases r.look κ with ⟨e1, e2⟩ | ⟨d, v, e1, e2, p⟩
  · rw [e1, e2]; exact ⟨rfl, fun d z => by cases z⟩
  · rw [e1, e2]; exact ⟨rfl, fun d z => by cases z; exact ⟨v, rfl, p⟩⟩
def gJ : PyData → PyData → R PyData
  | .int i, .int j => .ok (.int (i - j))
  | _, _ => .no
def fq : PyData → PyData → R PyData
  | .int i, .int j => if 0 < j then .ok (.int (i % j)) else .no
  | _, _ => .no
def lF : PyData → PyData → R PyData
  | .int i, .int j => if 0 < j ∧ j < 1073741824 then .ok (.int (i / j)) else .no
  | _, _ => .no
def dz (p : Int → Int → Bool) : PyData → PyData → R PyData
  | .int i, .int j => .ok (.bool (p i j))
  | _, _ => .no
def rZ (x y : PyData) : Bool := x.canLay0 && y.canLay0 && decide (min x.depth y.depth ≤ 60)
def iy (x y : PyData) : R PyData := if rZ x y = true then .ok (.bool (PyData.eqv x y)) else .no
def zE (x y : PyData) : R PyData := if rZ x y = true then .ok (.bool (!PyData.eqv x y)) else .no
def gW : PyData → Bool
  | .none => true
  | _ => false
def nV (x y : PyData) : R PyData := if gW y = true then .ok (.bool (gW x)) else .no
def ke (x y : PyData) : R PyData := if gW y = true then .ok (.bool (!gW x)) else .no
def pe (xs : List PyData) (d : PyData) : Bool := PyData.canLayAll0 xs && d.canLay0 && decide (min (PyData.depthAll xs) d.depth ≤ 60)
def l5 (neg : Bool) (d : PyData) : PyData → R PyData
  | .list xs => if pe xs d = true then .ok (.bool (if neg then !(xs.any fun y => PyData.eqv y d) else xs.any fun y => PyData.eqv y d)) else .no
  | .tuple xs => if pe xs d = true then .ok (.bool (if neg then !(xs.any fun y => PyData.eqv y d) else xs.any fun y => PyData.eqv y d)) else .no
  | .dict kvs => if oC kvs = true then .no else match gN d with
    | some _ => .ok (.bool (if neg then !(lA kvs d).isSome else (lA kvs d).isSome))
    | none => .no
  | _ => .no
section
variable {X : Cx} {a b c : Expr} {fa fb fc : Fe} {pos : Pos}
theorem df {H : Hp} {i : Int} : Rp H (.int i) (.int i) := by simp only [Rp]
theorem eB {H : Hp} {i : Bool} : Rp H (.bool i) (.bl i) := by simp only [Rp]
theorem wb {H : Hp} {i : Str} : Rp H (.str i) (.str i) := by simp only [Rp]
theorem Ag : ca X gI (xp fun i j => .int (i - j)) gJ := fun H x y dx dy Q hx hy q => by
  unfold gJ at q
  split at q
  · exact ⟨_, _, bT hx, bT hy, q _ H (aR.refl _) df⟩
  · exact q.elim
theorem Aw : ca X gI (rI (fun _ j => 0 < j) fun i j => .int (i % j)) fq := fun H x y dx dy Q hx hy q => by
  unfold fq at q
  split at q
  · split at q
    · rename_i h; exact ⟨_, _, bT hx, bT hy, h, q _ H (aR.refl _) df⟩
    · exact q.elim
  · exact q.elim
theorem At : ca X gI (rI Bh fun i j => .int (i / j)) lF := fun H x y dx dy Q hx hy q => by
  unfold lF at q
  split at q
  · split at q
    · rename_i h; exact ⟨_, _, bT hx, bT hy, h, q _ H (aR.refl _) df⟩
    · exact q.elim
  · exact q.elim
theorem nB {p : Int → Int → Bool} : ca X gI (xp fun i j => .bl (p i j)) (dz p) := fun H x y dx dy Q hx hy q => by
  unfold dz at q
  split at q
  · exact ⟨_, _, bT hx, bT hy, q _ H (aR.refl _) eB⟩
  · exact q.elim
theorem fV (ha : bU X a fa) (hb : bU X b fb) : ak X (.BinOp a .Sub b pos) (e2 gJ fa fb) := mS fM zA Ag ha hb
theorem Z.fV (ha : Z.bU X a fa) (hb : Z.bU X b fb) : Z.ak X (.BinOp a .Sub b pos) (e2 gJ fa fb) :=
  ⟨D2.fV ha.un hb.un⟩
theorem cY (ha : bU X a fa) (hb : bU X b fb) : ak X (.BinOp a .Mod b pos) (e2 fq fa fb) := mS fM As Aw ha hb
theorem Z.cY (ha : Z.bU X a fa) (hb : Z.bU X b fb) : Z.ak X (.BinOp a .Mod b pos) (e2 fq fa fb) :=
  ⟨D2.cY ha.un hb.un⟩
theorem ip (ha : bU X a fa) (hb : bU X b fb) : ak X (.BinOp a .FloorDiv b pos) (e2 lF fa fb) := mS fM yI At ha hb
theorem Z.ip (ha : Z.bU X a fa) (hb : Z.bU X b fb) : Z.ak X (.BinOp a .FloorDiv b pos) (e2 lF fa fb) :=
  ⟨D2.ip ha.un hb.un⟩
abbrev BI : Int → Int → Bool := fun i j => decide (i < j)
abbrev CL : Int → Int → Bool := fun i j => decide (i ≤ j)
abbrev l6 : Int → Int → Bool := fun i j => decide (j < i)
theorem tG (ha : bU X a fa) (hb : bU X b fb) : ak X (.Compare a [.Gt] [b] pos) (e2 (dz l6) fa fb) := rU zb nB ha hb (iK _)
theorem Z.tG (ha : Z.bU X a fa) (hb : Z.bU X b fb) : Z.ak X (.Compare a [.Gt] [b] pos) (e2 (dz l6) fa fb) :=
  ⟨D2.tG ha.un hb.un⟩
theorem pV (ha : bU X a fa) (hb : bU X b fb) : gE X (.Compare a [.Lt] [b] pos) (tE (e2 (dz BI) fa fb)) := gr A8 nB ha hb (iK _)
theorem Z.pV (ha : Z.bU X a fa) (hb : Z.bU X b fb) : Z.gE X (.Compare a [.Lt] [b] pos) (tE (e2 (dz BI) fa fb)) :=
  ⟨D2.pV ha.un hb.un⟩
theorem jO (ha : bU X a fa) (hb : bU X b fb) : gE X (.Compare a [.Gt] [b] pos) (tE (e2 (dz l6) fa fb)) := gr zb nB ha hb (iK _)
theorem Z.jO (ha : Z.bU X a fa) (hb : Z.bU X b fb) : Z.gE X (.Compare a [.Gt] [b] pos) (tE (e2 (dz l6) fa fb)) :=
  ⟨D2.jO ha.un hb.un⟩
def xr (X : Cx) (neg : Bool) : R2 := fun x y H Q => ∃ dx dy, iw H dx x ∧ iw H dy y ∧ rZ dx dy = true ∧ Q (.bl (if neg then !PyData.eqv dx dy else PyData.eqv dx dy)) H
theorem mO {x y : PyData} (h : rZ x y = true) : x.canLay0 = true ∧ y.canLay0 = true ∧ min x.depth y.depth ≤ 60 := by
  unfold rZ at h
  rw [Bool.and_eq_true, Bool.and_eq_true, decide_eq_true_eq] at h
  exact ⟨h.1.1, h.1.2, h.2⟩
theorem xh (hu : X.A.units + 64 < cLine) : ix X (compareOp .Eq) (xr X false) := by
  intro pins s σ H x y v u Q I rx ry h
  obtain ⟨dx, dy, hx, hy, ho, q⟩ := h
  obtain ⟨c1, c2, c3⟩ := mO ho
  obtain ⟨as, r1⟩ := de I.hok c1 hx rx
  obtain ⟨bs, r2⟩ := de I.hok c2 hy ry
  exact PySem.SeqAt.compareEq_reads r1 r2 c1 c2 (by omega) ⟨.bl _, H, I, rfl, q⟩
theorem Ao (hu : X.A.units + 64 < cLine) : ix X (compareOp .NotEq) (xr X true) := by
  intro pins s σ H x y v u Q I rx ry h
  obtain ⟨dx, dy, hx, hy, ho, q⟩ := h
  obtain ⟨c1, c2, c3⟩ := mO ho
  obtain ⟨as, r1⟩ := de I.hok c1 hx rx
  obtain ⟨bs, r2⟩ := de I.hok c2 hy ry
  exact PySem.SeqAt.compareNe_reads r1 r2 c1 c2 (by omega) ⟨.bl _, H, I, rfl, q⟩
theorem zh : ca X gI (xr X false) iy := fun H x y dx dy Q hx hy q => by
  unfold iy at q
  split at q
  · rename_i h; exact ⟨dx, dy, hx, hy, h, q _ H (aR.refl _) eB⟩
  · exact q.elim
theorem By : ca X gI (xr X true) zE := fun H x y dx dy Q hx hy q => by
  unfold zE at q
  split at q
  · rename_i h; exact ⟨dx, dy, hx, hy, h, q _ H (aR.refl _) eB⟩
  · exact q.elim
theorem qR (hu : X.A.units + 64 < cLine) (ha : bU X a fa) (hb : bU X b fb) : ak X (.Compare a [.Eq] [b] pos) (e2 iy fa fb) := rU (xh hu) zh ha hb (iK _)
theorem Z.qR (hu : X.A.units + 64 < cLine) (ha : Z.bU X a fa) (hb : Z.bU X b fb) : Z.ak X (.Compare a [.Eq] [b] pos) (e2 iy fa fb) :=
  ⟨D2.qR hu ha.un hb.un⟩
theorem eS (hu : X.A.units + 64 < cLine) (ha : bU X a fa) (hb : bU X b fb) : gE X (.Compare a [.Eq] [b] pos) (tE (e2 iy fa fb)) := gr (xh hu) zh ha hb (iK _)
theorem Z.eS (hu : X.A.units + 64 < cLine) (ha : Z.bU X a fa) (hb : Z.bU X b fb) : Z.gE X (.Compare a [.Eq] [b] pos) (tE (e2 iy fa fb)) :=
  ⟨D2.eS hu ha.un hb.un⟩
theorem rE (hu : X.A.units + 64 < cLine) (ha : bU X a fa) (hb : bU X b fb) : gE X (.Compare a [.NotEq] [b] pos) (tE (e2 zE fa fb)) := gr (Ao hu) By ha hb (iK _)
theorem Z.rE (hu : X.A.units + 64 < cLine) (ha : Z.bU X a fa) (hb : Z.bU X b fb) : Z.gE X (.Compare a [.NotEq] [b] pos) (tE (e2 zE fa fb)) :=
  ⟨D2.rE hu ha.un hb.un⟩
theorem um {H : Hp} {d : PyData} {x : V} (h : iw H d x) : decide (x = .non) = gW d := by
  cases d with
  | none => rw [kC h]; rfl
  | bool b => rw [mZ h]; rfl
  | int i => rw [bT h]; rfl
  | str y => rw [gS h]; rfl
  | tuple ds => obtain ⟨a, vs, rfl, _⟩ := dw h; rfl
  | list ds => obtain ⟨a, vs, rfl, _⟩ := fi (K := default) h; rfl
  | dict kvs => obtain ⟨a, rfl⟩ := we h; rfl
theorem AA : ca X gI (fun x y H Q => y = .non ∧ Q (.bl (decide (x = .non))) H) nV := fun H x y dx dy Q hx hy q => by
  unfold nV at q
  split at q
  · rename_i h
    cases dy <;> simp only [gW, Bool.false_eq_true] at h
    exact ⟨kC hy, by rw [um hx]; exact q _ H (aR.refl _) eB⟩
  · exact q.elim
theorem yw : ca X gI (fun x y H Q => y = .non ∧ Q (.bl (!decide (x = .non))) H) ke := fun H x y dx dy Q hx hy q => by
  unfold ke at q
  split at q
  · rename_i h
    cases dy <;> simp only [gW, Bool.false_eq_true] at h
    exact ⟨kC hy, by rw [um hx]; exact q _ H (aR.refl _) eB⟩
  · exact q.elim
theorem l8 (ha : bU X a fa) (hb : bU X b fb) : gE X (.Compare a [.Is] [b] pos) (tE (e2 nV fa fb)) := gr z9 AA ha hb (iK _)
theorem Z.l8 (ha : Z.bU X a fa) (hb : Z.bU X b fb) : Z.gE X (.Compare a [.Is] [b] pos) (tE (e2 nV fa fb)) :=
  ⟨D2.l8 ha.un hb.un⟩
theorem kr (ha : bU X a fa) (hb : bU X b fb) : gE X (.Compare a [.IsNot] [b] pos) (tE (e2 ke fa fb)) := gr x5 yw ha hb (iK _)
theorem Z.kr (ha : Z.bU X a fa) (hb : Z.bU X b fb) : Z.gE X (.Compare a [.IsNot] [b] pos) (tE (e2 ke fa fb)) :=
  ⟨D2.kr ha.un hb.un⟩
def CF (X : Cx) (neg : Bool) : R2 := fun x y H Q => ∃ d xs, iw H d x ∧ (iw H (.list xs) y ∨ iw H (.tuple xs) y) ∧ pe xs d = true ∧ Q (.bl (if neg then !(xs.any fun z => PyData.eqv z d) else xs.any fun z => PyData.eqv z d)) H
def Ai (X : Cx) (neg : Bool) : R2 := fun x y H Q => CF X neg x y H Q ∨ ∃ a o, y = .ref a ∧ mE H a x o ∧ Q (.bl (if neg then !o.isSome else o.isSome)) H
theorem ml {xs : List PyData} {d : PyData} (h : pe xs d = true) : PyData.canLayAll0 xs = true ∧ d.canLay0 = true ∧ min (PyData.depthAll xs) d.depth ≤ 60 := by
  unfold pe at h
  rw [Bool.and_eq_true, Bool.and_eq_true, decide_eq_true_eq] at h
  exact ⟨h.1.1, h.1.2, h.2⟩
theorem wr (hu : X.A.units + 64 < cLine) : ix X (compareOp .In) (Ai X false) := by
  intro pins s σ H x y v u Q I rx ry h
  rcases h with h | ⟨a, o, rfl, g, q⟩
  case inr =>
    cases ry
    exact Cl (by omega) I g rx fun s' I' => ⟨.bl _, H, I', rfl, q⟩
  obtain ⟨d, xs, hx, hy, ho, q⟩ := h
  obtain ⟨c1, c2, c3⟩ := ml ho
  obtain ⟨as, r1⟩ := de I.hok c2 hx rx
  rcases hy with hy | hy
  · obtain ⟨bs, r2⟩ := de I.hok (d := .list xs) (by simpa only [PyData.canLay0] using c1) hy ry
    exact PySem.SeqAt.in_list_reads r2 r1 c1 c2 (by omega) ⟨.bl _, H, I, rfl, q⟩
  · obtain ⟨bs, r2⟩ := de I.hok (d := .tuple xs) (by simpa only [PyData.canLay0] using c1) hy ry
    exact PySem.SeqAt.in_tuple_reads r2 r1 c1 c2 (by omega) ⟨.bl _, H, I, rfl, q⟩
theorem vh (hu : X.A.units + 64 < cLine) : ix X (compareOp .NotIn) (Ai X true) := by
  intro pins s σ H x y v u Q I rx ry h
  rcases h with h | ⟨a, o, rfl, g, q⟩
  case inr =>
    cases ry
    exact xC (by omega) I g rx fun s' I' => ⟨.bl _, H, I', rfl, q⟩
  obtain ⟨d, xs, hx, hy, ho, q⟩ := h
  obtain ⟨c1, c2, c3⟩ := ml ho
  obtain ⟨as, r1⟩ := de I.hok c2 hx rx
  rcases hy with hy | hy
  · obtain ⟨bs, r2⟩ := de I.hok (d := .list xs) (by simpa only [PyData.canLay0] using c1) hy ry
    exact PySem.SeqAt.notIn_list_reads r2 r1 c1 c2 (by omega) ⟨.bl _, H, I, rfl, q⟩
  · obtain ⟨bs, r2⟩ := de I.hok (d := .tuple xs) (by simpa only [PyData.canLay0] using c1) hy ry
    exact PySem.SeqAt.notIn_tuple_reads r2 r1 c1 c2 (by omega) ⟨.bl _, H, I, rfl, q⟩
theorem wk {neg : Bool} : ca X gI (Ai X neg) (l5 neg) := fun H x y dx dy Q hx hy q => by
  unfold l5 at q
  split at q
  · split at q
    · rename_i h; exact .inl ⟨dx, _, hx, .inl hy, h, q _ H (aR.refl _) eB⟩
    · exact q.elim
  · split at q
    · rename_i h; exact .inl ⟨dx, _, hx, .inr hy, h, q _ H (aR.refl _) eB⟩
    · exact q.elim
  · split at q
    · exact q.elim
    rename_i hi
    split at q
    · rename_i κ e
      obtain ⟨a, ks, rfl, h, r⟩ := kB (Bool.not_eq_true _ ▸ hi) hy
      obtain ⟨o, g, e1, _⟩ := ux (κ := κ) h r
      rw [← tT hx e] at g
      rw [← qC e] at e1
      exact .inr ⟨a, o, rfl, g, by rw [e1]; exact q _ H (aR.refl _) eB⟩
    · exact q.elim
  · exact q.elim
theorem wa (hu : X.A.units + 64 < cLine) (ha : bU X a fa) (hb : bU X b fb) (hm : behindInMarks .In b = false) : ak X (.Compare a [.In] [b] pos) (e2 (l5 false) fa fb) := rU (wr hu) wk ha hb hm
theorem Z.wa (hu : X.A.units + 64 < cLine) (ha : Z.bU X a fa) (hb : Z.bU X b fb) (hm : behindInMarks .In b = false) : Z.ak X (.Compare a [.In] [b] pos) (e2 (l5 false) fa fb) :=
  ⟨D2.wa hu ha.un hb.un hm⟩
theorem k8 (hu : X.A.units + 64 < cLine) (ha : bU X a fa) (hb : bU X b fb) (hm : behindInMarks .In b = false) : gE X (.Compare a [.In] [b] pos) (tE (e2 (l5 false) fa fb)) := gr (wr hu) wk ha hb hm
theorem Z.k8 (hu : X.A.units + 64 < cLine) (ha : Z.bU X a fa) (hb : Z.bU X b fb) (hm : behindInMarks .In b = false) : Z.gE X (.Compare a [.In] [b] pos) (tE (e2 (l5 false) fa fb)) :=
  ⟨D2.k8 hu ha.un hb.un hm⟩
theorem kT (hu : X.A.units + 64 < cLine) (ha : bU X a fa) (hb : bU X b fb) (hm : behindInMarks .NotIn b = false) : gE X (.Compare a [.NotIn] [b] pos) (tE (e2 (l5 true) fa fb)) := gr (vh hu) wk ha hb hm
theorem Z.kT (hu : X.A.units + 64 < cLine) (ha : Z.bU X a fa) (hb : Z.bU X b fb) (hm : behindInMarks .NotIn b = false) : Z.gE X (.Compare a [.NotIn] [b] pos) (tE (e2 (l5 true) fa fb)) :=
  ⟨D2.kT hu ha.un hb.un hm⟩
end
inductive vz where
  | nx (ρ : aX)
  | rt (d : PyData)
  | bk (ρ : aX)
  | ct (ρ : aX)
abbrev Fs := aX → R vz
structure g9 (Fm H : Hp) (σ : St) (ρ : aX) : Prop where
  fm : aR Fm H
  sl : Sl H σ ρ
  own : ∀ (i : Nat) (d : PyData) (a : Addr), ρ[i]? = some (.own d) → σ[i]? = some (some (.ref a)) → Fm a = none
  apart : ∀ (i j : Nat) (d e : PyData) (a : Addr), ρ[i]? = some (.own d) → ρ[j]? = some (.own e) → σ[i]? = some (some (.ref a)) → σ[j]? = some (some (.ref a)) → i = j
theorem g9.mono {Fm H H' : Hp} {σ : St} {ρ : aX} (h : g9 Fm H σ ρ) (s : aR H H') : g9 Fm H' σ ρ := ⟨h.fm.trans s, h.sl.mono s, h.own, h.apart⟩
def x4 (X : Cx) (Fm : Hp) (r : R vz) (D : qe) : Prop :=
  match r with
  | .ok (.nx ρ) => ∀ σ H, g9 Fm H σ ρ → D.nx σ H
  | .ok (.rt d) => ∀ v H, aR Fm H → Rp H d v → D.rt v H
  | .ok (.bk ρ) => ∀ σ H, g9 Fm H σ ρ → D.bk σ H
  | .ok (.ct ρ) => ∀ σ H, g9 Fm H σ ρ → D.ct σ H
  | .ex c => Xw X c Fm ∧ Bp X c Fm
  | .no => False
def yU (X : Cx) (Fm : Hp) (g : Fs) : TS := fun D σ H => ∃ ρ, g9 Fm H σ ρ ∧ x4 X Fm (g ρ) D
def eY (X : Cx) (st : Stmt) (g : Fs) : Prop := ∀ Fm, PS X st (yU X Fm g)
structure Z.eY (X : Cx) (st : Stmt) (g : Fs) : Prop where
  un : D2.eY X st g
def gF (X : Cx) (st : List Stmt) (g : Fs) : Prop := ∀ Fm, o8 X st (yU X Fm g)
structure Z.gF (X : Cx) (st : List Stmt) (g : Fs) : Prop where
  un : D2.gF X st g
theorem PS.imp {X : Cx} {e : Stmt} {t t' : TS} (h : PS X e t) (i : ∀ D σ H, t' D σ H → t D σ H) : PS X e t' := fun pins s σ H D I q => h pins s σ H D I (i D σ H q)
theorem o8.imp {X : Cx} {e : List Stmt} {t t' : TS} (h : o8 X e t) (i : ∀ D σ H, t' D σ H → t D σ H) : o8 X e t' := fun pins s σ H D I q => h pins s σ H D I (i D σ H q)
section
variable {X : Cx} {Fm : Hp} {σ : St} {H : Hp} {D : qe}
theorem kI {P : Hp → Hp → PyData → V → Prop} {f : Fe} {k : aX → PyData → R vz} (h : yU X Fm (fun ρ => f ρ >>= k ρ) D σ H) :
    ju X P f σ H (fun v H1 => ∃ ρ d, g9 Fm H1 σ ρ ∧ aR H H1 ∧ P H H1 d v ∧ x4 X Fm (k ρ d) D) := by
  obtain ⟨ρ, sl, q⟩ := h
  refine ⟨ρ, sl.sl, ?_⟩
  dsimp only at q
  cases e : f ρ with
  | ok d => rw [e] at q; exact fun v H1 s p => ⟨ρ, d, sl.mono s, s, p, q⟩
  | ex c => rw [e] at q; exact q.1.mono sl.fm
  | no => rw [e] at q; exact q
theorem tS {f : aX → R Bool} {k : aX → Bool → R vz} (h : yU X Fm (fun ρ => f ρ >>= k ρ) D σ H) : yC X f σ H (fun b H1 => ∃ ρ, g9 Fm H1 σ ρ ∧ aR H H1 ∧ x4 X Fm (k ρ b) D) := by
  obtain ⟨ρ, sl, q⟩ := h
  refine ⟨ρ, sl.sl, ?_⟩
  dsimp only at q
  cases e : f ρ with
  | ok d => rw [e] at q; exact fun H1 s => ⟨ρ, sl.mono s, s, q⟩
  | ex c => rw [e] at q; exact q.1.mono sl.fm
  | no => rw [e] at q; exact q
end
def dI : Fs := fun ρ => .ok (.nx ρ)
def tF (h : Fs) : vz → R vz
  | .nx ρ => h ρ
  | o => .ok o
def aY (g h : Fs) : Fs := fun ρ => g ρ >>= tF h
def lY (t : aX → R Bool) (g h : Fs) : Fs := fun ρ => t ρ >>= fun b => if b = true then g ρ else h ρ
def cD (f : Fe) : Fs := fun ρ => f ρ >>= fun d => .ok (.rt d)
def uf (f : Fe) : Fs := fun ρ => f ρ >>= fun _ => .ok (.nx ρ)
def bH (i : Nat) (f : Fe) : Fs := fun ρ => f ρ >>= fun d => .ok (.nx (ρ.set i (.val d)))
def gz (i : Nat) (f : Fe) : Fs := fun ρ => f ρ >>= fun d => .ok (.nx (ρ.set i (.own d)))
section
variable {X : Cx} {nl : Nat} {G : List Str} {st : Stmt} {sts : List Stmt} {g h : Fs} {f : Fe} {e : Expr} {pos pos' : Pos} {x : Str}
theorem dl : gF X [] dI := fun Fm => o8.imp xF fun D σ H ⟨ρ, sl, q⟩ => q σ H sl
theorem Z.dl  : Z.gF X [] dI :=
  ⟨D2.dl⟩
theorem ao (h1 : eY X st g) (h2 : gF X sts h) : gF X (st :: sts) (aY g h) := fun Fm => by
  refine o8.imp (mC (h1 Fm) (h2 Fm)) fun D σ H ⟨ρ, sl, q⟩ => ⟨ρ, sl, ?_⟩
  unfold aY at q
  cases e : g ρ with
  | ex c => rw [e] at q; exact q
  | no => rw [e] at q; exact q
  | ok o =>
    rw [e] at q
    cases o with
    | nx ρ' => exact fun σ' H' s' => ⟨ρ', s', q⟩
    | rt d => exact q
    | bk ρ' => exact q
    | ct ρ' => exact q
theorem Z.ao (h1 : Z.eY X st g) (h2 : Z.gF X sts h) : Z.gF X (st :: sts) (aY g h) :=
  ⟨D2.ao h1.un h2.un⟩
theorem aS (h1 : eY X st g) : gF X [st] g := fun Fm => ul (h1 Fm)
theorem Z.aS (h1 : Z.eY X st g) : Z.gF X [st] g :=
  ⟨D2.aS h1.un⟩
theorem pK (he : bU X e f) (hs : swapsWith e none pos.line X.env = pure false := by rfl) : eY X (.Expr e pos) (uf f) := fun Fm =>
  PS.imp (tQ he hs) fun D σ H h => (kI (P := u0) (f := f) (k := fun ρ _ => .ok (.nx ρ)) h).post fun v H1 ⟨ρ, d, sl, _, _, q⟩ => q σ H1 sl
theorem Z.pK (he : Z.bU X e f) (hs : swapsWith e none pos.line X.env = pure false := by rfl) : Z.eY X (.Expr e pos) (uf f) :=
  ⟨D2.pK he.un hs⟩
theorem bq (he : ak X e f) : eY X (.Return (some e) pos) (cD f) := fun Fm =>
  PS.imp (zR he) fun D σ H h => (kI (P := gI) (f := f) (k := fun _ d => .ok (.rt d)) h).post fun v H1 ⟨ρ, d, sl, _, p, q⟩ => q v H1 sl.fm p
theorem Z.bq (he : Z.ak X e f) : Z.eY X (.Return (some e) pos) (cD f) :=
  ⟨D2.bq he.un⟩
theorem eN {c : Expr} {a b : List Stmt} {t : aX → R Bool} (hc : gE X c t) (ha : gF X a g) (hb : gF X b h) : eY X (.If c a b pos) (lY t g h) := fun Fm =>
  PS.imp (AT hc (ha Fm) (hb Fm)) fun D σ H q => (tS (f := t) (k := fun ρ b => if b = true then g ρ else h ρ) q).post fun b H1 ⟨ρ, sl, _, q⟩ => by
    cases b with
    | true => exact ⟨ρ, sl, q⟩
    | false => exact ⟨ρ, sl, q⟩
theorem Z.eN {c : Expr} {a b : List Stmt} {t : aX → R Bool} (hc : Z.gE X c t) (ha : Z.gF X a g) (hb : Z.gF X b h) : Z.eY X (.If c a b pos) (lY t g h) :=
  ⟨D2.eN hc.un ha.un hb.un⟩
theorem Sl.set {H : Hp} {σ : St} {ρ : aX} {c : bo} {o : Option V} (h : Sl H σ ρ) (i : Nat) (hc : iG H c o) : Sl H (σ.set i o) (ρ.set i c) := by
  refine ⟨by rw [List.length_set, List.length_set]; exact h.1, fun j c' o' h1 h2 => ?_⟩
  rw [List.getElem?_set] at h1 h2
  by_cases hij : i = j
  · rw [if_pos hij] at h1 h2
    by_cases hi : i < ρ.length
    · rw [if_pos hi] at h1
      rw [if_pos (by rw [h.1]; exact hi)] at h2
      cases h1; cases h2; exact hc
    · rw [if_neg hi] at h1; cases h1
  · rw [if_neg hij] at h1 h2
    exact h.2 j c' o' h1 h2
theorem cK {ρ : aX} {i j : Nat} {c : bo} {d : PyData} (hc : ∀ e, c ≠ .own e) (h : (ρ.set i c)[j]? = some (.own d)) : i ≠ j ∧ ρ[j]? = some (.own d) := by
  rw [List.getElem?_set] at h
  by_cases hij : i = j
  · rw [if_pos hij] at h
    split at h
    · exact absurd (Option.some.inj h) (hc d)
    · cases h
  · rw [if_neg hij] at h; exact ⟨hij, h⟩
theorem g9.set {Fm H : Hp} {σ : St} {ρ : aX} {c : bo} {o : Option V} (h : g9 Fm H σ ρ) (i : Nat) (hn : ∀ e, c ≠ .own e) (hc : iG H c o) : g9 Fm H (σ.set i o) (ρ.set i c) := by
  refine ⟨h.fm, h.sl.set i hc, fun j d a h1 h2 => ?_, fun j k d e a h1 h2 h3 h4 => ?_⟩
  · obtain ⟨ne, h1⟩ := cK hn h1
    rw [List.getElem?_set, if_neg ne] at h2
    exact h.own j d a h1 h2
  · obtain ⟨ne, h1⟩ := cK hn h1
    obtain ⟨ne', h2⟩ := cK hn h2
    rw [List.getElem?_set, if_neg ne] at h3
    rw [List.getElem?_set, if_neg ne'] at h4
    exact h.apart j k d e a h1 h2 h3 h4
theorem o9 {H : Hp} {d : PyData} {v : V} (h : iC H d v) : ∃ a o, v = .ref a ∧ H a = some o := by
  cases d <;> simp only [iC] at h
  · obtain ⟨a, vs, e, ha, _⟩ := h; exact ⟨a, _, e, ha⟩
  · obtain ⟨a, vs, e, ha, _⟩ := h; exact ⟨a, _, e, ha⟩
theorem g9.setOwn {Fm H0 H : Hp} {σ : St} {ρ : aX} {d : PyData} {v : V} (h0 : g9 Fm H0 σ ρ) (h : g9 Fm H σ ρ) (hs : aR H0 H) (i : Nat) (hn : AO H0 H d v) : g9 Fm H (σ.set i (some v)) (ρ.set i (.own d)) := by
  obtain ⟨p, a, rfl, ha⟩ := hn
  have old : ∀ (j : Nat) (e : PyData) (b : Addr), i ≠ j → (ρ.set i (.own d))[j]? = some (.own e) → (σ.set i (some (.ref a)))[j]? = some (some (.ref b)) → ρ[j]? = some (.own e) ∧ σ[j]? = some (some (.ref b)) := fun j e b ne h1 h2 => by
    rw [List.getElem?_set, if_neg ne] at h1 h2
    exact ⟨h1, h2⟩
  have notA : ∀ (j : Nat) (e : PyData), ρ[j]? = some (.own e) → σ[j]? = some (some (.ref a)) → False := fun j e h1 h2 => by
    obtain ⟨u, e1, q⟩ := h0.sl.2 j _ _ h1 h2
    cases e1
    obtain ⟨b, o, e2, hb⟩ := o9 q
    cases e2
    rw [ha] at hb; cases hb
  have here : ∀ (b : Addr), (σ.set i (some (.ref a)))[i]? = some (some (.ref b)) → b = a := fun b h2 => by
    rw [List.getElem?_set, if_pos rfl] at h2
    split at h2
    · cases h2; rfl
    · cases h2
  refine ⟨h.fm, h.sl.set i ⟨_, rfl, p⟩, fun j e b h1 h2 => ?_, fun j k e f b h1 h2 h3 h4 => ?_⟩
  · by_cases hij : i = j
    · subst hij
      rw [here b h2]
      exact (h0.fm).free ha
    · obtain ⟨h1, h2⟩ := old j e b hij h1 h2
      exact h.own j e b h1 h2
  · by_cases hij : i = j
    · subst hij
      have eb := here b h3
      by_cases hik : i = k
      · exact hik
      · obtain ⟨h2, h4⟩ := old k f b hik h2 h4
        rw [eb] at h4
        exact (notA k f h2 h4).elim
    · obtain ⟨h1, h3⟩ := old j e b hij h1 h3
      by_cases hik : i = k
      · subst hik
        have eb := here b h4
        rw [eb] at h3
        exact (notA j e h1 h3).elim
      · obtain ⟨h2, h4⟩ := old k f b hik h2 h4
        exact h.apart j k e f b h1 h2 h3 h4
theorem a6 (T : Tb X nl G) (i : Nat) (hN : (X.N.take nl)[i]? = some x) (he : ak X e f) (hs : swapsWith e (some (.Name x pos')) pos.line X.env = pure false := by rfl) : eY X (.Assign [.Name x pos'] e pos) (bH i f) := fun Fm => by
  have hm := T.loc x (List.mem_of_getElem? hN)
  have hi : X.N[i]? = some x := by
    rw [List.getElem?_take] at hN
    split at hN
    · exact hN
    · cases hN
  exact PS.imp (wD T.nd hi hm.1 he hs hm.2) fun D σ H h => (kI (P := gI) (f := f) (k := fun ρ d => .ok (.nx (ρ.set i (.val d)))) h).post fun v H1 ⟨ρ, d, sl, _, p, q⟩ =>
    q _ H1 (sl.set i (fun e z => by cases z) ⟨v, rfl, p⟩)
theorem Z.a6 (T : Tb X nl G) (i : Nat) (hN : (X.N.take nl)[i]? = some x) (he : Z.ak X e f) (hs : swapsWith e (some (.Name x pos')) pos.line X.env = pure false := by rfl) : Z.eY X (.Assign [.Name x pos'] e pos) (bH i f) :=
  ⟨D2.a6 T i hN he.un hs⟩
theorem iN (T : Tb X nl G) (i : Nat) (hN : (X.N.take nl)[i]? = some x) (he : gf X e f) (hs : swapsWith e (some (.Name x pos')) pos.line X.env = pure false := by rfl) : eY X (.Assign [.Name x pos'] e pos) (gz i f) := fun Fm => by
  have hm := T.loc x (List.mem_of_getElem? hN)
  have hi : X.N[i]? = some x := by
    rw [List.getElem?_take] at hN
    split at hN
    · exact hN
    · cases hN
  refine PS.imp (wD T.nd hi hm.1 he hs hm.2) fun D σ H h => ?_
  obtain ⟨ρ0, sl0, q0⟩ := h
  refine ⟨ρ0, sl0.sl, ?_⟩
  unfold gz at q0
  cases ef : f ρ0 with
  | ex c => rw [ef] at q0; exact q0.1.mono sl0.fm
  | no => rw [ef] at q0; exact q0
  | ok d =>
    rw [ef] at q0
    exact fun v H1 s p => q0 _ H1 (g9.setOwn sl0 (sl0.mono s) s i p)
theorem Z.iN (T : Tb X nl G) (i : Nat) (hN : (X.N.take nl)[i]? = some x) (he : Z.gf X e f) (hs : swapsWith e (some (.Name x pos')) pos.line X.env = pure false := by rfl) : Z.eY X (.Assign [.Name x pos'] e pos) (gz i f) :=
  ⟨D2.iN T i hN he.un hs⟩
end
structure yj (J : It) (Gd : Hp → Prop) (ds : List PyData) : Prop where
  go : ∀ i H, Gd H → i < ds.length → J.go i H
  yld : ∀ i H x H' d, Gd H → ds[i]? = some d → J.yld i H x H' → aR H H' ∧ Rp H' d x
  stop : ∀ i H, Gd H → ds.length ≤ i → J.stop i H
def B7 (H0 : Hp) (B : Addr → Prop) (Gd : Hp → Prop) : Prop := ∀ H, Kp H0 H → (∀ b o, B b → H0 b = some o → H b = some o) → Gd H
def CN (X : Cx) (f : aX → R (List PyData)) : TI := fun σ H Rk => ∃ ρ, Sl H σ ρ ∧ match f ρ with
  | .ok ds => ∀ J H', aR H H' → (∃ Gd, yj J Gd ds ∧ B7 H' (fun _ => False) Gd) → Rk J H'
  | .ex c => Xw X c H
  | .no => False
def oI (X : Cx) (tg iter : Expr) (f : aX → R (List PyData)) : Prop := PI X tg iter (CN X f)
structure Z.oI (X : Cx) (tg iter : Expr) (f : aX → R (List PyData)) : Prop where
  un : D2.oI X tg iter f
def CS (X : Cx) (b : PyData → aX → Option aX) : TG := fun v σ H Q => ∃ ρ d, Sl H σ ρ ∧ Rp H d v ∧ match b d ρ with
  | some ρ' => ∀ σ', Sl H σ' ρ' → (∀ (i : Nat) (e : PyData), ρ'[i]? = some (.own e) → ρ[i]? = some (.own e) ∧ σ'[i]? = σ[i]?) → Q σ' H
  | none => False
def qP (X : Cx) (tg : Expr) (b : PyData → aX → Option aX) : Prop := PG X tg (CS X b)
structure Z.qP (X : Cx) (tg : Expr) (b : PyData → aX → Option aX) : Prop where
  un : D2.qP X tg b
def bj (i : Nat) : PyData → aX → Option aX := fun d ρ => some (ρ.set i (.val d))
theorem PG.imp {X : Cx} {e : Expr} {t t' : TG} (h : PG X e t) (i : ∀ v σ H Q, t' v σ H Q → t v σ H Q) : PG X e t' := fun pins s σ H v u Q I r q => h pins s σ H v u Q I r (i v σ H Q q)
theorem PI.imp {X : Cx} {tg e : Expr} {t t' : TI} (h : PI X tg e t) (i : ∀ σ H Q, t' σ H Q → t σ H Q) : PI X tg e t' := fun pins s σ H Q I q => h pins s σ H Q I (i σ H Q q)
section
variable {X : Cx} {nl : Nat} {G : List Str} {x : Str} {pos : Pos}
theorem Tb.nm (T : Tb X nl G) {i : Nat} (hN : (X.N.take nl)[i]? = some x) : X.N[i]? = some x ∧ yT X.env.scope x ∧ (X.fn x = true ∨ X.env.scope.names.lookup x = some .local) := by
  have hm := T.loc x (List.mem_of_getElem? hN)
  have hi : X.N[i]? = some x := by
    rw [List.getElem?_take] at hN
    split at hN
    · exact hN
    · cases hN
  exact ⟨hi, hm⟩
theorem bJ (T : Tb X nl G) (i : Nat) (hN : (X.N.take nl)[i]? = some x) : qP X (.Name x pos) (bj i) := by
  obtain ⟨hi, h1, h2⟩ := T.nm hN
  refine PG.imp (pI T.nd hi h1 h2) fun v σ H Q ⟨ρ, d, sl, p, q⟩ => ?_
  refine q _ (sl.set i ⟨v, rfl, p⟩) fun j e h => ?_
  obtain ⟨ne, h⟩ := cK (fun e z => by cases z) h
  exact ⟨h, by rw [List.getElem?_set, if_neg ne]⟩
theorem Z.bJ (T : Tb X nl G) (i : Nat) (hN : (X.N.take nl)[i]? = some x) : Z.qP X (.Name x pos) (bj i) :=
  ⟨D2.bJ T i hN⟩
end
def fB (b : PyData → aX → Option aX) (g : Fs) : List PyData → Fs
  | [], ρ => .ok (.nx ρ)
  | d :: ds, ρ => match b d ρ with
    | none => .no
    | some ρ1 => g ρ1 >>= fun o => match o with
      | .nx ρ2 => fB b g ds ρ2
      | .ct ρ2 => fB b g ds ρ2
      | .bk ρ2 => .ok (.nx ρ2)
      | .rt r => .ok (.rt r)
def kx (it : aX → R (List PyData)) (b : PyData → aX → Option aX) (g : Fs) : Fs := fun ρ => it ρ >>= fun ds => fB b g ds ρ
def stab (Fm H : Hp) : Hp := fun b => match H b with
  | some (.tup xs) => some (.tup xs)
  | some (.frz o u) => some (.frz o u)
  | _ => Fm b
theorem uE {Fm H : Hp} (h : aR Fm H) : aR (stab Fm H) H := fun b o e => by
  unfold stab at e
  split at e
  · rename_i q; rw [q]; exact e
  · rename_i q; rw [q]; exact e
  · exact h b o e
theorem xK {Fm H : Hp} : Kp H (stab Fm H) := ⟨fun b xs e => by unfold stab; rw [e], fun b o u e => by unfold stab; rw [e]⟩
theorem yA {Fm H : Hp} (h : aR Fm H) : aR Fm (stab Fm H) := fun b o e => by
  have := h b o e
  unfold stab
  split
  · rename_i q; rw [this] at q; exact q.symm
  · rename_i q; rw [this] at q; exact q.symm
  · exact e
theorem g9.stab {Fm H : Hp} {σ : St} {ρ : aX} (h : g9 Fm H σ ρ) : g9 (stab Fm H) H σ ρ := by
  refine ⟨uE h.fm, h.sl, fun i d a h1 h2 => ?_, h.apart⟩
  have f := h.own i d a h1 h2
  obtain ⟨u, e1, q⟩ := h.sl.2 i _ _ h1 h2
  cases e1
  unfold D2.stab
  cases d <;> simp only [iC] at q
  · obtain ⟨b, vs, e, hb, _⟩ := q; cases e; rw [hb]; exact f
  · obtain ⟨b, vs, e, hb, _⟩ := q; cases e; rw [hb]; exact f
theorem g9.unstab {Fm F H : Hp} {σ : St} {ρ : aX} (hF : aR Fm F) (h : g9 F H σ ρ) : g9 Fm H σ ρ := ⟨hF.trans h.fm, h.sl, fun i d a h1 h2 => hF.free (h.own i d a h1 h2), h.apart⟩
theorem gC {X : Cx} {tg iter : Expr} {body : List Stmt} {it : aX → R (List PyData)} {b : PyData → aX → Option aX} {g : Fs} {pos : Pos} (hp : PassesOwn (model X.prog X.w) X.A X.env X.xe) (hc : X.calm = true) (hi : oI X tg iter it) (hg : qP X tg b)
    (hb : gF X body g) (hs : ∀ x, foldedSetIterable iter X.env x = pure x := by intro _; rfl) : eY X (.For tg iter body [] pos) (kx it b g) := fun Fm => by
  intro pins s σ H D I h
  obtain ⟨ρ, sl, q⟩ := h
  unfold kx at q
  -- the frame: what is stable at the loop's iu is only known behind the iterator's making: the body is taken at every frame
  refine zS (wi := CN X it) (g := CS X b) (tb := fun D' σ' H' => ∃ F, yU X F g D' σ' H') hp hc hi hg (fun pins' s' σ' H' D' I' ⟨F, q'⟩ => hb F pins' s' σ' H' D' I' q') hs pins s σ H D I ?_
  refine ⟨ρ, sl.sl, ?_⟩
  cases ei : it ρ with
  | ex c => rw [ei] at q; exact q.1.mono sl.fm
  | no => rw [ei] at q; exact q
  | ok ds =>
    rw [ei] at q
    intro J H1 s1 ⟨Gd, idt, sta⟩
    have sl1 := sl.mono s1
    let F := stab Fm H1
    have hF : aR Fm F := yA sl1.fm
    -- the word: so many items are taken, and the rest gives what the whole gives
    refine ⟨fun i m σ' H' => m = ds.length - i ∧ i ≤ ds.length ∧ ∃ ρ', g9 F H' σ' ρ' ∧ x4 X Fm (fB b g (ds.drop i) ρ') D, ⟨ds.length, by simp, Nat.zero_le _, ρ, sl1.stab, by simpa using q⟩, ?_⟩
    rintro i m σ2 H2 ⟨rfl, hi', ρ2, sl2, q2⟩
    have gd : Gd H2 := sta H2 (Kp.trans xK (Kp.of sl2.fm)) fun _ _ z => z.elim
    by_cases hlt : i < ds.length
    · refine .inr ⟨idt.go i H2 gd hlt, fun σ' H' => i + 1 ≤ ds.length ∧ ∃ ρ', g9 F H' σ' ρ' ∧ x4 X Fm (fB b g (ds.drop (i + 1)) ρ') D, fun σ' H' ⟨z, p⟩ => ⟨ds.length - (i + 1), by omega, rfl, z, p⟩, fun x H3 y => ?_⟩
      obtain ⟨d, hd⟩ : ∃ d, ds[i]? = some d := ⟨ds[i], List.getElem?_eq_getElem hlt⟩
      obtain ⟨s3, p3⟩ := idt.yld i H2 x H3 d gd hd y
      have hdrop : ds.drop i = d :: ds.drop (i + 1) := by
        rw [List.drop_eq_getElem_cons hlt]
        congr 1
        exact Option.some.inj ((List.getElem?_eq_getElem hlt).symm.trans hd)
      rw [hdrop] at q2
      unfold fB at q2
      have sl3 := sl2.mono s3
      refine ⟨ρ2, d, sl3.sl, p3, ?_⟩
      cases eb : b d ρ2 with
      | none => rw [eb] at q2; exact q2
      | some ρ3 =>
        rw [eb] at q2
        intro σ4 sl4 hown
        refine ⟨F, ρ3, ⟨sl3.fm, sl4, fun j e a h1 h2 => ?_, fun j k e f a h1 h2 h3 h4 => ?_⟩, ?_⟩
        · obtain ⟨z1, z2⟩ := hown j e h1
          exact sl3.own j e a z1 (by rw [← z2]; exact h2)
        · obtain ⟨z1, z2⟩ := hown j e h1
          obtain ⟨z3, z4⟩ := hown k f h2
          exact sl3.apart j k e f a z1 z3 (by rw [← z2]; exact h3) (by rw [← z4]; exact h4)
        · have q3 : x4 X Fm (g ρ3 >>= fun o => match o with
            | .nx ρ2 => fB b g (ds.drop (i + 1)) ρ2
            | .ct ρ2 => fB b g (ds.drop (i + 1)) ρ2
            | .bk ρ2 => .ok (.nx ρ2)
            | .rt r => .ok (.rt r)) D := q2
          cases eg : g ρ3 with
          | ex c => rw [eg] at q3; exact ⟨q3.1.mono hF, q3.2.mono hF⟩
          | no => rw [eg] at q3; exact q3
          | ok o =>
            rw [eg] at q3
            cases o with
            | nx ρ4 => exact fun σ' H' s' => ⟨hlt, ρ4, s', q3⟩
            | ct ρ4 => exact fun σ' H' s' => ⟨hlt, ρ4, s', q3⟩
            | bk ρ4 => exact fun σ' H' s' => q3 σ' H' (s'.unstab hF)
            | rt r => exact fun v H' s' p' => q3 v H' (hF.trans s') p'
    · have e : i = ds.length := by omega
      subst e
      refine .inl ⟨idt.stop _ H2 gd (Nat.le_refl _), ?_⟩
      rw [List.drop_length] at q2
      exact q2 σ2 H2 (sl2.unstab hF)
theorem Z.gC {X : Cx} {tg iter : Expr} {body : List Stmt} {it : aX → R (List PyData)} {b : PyData → aX → Option aX} {g : Fs} {pos : Pos} (hp : PassesOwn (model X.prog X.w) X.A X.env X.xe) (hc : X.calm = true) (hi : Z.oI X tg iter it) (hg : Z.qP X tg b) (hb : Z.gF X body g) (hs : ∀ x, foldedSetIterable iter X.env x = pure x := by intro _; rfl) : Z.eY X (.For tg iter body [] pos) (kx it b g) :=
  ⟨D2.gC hp hc hi.un hg.un hb.un hs⟩
def dn (n : Nat) (g : Fs) : List PyData → R PyData := fun ds => g (ds.map bo.val ++ List.replicate (n - ds.length) .non) >>= fun o => match o with
  | .rt d => .ok d
  | .nx _ => .ok .none
  | _ => .no
def dg (F : List PyData → R PyData) (n : Nat) : Sp := fun vs H Q E => ∃ ds, bF H ds vs ∧ ds.length = n ∧ match F ds with
  | .ok d => ∀ v H', aR H H' → Rp H' d v → Q v H'
  | .ex c => ∀ H', aR H H' → E (.str c 0) none H'
  | .no => False
theorem vE {H : Hp} {N : List Str} : ∀ {ds : List PyData} {vs : List V}, bF H ds vs → Sl H (L2.iu N vs) (ds.map bo.val ++ List.replicate (N.length - ds.length) .non) := fun {ds vs} r => by
  have hl := r.length
  refine ⟨by unfold L2.iu; rw [List.length_append, List.length_append, List.length_map, List.length_map, List.length_replicate, List.length_replicate, hl], fun i c o h1 h2 => ?_⟩
  by_cases hi : i < ds.length
  · rw [List.getElem?_append_left (by simpa using hi), List.getElem?_map] at h1
    cases e : ds[i]? with
    | none => rw [e] at h1; cases h1
    | some d =>
      rw [e] at h1
      cases h1
      obtain ⟨v, e1, p⟩ := r.get e
      unfold L2.iu at h2
      rw [List.getElem?_append_left (by rw [List.length_map, hl]; exact hi), List.getElem?_map, e1] at h2
      cases h2
      exact ⟨v, rfl, p⟩
  · rw [List.getElem?_append_right (by simpa using hi), List.getElem?_replicate] at h1
    split at h1
    · cases h1; exact True.intro
    · cases h1
section
variable {P : Program} {w : World} {H : Hp} {h : Heap} {a : Addr}
theorem pb : ∀ {o : HO}, bW P w H h a o → ∃ u, h.get? a = some u
  | .lst xs, x => by obtain ⟨_, _, _, _, e⟩ := x; exact ⟨_, e⟩
  | .tup xs, x => by obtain ⟨_, _, _, o, e, _⟩ := x; exact ⟨_, e⟩
  | .dK kvs, x => by obtain ⟨_, _, _, _, o, _, _, e, _⟩ := x; exact ⟨_, e⟩
  | .dT kvs, x => by obtain ⟨_, _, _, _, o, _, _, e, _⟩ := x; exact ⟨_, e⟩
  | .set S n, x => by obtain ⟨o, _, _, _, e, _⟩ := x; exact ⟨_, e⟩
  | .ins C dx fs, x => by obtain ⟨_, _, _, e, _⟩ := x; exact ⟨_, e⟩
  | .own y, x => by obtain ⟨_, e⟩ := x; exact ⟨_, e⟩
  | .xd fs, x => by obtain ⟨_, ⟨_, _, _, e, _⟩, _⟩ := x; exact ⟨_, e⟩
  | .rng lo hi, x => by obtain ⟨_, _, _, e⟩ := x; exact ⟨_, e⟩
  | .frz ob u, x => by obtain ⟨e, _⟩ := x; exact ⟨_, e⟩
  | .tbl ps, x => ⟨_, (show h.get? a = some _ from x)⟩
  | .met f y, x => ⟨_, (show h.get? a = some _ from x)⟩
  | .ext φ, x => by obtain ⟨_, ⟨_, e⟩, _⟩ := x; exact ⟨_, e⟩
end
theorem Bl.un {P : Program} {w : World} {outer : List Env} {H H' : Hp} {s s' : Shared} {C : Addr} {e : Value} (f : Bl P w outer H s C H' e s') : Un (nJ outer) [] H H' s.heap s'.heap := by
  obtain ⟨p, a0, B, _, fl, ok, _, cov⟩ := f.ex
  refine ⟨fun b o q n hb _ => fl.1 _ _ (cov b o q n hb).1, fun b o q n hb _ => (f.slot b o q n hb).1, fun b o q n _ => ?_, fun b o q _ => ?_, fun b xs q => f.same _ _ q, fun b o u q => f.same _ _ q, fun b ps q => ⟨#[], by rw [f.same _ _ q]; simp⟩⟩
  · by_cases hb : b ∈ nJ outer
    · exact (f.slot b o q n hb).2
    · exact (cov b o q n hb).2
  · cases n : H b with
    | none =>
      by_cases hb : b ∈ nJ outer
      · obtain ⟨sl, z⟩ := (f.slot b o q n hb).1; exact ⟨_, z⟩
      · exact ⟨o, fl.1 _ _ (cov b o q n hb).1⟩
    | some u =>
      obtain ⟨o', z⟩ := pb (ok b u (f.same _ _ n))
      exact ⟨o', fl.1 _ _ z⟩
section
variable {P : Program} {w : World} {K : PySem.W.Frag} {mg : Str → Option Value} {base : Heap} {N : List Str} {qual : Str} {sc : Scope} {f : Addr} {cdv : Value} {A : Around} {outer : List Env} {s : Shared} {H : Hp} {E : XK} {c : Str}
theorem Aa (h : ∀ H', aR H H' → E (.str c 0) none H') : Xw (ff (cF P w mg) P w K mg base N qual sc f cdv A outer s H E) c H := by
  intro H1 s1 n C en hm pins σ Hc sc' e s' I fl
  have en' : c = n := by injection en
  subst en'
  obtain ⟨p, a0, B, rfl, fly, okB, hp, cov⟩ := fl.ex
  have old : ∀ b o, s.heap.get? b = some o → b ≠ s.heap.objs.size := fun b o q => Nat.ne_of_lt (Heap.lt_size q)
  refine wpAny_leaves_onW I.ok.frames rfl fly fun h' fl' up => ⟨c, C, H1, hm, ⟨fl.os.trans I.os, fl.bare, s1, ⟨p, a0, B, rfl, fl', okB, hp, fun b o q n hb => ?_⟩, fun b o q n hb => ?_⟩, h H1 s1⟩
  · have q1 := I.base.keep b o q n hb (by simp [ff])
    have n1 := I.base.free b o q n (by simp [ff])
    refine cov b o q1 n1 fun z => ?_
    have z' : b ∈ (s.heap.objs.size :: nJ outer) := z
    rcases List.mem_cons.mp z' with z2 | z2
    · exact old b o q z2
    · exact hb z2
  · obtain ⟨sl, q1⟩ := I.base.slot b o q n hb (by simp [ff])
    have n1 := I.base.free b o q n (by simp [ff])
    have hb' : b ∈ nJ (ff (cF P w mg) P w K mg base N qual sc f cdv A outer s H E).stack := List.mem_cons_of_mem _ hb
    obtain ⟨⟨sl', q2⟩, n2⟩ := fl.slot b _ q1 n1 hb'
    obtain ⟨_, o3, q3, nf⟩ := fly.2.2.1.mem hb'
    rw [q2] at q3
    cases q3
    obtain ⟨sl3, q4⟩ := up b _ q2 nf
    exact ⟨⟨sl3, q4⟩, n2⟩
theorem xD (h : ∀ H', aR H H' → E (.str c 0) none H') : Bp (ff (cF P w mg) P w K mg base N qual sc f cdv A outer s H E) c H := by
  intro C hm pins σ Hm sm sH I h' p vs hx
  have hin : ∀ env ∈ (ff (cF P w mg) P w K mg base N qual sc f cdv A outer s H E).stack, ∀ b, env.frame = some b → b ∈ nJ (ff (cF P w mg) P w K mg base N qual sc f cdv A outer s H E).stack := fun env he b hb => List.mem_filterMap.mpr ⟨env, he, hb⟩
  have old : ∀ b o, s.heap.get? b = some o → b ≠ s.heap.objs.size := fun b o q => Nat.ne_of_lt (Heap.lt_size q)
  refine wpAny_leaves_madeW (s := { sm with heap := h' }) (base := PySem.W.hideAll sm.heap (nJ (ff (cF P w mg) P w K mg base N qual sc f cdv A outer s H E).stack)) I.ok.frames rfl (fun b o q => PySem.W.of_hideAll _ q) (PySem.W.funFrames_hide I.stack hin) hx fun h'' t fl' _ _ up =>
    ⟨c, C, Hm, hm, ⟨I.os, I.bare, sH, ⟨p, .ref t, _, rfl, fl', fun b u q => ?_, ?_, fun b o q n hb => ?_⟩, fun b o q n hb => ?_⟩, h Hm sH⟩
  · refine (I.hok b u q).stay (fun c' v hc z => PySem.W.hideAll_get _ z fun m => ?_) (fun _ z => z) fun _ _ z => z
    have hn := I.stkFree c' m
    rcases hc with rfl | hc
    · rw [hn] at q; cases q
    · rw [hn] at hc; cases hc
  · cases q : Hm p with
    | none => rfl
    | some u =>
      obtain ⟨o', z⟩ := pb (I.hok p u q)
      rw [hx.new] at z; cases z
  · have q1 := I.base.keep b o q n hb (by simp [ff])
    have n1 := I.base.free b o q n (by simp [ff])
    refine ⟨PySem.W.hideAll_get _ q1 fun z => ?_, n1⟩
    have z' : b ∈ (s.heap.objs.size :: nJ outer) := z
    rcases List.mem_cons.mp z' with z2 | z2
    · exact old b o q z2
    · exact hb z2
  · obtain ⟨sl, q1⟩ := I.base.slot b o q n hb (by simp [ff])
    have n1 := I.base.free b o q n (by simp [ff])
    have hb' : b ∈ nJ (ff (cF P w mg) P w K mg base N qual sc f cdv A outer s H E).stack := List.mem_cons_of_mem _ hb
    obtain ⟨_, o3, q3, nf⟩ := I.stack.mem hb'
    rw [q1] at q3
    cases q3
    obtain ⟨sl3, q4⟩ := up b _ (hx.keeps _ _ q1) nf
    exact ⟨⟨sl3, q4⟩, n1⟩
end
theorem pL {P : Program} {w : World} {K : PySem.W.Frag} {mg : Str → Option Value} {base : Heap} {x qual : Str} {st : Stmt} {f : Addr} {fd : FuncData} {N ps : List Str} {k : Nat} {g : Fs} (F : gP K x qual st f fd) (S : a5 N ps (aj st))
    (body : ∀ (cdv : Value) (A : Around) (outer : List Env) (s : Shared) (H : Hp) (E : XK), dQ k (A.deeper (envOfC qual (aj st) s.heap.objs.size f cdv)) →
      gF (ff (cF P w mg) P w K mg base N qual (aj st) f cdv A outer s H E) (dB st) g) : bf P w K mg base (cF P w mg) (k + 1) f fd ps (dg (dn N.length g) ps.length) := by
  obtain ⟨oc, od, kV, doc, pm, an, cdv, ct, osl, rfl, lk, hcd⟩ := F.ex
  refine wM lk hcd S (fun vs H Q E ⟨ds, r, hl, _⟩ => by rw [r.length]; exact hl) fun A outer s H vs Q E hr h => ?_
  obtain ⟨ds, r, hl, q⟩ := h
  have noOwn : ∀ (i : Nat) (d : PyData), (ds.map bo.val ++ List.replicate (N.length - ds.length) bo.non)[i]? = some (.own d) → False := fun i d h1 => by
    by_cases hi : i < ds.length
    · rw [List.getElem?_append_left (by simpa using hi), List.getElem?_map] at h1
      cases e : ds[i]? with
      | none => rw [e] at h1; cases h1
      | some d => rw [e] at h1; cases h1
    · rw [List.getElem?_append_right (by simpa using hi), List.getElem?_replicate] at h1
      split at h1
      · cases h1
      · cases h1
  refine ⟨_, body cdv A outer s H E hr H, _, ⟨aR.refl _, vE r, fun i d a h1 h2 => (noOwn i d h1).elim, fun i j d e a h1 h2 h3 h4 => (noOwn i d h1).elim⟩, ?_⟩
  unfold dn at q
  cases eg : g (ds.map bo.val ++ List.replicate (N.length - ds.length) .non) with
  | ex c => rw [eg] at q; exact ⟨Aa q, xD q⟩
  | no => rw [eg] at q; exact q.elim
  | ok o =>
    rw [eg] at q
    cases o with
    | rt d => exact fun v H' s' p => q v H' s' p
    | nx ρ => exact fun σ' H' s' => q .non H' s'.fm (by simp only [Rp])
    | bk ρ => exact q.elim
    | ct ρ => exact q.elim
def aC (F : List PyData → R PyData) (fs : aX → R (List PyData)) : Fe := fun ρ => fs ρ >>= F
theorem xI {X : Cx} {k n : Nat} {f : Addr} {fd : FuncData} {ps : List Str} {F : List PyData → R PyData} {x : Str} {p pos : Pos} {e : Expr} {es : List Expr} {fs : aX → R (List PyData)} {nl : Nat} {G : List Str}
    (C : bf X.prog X.w X.K X.mg X.base (cF X.prog X.w X.mg) k f fd ps (dg F n)) (hr : dQ k X.A) (T : Tb X nl G) (j : Nat) (hG : G[j]? = some x) (hm : X.mg x = some (.ref f)) (hk : PySem.W.keepIn X.K (.ref f) = true) (hb : gH X.K fd ps []) (ha : nT X (e :: es) fs)
    (hlen : (e :: es).length = n) (hfs : ∀ ρ ds, fs ρ = .ok ds → ds.length = n)
    (he : (e :: es).all aG = true := by rfl) : ak X (.Call (.Name x p) (e :: es) [] pos) (aC F fs) := by
  rw [List.all_cons, Bool.and_eq_true] at he
  have g := T.gl x (List.mem_of_getElem? hG)
  refine PE.imp (xT C hr g.1 hm hk hb .nil ua ha g.2.1 (bB he.1) (mT he.2)) fun σ H Q ⟨ρ, sl, q⟩ => ?_
  refine ⟨ρ, sl, ?_⟩
  unfold aC at q
  cases e1 : fs ρ with
  | ex c => rw [e1] at q; exact q
  | no => rw [e1] at q; exact q
  | ok ds =>
    rw [e1] at q
    intro vs H1 s1 r1
    rw [List.append_nil]
    refine ⟨ds, mG.mp r1, hfs ρ ds e1, ?_⟩
    have q' : uo X gI (F ds) H Q := q
    cases e2 : F ds with
    | ok d => rw [e2] at q'; exact fun v H' s' p' => q' v H' (s1.trans s') p'
    | ex c => rw [e2] at q'; exact fun H' s' => q' H' (s1.trans s')
    | no => rw [e2] at q'; exact q'
theorem ah : ∀ ρ ds, aH ρ = .ok ds → ds.length = 0 := fun ρ ds e => by cases e; rfl
theorem ad {f : Fe} {g : aX → R (List PyData)} {n : Nat} (h : ∀ ρ ds, g ρ = .ok ds → ds.length = n) : ∀ ρ ds, ag f g ρ = .ok ds → ds.length = n + 1 := fun ρ ds e => by
  unfold ag at e
  cases e1 : f ρ with
  | ex c => rw [e1] at e; cases e
  | no => rw [e1] at e; cases e
  | ok d =>
    rw [e1] at e
    cases e2 : g ρ with
    | ex c => rw [e2] at e; cases e
    | no => rw [e2] at e; cases e
    | ok ds' => rw [e2] at e; cases e; rw [List.length_cons, h ρ ds' e2]
theorem sE {scope : Scope} {env : Env} (h : ∀ x ∈ scope.names, x.2 = .free → ∃ c, env.cells.lookup x.1 = some c) :
    ∃ cl, closureFor scope env = pure cl ∧ (∀ x c, cl.lookup x = some c → env.cells.lookup x = some c) ∧ ∀ x ∈ scope.names, x.2 = .free → ∃ c, cl.lookup x.1 = some c := by
  suffices gen : ∀ (names : List (Str × NameKind)) (acc : List (Str × Addr)), (∀ x ∈ names, x.2 = .free → ∃ c, env.cells.lookup x.1 = some c) → (∀ x c, acc.lookup x = some c → env.cells.lookup x = some c) →
      ∃ cl, (forIn names acc fun x r => if (x.snd == NameKind.free) = true then do let a ← cellOf env x.fst; pure (ForInStep.yield ((x.fst, a) :: r)) else pure (ForInStep.yield r) : Sem (List (Str × Addr))) = pure cl ∧
        (∀ x c, cl.lookup x = some c → env.cells.lookup x = some c) ∧ (∀ x c, acc.lookup x = some c → ∃ c', cl.lookup x = some c') ∧ ∀ x ∈ names, x.2 = .free → ∃ c, cl.lookup x.1 = some c by
    obtain ⟨cl, h1, h2, _, h4⟩ := gen scope.names [] h fun x c e => by simp at e
    refine ⟨cl, ?_, h2, h4⟩
    simp only [closureFor]
    rw [h1]
    rfl
  intro names
  induction names with
  | nil => intro acc _ ha; exact ⟨acc, rfl, ha, fun x c e => ⟨c, e⟩, fun x hx => by cases hx⟩
  | cons y r ih =>
    intro acc hn ha
    obtain ⟨n, k⟩ := y
    by_cases hk : k = .free
    · subst hk
      obtain ⟨c, hc⟩ := hn (n, .free) List.mem_cons_self rfl
      obtain ⟨cl, e1, e2, e3, e4⟩ := ih ((n, c) :: acc) (fun x hx => hn x (List.mem_cons_of_mem _ hx)) (fun x c' e => by
        rw [List.lookup_cons] at e
        split at e
        · rename_i q
          have : x = n := by simpa using q
          subst this; cases e; exact hc
        · exact ha x c' e)
      refine ⟨cl, ?_, e2, fun x c' e => ?_, fun x hx hf => ?_⟩
      · rw [List.forIn_cons]
        have : cellOf env n = pure c := by unfold cellOf; rw [hc]
        simp only [beq_self_eq_true, if_true, this, pure_bind]
        exact e1
      · by_cases hx : x = n
        · subst hx; exact e3 x c (by rw [List.lookup_cons]; simp)
        · have hb : (x == n) = false := by simpa using hx
          exact e3 x c' (by rw [List.lookup_cons, hb]; exact e)
      · rcases List.mem_cons.mp hx with rfl | hx
        · exact e3 n c (by rw [List.lookup_cons]; simp)
        · exact e4 x hx hf
    · obtain ⟨cl, e1, e2, e3, e4⟩ := ih acc (fun x hx => hn x (List.mem_cons_of_mem _ hx)) ha
      refine ⟨cl, ?_, e2, e3, fun x hx hf => ?_⟩
      · rw [List.forIn_cons]
        have : (k == NameKind.free) = false := by simpa using hk
        simp only [this, Bool.false_eq_true, if_false, pure_bind]
        exact e1
      · rcases List.mem_cons.mp hx with rfl | hx
        · exact absurd hf hk
        · exact e4 x hx hf
def A6 (env : Env) (p : Str × NameKind) : NameKind := if (p.2 == .free && env.scope.kind == .function && env.kindOf p.1 == some .cell) = true then .cell else p.2
theorem nR (scope : Scope) (env : Env) : (relabel scope env).names = scope.names.map fun p => (p.1, A6 env p) := by
  unfold relabel
  refine List.map_congr_left fun p _ => ?_
  obtain ⟨n, k⟩ := p
  unfold A6
  dsimp only
  split <;> rfl
theorem ln (g : Str × NameKind → NameKind) (x : Str) : ∀ l : List (Str × NameKind), (l.map fun p => (p.1, g p)).lookup x = (l.lookup x).map fun k => g (x, k)
  | [] => rfl
  | (n, k) :: r => by
    rw [List.map_cons]
    cases hx : x == n with
    | true =>
      have e : x = n := by simpa using hx
      subst e
      simp
    | false =>
      have ne : ¬ x = n := by simpa using hx
      simp only [List.lookup_cons, hx]
      exact ln g x r
theorem jU (scope : Scope) (env : Env) (x : Str) : (relabel scope env).names.lookup x = (scope.names.lookup x).map fun k => A6 env (x, k) := by
  rw [nR]; exact ln _ _ _
theorem eK {scope : Scope} {env : Env} {x : Str} {k : NameKind} (h : scope.names.lookup x = some k) (hk : k ≠ .free) : (relabel scope env).names.lookup x = some k := by
  rw [jU, h]
  have : (k == NameKind.free) = false := by simpa using hk
  simp only [A6, this, Bool.false_and, Bool.false_eq_true, if_false, Option.map_some]
theorem kg {scope : Scope} {env : Env} {x : Str} (h : scope.names.lookup x = some .free) : (relabel scope env).names.lookup x = some .free ∨ (relabel scope env).names.lookup x = some .cell := by
  rw [jU, h]
  unfold A6
  dsimp only [Option.map_some]
  split
  · exact .inr rfl
  · exact .inl rfl
theorem qZ {scope : Scope} {env : Env} {x : Str} (hc : ∀ y ∈ scope.names, y.2 ≠ .cell) (h : (relabel scope env).names.lookup x = some .free ∨ (relabel scope env).names.lookup x = some .cell) : (x, NameKind.free) ∈ scope.names := by
  cases e : scope.names.lookup x with
  | none =>
    rw [jU, e] at h
    rcases h with h | h <;> cases h
  | some k =>
    by_cases hk : k = .free
    · subst hk; exact PySem.mem_of_lookup e
    · exfalso
      have := eK (env := env) e hk
      rw [this] at h
      rcases h with h | h
      · cases h; exact hk rfl
      · cases h; exact hc _ (PySem.mem_of_lookup e) rfl
def bu (X : Cx) (N : List Str) (scope : Scope) (cl : List (Str × Addr)) (C : Addr) (s : Shared) (H : Hp) (fp : List Addr) : Cx :=
  { X with N := N, s₀ := s, H₀ := H, env := compEnvC scope cl C X.env, outer := X.stack, stack := X.stack, ex := fp, fn := fun _ => false, pn := [], xe := fun _ _ => False }
def fw (sc : Scope) (N : List Str) (own : Nat) (G : List Str) (oN : List Str) (fr : List Nat) : Prop :=
  sc.kind = .function ∧ (∀ y ∈ sc.names, y.2 ≠ .cell) ∧ (∀ y ∈ sc.names, y.2 = .local → sc.names.lookup y.1 = some .local) ∧ N.Nodup ∧ (∀ x ∈ N.take own, sc.names.lookup x = some .local) ∧ (∀ x ∈ N.drop own, sc.names.lookup x = some .free) ∧
  (∀ x ∈ N, (x == ("__debug__" : Str)) = false ∧ (x == ("__classdict__" : Str)) = false) ∧ (∀ x ∈ G, sc.names.lookup x = some .globalImplicit ∧ (x == ("__debug__" : Str)) = false ∧ x ≠ ("__name__" : Str)) ∧
  own ≤ N.length ∧ (N.drop own).map some = fr.map fun i => oN[i]?
instance {sc : Scope} {N : List Str} {own : Nat} {G oN : List Str} {fr : List Nat} : Decidable (fw sc N own G oN fr) := by unfold fw; infer_instance
theorem xO {X : Cx} {nl : Nat} {G0 : List Str} (T : Tb X nl G0) {sc : Scope} {N : List Str} {own : Nat} {G oN : List Str} {fr : List Nat} (ck : fw sc N own G oN fr) (cl : List (Str × Addr)) (C : Addr) (s : Shared) (H : Hp) (fp : List Addr) :
    Tb (bu X N sc cl C s H fp) own G := by
  obtain ⟨_, _, _, nd, l, f, db, g, _, _⟩ := ck
  refine ⟨T.hu, T.calm, nd, fun x hx => ?_, fun x hx => ?_, fun x hx => ?_⟩
  · refine ⟨?_, db x hx⟩
    have hx' : x ∈ N.take own ++ N.drop own := by rw [List.take_append_drop]; exact hx
    rcases List.mem_append.mp hx' with z | z
    · exact .inl (eK (l x z) (by decide))
    · rcases kg (env := X.env) (f x z) with q | q
      · exact .inr (.inr q)
      · exact .inr (.inl q)
  · have q := eK (env := X.env) (l x hx) (by decide)
    exact ⟨.inl q, .inr q⟩
  · obtain ⟨g1, g2, g3⟩ := g x hx
    exact ⟨eK (env := X.env) g1 (by decide), g2, g3⟩
def CZ (X : Cx) (ifs : List Expr) (t : TT) : Prop :=
  ∀ (pins : List (Addr × Obj)) (s : Shared) (σ : St) (H : Hp) (Q : Bool → Hp → Prop), aU X pins σ H s → t σ H Q → wpAny (model X.prog X.w) X.A (forIn ifs true fun c r => if r = true then do let ok ← isTrue c X.env (eval c X.env); pure (ForInStep.yield ok) else pure (ForInStep.yield r))
    (TP X pins σ Q) X.xe s
def rM (X : Cx) (ifs : List Expr) (t : aX → R Bool) : Prop := CZ X ifs (yC X t)
structure Z.rM (X : Cx) (ifs : List Expr) (t : aX → R Bool) : Prop where
  un : D2.rM X ifs t
theorem eT {X : Cx} : rM X [] (fun _ => .ok true) := fun pins s σ H Q I ⟨ρ, sl, q⟩ => wpAny_tests_nil ⟨H, I, q H (aR.refl _)⟩
theorem Z.eT {X : Cx} : Z.rM X [] (fun _ => .ok true) :=
  ⟨D2.eT⟩
theorem eP {X : Cx} {c : Expr} {t : aX → R Bool} (h : gE X c t) : rM X [c] t := fun pins s σ H Q I q => wpAny_tests_one (h pins s σ H Q I q)
theorem Z.eP {X : Cx} {c : Expr} {t : aX → R Bool} (h : Z.gE X c t) : Z.rM X [c] t :=
  ⟨D2.eP h.un⟩
def bO (b : PyData → aX → Option aX) (t : aX → R Bool) (f : Fe) (ρ : aX) : List PyData → R (List PyData)
  | [] => .ok []
  | d :: ds => match b d ρ with
    | none => .no
    | some ρ1 => t ρ1 >>= fun k => if k = true then f ρ1 >>= fun x => bO b t f ρ ds >>= fun xs => .ok (x :: xs) else bO b t f ρ ds
def aL (own : Nat) (fr : List Nat) (ρ : aX) : aX := List.replicate own .non ++ fr.map fun i => ρ.getD i .non
def lh {α : Type} : R α → R α
  | .ex _ => .no
  | r => r
def cc (it : aX → R (List PyData)) (own : Nat) (fr : List Nat) (b : PyData → aX → Option aX) (t : aX → R Bool) (f : Fe) : Fe := fun ρ =>
  lh (it ρ) >>= fun ds => if ds.length ≤ sizeLine then match bO b t f (aL own fr ρ) ds with
    | .ok xs => .ok (.list xs)
    | _ => .no
  else .no
def gG (own : Nat) (fr : List Nat) (σ : St) : St := List.replicate own none ++ fr.map fun i => (σ[i]?).join
theorem ym {H : Hp} {σ : St} {ρ : aX} (h : Sl H σ ρ) (own : Nat) (fr : List Nat) (hin : ∀ i ∈ fr, i < ρ.length) : Sl H (gG own fr σ) (aL own fr ρ) := by
  refine ⟨by simp [gG, aL], fun i c o h1 h2 => ?_⟩
  unfold aL at h1
  unfold gG at h2
  by_cases hi : i < own
  · rw [List.getElem?_append_left (by simpa using hi), List.getElem?_replicate, if_pos hi] at h1
    cases h1; exact True.intro
  · rw [List.getElem?_append_right (by simpa using hi), List.getElem?_map, List.length_replicate] at h1 h2
    cases e : fr[i - own]? with
    | none => rw [e] at h1; cases h1
    | some j =>
      rw [e] at h1 h2
      have hj := hin j (List.mem_of_getElem? e)
      have hj' : j < σ.length := by rw [h.1]; exact hj
      cases h1; cases h2
      refine h.2 j _ _ ?_ ?_
      · show ρ[j]? = some (ρ.getD j .non)
        rw [List.getD_eq_getElem?_getD, List.getElem?_eq_getElem hj]; rfl
      · show σ[j]? = some ((σ[j]?).join)
        rw [List.getElem?_eq_getElem hj']; rfl
section
variable {X : Cx} {pins : List (Addr × Obj)} {σ : St} {H : Hp} {s : Shared} {nl : Nat} {G0 : List Str} {sc : Scope} {N : List Str} {own : Nat} {G : List Str} {fr : List Nat} {cl : List (Str × Addr)} {fp : List Addr} {a C : Addr} {h4 : Heap} {t4 : Nat} {m : Str → Option Value}
theorem wS (I : aU X pins σ H s) (ck : fw sc N own G X.N fr) (hf : ∀ b ∈ fp, lK X pins H b) (hob : ∀ b ∈ fp, b < s.heap.objs.size) (hcl1 : ∀ x c, cl.lookup x = some c → X.env.cells.lookup x = some c) (hcl2 : ∀ x ∈ sc.names, x.2 = .free → ∃ c, cl.lookup x.1 = some c)
    (vis : ∀ x ∈ X.N, Av X.env.scope x) (hout : ∀ y ∈ sc.names, y.2 = .free → X.env.kindOf y.1 = some .cell ∨ X.env.kindOf y.1 = some .free)
    (ha : s.heap.objs.size ≤ a) (hC : s.heap.objs.size ≤ C) (hac : a ≠ C) (keep : ∀ b o, s.heap.get? b = some o → h4.get? b = some o) (hl : h4.get? a = some { cls := .type "list", data := .seq #[] 0 }) (hn : h4.Ns C m) :
    aU (bu X N sc cl C s H fp) [] (gG own fr σ) (cx H a (.lst [])) { s with heap := h4, toks := t4 } := by
  obtain ⟨ck1, ck2, ck3, nd, l, f, db, g, ol, ofr⟩ := ck
  have hHa : H a = none := I.hok.fresh ha
  have hHC : H C = none := I.hok.fresh hC
  have lt : ∀ {b : Addr} {o : Obj}, s.heap.get? b = some o → b < s.heap.objs.size := fun e => Heap.lt_size e
  have cellLt : ∀ x c, cl.lookup x = some c → c < s.heap.objs.size := fun x c e => by
    obtain ⟨v, q⟩ := I.cell x c (hcl1 x c e)
    exact q.lt
  refine ⟨⟨I.ok.mod, ck1, I.ok.glob, I.ok.blt, hC, fun x y c h1 h2 => I.ok.inj x y c (hcl1 x c h1) (hcl1 y c h2), fun x hx => ?_, fun x c hx => (Bool.false_ne_true hx).elim, I.ok.hd, I.ok.frames, .inl rfl, fun b hb => ⟨?_, fun x c e => ?_⟩, I.bs, Nat.le_trans I.ok.bsz I.sz, fun b o e hb => ?_, fun b hb hs => ?_, I.stack, I.stkFree⟩,
    rfl, I.bare, Un.laid keep ha hHa, ⟨m, hn, fun i x v h1 h2 h3 => ?_⟩, fun x c e => ?_, ?_, fun x c e => ?_, fun p hp => ?_, ?_, ?_⟩
  · have q := qZ (env := X.env) ck2 (show (relabel sc X.env).names.lookup x = some .free ∨ (relabel sc X.env).names.lookup x = some .cell from hx.elim .inr .inl)
    exact hcl2 _ q rfl
  · exact Nat.ne_of_lt (Nat.lt_of_lt_of_le (hob b hb) hC)
  · exact (hf b hb).2.2.2.2.1 x c (hcl1 x c e)
  · rcases (hf b hb).2.2.2.1 with z | z
    · exact I.ok.noex b o e z
    · exact absurd (Nat.lt_of_lt_of_le (Heap.lt_size e) I.ok.bsz) (Nat.not_lt.mpr z)
  · rcases List.mem_cons.mp (I.stkSub b hs) with z | z
    · exact (hf b hb).2.1 z
    · exact (hf b hb).2.2.1 z
  · -- a captured name
    have hi : ¬ i < own := fun hi => by
      unfold gG at h2
      rw [List.getElem?_append_left (by simpa using hi), List.getElem?_replicate, if_pos hi] at h2
      cases h2
    unfold gG at h2
    rw [List.getElem?_append_right (by simpa using hi), List.getElem?_map, List.length_replicate] at h2
    cases e : fr[i - own]? with
    | none => rw [e] at h2; cases h2
    | some j =>
      rw [e] at h2
      have h2' : (σ[j]?).join = some v := Option.some.inj h2
      have hσ : σ[j]? = some (some v) := by
        cases q : σ[j]? with
        | none => rw [q] at h2'; cases h2'
        | some o => rw [q] at h2'; exact congrArg some h2'
      have hx : (N.drop own)[i - own]? = some x := by
        rw [List.getElem?_drop]
        have : own + (i - own) = i := by omega
        rw [this]; exact h1
      have hj : X.N[j]? = some x := by
        have q := congrArg (fun l => l[i - own]?) ofr
        simp only [List.getElem?_map, hx, e, Option.map_some] at q
        exact (Option.some.inj q).symm
      have hfree := f x (List.mem_of_getElem? hx)
      obtain ⟨c, hc⟩ := hcl2 _ (PySem.mem_of_lookup hfree) rfl
      have hXc := hcl1 x c hc
      obtain ⟨m0, hn0, hl0⟩ := I.loc
      obtain ⟨u, ru, lk⟩ := hl0 j x v hj hσ (vis x (List.mem_of_getElem? hj))
      have ko := hout _ (PySem.mem_of_lookup hfree) rfl
      refine ⟨u, ru, .inr ⟨(kg (env := X.env) hfree).symm, c, hc, ?_⟩⟩
      rcases lk with ⟨k1, _⟩ | ⟨_, c', e1, ob, q1, q2⟩
      · exfalso
        rcases ko with k | k <;> (rw [k] at k1; cases k1)
      · rw [hXc] at e1
        cases e1
        exact ⟨ob, keep _ _ q1, q2⟩
  · obtain ⟨v, o, q, d⟩ := I.cell x c (hcl1 x c e)
    exact ⟨v, o, keep _ _ q, d⟩
  · show cx H a (.lst []) C = none
    rw [az (Ne.symm hac)]; exact hHC
  · have q := I.freeC x c (hcl1 x c e)
    show cx H a (.lst []) c = none
    rw [az (Nat.ne_of_lt (Nat.lt_of_lt_of_le (cellLt x c e) ha))]; exact q
  · exact absurd (show p ∈ ([] : List (Addr × Obj)) from hp) (by simp)
  · exact I.hok.laid keep ha ⟨Nat.zero_le _, [], 0, .nil, hl⟩
  · show (gG own fr σ).length = N.length
    have q := congrArg List.length ofr
    rw [List.length_map, List.length_map, List.length_drop] at q
    unfold gG
    rw [List.length_append, List.length_replicate, List.length_map]
    omega
end
def lC (ρ0 ρ1 : aX) : Prop := ρ1.length = ρ0.length ∧ ∀ (i : Nat) (c : bo), ρ0[i]? = some c → c = .non ∨ ρ1[i]? = some c
theorem Sl.unfit {H : Hp} {σ : St} {ρ0 ρ1 : aX} (h : Sl H σ ρ1) (f : lC ρ0 ρ1) : Sl H σ ρ0 := by
  refine ⟨h.1.trans f.1, fun i c o h1 h2 => ?_⟩
  rcases f.2 i c h1 with rfl | q
  · exact True.intro
  · exact h.2 i c o q h2
def vO (H0 : Hp) (σ : St) (ρ : aX) : Prop := ∀ (i : Nat) (e : PyData), ρ[i]? = some (.own e) → ∃ v, σ[i]? = some (some v) ∧ iC H0 e v
theorem uG {X : Cx} {J : It} {tn : Nat → Heap → Prop} {it a : Addr} {fp : List Addr} {tg iter elt : Expr} {ifs : List Expr} {scope : Scope} {pos : Pos} {b : PyData → aX → Option aX} {t : aX → R Bool} {f : Fe} {ds xs : List PyData} {Gd : Hp → Prop} {H0 : Hp} {ρ0 : aX}
    {Rk : Result → Shared → Prop} (T : rO X.prog X.w X.K tg J fp it tn) (calm : X.calm = true) (hfp : ∀ H : Hp, (∀ b ∈ fp, H b = none) → ∀ b ∈ fp, lK X [] H b) (hxe : X.xe = fun _ _ => False) (hg : qP X tg b) (ht : rM X ifs t) (hf : ak X elt f)
    (idt : yj J Gd ds) (sta : B7 H0 (fun _ => False) Gd) (hsz : ds.length ≤ sizeLine) (ha0 : H0 a = none) (hb0 : ∀ d ρ1, b d ρ0 = some ρ1 → lC ρ0 ρ1)
    (fin : ∀ s' σ' H' vs, aU X [] σ' H' s' → aR H0 H' → H' a = some (.lst vs) → bF H' xs vs → Rk (.ok .next) s') :
    ∀ {s : Shared} {σ : St} {H : Hp} {rest : List PyData}, aU X [] σ H s → tn 0 s.heap → (∀ b ∈ fp, H b = none) → aR H0 H → H a = some (.lst []) → bO b t f ρ0 ds = .ok xs → Sl H σ ρ0 → vO H0 σ ρ0 →
      codeAny (model X.prog X.w) X.A (.compLoop (.ListComp elt [⟨tg, iter, ifs, 0⟩] scope pos) 0 (.ref it) (.ref a) X.env) Rk s := by
  intro s σ H rest I st fr s0 hla hc sl ow
  refine codeAny_loop rfl (fun n s => ∃ i acc rest σ H vs, n = ds.length - i ∧ i ≤ ds.length ∧ acc.length ≤ i ∧ aU X [] σ H s ∧ tn i s.heap ∧ (∀ b ∈ fp, H b = none) ∧ aR H0 H ∧ H a = some (.lst vs) ∧ bF H acc vs ∧ bO b t f ρ0 (ds.drop i) = .ok rest ∧
    acc ++ rest = xs ∧ Sl H σ ρ0 ∧ vO H0 σ ρ0) (fun n s hI => ?_) ds.length ⟨0, [], xs, σ, H, [], by simp, Nat.zero_le _, Nat.le_refl _, I, st, fr, s0, hla, bF.nil, by simpa using hc, by simp, sl, ow⟩
  clear I st fr s0 hla hc sl ow
  obtain ⟨i, acc, rest, σ, H, vs, rfl, hi, hal, I, st, fr, s0, hla, ra, hc, hxs, sl, ow⟩ := hI
  show wpAny _ X.A ((compTurn (.ListComp elt [⟨tg, iter, ifs, 0⟩] scope pos) 0 (.ref it) (.ref a) X.env).onRaise (fun x => do noteFrame x X.env; theTreesLotGoes x)) _ _ s
  refine wpAny_noted ?_
  rw [compTurn_list]
  have gd : Gd H := sta H (Kp.of s0) fun _ _ z => z.elim
  have noex : ∀ {α : Type} {m : Sem α} {Q Q' : α → Shared → Prop} {E : Value → Shared → Prop} {s : Shared}, wpAny (model X.prog X.w) X.A m Q X.xe s → (∀ v s, Q v s → Q' v s) → wpAny (model X.prog X.w) X.A m Q' E s := fun h k => by
    rw [hxe] at h
    exact wpAny_mono h k fun _ _ z => z.elim
  by_cases hlt : i < ds.length
  · obtain ⟨d, hd⟩ : ∃ d, ds[i]? = some d := ⟨ds[i], List.getElem?_eq_getElem hlt⟩
    have hdrop : ds.drop i = d :: ds.drop (i + 1) := by
      rw [List.drop_eq_getElem_cons hlt]
      congr 1
      exact Option.some.inj ((List.getElem?_eq_getElem hlt).symm.trans hd)
    rw [hdrop] at hc
    unfold bO at hc
    refine wpAny_bind (wpAny_standAt (wpAny_bind (da (T.item X rfl rfl rfl calm i [] s σ H _ I (hfp H fr) st (idt.go i H gd hlt)) fun r s1 ⟨u, hr, h1⟩ => ?_)))
    subst hr
    refine wpAny_bind (da h1 fun _ s2 ⟨x, H2, I2, r2, y2, st2, fr2⟩ => ?_)
    obtain ⟨s02, p2⟩ := idt.yld i H x H2 d gd hd y2
    have I2' := I2.pinned (hfp H2 fr2) (T.obj _ _ st2)
    have back : ∀ {σ' : St} {H' : Hp} {s' : Shared}, aU X ([] ++ mV fp s2.heap) σ' H' s' → aU X [] σ' H' s' ∧ tn (i + 1) s'.heap ∧ ∀ b ∈ fp, H' b = none := fun {σ' H' s'} J' =>
      ⟨J'.unpinned, T.keep _ _ _ st2 fun b hb o e => (J'.pin (b, o) (List.mem_append_right _ (List.mem_append_right _ (ik hb e)))).1, fun b hb => by
        obtain ⟨o, e, _⟩ := T.obj _ _ st2 b hb
        exact (J'.pin (b, o) (List.mem_append_right _ (List.mem_append_right _ (ik hb e)))).2.1⟩
    cases eb : b d ρ0 with
    | none => rw [eb] at hc; cases hc
    | some ρ1 =>
      rw [eb] at hc
      dsimp only at hc
      have hfit := hb0 d ρ1 eb
      refine wpAny_bind (noex (hg _ s2 σ H2 x u (fun σ' H' => H' = H2 ∧ Sl H2 σ' ρ1 ∧ ∀ (i : Nat) (e : PyData), ρ1[i]? = some (.own e) → ρ0[i]? = some (.own e) ∧ σ'[i]? = σ[i]?) I2' r2 ⟨ρ0, d, sl.mono s02, p2, by rw [eb]; exact fun σ' sl' w' => ⟨rfl, sl', w'⟩⟩) fun _ s3 ⟨σ3, H3, I3, e3, sl3, w3⟩ => ?_)
      subst e3
      have ow3 : vO H0 σ3 ρ0 := fun j e h => by
        obtain ⟨v, z1, z2⟩ := ow j e h
        rcases hfit.2 j _ h with z | z
        · cases z
        · exact ⟨v, by rw [(w3 j e z).2]; exact z1, z2⟩
      cases et : t ρ1 with
      | ex c => rw [et] at hc; cases hc
      | no => rw [et] at hc; cases hc
      | ok k =>
        rw [et] at hc
        refine wpAny_bind (noex (ht _ s3 σ3 H3 (fun b' H' => b' = k ∧ aR H3 H') I3 ⟨ρ1, sl3, by rw [et]; exact fun H' s' => ⟨rfl, s'⟩⟩) fun ok s4 ⟨H4, I4, e4, s34⟩ => ?_)
        subst e4
        have s04 := (s0.trans s02).trans s34
        have hla4 : H4 a = some (.lst vs) := s34 _ _ (s02 _ _ hla)
        have ra4 : bF H4 acc vs := (ra.mono s02).mono s34
        cases ok with
        | false =>
          obtain ⟨J1, J2, J3⟩ := back I4
          have hc' : bO b t f ρ0 (ds.drop (i + 1)) = .ok rest := hc
          exact wpAny_pure ⟨rfl, ds.length - (i + 1), by omega, i + 1, acc, rest, σ3, H4, vs, rfl, hlt, by omega, J1, J2, J3, s04, hla4, ra4, hc', hxs, (sl3.unfit hfit).mono s34, ow3⟩
        | true =>
          have hc' : (f ρ1 >>= fun x => bO b t f ρ0 (ds.drop (i + 1)) >>= fun xs => .ok (x :: xs)) = .ok rest := hc
          cases ef : f ρ1 with
          | ex c => rw [ef] at hc'; cases hc'
          | no => rw [ef] at hc'; cases hc'
          | ok y =>
            rw [ef] at hc'
            cases er : bO b t f ρ0 (ds.drop (i + 1)) with
            | ex c => rw [R.ok_bind, er] at hc'; cases hc'
            | no => rw [R.ok_bind, er] at hc'; cases hc'
            | ok rest' =>
              rw [R.ok_bind, er] at hc'
              have hr : y :: rest' = rest := by cases hc'; rfl
              refine wpAny_bind (wpAny_bind (noex (hf _ s4 σ3 H4 (fun v H' => aR H4 H' ∧ Rp H' y v) I4 ⟨ρ1, sl3.mono s34, by rw [ef]; exact fun v H' s' p' => ⟨s', p'⟩⟩) fun yv s5 ⟨v5, H5, I5, r5, s45, p5⟩ => ?_))
              have hla5 : H5 a = some (.lst vs) := s45 _ _ hla4
              have hlen : vs.length < sizeLine := by
                rw [ra.length]; omega
              refine wpAny_bind (noex (og _ s5 σ3 H5 (.ref a) [v5] (.ref a) [yv] (fun _ H' => H' = cx H5 a (.lst (vs ++ [v5]))) I5 rfl (.cons r5 .nil) ⟨a, vs, v5, rfl, rfl, hla5, hlen, rfl⟩) fun _ s6 ⟨v6, H6, I6, r6, e6⟩ => ?_)
              subst e6
              obtain ⟨J1, J2, J3⟩ := back I6
              have kp : Kp H5 (cx H5 a (.lst (vs ++ [v5]))) := gc hla5 (.inl ⟨_, rfl⟩)
              have s06 : aR H0 (cx H5 a (.lst (vs ++ [v5]))) := fun b o e => by
                rw [az (bd e ha0)]; exact (s04.trans s45) b o e
              refine wpAny_pure (wpAny_pure ⟨rfl, ds.length - (i + 1), by omega, i + 1, acc ++ [y], rest', σ3, _, vs ++ [v5], rfl, hlt, by rw [List.length_append, List.length_singleton]; omega, J1, J2, J3, s06, bi, ?_, er, by rw [List.append_assoc, List.singleton_append, hr]; exact hxs, ?_, ow3⟩)
              · exact bF.append (bF.kp kp _ _ (ra4.mono s45)) (bF.cons (Rp.kp kp _ _ p5) bF.nil)
              · have sl5 : Sl H5 σ3 ρ0 := ((sl3.unfit hfit).mono s34).mono s45
                refine ⟨sl5.1, fun j c o h1 h2 => ?_⟩
                cases c with
                | exc p => exact sl5.2 j _ o h1 h2
                | non => exact True.intro
                | val d' =>
                  obtain ⟨v', z1, z2⟩ := sl5.2 j _ o h1 h2
                  exact ⟨v', z1, Rp.kp kp _ _ z2⟩
                | own e' =>
                  obtain ⟨v', z1, z2⟩ := ow3 j e' h1
                  rw [z1] at h2
                  cases h2
                  exact ⟨v', rfl, z2.mono s06⟩
  · have e : i = ds.length := by omega
    subst e
    rw [List.drop_length] at hc
    have hr : rest = [] := by cases hc; rfl
    subst hr
    rw [List.append_nil] at hxs
    subst hxs
    refine wpAny_bind (wpAny_standAt (wpAny_bind (da (T.done X rfl rfl rfl calm _ [] s σ H _ I (hfp H fr) st (idt.stop _ H gd (Nat.le_refl _))) fun r s1 ⟨hr, I1⟩ => ?_)))
    subst hr
    exact wpAny_pure (fin s1 σ H vs I1 s0 hla ra)
theorem qA {X : Cx} {tg iter elt : Expr} {ifs : List Expr} {sc : Scope} {pos pos' : Pos} {it : aX → R (List PyData)} {b : PyData → aX → Option aX} {t : aX → R Bool} {f : Fe} {N : List Str} {own : Nat} {G G0 : List Str} {fr : List Nat} {nl : Nat}
    (T : Tb X nl G0) (ck : fw sc N own G X.N fr) (hout : ∀ y ∈ sc.names, y.2 = .free → X.env.kindOf y.1 = some .cell ∨ X.env.kindOf y.1 = some .free) (hi : oI X tg iter it)
    (hb0 : ∀ ρ d ρ1, b d (aL own fr ρ) = some ρ1 → lC (aL own fr ρ) ρ1)
    (hbody : ∀ cl C s H fp, Tb (bu X N sc cl C s H fp) own G → qP (bu X N sc cl C s H fp) tg b ∧ rM (bu X N sc cl C s H fp) ifs t ∧ ak (bu X N sc cl C s H fp) elt f)
    (hs : ∀ x, foldedSetIterable iter X.env x = pure x) {use : Option (Value → Sem Unit)} {Qc : Value → Shared → Prop} {pins : List (Addr × Obj)} {s : Shared} {σ : St} {H : Hp} (I : aU X pins σ H s) {ρ : aX} {ds xs : List PyData} (sl : Sl H σ ρ) (ei : it ρ = .ok ds)
    (hsz : ds.length ≤ sizeLine) (ec : bO b t f (aL own fr ρ) ds = .ok xs)
    (fin : ∀ (a C : Addr) (H' : Hp) (s' : Shared) (m : Str → Option Value) (vs : List V), aU X pins σ H' s' → lK X pins H' C → s'.heap.Ns C m → aR H H' → H a = none → H' a = some (.lst vs) → bF H' xs vs → compPost (model X.prog X.w) X.A X.xe use Qc (.ref a) C (.ok .next) s') :
    wpAny (model X.prog X.w) X.A (comprehension (.ListComp elt [⟨tg, iter, ifs, 0⟩] sc pos) sc X.env pos' (newList []) false (eval iter X.env) use) Qc X.xe s := by
  obtain ⟨cl, hcl, hcl1, hcl2⟩ := sE (scope := sc) (env := X.env) fun x hx hf => I.ok.has _ (hout x hx hf)
  have ck' := ck
  obtain ⟨ck1, ck2, ck3, _, _, _, _, _, _, ofr⟩ := ck'
  have hin : ∀ i ∈ fr, i < ρ.length := fun i hi => by
    have e1 : ρ.length = X.N.length := by rw [← sl.1]; exact I.len
    rw [e1]
    obtain ⟨k, hk⟩ := List.getElem?_of_mem hi
    have q := congrArg (fun l => l[k]?) ofr
    simp only [List.getElem?_map, hk, Option.map_some] at q
    cases z : (N.drop own)[k]? with
    | none => rw [z] at q; cases q
    | some y =>
      rw [z] at q
      have q' : some y = X.N[i]? := Option.some.inj q
      exact (List.getElem?_eq_some_iff.mp q'.symm).1
  refine wpAny_comprehension_free (use := use) rfl hs hcl ck1 ck3 ?_
  refine da (hi pins s σ H (fun J H1 => aR H H1 ∧ ∃ Gd, yj J Gd ds ∧ B7 H1 (fun _ => False) Gd) I ⟨ρ, sl, by rw [ei]; exact fun J H1 s1 z => ⟨s1, z⟩⟩) fun xv s1 h1 => da h1 fun itv s2 h2 => ?_
  obtain ⟨itA, fp, tn, J, H2, e, I2, T2, st2, f2, s02, Gd, idt, sta⟩ := h2
  subst e
  refine wpAny_newObj_type (wpAny_newFunctionEnv ck2 (by intro y hy; simp at hy) (fun h₁ hns₁ hsb₁ => ?_) ck1)
  dsimp only at hns₁ hsb₁ ⊢
  generalize hHp : s2.heap.push { cls := .type "list", dict := none, data := .seq ([] : List Value).toArray } = Hp2 at hns₁ hsb₁ ⊢
  have hC : Hp2.objs.size = s2.heap.objs.size + 1 := by rw [← hHp, Heap.size_push]
  have hDC : s2.heap.objs.size ≠ Hp2.objs.size := by rw [hC]; exact Nat.ne_of_lt (Nat.lt_succ_self _)
  have hCle : s2.heap.objs.size ≤ Hp2.objs.size := by rw [hC]; exact Nat.le_succ _
  have below : ∀ b, b < s2.heap.objs.size → b ≠ Hp2.objs.size := fun b hb => by rw [hC]; exact Nat.ne_of_lt (Nat.lt_succ_of_lt hb)
  have old : ∀ b o, s2.heap.get? b = some o → h₁.get? b = some o := fun b o e => hsb₁.extBut b o (below b (Heap.lt_size e)) (Heap.get?_push_of_some _ (hHp ▸ Heap.get?_push_of_some _ e))
  have hacc : h₁.get? s2.heap.objs.size = some { cls := .type "list", dict := none, data := .seq ([] : List Value).toArray } := hsb₁.extBut _ _ hDC (Heap.get?_push_of_some _ (hHp ▸ Heap.get?_push_size _ rfl))
  have hob : ∀ b ∈ fp, b < s2.heap.objs.size := fun b hb => by
    obtain ⟨o, e, _⟩ := T2.obj _ _ st2 b hb
    exact Heap.lt_size e
  have sl2 : Sl H2 σ ρ := sl.mono s02
  have IC : aU (bu X N sc cl Hp2.objs.size s2 H2 fp) [] (gG own fr σ) (cx H2 s2.heap.objs.size (.lst [])) { s2 with heap := h₁, toks := s2.toks + ([] : List (Str × Value)).length } :=
    wS I2 ck f2 hob hcl1 hcl2 (fun x hx => (T.vis x hx).1) hout (Nat.le_refl _) hCle hDC old hacc hns₁
  obtain ⟨hg, ht, hf⟩ := hbody cl Hp2.objs.size s2 H2 fp (xO T ck cl Hp2.objs.size s2 H2 fp)
  have ha0 : H2 s2.heap.objs.size = none := I2.hok.fresh (Nat.le_refl _)
  have hfp : ∀ H' : Hp, (∀ b ∈ fp, H' b = none) → ∀ b ∈ fp, lK (bu X N sc cl Hp2.objs.size s2 H2 fp) [] H' b := fun H' hn b hb =>
    ⟨hn b hb, below b (hob b hb), fun z => by
      rcases List.mem_cons.mp (I2.stkSub b z) with y | y
      · exact (f2 b hb).2.1 y
      · exact (f2 b hb).2.2.1 y, .inl hb, fun x c e => (f2 b hb).2.2.2.2.1 x c (hcl1 x c e), fun p hp => absurd (show p ∈ ([] : List (Addr × Obj)) from hp) (by simp)⟩
  have st3 : tn 0 h₁ := T2.keep _ _ _ st2 fun b _ o e => old b o e
  have slC : Sl H2 (gG own fr σ) (aL own fr ρ) := ym sl2 own fr hin
  have fin' : ∀ s' σ' H' vs, aU (bu X N sc cl Hp2.objs.size s2 H2 fp) [] σ' H' s' → aR H2 H' → H' s2.heap.objs.size = some (.lst vs) → bF H' xs vs →
      compPost (model X.prog X.w) X.A X.xe use Qc (.ref s2.heap.objs.size) Hp2.objs.size (.ok .next) s' := fun s' σ' H' vs J' s2' hv rv => by
    obtain ⟨m, hn, _⟩ := J'.loc
    exact fin _ _ H' s' m vs (I2.call' (s' := s') (ch := fp) J'.os J'.base J'.hok J'.bare (fun b hb => ⟨(f2 b hb).2.2.2.1, (f2 b hb).2.1, (f2 b hb).2.2.2.2.1, (f2 b hb).2.2.2.2.2⟩)) (I2.fpOk hCle J'.free) hn (s02.trans s2') (s02.free ha0) hv rv
  have loop := uG (X := bu X N sc cl Hp2.objs.size s2 H2 fp) (iter := iter) (scope := sc) (pos := pos) (rest := []) T2 T.calm hfp rfl hg ht hf idt sta hsz ha0 (fun d ρ1 e => hb0 ρ d ρ1 e) fin' IC st3 (fun b hb => by
      show cx H2 s2.heap.objs.size (.lst []) b = none
      rw [az (Nat.ne_of_lt (hob b hb))]; exact (f2 b hb).1) (cB ha0 _) bi ec (slC.mono (cB ha0 _)) (fun i e h => by
      obtain ⟨o, z1, v, rfl, z2⟩ := slC.at h
      exact ⟨v, z1, z2⟩)
  exact codeAny_compStart_list loop (T2.self _ 0 _ _ _ st3 loop)
theorem nG {X : Cx} {tg iter elt : Expr} {ifs : List Expr} {sc : Scope} {pos : Pos} {it : aX → R (List PyData)} {b : PyData → aX → Option aX} {t : aX → R Bool} {f : Fe} {N : List Str} {own : Nat} {G G0 : List Str} {fr : List Nat} {nl : Nat}
    (T : Tb X nl G0) (ck : fw sc N own G X.N fr) (hout : ∀ y ∈ sc.names, y.2 = .free → X.env.kindOf y.1 = some .cell ∨ X.env.kindOf y.1 = some .free) (hi : oI X tg iter it)
    (hb0 : ∀ ρ d ρ1, b d (aL own fr ρ) = some ρ1 → lC (aL own fr ρ) ρ1)
    (hbody : ∀ cl C s H fp, Tb (bu X N sc cl C s H fp) own G → qP (bu X N sc cl C s H fp) tg b ∧ rM (bu X N sc cl C s H fp) ifs t ∧ ak (bu X N sc cl C s H fp) elt f)
    (hs : ∀ x, foldedSetIterable iter X.env x = pure x := by intro _; rfl) : gf X (.ListComp elt [⟨tg, iter, ifs, 0⟩] sc pos) (cc it own fr b t f) := by
  intro pins s σ H Q I h
  obtain ⟨ρ, sl, q⟩ := h
  unfold cc at q
  rw [eval_ListComp]
  cases ei : it ρ with
  | ex c => rw [ei] at q; exact q.elim
  | no => rw [ei] at q; exact q.elim
  | ok ds =>
    rw [ei] at q
    simp only [lh, R.ok_bind] at q
    split at q
    · rename_i hsz
      cases ec : bO b t f (aL own fr ρ) ds with
      | ex c => rw [ec] at q; exact q.elim
      | no => rw [ec] at q; exact q.elim
      | ok xs =>
        rw [ec] at q
        refine qA (use := none) T ck hout hi hb0 hbody hs I sl ei hsz ec fun a C H' s' m vs I' fC hn s2' ha hv rv => ?_
        obtain ⟨f0, f1, f2, f3, f4, f5⟩ := fC
        refine ⟨m, hn, fun h' sb => ⟨.ref a, H', I'.turned (t' := s'.toks) (fun b o hb e => sb.extBut b o hb e) f0 f1 f3 f4 f5, rfl, ?_⟩⟩
        refine q _ H' s2' ⟨?_, _, rfl, ha⟩
        simp only [iC]
        exact ⟨_, vs, rfl, hv, rv⟩
    · exact q.elim
theorem Z.nG {X : Cx} {tg iter elt : Expr} {ifs : List Expr} {sc : Scope} {pos : Pos} {it : aX → R (List PyData)} {b : PyData → aX → Option aX} {t : aX → R Bool} {f : Fe} {N : List Str} {own : Nat} {G G0 : List Str} {fr : List Nat} {nl : Nat} (T : Tb X nl G0) (ck : fw sc N own G X.N fr) (hout : ∀ y ∈ sc.names, y.2 = .free → X.env.kindOf y.1 = some .cell ∨ X.env.kindOf y.1 = some .free) (hi : Z.oI X tg iter it) (hb0 : ∀ ρ d ρ1, b d (aL own fr ρ) = some ρ1 → lC (aL own fr ρ) ρ1) (hbody : ∀ cl C s H fp, Tb (bu X N sc cl C s H fp) own G → Z.qP (bu X N sc cl C s H fp) tg b ∧ Z.rM (bu X N sc cl C s H fp) ifs t ∧ Z.ak (bu X N sc cl C s H fp) elt f) (hs : ∀ x, foldedSetIterable iter X.env x = pure x := by intro _; rfl) : Z.gf X (.ListComp elt [⟨tg, iter, ifs, 0⟩] sc pos) (cc it own fr b t f) :=
  ⟨D2.nG T ck hout hi.un hb0 (fun cl C s H fp T => let ⟨q1, q2, q3⟩ := hbody cl C s H fp T; ⟨q1.un, q2.un, q3.un⟩) hs⟩
theorem yb {X : Cx} {tg iter elt : Expr} {ifs : List Expr} {sc : Scope} {pos py spos : Pos} {it : aX → R (List PyData)} {b : PyData → aX → Option aX} {t : aX → R Bool} {f : Fe} {N : List Str} {own : Nat} {G G0 : List Str} {fr : List Nat} {nl : Nat} {y : Str} {i : Nat}
    (T : Tb X nl G0) (ck : fw sc N own G X.N fr) (hout : ∀ y ∈ sc.names, y.2 = .free → X.env.kindOf y.1 = some .cell ∨ X.env.kindOf y.1 = some .free) (hi : oI X tg iter it)
    (hb0 : ∀ ρ d ρ1, b d (aL own fr ρ) = some ρ1 → lC (aL own fr ρ) ρ1)
    (hbody : ∀ cl C s H fp, Tb (bu X N sc cl C s H fp) own G → qP (bu X N sc cl C s H fp) tg b ∧ rM (bu X N sc cl C s H fp) ifs t ∧ ak (bu X N sc cl C s H fp) elt f)
    (hN : (X.N.take nl)[i]? = some y) (hsw : swapsWith (.ListComp elt [⟨tg, iter, ifs, 0⟩] sc pos) (some (.Name y py)) spos.line X.env = pure true)
    (hs : ∀ x, foldedSetIterable iter X.env x = pure x := by intro _; rfl) : eY X (.Assign [.Name y py] (.ListComp elt [⟨tg, iter, ifs, 0⟩] sc pos) spos) (gz i (cc it own fr b t f)) := fun Fm => by
  intro pins s σ H D I h
  obtain ⟨ρ, sl, q⟩ := h
  unfold gz cc at q
  obtain ⟨hNi, hl, hf⟩ := T.nm hN
  cases ei : it ρ with
  | ex c => rw [ei] at q; exact q.elim
  | no => rw [ei] at q; exact q.elim
  | ok ds =>
    rw [ei] at q
    simp only [lh, R.ok_bind] at q
    by_cases hsz : ds.length ≤ sizeLine
    · rw [if_pos hsz] at q
      cases ec : bO b t f (aL own fr ρ) ds with
      | ex c => rw [ec] at q; exact q.elim
      | no => rw [ec] at q; exact q.elim
      | ok xs =>
        rw [ec] at q
        rw [exec_Assign_Name_used _ _ _ _ hsw]
        refine wpAny_bind (wpAny_standAt (wpAny_bind ?_))
        show wpAny _ X.A (do let _ ← comprehension (.ListComp elt [⟨tg, iter, ifs, 0⟩] sc pos) sc X.env _ (newList []) false (eval iter X.env) (some (assign (.Name y py) X.env))) _ _ s
        refine wpAny_bind (da (qA (use := some (assign (.Name y py) X.env)) (Qc := fun _ s' => SP X pins D .next s') T ck hout hi hb0 hbody hs I sl.sl ei hsz ec fun a C H' s' m vs I' fC hn s2' ha hv rv => ?_) fun _ s' hq => wpAny_pure (wpAny_pure hq))
        obtain ⟨f0, f1, f2, f3, f4, f5⟩ := fC
        show wpAny _ X.A (assign (.Name y py) X.env (.ref a)) _ _ _
        refine wpAny_assign_Name (n5 I' T.nd hNi hl (v := .ref a) rfl (fun s'' I'' k => ?_) hf)
        have sls : g9 Fm H' (σ.set i (some (.ref a))) (ρ.set i (.own (.list xs))) := g9.setOwn sl (sl.mono s2') s2' i ⟨by simp only [iC]; exact ⟨a, vs, rfl, hv, rv⟩, a, rfl, ha⟩
        refine ⟨m, ?_, fun h' sb => ⟨_, H', I''.turned (t' := s''.toks) (fun b o hb e => sb.extBut b o hb e) f0 f1 f3 f4 f5, q _ H' sls⟩⟩
        obtain ⟨a', sb', ha'⟩ := k
        refine hn.sameBut sb' ?_
        rcases ha' with rfl | ha'
        · exact f1
        · exact Ne.symm (f4 y a' ha')
    · rw [if_neg hsz] at q; exact q.elim
theorem g9.freeze {Fm H : Hp} {σ : St} {ρ : aX} {i : Nat} {d : PyData} {a : Addr} {u : HO} {o : Obj} (h : g9 Fm H σ ρ) (h1 : ρ[i]? = some (.own d)) (h2 : σ[i]? = some (some (.ref a))) (hu : H a = some u) (hm : (∃ xs, u = .lst xs) ∨ ∃ ks, u = .dK ks)
    (hr : Rp (cx H a (.frz o u)) d (.ref a)) : g9 Fm (cx H a (.frz o u)) σ (ρ.set i (.val d)) := by
  have hFa := h.own i d a h1 h2
  have kp : Kp H (cx H a (.frz o u)) := gc hu hm
  refine ⟨fun b x e => ?_, ⟨by rw [List.length_set]; exact h.sl.1, fun j c w' e1 e2 => ?_⟩, fun j e b e1 e2 => ?_, fun j k e f b e1 e2 e3 e4 => ?_⟩
  · rw [az (bd e hFa)]; exact h.fm b x e
  · rw [List.getElem?_set] at e1
    by_cases hij : i = j
    · subst hij
      rw [if_pos rfl] at e1
      split at e1
      · cases e1
        rw [h2] at e2
        cases e2
        exact ⟨_, rfl, hr⟩
      · cases e1
    · rw [if_neg hij] at e1
      have q := h.sl.2 j c w' e1 e2
      cases c with
      | exc p => exact q
      | non => exact True.intro
      | val d' => obtain ⟨v, z1, z2⟩ := q; exact ⟨v, z1, Rp.kp kp _ _ z2⟩
      | own d' =>
        obtain ⟨v, z1, z2⟩ := q
        subst z1
        obtain ⟨b, ob, rfl, hb⟩ := o9 z2
        have nb : b ≠ a := fun z => hij (by subst z; exact h.apart i j d d' b h1 e1 h2 e2)
        refine ⟨_, rfl, ?_⟩
        cases d' <;> simp only [iC] at z2 ⊢
        · obtain ⟨b', vs, e, hb', r⟩ := z2
          cases e
          exact ⟨b, vs, rfl, by rw [az nb]; exact hb', bF.kp kp _ _ r⟩
        · obtain ⟨b', vs, e, hb', r⟩ := z2
          cases e
          exact ⟨b, vs, rfl, by rw [az nb]; exact hb', dL.kp kp _ _ r⟩
  · obtain ⟨ne, e1⟩ := cK (fun e z => by cases z) e1
    exact h.own j e b e1 e2
  · obtain ⟨ne, e1⟩ := cK (fun e z => by cases z) e1
    obtain ⟨ne', e2⟩ := cK (fun e z => by cases z) e2
    exact h.apart j k e f b e1 e2 e3 e4
theorem yO {X : Cx} {pins : List (Addr × Obj)} {s : Shared} {Fm H : Hp} {σ : St} {ρ : aX} {i : Nat} {d : PyData} (I : aU X pins σ H s) (h : g9 Fm H σ ρ) (h1 : ρ[i]? = some (.own d)) :
    ∃ H' v, aU X pins σ H' s ∧ g9 Fm H' σ (ρ.set i (.val d)) ∧ σ[i]? = some (some v) ∧ Rp H' d v := by
  obtain ⟨w', h2, v, rfl, q⟩ := h.sl.at h1
  cases d <;> simp only [iC] at q
  · rename_i ds
    obtain ⟨a, vs, rfl, ha, r⟩ := q
    obtain ⟨o, J⟩ := ge I ha (.inl ⟨_, rfl⟩)
    have hr : Rp (cx H a (.frz o (.lst vs))) (.list ds) (.ref a) := by
      simp only [Rp]
      exact ⟨a, o, vs, rfl, bi, bF.kp (gc ha (.inl ⟨_, rfl⟩)) _ _ r⟩
    exact ⟨_, _, J, h.freeze h1 h2 ha (.inl ⟨_, rfl⟩) hr, h2, hr⟩
  · rename_i ds
    obtain ⟨a, vs, rfl, ha, r⟩ := q
    obtain ⟨o, J⟩ := ge I ha (.inr ⟨_, rfl⟩)
    have hr : Rp (cx H a (.frz o (.dK vs))) (.dict ds) (.ref a) := by
      simp only [Rp]
      exact .inl ⟨a, o, vs, rfl, bi, dL.kp (gc ha (.inr ⟨_, rfl⟩)) _ _ r⟩
    exact ⟨_, _, J, h.freeze h1 h2 ha (.inr ⟨_, rfl⟩) hr, h2, hr⟩
theorem eY.fz {X : Cx} {st : Stmt} {i : Nat} {f : Fe} (h : eY X st (gz i f)) (hi : i < X.N.length) : eY X st (bH i f) := fun Fm => by
  intro pins s σ H D I ⟨ρ, sl, q⟩
  unfold bH at q
  cases ef : f ρ with
  | ex c => rw [ef] at q; exact h Fm pins s σ H D I ⟨ρ, sl, by unfold gz; rw [ef]; exact q⟩
  | no => rw [ef] at q; exact q.elim
  | ok d =>
    rw [ef] at q
    have hr : yU X Fm (gz i f) { nx := fun σ' H' => g9 Fm H' σ' (ρ.set i (.own d)), rt := fun _ _ => False } σ H := ⟨ρ, sl, by unfold gz; rw [ef]; exact fun σ' H' s' => s'⟩
    refine da (h Fm pins s σ H _ I hr) fun fl s' z => ?_
    cases fl with
    | next =>
      obtain ⟨σ', H', I', sls⟩ := z
      have hi' : i < ρ.length := by rw [← sl.sl.1, I.len]; exact hi
      obtain ⟨H2, v, I2, sl2, _, _⟩ := yO I' sls (i := i) (d := d) (by rw [List.getElem?_set, if_pos rfl, if_pos hi'])
      rw [List.set_set] at sl2
      exact ⟨σ', H2, I2, q σ' H2 sl2⟩
    | brk => obtain ⟨_, _, _, z⟩ := z; exact z.elim
    | cont => obtain ⟨_, _, _, z⟩ := z; exact z.elim
    | ret u => obtain ⟨_, _, _, _, _, z⟩ := z; exact z.elim
theorem Z.eY.fz {X : Cx} {st : Stmt} {i : Nat} {f : Fe} (h : Z.eY X st (gz i f)) (hi : i < X.N.length) : Z.eY X st (bH i f) :=
  ⟨D2.eY.fz h.un hi⟩
theorem bQ {X : Cx} {tg iter elt : Expr} {ifs : List Expr} {sc : Scope} {pos : Pos} {it : aX → R (List PyData)} {b : PyData → aX → Option aX} {t : aX → R Bool} {f : Fe} {N : List Str} {own : Nat} {G G0 : List Str} {fr : List Nat} {nl : Nat}
    (T : Tb X nl G0) {oN : List Str} {on : List (Str × NameKind)} (hoN : X.N = oN) (hon : X.env.scope.names = on)
    (ck : fw sc N own G oN fr ∧ ∀ y ∈ sc.names, y.2 = .free → on.lookup y.1 = some .cell ∨ on.lookup y.1 = some .free) (hi : oI X tg iter it)
    (hb0 : ∀ ρ d ρ1, b d (aL own fr ρ) = some ρ1 → lC (aL own fr ρ) ρ1)
    (hbody : ∀ cl C s H fp, Tb (bu X N sc cl C s H fp) own G → qP (bu X N sc cl C s H fp) tg b ∧ rM (bu X N sc cl C s H fp) ifs t ∧ ak (bu X N sc cl C s H fp) elt f)
    (hs : ∀ x, foldedSetIterable iter X.env x = pure x := by intro _; rfl) : gf X (.ListComp elt [⟨tg, iter, ifs, 0⟩] sc pos) (cc it own fr b t f) :=
  nG T (by rw [hoN]; exact ck.1) (fun y hy hf => by unfold Env.kindOf; rw [hon]; exact ck.2 y hy hf) hi hb0 hbody hs
theorem Z.bQ {X : Cx} {tg iter elt : Expr} {ifs : List Expr} {sc : Scope} {pos : Pos} {it : aX → R (List PyData)} {b : PyData → aX → Option aX} {t : aX → R Bool} {f : Fe} {N : List Str} {own : Nat} {G G0 : List Str} {fr : List Nat} {nl : Nat} (T : Tb X nl G0) {oN : List Str} {on : List (Str × NameKind)} (hoN : X.N = oN) (hon : X.env.scope.names = on) (ck : fw sc N own G oN fr ∧ ∀ y ∈ sc.names, y.2 = .free → on.lookup y.1 = some .cell ∨ on.lookup y.1 = some .free) (hi : Z.oI X tg iter it) (hb0 : ∀ ρ d ρ1, b d (aL own fr ρ) = some ρ1 → lC (aL own fr ρ) ρ1) (hbody : ∀ cl C s H fp, Tb (bu X N sc cl C s H fp) own G → Z.qP (bu X N sc cl C s H fp) tg b ∧ Z.rM (bu X N sc cl C s H fp) ifs t ∧ Z.ak (bu X N sc cl C s H fp) elt f) (hs : ∀ x, foldedSetIterable iter X.env x = pure x := by intro _; rfl) : Z.gf X (.ListComp elt [⟨tg, iter, ifs, 0⟩] sc pos) (cc it own fr b t f) :=
  ⟨D2.bQ T hoN hon ck hi.un hb0 (fun cl C s H fp T => let ⟨q1, q2, q3⟩ := hbody cl C s H fp T; ⟨q1.un, q2.un, q3.un⟩) hs⟩
theorem fH {X : Cx} {tg iter elt : Expr} {ifs : List Expr} {sc : Scope} {pos py spos : Pos} {it : aX → R (List PyData)} {b : PyData → aX → Option aX} {t : aX → R Bool} {f : Fe} {N : List Str} {own : Nat} {G G0 : List Str} {fr : List Nat} {nl : Nat} {y : Str} (i : Nat)
    (hN : (X.N.take nl)[i]? = some y) (T : Tb X nl G0) {oN : List Str} {on : List (Str × NameKind)} (hoN : X.N = oN) (hon : X.env.scope.names = on)
    (ck : fw sc N own G oN fr ∧ ∀ y ∈ sc.names, y.2 = .free → on.lookup y.1 = some .cell ∨ on.lookup y.1 = some .free) (hi : oI X tg iter it)
    (hb0 : ∀ ρ d ρ1, b d (aL own fr ρ) = some ρ1 → lC (aL own fr ρ) ρ1)
    (hbody : ∀ cl C s H fp, Tb (bu X N sc cl C s H fp) own G → qP (bu X N sc cl C s H fp) tg b ∧ rM (bu X N sc cl C s H fp) ifs t ∧ ak (bu X N sc cl C s H fp) elt f)
    (hsw : swapsWith (.ListComp elt [⟨tg, iter, ifs, 0⟩] sc pos) (some (.Name y py)) spos.line X.env = pure true := by rfl)
    (hs : ∀ x, foldedSetIterable iter X.env x = pure x := by intro _; rfl) : eY X (.Assign [.Name y py] (.ListComp elt [⟨tg, iter, ifs, 0⟩] sc pos) spos) (gz i (cc it own fr b t f)) :=
  yb T (by rw [hoN]; exact ck.1) (fun y hy hf => by unfold Env.kindOf; rw [hon]; exact ck.2 y hy hf) hi hb0 hbody hN hsw hs
theorem Z.fH {X : Cx} {tg iter elt : Expr} {ifs : List Expr} {sc : Scope} {pos py spos : Pos} {it : aX → R (List PyData)} {b : PyData → aX → Option aX} {t : aX → R Bool} {f : Fe} {N : List Str} {own : Nat} {G G0 : List Str} {fr : List Nat} {nl : Nat} {y : Str} (i : Nat) (hN : (X.N.take nl)[i]? = some y) (T : Tb X nl G0) {oN : List Str} {on : List (Str × NameKind)} (hoN : X.N = oN) (hon : X.env.scope.names = on) (ck : fw sc N own G oN fr ∧ ∀ y ∈ sc.names, y.2 = .free → on.lookup y.1 = some .cell ∨ on.lookup y.1 = some .free) (hi : Z.oI X tg iter it) (hb0 : ∀ ρ d ρ1, b d (aL own fr ρ) = some ρ1 → lC (aL own fr ρ) ρ1) (hbody : ∀ cl C s H fp, Tb (bu X N sc cl C s H fp) own G → Z.qP (bu X N sc cl C s H fp) tg b ∧ Z.rM (bu X N sc cl C s H fp) ifs t ∧ Z.ak (bu X N sc cl C s H fp) elt f) (hsw : swapsWith (.ListComp elt [⟨tg, iter, ifs, 0⟩] sc pos) (some (.Name y py)) spos.line X.env = pure true := by rfl) (hs : ∀ x, foldedSetIterable iter X.env x = pure x := by intro _; rfl) : Z.eY X (.Assign [.Name y py] (.ListComp elt [⟨tg, iter, ifs, 0⟩] sc pos) spos) (gz i (cc it own fr b t f)) :=
  ⟨D2.fH i hN T hoN hon ck hi.un hb0 (fun cl C s H fp T => let ⟨q1, q2, q3⟩ := hbody cl C s H fp T; ⟨q1.un, q2.un, q3.un⟩) hsw hs⟩
theorem bR {own : Nat} {fr : List Nat} {i : Nat} (h : i < own) : ∀ ρ d ρ1, bj i d (aL own fr ρ) = some ρ1 → lC (aL own fr ρ) ρ1 := fun ρ d ρ1 e => by
  have e' : ρ1 = (aL own fr ρ).set i (.val d) := (Option.some.inj e).symm
  subst e'
  refine ⟨by rw [List.length_set], fun j c hj => ?_⟩
  by_cases hij : i = j
  · subst hij
    left
    unfold aL at hj
    rw [List.getElem?_append_left (by simpa using h), List.getElem?_replicate, if_pos h] at hj
    exact (Option.some.inj hj).symm
  · right
    rw [List.getElem?_set, if_neg hij]; exact hj
def tx (sc : Scope) (N G : List Str) : Prop :=
  N.Nodup ∧ (∀ x ∈ N, (sc.names.lookup x = some .local ∨ sc.names.lookup x = some .cell) ∧ (x == ("__debug__" : Str)) = false ∧ (x == ("__classdict__" : Str)) = false) ∧ ∀ x ∈ G, sc.names.lookup x = some .globalImplicit ∧ (x == ("__debug__" : Str)) = false ∧ x ≠ ("__name__" : Str)
instance {sc : Scope} {N G : List Str} : Decidable (tx sc N G) := by unfold tx; infer_instance
theorem zQ {P : Program} {w : World} {K : PySem.W.Frag} {mg : Str → Option Value} {base : Heap} {N : List Str} {qual : Str} {sc : Scope} {f : Addr} {cdv : Value} {A : Around} {outer : List Env} {s : Shared} {H : Hp} {E : XK} {G : List Str} {k : Nat}
    (hr : dQ k (A.deeper (envOfC qual sc s.heap.objs.size f cdv))) (ck : tx sc N G) : Tb (ff (cF P w mg) P w K mg base N qual sc f cdv A outer s H E) N.length G := by
  obtain ⟨nd, l, g⟩ := ck
  refine ⟨hr.units, rfl, nd, fun x hx => ⟨?_, (l x hx).2⟩, fun x hx => ⟨?_, .inl rfl⟩, fun x hx => ?_⟩
  · rcases (l x hx).1 with q | q
    · exact .inl q
    · exact .inr (.inl q)
  · exact (l x (List.mem_of_mem_take hx)).1
  · exact g x hx
section
variable {X : Cx} {a b c : Expr} {fa fb fc : Fe} {pos : Pos}
def De : PyData → R PyData
  | .int i => .ok (.int (-i))
  | _ => .no
def mJ (g g' : PyData → PyData → R PyData) (fa fb fc : Fe) : Fe := fun ρ => fa ρ >>= fun x => fb ρ >>= fun y => g x y >>= fun d => ub d >>= fun k => if k = true then fc ρ >>= fun z => g' y z else .ok (.bool false)
theorem xi {r r' : R2} {g g' : PyData → PyData → R PyData} (hg : ca X gI r g) (hg' : ca X gI r' g') (σ : St) (H : Hp) (Q : VK) (h : ju X gI (mJ g g' fa fb fc) σ H Q) :
    wG r r' (ju X u0 fa) (ju X u0 fb) (ju X u0 fc) σ H Q :=
  (fZ (P := u0) (k := fun ρ x => fb ρ >>= fun y => g x y >>= fun d => ub d >>= fun k => if k = true then fc ρ >>= fun z => g' y z else .ok (.bool false)) (gt (X := X) fM Q) h).post fun v H1 ⟨ρ1, d1, sl1, _, p1, q1⟩ =>
    (fZ (P := u0) (f := fb) (k := fun ρ y => g d1 y >>= fun d => ub d >>= fun k => if k = true then fc ρ >>= fun z => g' y z else .ok (.bool false)) (gt (X := X) fM Q) ⟨ρ1, sl1, q1⟩).post fun u H2 ⟨ρ2, d2, sl2, s2, p2, q2⟩ => by
      refine hg H2 v u d1 d2 _ (iw.mono p1 s2) p2 ?_
      cases e : g d1 d2 with
      | ex c => rw [e] at q2; exact q2
      | no => rw [e] at q2; exact q2
      | ok d =>
        rw [e] at q2
        intro w' H3 s3 p3
        have q3 : uo X gI (ub d >>= fun k => if k = true then fc ρ2 >>= fun z => g' d2 z else .ok (.bool false)) H2 Q := q2
        cases d with
        | bool k =>
          have e3 : w' = .bl k := by simpa only [Rp] using p3
          refine ⟨k, e3, ?_⟩
          cases k with
          | false => exact q3 _ H3 s3 eB
          | true =>
            have q4 : uo X gI (fc ρ2 >>= fun z => g' d2 z) H2 Q := q3
            exact (fZ (P := u0) (f := fc) (k := fun _ z => g' d2 z) (gt (X := X) fM Q) ⟨ρ2, sl2.mono s3, (gt (X := X) fM Q).mono _ _ _ q4 s3⟩).post fun z H4 ⟨_, d4, _, s4, p4, q5⟩ => hg' H4 u z d2 d4 Q (iw.mono p2 (s3.trans s4)) p4 q5
        | none => exact q3.elim
        | int i => exact q3.elim
        | str i => exact q3.elim
        | list i => exact q3.elim
        | tuple i => exact q3.elim
        | dict i => exact q3.elim
theorem nC {op op' : CmpOp} {r r' : R2} {g g' : PyData → PyData → R PyData} (ho : ix X (compareOp op) r) (hg : ca X gI r g) (ho' : ix X (compareOp op') r') (hg' : ca X gI r' g') (ha : bU X a fa) (hb : bU X b fb) (hc : bU X c fc)
    (hm : lastMarks [op, op'] [b, c] = false := by with_unfolding_all rfl) : ak X (.Compare a [op, op'] [b, c] pos) (mJ g g' fa fb fc) := PE.imp (vT ho ho' ha hb hc hm) (xi hg hg')
theorem Z.nC {op op' : CmpOp} {r r' : R2} {g g' : PyData → PyData → R PyData} (ho : ix X (compareOp op) r) (hg : ca X gI r g) (ho' : ix X (compareOp op') r') (hg' : ca X gI r' g') (ha : Z.bU X a fa) (hb : Z.bU X b fb) (hc : Z.bU X c fc) (hm : lastMarks [op, op'] [b, c] = false := by with_unfolding_all rfl) : Z.ak X (.Compare a [op, op'] [b, c] pos) (mJ g g' fa fb fc) :=
  ⟨D2.nC ho hg ho' hg' ha.un hb.un hc.un hm⟩
variable {es : List Expr} {fs : aX → R (List PyData)}
def jG (fs : aX → R (List PyData)) : Fe := fun ρ => fs ρ >>= fun ds => if ds.length ≤ sizeLine then .ok (.tuple ds) else .no
def sT (fs : aX → R (List PyData)) : Fe := fun ρ => fs ρ >>= fun ds => if ds.length ≤ sizeLine then .ok (.list ds) else .no
theorem im {x1} (h : nT X es fs) : ak X (.Tuple es x1 pos) (jG fs) :=
  PE.imp (zY h) fun σ H Q q => (mM (I := Rp) (f := fs) (k := fun _ ds => if ds.length ≤ sizeLine then .ok (.tuple ds) else .no) (gt (X := X) fM Q) q).post fun vs H1 ⟨_, ds, _, _, p, q1⟩ => by
    have p := mG.mp p
    split at q1
    · rename_i hz
      exact ⟨by rw [p.length]; exact hz, fun a ha => q1 _ _ (cB ha _) (dR ha p)⟩
    · exact q1.elim
theorem Z.im {x1} (h : Z.nT X es fs) : Z.ak X (.Tuple es x1 pos) (jG fs) :=
  ⟨D2.im h.un⟩
theorem jt (h : nT X es fs) : gf X (.List es pos) (sT fs) :=
  PE.imp (zp h) fun σ H Q q => (mM (I := Rp) (f := fs) (k := fun _ ds => if ds.length ≤ sizeLine then .ok (.list ds) else .no) (gt (X := X) yr Q) q).post fun vs H1 ⟨_, ds, _, _, p, q1⟩ => by
    have p := mG.mp p
    split at q1
    · rename_i hz
      exact ⟨by rw [p.length]; exact hz, fun a ha => q1 _ _ (cB ha _) (dZ ha p)⟩
    · exact q1.elim
theorem Z.jt (h : Z.nT X es fs) : Z.gf X (.List es pos) (sT fs) :=
  ⟨D2.jt h.un⟩
theorem kX : gf X (.Dict [] [] pos) (eC (.dict [])) :=
  PE.imp vZ fun σ H Q ⟨ρ, sl, q⟩ p hp => q _ _ (cB hp _) ⟨by simp only [iC]; exact ⟨p, [], rfl, bi, by simp only [dL]⟩, p, rfl, hp⟩
theorem Z.kX  : Z.gf X (.Dict [] [] pos) (eC (.dict [])) :=
  ⟨D2.kX⟩
def bV : PyData → PyData → R PyData
  | .list ds, .int i => match atI ds i with
    | some d => .ok d
    | none => .no
  | .tuple ds, .int i => match atI ds i with
    | some d => .ok d
    | none => .no
  | .str z, .int i => if z.length ≤ sizeLine then match atI z.cps.toList i with
    | some c => .ok (.str ⟨#[c]⟩)
    | none => .no else .no
  | .dict kvs, k => if oC kvs = true then .no else match gN k with
    | some _ => match lA kvs k with
      | some d => .ok d
      | none => .no
    | none => .no
  | _, _ => .no
theorem bF.atI {H : Hp} {ds : List PyData} {vs : List V} {i : Int} {d : PyData} (r : bF H ds vs) (e : L2.atI ds i = some d) : ∃ v, L2.atI vs i = some v ∧ Rp H d v := by
  unfold L2.atI at e ⊢
  rw [r.length]
  cases h : tL ds.length i with
  | none => rw [h] at e; cases e
  | some j =>
    rw [h] at e
    obtain ⟨v, e1, p⟩ := r.get (show ds[j]? = some d from e)
    exact ⟨v, e1, p⟩
def AU : R2 := fun x y H Q => ∃ a v, x = .ref a ∧ mE H a y (some v) ∧ Q v H
theorem x6 (hu : X.A.units + 1 < cLine) : yh X AU := by
  intro value slice pins s σ H x y v u Q I rx ry h hs
  obtain ⟨a, z, rfl, g, q⟩ := h
  cases rx
  exact tail_any (qv I g) PySem.F.slot_dict_getitem.lookup (uV hu I g ry fun w' s3 I3 rw' => ⟨z, H, I3, rw', q⟩) hs
theorem BU : ca X gI (fun x y H Q => Bz X.K x y H Q ∨ BR X.K x y H Q ∨ BP x y H Q ∨ AU x y H Q) bV := fun H x y dx dy Q hx hy q => by
  unfold bV at q
  split at q
  · rename_i ds i
    split at q
    · rename_i d e
      obtain ⟨a, vs, rfl, hq, r⟩ := fi (K := X.K) hx
      obtain ⟨v, e1, p⟩ := r.atI e
      exact .inl ⟨a, vs, i, v, rfl, bT hy, hq, e1, q v H (aR.refl _) p⟩
    · exact q.elim
  · rename_i ds i
    split at q
    · rename_i d e
      obtain ⟨a, vs, rfl, hq, r⟩ := dw hx
      obtain ⟨v, e1, p⟩ := r.atI e
      exact .inr (.inl ⟨a, vs, i, v, rfl, bT hy, i4.of hq, e1, q v H (aR.refl _) p⟩)
    · exact q.elim
  · rename_i z i
    split at q
    · rename_i hz
      split at q
      · rename_i c e
        exact .inr (.inr (.inl ⟨z, i, c, gS hx, bT hy, hz, e, q _ H (aR.refl _) wb⟩))
      · exact q.elim
    · exact q.elim
  · rename_i kvs k
    split at q
    · exact q.elim
    rename_i hi
    split at q
    · rename_i κ e
      split at q
      · rename_i d e1
        obtain ⟨a, ks, rfl, h, r⟩ := kB (Bool.not_eq_true _ ▸ hi) hx
        obtain ⟨o, g, _, e2⟩ := ux (κ := κ) h r
        rw [qC e] at e1
        obtain ⟨v, rfl, p⟩ := e2 d e1
        rw [← tT hy e] at g
        exact .inr (.inr (.inr ⟨a, v, rfl, g, q v H (aR.refl _) p⟩))
      · exact q.elim
    · exact q.elim
  · exact q.elim
theorem bE (hu : X.A.units + 64 < cLine) (ha : bU X a fa) (hb : bU X b fb) (hs : pT b) : ak X (.Subscript a b pos) (e2 bV fa fb) := PE.imp (A3 (xW.or (zq.or (zH.or (x6 (by omega))))) ha hb hs) (two fM BU)
theorem Z.bE (hu : X.A.units + 64 < cLine) (ha : Z.bU X a fa) (hb : Z.bU X b fb) (hs : pT b) : Z.ak X (.Subscript a b pos) (e2 bV fa fb) :=
  ⟨D2.bE hu ha.un hb.un hs⟩
variable {nl : Nat} {G : List Str} {x : Str} {p : Pos}
def o5 (X : Cx) (P : Hp → Hp → PyData → V → Prop) (r : List V → Hp → VK → Prop) (g : List PyData → R PyData) : Prop := ∀ H xs ds Q, RA iw H ds xs → uo X P (g ds) H Q → r xs H Q
theorem vH {P : Hp → Hp → PyData → V → Prop} {r : List V → Hp → VK → Prop} {g : List PyData → R PyData} (hP : Dn P) (hg : o5 X P r g) (σ : St) (H : Hp) (Q : VK) (h : ju X P (fun ρ => fs ρ >>= g) σ H Q) : Cc r (wK X iw fs) σ H Q :=
  (mM (I := iw) (k := fun _ => g) (gt (X := X) hP Q) h).post fun vs H1 ⟨_, ds, _, _, p1, q1⟩ => hg H1 vs ds Q p1 q1
def one (g : PyData → R PyData) : List PyData → R PyData
  | [d] => g d
  | _ => .no
def Ay (g : PyData → PyData → R PyData) : List PyData → R PyData
  | [d, e] => g d e
  | _ => .no
theorem wV (g : PyData → R PyData) (fa : Fe) : (fun ρ => ag fa aH ρ >>= one g) = e1 g fa := by
  funext ρ
  unfold ag aH e1
  cases fa ρ <;> rfl
theorem zu (g : PyData → PyData → R PyData) (fa fb : Fe) : (fun ρ => ag fa (ag fb aH) ρ >>= Ay g) = e2 g fa fb := by
  funext ρ
  unfold ag aH e2
  cases fa ρ with
  | ok a => cases fb ρ <;> rfl
  | ex c => rfl
  | no => rfl
theorem v3 {P : Hp → Hp → PyData → V → Prop} {r : List V → Hp → VK → Prop} {g : PyData → R PyData} (h : ∀ H x d Q, iw H d x → uo X P (g d) H Q → r [x] H Q) : o5 X P r (one g) := fun H xs ds Q ra q => by
  unfold one at q
  split at q
  · rename_i d
    simp only [RA] at ra
    obtain ⟨v, r', e, p, e2⟩ := ra
    subst e2; subst e
    exact h H v d Q p q
  · exact q.elim
theorem An {P : Hp → Hp → PyData → V → Prop} {r : List V → Hp → VK → Prop} {g : PyData → PyData → R PyData} (h : ∀ H x y d e Q, iw H d x → iw H e y → uo X P (g d e) H Q → r [x, y] H Q) : o5 X P r (Ay g) := fun H xs ds Q ra q => by
  unfold Ay at q
  split at q
  · rename_i d e
    simp only [RA] at ra
    obtain ⟨v, r', e1, p, v', r'', e2, p', e3⟩ := ra
    subst e3; subst e2; subst e1
    exact h H v v' d e Q p p' q
  · exact q.elim
section
variable {P : Hp → Hp → PyData → V → Prop} {r : List V → Hp → VK → Prop} {g : PyData → R PyData} {g2 : PyData → PyData → R PyData} {id ty : String}
theorem xw (T : Tb X nl G) (j : Nat) (hG : G[j]? = some x) (hm : X.mg x = none) (hP : Dn P) (hv : bootBuiltins x = some (.builtin id)) (hc : dq X (.builtin id) r) (hg : ∀ H x d Q, iw H d x → uo X P (g d) H Q → r [x] H Q) (ha : bU X a fa)
    (he : aG a = true := by rfl) : PE X (.Call (.Name x p) [a] [] pos) (ju X P (e1 g fa)) := by
  have q := T.gl x (List.mem_of_getElem? hG)
  rw [← wV]
  exact PE.imp (nr hc q.1 hm hv (lV ha sg he) q.2.2 q.2.1 (bB he)) (vH hP (v3 hg))
theorem Ab (T : Tb X nl G) (j : Nat) (hG : G[j]? = some x) (hm : X.mg x = none) (hP : Dn P) (hv : bootBuiltins x = some (.type ty)) (hc : dq X (.type ty) r) (hg : ∀ H x d Q, iw H d x → uo X P (g d) H Q → r [x] H Q) (ha : bU X a fa)
    (he : aG a = true := by rfl) : PE X (.Call (.Name x p) [a] [] pos) (ju X P (e1 g fa)) := by
  have q := T.gl x (List.mem_of_getElem? hG)
  rw [← wV]
  exact PE.imp (uI hc q.1 hm hv (lV ha sg he) q.2.2 q.2.1 (bB he)) (vH hP (v3 hg))
theorem AS (T : Tb X nl G) (j : Nat) (hG : G[j]? = some x) (hm : X.mg x = none) (hP : Dn P) (hv : bootBuiltins x = some (.builtin id)) (hc : dq X (.builtin id) r) (hg : ∀ H x y d e Q, iw H d x → iw H e y → uo X P (g2 d e) H Q → r [x, y] H Q) (ha : bU X a fa) (hb : bU X b fb)
    (he : aG a = true := by rfl) (he2 : aG b = true := by rfl) : PE X (.Call (.Name x p) [a, b] [] pos) (ju X P (e2 g2 fa fb)) := by
  have q := T.gl x (List.mem_of_getElem? hG)
  rw [← zu]
  exact PE.imp (nr hc q.1 hm hv (lV ha (lV hb sg he2) he) q.2.2 q.2.1 (bB he) (mT (by rw [List.all_cons, he2]; rfl))) (vH hP (An hg))
end
end
theorem kY : fillsNumberSlot (.type "tuple") "mul" = pure false :=
  PySem.fillsNumberSlot_seq (id := "tuple.__mul__") (r := some (.builtin "tuple.__rmul__")) F.slot_tuple_mul.lookup (by decide +kernel) F.slot_tuple_rmul.lookup (by decide +kernel)
theorem pf : seqRepeat? (.type "tuple") = pure (some (.builtin "tuple.__mul__")) := by
  unfold seqRepeat?
  rw [PySem.seqSlot_of (T := "tuple") (name := "__mul__") (id := "tuple.__mul__") F.slot_tuple_mul.lookup (by decide +kernel), PySem.seqSlot_of (T := "tuple") (name := "__rmul__") (id := "tuple.__rmul__") F.slot_tuple_rmul.lookup (by decide +kernel)]
  rfl
theorem mY (a : Int) (t : Tok) (l : Addr) (items : Array Value) (n : Nat) (dd : Option Addr) (sl : Array (Option Value)) :
    Meets (Builtin.«int.__rmul__» ⟨[.int a t, .ref l], []⟩) (fun _ R s => s.heap.get? l = some { cls := .type "tuple", dict := dd, data := .seq items n, slots := sl } ∧ R (.ok (.ret Value.notImplemented)) s) :=
  .of_wp fun prog w A R s h => by obtain ⟨hp, g, d, tk, os⟩ := s; obtain ⟨hl, h⟩ := h; wp_walk; exact ⟨_, rfl, h⟩
theorem sG (l : Addr) (items : Array Value) (n : Nat) (dd : Option Addr) (sl : Array (Option Value)) (x : Int) (u : Tok) (h1 : 2 ≤ x) (h2 : x < 2 ^ 63) (h0 : ¬ items.isEmpty = true) (hc1 : ¬ (items.size : Int) * x > (2 ^ 63 - 1) / 8) (hbig : Builtin.Tuple.tupleTooMany ((items.size : Int) * x) = false) (hsz : ¬ (List.foldl (fun x1 x2 => x1 ++ x2) #[] (List.replicate x.toNat items)).size > sizeLine) :
    Meets (Builtin.«tuple.__mul__» ⟨[.ref l, .int x u], []⟩) (fun _ R s => s.heap.get? l = some { cls := .type "tuple", dict := dd, data := .seq items n, slots := sl } ∧ R (.ok (.ret (Value.ref s.heap.objs.size))) { s with heap := s.heap.push { cls := Value.type "tuple", data := Data.seq (List.foldl (fun x1 x2 => x1 ++ x2) #[] (List.replicate x.toNat items)) }, toks := s.toks }) :=
  .of_wp fun prog w A R s h => by
    obtain ⟨hp, g, d, tk, os⟩ := s; obtain ⟨hl, h⟩ := h
    have f1 := AutoSeq1.idx_int; have f2 := AutoSeq1.sub_tuple_tuple; have f3 := AutoSeq1.sub_list_list; have f4 := AutoSeq1.sub_tuple_list; have f5 := AutoSeq1.sub_list_tuple
    have e0 : (decide (x < -2 ^ 63) || decide (x ≥ 2 ^ 63)) = false := by
      rw [decide_eq_false (by omega), decide_eq_false (by omega)]; rfl
    have e1 : (items.isEmpty || x == 1) = false := by
      have : (x == 1) = false := by simp; omega
      rw [this, Bool.or_false]; exact Bool.eq_false_iff.mpr h0
    have e2 : (decide (x ≤ 0) || items.isEmpty) = false := by
      rw [decide_eq_false (by omega), Bool.false_or]; exact Bool.eq_false_iff.mpr h0
    have e3 : decide ((items.size : Int) * x > (2 ^ 63 - 1) / 8) = false := decide_eq_false hc1
    have e4 : Builtin.Tuple.tupleTooMany ((items.size : Int) * x) = false := hbig
    wp_walk using wpAny_loadPart' hl
    refine wpAny_ite_false (decide_eq_false (by rw [e0]; exact Bool.false_ne_true)) ?_
    wp_walk using wpAny_loadPart' hl
    refine wpAny_ite_false (decide_eq_false (by rw [e1]; exact Bool.false_ne_true)) ?_
    wp_walk using wpAny_loadPart' hl
    refine wpAny_ite_false (decide_eq_false (by rw [e2]; exact Bool.false_ne_true)) ?_
    wp_walk using wpAny_loadPart' hl
    refine wpAny_ite_false e3 ?_
    wp_walk using wpAny_loadPart' hl
    exact ⟨_, rfl, h⟩
section
variable {X : Cx} {a b c : Expr} {fa fb fc : Fe} {pos : Pos} {nl : Nat} {G : List Str} {x : Str} {p : Pos}
def ze (K : PySem.W.Frag) : R2 := fun x y H Q => ∃ l k xs, x = .ref l ∧ y = .int k ∧ i4 K H l xs ∧ xs ≠ [] ∧ 2 ≤ k ∧ k < 2 ^ 63 ∧ xs.length * k.toNat ≤ sizeLine ∧ ∀ p, H p = none → Q (.ref p) (cx H p (.tup (List.replicate k.toNat xs).flatten))
theorem xU : ix X (binaryOp .Mult) (ze X.K) := by
  intro pins s σ H x y v u Q I rx ry h
  obtain ⟨l, k, xs, rfl, rfl, hH, hne, h1, h2, hz, q⟩ := h
  cases rx
  obtain ⟨t, rfl⟩ := ry
  obtain ⟨its, r, pl, hz0⟩ := I.tuple hH
  obtain ⟨⟨cls, dd, data, sl⟩, e, hc, n, hd⟩ := id pl
  simp only at hc hd
  subst hc hd
  have hl := r.length
  have hnew : List.foldl (fun x1 x2 => x1 ++ x2) #[] (List.replicate k.toNat its.toArray) = (List.replicate k.toNat its).flatten.toArray := by
    have := oy its k.toNat []
    rw [List.nil_append] at this
    exact this
  have hlen : (List.replicate k.toNat its).flatten.length ≤ sizeLine := by rw [ut, ← hl, Nat.mul_comm]; exact hz
  have hprod : (its.length : Int) * k ≤ (sizeLine : Int) := by
    have h3 : ((its.length * k.toNat : Nat) : Int) ≤ (sizeLine : Int) := by rw [← hl]; exact Int.ofNat_le.mpr hz
    have h4 : ((k.toNat : Nat) : Int) = k := Int.toNat_of_nonneg (by omega)
    rw [Int.natCast_mul, h4] at h3
    exact h3
  have hcap : ¬ (its.toArray.size : Int) * k > (2 ^ 63 - 1) / 8 := by
    rw [List.size_toArray]
    have hs : sizeLine = 16777216 := sizeLine_eq
    omega
  have hbig : Builtin.Tuple.tupleTooMany ((its.toArray.size : Int) * k) = false := by
    unfold Builtin.Tuple.tupleTooMany
    rw [List.size_toArray]
    exact decide_eq_false (by omega)
  refine wpAny_binaryOp_repeat_ref (T := "tuple") (U := "int") (by decide) ⟨_, e, rfl⟩ (fun s' => typeIs_int s' k t) kY F.fills_int_mul F.slot_int_rmul pf F.slot_int_index.lookup
    (call_meets F.slot_int_rmul (typeIs_int s k t) F.entry_int_rmul (F.args_int_rmul_2 _ _) (mY k t l its.toArray n dd sl)
      ⟨e, rfl, ⟨_, e, rfl⟩, call_meets F.slot_tuple_mul ⟨_, e, rfl⟩ F.entry_tuple_mul (F.args_tuple_mul_2 _ _) (sG l its.toArray n dd sl k t h1 h2 (by
        intro z
        apply hne
        have : its = [] := by simpa using z
        rw [this] at hl
        exact List.length_eq_zero_iff.mp hl) hcap hbig (by rw [hnew, List.size_toArray]; omega)) ⟨e, ?_⟩⟩)
  rw [hnew]
  refine ⟨.ref s.heap.objs.size, _, I.laid (t' := s.toks) (o := .tup (List.replicate k.toNat xs).flatten) (fun b ob q => Heap.get?_push_of_some _ q) (Nat.le_refl _) ?_, rfl, q _ (I.hok.fresh (Nat.le_refl _))⟩
  exact ⟨by rw [ut, Nat.mul_comm]; exact hz, _, r.rep k.toNat, IsTup.new _ _⟩
def fj : PyData → PyData → R PyData
  | .int i, .int j => if (-(2 ^ 64) < i ∧ i < 2 ^ 64) ∨ (-(2 ^ 64) < j ∧ j < 2 ^ 64) then .ok (.int (i * j)) else .no
  | .tuple xs, .int k => if xs ≠ [] ∧ 2 ≤ k ∧ k < 2 ^ 63 ∧ xs.length * k.toNat ≤ sizeLine then .ok (.tuple (List.replicate k.toNat xs).flatten) else .no
  | _, _ => .no
theorem zC : ca X gI (fun x y H Q => rI yF (fun i j => .int (i * j)) x y H Q ∨ ze X.K x y H Q) fj := fun H x y dx dy Q hx hy q => by
  cases dx with
  | int i =>
    cases dy with
    | int j =>
      simp only [fj] at q
      split at q
      · rename_i h; exact .inl ⟨_, _, bT hx, bT hy, h, q _ H (aR.refl _) df⟩
      · exact q.elim
    | _ => exact q.elim
  | tuple xs =>
    cases dy with
    | int k =>
      simp only [fj] at q
      split at q
      · rename_i h
        obtain ⟨a, vs, rfl, ha, r⟩ := dw hx
        have hl := r.length
        refine .inr ⟨a, k, vs, rfl, bT hy, i4.of ha, fun z => h.1 ?_, h.2.1, h.2.2.1, by rw [hl]; exact h.2.2.2, fun p hp => q _ _ (cB hp _) (dR hp (r.rep _))⟩
        rw [z] at hl
        exact List.length_eq_zero_iff.mp hl.symm
      · exact q.elim
    | _ => exact q.elim
  | _ => exact q.elim
theorem fS (ha : bU X a fa) (hb : bU X b fb) : ak X (.BinOp a .Mult b pos) (e2 fj fa fb) := mS fM (zD.or xU) zC ha hb
theorem Z.fS (ha : Z.bU X a fa) (hb : Z.bU X b fb) : Z.ak X (.BinOp a .Mult b pos) (e2 fj fa fb) :=
  ⟨D2.fS ha.un hb.un⟩
theorem xq : ix X (binaryOp .Add) (fun x y H Q => ∃ i j, x = .str i ∧ y = .str j ∧ i.length + j.length ≤ sizeLine ∧ Q (.str (i ++ j)) H) := by
  intro pins s σ H x y v u Q I rx ry h
  obtain ⟨i, j, rfl, rfl, hz, q⟩ := h
  obtain ⟨t, rfl⟩ := rx
  obtain ⟨t', rfl⟩ := ry
  exact PyProof.Rows.add_str (fun t' tk => ⟨.str (i ++ j), H, I.tok _, ⟨_, rfl⟩, q⟩) hz
def xl (K : PySem.W.Frag) : R2 := fun x y H Q => ∃ a b ys, x = .ref a ∧ y = .ref b ∧ i4 K H a [] ∧ i4 K H b ys ∧ Q (.ref b) H
theorem w5 : ix X (binaryOp .Add) (xl X.K) := by
  intro pins s σ H x y v u Q I rx ry h
  obtain ⟨a, b, ys, rfl, rfl, ha, hb, q⟩ := h
  cases rx
  cases ry
  obtain ⟨its, r1, p1, _⟩ := I.tuple ha
  obtain ⟨its2, r2, p2, _⟩ := I.tuple hb
  cases r1
  obtain ⟨⟨cls, dd, data, sl⟩, ho, hc, n, hd⟩ := id p1
  obtain ⟨⟨cls2, dd2, data2, sl2⟩, ho2, hc2, n2, hd2⟩ := id p2
  simp only at hc hd hc2 hd2
  subst hc hd hc2 hd2
  exact concat_meets ⟨_, ho, rfl⟩ ⟨_, ho2, rfl⟩ noFill_tuple_add seq_tuple_add PySem.F.slot_tuple_add PySem.F.entry_tuple_add (PySem.F.args_tuple_add_2 _ _)
    (tuple_addW0 a b _ its2.toArray n n2 dd dd2 sl sl2 (by rfl)) ⟨ho, ho2, ⟨.ref b, H, I, rfl, q⟩⟩
def yS (K : PySem.W.Frag) : R2 := fun x y H Q => ∃ l b xs zs, x = .ref l ∧ y = .ref b ∧ Rd H l (.lst xs) ∧ Rd H b (.lst zs) ∧ xs.length + zs.length ≤ sizeLine ∧ ∀ p, H p = none → Q (.ref p) (cx H p (.lst (xs ++ zs)))
theorem yD : ix X (binaryOp .Add) (yS X.K) := by
  intro pins s σ H x y v u Q I rx ry h
  obtain ⟨l, b, xs, zs, rfl, rfl, hH, hB, hz, q⟩ := h
  cases rx
  cases ry
  obtain ⟨z, its, n, r, e⟩ := hH.ok I.hok
  obtain ⟨z2, its2, n2, r2, e2⟩ := hB.ok I.hok
  have hl := r.length
  have hl2 := r2.length
  refine PySem.P.add_list e e2 ?_ (by rw [List.size_toArray, List.size_toArray]; omega)
  have ea : its.toArray ++ its2.toArray = (its ++ its2).toArray := by simp
  rw [ea]
  exact ⟨.ref _, _, I.lnew (t' := s.toks) (r.append r2) (by rw [List.length_append]; omega), rfl, q _ I.fresh⟩
def fh : PyData → PyData → R PyData
  | .int i, .int j => .ok (.int (i + j))
  | .str x, .str y => if x.length + y.length ≤ sizeLine then .ok (.str (x ++ y)) else .no
  | .tuple xs, .tuple ys => if xs.length + ys.length ≤ sizeLine then .ok (.tuple (xs ++ ys)) else .no
  | .list xs, .list ys => if xs.length + ys.length ≤ sizeLine then .ok (.list (xs ++ ys)) else .no
  | _, _ => .no
theorem oW {H : Hp} {ds : List PyData} {x : V} (h : iw H (.list ds) x) : ∃ a vs, x = .ref a ∧ Rd H a (.lst vs) ∧ bF H ds vs := by
  rcases h with h | h
  · simp only [Rp] at h
    obtain ⟨a, o, vs, e, ha, r⟩ := h
    exact ⟨a, vs, e, .inr ⟨o, ha⟩, r⟩
  · simp only [iC] at h
    obtain ⟨a, vs, e, ha, r⟩ := h
    exact ⟨a, vs, e, .inl ha, r⟩
theorem AI : ca X B1 (fun x y H Q => xp (fun i j => .int (i + j)) x y H Q ∨ (∃ i j, x = .str i ∧ y = .str j ∧ i.length + j.length ≤ sizeLine ∧ Q (.str (i ++ j)) H) ∨ yR X.K x y H Q ∨ xl X.K x y H Q ∨ yS X.K x y H Q) fh := fun H x y dx dy Q hx hy q => by
  cases dx with
  | int i =>
    cases dy with
    | int j => exact .inl ⟨_, _, bT hx, bT hy, q _ H (aR.refl _) (.inl df)⟩
    | _ => exact q.elim
  | str i =>
    cases dy with
    | str j =>
      simp only [fh] at q
      split at q
      · rename_i h; exact .inr (.inl ⟨_, _, gS hx, gS hy, h, q _ H (aR.refl _) (.inl wb)⟩)
      · exact q.elim
    | _ => exact q.elim
  | tuple xs =>
    cases dy with
    | tuple ys =>
      simp only [fh] at q
      split at q
      · rename_i h
        have hx' := hx
        obtain ⟨a, vs, rfl, ha, r⟩ := dw hx
        obtain ⟨b, us, rfl, hb, r2⟩ := dw hy
        cases xs with
        | nil =>
          have := r.nil_inv
          subst this
          refine .inr (.inr (.inr (.inl ⟨a, b, us, rfl, rfl, i4.of ha, i4.of hb, q _ H (aR.refl _) (.inl ?_)⟩)))
          simp only [Rp, List.nil_append]
          exact ⟨b, us, rfl, hb, r2⟩
        | cons d ds =>
          refine .inr (.inr (.inl ⟨a, b, vs, us, rfl, rfl, i4.of ha, i4.of hb, fun z => ?_, by rw [r.length, r2.length]; exact h, fun z => ?_, fun _ p hp => q _ _ (cB hp _) (.inl (dR hp (r.append r2)))⟩))
          · rw [z] at r
            obtain ⟨_, _, e, _⟩ := r.cons_inv
            cases e
          · have hy0 : ys = [] := by
              have := r2.length
              rw [z] at this
              exact List.length_eq_zero_iff.mp this.symm
            refine q _ H (aR.refl _) (.inl ?_)
            rw [hy0, List.append_nil]
            simp only [Rp]
            exact ⟨a, vs, rfl, ha, r⟩
      · exact q.elim
    | _ => exact q.elim
  | list xs =>
    cases dy with
    | list ys =>
      simp only [fh] at q
      split at q
      · rename_i h
        obtain ⟨a, vs, rfl, ha, r⟩ := oW hx
        obtain ⟨b, us, rfl, hb, r2⟩ := oW hy
        exact .inr (.inr (.inr (.inr ⟨a, b, vs, us, rfl, rfl, ha, hb, by rw [r.length, r2.length]; exact h, fun p hp => q _ _ (cB hp _) (.inr (dZ hp (r.append r2)))⟩)))
      · exact q.elim
    | _ => exact q.elim
  | _ => exact q.elim
theorem di (ha : bU X a fa) (hb : bU X b fb) : ak X (.BinOp a .Add b pos) (e2 fh fa fb) :=
  yp.e (mS Cr (zU.or (xq.or (yu.or (w5.or yD)))) AI ha hb)
theorem Z.di (ha : Z.bU X a fa) (hb : Z.bU X b fb) : Z.ak X (.BinOp a .Add b pos) (e2 fh fa fb) :=
  ⟨D2.di ha.un hb.un⟩
end
section
variable {X : Cx} {a b c : Expr} {fa fb fc : Fe} {pos p2 : Pos} {nl : Nat} {G : List Str} {x : Str} {p : Pos}
theorem ve : dq X (.builtin "len") (fun xs H Q => ∃ a kvs, xs = [V.ref a] ∧ Rd H a (.dK kvs) ∧ Q (.int kvs.length) H) := by
  intro pins s σ H xs us Q I r h
  obtain ⟨a, kvs, rfl, ha, q⟩ := h
  obtain ⟨u, rfl, ru⟩ := gx r
  cases ru
  exact Bd I ha fun t s' I' => ⟨.int kvs.length, H, I', ⟨t, rfl⟩, q⟩
theorem dL.length {H : Hp} : ∀ {kvs : List (PyData × PyData)} {ks : List (cV × V)}, dL H kvs ks → ks.length = kvs.length
  | [], ks, h => by simp only [dL] at h; rw [h]; rfl
  | kd :: kvs, ks, h => by
    simp only [dL] at h
    obtain ⟨x, v, r, rfl, _, t⟩ := h
    rw [List.length_cons, List.length_cons, dL.length t]
def cX : PyData → R PyData
  | .list ds => .ok (.int ds.length)
  | .tuple ds => .ok (.int ds.length)
  | .dict kvs => if oC kvs = true then .no else .ok (.int kvs.length)
  | .str y => if y.length ≤ sizeLine then .ok (.int y.length) else .no
  | _ => .no
theorem cT (T : Tb X nl G) (j : Nat) (hG : G[j]? = some ("len" : Str)) (hm : X.mg "len" = none) (ha : bU X a fa) (he : aG a = true := by rfl) : ak X (.Call (.Name "len" p) [a] [] pos) (e1 cX fa) := by
  refine xw T j hG hm fM PySem.boot_len (pG.or (oQ.or ve)) (fun H x d Q hx q => ?_) ha he
  cases d with
  | list ds =>
    obtain ⟨a', vs, rfl, h, r⟩ := fi (K := X.K) hx
    exact .inl ⟨a', vs, rfl, .inl h, by rw [r.length]; exact q _ H (aR.refl _) df⟩
  | tuple ds =>
    obtain ⟨a', vs, rfl, h, r⟩ := dw hx
    exact .inl ⟨a', vs, rfl, .inr (i4.of h), by rw [r.length]; exact q _ H (aR.refl _) df⟩
  | dict kvs =>
    simp only [cX] at q
    split at q
    · exact q.elim
    rename_i hi
    obtain ⟨a', vs, rfl, h, r⟩ := kB (Bool.not_eq_true _ ▸ hi) hx
    exact .inr (.inr ⟨a', vs, rfl, h, by rw [r.length]; exact q _ H (aR.refl _) df⟩)
  | str y =>
    simp only [cX] at q
    split at q
    · rename_i hz; exact .inr (.inl ⟨y, by rw [gS hx], hz, q _ H (aR.refl _) df⟩)
    · exact q.elim
  | _ => exact q.elim
theorem Z.cT (T : Tb X nl G) (j : Nat) (hG : G[j]? = some ("len" : Str)) (hm : X.mg "len" = none) (ha : Z.bU X a fa) (he : aG a = true := by rfl) : Z.ak X (.Call (.Name "len" p) [a] [] pos) (e1 cX fa) :=
  ⟨D2.cT T j hG hm ha.un he⟩
def sZ : PyData → R PyData
  | .int i => .ok (.int i)
  | .bool k => .ok (.int (if k then 1 else 0))
  | _ => .no
theorem l4 (T : Tb X nl G) (j : Nat) (hG : G[j]? = some ("int" : Str)) (hm : X.mg "int" = none) (ha : bU X a fa) (he : aG a = true := by rfl) : ak X (.Call (.Name "int" p) [a] [] pos) (e1 sZ fa) := by
  refine Ab T j hG hm fM PyProof.Rows.boot_int uS (fun H x d Q hx q => ?_) ha he
  cases d with
  | int i => exact .inl ⟨i, by rw [bT hx], q _ H (aR.refl _) df⟩
  | bool k => exact .inr ⟨k, by rw [mZ hx], q _ H (aR.refl _) df⟩
  | _ => exact q.elim
theorem Z.l4 (T : Tb X nl G) (j : Nat) (hG : G[j]? = some ("int" : Str)) (hm : X.mg "int" = none) (ha : Z.bU X a fa) (he : aG a = true := by rfl) : Z.ak X (.Call (.Name "int" p) [a] [] pos) (e1 sZ fa) :=
  ⟨D2.l4 T j hG hm ha.un he⟩
def Db : PyData → R PyData
  | .int i => if i.natAbs.log2 < 1920 then .ok (.str (toString i)) else .no
  | _ => .no
def yH : PyData → PyData → R PyData
  | .int i, .int j => .ok (.int (if j < i then j else i))
  | _, _ => .no
def yk : PyData → PyData → R PyData
  | .int i, .int j => .ok (.int (if j > i then j else i))
  | _, _ => .no
theorem sF (T : Tb X nl G) (j : Nat) (hG : G[j]? = some ("min" : Str)) (hm : X.mg "min" = none) (ha : bU X a fa) (hb : bU X b fb) (he : aG a = true := by rfl) (he2 : aG b = true := by rfl) :
    ak X (.Call (.Name "min" p) [a, b] [] pos) (e2 yH fa fb) := by
  refine AS T j hG hm fM PyProof.Rows.boot_min (uM T.calm) (fun H x y d e Q hx hy q => ?_) ha hb he he2
  cases d with
  | int i =>
    cases e with
    | int j => exact ⟨i, j, by rw [bT hx, bT hy], q _ H (aR.refl _) df⟩
    | _ => exact q.elim
  | _ => exact q.elim
theorem Z.sF (T : Tb X nl G) (j : Nat) (hG : G[j]? = some ("min" : Str)) (hm : X.mg "min" = none) (ha : Z.bU X a fa) (hb : Z.bU X b fb) (he : aG a = true := by rfl) (he2 : aG b = true := by rfl) : Z.ak X (.Call (.Name "min" p) [a, b] [] pos) (e2 yH fa fb) :=
  ⟨D2.sF T j hG hm ha.un hb.un he he2⟩
theorem sK (T : Tb X nl G) (j : Nat) (hG : G[j]? = some ("max" : Str)) (hm : X.mg "max" = none) (ha : bU X a fa) (hb : bU X b fb) (he : aG a = true := by rfl) (he2 : aG b = true := by rfl) :
    ak X (.Call (.Name "max" p) [a, b] [] pos) (e2 yk fa fb) := by
  refine AS T j hG hm fM PyProof.Rows.boot_max (vn T.calm) (fun H x y d e Q hx hy q => ?_) ha hb he he2
  cases d with
  | int i =>
    cases e with
    | int j => exact ⟨i, j, by rw [bT hx, bT hy], q _ H (aR.refl _) df⟩
    | _ => exact q.elim
  | _ => exact q.elim
theorem Z.sK (T : Tb X nl G) (j : Nat) (hG : G[j]? = some ("max" : Str)) (hm : X.mg "max" = none) (ha : Z.bU X a fa) (hb : Z.bU X b fb) (he : aG a = true := by rfl) (he2 : aG b = true := by rfl) : Z.ak X (.Call (.Name "max" p) [a, b] [] pos) (e2 yk fa fb) :=
  ⟨D2.sK T j hG hm ha.un hb.un he he2⟩
def c6 : PyData → R PyData
  | .list ds => .ok (.tuple ds)
  | .tuple ds => .ok (.tuple ds)
  | _ => .no
theorem cb (T : Tb X nl G) (j : Nat) (hG : G[j]? = some ("tuple" : Str)) (hm : X.mg "tuple" = none) (ha : bU X a fa) (he : aG a = true := by rfl) : ak X (.Call (.Name "tuple" p) [a] [] pos) (e1 c6 fa) := by
  refine Ab T j hG hm fM PyProof.Rows.boot_tuple nQ (fun H x d Q hx q => ?_) ha he
  cases d with
  | list ds =>
    obtain ⟨a', vs, rfl, h, r⟩ := fi (K := X.K) hx
    exact ⟨a', vs, rfl, .inl ⟨h, fun l hl => q _ _ (cB hl _) (dR hl r)⟩⟩
  | tuple ds =>
    obtain ⟨a', vs, rfl, h, r⟩ := dw hx
    exact ⟨a', vs, rfl, .inr ⟨i4.of h, q _ H (aR.refl _) (by simp only [Rp]; exact ⟨a', vs, rfl, h, r⟩)⟩⟩
  | _ => exact q.elim
theorem Z.cb (T : Tb X nl G) (j : Nat) (hG : G[j]? = some ("tuple" : Str)) (hm : X.mg "tuple" = none) (ha : Z.bU X a fa) (he : aG a = true := by rfl) : Z.ak X (.Call (.Name "tuple" p) [a] [] pos) (e1 c6 fa) :=
  ⟨D2.cb T j hG hm ha.un he⟩
def n9 : PyData → R PyData
  | .list ds => .ok (.list ds)
  | .tuple ds => .ok (.list ds)
  | _ => .no
theorem kh (T : Tb X nl G) (j : Nat) (hG : G[j]? = some ("list" : Str)) (hm : X.mg "list" = none) (ha : bU X a fa) (he : aG a = true := by rfl) : gf X (.Call (.Name "list" p) [a] [] pos) (e1 n9 fa) := by
  refine Ab T j hG hm yr PyProof.Rows.boot_list pD (fun H x d Q hx q => ?_) ha he
  cases d with
  | list ds =>
    obtain ⟨a', vs, rfl, h, r⟩ := fi (K := X.K) hx
    exact ⟨a', vs, rfl, .inl h, fun l hl => q _ _ (cB hl _) (dZ hl r)⟩
  | tuple ds =>
    obtain ⟨a', vs, rfl, h, r⟩ := dw hx
    exact ⟨a', vs, rfl, .inr (i4.of h), fun l hl => q _ _ (cB hl _) (dZ hl r)⟩
  | _ => exact q.elim
theorem Z.kh (T : Tb X nl G) (j : Nat) (hG : G[j]? = some ("list" : Str)) (hm : X.mg "list" = none) (ha : Z.bU X a fa) (he : aG a = true := by rfl) : Z.gf X (.Call (.Name "list" p) [a] [] pos) (e1 n9 fa) :=
  ⟨D2.kh T j hG hm ha.un he⟩
inductive Ty where
  | int | bool | str | list | tuple
def Ty.nm : Ty → String
  | .int => "int"
  | .bool => "bool"
  | .str => "str"
  | .list => "list"
  | .tuple => "tuple"
def Be : Ty → PyData → Bool
  | .int, .int _ => true
  | .int, .bool _ => true
  | .bool, .bool _ => true
  | .str, .str _ => true
  | .list, .list _ => true
  | .tuple, .tuple _ => true
  | _, _ => false
def kS (T : Ty) : PyData → R PyData
  | .dict _ => .no
  | d => .ok (.bool (Be T d))
theorem xg : dq X (.builtin "isinstance") (fun xs H Q => ∃ x t T k, xs = [x, .ty T] ∧ kz X.K H x t ∧ PySem.W.kitOne X.K t (.type T) = some k ∧ Q (.bl k) H) := by
  intro pins s σ H xs us Q I r h
  obtain ⟨x, t, T, k, rfl, ty, e, q⟩ := h
  obtain ⟨u, w', rfl, rx, ry⟩ := tw r
  cases ry
  exact uH I rx ty e fun tk => ⟨.bl k, H, I.tok tk, rfl, q⟩
theorem BO {K : PySem.W.Frag} {H : Hp} {d : PyData} {v : V} (h : iw H d v) : (∃ kvs, d = .dict kvs) ∨ ∃ t, kz K H v t ∧ ∀ T : Ty, PySem.W.kitOne K t (.type T.nm) = some (Be T d) := by
  cases d with
  | none => rw [kC h]; exact .inr ⟨_, .non, fun T => by cases T <;> rfl⟩
  | bool k => rw [mZ h]; exact .inr ⟨_, .bl k, fun T => by cases T <;> rfl⟩
  | int i => rw [bT h]; exact .inr ⟨_, .int i, fun T => by cases T <;> rfl⟩
  | str y => rw [gS h]; exact .inr ⟨_, .str y, fun T => by cases T <;> rfl⟩
  | tuple ds => obtain ⟨a, vs, rfl, ha, _⟩ := dw h; exact .inr ⟨_, .tup ha, fun T => by cases T <;> rfl⟩
  | list ds =>
    obtain ⟨a, vs, rfl, ha, _⟩ := oW h
    rcases ha with ha | ⟨o, ha⟩
    · exact .inr ⟨_, .lst ha, fun T => by cases T <;> rfl⟩
    · exact .inr ⟨_, .frz ha, fun T => by cases T <;> rfl⟩
  | dict kvs => exact .inl ⟨kvs, rfl⟩
theorem rQ (ty : Ty) {y : Str} {py : Pos} (T : Tb X nl G) (j : Nat) (hG : G[j]? = some ("isinstance" : Str)) (hm : X.mg "isinstance" = none) (hy : bootBuiltins y = some (.type ty.nm)) (T' : Tb X nl G) (j' : Nat) (hG' : G[j']? = some y) (hm' : X.mg y = none) (ha : bU X a fa)
    (he : aG a = true := by rfl) : ak X (.Call (.Name "isinstance" p) [a, .Name y py] [] pos) (e1 (kS ty) fa) := by
  have g := T.gl _ (List.mem_of_getElem? hG)
  have g' := T.gl _ (List.mem_of_getElem? hG')
  have hp : PE X (.Name y py) (tC (.ty ty.nm)) := yf g'.1 hm' hy rfl g'.2.2 g'.2.1
  refine PE.imp (nr xg g.1 hm PyProof.Rows.boot_isinstance (oZ ha (oZ hp v8) (bB he)) g.2.2 g.2.1 (bB he)) fun σ H Q h => ?_
  refine (fZ (P := u0) (f := fa) (k := fun _ d => kS ty d) (gt (X := X) fM Q) h).post fun v H1 ⟨_, d, _, _, p1, q1⟩ => ?_
  show ∃ x t T k, _ ∧ _ ∧ _ ∧ _
  rcases BO (K := X.K) p1 with ⟨kvs, rfl⟩ | ⟨t, ht, hk⟩
  · exact q1.elim
  · refine ⟨v, t, ty.nm, Be ty d, rfl, ht, hk ty, ?_⟩
    cases d with
    | dict kvs => exact q1.elim
    | _ => exact q1 _ H1 (aR.refl _) eB
theorem j7 {py : Pos} (T : Tb X nl G) (j : Nat) (hG : G[j]? = some ("isinstance" : Str)) (hm : X.mg "isinstance" = none) (T' : Tb X nl G) (j' : Nat) (hG' : G[j']? = some ("int" : Str)) (hm' : X.mg "int" = none) (ha : bU X a fa)
    (he : aG a = true := by rfl) : ak X (.Call (.Name "isinstance" p) [a, .Name "int" py] [] pos) (e1 (kS .int) fa) := rQ .int T j hG hm PyProof.Rows.boot_int T' j' hG' hm' ha he
theorem Z.j7 {py : Pos} (T : Tb X nl G) (j : Nat) (hG : G[j]? = some ("isinstance" : Str)) (hm : X.mg "isinstance" = none) (T' : Tb X nl G) (j' : Nat) (hG' : G[j']? = some ("int" : Str)) (hm' : X.mg "int" = none) (ha : Z.bU X a fa) (he : aG a = true := by rfl) : Z.ak X (.Call (.Name "isinstance" p) [a, .Name "int" py] [] pos) (e1 (kS .int) fa) :=
  ⟨D2.j7 T j hG hm T' j' hG' hm' ha.un he⟩
theorem iF {py : Pos} (T : Tb X nl G) (j : Nat) (hG : G[j]? = some ("isinstance" : Str)) (hm : X.mg "isinstance" = none) (T' : Tb X nl G) (j' : Nat) (hG' : G[j']? = some ("bool" : Str)) (hm' : X.mg "bool" = none) (ha : bU X a fa)
    (he : aG a = true := by rfl) : ak X (.Call (.Name "isinstance" p) [a, .Name "bool" py] [] pos) (e1 (kS .bool) fa) := rQ .bool T j hG hm PyProof.Rows.boot_bool T' j' hG' hm' ha he
theorem Z.iF {py : Pos} (T : Tb X nl G) (j : Nat) (hG : G[j]? = some ("isinstance" : Str)) (hm : X.mg "isinstance" = none) (T' : Tb X nl G) (j' : Nat) (hG' : G[j']? = some ("bool" : Str)) (hm' : X.mg "bool" = none) (ha : Z.bU X a fa) (he : aG a = true := by rfl) : Z.ak X (.Call (.Name "isinstance" p) [a, .Name "bool" py] [] pos) (e1 (kS .bool) fa) :=
  ⟨D2.iF T j hG hm T' j' hG' hm' ha.un he⟩
theorem ib {py : Pos} (T : Tb X nl G) (j : Nat) (hG : G[j]? = some ("isinstance" : Str)) (hm : X.mg "isinstance" = none) (T' : Tb X nl G) (j' : Nat) (hG' : G[j']? = some ("tuple" : Str)) (hm' : X.mg "tuple" = none) (ha : bU X a fa)
    (he : aG a = true := by rfl) : ak X (.Call (.Name "isinstance" p) [a, .Name "tuple" py] [] pos) (e1 (kS .tuple) fa) := rQ .tuple T j hG hm PyProof.Rows.boot_tuple T' j' hG' hm' ha he
theorem Z.ib {py : Pos} (T : Tb X nl G) (j : Nat) (hG : G[j]? = some ("isinstance" : Str)) (hm : X.mg "isinstance" = none) (T' : Tb X nl G) (j' : Nat) (hG' : G[j']? = some ("tuple" : Str)) (hm' : X.mg "tuple" = none) (ha : Z.bU X a fa) (he : aG a = true := by rfl) : Z.ak X (.Call (.Name "isinstance" p) [a, .Name "tuple" py] [] pos) (e1 (kS .tuple) fa) :=
  ⟨D2.ib T j hG hm T' j' hG' hm' ha.un he⟩
def qp : List PyData → Option Bool
  | [] => some true
  | .bool k :: ds => (qp ds).map fun r => k && r
  | _ => none
def vL : PyData → R PyData
  | .list ds => match qp ds with
    | some k => .ok (.bool k)
    | none => .no
  | _ => .no
end
section
variable {X : Cx} {tg a b c : Expr} {fa fb fc : Fe} {pos p2 : Pos} {nl : Nat} {G : List Str} {x : Str} {p : Pos} {fs : aX → R (List PyData)} {es : List Expr}
def ic : PyData → R (List PyData)
  | .list ds => .ok ds
  | .tuple ds => .ok ds
  | _ => .no
def eX (f : Fe) : aX → R (List PyData) := fun ρ => f ρ >>= ic
theorem xc {K : PySem.W.Frag} {a : Addr} {ds : List PyData} : yj (Cv K a) (fun H => ∃ o vs, H a = some (.frz o (.lst vs)) ∧ bF H ds vs) ds where
  go := fun i H ⟨o, vs, h, r⟩ hi => by
    have hl := r.length
    exact ⟨vs, vs[i], .inl (.inr ⟨o, h⟩), List.getElem?_eq_getElem (by omega)⟩
  yld := fun i H x H' d ⟨o, vs, h, r⟩ hd ⟨e, y⟩ => by
    subst e
    obtain ⟨v, e1, p⟩ := r.get hd
    have := y vs (.inl (.inr ⟨o, h⟩))
    rw [e1] at this
    cases this
    exact ⟨aR.refl _, p⟩
  stop := fun i H ⟨o, vs, h, r⟩ hi => ⟨vs, .inl (.inr ⟨o, h⟩), by rw [r.length]; exact hi⟩
theorem x3 {K : PySem.W.Frag} {a : Addr} {ds : List PyData} : yj (CK K a) (fun H => ∃ vs, H a = some (.tup vs) ∧ bF H ds vs) ds where
  go := fun i H ⟨vs, h, r⟩ hi => by
    have hl := r.length
    exact ⟨vs, vs[i], i4.of h, List.getElem?_eq_getElem (by omega)⟩
  yld := fun i H x H' d ⟨vs, h, r⟩ hd ⟨e, y⟩ => by
    subst e
    obtain ⟨v, e1, p⟩ := r.get hd
    have := y vs (i4.of h)
    rw [e1] at this
    cases this
    exact ⟨aR.refl _, p⟩
  stop := fun i H ⟨vs, h, r⟩ hi => ⟨vs, i4.of h, by rw [r.length]; exact hi⟩
def Dd (K : PySem.W.Frag) (tl : TE) : TI := fun σ H R => tl σ H fun x H1 => ∃ a, x = .ref a ∧ ((∃ xs, lZ K H1 a xs ∧ R (Cv K a) H1) ∨ ∃ xs, i4 K H1 a xs ∧ R (CK K a) H1)
theorem Bq {l : Expr} {tl : TE} (hl : PE X l tl) : PI X tg l (Dd X.K tl) := by
  intro pins s σ H R I h
  refine da (hl pins s σ H _ I h) fun v s1 ⟨x, H1, I1, r1, q1⟩ => ?_
  obtain ⟨a, e, q⟩ := q1
  subst e
  cases r1
  rcases q with ⟨xs, hq, q⟩ | ⟨xs, hq, q⟩
  · obtain ⟨its, rv, p, hz⟩ := I1.list hq
    refine wpAny_pyIter_list p.isList ?_
    refine ⟨s1.heap.objs.size, [s1.heap.objs.size], _, _, H1, rfl, I1.kept (t' := s1.toks) fun b o e => Heap.get?_push_of_some _ e, vg a _, ⟨_, Heap.get?_push_size _ rfl, rfl, rfl⟩, fun b hb => ?_, q⟩
    have e : b = s1.heap.objs.size := by simpa using hb
    subst e
    exact I1.fpOk (Nat.le_refl _) (I1.hok.fresh (Nat.le_refl _))
  · obtain ⟨its, rv, p, hz⟩ := I1.tuple hq
    refine wpAny_pyIter_tuple (show s1.heap.IsTuple a its.toArray from p) ?_
    refine ⟨s1.heap.objs.size, [s1.heap.objs.size], _, _, H1, rfl, I1.kept (t' := s1.toks) fun b o e => Heap.get?_push_of_some _ e, sQ a _, ⟨_, Heap.get?_push_size _ rfl, rfl, rfl⟩, fun b hb => ?_, q⟩
    have e : b = s1.heap.objs.size := by simpa using hb
    subst e
    exact I1.fpOk (Nat.le_refl _) (I1.hok.fresh (Nat.le_refl _))
theorem BK (Rk : It → Hp → Prop) : AB X (fun (r : R (List PyData)) H => match r with | .ok ds => ∀ J H', aR H H' → (∃ Gd, yj J Gd ds ∧ B7 H' (fun _ => False) Gd) → Rk J H' | .ex c => Xw X c H | .no => False) where
  mono := fun r H H' h s => by
    cases r with
    | ok d => exact fun J H2 s2 => h J H2 (s.trans s2)
    | ex c => exact Xw.mono h s
    | no => exact h
  ex := fun c H h => h
  no := fun H h => h
theorem cM (ha : ak X a fa) : oI X tg a (eX fa) :=
  PI.imp (Bq ha) fun σ H Rk h => (fZ (P := gI) (f := fa) (k := fun _ => ic) (BK (X := X) Rk) h).post fun v H1 ⟨_, d, _, _, p1, q1⟩ => by
    cases d with
    | list ds =>
      simp only [Rp] at p1
      obtain ⟨a', o, vs, rfl, h, r⟩ := p1
      exact ⟨a', rfl, .inl ⟨vs, .inl (.inr ⟨o, h⟩), q1 _ H1 (aR.refl _) ⟨_, xc, fun H2 k _ => ⟨o, vs, k.2 _ _ _ h, bF.kp k _ _ r⟩⟩⟩⟩
    | tuple ds =>
      simp only [Rp] at p1
      obtain ⟨a', vs, rfl, h, r⟩ := p1
      exact ⟨a', rfl, .inr ⟨vs, i4.of h, q1 _ H1 (aR.refl _) ⟨_, x3, fun H2 k _ => ⟨vs, k.1 _ _ h, bF.kp k _ _ r⟩⟩⟩⟩
    | _ => exact q1.elim
theorem Z.cM (ha : Z.ak X a fa) : Z.oI X tg a (eX fa) :=
  ⟨D2.cM ha.un⟩
def bx (lo : Int) (n : Nat) : List PyData := (List.range n).map fun (k : Nat) => .int (lo + k)
def nO : List PyData → R (List PyData)
  | [.int j] => if -(2 ^ 62) ≤ j ∧ j < 2 ^ 62 then .ok (bx 0 j.toNat) else .no
  | [.int i, .int j] => if -(2 ^ 62) ≤ i ∧ i < 2 ^ 62 ∧ -(2 ^ 62) ≤ j ∧ j < 2 ^ 62 then .ok (bx i (j - i).toNat) else .no
  | _ => .no
def ia (fs : aX → R (List PyData)) : aX → R (List PyData) := fun ρ => fs ρ >>= nO
theorem u4 {lo : Int} {n : Nat} : yj (BW lo n) (fun _ => True) (bx lo n) where
  go := fun i H _ hi => by
    show i < n
    simpa [bx] using hi
  yld := fun i H x H' d _ hd ⟨e, y⟩ => by
    subst e
    subst y
    refine ⟨aR.refl _, ?_⟩
    unfold bx at hd
    rw [List.getElem?_map] at hd
    cases h : (List.range n)[i]? with
    | none => rw [h] at hd; cases hd
    | some k =>
      rw [h] at hd
      have hk : k = i := by
        rw [List.getElem?_range] at h
        · exact (Option.some.inj h).symm
        · have := (List.getElem?_eq_some_iff.mp h).1
          simpa using this
      subst hk
      cases hd
      exact df
  stop := fun i H _ hi => by
    show n ≤ i
    simpa [bx] using hi
theorem eV (T : Tb X nl G) (j : Nat) (hG : G[j]? = some ("range" : Str)) (hm : X.mg "range" = none) (ha : nT X [a] fs) (hl : ∀ ρ ds, fs ρ = .ok ds → ds.length = 1) (hs : aG a = true := by rfl) : oI X tg (.Call (.Name "range" p) [a] [] pos) (ia fs) :=
  PI.imp (u7 (T.gl _ (List.mem_of_getElem? hG)).1 hm ha (bB hs)) fun σ H Rk ⟨ρ, sl, q⟩ => by
    refine ⟨ρ, sl, ?_⟩
    dsimp only [ia] at q
    cases e : fs ρ with
    | ex c => rw [e] at q; exact q
    | no => rw [e] at q; exact q
    | ok ds =>
      rw [e] at q
      have hlen := hl ρ ds e
      intro vs H1 s1 r1
      match ds, hlen with
      | [d], _ =>
        simp only [RA] at r1
        obtain ⟨v, r', rfl, p1, rfl⟩ := r1
        cases d with
        | int j =>
          have ev : v = .int j := by simpa only [Rp] using p1
          subst ev
          by_cases hz : -(2 ^ 62) ≤ j ∧ j < 2 ^ 62
          · have e2 : nO [.int j] = .ok (bx 0 j.toNat) := if_pos hz
            rw [R.ok_bind, e2] at q
            exact ⟨j, rfl, hz.1, hz.2, q _ H1 s1 ⟨_, u4, fun _ _ _ => True.intro⟩⟩
          · have e2 : nO [.int j] = .no := if_neg hz
            rw [R.ok_bind, e2] at q
            exact q.elim
        | _ => exact q.elim
theorem Z.eV (T : Tb X nl G) (j : Nat) (hG : G[j]? = some ("range" : Str)) (hm : X.mg "range" = none) (ha : Z.nT X [a] fs) (hl : ∀ ρ ds, fs ρ = .ok ds → ds.length = 1) (hs : aG a = true := by rfl) : Z.oI X tg (.Call (.Name "range" p) [a] [] pos) (ia fs) :=
  ⟨D2.eV T j hG hm ha.un hl hs⟩
end
def sO (x : Int) : List Int → List Int
  | [] => [x]
  | y :: r => if x ≤ y then x :: y :: r else y :: sO x r
def fG : List Int → List Int
  | [] => []
  | x :: r => sO x (fG r)
theorem k6 (x : Int) : ∀ l, (sO x l).Perm (x :: l)
  | [] => List.Perm.refl _
  | y :: r => by
    unfold sO
    split
    · exact List.Perm.refl _
    · exact ((k6 x r).cons y).trans (List.Perm.swap x y r)
theorem eU : ∀ l, (fG l).Perm l
  | [] => List.Perm.refl _
  | x :: r => (k6 x (fG r)).trans ((eU r).cons x)
theorem lg (x : Int) : ∀ l, l.Pairwise (· ≤ ·) → (sO x l).Pairwise (· ≤ ·)
  | [], _ => by unfold sO; exact List.pairwise_singleton _ _
  | y :: r, h => by
    have h' := List.pairwise_cons.mp h
    unfold sO
    split
    · rename_i hxy
      refine List.pairwise_cons.mpr ⟨fun z hz => ?_, h⟩
      rcases List.mem_cons.mp hz with rfl | hz
      · exact hxy
      · exact Int.le_trans hxy (h'.1 z hz)
    · rename_i hxy
      refine List.pairwise_cons.mpr ⟨fun z hz => ?_, lg x r h'.2⟩
      rcases List.mem_cons.mp ((k6 x r).mem_iff.mp hz) with rfl | hz
      · omega
      · exact h'.1 z hz
theorem hU : ∀ l, (fG l).Pairwise (· ≤ ·)
  | [] => List.Pairwise.nil
  | x :: r => lg x _ (hU r)
theorem qt {a b : List Int} (hp : a.Perm b) (hs : a.Pairwise (· ≤ ·)) : a = fG b := PySem.W.ksm_same (hp.trans (eU b).symm) hs (hU b)
section
variable {prog : Program} {w : World} {A : Around} {E : Value → Shared → Prop} {s : Shared}
theorem qE {d : Addr} {kvs : List (cV × Value)} {ns : List Int} {Q : Value → Shared → Prop} (hh : A.handled = none) (lo : (d == sysModules) = false) (hd : s.heap.DictOf (c7 prog w) d kvs) (hk : kvs.map (·.1) = ns.map Sum.inl) (h64 : ns.length < 64)
    (h : ∀ (D : Addr) (h' : Heap) (tk : Nat) (vs : List Value) (e : Nat), s.heap.get? D = none → (∀ b o, s.heap.get? b = some o → h'.get? b = some o) → h'.get? D = some (seqObj "list" vs.toArray e) → IntsAre vs (fG ns) → Q (.ref D) { s with heap := h', toks := tk }) :
    wpAny (model prog w) A (call (.builtin "sorted") [.ref d]) Q E s := by
  obtain ⟨ep, hat⟩ := hd.dictAt
  have hlen : kvs.length = ns.length := by have := congrArg List.length hk; simpa using this
  have hn : kvs.length ≤ sizeLine := by rw [sizeLine_eq]; omega
  refine Calls.call_function_entry kind_sorted plain_sorted entry_sorted (args_sorted1 _) ?_
  unfold Builtin.«sorted»
  refine wpAny_bind (m := checkCount "sorted" 1 1 _) (wpAny_pure ?_)
  refine wpAny_bind (PySem.W.kdu_collect (A := A.in1) (PySem.W.kdl_dict (knd := c7 prog w) (kvs := kvs) (ep := ep) lo) hh hat hn fun h1 tk acc hk1 hacc => ?_)
  have hl : acc.toList.length = kvs.length := by rw [Array.length_toList]; exact hacc.1
  have hI : IntsAre acc.toList ns := by
    have key : ∀ (l : List Value) (ms : List Int) (k : Nat), l.length = ms.length → (∀ (j : Nat) (v : Value), l[j]? = some v → ∃ n : Int, ms[j]? = some n ∧ ∃ t, v = Value.int n t) → IntsAre l ms := by
      intro l
      induction l with
      | nil => intro ms k e _; have : ms = [] := List.length_eq_zero_iff.mp e.symm; subst this; exact .nil
      | cons v r ih =>
        intro ms k e hv
        cases ms with
        | nil => cases e
        | cons n ms =>
          obtain ⟨n', e1, t, rfl⟩ := hv 0 v rfl
          have : n = n' := Option.some.inj e1
          subst this
          exact .cons n t (ih ms (k + 1) (by simpa using e) fun j u hu => hv (j + 1) u (by simpa using hu))
    refine key acc.toList ns 0 (by rw [hl, hlen]) fun j v hv => ?_
    obtain ⟨κ, x, hx, his⟩ := hacc.2 j v (by rw [← Array.getElem?_toList]; exact hv)
    have e1 : (kvs.map (·.1))[j]? = some κ := by rw [List.getElem?_map, hx]; rfl
    rw [hk, List.getElem?_map] at e1
    cases e2 : ns[j]? with
    | none => rw [e2] at e1; cases e1
    | some n =>
      rw [e2] at e1
      have e3 : Sum.inl n = κ := Option.some.inj e1
      subst e3
      rcases cu (show mn (Sum.inl n) v = true from his) with ⟨i, t, e4, e5⟩ | ⟨y, t, e4, _⟩
      · cases e4; exact ⟨n, rfl, t, e5⟩
      · cases e4
  refine wpAny_bind (wpAny_newList ?_ (by rw [hl]; exact hn))
  have hoL : (h1.push (seqObj "list" acc.toList.toArray 0)).get? h1.objs.size = some (seqObj "list" acc.toList.toArray 0) := Heap.get?_push_size _ rfl
  show wpAny _ _ _ _ _ { s with heap := h1.push (seqObj "list" acc.toList.toArray 0), toks := tk }
  refine wpAny_bind (wpAny_holding (wpAny_call_entry slot_list_sort ⟨_, hoL, rfl⟩ entry_list_sort (list_sort_tree hoL hI (by rw [hl, hlen]; exact h64) fun out ns' a1 a2 a3 => ⟨_, rfl, ?_⟩) (args_list_sort _)))
  refine wpAny_pure ⟨_, rfl, ?_⟩
  obtain ⟨e, he⟩ := sortedHeap_at (out := out) hoL
  have hsz : s.heap.get? h1.objs.size = none := by
    cases q : s.heap.get? h1.objs.size with
    | none => rfl
    | some o => exact absurd (Heap.lt_size (hk1 _ _ q)) (Nat.lt_irrefl _)
  refine h h1.objs.size _ tk out.toList e hsz (fun b o q => ?_) he (by rw [qt a2 a3] at a1; exact a1)
  have q1 := hk1 b o q
  have hlt : b < h1.objs.size := Heap.lt_size q1
  show (sortedHeap (h1.push (seqObj "list" acc.toList.toArray 0)) h1.objs.size acc.toList out).get? b = some o
  rw [sortedHeap_old (Nat.ne_of_lt hlt) (by rw [size_push']; exact Nat.lt_succ_of_lt hlt)]
  exact Heap.get?_push_of_some _ q1
end
theorem yq {fs ex : List Addr} {H : Hp} {h h' : Heap} {a : Addr} {o : HO} (k : ∀ b u, h.get? b = some u → h'.get? b = some u) (hg : h.get? a = none) (hn : H a = none) : Un fs ex H (cx H a o) h h' := by
  have ne : ∀ {b : Addr} {u : Obj}, h.get? b = some u → b ≠ a := fun e z => by subst z; rw [hg] at e; cases e
  exact ⟨fun b u q _ _ _ => k b u q, fun b u q _ _ _ => ⟨u.slots, k b u q⟩, fun b u q n _ => by rw [az (ne q)]; exact n, fun b u q _ => ⟨u, k b u q⟩, fun b xs q => by rw [az (bd q hn)]; exact q, fun b u xs q => by rw [az (bd q hn)]; exact q,
    fun b ps q => ⟨#[], by rw [az (bd q hn), q]; simp⟩⟩
theorem qa {X : Cx} {pins : List (Addr × Obj)} {σ : St} {H : Hp} {s : Shared} {h' : Heap} {a : Addr} {o : HO} {t' : Nat} (I : aU X pins σ H s) (k : ∀ b u, s.heap.get? b = some u → h'.get? b = some u) (hg : s.heap.get? a = none) (hn : H a = none)
    (new : bW X.prog X.w (cx H a o) h' a o) : aU X pins σ (cx H a o) { s with heap := h', toks := t' } := by
  refine I.un (yq k hg hn) fun b u e => ?_
  by_cases hb : b = a
  · subst hb; rw [bi] at e; cases e; exact new
  · rw [az hb] at e
    exact (I.hok b u e).stay (fun c v _ q => k c v q) (fun c q => by rw [az (bd q hn)]; exact q) fun c xs q => by rw [az (bd q hn)]; exact q
theorem qK {X : Cx} {pins : List (Addr × Obj)} {σ : St} {H : Hp} {s : Shared} {a : Addr} (I : aU X pins σ H s) (hg : s.heap.get? a = none) : H a = none := by
  cases q : H a with
  | none => rfl
  | some o => obtain ⟨u, e⟩ := pb (I.hok a o q); rw [hg] at e; cases e
section
variable {X : Cx} {a b c : Expr} {fa fb fc : Fe} {pos p2 : Pos} {nl : Nat} {G : List Str} {x : Str} {p : Pos}
def dJ : List PyData → Option (List Int)
  | [] => some []
  | .int i :: ds => (dJ ds).map fun r => i :: r
  | _ => none
theorem ie : ∀ {ds : List PyData} {ns : List Int}, dJ ds = some ns → ds = ns.map PyData.int
  | [], ns, h => by cases h; rfl
  | d :: ds, ns, h => by
    cases d with
    | int i =>
      simp only [dJ] at h
      cases e : dJ ds with
      | none => rw [e] at h; cases h
      | some r =>
        rw [e] at h
        cases h
        rw [List.map_cons, ie e]
    | _ => cases h
theorem iQ : ∀ ns : List Int, dJ (ns.map PyData.int) = some ns
  | [] => rfl
  | n :: ns => by simp only [List.map_cons, dJ, iQ ns, Option.map_some]
def jh : PyData → R PyData
  | .list ds => match dJ ds with
    | some ns => if ns.length < 64 then .ok (.list ((fG ns).map PyData.int)) else .no
    | none => .no
  | .dict kvs => match dJ (kvs.map (·.1)) with
    | some ns => if ns.length < 64 then .ok (.list ((fG ns).map PyData.int)) else .no
    | none => .no
  | _ => .no
def zK (K : PySem.W.Frag) : List V → Hp → VK → Prop := fun xs H Q => ∃ p ns, xs = [.ref p] ∧ lZ K H p (ns.map V.int) ∧ ns.length < 64 ∧ ∀ l, H l = none → Q (.ref l) (cx H l (.lst ((fG ns).map V.int)))
def Ak : List V → Hp → VK → Prop := fun xs H Q => ∃ p ks ns, xs = [.ref p] ∧ Rd H p (.dK ks) ∧ ks.map (·.1) = ns.map Sum.inl ∧ ns.length < 64 ∧ ∀ l, H l = none → Q (.ref l) (cx H l (.lst ((fG ns).map V.int)))
theorem oh (ns : List Int) : (fG ns).length = ns.length := (eU ns).length_eq
theorem rD : dq X (.builtin "sorted") (zK X.K) := by
  intro pins s σ H xs us Q I r h
  obtain ⟨p, ns, rfl, hq, h64, q⟩ := h
  obtain ⟨u, rfl, rx⟩ := gx r
  cases rx
  obtain ⟨its, rv, pl, hz⟩ := I.list hq
  have hI : IntsAre its ns := jI rv
  have hl := IntsAre.length hI
  refine sorted_ints pl.isList hI (by omega) fun out ns' a1 a2 a3 => ?_
  rw [qt a2 a3] at a1
  obtain ⟨e, he⟩ := sortedAll_at s.heap its out
  refine ⟨.ref (s.heap.objs.size + 1), _, I.laid (t' := s.toks) (o := .lst ((fG ns).map V.int)) (fun b o e => sortedAll_old e) (Nat.le_succ _) ⟨?_, out.toList, e, jc a1, by simpa [seqObj] using he⟩, rfl, q _ (I.hok.fresh (Nat.le_succ _))⟩
  rw [List.length_map, oh, sizeLine_eq]; omega
theorem sS (hc : X.calm = true) : dq X (.builtin "sorted") Ak := by
  intro pins s σ H xs us Q I r h
  obtain ⟨p, ks, ns, rfl, hq, hk, h64, q⟩ := h
  obtain ⟨u, rfl, rx⟩ := gx r
  cases rx
  obtain ⟨hz, hlo, vs, kv, hd⟩ := mw I.hok hq
  refine qE (I.ok.hd hc) hlo hd (by rw [← kv.keys]; exact hk) h64 fun D h' tk vs' e hg kp hD hI => ?_
  have hn := qK I hg
  refine ⟨.ref D, _, qa (t' := tk) (o := .lst ((fG ns).map V.int)) I kp hg hn ⟨?_, vs', e, jc hI, by simpa [seqObj] using hD⟩, rfl, q _ hn⟩
  rw [List.length_map, oh, sizeLine_eq]; omega
theorem mm : ∀ {H : Hp} {ns : List Int} {vs : List V}, bF H (ns.map PyData.int) vs → vs = ns.map V.int
  | H, [], vs, r => by rw [List.map_nil] at r; rw [r.nil_inv]; rfl
  | H, n :: ns, vs, r => by
    rw [List.map_cons] at r
    obtain ⟨v, r', rfl, p, t⟩ := r.cons_inv
    have : v = .int n := by simpa only [Rp] using p
    rw [this, mm t]; rfl
theorem qb : ∀ {H : Hp} {kvs : List (PyData × PyData)} {ks : List (cV × V)}, dL H kvs ks → kvs.map (·.1) = ks.map fun k => fo k.1
  | H, [], ks, r => by simp only [dL] at r; rw [r]; rfl
  | H, (k, d) :: kvs, ks, r => by
    simp only [dL, xn] at r
    obtain ⟨x, v, r', rfl, ⟨e, _⟩, t⟩ := r
    rw [List.map_cons, List.map_cons, qb t, e]
theorem nX : ∀ {ks : List (cV × V)} {ns : List Int}, (ks.map fun k => fo k.1) = ns.map PyData.int → ks.map (·.1) = ns.map Sum.inl
  | [], [], _ => rfl
  | [], _ :: _, h => by cases h
  | _ :: _, [], h => by cases h
  | (k, v) :: ks, n :: ns, h => by
    rw [List.map_cons, List.map_cons] at h
    injection h with h1 h2
    rw [List.map_cons, List.map_cons, nX h2]
    cases k with
    | inl i => simp only [fo] at h1; cases h1; rfl
    | inr y => simp only [fo] at h1; cases h1
theorem jS (T : Tb X nl G) (j : Nat) (hG : G[j]? = some ("sorted" : Str)) (hm : X.mg "sorted" = none) (ha : bU X a fa) (he : aG a = true := by rfl) : gf X (.Call (.Name "sorted" p) [a] [] pos) (e1 jh fa) := by
  refine xw T j hG hm yr PyProof.Rows.boot_sorted (rD.or (sS T.calm)) (fun H x d Q hx q => ?_) ha he
  cases d with
  | list ds =>
    simp only [jh] at q
    cases ei : dJ ds with
    | none => rw [ei] at q; exact q.elim
    | some ns =>
      rw [ei] at q
      dsimp only at q
      by_cases h64 : ns.length < 64
      · rw [if_pos h64] at q
        obtain ⟨a', vs, rfl, h, r⟩ := fi (K := X.K) hx
        rw [ie ei] at r
        rw [mm r] at h
        exact .inl ⟨a', ns, rfl, h, h64, fun l hl => q _ _ (cB hl _) (dZ hl (bF.ints _))⟩
      · rw [if_neg h64] at q; exact q.elim
  | dict kvs =>
    simp only [jh] at q
    cases ei : dJ (kvs.map (·.1)) with
    | none => rw [ei] at q; exact q.elim
    | some ns =>
      rw [ei] at q
      dsimp only at q
      by_cases h64 : ns.length < 64
      · rw [if_pos h64] at q
        have hi : oC kvs = false := by
          cases kvs with
          | nil => rfl
          | cons kd kvs =>
            obtain ⟨k, d⟩ := kd
            cases k <;> first | rfl | (simp [dJ] at ei)
        obtain ⟨a', ks, rfl, h, r⟩ := kB hi hx
        have hk := nX ((qb r).symm.trans (ie ei))
        exact .inr ⟨a', ks, ns, rfl, h, hk, h64, fun l hl => q _ _ (cB hl _) (dZ hl (bF.ints _))⟩
      · rw [if_neg h64] at q; exact q.elim
  | _ => exact q.elim
theorem Z.jS (T : Tb X nl G) (j : Nat) (hG : G[j]? = some ("sorted" : Str)) (hm : X.mg "sorted" = none) (ha : Z.bU X a fa) (he : aG a = true := by rfl) : Z.gf X (.Call (.Name "sorted" p) [a] [] pos) (e1 jh fa) :=
  ⟨D2.jS T j hG hm ha.un he⟩
theorem uK (hc : X.calm = true) : dq X (.builtin "all") (fun xs H Q => ∃ (p : Addr) (bs : List Bool), xs = [.ref p] ∧ lZ X.K H p (bs.map V.bl) ∧ Q (.bl (bs.all id)) H) := by
  intro pins s σ H xs us Q I r h
  obtain ⟨p, bs, rfl, hq, q⟩ := h
  obtain ⟨u, rfl, rx⟩ := gx r
  cases rx
  obtain ⟨its, rv, pl, hz⟩ := I.list hq
  have hh : X.A.in1.handled = none := I.ok.hd hc
  have hlt : p ≠ s.heap.objs.size := by obtain ⟨o, e, _⟩ := pl.isList; exact Nat.ne_of_lt (Heap.lt_size e)
  have hits : its = bs.map Value.bool := by
    have key : ∀ (bs : List Bool) (us : List Value), bw (bs.map V.bl) us → us = bs.map Value.bool := by
      intro bs
      induction bs with
      | nil => intro us r; cases r; rfl
      | cons k bs ih => intro us r; rw [List.map_cons] at r; cases r with | cons r1 r2 => rw [ih _ r2]; cases r1; rfl
    exact key bs its rv
  refine call_all_walk (wpAny_pyIter_list pl.isList ?_)
  refine ⟨s.heap.objs.size, _, _, its.toArray.size, _, _, fun i => (bs[i]?).getD true, rfl, Walks.list hh s.heap.objs.size p hlt its.toArray, ⟨⟨_, Heap.get?_push_size _ rfl, rfl, rfl⟩, ?_⟩, fun i v s' Q' E' hv hQ' => ?_, fun h' tk kp => ?_⟩
  · obtain ⟨o, e, r'⟩ := pl.isList
    exact ⟨o, Heap.get?_push_of_some _ e, r'⟩
  · have hv' : its[i]? = some v := by simpa using hv
    rw [hits, List.getElem?_map] at hv'
    cases e : bs[i]? with
    | none => rw [e] at hv'; cases hv'
    | some k =>
      rw [e] at hv'
      cases hv'
      dsimp only at hQ'
      rw [e] at hQ'
      exact wpAny_truthy_bool hQ'
  · have e : ((List.range its.toArray.size).all fun i => (bs[i]?).getD true) = bs.all id := by
      rw [List.size_toArray, hits, List.length_map]
      have key : ∀ (l : List Bool), ((List.range l.length).all fun i => (l[i]?).getD true) = l.all id := by
        intro l
        induction l with
        | nil => rfl
        | cons k l ih =>
          rw [List.length_cons, List.range_succ_eq_map, List.all_cons, List.all_map, List.all_cons, ← ih]
          rfl
      exact key bs
    rw [e]
    refine ⟨.bl (bs.all id), H, I.kept (t' := tk) fun b o g => kp b o (fun z => ?_) (Heap.get?_push_of_some _ g), rfl, q⟩
    rw [List.mem_singleton.mp z] at g
    exact absurd (Heap.lt_size g) (Nat.lt_irrefl _)
theorem re : ∀ {ds : List PyData} {k : Bool}, qp ds = some k → ∃ bs : List Bool, ds = bs.map PyData.bool ∧ k = bs.all id
  | [], k, h => by cases h; exact ⟨[], rfl, rfl⟩
  | d :: ds, k, h => by
    cases d with
    | bool j =>
      simp only [qp] at h
      cases e : qp ds with
      | none => rw [e] at h; cases h
      | some r =>
        rw [e] at h
        cases h
        obtain ⟨bs, e1, e2⟩ := re e
        exact ⟨j :: bs, by rw [e1]; rfl, by rw [e2]; rfl⟩
    | _ => cases h
theorem oK : ∀ {H : Hp} {ns : List Bool} {vs : List V}, bF H (ns.map PyData.bool) vs → vs = ns.map V.bl
  | H, [], vs, r => by rw [List.map_nil] at r; rw [r.nil_inv]; rfl
  | H, n :: ns, vs, r => by
    rw [List.map_cons] at r
    obtain ⟨v, r', rfl, p, t⟩ := r.cons_inv
    have : v = .bl n := by simpa only [Rp] using p
    rw [this, oK t]; rfl
theorem rJ (T : Tb X nl G) (j : Nat) (hG : G[j]? = some ("all" : Str)) (hm : X.mg "all" = none) (ha : bU X a fa) (he : aG a = true := by rfl) : ak X (.Call (.Name "all" p) [a] [] pos) (e1 vL fa) := by
  refine xw T j hG hm fM PyProof.Rows.boot_all (uK T.calm) (fun H x d Q hx q => ?_) ha he
  cases d with
  | list ds =>
    simp only [vL] at q
    cases ei : qp ds with
    | none => rw [ei] at q; exact q.elim
    | some k =>
      rw [ei] at q
      obtain ⟨bs, e1, e2⟩ := re ei
      obtain ⟨a', vs, rfl, h, r⟩ := fi (K := X.K) hx
      rw [e1] at r
      rw [oK r] at h
      refine ⟨a', bs, rfl, h, ?_⟩
      rw [← e2]
      exact q _ H (aR.refl _) eB
  | _ => exact q.elim
theorem Z.rJ (T : Tb X nl G) (j : Nat) (hG : G[j]? = some ("all" : Str)) (hm : X.mg "all" = none) (ha : Z.bU X a fa) (he : aG a = true := by rfl) : Z.ak X (.Call (.Name "all" p) [a] [] pos) (e1 vL fa) :=
  ⟨D2.rJ T j hG hm ha.un he⟩
end
section
variable {X : Cx} {a b c : Expr} {fa fb fc : Fe} {pos p2 : Pos} {nl : Nat} {G : List Str} {x : Str} {p : Pos}
theorem g9.change {Fm H : Hp} {σ : St} {ρ : aX} {i : Nat} {d d' : PyData} {a : Addr} {u u' : HO} (h : g9 Fm H σ ρ) (h1 : ρ[i]? = some (.own d)) (h2 : σ[i]? = some (some (.ref a))) (hu : H a = some u) (hm : (∃ xs, u = .lst xs) ∨ ∃ ks, u = .dK ks)
    (hr : iC (cx H a u') d' (.ref a)) : g9 Fm (cx H a u') σ (ρ.set i (.own d')) := by
  have hFa := h.own i d a h1 h2
  have kp : Kp H (cx H a u') := gc hu hm
  have at_i : ∀ (j : Nat) (e : PyData), (ρ.set i (.own d'))[j]? = some (.own e) → ∃ e0, ρ[j]? = some (.own e0) := fun j e q => by
    rw [List.getElem?_set] at q
    by_cases hij : i = j
    · subst hij; exact ⟨d, h1⟩
    · rw [if_neg hij] at q; exact ⟨e, q⟩
  refine ⟨fun b x e => ?_, ⟨by rw [List.length_set]; exact h.sl.1, fun j c w' e1 e2 => ?_⟩, fun j e b e1 e2 => ?_, fun j k e f b e1 e2 e3 e4 => ?_⟩
  · rw [az (bd e hFa)]; exact h.fm b x e
  · rw [List.getElem?_set] at e1
    by_cases hij : i = j
    · subst hij
      rw [if_pos rfl] at e1
      split at e1
      · cases e1
        rw [h2] at e2
        cases e2
        exact ⟨_, rfl, hr⟩
      · cases e1
    · rw [if_neg hij] at e1
      have q := h.sl.2 j c w' e1 e2
      cases c with
      | exc p => exact q
      | non => exact True.intro
      | val d1 => obtain ⟨v, z1, z2⟩ := q; exact ⟨v, z1, Rp.kp kp _ _ z2⟩
      | own d1 =>
        obtain ⟨v, z1, z2⟩ := q
        subst z1
        obtain ⟨b, ob, rfl, hb⟩ := o9 z2
        have nb : b ≠ a := fun z => hij (by subst z; exact h.apart i j d d1 b h1 e1 h2 e2)
        refine ⟨_, rfl, ?_⟩
        cases d1 <;> simp only [iC] at z2 ⊢
        · obtain ⟨b', vs, e, hb', r⟩ := z2
          cases e
          exact ⟨b, vs, rfl, by rw [az nb]; exact hb', bF.kp kp _ _ r⟩
        · obtain ⟨b', vs, e, hb', r⟩ := z2
          cases e
          exact ⟨b, vs, rfl, by rw [az nb]; exact hb', dL.kp kp _ _ r⟩
  · obtain ⟨e0, q⟩ := at_i j e e1
    exact h.own j e0 b q e2
  · obtain ⟨e0, q⟩ := at_i j e e1
    obtain ⟨f0, q'⟩ := at_i k f e2
    exact h.apart j k e0 f0 b q q' e3 e4
def vI (i : Nat) (fk fv : Fe) : Fs := fun ρ => fv ρ >>= fun v => lh (fk ρ) >>= fun k => match ρ[i]? with
  | some (.own (.dict kvs)) => match gN k with
    | some _ => if kvs.length < sizeLine then .ok (.nx (ρ.set i (.own (.dict (rn kvs k v))))) else .no
    | none => .no
  | _ => .no
theorem uJ {k : PyData} {κ : cV} (h : gN k = some κ) : k = fo κ := by
  cases k <;> simp only [gN] at h <;> cases h <;> rfl
theorem zx {H : Hp} {κ : cV} {y : V} (h : Rp H (fo κ) y) : y = kV κ := by
  cases κ <;> simp only [fo, Rp] at h <;> exact h
theorem sk {k v : Expr} {fk fv : Fe} {q1 q2 q3 : Pos} (T : Tb X nl G) (n : Nat) (hN : X.N[n]? = some x) (hk : ak X k fk) (hv : ak X v fv) (hs : swapsWith v (some (.Subscript (.Name x q1) k q2)) q3.line X.env = pure false := by rfl) :
    eY X (.Assign [.Subscript (.Name x q1) k q2] v q3) (vI n fk fv) := fun Fm => by
  have hm := T.vis x (List.mem_of_getElem? hN)
  refine PS.imp (xN (by have := T.hu; omega) (kR hN hm.1 hm.2.1 hm.2.2) hk hv hs) fun D σ H h => ?_
  refine (kI (P := gI) (f := fv) (k := fun ρ v => lh (fk ρ) >>= fun k => match ρ[n]? with
    | some (.own (.dict kvs)) => match gN k with
      | some _ => if kvs.length < sizeLine then .ok (.nx (ρ.set n (.own (.dict (rn kvs k v))))) else .no
      | none => .no
    | _ => .no) h).post fun vv H1 ⟨ρ1, dv, sl1, _, p1, q1⟩ => ?_
  have sl0 : yU X Fm (fun ρ => lh (fk ρ) >>= fun k => match ρ[n]? with
    | some (.own (.dict kvs)) => match gN k with
      | some _ => if kvs.length < sizeLine then .ok (.nx (ρ.set n (.own (.dict (rn kvs k dv))))) else .no
      | none => .no
    | _ => .no) D σ H1 := ⟨ρ1, sl1, q1⟩
  cases e : ρ1[n]? with
  | none =>
    exfalso
    rw [e] at q1
    cases e2 : fk ρ1 with
    | ok _ => rw [e2] at q1; exact q1
    | ex _ => rw [e2] at q1; exact q1
    | no => rw [e2] at q1; exact q1
  | some c =>
    rw [e] at q1
    cases c with
    | own d =>
      cases d with
      | dict kvs =>
        obtain ⟨o, h2, w', rfl, p2⟩ := sl1.sl.at e
        simp only [iC] at p2
        obtain ⟨a', ks, rfl, ha, r⟩ := p2
        refine ⟨.ref a', h2, ?_⟩
        refine ⟨ρ1, sl1.sl, ?_⟩
        cases e2 : fk ρ1 with
        | ex _ => rw [e2] at q1; exact q1.elim
        | no => rw [e2] at q1; exact q1
        | ok kd =>
          rw [e2] at q1
          simp only [lh, R.ok_bind] at q1
          intro yv H3 s3 p3
          cases e3 : gN kd with
          | none => rw [e3] at q1; exact q1.elim
          | some κ =>
            rw [e3] at q1
            dsimp only at q1
            by_cases hz : kvs.length < sizeLine
            · rw [if_pos hz] at q1
              have ek := uJ e3
              subst ek
              have ey := zx p3
              subst ey
              have ha3 := s3 _ _ ha
              have r3 : dL H3 kvs ks := dL.kp (Kp.of s3) _ _ r
              refine ⟨a', _, rfl, sN.k ha3 (by rw [r3.length]; exact hz), q1 _ _ ((sl1.mono s3).change e h2 ha3 (.inr ⟨_, rfl⟩) ?_)⟩
              simp only [iC]
              exact ⟨a', _, rfl, bi, dL.kp (gc ha3 (.inr ⟨_, rfl⟩)) _ _ (dL.put κ (p1.mono s3) r3)⟩
            · rw [if_neg hz] at q1; exact q1.elim
      | _ =>
        exfalso
        cases e2 : fk ρ1 with
        | ok _ => rw [e2] at q1; exact q1
        | ex _ => rw [e2] at q1; exact q1
        | no => rw [e2] at q1; exact q1
    | _ =>
      exfalso
      cases e2 : fk ρ1 with
      | ok _ => rw [e2] at q1; exact q1
      | ex _ => rw [e2] at q1; exact q1
      | no => rw [e2] at q1; exact q1
theorem Z.sk {k v : Expr} {fk fv : Fe} {q1 q2 q3 : Pos} (T : Tb X nl G) (n : Nat) (hN : X.N[n]? = some x) (hk : Z.ak X k fk) (hv : Z.ak X v fv) (hs : swapsWith v (some (.Subscript (.Name x q1) k q2)) q3.line X.env = pure false := by rfl) : Z.eY X (.Assign [.Subscript (.Name x q1) k q2] v q3) (vI n fk fv) :=
  ⟨D2.sk T n hN hk.un hv.un hs⟩
def du (i : Nat) (f : Fe) : Fs := fun ρ => lh (f ρ) >>= fun d => match ρ[i]? with
  | some (.own (.list ds)) => if ds.length < sizeLine then .ok (.nx (ρ.set i (.own (.list (ds ++ [d]))))) else .no
  | _ => .no
end
section
variable {prog : Program} {w : World} {A : Around} {E : Value → Shared → Prop} {s : Shared}
theorem rP {it t : Addr} {i : Nat} {items : Array Value} {x : Value} {Q : Value → Shared → Prop} (hit : s.heap.IsTupleIter it t i) (ht : s.heap.IsTuple t items) (hx : items[i]? = some x)
    (hQ : ∀ h', h'.IsTupleIter it t (i + 1) → Heap.SameBut it s.heap h' → Q x { s with heap := h' }) : wpAny (model prog w) A (Builtin.SmallTypes.nextOf (.ref it)) Q E s := by
  obtain ⟨ob, hob, hcl, hdt⟩ := id hit
  obtain ⟨ot, hot, _, nt, hdtt⟩ := ht
  unfold Builtin.SmallTypes.nextOf
  refine wpAny_bind (wpAny_callSpecial?_slot (name := Str.ofString "__next__") hit.typeIs F.slot_tuple_iterator_next (wpAny_call_entry F.slot_tuple_iterator_next hit.typeIs F.entry_tuple_iterator_next ?_ (F.args_tuple_iterator_next_1 _)))
  show wpAny _ _ (field (Value.ref it) 0 >>= _) _ _ s
  refine wpAny_bind (wpAny_field hob hdt (x := Value.ref t) rfl ?_)
  show wpAny _ _ (if (Value.ref t == Value.none) = true then _ else _) _ _ s
  rw [if_neg (by intro z; cases z)]
  show wpAny _ _ (field (Value.ref it) 1 >>= _) _ _ s
  refine wpAny_bind (wpAny_field hob hdt (x := Value.int i 0) rfl ?_)
  show wpAny _ _ (seqItems? (Value.ref t) >>= _) _ _ s
  refine wpAny_bind (wpAny_seqItems hot hdtt ?_)
  simp only [hx, Int.toNat_natCast]
  refine wpAny_bind (wpAny_setField hob hdt (by simp) (wpAny_pure ⟨x, rfl, wpAny_pure (hQ _ ⟨_, Heap.get?_update_self _ hob (Obj.isFreed_of_fields (Obj.data_mapFields hdt _)), (Obj.cls_mapFields ..).trans hcl, ?_⟩ (Heap.SameBut.update ..))⟩))
  rw [Obj.data_mapFields hdt]
  simp [rawInt]
theorem nu {it t : Addr} {i : Nat} {items : Array Value} {Q : Value → Shared → Prop} (hh : A.handled = none) (hit : s.heap.IsTupleIter it t i) (ht : s.heap.IsTuple t items) (hx : items[i]? = none)
    (hE : ∀ h' e, Heap.ExtBut it s.heap h' → (∃ o, h'.get? e = some o ∧ o.cls = .type "StopIteration") → E (.ref e) { s with heap := h' }) : wpAny (model prog w) A (Builtin.SmallTypes.nextOf (.ref it)) Q E s := by
  obtain ⟨ob, hob, hcl, hdt⟩ := id hit
  obtain ⟨ot, hot, _, nt, hdtt⟩ := ht
  unfold Builtin.SmallTypes.nextOf
  refine wpAny_bind (wpAny_callSpecial?_slot (name := Str.ofString "__next__") hit.typeIs F.slot_tuple_iterator_next (wpAny_call_entry F.slot_tuple_iterator_next hit.typeIs F.entry_tuple_iterator_next ?_ (F.args_tuple_iterator_next_1 _)))
  show wpAny _ _ (field (Value.ref it) 0 >>= _) _ _ s
  refine wpAny_bind (wpAny_field hob hdt (x := Value.ref t) rfl ?_)
  show wpAny _ _ (if (Value.ref t == Value.none) = true then _ else _) _ _ s
  rw [if_neg (by intro z; cases z)]
  show wpAny _ _ (field (Value.ref it) 1 >>= _) _ _ s
  refine wpAny_bind (wpAny_field hob hdt (x := Value.int i 0) rfl ?_)
  show wpAny _ _ (seqItems? (Value.ref t) >>= _) _ _ s
  refine wpAny_bind (wpAny_seqItems hot hdtt ?_)
  simp only [hx, Int.toNat_natCast]
  refine wpAny_bind (wpAny_rule (wpAny_bind (wpAny_setField hob hdt (by simp) ?_)))
  show wpAny _ _ (newExc (Value.type "StopIteration") [] >>= _) _ _ _
  refine wpAny_bind ?_
  simp only [newTuple, newExc]
  refine wpAny_bind (wpAny_newObj_type ?_ (by size_fits))
  refine wpAny_bind (m := firstArgMember _ _) (wpAny_of_eq (a := Value.none) (by first | rfl | (simp only [firstArgMember]; rfl)) ?_)
  refine wpAny_newObj_type ?_ (by size_fits)
  simp only [raiseNew]
  refine wpAny_bind (wpAny_handled ?_)
  first | rw [show A.in1.handled = none from hh] | rw [hh]
  exact wpAny_bind (wpAny_pure (wpAny_throw (hE _ _ (((Heap.SameBut.update ..).extBut.push _).push _) ⟨_, Heap.get?_push_size _ rfl, rfl⟩)))
end
def j9 (h : Heap) (i l : Addr) (k : Nat) (xs : Array Value) : Prop := (h.IsListIter i l k ∧ h.IsList l xs) ∨ (h.IsTupleIter i l k ∧ h.IsTuple l xs)
section
variable {h h' : Heap} {i l : Addr} {k : Nat} {xs : Array Value}
theorem j9.keep (x : j9 h i l k xs) (hi : ∀ o, h.get? i = some o → h'.get? i = some o) (hl : ∀ o, h.get? l = some o → h'.get? l = some o) : j9 h' i l k xs := by
  rcases x with ⟨⟨o, e, r⟩, ⟨o', e', r'⟩⟩ | ⟨⟨o, e, r⟩, ⟨o', e', r'⟩⟩
  · exact .inl ⟨⟨o, hi _ e, r⟩, ⟨o', hl _ e', r'⟩⟩
  · exact .inr ⟨⟨o, hi _ e, r⟩, ⟨o', hl _ e', r'⟩⟩
theorem j9.there (x : j9 h i l k xs) : (∃ o, h.get? i = some o ∧ ∀ v, o.data ≠ .cell v) ∧ ∃ o, h.get? l = some o := by
  rcases x with ⟨⟨o, e, c, d⟩, ⟨o', e', r'⟩⟩ | ⟨⟨o, e, c, d⟩, ⟨o', e', r'⟩⟩
  · exact ⟨⟨o, e, fun v z => by rw [d] at z; cases z⟩, ⟨o', e'⟩⟩
  · exact ⟨⟨o, e, fun v z => by rw [d] at z; cases z⟩, ⟨o', e'⟩⟩
end
section
variable {prog : Program} {w : World} {A : Around} {E : Value → Shared → Prop} {s : Shared} {i l : Addr} {k : Nat} {xs : Array Value}
theorem tt {x : Value} {Q : Value → Shared → Prop} (it : j9 s.heap i l k xs) (hne : l ≠ i) (hx : xs[k]? = some x) (hQ : ∀ h', j9 h' i l (k + 1) xs → Heap.SameBut i s.heap h' → Q x { s with heap := h' }) :
    wpAny (model prog w) A (Builtin.SmallTypes.nextOf (.ref i)) Q E s := by
  rcases it with ⟨h1, h2⟩ | ⟨h1, h2⟩
  · exact wpAny_nextOf_list_item h1 h2 hx fun h' a b => hQ h' (.inl ⟨a, h2.extBut b.extBut hne⟩) b
  · exact rP h1 h2 hx fun h' a b => hQ h' (.inr ⟨a, h2.extBut b.extBut hne⟩) b
theorem kW {Q : Value → Shared → Prop} (hh : A.handled = none) (it : j9 s.heap i l k xs) (hx : xs[k]? = none)
    (hE : ∀ h' e, Heap.ExtBut i s.heap h' → (∃ o, h'.get? e = some o ∧ o.cls = .type "StopIteration") → E (.ref e) { s with heap := h' }) : wpAny (model prog w) A (Builtin.SmallTypes.nextOf (.ref i)) Q E s := by
  rcases it with ⟨h1, h2⟩ | ⟨h1, h2⟩
  · exact wpAny_nextOf_list_end hh h1 h2 hx hE
  · exact nu hh h1 h2 hx hE
def rN (h : Heap) (l : Addr) (xs : Array Value) : Prop := h.IsList l xs ∨ h.IsTuple l xs
end
structure ZA (z p q i j l m : Addr) : Prop where
  pz : p ≠ z
  qz : q ≠ z
  iz : i ≠ z
  jz : j ≠ z
  pq : p ≠ q
  pi : p ≠ i
  pj : p ≠ j
  qi : q ≠ i
  qj : q ≠ j
  ij : i ≠ j
  lz : l ≠ z
  lq : l ≠ q
  li : l ≠ i
  lj : l ≠ j
  mz : m ≠ z
  mq : m ≠ q
  mi : m ≠ i
  mj : m ≠ j
structure xo (h : Heap) (z p q i j l m : Addr) (f0 : Value) (k : Nat) (xs ys : Array Value) : Prop where
  zz : IsZip h z p q f0
  pp : IsPair h p (.ref i) (.ref j)
  qq : ∃ a b, IsPair h q a b
  ii : j9 h i l k xs
  jj : j9 h j m k ys
section
variable {prog : Program} {w : World} {A : Around} {E : Value → Shared → Prop} {s : Shared} {z p q i j l m : Addr} {k : Nat} {xs ys : Array Value}
theorem wx {x y : Value} {Q : Value → Shared → Prop} (D : ZA z p q i j l m) (S : xo s.heap z p q i j l m .none k xs ys) (hx : xs[k]? = some x) (hy : ys[k]? = some y)
    (hQ : ∀ h', xo h' z p q i j l m (rawInt s.heap.objs.size) (k + 1) xs ys → IsPair h' s.heap.objs.size x y → (∀ c o, c ≠ z → c ≠ q → c ≠ i → c ≠ j → s.heap.get? c = some o → h'.get? c = some o) → Q (.ref s.heap.objs.size) { s with heap := h' }) :
    wpAny (model prog w) A (Builtin.«zip.__next__» ⟨[.ref z], []⟩) (fun fin s' => ∃ v, fin = .done (.ret v) ∧ Q v s') E s := by
  obtain ⟨hz, hp, ⟨a, b, hq⟩, hi, hj⟩ := S
  show wpAny _ _ (field (Value.ref z) 2 >>= _) _ _ _
  refine wpAny_bind (wpAny_field hz rfl (x := Value.bool false) rfl ?_)
  show wpAny _ _ (field (Value.ref z) 3 >>= _) _ _ _
  refine wpAny_bind (wpAny_field hz rfl (x := Value.ref p) rfl ?_)
  refine wpAny_bind (wpAny_seqItems hp rfl ?_)
  show wpAny _ _ (Builtin.SmallTypes.ownedTupleIsFree (Value.ref z) >>= _) _ _ _
  refine wpAny_bind ?_
  unfold Builtin.SmallTypes.ownedTupleIsFree
  refine wpAny_bind (wpAny_field hz rfl (x := Value.none) rfl (wpAny_pure ?_))
  simp only [if_true]
  refine wpAny_bind (wpAny_rule ?_)
  refine wpAny_bind (wpAny_field hz rfl (x := Value.ref q) rfl ?_)
  refine wpAny_bind (wpAny_setField_rec hz (by simp) fun g1 z1 s1 => ?_)
  replace z1 : IsZip g1 z p q .ellipsis := z1
  refine wpAny_bind ?_
  simp only [List.zipIdx_cons, List.zipIdx_nil, List.forIn_cons, List.forIn_nil]
  refine wpAny_bind (wpAny_bind (wpAny_onRaise ?_))
  show wpAny _ _ (Builtin.SmallTypes.nextOf (Value.ref i) >>= _) _ _ _
  have hi1 : j9 g1 i l k xs := hi.keep (fun o e => s1.extBut _ _ D.iz e) fun o e => s1.extBut _ _ D.lz e
  refine wpAny_bind (tt hi1 D.li hx fun g2 i2 s2 => wpAny_pure ?_)
  have q2 : IsPair g2 q a b := s2.extBut _ _ D.qi (s1.extBut _ _ D.qz hq)
  refine wpAny_bind (wpAny_seqItems q2 rfl ?_)
  refine wpAny_bind (wpAny_updateSeq_pair q2 fun g3 q3 s3 => ?_)
  replace q3 : IsPair g3 q x b := q3
  refine wpAny_bind (wpAny_letGo (wpAny_pure ?_))
  refine wpAny_bind (wpAny_bind (wpAny_onRaise ?_))
  show wpAny _ _ (Builtin.SmallTypes.nextOf (Value.ref j) >>= _) _ _ _
  have hj3 : j9 g3 j m k ys := hj.keep (fun o e => s3.extBut _ _ D.qj.symm (s2.extBut _ _ D.ij.symm (s1.extBut _ _ D.jz e))) fun o e => s3.extBut _ _ D.mq (s2.extBut _ _ D.mi (s1.extBut _ _ D.mz e))
  refine wpAny_bind (tt hj3 D.mj hy fun g4 j4 s4 => wpAny_pure ?_)
  have q4 : IsPair g4 q x b := s4.extBut _ _ D.qj q3
  refine wpAny_bind (wpAny_seqItems q4 rfl ?_)
  refine wpAny_bind (wpAny_updateSeq_pair q4 fun g5 q5 s5 => ?_)
  replace q5 : IsPair g5 q x y := q5
  refine wpAny_bind (wpAny_letGo (wpAny_pure (wpAny_pure ?_)))
  refine wpAny_bind (wpAny_seqItems q5 rfl ?_)
  refine wpAny_bind (wpAny_newTuple ?_)
  have hsz : g5.objs.size = s.heap.objs.size := by rw [s5.1, s4.1, s3.1, s2.1, s1.1]
  have z5 : IsZip g5 z p q .ellipsis := s5.extBut _ _ D.qz.symm (s4.extBut _ _ D.jz.symm (s3.extBut _ _ D.qz.symm (s2.extBut _ _ D.iz.symm z1)))
  have k5 : ∀ c o, c ≠ z → c ≠ q → c ≠ i → c ≠ j → s.heap.get? c = some o → g5.get? c = some o := fun c o c1 c2 c3 c4 e => s5.extBut _ _ c2 (s4.extBut _ _ c4 (s3.extBut _ _ c2 (s2.extBut _ _ c3 (s1.extBut _ _ c1 e))))
  have i5 : j9 g5 i l (k + 1) xs := i2.keep (fun o e => s5.extBut _ _ D.qi.symm (s4.extBut _ _ D.ij (s3.extBut _ _ D.qi.symm e))) fun o e => s5.extBut _ _ D.lq (s4.extBut _ _ D.lj (s3.extBut _ _ D.lq e))
  have j5 : j9 g5 j m (k + 1) ys := j4.keep (fun o e => s5.extBut _ _ D.qj.symm e) fun o e => s5.extBut _ _ D.mq e
  have zlt : z < g5.objs.size := Heap.lt_size z5
  show wpAny _ _ (Builtin.SmallTypes.ownedTupleHandOut (Value.ref z) (Value.ref g5.objs.size) >>= _) _ _ _
  refine wpAny_bind ?_
  unfold Builtin.SmallTypes.ownedTupleHandOut
  have z6 : IsZip (g5.push { cls := .type "tuple", data := .seq #[x, y] }) z p q .ellipsis := Heap.get?_push_of_some _ z5
  refine wpAny_bind (wpAny_setField_rec z6 (by simp) fun g7 z7 s7 => ?_)
  replace z7 : IsZip g7 z p q (rawInt g5.objs.size) := z7
  refine wpAny_setField_rec z7 (by simp) fun g8 z8 s8 => ?_
  replace z8 : IsZip g8 z p q (rawInt g5.objs.size) := z8
  have up : ∀ c o, c ≠ z → g5.get? c = some o → g8.get? c = some o := fun c o c1 e => s8.extBut _ _ c1 (s7.extBut _ _ c1 (Heap.get?_push_of_some _ e))
  have t8 : IsPair g8 g5.objs.size x y := s8.extBut _ _ (Nat.ne_of_gt zlt) (s7.extBut _ _ (Nat.ne_of_gt zlt) (Heap.get?_push_size _ rfl))
  rw [hsz] at z8 t8
  refine wpAny_pure ⟨_, rfl, ?_⟩
  show Q (.ref g5.objs.size) _
  rw [hsz]
  exact hQ g8 ⟨z8, up _ _ D.pz (k5 _ _ D.pz D.pq D.pi D.pj hp), ⟨x, y, up _ _ D.qz q5⟩, i5.keep (fun o e => up _ _ D.iz e) fun o e => up _ _ D.lz e, j5.keep (fun o e => up _ _ D.jz e) fun o e => up _ _ D.mz e⟩ t8 fun c o c1 c2 c3 c4 e => up c o c1 (k5 c o c1 c2 c3 c4 e)
theorem yg {Q : PySem.Fin → Shared → Prop} (hh : A.handled = none) (D : ZA z p q i j l m) (S : xo s.heap z p q i j l m .none k xs ys) (hend : xs[k]? = none ∨ ys[k]? = none)
    (hE : ∀ h' e, (∀ c o, c ≠ z → c ≠ q → c ≠ i → c ≠ j → s.heap.get? c = some o → h'.get? c = some o) → (∃ o, h'.get? e = some o ∧ o.cls = .type "StopIteration") → E (.ref e) { s with heap := h' }) :
    wpAny (model prog w) A (Builtin.«zip.__next__» ⟨[.ref z], []⟩) Q E s := by
  obtain ⟨hz, hp, ⟨a, b, hq⟩, hi, hj⟩ := S
  show wpAny _ _ (field (Value.ref z) 2 >>= _) _ _ _
  refine wpAny_bind (wpAny_field hz rfl (x := Value.bool false) rfl ?_)
  show wpAny _ _ (field (Value.ref z) 3 >>= _) _ _ _
  refine wpAny_bind (wpAny_field hz rfl (x := Value.ref p) rfl ?_)
  refine wpAny_bind (wpAny_seqItems hp rfl ?_)
  show wpAny _ _ (Builtin.SmallTypes.ownedTupleIsFree (Value.ref z) >>= _) _ _ _
  refine wpAny_bind ?_
  unfold Builtin.SmallTypes.ownedTupleIsFree
  refine wpAny_bind (wpAny_field hz rfl (x := Value.none) rfl (wpAny_pure ?_))
  simp only [if_true]
  refine wpAny_bind (wpAny_rule ?_)
  refine wpAny_bind (wpAny_field hz rfl (x := Value.ref q) rfl ?_)
  refine wpAny_bind (wpAny_setField_rec hz (by simp) fun g1 z1 s1 => ?_)
  replace z1 : IsZip g1 z p q .ellipsis := z1
  refine wpAny_bind ?_
  simp only [List.zipIdx_cons, List.zipIdx_nil, List.forIn_cons, List.forIn_nil]
  refine wpAny_bind (wpAny_bind (wpAny_onRaise ?_))
  show wpAny _ _ (Builtin.SmallTypes.nextOf (Value.ref i) >>= _) _ _ _
  have hi1 : j9 g1 i l k xs := hi.keep (fun o e => s1.extBut _ _ D.iz e) fun o e => s1.extBut _ _ D.lz e
  cases hx : xs[k]? with
  | none =>
    refine wpAny_bind (kW hh hi1 hx fun g2 e s2 he => ?_)
    obtain ⟨oe, hoe, hce⟩ := he
    have z2 : IsZip g2 z p q .ellipsis := s2 _ _ D.iz.symm z1
    have hez : e ≠ z := fun t => by subst t; rw [z2] at hoe; cases hoe; simp at hce
    exact wpAny_setField_rec z2 (by simp) fun g3 _ s3 => hE g3 e (fun c o c1 _ c3 _ t => s3.extBut _ _ c1 (s2 _ _ c3 (s1.extBut _ _ c1 t))) ⟨oe, s3.extBut _ _ hez hoe, hce⟩
  | some x =>
    have hy : ys[k]? = none := by rcases hend with t | t; rw [hx] at t; cases t; exact t
    refine wpAny_bind (tt hi1 D.li hx fun g2 i2 s2 => wpAny_pure ?_)
    have q2 : IsPair g2 q a b := s2.extBut _ _ D.qi (s1.extBut _ _ D.qz hq)
    refine wpAny_bind (wpAny_seqItems q2 rfl ?_)
    refine wpAny_bind (wpAny_updateSeq_pair q2 fun g3 q3 s3 => ?_)
    refine wpAny_bind (wpAny_letGo (wpAny_pure ?_))
    refine wpAny_bind (wpAny_bind (wpAny_onRaise ?_))
    show wpAny _ _ (Builtin.SmallTypes.nextOf (Value.ref j) >>= _) _ _ _
    have hj3 : j9 g3 j m k ys := hj.keep (fun o e => s3.extBut _ _ D.qj.symm (s2.extBut _ _ D.ij.symm (s1.extBut _ _ D.jz e))) fun o e => s3.extBut _ _ D.mq (s2.extBut _ _ D.mi (s1.extBut _ _ D.mz e))
    refine wpAny_bind (kW hh hj3 hy fun g4 e s4 he => ?_)
    obtain ⟨oe, hoe, hce⟩ := he
    have z4 : IsZip g4 z p q .ellipsis := s4 _ _ D.jz.symm (s3.extBut _ _ D.qz.symm (s2.extBut _ _ D.iz.symm z1))
    have hez : e ≠ z := fun t => by subst t; rw [z4] at hoe; cases hoe; simp at hce
    exact wpAny_setField_rec z4 (by simp) fun g5 _ s5 => hE g5 e (fun c o c1 c2 c3 c4 t => s5.extBut _ _ c1 (s4 _ _ c4 (s3.extBut _ _ c2 (s2.extBut _ _ c3 (s1.extBut _ _ c1 t))))) ⟨oe, s5.extBut _ _ hez hoe, hce⟩
theorem rA {x y : Value} {Q : Option Value → Shared → Prop} (D : ZA z p q i j l m) (S : xo s.heap z p q i j l m .none k xs ys) (hx : xs[k]? = some x) (hy : ys[k]? = some y)
    (hQ : ∀ h', xo h' z p q i j l m (rawInt s.heap.objs.size) (k + 1) xs ys → IsPair h' s.heap.objs.size x y → (∀ c o, c ≠ z → c ≠ q → c ≠ i → c ≠ j → s.heap.get? c = some o → h'.get? c = some o) → Q (some (.ref s.heap.objs.size)) { s with heap := h' }) :
    wpAny (model prog w) A (pyNext (.ref z)) Q E s := by
  have hT : s.TypeIs (.ref z) "zip" := ⟨_, S.zz, rfl⟩
  unfold pyNext
  exact wpAny_bind (wpAny_attempt (wpAny_callSpecial?_slot (name := Str.ofString "__next__") hT F.slot_zip_next (wpAny_call_entry F.slot_zip_next hT F.entry_zip_next (wx D S hx hy fun h' a b c => wpAny_pure (hQ h' a b c)) (F.args_zip_next_1 _))))
theorem vy {Q : Option Value → Shared → Prop} (hh : A.handled = none) (D : ZA z p q i j l m) (S : xo s.heap z p q i j l m .none k xs ys) (hend : xs[k]? = none ∨ ys[k]? = none)
    (hQ : ∀ h', (∀ c o, c ≠ z → c ≠ q → c ≠ i → c ≠ j → s.heap.get? c = some o → h'.get? c = some o) → Q none { s with heap := h' }) : wpAny (model prog w) A (pyNext (.ref z)) Q E s := by
  have hT : s.TypeIs (.ref z) "zip" := ⟨_, S.zz, rfl⟩
  unfold pyNext
  refine wpAny_bind (wpAny_attempt (wpAny_callSpecial?_slot (name := Str.ofString "__next__") hT F.slot_zip_next (wpAny_call_entry F.slot_zip_next hT F.entry_zip_next (yg hh D S hend fun h' e hk he => ?_) (F.args_zip_next_1 _))))
  obtain ⟨o, ho, hc⟩ := he
  exact wpAny_bind (wpAny_isInstance (T := "StopIteration") (b := true) ⟨o, ho, hc⟩ isSubtype_stop (wpAny_pure (hQ _ hk)))
theorem x9 (l m : Addr) (xs ys : Array Value) : Meets (Builtin.«zip.__new__» ⟨[.type "zip", .ref l, .ref m], []⟩) (fun _ R s => rN s.heap l xs ∧ rN s.heap m ys ∧
    ∀ h', h'.objs.size = s.heap.objs.size + 5 → xo h' (s.heap.objs.size + 4) (s.heap.objs.size + 2) (s.heap.objs.size + 3) s.heap.objs.size (s.heap.objs.size + 1) l m .none 0 xs ys → (∀ c o, s.heap.get? c = some o → h'.get? c = some o) →
      R (.ok (.ret (.ref (s.heap.objs.size + 4)))) { s with heap := h' }) :=
  .of_wp fun prog w A R s h => by
    obtain ⟨hp, g, d, tk, os⟩ := s; obtain ⟨h1, h2, h⟩ := h
    have hsub := sub_zip
    have fin : ∀ (oi oj : Obj), j9 (hp.push oi) hp.objs.size l 0 xs → j9 ((hp.push oi).push oj) (hp.push oi).objs.size m 0 ys →
        R (.ok (.ret (.ref ((((hp.push oi).push oj).push { cls := .type "tuple", data := .seq #[.ref hp.objs.size, .ref (hp.push oi).objs.size] }).push { cls := .type "tuple", data := .seq #[.none, .none] }).objs.size)))
          ⟨((((hp.push oi).push oj).push { cls := .type "tuple", data := .seq #[.ref hp.objs.size, .ref (hp.push oi).objs.size] }).push { cls := .type "tuple", data := .seq #[.none, .none] }).push { cls := .type "zip", data := .fields #[.none, .bool false, .bool false, .ref ((hp.push oi).push oj).objs.size, .ref (((hp.push oi).push oj).push { cls := .type "tuple", data := .seq #[.ref hp.objs.size, .ref (hp.push oi).objs.size] }).objs.size] }, g, d, tk, os⟩ := fun oi oj hi hj => by
      have e1 : (hp.push oi).objs.size = hp.objs.size + 1 := Heap.size_push ..
      have e2 : ((hp.push oi).push oj).objs.size = hp.objs.size + 2 := by rw [Heap.size_push, e1]
      have e3 : (((hp.push oi).push oj).push { cls := .type "tuple", data := .seq #[.ref hp.objs.size, .ref (hp.push oi).objs.size] }).objs.size = hp.objs.size + 3 := by rw [Heap.size_push, e2]
      have e4 : ((((hp.push oi).push oj).push { cls := .type "tuple", data := .seq #[.ref hp.objs.size, .ref (hp.push oi).objs.size] }).push { cls := .type "tuple", data := .seq #[.none, .none] }).objs.size = hp.objs.size + 4 := by rw [Heap.size_push, e3]
      rw [e4, e3, e2]
      rw [e1] at hj ⊢
      have kk : ∀ (c : Addr) (o a b c' : Obj), ((hp.push oi).push oj).get? c = some o → (((((hp.push oi).push oj).push a).push b).push c').get? c = some o := fun c o a b c' e => Heap.get?_push_of_some _ (Heap.get?_push_of_some _ (Heap.get?_push_of_some _ e))
      refine h _ (by rw [Heap.size_push, Heap.size_push, Heap.size_push, e2]) ⟨?_, ?_, ⟨.none, .none, ?_⟩, ?_, ?_⟩ fun c o e => kk _ _ _ _ _ (Heap.get?_push_of_some _ (Heap.get?_push_of_some _ e))
      · have : hp.objs.size + 4 = ((((hp.push oi).push oj).push { cls := .type "tuple", data := .seq #[.ref hp.objs.size, .ref (hp.objs.size + 1)] }).push { cls := .type "tuple", data := .seq #[.none, .none] }).objs.size := by rw [Heap.size_push, Heap.size_push, e2]
        show Heap.get? _ (hp.objs.size + 4) = _
        rw [this]
        exact Heap.get?_push_size _ rfl
      · refine Heap.get?_push_of_some _ (Heap.get?_push_of_some _ ?_)
        show Heap.get? _ (hp.objs.size + 2) = _
        rw [← e2]
        exact Heap.get?_push_size _ rfl
      · refine Heap.get?_push_of_some _ ?_
        have : hp.objs.size + 3 = (((hp.push oi).push oj).push { cls := .type "tuple", data := .seq #[.ref hp.objs.size, .ref (hp.objs.size + 1)] }).objs.size := by rw [Heap.size_push, e2]
        show Heap.get? _ (hp.objs.size + 3) = _
        rw [this]
        exact Heap.get?_push_size _ rfl
      · exact hi.keep (fun o e => kk _ _ _ _ _ (Heap.get?_push_of_some _ e)) fun o e => kk _ _ _ _ _ (Heap.get?_push_of_some _ e)
      · exact hj.keep (fun o e => kk _ _ _ _ _ e) fun o e => kk _ _ _ _ _ e
    rcases h1 with h1 | h1 <;> rcases h2 with h2 | h2
    · have l1 : Heap.IsList (Shared.heap ⟨hp, g, d, tk, os⟩) l xs := h1
      have l2 : Heap.IsList (Shared.heap ⟨hp.push { cls := .type "list_iterator", data := .fields #[.ref l, .int 0 0] }, g, d, tk, os⟩) m ys := Heap.IsList.push h2 _
      wp_walk using wpAny_pyIter_list l1, wpAny_pyIter_list l2
      exact ⟨_, rfl, fin _ _ (.inl ⟨⟨_, Heap.get?_push_size _ rfl, rfl, rfl⟩, Heap.IsList.push h1 _⟩) (.inl ⟨⟨_, Heap.get?_push_size _ rfl, rfl, rfl⟩, Heap.IsList.push l2 _⟩)⟩
    · have l1 : Heap.IsList (Shared.heap ⟨hp, g, d, tk, os⟩) l xs := h1
      have l2 : Heap.IsTuple (Shared.heap ⟨hp.push { cls := .type "list_iterator", data := .fields #[.ref l, .int 0 0] }, g, d, tk, os⟩) m ys := Heap.IsTuple.push h2 _
      wp_walk using wpAny_pyIter_list l1, wpAny_pyIter_tuple l2
      exact ⟨_, rfl, fin _ _ (.inl ⟨⟨_, Heap.get?_push_size _ rfl, rfl, rfl⟩, Heap.IsList.push h1 _⟩) (.inr ⟨⟨_, Heap.get?_push_size _ rfl, rfl, rfl⟩, Heap.IsTuple.push l2 _⟩)⟩
    · have l1 : Heap.IsTuple (Shared.heap ⟨hp, g, d, tk, os⟩) l xs := h1
      have l2 : Heap.IsList (Shared.heap ⟨hp.push { cls := .type "tuple_iterator", data := .fields #[.ref l, .int 0 0] }, g, d, tk, os⟩) m ys := Heap.IsList.push h2 _
      wp_walk using wpAny_pyIter_tuple l1, wpAny_pyIter_list l2
      exact ⟨_, rfl, fin _ _ (.inr ⟨⟨_, Heap.get?_push_size _ rfl, rfl, rfl⟩, Heap.IsTuple.push h1 _⟩) (.inl ⟨⟨_, Heap.get?_push_size _ rfl, rfl, rfl⟩, Heap.IsList.push l2 _⟩)⟩
    · have l1 : Heap.IsTuple (Shared.heap ⟨hp, g, d, tk, os⟩) l xs := h1
      have l2 : Heap.IsTuple (Shared.heap ⟨hp.push { cls := .type "tuple_iterator", data := .fields #[.ref l, .int 0 0] }, g, d, tk, os⟩) m ys := Heap.IsTuple.push h2 _
      wp_walk using wpAny_pyIter_tuple l1, wpAny_pyIter_tuple l2
      exact ⟨_, rfl, fin _ _ (.inr ⟨⟨_, Heap.get?_push_size _ rfl, rfl, rfl⟩, Heap.IsTuple.push h1 _⟩) (.inr ⟨⟨_, Heap.get?_push_size _ rfl, rfl, rfl⟩, Heap.IsTuple.push l2 _⟩)⟩
theorem wm {Q : Value → Shared → Prop} {l m : Addr} (h1 : rN s.heap l xs) (h2 : rN s.heap m ys)
    (h : ∀ h', h'.objs.size = s.heap.objs.size + 5 → xo h' (s.heap.objs.size + 4) (s.heap.objs.size + 2) (s.heap.objs.size + 3) s.heap.objs.size (s.heap.objs.size + 1) l m .none 0 xs ys → (∀ c o, s.heap.get? c = some o → h'.get? c = some o) →
      Q (.ref (s.heap.objs.size + 4)) { s with heap := h' }) : wpAny (model prog w) A (call (.type "zip") [.ref l, .ref m]) Q E s := by
  refine callType_new F.called_zip (by decide) (F.typeCall_zip_2 _ _) (F.newCall_zip_2 _ _) (fun obj => F.args_object_init_3 obj _ _) F.entry_zip_new (x9 l m xs ys) ⟨h1, h2, fun h' e S k => ?_⟩
  exact ⟨⟨_, S.zz, rfl⟩, h h' e S k⟩
end
section
variable {X : Cx} {pins : List (Addr × Obj)} {σ : St} {H : Hp} {s : Shared} {h' : Heap}
theorem iW {t' : Nat} {fp : List Addr} (I : aU X pins σ H s) (k : ∀ b o, b ∉ fp → s.heap.get? b = some o → h'.get? b = some o) (hf : ∀ b ∈ fp, lK X pins H b) : aU X pins σ H { s with heap := h', toks := t' } := by
  have away : ∀ b u, H b = some u → b ∉ fp := fun b u e z => by rw [(hf b z).1] at e; cases e
  have frame : X.env.locals ∉ fp := fun z => (hf _ z).2.1 rfl
  refine I.step (g' := s.gens) (d' := s.drawn) (ch := fp) (fun b hb => ⟨(hf b hb).2.2.2.1, (hf b hb).2.1, (hf b hb).2.2.2.2.1, (hf b hb).2.2.2.2.2⟩) (fun b o _ _ hc e _ => k b o hc e) (fun b o _ _ hc e _ => ⟨o.slots, k b o hc e⟩) (fun _ _ _ _ n => n)
    (fun b o hc e => ⟨o, k b o hc e⟩) (fun _ _ e => e) (fun _ _ _ e => e) (fun b ps e => ⟨#[], by rw [e]; simp⟩) (fun m ⟨o, es, ep, ho, r⟩ => ⟨o, es, ep, k _ o frame ho, r⟩) (fun b u e => ?_) I.bare
  refine (I.hok b u e).stay (fun c v hc q => k c v ?_ q) (fun _ q => q) fun _ _ q => q
  rcases hc with z | z
  · rw [z]; exact away b u e
  · exact away c _ z
theorem vF {h : Heap} {o o' : Obj} {b : Addr} (hb : b ≠ h.objs.size) (e : (h.push o).get? b = some o') : h.get? b = some o' := by
  unfold Heap.get? Heap.push at e
  unfold Heap.get?
  simp only [Array.getElem?_push] at e
  rw [if_neg hb] at e
  exact e
theorem ur {t' : Nat} {fp : List Addr} {u1 u2 : Value} {v1 v2 : V} (I : aU X pins σ H s) (hf : ∀ b ∈ fp, lK X pins H b) (hob : ∀ b ∈ fp, b < s.heap.objs.size) (ht : IsPair h' s.heap.objs.size u1 u2) (k : ∀ b o, b ∉ fp → s.heap.get? b = some o → h'.get? b = some o)
    (r1 : bM v1 u1) (r2 : bM v2 u2) : aU X pins σ (cx H s.heap.objs.size (.tup [v1, v2])) { s with heap := h', toks := t' } := by
  have I1 : aU X pins σ (cx H s.heap.objs.size (.tup [v1, v2])) { s with heap := s.heap.push { cls := .type "tuple", data := .seq #[u1, u2] }, toks := s.toks } :=
    I.laid (fun b u e => Heap.get?_push_of_some _ e) (Nat.le_refl _) ⟨by show 2 ≤ sizeLine; decide, [u1, u2], .cons r1 (.cons r2 .nil), _, Heap.get?_push_size _ rfl, rfl, _, rfl⟩
  refine iW (fp := fp) (s := { s with heap := s.heap.push { cls := .type "tuple", data := .seq #[u1, u2] }, toks := s.toks }) I1 (fun b o hb e => ?_) fun b hb => ?_
  · by_cases hz : b = s.heap.objs.size
    · subst hz
      have e' : (s.heap.push { cls := .type "tuple", data := .seq #[u1, u2] }).get? s.heap.objs.size = some o := e
      rw [Heap.get?_push_size _ rfl] at e'
      cases e'
      exact ht
    · exact k b o hb (vF hz e)
  · obtain ⟨f0, f1, f2, f3, f4, f5⟩ := hf b hb
    exact ⟨by rw [az (Nat.ne_of_lt (hob b hb))]; exact f0, f1, f2, f3, f4, f5⟩
end
def p6 (K : PySem.W.Frag) (H : Hp) (a : Addr) (xs : List V) : Bool → Prop
  | true => i4 K H a xs
  | false => lZ K H a xs
def fE (h : Heap) (i l : Addr) (k : Nat) : Bool → Prop
  | true => h.IsTupleIter i l k
  | false => h.IsListIter i l k
theorem fE.keep {h h' : Heap} {i l : Addr} {k : Nat} {b : Bool} (x : fE h i l k b) (hi : ∀ o, h.get? i = some o → h'.get? i = some o) : fE h' i l k b := by
  cases b
  · obtain ⟨o, e, r⟩ := x; exact ⟨o, hi _ e, r⟩
  · obtain ⟨o, e, r⟩ := x; exact ⟨o, hi _ e, r⟩
theorem fE.there {h : Heap} {i l : Addr} {k : Nat} {b : Bool} (x : fE h i l k b) : ∃ o, h.get? i = some o ∧ ∀ v, o.data ≠ .cell v := by
  cases b
  · obtain ⟨o, e, c, d⟩ := x; exact ⟨o, e, fun v z => by rw [d] at z; cases z⟩
  · obtain ⟨o, e, c, d⟩ := x; exact ⟨o, e, fun v z => by rw [d] at z; cases z⟩
section
variable {X : Cx} {pins : List (Addr × Obj)} {σ : St} {H : Hp} {s : Shared}
theorem hW {a : Addr} {xs : List V} {b : Bool} (I : aU X pins σ H s) (h : p6 X.K H a xs b) : ∃ its : List Value, bw xs its ∧ rN s.heap a its.toArray ∧ ∀ (i : Addr) (k : Nat), fE s.heap i a k b → j9 s.heap i a k its.toArray := by
  cases b
  · obtain ⟨its, rv, p, _⟩ := I.list h
    exact ⟨its, rv, .inl p.isList, fun i k z => .inl ⟨z, p.isList⟩⟩
  · obtain ⟨its, rv, p, _⟩ := I.tuple h
    exact ⟨its, rv, .inr p, fun i k z => .inr ⟨z, p⟩⟩
theorem j8 {a : Addr} {xs ys : List V} {b : Bool} (I : aU X pins σ H s) (h : p6 X.K H a xs b) (h' : p6 X.K H a ys b) : ys = xs := by
  cases b
  · exact I.list_inj h' h
  · exact I.tuple_inj h' h
theorem j9.toB {h : Heap} {i l : Addr} {k : Nat} {xs : Array Value} {b : Bool} (hl : ∀ ys, (b = true → ¬ h.IsList l ys) ∧ (b = false → ¬ h.IsTuple l ys)) (x : j9 h i l k xs) : fE h i l k b := by
  cases b
  · rcases x with ⟨z, w⟩ | ⟨z, w⟩
    · exact z
    · exact absurd w ((hl xs).2 rfl)
  · rcases x with ⟨z, w⟩ | ⟨z, w⟩
    · exact absurd w ((hl xs).1 rfl)
    · exact z
theorem dm {h : Heap} {l : Addr} {xs ys : Array Value} (a : h.IsList l xs) (b : h.IsTuple l ys) : False := by
  obtain ⟨o, e, c, _⟩ := a
  obtain ⟨o', e', c', _⟩ := b
  rw [e] at e'; cases e'
  rw [c] at c'
  injection c' with z
  exact absurd z (by decide)
theorem mo {a : Addr} {xs : List V} {b : Bool} (I : aU X pins σ H s) (h : p6 X.K H a xs b) {h' : Heap} (kp : ∀ c o, s.heap.get? c = some o → h'.get? c = some o) : ∀ ys, (b = true → ¬ h'.IsList a ys) ∧ (b = false → ¬ h'.IsTuple a ys) := fun ys => by
  cases b
  · obtain ⟨its, rv, p, _⟩ := I.list h
    refine ⟨fun z => (by cases z), fun _ w => ?_⟩
    obtain ⟨o, e, r⟩ := p.isList
    exact dm (h := h') (xs := its.toArray) ⟨o, kp _ _ e, r⟩ w
  · obtain ⟨its, rv, p, _⟩ := I.tuple h
    refine ⟨fun _ w => ?_, fun z => by cases z⟩
    obtain ⟨o, e, r⟩ := p
    exact dm (h := h') w ⟨o, kp _ _ e, r⟩
end
def Cw (K : PySem.W.Frag) (l m : Addr) (b c : Bool) : It :=
  ⟨fun i H => ∃ xs ys x y, p6 K H l xs b ∧ p6 K H m ys c ∧ xs[i]? = some x ∧ ys[i]? = some y,
   fun i H v H' => ∃ a x y, H a = none ∧ v = .ref a ∧ H' = cx H a (.tup [x, y]) ∧ (∀ xs, p6 K H l xs b → xs[i]? = some x) ∧ ∀ ys, p6 K H m ys c → ys[i]? = some y,
   fun i H => ∃ xs ys, p6 K H l xs b ∧ p6 K H m ys c ∧ (xs.length ≤ i ∨ ys.length ≤ i)⟩
structure Dg (z p q i j l m : Addr) (b c : Bool) (k : Nat) (h : Heap) : Prop where
  zz : IsZip h z p q .none
  pp : IsPair h p (.ref i) (.ref j)
  qq : ∃ a b, IsPair h q a b
  ii : fE h i l k b
  jj : fE h j m k c
theorem wl {P : Program} {w : World} {K : PySem.W.Frag} {elts : List Expr} {x1} {pos : Pos} {z p q i j l m : Addr} {b c : Bool} (D : ZA z p q i j l m) : rO P w K (.Tuple elts x1 pos) (Cw K l m b c) [z, p, q, i, j] z (Dg z p q i j l m b c) where
  mem := by simp
  obj := fun k h st a ha => by
    simp only [List.mem_cons, List.not_mem_nil, or_false] at ha
    rcases ha with rfl | rfl | rfl | rfl | rfl
    · exact ⟨_, st.zz, fun v e => by cases e⟩
    · exact ⟨_, st.pp, fun v e => by cases e⟩
    · obtain ⟨_, _, e⟩ := st.qq; exact ⟨_, e, fun v e => by cases e⟩
    · exact st.ii.there
    · exact st.jj.there
  keep := fun k h h' st kp => ⟨kp z (by simp) _ st.zz, kp p (by simp) _ st.pp, let ⟨a, b, e⟩ := st.qq; ⟨a, b, kp q (by simp) _ e⟩, st.ii.keep fun o e => kp i (by simp) o e, st.jj.keep fun o e => kp j (by simp) o e⟩
  item := by
    intro X hP hw hK hc k pins s σ H E I hf st hg
    subst hP hw hK
    obtain ⟨xs, ys, x, y, h1, h2, hx, hy⟩ := hg
    obtain ⟨its, rv, _, p1⟩ := hW I h1
    obtain ⟨jts, rw', _, p2⟩ := hW I h2
    obtain ⟨u, hu, ru⟩ := rv.get hx
    obtain ⟨v, hv, ry⟩ := rw'.get hy
    have S : xo s.heap z p q i j l m .none k its.toArray jts.toArray := ⟨st.zz, st.pp, st.qq, p1 _ _ st.ii, p2 _ _ st.jj⟩
    refine rA D S (x := u) (y := v) (by simpa using hu) (by simpa using hv) fun h' S' hp kp => ⟨_, rfl, ?_⟩
    have zlt : z < s.heap.objs.size := Heap.lt_size st.zz
    refine wpAny_letOwnedTupleGo_zip (s := { s with heap := h' }) S'.zz fun h2' hz2 sb => ?_
    have up : ∀ a o, a ≠ z → h'.get? a = some o → h2'.get? a = some o := fun a o ha e => sb.extBut a o ha e
    have hob : ∀ a ∈ [z, p, q, i, j], a < s.heap.objs.size := fun a ha => by
      simp only [List.mem_cons, List.not_mem_nil, or_false] at ha
      rcases ha with rfl | rfl | rfl | rfl | rfl
      · exact Heap.lt_size st.zz
      · exact Heap.lt_size st.pp
      · obtain ⟨_, _, e⟩ := st.qq; exact Heap.lt_size e
      · obtain ⟨o, e, _⟩ := st.ii.there; exact Heap.lt_size e
      · obtain ⟨o, e, _⟩ := st.jj.there; exact Heap.lt_size e
    have hn : H s.heap.objs.size = none := I.hok.fresh (Nat.le_refl _)
    refine ⟨.ref s.heap.objs.size, _, ur (s := s) (t' := s.toks) (fp := [z, p, q, i, j]) (h' := h2') (u1 := u) (u2 := v) (v1 := x) (v2 := y) I hf hob (up _ _ (Nat.ne_of_gt zlt) hp) (fun a o ha e => ?_) ru ry, rfl, ⟨_, x, y, hn, rfl, rfl, fun zs hz => by rw [j8 I h1 hz]; exact hx, fun zs hz => by rw [j8 I h2 hz]; exact hy⟩, ?_, fun a ha => ?_⟩
    · simp only [List.mem_cons, List.not_mem_nil, or_false, not_or] at ha
      exact up a o ha.1 (kp a o ha.1 ha.2.2.1 ha.2.2.2.1 ha.2.2.2.2 e)
    · have i2 : fE h' i l (k + 1) b := by
        refine S'.ii.toB fun ys => ?_
        cases hb : b
        · subst hb
          refine ⟨fun z => (by cases z), fun _ w => ?_⟩
          obtain ⟨_, _, pl, _⟩ := I.list h1
          obtain ⟨o, e, r⟩ := pl.isList
          exact dm (h := h') (xs := _) ⟨o, kp _ _ D.lz D.lq D.li D.lj e, r⟩ w
        · subst hb
          refine ⟨fun _ w => ?_, fun z => by cases z⟩
          obtain ⟨_, _, pl, _⟩ := I.tuple h1
          obtain ⟨o, e, r⟩ := pl
          exact dm (h := h') w ⟨o, kp _ _ D.lz D.lq D.li D.lj e, r⟩
      have j2 : fE h' j m (k + 1) c := by
        refine S'.jj.toB fun ys => ?_
        cases hb : c
        · subst hb
          refine ⟨fun z => (by cases z), fun _ w => ?_⟩
          obtain ⟨_, _, pl, _⟩ := I.list h2
          obtain ⟨o, e, r⟩ := pl.isList
          exact dm (h := h') (xs := _) ⟨o, kp _ _ D.mz D.mq D.mi D.mj e, r⟩ w
        · subst hb
          refine ⟨fun _ w => ?_, fun z => by cases z⟩
          obtain ⟨_, _, pl, _⟩ := I.tuple h2
          obtain ⟨o, e, r⟩ := pl
          exact dm (h := h') w ⟨o, kp _ _ D.mz D.mq D.mi D.mj e, r⟩
      exact ⟨hz2, up _ _ D.pz S'.pp, let ⟨a, b, e⟩ := S'.qq; ⟨a, b, up _ _ D.qz e⟩, i2.keep fun o e => up _ _ D.iz e, j2.keep fun o e => up _ _ D.jz e⟩
    · rw [az (Nat.ne_of_lt (hob a ha))]; exact (hf a ha).1
  done := by
    intro X hP hw hK hc k pins s σ H E I hf st hg
    subst hP hw hK
    obtain ⟨xs, ys, h1, h2, hl⟩ := hg
    obtain ⟨its, rv, _, p1⟩ := hW I h1
    obtain ⟨jts, rw', _, p2⟩ := hW I h2
    have S : xo s.heap z p q i j l m .none k its.toArray jts.toArray := ⟨st.zz, st.pp, st.qq, p1 _ _ st.ii, p2 _ _ st.jj⟩
    have e1 := rv.length
    have e2 := rw'.length
    refine vy (I.ok.hd hc) D S ?_ fun h' kp => ⟨rfl, iW (t' := s.toks) (fp := [z, p, q, i, j]) I (fun a o ha e => ?_) hf⟩
    · rcases hl with hl | hl
      · left; simp; omega
      · right; simp; omega
    · simp only [List.mem_cons, List.not_mem_nil, or_false, not_or] at ha
      exact kp a o ha.1 ha.2.2.1 ha.2.2.2.1 ha.2.2.2.2 e
  self := fun _ _ _ _ _ st h => wpAny_pyIter_zip st.zz h
def xJ (H : Hp) (a : Addr) (ds : List PyData) : Bool → Prop
  | true => ∃ vs, H a = some (.tup vs) ∧ bF H ds vs
  | false => ∃ o vs, H a = some (.frz o (.lst vs)) ∧ bF H ds vs
theorem xJ.sq {K : PySem.W.Frag} {H : Hp} {a : Addr} {ds : List PyData} {b : Bool} (h : xJ H a ds b) : ∃ vs, p6 K H a vs b ∧ bF H ds vs := by
  cases b
  · obtain ⟨o, vs, e, r⟩ := h; exact ⟨vs, .inl (.inr ⟨o, e⟩), r⟩
  · obtain ⟨vs, e, r⟩ := h; exact ⟨vs, i4.of e, r⟩
theorem xJ.kp {H H' : Hp} {a : Addr} {ds : List PyData} {b : Bool} (h : xJ H a ds b) (k : Kp H H') : xJ H' a ds b := by
  cases b
  · obtain ⟨o, vs, e, r⟩ := h; exact ⟨o, vs, k.2 _ _ _ e, bF.kp k _ _ r⟩
  · obtain ⟨vs, e, r⟩ := h; exact ⟨vs, k.1 _ _ e, bF.kp k _ _ r⟩
def BB (p : PyData × PyData) : PyData := .tuple [p.1, p.2]
def lB (xs ys : List PyData) : List PyData := (xs.zip ys).map BB
theorem wg {xs ys : List PyData} {i : Nat} {d : PyData} (h : (lB xs ys)[i]? = some d) : ∃ x y, xs[i]? = some x ∧ ys[i]? = some y ∧ d = .tuple [x, y] := by
  unfold lB at h
  rw [List.getElem?_map] at h
  cases e : (xs.zip ys)[i]? with
  | none => rw [e] at h; cases h
  | some p =>
    rw [e] at h
    obtain ⟨h1, h2⟩ := List.getElem?_zip_eq_some.mp e
    exact ⟨p.1, p.2, h1, h2, (Option.some.inj h).symm⟩
theorem mf (xs ys : List PyData) : (lB xs ys).length = min xs.length ys.length := by unfold lB; simp
theorem xH {K : PySem.W.Frag} {l m : Addr} {b c : Bool} {xs ys : List PyData} : yj (Cw K l m b c) (fun H => xJ H l xs b ∧ xJ H m ys c) (lB xs ys) where
  go := fun i H ⟨h1, h2⟩ hi => by
    rw [mf] at hi
    obtain ⟨vs, s1, r1⟩ := h1.sq (K := K)
    obtain ⟨us, s2, r2⟩ := h2.sq (K := K)
    obtain ⟨x, hx, _⟩ := r1.get (List.getElem?_eq_getElem (show i < xs.length by omega))
    obtain ⟨y, hy, _⟩ := r2.get (List.getElem?_eq_getElem (show i < ys.length by omega))
    exact ⟨vs, us, x, y, s1, s2, hx, hy⟩
  yld := fun i H v H' d ⟨h1, h2⟩ hd h => by
    obtain ⟨a, x, y, ha, rfl, rfl, k1, k2⟩ := h
    obtain ⟨vs, s1, r1⟩ := h1.sq (K := K)
    obtain ⟨us, s2, r2⟩ := h2.sq (K := K)
    obtain ⟨dx, dy, e1, e2, rfl⟩ := wg hd
    obtain ⟨x', hx, px⟩ := r1.get e1
    obtain ⟨y', hy, py⟩ := r2.get e2
    have q1 := k1 vs s1
    have q2 := k2 us s2
    rw [hx] at q1; rw [hy] at q2
    cases q1; cases q2
    exact ⟨cB ha _, dR ha (bF.cons px (bF.cons py bF.nil))⟩
  stop := fun i H ⟨h1, h2⟩ hi => by
    rw [mf] at hi
    obtain ⟨vs, s1, r1⟩ := h1.sq (K := K)
    obtain ⟨us, s2, r2⟩ := h2.sq (K := K)
    have l1 := r1.length
    have l2 := r2.length
    exact ⟨vs, us, s1, s2, by omega⟩
theorem zL {n l m : Nat} (hl : l < n) (hm : m < n) : ZA (n + 4) (n + 2) (n + 3) n (n + 1) l m := by
  refine ⟨?_, ?_, ?_, ?_, ?_, ?_, ?_, ?_, ?_, ?_, ?_, ?_, ?_, ?_, ?_, ?_, ?_, ?_⟩ <;> (intro z; have z' : (_ : Nat) = _ := z; omega)
section
variable {X : Cx} {elts : List Expr} {x1 : Nat} {tp : Pos} {a b : Expr} {fa fb : Fe} {pos p : Pos} {nl : Nat} {G : List Str} {fs : aX → R (List PyData)}
def Df (K : PySem.W.Frag) (ta : TA) : TI := fun σ H R => ta σ H fun vs H1 => ∃ l m xs ys b c, vs = [.ref l, .ref m] ∧ p6 K H1 l xs b ∧ p6 K H1 m ys c ∧ R (Cw K l m b c) H1
theorem AJ {ta : TA} (hg : Gl X "zip") (hm : X.mg "zip" = none) (ha : PA X [a, b] ta) (hs : starEach [a, b] X.env = [(false, eval a X.env), (false, eval b X.env)]) (hs2 : starEach [b] X.env = [(false, eval b X.env)]) :
    PI X (.Tuple elts x1 tp) (.Call (.Name "zip" p) [a, b] [] pos) (Df X.K ta) := by
  intro pins s σ H R I h
  refine Call_ (iJ I hg hm boot_zip (PyProof.Rows.callWith_type1 (da (ha pos pins s σ H _ I h) fun us s1 ⟨vs, H1, I1, r1, q1⟩ => ?_) (by rw [hs, hs2]) (by rw [hs2]; rfl)))
  obtain ⟨l, m, xs, ys, b, c, e, h1, h2, q⟩ := q1
  subst e
  obtain ⟨u, v, rfl, ru, rv⟩ := tw r1
  cases ru
  cases rv
  obtain ⟨its, w1, p1, g1⟩ := hW I1 h1
  obtain ⟨jts, w2, p2, g2⟩ := hW I1 h2
  have ll : l < s1.heap.objs.size := by rcases p1 with ⟨o, e, _⟩ | ⟨o, e, _⟩ <;> exact Heap.lt_size e
  have lm : m < s1.heap.objs.size := by rcases p2 with ⟨o, e, _⟩ | ⟨o, e, _⟩ <;> exact Heap.lt_size e
  refine wm p1 p2 fun h' hz S kp => wpAny_pyIter_zip S.zz ?_
  have D := zL ll lm
  have I2 : aU X pins σ H1 { s1 with heap := h' } := I1.kept (t' := s1.toks) kp
  have i2 : fE h' s1.heap.objs.size l 0 b := S.ii.toB (mo I1 h1 kp)
  have j2 : fE h' (s1.heap.objs.size + 1) m 0 c := S.jj.toB (mo I1 h2 kp)
  refine ⟨_, [s1.heap.objs.size + 4, s1.heap.objs.size + 2, s1.heap.objs.size + 3, s1.heap.objs.size, s1.heap.objs.size + 1], _, _, H1, rfl, I2, wl (b := b) (c := c) D, ⟨S.zz, S.pp, S.qq, i2, j2⟩, fun a ha => ?_, q⟩
  have hle : s1.heap.objs.size ≤ a := by
    simp only [List.mem_cons, List.not_mem_nil, or_false] at ha
    rcases ha with rfl | rfl | rfl | rfl | rfl
    · exact Nat.le_add_right _ 4
    · exact Nat.le_add_right _ 2
    · exact Nat.le_add_right _ 3
    · exact Nat.le_refl _
    · exact Nat.le_add_right _ 1
  exact I1.fpOk hle (I1.hok.fresh hle)
def wQ (fa fb : Fe) : aX → R (List PyData) := fun ρ => fa ρ >>= fun x => fb ρ >>= fun y => ic x >>= fun xs => ic y >>= fun ys => .ok (lB xs ys)
theorem s9 {H : Hp} {d : PyData} {v : V} {ds : List PyData} (h : Rp H d v) (e : ic d = .ok ds) : ∃ a b, v = .ref a ∧ xJ H a ds b := by
  cases d with
  | list xs =>
    cases e
    simp only [Rp] at h
    obtain ⟨a, o, vs, rfl, h, r⟩ := h
    exact ⟨a, false, rfl, o, vs, h, r⟩
  | tuple xs =>
    cases e
    simp only [Rp] at h
    obtain ⟨a, vs, rfl, h, r⟩ := h
    exact ⟨a, true, rfl, vs, h, r⟩
  | _ => cases e
theorem sf (T : Tb X nl G) (j : Nat) (hG : G[j]? = some ("zip" : Str)) (hm : X.mg "zip" = none) (ha : ak X a fa) (hb : ak X b fb) (h1 : aG a = true := by rfl) (h2 : aG b = true := by rfl) :
    oI X (.Tuple elts x1 tp) (.Call (.Name "zip" p) [a, b] [] pos) (wQ fa fb) := by
  have g := T.gl _ (List.mem_of_getElem? hG)
  refine PI.imp (AJ g.1 hm (ae ha (ae hb ap h2) h1) (by rw [bB h1, bB h2]; rfl) (by rw [bB h2]; rfl)) fun σ H Rk h => ?_
  obtain ⟨ρ, sl, q⟩ := h
  unfold wQ at q
  refine ⟨ρ, sl, ?_⟩
  unfold ag aH
  cases e1 : fa ρ with
  | ex c => rw [e1] at q; exact q
  | no => rw [e1] at q; exact q
  | ok x =>
    rw [e1] at q
    simp only [R.ok_bind] at q ⊢
    cases e2 : fb ρ with
    | ex c => rw [e2] at q; exact q
    | no => rw [e2] at q; exact q
    | ok y =>
      rw [e2] at q
      simp only [R.ok_bind] at q ⊢
      cases e3 : ic x with
      | ex c => exact absurd e3 (by cases x <;> simp [ic])
      | no => rw [e3] at q; exact q.elim
      | ok xs =>
        rw [e3] at q
        simp only [R.ok_bind] at q
        cases e4 : ic y with
        | ex c => exact absurd e4 (by cases y <;> simp [ic])
        | no => rw [e4] at q; exact q.elim
        | ok ys =>
          rw [e4] at q
          simp only [R.ok_bind] at q
          intro vs H1 s1 ra
          simp only [RA] at ra
          obtain ⟨v, r', rfl, p1, v', r'', rfl, p2, rfl⟩ := ra
          obtain ⟨l, b1, rfl, d1⟩ := s9 p1 e3
          obtain ⟨m, b2, rfl, d2⟩ := s9 p2 e4
          obtain ⟨us, u1, _⟩ := d1.sq (K := X.K)
          obtain ⟨ws, u2, _⟩ := d2.sq (K := X.K)
          exact ⟨l, m, us, ws, b1, b2, rfl, u1, u2, q _ H1 s1 ⟨_, xH, fun H2 k _ => ⟨d1.kp k, d2.kp k⟩⟩⟩
theorem Z.sf (T : Tb X nl G) (j : Nat) (hG : G[j]? = some ("zip" : Str)) (hm : X.mg "zip" = none) (ha : Z.ak X a fa) (hb : Z.ak X b fb) (h1 : aG a = true := by rfl) (h2 : aG b = true := by rfl) : Z.oI X (.Tuple elts x1 tp) (.Call (.Name "zip" p) [a, b] [] pos) (wQ fa fb) :=
  ⟨D2.sf T j hG hm ha.un hb.un h1 h2⟩
end
def dH (i j : Nat) : PyData → aX → Option aX
  | .tuple [x, y], ρ => some ((ρ.set i (.val x)).set j (.val y))
  | _, _ => none
section
variable {X : Cx} {nl : Nat} {G : List Str} {x y : Str} {k : Nat} {p1 p2 pos : Pos}
theorem gn (T : Tb X nl G) (i j : Nat) (hi : (X.N.take nl)[i]? = some x) (hj : (X.N.take nl)[j]? = some y) : qP X (.Tuple [.Name x p1, .Name y p2] k pos) (dH i j) := by
  obtain ⟨i1, i2, i3⟩ := T.nm hi
  obtain ⟨j1, j2, j3⟩ := T.nm hj
  refine PG.imp (Af T.calm (qU (pI T.nd i1 i2 i3) (qU (pI T.nd j1 j2 j3) ya))) fun v σ H Q ⟨ρ, d, sl, p, q⟩ => ?_
  unfold dH at q
  split at q
  · rename_i e
    split at e
    · rename_i ρ0 dx dy
      cases e
      simp only [Rp] at p
      obtain ⟨a, vs, rfl, ha, r⟩ := p
      obtain ⟨u, r1, rfl, pu, r⟩ := r.cons_inv
      obtain ⟨w, r2, rfl, pw, r⟩ := r.cons_inv
      rw [r.nil_inv] at ha
      refine ⟨a, [u, w], rfl, i4.of ha, rfl, u, [w], rfl, w, [], rfl, rfl, ?_⟩
      refine q _ (Sl.set (c := .val dy) (o := some w) (Sl.set (c := .val dx) (o := some u) sl i ⟨u, rfl, pu⟩) j ⟨w, rfl, pw⟩) fun n e h => ?_
      obtain ⟨n1, h⟩ := cK (fun e z => by cases z) h
      obtain ⟨n2, h⟩ := cK (fun e z => by cases z) h
      exact ⟨h, by rw [List.getElem?_set, if_neg n1, List.getElem?_set, if_neg n2]⟩
    · cases e
  · exact q.elim
theorem Z.gn (T : Tb X nl G) (i j : Nat) (hi : (X.N.take nl)[i]? = some x) (hj : (X.N.take nl)[j]? = some y) : Z.qP X (.Tuple [.Name x p1, .Name y p2] k pos) (dH i j) :=
  ⟨D2.gn T i j hi hj⟩
end
theorem gK {own : Nat} {fr : List Nat} {i j : Nat} (hi : i < own) (hj : j < own) : ∀ ρ d ρ1, dH i j d (aL own fr ρ) = some ρ1 → lC (aL own fr ρ) ρ1 := fun ρ d ρ1 e => by
  unfold dH at e
  split at e
  · rename_i x y _
    cases e
    refine ⟨by rw [List.length_set, List.length_set], fun n c hn => ?_⟩
    have at_own : n < own → c = .non := fun h => by
      unfold aL at hn
      rw [List.getElem?_append_left (by simpa using h), List.getElem?_replicate, if_pos h] at hn
      exact (Option.some.inj hn).symm
    by_cases h1 : j = n
    · exact .inl (at_own (by omega))
    · by_cases h2 : i = n
      · exact .inl (at_own (by omega))
      · exact .inr (by rw [List.getElem?_set, if_neg h1, List.getElem?_set, if_neg h2]; exact hn)
  · cases e
open AutoSeq1 (wpAny_loadPart')
abbrev jx (h : Heap) (e i : Addr) (k : Int) (f0 old : Value) : Prop := h.get? e = some { cls := .type "enumerate", dict := none, data := .fields #[f0, .bool false, .ref i, rawInt k, .none, old], slots := #[] }
section
variable {prog : Program} {w : World} {A : Around} {E : Value → Shared → Prop} {s : Shared} {e i l : Addr} {k : Nat} {xs : Array Value}
theorem uP {x old : Value} {Q : Value → Shared → Prop} (he : jx s.heap e i k .none old) (it : j9 s.heap i l k xs) (hli : l ≠ i) (hle : l ≠ e) (hei : e ≠ i) (hx : xs[k]? = some x)
    (hQ : ∀ h' old', jx h' e i ((k : Int) + 1) (rawInt s.heap.objs.size) old' → j9 h' i l (k + 1) xs → IsPair h' s.heap.objs.size (.int k s.toks) x → (∀ c o, c ≠ e → c ≠ i → s.heap.get? c = some o → h'.get? c = some o) → Q (.ref s.heap.objs.size) { s with heap := h', toks := s.toks + 1 }) :
    wpAny (model prog w) A (Builtin.«enumerate.__next__» ⟨[.ref e], []⟩) (fun fin s' => ∃ v, fin = .done (.ret v) ∧ Q v s') E s := by
  obtain ⟨hp, g, d, tk, os⟩ := s
  show wpAny _ _ (field (Value.ref e) 2 >>= _) _ _ _
  refine wpAny_bind (wpAny_field he rfl (x := Value.ref i) rfl ?_)
  refine wpAny_bind (tt it hli hx fun g1 i1 s1 => ?_)
  replace s1 : Heap.SameBut i hp g1 := s1
  have e1 : jx g1 e i k .none old := (s1.2 e hei).trans he
  show wpAny _ _ (field (Value.ref e) 3 >>= _) _ _ (Shared.mk g1 g d tk os)
  refine wpAny_bind (wpAny_field e1 rfl (x := rawInt (k : Int)) rfl ?_)
  show wpAny _ _ (field (Value.ref e) 4 >>= _) _ _ (Shared.mk g1 g d tk os)
  refine wpAny_bind (wpAny_field e1 rfl (x := Value.none) rfl ?_)
  show wpAny _ _ (mkInt (k : Int) >>= _) _ _ (Shared.mk g1 g d tk os)
  refine wpAny_bind (wpAny_mkInt ?_)
  show wpAny _ _ (setField (Value.ref e) 3 (rawInt ((k : Int) + 1)) >>= _) _ _ (Shared.mk g1 g d (tk + 1) os)
  refine wpAny_bind (wpAny_setField_rec e1 (by simp) fun g2 e2 s2 => ?_)
  replace s2 : Heap.SameBut e g1 g2 := s2
  replace e2 : jx g2 e i ((k : Int) + 1) .none old := e2
  show wpAny _ _ (setField (Value.ref e) 4 Value.none >>= _) _ _ (Shared.mk g2 g d (tk + 1) os)
  refine wpAny_bind (wpAny_setField_rec e2 (by simp) fun g3 e3 s3 => ?_)
  replace s3 : Heap.SameBut e g2 g3 := s3
  replace e3 : jx g3 e i ((k : Int) + 1) .none old := e3
  show wpAny _ _ (newTuple [Value.int k tk, x] >>= _) _ _ (Shared.mk g3 g d (tk + 1) os)
  refine wpAny_bind (wpAny_newTuple ?_)
  have hsz : g3.objs.size = hp.objs.size := by rw [s3.1, s2.1, s1.1]
  have elt : e < g3.objs.size := Heap.lt_size e3
  have e4 : jx (g3.push { cls := .type "tuple", data := .seq #[.int k tk, x] }) e i ((k : Int) + 1) .none old := Heap.get?_push_of_some _ e3
  have t4 : IsPair (g3.push { cls := .type "tuple", data := .seq #[.int k tk, x] }) g3.objs.size (.int k tk) x := Heap.get?_push_size _ rfl
  have i3 : j9 g3 i l (k + 1) xs := i1.keep (fun o q => s3.extBut _ _ hei.symm (s2.extBut _ _ hei.symm q)) fun o q => s3.extBut _ _ hle (s2.extBut _ _ hle q)
  have k3 : ∀ c o, c ≠ e → c ≠ i → hp.get? c = some o → g3.get? c = some o := fun c o c1 c2 q => s3.extBut _ _ c1 (s2.extBut _ _ c1 (s1.extBut _ _ c2 q))
  show wpAny _ _ (Builtin.SmallTypes.ownedTupleIsFree (Value.ref e) >>= _) _ _ (Shared.mk (g3.push { cls := .type "tuple", data := .seq #[.int k tk, x] }) g d (tk + 1) os)
  refine wpAny_bind ?_
  unfold Builtin.SmallTypes.ownedTupleIsFree
  refine wpAny_bind (wpAny_field e4 rfl (x := Value.none) rfl (wpAny_pure ?_))
  simp only [if_true]
  refine wpAny_bind (wpAny_rule ?_)
  refine wpAny_bind (wpAny_field e4 rfl (x := old) rfl ?_)
  refine wpAny_bind (wpAny_setField_rec e4 (by simp) fun g5 e5 s5 => ?_)
  replace s5 : Heap.SameBut e (g3.push { cls := .type "tuple", data := .seq #[.int k tk, x] }) g5 := s5
  replace e5 : jx g5 e i ((k : Int) + 1) .none x := e5
  show wpAny _ _ (Builtin.SmallTypes.ownedTupleHandOut (Value.ref e) (Value.ref g3.objs.size) >>= _) _ _ (Shared.mk g5 g d (tk + 1) os)
  refine wpAny_bind ?_
  unfold Builtin.SmallTypes.ownedTupleHandOut
  refine wpAny_bind (wpAny_setField_rec e5 (by simp) fun g6 e6 s6 => ?_)
  replace s6 : Heap.SameBut e g5 g6 := s6
  replace e6 : jx g6 e i ((k : Int) + 1) (rawInt g3.objs.size) x := e6
  refine wpAny_setField_rec e6 (by simp) fun g7 e7 s7 => ?_
  replace s7 : Heap.SameBut e g6 g7 := s7
  replace e7 : jx g7 e i ((k : Int) + 1) (rawInt g3.objs.size) x := e7
  have up : ∀ c o, c ≠ e → g3.get? c = some o → g7.get? c = some o := fun c o c1 q => s7.extBut _ _ c1 (s6.extBut _ _ c1 (s5.extBut _ _ c1 (Heap.get?_push_of_some _ q)))
  have t7 : IsPair g7 g3.objs.size (.int k tk) x := s7.extBut _ _ (Nat.ne_of_gt elt) (s6.extBut _ _ (Nat.ne_of_gt elt) (s5.extBut _ _ (Nat.ne_of_gt elt) t4))
  rw [hsz] at e7 t7
  refine wpAny_bind (wpAny_letGo (wpAny_pure ⟨_, rfl, ?_⟩))
  show Q (.ref g3.objs.size) _
  rw [hsz]
  exact hQ g7 x e7 (i3.keep (fun o q => up _ _ hei.symm q) fun o q => up _ _ hle q) t7 fun c o c1 c2 q => up c o c1 (k3 c o c1 c2 q)
theorem uW {x old : Value} {Q : Option Value → Shared → Prop} (he : jx s.heap e i k .none old) (it : j9 s.heap i l k xs) (hli : l ≠ i) (hle : l ≠ e) (hei : e ≠ i) (hx : xs[k]? = some x)
    (hQ : ∀ h' old', jx h' e i ((k : Int) + 1) (rawInt s.heap.objs.size) old' → j9 h' i l (k + 1) xs → IsPair h' s.heap.objs.size (.int k s.toks) x → (∀ c o, c ≠ e → c ≠ i → s.heap.get? c = some o → h'.get? c = some o) → Q (some (.ref s.heap.objs.size)) { s with heap := h', toks := s.toks + 1 }) :
    wpAny (model prog w) A (pyNext (.ref e)) Q E s := by
  have hT : s.TypeIs (.ref e) "enumerate" := ⟨_, he, rfl⟩
  unfold pyNext
  exact wpAny_bind (wpAny_attempt (wpAny_callSpecial?_slot (name := Str.ofString "__next__") hT F.slot_enumerate_next (wpAny_call_entry F.slot_enumerate_next hT F.entry_enumerate_next (uP he it hli hle hei hx fun h' o a b c d => wpAny_pure (hQ h' o a b c d)) (F.args_enumerate_next_1 _))))
theorem wC {old : Value} {Q : Option Value → Shared → Prop} (hh : A.handled = none) (he : jx s.heap e i k .none old) (it : j9 s.heap i l k xs) (hx : xs[k]? = none) (hQ : ∀ h', (∀ c o, c ≠ i → s.heap.get? c = some o → h'.get? c = some o) → Q none { s with heap := h' }) :
    wpAny (model prog w) A (pyNext (.ref e)) Q E s := by
  have hT : s.TypeIs (.ref e) "enumerate" := ⟨_, he, rfl⟩
  unfold pyNext
  refine wpAny_bind (wpAny_attempt (wpAny_callSpecial?_slot (name := Str.ofString "__next__") hT F.slot_enumerate_next (wpAny_call_entry F.slot_enumerate_next hT F.entry_enumerate_next ?_ (F.args_enumerate_next_1 _))))
  show wpAny _ _ (field (Value.ref e) 2 >>= _) _ _ _
  refine wpAny_bind (wpAny_field he rfl (x := Value.ref i) rfl ?_)
  refine wpAny_bind (kW hh it hx fun h' x k1 ⟨o, ho, hc⟩ => ?_)
  exact wpAny_bind (wpAny_isInstance (T := "StopIteration") (b := true) ⟨o, ho, hc⟩ isSubtype_stop (wpAny_pure (hQ _ fun c o c1 q => k1 c o c1 q)))
theorem xf (l : Addr) (xs : Array Value) : Meets (Builtin.«enumerate.__new__» ⟨[.type "enumerate", .ref l], []⟩) (fun _ R s => rN s.heap l xs ∧
    ∀ h', jx h' (s.heap.objs.size + 1) s.heap.objs.size 0 .none .none → j9 h' s.heap.objs.size l 0 xs → (∀ c o, s.heap.get? c = some o → h'.get? c = some o) → R (.ok (.ret (.ref (s.heap.objs.size + 1)))) { s with heap := h' }) :=
  .of_wp fun prog w A R s h => by
    obtain ⟨hp, g, d, tk, os⟩ := s
    obtain ⟨h1, h⟩ := h
    have hsub := sub_enumerate
    have fin : ∀ oi : Obj, j9 (hp.push oi) hp.objs.size l 0 xs → R (.ok (.ret (.ref (hp.push oi).objs.size))) ⟨(hp.push oi).push { cls := .type "enumerate", data := .fields #[.none, .bool false, .ref hp.objs.size, rawInt 0, .none, .none] }, g, d, tk, os⟩ := fun oi hi => by
      have e1 : (hp.push oi).objs.size = hp.objs.size + 1 := Heap.size_push ..
      rw [e1]
      refine h _ ?_ (hi.keep (fun o q => Heap.get?_push_of_some _ q) fun o q => Heap.get?_push_of_some _ q) fun c o q => Heap.get?_push_of_some _ (Heap.get?_push_of_some _ q)
      show Heap.get? _ (hp.objs.size + 1) = _
      rw [← e1]
      exact Heap.get?_push_size _ rfl
    rcases h1 with h1 | h1
    · have l1 : Heap.IsList (Shared.heap ⟨hp, g, d, tk, os⟩) l xs := h1
      obtain ⟨o, ho, _, _, _⟩ := id h1
      have ho' : (Shared.heap ⟨hp, g, d, tk, os⟩).get? l = some o := ho
      wp_walk using wpAny_loadPart' ho'
      refine wpAny_stack_any fun st => wpAny_pure ?_
      split
      · rename_i c _ _ _ _ _
        cases (c == Value.type "enumerate")
        · wp_walk using wpAny_loadPart' ho', wpAny_pyIter_list l1
          exact ⟨_, rfl, fin _ (.inl ⟨⟨_, Heap.get?_push_size _ rfl, rfl, rfl⟩, Heap.IsList.push h1 _⟩)⟩
        · wp_walk using wpAny_loadPart' ho', wpAny_pyIter_list l1
          exact ⟨_, rfl, fin _ (.inl ⟨⟨_, Heap.get?_push_size _ rfl, rfl, rfl⟩, Heap.IsList.push h1 _⟩)⟩
      · wp_walk using wpAny_loadPart' ho', wpAny_pyIter_list l1
        exact ⟨_, rfl, fin _ (.inl ⟨⟨_, Heap.get?_push_size _ rfl, rfl, rfl⟩, Heap.IsList.push h1 _⟩)⟩
    · have l1 : Heap.IsTuple (Shared.heap ⟨hp, g, d, tk, os⟩) l xs := h1
      obtain ⟨o, ho, _, _, _⟩ := id h1
      have ho' : (Shared.heap ⟨hp, g, d, tk, os⟩).get? l = some o := ho
      wp_walk using wpAny_loadPart' ho'
      refine wpAny_stack_any fun st => wpAny_pure ?_
      split
      · rename_i c _ _ _ _ _
        cases (c == Value.type "enumerate")
        · wp_walk using wpAny_loadPart' ho', wpAny_pyIter_tuple l1
          exact ⟨_, rfl, fin _ (.inr ⟨⟨_, Heap.get?_push_size _ rfl, rfl, rfl⟩, Heap.IsTuple.push h1 _⟩)⟩
        · wp_walk using wpAny_loadPart' ho', wpAny_pyIter_tuple l1
          exact ⟨_, rfl, fin _ (.inr ⟨⟨_, Heap.get?_push_size _ rfl, rfl, rfl⟩, Heap.IsTuple.push h1 _⟩)⟩
      · wp_walk using wpAny_loadPart' ho', wpAny_pyIter_tuple l1
        exact ⟨_, rfl, fin _ (.inr ⟨⟨_, Heap.get?_push_size _ rfl, rfl, rfl⟩, Heap.IsTuple.push h1 _⟩)⟩
theorem uZ {Q : Value → Shared → Prop} {l : Addr} (h1 : rN s.heap l xs)
    (h : ∀ h', jx h' (s.heap.objs.size + 1) s.heap.objs.size 0 .none .none → j9 h' s.heap.objs.size l 0 xs → (∀ c o, s.heap.get? c = some o → h'.get? c = some o) → Q (.ref (s.heap.objs.size + 1)) { s with heap := h' }) :
    wpAny (model prog w) A (call (.type "enumerate") [.ref l]) Q E s := by
  refine callType_new F.called_enumerate (by decide) (F.typeCall_enumerate_1 _) (F.newCall_enumerate_1 _) (fun obj => F.args_object_init_2 obj _) F.entry_enumerate_new (xf l xs) ⟨h1, fun h' e S k => ?_⟩
  exact ⟨⟨_, e, rfl⟩, h h' e S k⟩
end
end D2
namespace D2
open PySem PySem.Spec PyProof.Rows L2
def Cu (K : PySem.W.Frag) (l : Addr) (b : Bool) : It :=
  ⟨fun i H => ∃ xs x, p6 K H l xs b ∧ xs[i]? = some x, fun i H v H' => ∃ a x, H a = none ∧ v = .ref a ∧ H' = cx H a (.tup [.int i, x]) ∧ ∀ xs, p6 K H l xs b → xs[i]? = some x, fun i H => ∃ xs, p6 K H l xs b ∧ xs.length ≤ i⟩
structure Da (e i l : Addr) (b : Bool) (k : Nat) (h : Heap) : Prop where
  ee : ∃ old, jx h e i k .none old
  ii : fE h i l k b
theorem uO {P : Program} {w : World} {K : PySem.W.Frag} {elts : List Expr} {x1} {pos : Pos} {e i l : Addr} {b : Bool} (hei : e ≠ i) (hle : l ≠ e) (hli : l ≠ i) : rO P w K (.Tuple elts x1 pos) (Cu K l b) [e, i] e (Da e i l b) where
  mem := by simp
  obj := fun k h st a ha => by
    simp only [List.mem_cons, List.not_mem_nil, or_false] at ha
    rcases ha with rfl | rfl
    · obtain ⟨_, q⟩ := st.ee; exact ⟨_, q, fun v e => by cases e⟩
    · exact st.ii.there
  keep := fun k h h' st kp => ⟨let ⟨o, q⟩ := st.ee; ⟨o, kp e (by simp) _ q⟩, st.ii.keep fun o q => kp i (by simp) o q⟩
  item := by
    intro X hP hw hK hc k pins s σ H E I hf st hg
    subst hP hw hK
    obtain ⟨xs, x, h1, hx⟩ := hg
    obtain ⟨its, rv, _, p1⟩ := hW I h1
    obtain ⟨u, hu, ru⟩ := rv.get hx
    obtain ⟨old, he⟩ := st.ee
    refine uW he (p1 _ _ st.ii) hli hle hei (x := u) (by simpa using hu) fun h' old' e' i' hp kp => ⟨_, rfl, ?_⟩
    have elt : e < s.heap.objs.size := Heap.lt_size he
    have hob : ∀ a ∈ [e, i], a < s.heap.objs.size := fun a ha => by
      simp only [List.mem_cons, List.not_mem_nil, or_false] at ha
      rcases ha with rfl | rfl
      · exact elt
      · obtain ⟨o, q, _⟩ := st.ii.there; exact Heap.lt_size q
    have hn : H s.heap.objs.size = none := I.hok.fresh (Nat.le_refl _)
    refine wpAny_letOwnedTupleGo_enum (s := { s with heap := h', toks := s.toks + 1 }) e' fun h2' e2 sb => ?_
    have up : ∀ a o, a ≠ e → h'.get? a = some o → h2'.get? a = some o := fun a o ha q => sb.extBut a o ha q
    refine ⟨.ref s.heap.objs.size, _, ur (s := s) (t' := s.toks + 1) (fp := [e, i]) (h' := h2') (u1 := .int k s.toks) (u2 := u) (v1 := .int k) (v2 := x) I hf hob (up _ _ (Nat.ne_of_gt elt) hp) (fun a o ha q => ?_) ⟨_, rfl⟩ ru, rfl, ⟨_, x, hn, rfl, rfl, fun zs hz => by rw [j8 I h1 hz]; exact hx⟩, ?_, fun a ha => ?_⟩
    · simp only [List.mem_cons, List.not_mem_nil, or_false, not_or] at ha
      exact up a o ha.1 (kp a o ha.1 ha.2 q)
    · have i2 : fE h' i l (k + 1) b := by
        refine i'.toB fun ys => ?_
        cases hb : b
        · subst hb
          refine ⟨fun z => (by cases z), fun _ w => ?_⟩
          obtain ⟨_, _, pl, _⟩ := I.list h1
          obtain ⟨o, q, r⟩ := pl.isList
          exact dm (h := h') (xs := _) ⟨o, kp _ _ hle hli q, r⟩ w
        · subst hb
          refine ⟨fun _ w => ?_, fun z => by cases z⟩
          obtain ⟨_, _, pl, _⟩ := I.tuple h1
          obtain ⟨o, q, r⟩ := pl
          exact dm (h := h') w ⟨o, kp _ _ hle hli q, r⟩
      exact ⟨⟨_, by have q : jx h2' e i ((k : Int) + 1) .none old' := e2; simpa using q⟩, i2.keep fun o q => up _ _ hei.symm q⟩
    · rw [az (Nat.ne_of_lt (hob a ha))]; exact (hf a ha).1
  done := by
    intro X hP hw hK hc k pins s σ H E I hf st hg
    subst hP hw hK
    obtain ⟨xs, h1, hl⟩ := hg
    obtain ⟨its, rv, _, p1⟩ := hW I h1
    obtain ⟨old, he⟩ := st.ee
    have e1 := rv.length
    refine wC (I.ok.hd hc) he (p1 _ _ st.ii) (by simp; omega) fun h' kp => ⟨rfl, iW (t' := s.toks) (fp := [e, i]) I (fun a o ha q => ?_) hf⟩
    simp only [List.mem_cons, List.not_mem_nil, or_false, not_or] at ha
    exact kp a o ha.2 q
  self := fun _ _ _ _ _ st h => let ⟨_, q⟩ := st.ee; wpAny_pyIter_enum q h
def cL : Nat → List PyData → List PyData
  | _, [] => []
  | k, d :: ds => .tuple [.int k, d] :: cL (k + 1) ds
theorem eQ : ∀ (k : Nat) (ds : List PyData), (cL k ds).length = ds.length
  | _, [] => rfl
  | k, d :: ds => by unfold cL; rw [List.length_cons, List.length_cons, eQ]
theorem oH : ∀ {k : Nat} {ds : List PyData} {i : Nat} {d : PyData}, (cL k ds)[i]? = some d → ∃ x, ds[i]? = some x ∧ d = .tuple [.int ((k + i : Nat) : Int), x]
  | k, [], i, d, h => by unfold cL at h; simp at h
  | k, x :: ds, 0, d, h => by
    unfold cL at h
    simp at h
    exact ⟨x, rfl, by rw [← h]; simp⟩
  | k, x :: ds, i + 1, d, h => by
    unfold cL at h
    rw [List.getElem?_cons_succ] at h
    obtain ⟨y, h1, h2⟩ := oH h
    refine ⟨y, by simpa using h1, ?_⟩
    rw [h2]
    have : k + 1 + i = k + (i + 1) := by omega
    rw [this]
theorem ww {K : PySem.W.Frag} {l : Addr} {b : Bool} {xs : List PyData} : yj (Cu K l b) (fun H => xJ H l xs b) (cL 0 xs) where
  go := fun i H h1 hi => by
    rw [eQ] at hi
    obtain ⟨vs, s1, r1⟩ := h1.sq (K := K)
    obtain ⟨x, hx, _⟩ := r1.get (List.getElem?_eq_getElem hi)
    exact ⟨vs, x, s1, hx⟩
  yld := fun i H v H' d h1 hd h => by
    obtain ⟨a, x, ha, rfl, rfl, k1⟩ := h
    obtain ⟨vs, s1, r1⟩ := h1.sq (K := K)
    obtain ⟨dx, e1, rfl⟩ := oH hd
    obtain ⟨x', hx, px⟩ := r1.get e1
    have q1 := k1 vs s1
    rw [hx] at q1
    cases q1
    refine ⟨cB ha _, dR ha (bF.cons ?_ (bF.cons px bF.nil))⟩
    rw [Nat.zero_add]
    exact df
  stop := fun i H h1 hi => by
    rw [eQ] at hi
    obtain ⟨vs, s1, r1⟩ := h1.sq (K := K)
    have l1 := r1.length
    exact ⟨vs, s1, by omega⟩
section
variable {X : Cx} {elts : List Expr} {x1 : Nat} {tp : Pos} {a b : Expr} {fa fb : Fe} {pos p : Pos} {nl : Nat} {G : List Str} {fs : aX → R (List PyData)}
def Dh (K : PySem.W.Frag) (ta : TA) : TI := fun σ H R => ta σ H fun vs H1 => ∃ l xs b, vs = [.ref l] ∧ p6 K H1 l xs b ∧ R (Cu K l b) H1
theorem yl {ta : TA} (hg : Gl X "enumerate") (hm : X.mg "enumerate" = none) (ha : PA X [a] ta) (hs : starEach [a] X.env = [(false, eval a X.env)]) : PI X (.Tuple elts x1 tp) (.Call (.Name "enumerate" p) [a] [] pos) (Dh X.K ta) := by
  intro pins s σ H R I h
  refine Call_ (iJ I hg hm boot_enumerate (PyProof.Rows.callWith_type1 (da (ha pos pins s σ H _ I h) fun us s1 ⟨vs, H1, I1, r1, q1⟩ => ?_) hs rfl))
  obtain ⟨l, xs, b, e, h1, q⟩ := q1
  subst e
  obtain ⟨u, rfl, ru⟩ := gx r1
  cases ru
  obtain ⟨its, w1, p1, g1⟩ := hW I1 h1
  have ll : l < s1.heap.objs.size := by rcases p1 with ⟨o, e, _⟩ | ⟨o, e, _⟩ <;> exact Heap.lt_size e
  refine uZ p1 fun h' hz S kp => wpAny_pyIter_enum hz ?_
  have I2 : aU X pins σ H1 { s1 with heap := h' } := I1.kept (t' := s1.toks) kp
  have i2 : fE h' s1.heap.objs.size l 0 b := S.toB (mo I1 h1 kp)
  refine ⟨_, [s1.heap.objs.size + 1, s1.heap.objs.size], _, _, H1, rfl, I2, uO (b := b) (Nat.ne_of_gt (Nat.lt_succ_self _)) (Nat.ne_of_lt (Nat.lt_succ_of_lt ll)) (Nat.ne_of_lt ll), ⟨⟨_, hz⟩, i2⟩, fun a ha => ?_, q⟩
  have hle : s1.heap.objs.size ≤ a := by
    simp only [List.mem_cons, List.not_mem_nil, or_false] at ha
    rcases ha with rfl | rfl
    · exact Nat.le_add_right _ 1
    · exact Nat.le_refl _
  exact I1.fpOk hle (I1.hok.fresh hle)
def kq (fa : Fe) : aX → R (List PyData) := fun ρ => fa ρ >>= fun x => ic x >>= fun xs => .ok (cL 0 xs)
theorem hV (T : Tb X nl G) (j : Nat) (hG : G[j]? = some ("enumerate" : Str)) (hm : X.mg "enumerate" = none) (ha : ak X a fa) (h1 : aG a = true := by rfl) : oI X (.Tuple elts x1 tp) (.Call (.Name "enumerate" p) [a] [] pos) (kq fa) := by
  have g := T.gl _ (List.mem_of_getElem? hG)
  refine PI.imp (yl g.1 hm (ae ha ap h1) (by rw [bB h1]; rfl)) fun σ H Rk h => ?_
  obtain ⟨ρ, sl, q⟩ := h
  unfold kq at q
  refine ⟨ρ, sl, ?_⟩
  unfold ag aH
  cases e1 : fa ρ with
  | ex c => rw [e1] at q; exact q
  | no => rw [e1] at q; exact q
  | ok x =>
    rw [e1] at q
    simp only [R.ok_bind] at q ⊢
    cases e3 : ic x with
    | ex c => exact absurd e3 (by cases x <;> simp [ic])
    | no => rw [e3] at q; exact q.elim
    | ok xs =>
      rw [e3] at q
      simp only [R.ok_bind] at q
      intro vs H1 s1 ra
      simp only [RA] at ra
      obtain ⟨v, r', rfl, p1, rfl⟩ := ra
      obtain ⟨l, b1, rfl, d1⟩ := s9 p1 e3
      obtain ⟨us, u1, _⟩ := d1.sq (K := X.K)
      exact ⟨l, us, b1, rfl, u1, q _ H1 s1 ⟨_, ww, fun H2 k _ => d1.kp k⟩⟩
theorem Z.hV (T : Tb X nl G) (j : Nat) (hG : G[j]? = some ("enumerate" : Str)) (hm : X.mg "enumerate" = none) (ha : Z.ak X a fa) (h1 : aG a = true := by rfl) : Z.oI X (.Tuple elts x1 tp) (.Call (.Name "enumerate" p) [a] [] pos) (kq fa) :=
  ⟨D2.hV T j hG hm ha.un h1⟩
end
section
variable {X : Cx} {nl : Nat} {G : List Str} {x : Str} {e : Expr} {f : Fe} {q1 q2 q3 q4 : Pos}
theorem fR (T : Tb X nl G) (n : Nat) (hN : X.N[n]? = some x) (he : ak X e f) (hst : aG e = true := by rfl) (hline : (q2.endLine == q3.line) = true := by rfl)
    (hs : swapsWith (.Call (.Attribute (.Name x q1) "append" q2) [e] [] q3) none q4.line X.env = pure false := by rfl)
    (hbase : attributeBase (.Name x q1) "append" X.env (eval (.Name x q1) X.env) = eval (.Name x q1) X.env := by rfl) : eY X (.Expr (.Call (.Attribute (.Name x q1) "append" q2) [e] [] q3) q4) (du n f) := fun Fm => by
  have hm := T.vis x (List.mem_of_getElem? hN)
  have sc : starEach [e] X.env = (false, eval e X.env) :: starEach [] X.env := bB hst
  refine PS.imp (tQ (Bn PySem.F.plainAttrs_list PySem.F.slot_list_append PySem.F.type_list_append og (kR hN hm.1 hm.2.1 hm.2.2) (ae he ap hst) hbase (by rw [sc]; rfl) hline sc rfl) hs) fun D σ H h => ?_
  obtain ⟨ρ, sl, q⟩ := h
  unfold du at q
  cases ef : f ρ with
  | ex c => rw [ef] at q; exact q.elim
  | no => rw [ef] at q; exact q.elim
  | ok d =>
    rw [ef] at q
    simp only [lh, R.ok_bind] at q
    cases er : ρ[n]? with
    | none => rw [er] at q; exact q.elim
    | some c =>
      rw [er] at q
      cases c with
      | non => exact q.elim
      | exc p => exact q.elim
      | val d' => exact q.elim
      | own d' =>
        cases d' with
        | list ds =>
          dsimp only at q
          by_cases hz : ds.length < sizeLine
          · rw [if_pos hz] at q
            obtain ⟨o, h2, w', rfl, p2⟩ := sl.sl.at er
            simp only [iC] at p2
            obtain ⟨a', vs, rfl, ha, r⟩ := p2
            refine ⟨.ref a', h2, .inl ⟨rfl, _, lZ.of ha⟩, ρ, sl.sl, ?_⟩
            unfold ag aH
            rw [ef]
            intro us H1 s1 ra
            simp only [RA] at ra
            obtain ⟨v, r', rfl, p1, rfl⟩ := ra
            have ha1 := s1 _ _ ha
            refine ⟨a', vs, v, rfl, rfl, ha1, by rw [r.length]; exact hz, q _ _ ((sl.mono s1).change er h2 ha1 (.inl ⟨_, rfl⟩) ?_)⟩
            simp only [iC]
            exact ⟨a', _, rfl, bi, bF.kp (gc ha1 (.inl ⟨_, rfl⟩)) _ _ (bF.append (r.mono s1) (bF.cons p1 bF.nil))⟩
          · rw [if_neg hz] at q; exact q.elim
        | _ => exact q.elim
theorem Z.fR (T : Tb X nl G) (n : Nat) (hN : X.N[n]? = some x) (he : Z.ak X e f) (hst : aG e = true := by rfl) (hline : (q2.endLine == q3.line) = true := by rfl) (hs : swapsWith (.Call (.Attribute (.Name x q1) "append" q2) [e] [] q3) none q4.line X.env = pure false := by rfl) (hbase : attributeBase (.Name x q1) "append" X.env (eval (.Name x q1) X.env) = eval (.Name x q1) X.env := by rfl) : Z.eY X (.Expr (.Call (.Attribute (.Name x q1) "append" q2) [e] [] q3) q4) (du n f) :=
  ⟨D2.fR T n hN he.un hst hline hs hbase⟩
end
def iO (g : Fs) : Fs := fun ρ => lh (g ρ)
theorem Tb.nox {X : Cx} {nl : Nat} {G : List Str} (T : Tb X nl G) : Tb X.nox nl G := ⟨T.hu, T.calm, T.nd, T.vis, T.loc, T.gl⟩
section
variable {X : Cx} {nl : Nat} {G : List Str} {st : Stmt} {g : Fs} {pos : Pos}
theorem dt (h : eY X.nox st g) : eY X st (iO g) := fun Fm => by
  intro pins s σ H D I ⟨ρ, sl, q⟩
  refine wpAny_mono (h Fm pins s σ H D (I.wish _) ⟨ρ, sl, ?_⟩) (fun _ _ q => q.unwish) fun _ _ z => False.elim z
  unfold iO at q
  cases e : g ρ with
  | ok o =>
    rw [e] at q
    cases o <;> exact q
  | ex c => rw [e] at q; exact q.elim
  | no => rw [e] at q; exact q.elim
theorem Z.dt (h : Z.eY X.nox st g) : Z.eY X st (iO g) :=
  ⟨D2.dt h.un⟩
def cZ (t : aX → R Bool) (g : Fs) : Nat → Fs
  | 0, _ => .no
  | n + 1, ρ => t ρ >>= fun b => if b = true then g ρ >>= fun o => (match o with
      | .nx ρ2 => cZ t g n ρ2
      | .ct ρ2 => cZ t g n ρ2
      | .bk ρ2 => .ok (.nx ρ2)
      | .rt r => .ok (.rt r)) else .ok (.nx ρ)
def nv (n : Nat) (t : aX → R Bool) (g : Fs) : Fs := cZ t g n
theorem iL {c : Expr} {body : List Stmt} {t : aX → R Bool} (n : Nat) (hp : PassesOwn (model X.prog X.w) X.A X.env X.xe) (ht : gE X c t) (hb : gF X body g) : eY X (.While c body [] pos) (nv n t g) := fun Fm => by
  refine PS.imp (wJ hp ht (hb Fm)) fun D σ H ⟨ρ, sl, q⟩ => ⟨fun m σ' H' => ∃ ρ', g9 Fm H' σ' ρ' ∧ x4 X Fm (cZ t g m ρ') D, ⟨n, ρ, sl, q⟩, fun m σ1 H1 ⟨ρ1, sl1, q1⟩ => ?_⟩
  cases m with
  | zero => exact q1.elim
  | succ k =>
    have q2 : yU X Fm (fun ρ => t ρ >>= fun b => if b = true then g ρ >>= fun o => (match o with
      | .nx ρ2 => cZ t g k ρ2
      | .ct ρ2 => cZ t g k ρ2
      | .bk ρ2 => .ok (.nx ρ2)
      | .rt r => .ok (.rt r)) else .ok (.nx ρ)) D σ1 H1 := ⟨ρ1, sl1, q1⟩
    refine (tS (f := t) (k := fun ρ b => if b = true then g ρ >>= fun o => (match o with
      | .nx ρ2 => cZ t g k ρ2
      | .ct ρ2 => cZ t g k ρ2
      | .bk ρ2 => .ok (.nx ρ2)
      | .rt r => .ok (.rt r)) else .ok (.nx ρ)) q2).post fun b H2 ⟨ρ2, sl2, _, q3⟩ => ?_
    cases b with
    | false => exact q3 σ1 H2 sl2
    | true =>
      have q4 : x4 X Fm (g ρ2 >>= fun o => (match o with
      | .nx ρ2 => cZ t g k ρ2
      | .ct ρ2 => cZ t g k ρ2
      | .bk ρ2 => .ok (.nx ρ2)
      | .rt r => .ok (.rt r))) D := q3
      show if true = true then _ else _
      rw [if_pos rfl]
      refine ⟨fun σ' H' => ∃ ρ', g9 Fm H' σ' ρ' ∧ x4 X Fm (cZ t g k ρ') D, fun σ' H' z => ⟨k, Nat.lt_succ_self k, z⟩, ρ2, sl2, ?_⟩
      cases eg : g ρ2 with
      | ex c => rw [eg] at q4; exact q4
      | no => rw [eg] at q4; exact q4
      | ok o =>
        rw [eg] at q4
        cases o with
        | nx ρ4 => exact fun σ' H' s' => ⟨ρ4, s', q4⟩
        | ct ρ4 => exact fun σ' H' s' => ⟨ρ4, s', q4⟩
        | bk ρ4 => exact q4
        | rt r => exact q4
theorem Z.iL {c : Expr} {body : List Stmt} {t : aX → R Bool} (n : Nat) (hp : PassesOwn (model X.prog X.w) X.A X.env X.xe) (ht : Z.gE X c t) (hb : Z.gF X body g) : Z.eY X (.While c body [] pos) (nv n t g) :=
  ⟨D2.iL n hp ht.un hb.un⟩
end
abbrev zF : List Value := [.type "ValueError", .type "Exception", .type "BaseException", .type "object"]
abbrev yV : String := "ValueError.__new__"
section
variable {K : PySem.W.Frag} {h : Heap} {C : Addr}
def ui (h : Heap) (C : Addr) (bm : List Value) : Prop := ∃ N nm q bs hdct sn sub ab col dd k0 k1 k2 k3 k5 mN, h.get? C = some (excClassObj nm q C N bs bm hdct sn sub ab col dd k0 k1 k2 k3 k5 yV) ∧ h.Ns N mN ∧ mN "__init__" = none ∧ OwnTail h zF bm
theorem ui.keep {h' : Heap} {bm : List Value} (c : ui h C bm) (k : ∀ b o, h.get? b = some o → h'.get? b = some o) : ui h' C bm :=
  let ⟨N, nm, q, bs, hdct, sn, sub, ab, col, dd, k0, k1, k2, k3, k5, mN, hC, hN, hni, T⟩ := c
  ⟨N, nm, q, bs, hdct, sn, sub, ab, col, dd, k0, k1, k2, k3, k5, mN, k _ _ hC, hN.keeps k, hni, T.keeps k⟩
def sI (K : PySem.W.Frag) (C : Addr) : List Value := match K.lookup C with
  | some ⟨_, _, .cls cd, _⟩ => cd.mro.drop 1
  | _ => []
theorem vR (X : K.In h) (q : PySem.W.excIn K C zF yV = true) : ui h C (sI K C) := by
  unfold PySem.W.excIn at q
  unfold sI
  cases hk : K.lookup C with
  | none => rw [hk] at q; cases q
  | some ob =>
    rw [hk] at q
    split at q
    · rename_i dd cd sl ho
      cases ho
      split at q
      · rename_i C' bm k0 k1 k2 k3 n k5 hm hs
        simp only [Bool.not_eq_true', beq_iff_eq, Bool.and_eq_true] at q
        obtain ⟨⟨⟨⟨⟨e1, e2⟩, hdel⟩, ht⟩, hok⟩, hni⟩ := q
        subst e1; subst e2
        obtain ⟨nm, bs, mro, ns, qn, hd, sn, sub, ab, col, del⟩ := cd
        dsimp only at hm hdel hok hni ⊢
        subst hm; subst hdel
        have hsl : sl = #[k0, k1, k2, k3, some (.builtin yV), k5] := by
          obtain ⟨l⟩ := sl
          simp only at hs
          rw [hs]
        subst hsl
        exact ⟨ns, nm, qn, bs, hd, sn, sub, ab, col, dd, k0, k1, k2, k3, k5, _, X _ _ hk, .of_isNs (PySem.W.isNs_of_in X hok), PySem.W.nsMap_none_of_in X hok hni, PySem.W.tail_of_in X ht⟩
      · cases q
    · cases q
end
def iU (x : Str) (f : Fe) : Fs := fun ρ => lh (f ρ) >>= fun _ => .ex x
section
variable {X : Cx} {nl : Nat} {G : List Str} {x : Str} {e : Expr} {f : Fe} {np cp pos : Pos} {C : Addr}
theorem fW (T : Tb X nl G) (j : Nat) (hG : G[j]? = some x) (hm : X.mg x = some (.ref C)) (hq : PySem.W.excIn X.K C zF yV = true) (he : ak X.nox e f) (hst : aG e = true := by rfl) : eY X (.Raise (some (.Call (.Name x np) [e] [] cp)) none pos) (iU x f) := fun Fm => by
  intro pins s σ H D I ⟨ρ, sl, q⟩
  have hg := T.gl x (List.mem_of_getElem? hG)
  have sc : starEach [e] X.env = (false, eval e X.env) :: starEach [] X.env := bB hst
  obtain ⟨N, nm, qn, bs, hdct, sn, sub, ab, col, dd, k0, k1, k2, k3, k5, mN, hC, hN, hni, TL⟩ := vR (I.ok.mod.kin) hq
  unfold iU at q
  cases ef : f ρ with
  | ex c => rw [ef] at q; exact q.elim
  | no => rw [ef] at q; exact q.elim
  | ok d =>
    rw [ef] at q
    simp only [lh, R.ok_bind] at q
    refine wpAny_Raise_call_subT (C := C) (nm := nm) (q := qn) (N := N) (bs := bs) (bm := sI X.K C) (hdct := hdct) (sn := sn) (sub := sub) (ab := ab) (col := col) (dd := dd) (k0 := k0) (k1 := k1) (k2 := k2) (k3 := k3) (k5 := k5) PySem.F.excBase_ValueError (mN := mN) (TL.hasType rfl) (I.ok.hd T.calm) (by rw [sc]; rfl) hni (lW I hg.1 hm ⟨rfl, ?_⟩ hg.2.1)
    rw [sc]
    refine Calls.evalArgs_plain (wpAny_mono ?_ (fun vs s2 z => ⟨rfl, z⟩) fun _ _ y => y)
    have ha : PA X.nox [e] (wK X.nox Rp (ag f aH)) := ae he ap hst
    have hw := ha cp pins s σ H (fun vs H' => vs.length = 1 ∧ aR H H') (I.wish _) ⟨ρ, sl.sl, by
      unfold ag aH
      rw [ef]
      intro vs H' s' ra
      simp only [RA] at ra
      obtain ⟨v, r, rfl, _, rfl⟩ := ra
      exact ⟨rfl, s'⟩⟩
    rw [show (X.nox.env) = X.env from rfl, sc] at hw
    refine wpAny_mono hw (fun us s2 ⟨vs, H2, I2, r2, hl, s12⟩ => ?_) fun _ _ z => False.elim z
    have I2 := I2.unwish
    have hlen : us.length = 1 := by rw [← r2.length]; exact hl
    exact ⟨by rw [hlen]; decide, I2.bk _ _ hC, hN.keeps I2.bk, TL.keeps I2.bk, fun h' p mk => q.2 C hm pins σ H2 s2 (sl.fm.trans s12) I2 h' p us mk⟩
theorem Z.fW (T : Tb X nl G) (j : Nat) (hG : G[j]? = some x) (hm : X.mg x = some (.ref C)) (hq : PySem.W.excIn X.K C zF yV = true) (he : Z.ak X.nox e f) (hst : aG e = true := by rfl) : Z.eY X (.Raise (some (.Call (.Name x np) [e] [] cp)) none pos) (iU x f) :=
  ⟨D2.fW T j hG hm hq he.un hst⟩
end
def Xh (X : Cx) (p : Addr) (ob : Obj) : Cx := { X with A := X.A.mark (some (.ref p)), calm := false, xe := fun _ _ => False, pn := (p, ob) :: X.pn }
structure Di (X : Cx) (nl : Nat) (G : List Str) : Prop where
  hu : X.A.units + 64 < cLine
  nd : X.N.Nodup
  vis : ∀ x ∈ X.N, Av X.env.scope x ∧ (x == ("__debug__" : Str)) = false ∧ (x == ("__classdict__" : Str)) = false
  loc : ∀ x ∈ X.N.take nl, yT X.env.scope x ∧ (X.fn x = true ∨ X.env.scope.names.lookup x = some .local)
  gl : ∀ x ∈ G, Gl X x ∧ (x == ("__debug__" : Str)) = false ∧ x ≠ ("__name__" : Str)
theorem Tb.h {X : Cx} {nl : Nat} {G : List Str} (T : Tb X nl G) (p : Addr) (ob : Obj) : Di (Xh X p ob) nl G := ⟨T.hu, T.nd, T.vis, T.loc, T.gl⟩
def CU (X : Cx) (C : Addr) (hs : List ExceptHandler) (F : Addr → aX → R PyData) : Prop :=
  ∀ (pins : List (Addr × Obj)) (σ : St) (Hc H : Hp) (sc s : Shared) (p : Addr) (Fm : Hp) (ρ : aX) (D : qe), aU X pins σ Hc sc → Bl X.prog X.w X.stack Hc sc C H (.ref p) s → g9 Fm H σ ρ →
    (match F p ρ with
      | .ok d => ∀ v H', aR Fm H' → Rp H' d v → D.rt v H'
      | _ => False) → wpAny (model X.prog X.w) X.A (handleBy (.ref p) X.env hs) (SP X pins D) X.xe s
abbrev Hs := List (Str × (Addr → aX → R PyData))
inductive vt (X : Cx) (src : List ExceptHandler) : Hs → Prop
  | nil : vt X src []
  | cons {c : Str} {C : Addr} {h : Addr → aX → R PyData} {hs : Hs} (hm : X.mg c = some (.ref C)) (he : CU X C src h) (r : vt X src hs) : vt X src ((c, h) :: hs)
theorem vt.at {X : Cx} {src : List ExceptHandler} {c : Str} {h : Addr → aX → R PyData} : ∀ {hs : Hs}, vt X src hs → hs.lookup c = some h → ∃ C, X.mg c = some (.ref C) ∧ CU X C src h
  | _, .nil, e => by cases e
  | _, .cons (c := c') hm he r, e => by
    rw [List.lookup_cons] at e
    split at e
    · rename_i q
      have : c = c' := by simpa using q
      subst this
      cases e
      exact ⟨_, hm, he⟩
    · exact vt.at r e
section
variable {X : Cx} {a b c : Expr} {fa fb fc : Fe} {pos p2 : Pos} {nl : Nat} {G : List Str} {x : Str} {p : Pos}
theorem tj : ∀ {xs : List V} {vs : List Value}, vs.length = xs.length → (∀ (j : Nat) (v : Value), vs[j]? = some v → ∃ x, xs[j]? = some x ∧ bM x v) → bw xs vs
  | [], [], _, _ => .nil
  | [], _ :: _, e, _ => by cases e
  | _ :: _, [], e, _ => by cases e
  | x :: xs, v :: vs, e, h => by
    obtain ⟨y, e1, r⟩ := h 0 v rfl
    cases e1
    exact .cons r (tj (by simpa using e) fun j u hu => by
      obtain ⟨z, e2, r2⟩ := h (j + 1) u (by simpa using hu)
      exact ⟨z, by simpa using e2, r2⟩)
end
def nh (p : Int → Int → Bool) (n : Int) (ns : List Int) : Int := ns.foldl (fun a b => if p b a = true then b else a) n
theorem jX {p : Int → Int → Bool} {le : Int → Int → Prop} (h1 : ∀ a b, p b a = true → le b a) (h2 : ∀ a b, ¬ p b a = true → le a b) (tr : ∀ a b c, le a b → le b c → le a c) (rf : ∀ a, le a a) : ∀ (ns : List Int) (n : Int), nh p n ns ∈ n :: ns ∧ ∀ a ∈ n :: ns, le (nh p n ns) a
  | [], n => ⟨by simp [nh], fun a ha => by simp at ha; subst ha; exact rf _⟩
  | m :: ns, n => by
    obtain ⟨g1, g2⟩ := jX h1 h2 tr rf ns (if p m n = true then m else n)
    have e : nh p n (m :: ns) = nh p (if p m n = true then m else n) ns := rfl
    rw [e]
    refine ⟨?_, fun a ha => ?_⟩
    · rcases List.mem_cons.mp g1 with z | z
      · rw [z]; split <;> simp
      · exact List.mem_cons_of_mem _ (List.mem_cons_of_mem _ z)
    · have k := g2 _ List.mem_cons_self
      rcases List.mem_cons.mp ha with rfl | ha
      · refine tr _ _ _ k ?_
        split
        · rename_i z; exact h1 _ _ z
        · exact rf _
      · rcases List.mem_cons.mp ha with rfl | ha
        · refine tr _ _ _ k ?_
          split
          · exact rf _
          · rename_i z; exact h2 _ _ z
        · exact g2 a (List.mem_cons_of_mem _ ha)
def w9 (n : Int) (ns : List Int) : Int := nh (fun b a => decide (b < a)) n ns
def rG (n : Int) (ns : List Int) : Int := nh (fun b a => decide (a < b)) n ns
theorem vd (n : Int) (ns : List Int) : w9 n ns ∈ n :: ns ∧ ∀ a ∈ n :: ns, w9 n ns ≤ a :=
  jX (le := (· ≤ ·)) (fun a b h => by simp at h; omega) (fun a b h => by simp at h; omega) (fun a b c => Int.le_trans) Int.le_refl ns n
theorem oA (n : Int) (ns : List Int) : rG n ns ∈ n :: ns ∧ ∀ a ∈ n :: ns, a ≤ rG n ns :=
  jX (le := fun a b => b ≤ a) (fun a b h => by simp at h; omega) (fun a b h => by simp at h; omega) (fun a b c h1 h2 => Int.le_trans h2 h1) Int.le_refl ns n
section
variable {X : Cx} {a b c : Expr} {fa fb fc : Fe} {pos p2 : Pos} {nl : Nat} {G : List Str} {x : Str} {p : Pos}
theorem jY : ∀ {its : List Value} {ns : List Int}, IntsAre its ns → ∃ ys : List (Int × Tok), its = ys.map (fun p => Value.int p.1 p.2) ∧ ys.map (·.1) = ns
  | _, _, .nil => ⟨[], rfl, rfl⟩
  | _, _, .cons n t h => by
    obtain ⟨ys, e1, e2⟩ := jY h
    exact ⟨(n, t) :: ys, by rw [List.map_cons, e1], by rw [List.map_cons, e2]⟩
theorem AN (hc : X.calm = true) : dq X (.builtin "min") (fun xs H Q => ∃ p n ns, xs = [.ref p] ∧ lZ X.K H p ((n :: ns).map V.int) ∧ Q (.int (w9 n ns)) H) := by
  intro pins s σ H xs us Q I r h
  obtain ⟨p, n, ns, rfl, hq, q⟩ := h
  obtain ⟨u, rfl, rx⟩ := gx r
  cases rx
  obtain ⟨its, rv, pl, hz⟩ := I.list hq
  obtain ⟨ys, e1, e2⟩ := jY (jI rv)
  have hl : s.heap.IsList p (intItems ys.toArray) := by
    have : intItems ys.toArray = its.toArray := by rw [e1]; simp [intItems]
    rw [this]; exact pl.isList
  have hlen : ys.length = ns.length + 1 := by have := congrArg List.length e2; simpa using this
  refine min_intList (I.ok.hd hc) hl (by simp; omega) fun v h' tk hv hk => ?_
  obtain ⟨t, rfl⟩ := intItems_at hv
  obtain ⟨g1, g2⟩ := argBest_lt (numAt ys.toArray) (ys.toArray.size - 1)
  generalize argBest (fun i j => decide (numAt ys.toArray i < numAt ys.toArray j)) (ys.toArray.size - 1) = w at g1 g2 hv ⊢
  have el : ys.toArray.toList.map (·.1) = n :: ns := e2
  have m1 : numAt ys.toArray w ∈ n :: ns := by
    rw [numAt_eq, el]
    refine getD_mem ?_
    simp at g1 ⊢
    omega
  obtain ⟨k1, k2⟩ := vd n ns
  have e3 : numAt ys.toArray w = w9 n ns := by
    refine Int.le_antisymm ?_ (k2 _ m1)
    obtain ⟨j, hj, e⟩ := mem_getD k1
    have := g2 j (by simp at hj ⊢; omega)
    rw [numAt_eq ys.toArray j, el, e] at this
    exact this
  rw [e3]
  exact ⟨.int _, H, I.kept hk, ⟨_, rfl⟩, q⟩
theorem uC (hc : X.calm = true) : dq X (.builtin "max") (fun xs H Q => ∃ p n ns, xs = [.ref p] ∧ lZ X.K H p ((n :: ns).map V.int) ∧ Q (.int (rG n ns)) H) := by
  intro pins s σ H xs us Q I r h
  obtain ⟨p, n, ns, rfl, hq, q⟩ := h
  obtain ⟨u, rfl, rx⟩ := gx r
  cases rx
  obtain ⟨its, rv, pl, hz⟩ := I.list hq
  obtain ⟨ys, e1, e2⟩ := jY (jI rv)
  have hl : s.heap.IsList p (intItems ys.toArray) := by
    have : intItems ys.toArray = its.toArray := by rw [e1]; simp [intItems]
    rw [this]; exact pl.isList
  have hlen : ys.length = ns.length + 1 := by have := congrArg List.length e2; simpa using this
  refine max_intList (I.ok.hd hc) hl (by simp; omega) fun v h' tk hv hk => ?_
  obtain ⟨t, rfl⟩ := intItems_at hv
  obtain ⟨g1, g2⟩ := argBest_gt (numAt ys.toArray) (ys.toArray.size - 1)
  generalize argBest (fun i j => decide (numAt ys.toArray i > numAt ys.toArray j)) (ys.toArray.size - 1) = w at g1 g2 hv ⊢
  have el : ys.toArray.toList.map (·.1) = n :: ns := e2
  have m1 : numAt ys.toArray w ∈ n :: ns := by
    rw [numAt_eq, el]
    refine getD_mem ?_
    simp at g1 ⊢
    omega
  obtain ⟨k1, k2⟩ := oA n ns
  have e3 : numAt ys.toArray w = rG n ns := by
    refine Int.le_antisymm (k2 _ m1) ?_
    obtain ⟨j, hj, e⟩ := mem_getD k1
    have := g2 j (by simp at hj ⊢; omega)
    rw [numAt_eq ys.toArray j, el, e] at this
    exact this
  rw [e3]
  exact ⟨.int _, H, I.kept hk, ⟨_, rfl⟩, q⟩
def CT : PyData → R PyData
  | .list ds => match dJ ds with
    | some (n :: ns) => .ok (.int (w9 n ns))
    | _ => .no
  | _ => .no
def pZ : PyData → R PyData
  | .list ds => match dJ ds with
    | some (n :: ns) => .ok (.int (rG n ns))
    | _ => .no
  | _ => .no
theorem oY (T : Tb X nl G) (j : Nat) (hG : G[j]? = some ("max" : Str)) (hm : X.mg "max" = none) (ha : bU X a fa) (he : aG a = true := by rfl) : ak X (.Call (.Name "max" p) [a] [] pos) (e1 pZ fa) := by
  refine xw T j hG hm fM PyProof.Rows.boot_max (uC T.calm) (fun H x d Q hx q => ?_) ha he
  cases d with
  | list ds =>
    simp only [pZ] at q
    split at q
    · rename_i n ns ei
      rw [ie ei] at hx
      obtain ⟨a', vs, rfl, h, r⟩ := fi (K := X.K) hx
      rw [mm r] at h
      exact ⟨a', n, ns, rfl, h, q _ H (aR.refl _) df⟩
    · exact q.elim
  | _ => exact q.elim
theorem Z.oY (T : Tb X nl G) (j : Nat) (hG : G[j]? = some ("max" : Str)) (hm : X.mg "max" = none) (ha : Z.bU X a fa) (he : aG a = true := by rfl) : Z.ak X (.Call (.Name "max" p) [a] [] pos) (e1 pZ fa) :=
  ⟨D2.oY T j hG hm ha.un he⟩
end
section
variable {prog : Program} {w : World} {A : Around} {E : Value → Shared → Prop} {s : Shared}
theorem nU {R : List Value → Shared → Prop} {r : Addr} {a b c : Int} {t u v : Tok} {n : Nat} (hh : A.handled = none) (hr : IsRange s.heap r a b c t u v) (hsmall : Builtin.Range.small a b c = true)
    (hn : Builtin.Range.rangeSize a b c = n) (hlen : n ≤ 2 ^ 24)
    (h : ∀ (h' : Heap) (tk : Nat) (acc : Array Value), (∀ b o, s.heap.get? b = some o → h'.get? b = some o) → ItemsOf (fun i v => ∃ t, v = .int (a + i * c) t) acc n → R acc.toList { s with heap := h', toks := tk }) :
    wpAny (model prog w) A (collect (.ref r)) R E s := by
  unfold collect
  refine wpAny_bind (wpAny_runValue (codeAny_builtin F.entry_proto_collect ?_))
  rw [Around.under_plainId PySem.F.plain_proto_collect _]
  show wpAny _ A.in1 (newList [] >>= fun l => again (.builtin "list.__iadd__" ⟨[l, .ref r], []⟩)) _ _ s
  refine wpAny_bind (wpAny_newObj_type ?_)
  refine wpAny_pure ⟨plainId_quiet PySem.F.plain_list_iadd _, codeAny_builtin F.entry_list_iadd ?_⟩
  rw [Around.under_plainId PySem.F.plain_list_iadd _]
  have hS₁ : (s.heap.push { cls := .type "list", data := .seq ([] : List Value).toArray }).get? s.heap.objs.size = some { cls := .type "list", data := .seq #[] } := Heap.get?_push_size _ rfl
  show wpAny _ A.in1 (Builtin.List.listExtendWith (.ref s.heap.objs.size) (.ref r) (.ref s.heap.objs.size)) _ _ _
  have key := wpAny_extend_range (prog := prog) (w := w) (A := A) (s := { s with heap := s.heap.push { cls := .type "list", data := .seq ([] : List Value).toArray } })
    (R := fun (q : Result) (s' : Shared) => ∃ (h' : Heap) (tk : Nat) (acc' : Array Value) (c' : Nat), q = .ok (.ret (.ref s.heap.objs.size)) ∧ s' = { s with heap := h', toks := tk } ∧
      (∀ b o, s.heap.get? b = some o → h'.get? b = some o) ∧ h'.get? s.heap.objs.size = some { cls := .type "list", dict := none, data := .seq acc' c', slots := #[] } ∧ ItemsOf (fun i v => ∃ t, v = .int (a + i * c) t) acc' n)
    hh (Heap.get?_push_of_some _ hr) hsmall hn hlen s.heap.objs.size (.ref s.heap.objs.size) 0 hS₁
    (fun h' tk acc' c' hk hS' hacc => ⟨h', tk, acc', c', rfl, rfl, fun b o e => hk b o (Nat.ne_of_lt (Heap.lt_size e)) (Heap.get?_push_of_some _ e), hS', hacc⟩)
  refine wpAny_mono key (fun fin s' x => ?_) fun e s' x => ?_
  · cases fin with
    | done f =>
      obtain ⟨h', tk, acc', c', e, rfl, hk, hS', hacc⟩ := x
      cases e
      show wpAny _ A (load s.heap.objs.size >>= _) _ _ _
      refine wpAny_bind (wpAny_load hS' ?_)
      exact wpAny_pure (h h' tk acc' hk hacc)
    | again c' =>
      obtain ⟨hq, hc⟩ := x
      refine ⟨hq, codeAny_mono hc fun q s' ⟨h', tk, acc', c', e, e2, hk, hS', hacc⟩ => ?_⟩
      subst e e2
      show wpAny _ A (load s.heap.objs.size >>= _) _ _ _
      refine wpAny_bind (wpAny_load hS' ?_)
      exact wpAny_pure (h h' tk acc' hk hacc)
  · obtain ⟨h', tk, acc', c', e, _⟩ := x
    cases e
theorem lJ (r : Addr) (a b c : Int) (t u v : Tok) (n : Nat) (hsmall : Builtin.Range.small a b c = true) (hn : Builtin.Range.rangeSize a b c = n) (hlen : n ≤ 2 ^ 24) : Meets (Builtin.«tuple.__new__» ⟨[.type "tuple", .ref r], []⟩)
      (fun A R s => A.handled = none ∧ IsRange s.heap r a b c t u v ∧ ∀ (h' : Heap) (tk : Nat) (acc : Array Value), (∀ b o, s.heap.get? b = some o → h'.get? b = some o) → ItemsOf (fun i v => ∃ t, v = .int (a + i * c) t) acc n →
        R (.ok (.ret (.ref h'.objs.size))) { s with heap := h'.push { cls := .type "tuple", data := .seq acc }, toks := tk }) :=
  .of_wp fun prog w A R s h => by
    obtain ⟨hh, hr, h⟩ := h
    have hsub := sub_tuple_self
    have hinit := init_tuple_lookup
    have hmh := madeHere_tuple
    have hT : s.TypeIs (.ref r) "range" := ⟨_, hr, rfl⟩
    have hh1 : A.in1.handled = none := hh
    wp_walk using wpAny_typeOf hT, nU hh1 hr hsmall hn hlen
    intro h' tk acc hk hacc
    show wpAny _ _ (Builtin.Tuple.tupleExact acc.toList.toArray >>= fun v => ret v) _ _ _
    unfold Builtin.Tuple.tupleExact
    refine wpAny_bind (wpAny_newObj_type ?_ (show acc.toList.toArray.size ≤ sizeLine by simp only [Array.toArray_toList]; rw [hacc.1, sizeLine_eq]; omega))
    refine wpAny_pure ⟨_, rfl, ?_⟩
    have e : acc.toList.toArray = acc := by simp
    rw [e]
    exact h h' tk acc hk hacc
theorem kU {Q : Value → Shared → Prop} {r : Addr} {a b c : Int} {t u v : Tok} {n : Nat} (hh : A.handled = none) (hr : IsRange s.heap r a b c t u v) (hsmall : Builtin.Range.small a b c = true) (hn : Builtin.Range.rangeSize a b c = n) (hlen : n ≤ 2 ^ 24)
    (h : ∀ (h' : Heap) (tk : Nat) (acc : Array Value), (∀ b o, s.heap.get? b = some o → h'.get? b = some o) → ItemsOf (fun i v => ∃ t, v = .int (a + i * c) t) acc n → Q (.ref h'.objs.size) { s with heap := h'.push { cls := .type "tuple", data := .seq acc }, toks := tk }) :
    wpAny (model prog w) A (call (.type "tuple") [.ref r]) Q E s := by
  refine callType_new F.called_tuple (by decide) (F.typeCall_tuple_1 _) (F.newCall_tuple_1 _) (fun obj => F.args_object_init_2 obj _) F.entry_tuple_new
    (lJ r a b c t u v n hsmall hn hlen) ⟨hh, hr, fun h' tk acc hk hacc => ⟨⟨_, Heap.get?_push_size _ rfl, rfl⟩, h h' tk acc hk hacc⟩⟩
end
section
variable {X : Cx} {a b c : Expr} {fa fb fc : Fe} {pos p2 : Pos} {nl : Nat} {G : List Str} {x : Str} {p : Pos} {fs : aX → R (List PyData)} {pos2 : Pos}
def i9 (lo : Int) (n : Nat) : List V := (List.range n).map fun (k : Nat) => .int (lo + k)
theorem uQ {H : Hp} (lo : Int) (n : Nat) : bF H (bx lo n) (i9 lo n) := by
  have key : ∀ l : List Nat, bF H (l.map fun (k : Nat) => PyData.int (lo + k)) (l.map fun (k : Nat) => V.int (lo + k)) := by
    intro l
    induction l with
    | nil => exact bF.nil
    | cons k l ih => exact bF.cons df ih
  exact key _
theorem rS {lo : Int} {n : Nat} {acc : Array Value} (h : ItemsOf (fun i v => ∃ t, v = .int (lo + (i : Int) * 1) t) acc n) : bw (i9 lo n) acc.toList := by
  refine tj (by rw [Array.length_toList, h.1]; simp [i9]) fun j v hj => ?_
  obtain ⟨t, e⟩ := h.2 j v (by rw [← Array.getElem?_toList]; exact hj)
  have hjn : j < n := by
    have := (List.getElem?_eq_some_iff.mp hj).1
    rw [Array.length_toList, h.1] at this
    exact this
  refine ⟨.int (lo + j), ?_, t, by rw [e]; simp⟩
  unfold i9
  rw [List.getElem?_map, List.getElem?_range hjn]
  rfl
theorem sy (lo : Int) (n : Nat) : (i9 lo n).length = n := by simp [i9]
def Ck (mk : List V → HO) (ta : TA) : TE := fun σ H Q => ta σ H fun vs H1 => ∃ j : Int, vs = [.int j] ∧ j ≤ 16777216 ∧ -(2 ^ 62) ≤ j ∧ ∀ l, H1 l = none → Q (.ref l) (cx H1 l (mk (i9 0 j.toNat)))
theorem wE {ta : TA} (T : Tb X nl G) (i : Nat) (hGi : G[i]? = some ("tuple" : Str)) (hmi : X.mg "tuple" = none) (j : Nat) (hG : G[j]? = some ("range" : Str)) (hm : X.mg "range" = none) (ha : PA X [a] ta) (hs : aG a = true := by rfl) :
    PE X (.Call (.Name "tuple" p) [.Call (.Name "range" p2) [a] [] pos2] [] pos) (Ck .tup ta) := by
  intro pins s σ H Q I h
  have g1 := T.gl _ (List.mem_of_getElem? hGi)
  have g2 := T.gl _ (List.mem_of_getElem? hG)
  have sc : starEach [Expr.Call (.Name "range" p2) [a] [] pos2] X.env = (false, eval (Expr.Call (.Name "range" p2) [a] [] pos2) X.env) :: starEach [] X.env := bB (by rfl)
  refine Call_ (iJ I g1.1 hmi PyProof.Rows.boot_tuple (PyProof.Rows.callWith_type1 ?_ sc rfl))
  rw [sc]
  refine Calls.spliced_cons ?_
  refine Call_ (iJ I g2.1 hm boot_range (PyProof.Rows.callWith_type1 (da (ha pos2 pins s σ H _ I h) fun us s1 ⟨vs, H1, I1, r1, q1⟩ => ?_) (bB hs) rfl))
  obtain ⟨n, e, h1, h2, q⟩ := q1
  subst e
  obtain ⟨u, rfl, t, rfl⟩ := gx r1
  refine call_range_1 (Calls.spliced_nil ?_)
  have hsz : Builtin.Range.rangeSize 0 n 1 = n.toNat := by rw [rangeSize_one]; split <;> omega
  refine kU (n := n.toNat) (I1.ok.hd T.calm) (IsRange.new ..) (small_one (by omega) (by omega) (by omega) (by omega)) hsz (by omega) fun h' tk acc kp hacc => ?_
  have kp' : ∀ b o, s1.heap.get? b = some o → h'.get? b = some o := fun b o e => kp b o (Heap.get?_push_of_some _ e)
  have hg : s1.heap.get? h'.objs.size = none := by
    cases e : s1.heap.get? h'.objs.size with
    | none => rfl
    | some o => exact absurd (Heap.lt_size (kp' _ _ e)) (Nat.lt_irrefl _)
  have hn := qK I1 hg
  refine ⟨.ref h'.objs.size, _, qa (s := s1) (t' := tk) (o := .tup (i9 0 n.toNat)) I1 (fun b o e => Heap.get?_push_of_some _ (kp' b o e)) hg hn ⟨by rw [sy, sizeLine_eq]; omega, acc.toList, rS hacc, _, Heap.get?_push_size _ rfl, rfl, _, by simp; rfl⟩, rfl, q _ hn⟩
def AR (mk : List PyData → PyData) : List PyData → R PyData
  | [.int j] => if j ≤ 16777216 ∧ -(2 ^ 62) ≤ j then .ok (mk (bx 0 j.toNat)) else .no
  | _ => .no
def qf (fs : aX → R (List PyData)) : Fe := fun ρ => fs ρ >>= AR .tuple
theorem lU (T : Tb X nl G) (i : Nat) (hGi : G[i]? = some ("tuple" : Str)) (hmi : X.mg "tuple" = none) (j : Nat) (hG : G[j]? = some ("range" : Str)) (hm : X.mg "range" = none) (ha : nT X [a] fs) (hs : aG a = true := by rfl) :
    ak X (.Call (.Name "tuple" p) [.Call (.Name "range" p2) [a] [] pos2] [] pos) (qf fs) :=
  PE.imp (wE T i hGi hmi j hG hm ha hs) fun σ H Q h => (mM (I := Rp) (f := fs) (k := fun _ => AR .tuple) (gt (X := X) fM Q) h).post fun vs H1 ⟨_, ds, _, _, p1, q1⟩ => by
    unfold AR at q1
    split at q1
    · rename_i n
      split at q1
      · rename_i hz
        simp only [RA] at p1
        obtain ⟨v, r', rfl, p, rfl⟩ := p1
        have ev : v = .int n := by simpa only [Rp] using p
        subst ev
        exact ⟨n, rfl, hz.1, hz.2, fun l hl => q1 _ _ (cB hl _) (dR hl (uQ 0 n.toNat))⟩
      · exact q1.elim
    · exact q1.elim
theorem Z.lU (T : Tb X nl G) (i : Nat) (hGi : G[i]? = some ("tuple" : Str)) (hmi : X.mg "tuple" = none) (j : Nat) (hG : G[j]? = some ("range" : Str)) (hm : X.mg "range" = none) (ha : Z.nT X [a] fs) (hs : aG a = true := by rfl) : Z.ak X (.Call (.Name "tuple" p) [.Call (.Name "range" p2) [a] [] pos2] [] pos) (qf fs) :=
  ⟨D2.lU T i hGi hmi j hG hm ha.un hs⟩
end
section
variable {X : Cx} {a b : Expr} {fa fb : Fe} {pos p2 : Pos}
def CO : PyData → PyData → R PyData
  | .list xs, .int k => if -(2 ^ 63) ≤ k ∧ k < 2 ^ 63 ∧ xs.length * k.toNat ≤ sizeLine then .ok (.list (List.replicate k.toNat xs).flatten) else .no
  | _, _ => .no
end
theorem bF.set {H : Hp} {d : PyData} {v : V} (p : Rp H d v) : ∀ {ds : List PyData} {vs : List V} (j : Nat), bF H ds vs → bF H (ds.set j d) (vs.set j v)
  | [], vs, j, r => by rw [r.nil_inv]; exact bF.nil
  | d' :: ds, vs, j, r => by
    obtain ⟨v', r', rfl, p', t⟩ := r.cons_inv
    cases j with
    | zero => exact bF.cons p t
    | succ j => exact bF.cons p' (bF.set p j t)
def gm (i : Nat) (fk fv : Fe) : Fs := fun ρ => fv ρ >>= fun v => lh (fk ρ) >>= fun k => match ρ[i]?, k with
  | some (.own (.list ds)), .int n => match tL ds.length n with
    | some j => .ok (.nx (ρ.set i (.own (.list (ds.set j v)))))
    | none => .no
  | _, _ => .no
section
variable {X : Cx} {nl : Nat} {G : List Str} {x : Str} {f : Fe} {e : Expr}
theorem jm {k v : Expr} {fk fv : Fe} {q1 q2 q3 : Pos} (T : Tb X nl G) (n : Nat) (hN : X.N[n]? = some x) (hk : ak X.nox k fk) (hv : ak X v fv) (hs : swapsWithSole [.Subscript (.Name x q1) k q2] v q3.line X.env = pure false := by rfl) (hw : swappedStores [.Subscript (.Name x q1) k q2] v X.env = pure none := by rfl)
    (h1 : (assignEach [.Subscript (.Name x q1) k q2] X.env).map (·.2) = [assign (.Subscript (.Name x q1) k q2) X.env] := by rfl)
    (ha : ∀ v, assign (.Subscript (.Name x q1) k q2) X.env v = (do
      let ov ← holding [v] (eval (.Name x q1) X.env)
      let iv ← holding [v, ov] (eval k X.env)
      standAt q2
      holding [v, ov, iv] (setItem ov iv v)
      release [v, ov, iv] []) := by intro _; rfl) :
    eY X (.Assign [.Subscript (.Name x q1) k q2] v q3) (gm n fk fv) := fun Fm => by
  have hm := T.vis x (List.mem_of_getElem? hN)
  have hkX : PE X k (fun σ H Q => ju X.nox gI fk σ H Q) := fun pins s σ H Q I h => wpAny_mono (hk pins s σ H Q (I.wish _) h) (fun v s' ⟨y, H', I', r, q⟩ => ⟨y, H', I'.unwish, r, q⟩) fun _ _ z => False.elim z
  refine PS.imp (Ap hv (zt (kR hN hm.1 hm.2.1 hm.2.2) hkX xb ha) hs hw h1) fun D σ H h => ?_
  refine (kI (P := gI) (f := fv) (k := fun ρ v => lh (fk ρ) >>= fun k => match ρ[n]?, k with
    | some (.own (.list ds)), .int m => match tL ds.length m with
      | some j => .ok (.nx (ρ.set n (.own (.list (ds.set j v)))))
      | none => .no
    | _, _ => .no) h).post fun vv H1 ⟨ρ1, dv, sl1, _, p1, q1⟩ => ?_
  cases ef : fk ρ1 with
  | ex c => rw [ef] at q1; exact q1.elim
  | no => rw [ef] at q1; exact q1.elim
  | ok kd =>
    rw [ef] at q1
    simp only [lh, R.ok_bind] at q1
    cases er : ρ1[n]? with
    | none => rw [er] at q1; exact q1.elim
    | some c =>
      rw [er] at q1
      cases c with
      | non => exact q1.elim
      | exc p => exact q1.elim
      | val d' => exact q1.elim
      | own d' =>
        cases d' with
        | list ds =>
          cases kd with
          | int m =>
            dsimp only at q1
            cases ei : tL ds.length m with
            | none => rw [ei] at q1; exact q1.elim
            | some j =>
              rw [ei] at q1
              obtain ⟨o, h2, w', rfl, p2⟩ := sl1.sl.at er
              simp only [iC] at p2
              obtain ⟨a', vs, rfl, ha', r⟩ := p2
              refine ⟨.ref a', h2, ρ1, sl1.sl, ?_⟩
              rw [ef]
              intro yv H3 s3 p3
              have ev : yv = .int m := by simpa only [Rp] using p3
              have ha3 := s3 _ _ ha'
              have r3 := r.mono s3
              refine ⟨a', vs, m, j, rfl, ev, ha3, by rw [r.length]; exact ei, q1 _ _ ((sl1.mono s3).change er h2 ha3 (.inl ⟨_, rfl⟩) ?_)⟩
              simp only [iC]
              exact ⟨a', _, rfl, bi, bF.kp (gc ha3 (.inl ⟨_, rfl⟩)) _ _ (bF.set (p1.mono s3) j r3)⟩
          | _ => exact q1.elim
        | _ => exact q1.elim
theorem Z.jm {k v : Expr} {fk fv : Fe} {q1 q2 q3 : Pos} (T : Tb X nl G) (n : Nat) (hN : X.N[n]? = some x) (hk : Z.ak X.nox k fk) (hv : Z.ak X v fv) (hs : swapsWithSole [.Subscript (.Name x q1) k q2] v q3.line X.env = pure false := by rfl) (hw : swappedStores [.Subscript (.Name x q1) k q2] v X.env = pure none := by rfl) (h1 : (assignEach [.Subscript (.Name x q1) k q2] X.env).map (·.2) = [assign (.Subscript (.Name x q1) k q2) X.env] := by rfl) (ha : ∀ v, assign (.Subscript (.Name x q1) k q2) X.env v = (do
      let ov ← holding [v] (eval (.Name x q1) X.env)
      let iv ← holding [v, ov] (eval k X.env)
      standAt q2
      holding [v, ov, iv] (setItem ov iv v)
      release [v, ov, iv] []) := by intro _; rfl) : Z.eY X (.Assign [.Subscript (.Name x q1) k q2] v q3) (gm n fk fv) :=
  ⟨D2.jm T n hN hk.un hv.un hs hw h1 ha⟩
def BX (g : Int → Int → Int) : PyData → PyData → R PyData
  | .int i, .int j => .ok (.int (g i j))
  | _, _ => .no
def su (i : Nat) (g : Int → Int → Int) (f : Fe) : Fs := fun ρ => af i ρ >>= fun x => f ρ >>= fun y => BX g x y >>= fun z => .ok (.nx (ρ.set i (.val z)))
theorem xx {op : Operator} {g : Int → Int → Int} {pos pos' : Pos} (ho : Cb X op (CP g)) (T : Tb X nl G) (i : Nat) (hN : (X.N.take nl)[i]? = some x) (he : ak X e f) : eY X (.AugAssign (.Name x pos') op e pos) (su i g f) := fun Fm => by
  obtain ⟨n1, n2, n3⟩ := T.nm hN
  refine PS.imp (zO T.nd n1 n2 he ho n3) fun D σ H h => ?_
  obtain ⟨ρ, sl, q⟩ := h
  unfold su at q
  cases ev : af i ρ with
  | ex c => exact absurd ev (by unfold af; split <;> simp)
  | no => rw [ev] at q; exact q.elim
  | ok dx =>
    rw [ev] at q
    simp only [R.ok_bind] at q
    have hc : ρ[i]? = some (.val dx) := by
      unfold af at ev
      split at ev
      · rename_i d hd; cases ev; exact hd
      · cases ev
    obtain ⟨o, h2, w', rfl, p2⟩ := sl.sl.at hc
    refine ⟨w', h2, ?_⟩
    refine (kI (P := gI) (f := f) (k := fun ρ y => BX g dx y >>= fun z => .ok (.nx (ρ.set i (.val z)))) ⟨ρ, sl, q⟩).post fun v H1 ⟨ρ1, d, sl1, s1, p, q1⟩ => ?_
    cases dx with
    | int a =>
      cases d with
      | int b =>
        have e1 : w' = .int a := by simpa only [Rp] using p2
        have e2 : v = .int b := by simpa only [Rp] using p
        subst e1
        subst e2
        exact ⟨a, b, rfl, rfl, q1 _ H1 (sl1.set i (fun e z => by cases z) ⟨.int (g a b), rfl, df⟩)⟩
      | _ => exact q1.elim
    | _ => exact q1.elim
theorem oR {pos pos' : Pos} (T : Tb X nl G) (i : Nat) (hN : (X.N.take nl)[i]? = some x) (he : ak X e f) : eY X (.AugAssign (.Name x pos') .Add e pos) (su i (fun a b => a + b) f) := xx zl T i hN he
theorem Z.oR {pos pos' : Pos} (T : Tb X nl G) (i : Nat) (hN : (X.N.take nl)[i]? = some x) (he : Z.ak X e f) : Z.eY X (.AugAssign (.Name x pos') .Add e pos) (su i (fun a b => a + b) f) :=
  ⟨D2.oR T i hN he.un⟩
end
def zc : bo → bo
  | .own _ => .non
  | c => c
def gT (i : Nat) (d : PyData) (ρ : aX) : aX := (ρ.map zc).set i (.val d)
def om : PyData → R PyData
  | .none => .ok .none
  | .bool b => .ok (.bool b)
  | .int k => .ok (.int k)
  | .str x => .ok (.str x)
  | _ => .no
def jB (i : Nat) (f : Fe) : Fe := fun ρ => match ρ[i]? with
  | some (.own d) => lh (f (gT i d ρ)) >>= om
  | _ => f ρ
section
variable {X : Cx} {pins : List (Addr × Obj)} {σ : St} {H H1 : Hp} {s s' : Shared} {a : Addr} {u : HO} {o : Obj}
theorem uN (h : H a = some u) (S : aR (cx H a (.frz o u)) H1) : aR H (cx H1 a u) := fun b x e => by
  by_cases hb : b = a
  · subst hb; rw [bi]; rw [h] at e; exact e
  · rw [az hb]; exact S b x (by rw [az hb]; exact e)
theorem wt (I : aU X pins σ H s) (h : H a = some u) (hm : (∃ xs, u = .lst xs) ∨ ∃ ks, u = .dK ks) (S : aR (cx H a (.frz o u)) H1) (J : aU X pins σ H1 s') : aU X pins σ (cx H1 a u) s' := by
  have ha : H1 a = some (.frz o u) := S a _ bi
  have nt : ∀ b xs, H1 b = some (.tup xs) → b ≠ a := fun b xs q z => by subst z; rw [ha] at q; cases q
  have nb : ∀ b ps, H1 b = some (.tbl ps) → b ≠ a := fun b ps q z => by subst z; rw [ha] at q; cases q
  have nw : ∀ b y, H1 b = some (.own y) → b ≠ a := fun b y q z => by subst z; rw [ha] at q; cases q
  have nn : ∀ b, H1 b = none → b ≠ a := fun b q z => by subst z; rw [ha] at q; cases q
  have st : ∀ b x, bW X.prog X.w H1 s'.heap b x → bW X.prog X.w (cx H1 a u) s'.heap b x := fun b x q =>
    q.stay (fun c v _ e => e) (fun c e => by rw [az (nw _ _ e)]; exact e) fun c xs e => by rw [az (nt _ _ e)]; exact e
  refine ⟨J.ok, J.os, J.bare, ⟨J.base.keep, J.base.slot, fun b ob' e n hx => ?_, J.base.there, fun b xs e => ?_, fun b ob' v e => ?_, fun b ps e => ?_⟩, J.loc, J.cell, ?_, fun x c e => ?_, fun p hp => ?_, fun b x e => ?_, J.len⟩
  · have := J.base.free b ob' e n hx
    rw [az (nn _ this)]; exact this
  · have := J.base.tups b xs e
    rw [az (nt _ _ this)]; exact this
  · have q := I.base.frzs b ob' v e
    have hb : b ≠ a := fun z => by subst z; rw [h] at q; rcases hm with ⟨_, rfl⟩ | ⟨_, rfl⟩ <;> cases q
    rw [az hb]; exact J.base.frzs b ob' v e
  · obtain ⟨m, q⟩ := J.base.tbls b ps e
    exact ⟨m, by rw [az (nb _ _ q)]; exact q⟩
  · rw [az (nn _ J.free)]; exact J.free
  · rw [az (nn _ (J.freeC x c e))]; exact J.freeC x c e
  · obtain ⟨p1, p2, p3⟩ := J.pin p hp
    exact ⟨p1, by rw [az (nn _ p2)]; exact p2, p3⟩
  · by_cases hb : b = a
    · subst hb
      rw [bi] at e; cases e
      obtain ⟨_, q⟩ := (show bW X.prog X.w H1 s'.heap b (.frz o u) from J.hok b _ ha)
      exact st b u q
    · rw [az hb] at e
      exact st b x (J.hok b x e)
theorem tO {ρ : aX} {i : Nat} {d : PyData} {v : V} (sl : Sl H σ ρ) (k : Kp H H1) (hv : σ[i]? = some (some v)) (hr : Rp H1 d v) : Sl H1 σ (gT i d ρ) := by
  unfold gT
  refine ⟨by rw [List.length_set, List.length_map]; exact sl.1, fun j c w' e1 e2 => ?_⟩
  rw [List.getElem?_set] at e1
  by_cases hij : i = j
  · subst hij
    rw [if_pos rfl] at e1
    split at e1
    · cases e1
      rw [hv] at e2
      cases e2
      exact ⟨_, rfl, hr⟩
    · cases e1
  · rw [if_neg hij, List.getElem?_map] at e1
    cases ec : ρ[j]? with
    | none => rw [ec] at e1; cases e1
    | some c' =>
      rw [ec] at e1
      have e1' : zc c' = c := Option.some.inj e1
      subst e1'
      have q := sl.2 j c' w' ec e2
      cases c' with
      | exc p => exact q
      | non => exact True.intro
      | val d' => obtain ⟨v, z1, z2⟩ := q; exact ⟨v, z1, Rp.kp k _ _ z2⟩
      | own d' => exact True.intro
end
theorem yL {H H' : Hp} {d d' : PyData} {v : V} (h : om d = .ok d') (r : Rp H d v) : Rp H' d' v := by
  cases d <;> first | (cases h; simp only [Rp] at r ⊢; exact r) | cases h
theorem ak.lent {X : Cx} {e : Expr} {f : Fe} (i : Nat) (h : ak X e f) : ak X e (jB i f) := by
  intro pins s σ H Q I q
  obtain ⟨ρ, sl, q⟩ := q
  by_cases ho : ∃ d, ρ[i]? = some (.own d)
  · obtain ⟨d, ho⟩ := ho
    have el : jB i f ρ = (lh (f (gT i d ρ)) >>= om) := by unfold jB; rw [ho]
    rw [el] at q
    have go : ∀ (a : Addr) (u : HO) (hu : H a = some u) (hm : (∃ xs, u = .lst xs) ∨ ∃ ks, u = .dK ks) (o : Obj) (J : aU X pins σ (cx H a (.frz o u)) s) (sl1 : Sl (cx H a (.frz o u)) σ (gT i d ρ)), wpAny (model X.prog X.w) X.A (eval e X.env) (EP X pins σ Q) X.xe s := fun a u hu hm o J sl1 => by
      cases ef : f (gT i d ρ) with
      | no => rw [ef] at q; exact q.elim
      | ex c => rw [ef] at q; exact q.elim
      | ok d1 =>
        rw [ef] at q
        change uo X gI (om d1) H Q at q
        cases ea : om d1 with
        | no => rw [ea] at q; exact q.elim
        | ex c => rw [ea] at q; cases d1 <;> cases ea
        | ok d2 =>
          rw [ea] at q
          refine da (h pins s σ (cx H a (.frz o u)) (fun v H' => aR (cx H a (.frz o u)) H' ∧ Rp H' d1 v) J ⟨gT i d ρ, sl1, by rw [ef]; exact fun v H' hs p => ⟨hs, p⟩⟩) fun w s' ⟨v, H', J', r, hs, p⟩ => ?_
          exact ⟨v, cx H' a u, wt I hu hm hs J', r, q v _ (uN hu hs) (yL ea p)⟩
    obtain ⟨w', h2, v, rfl, qo⟩ := sl.at ho
    cases d <;> simp only [iC] at qo
    · rename_i ds
      obtain ⟨a, vs, rfl, ha, r⟩ := qo
      obtain ⟨o, J⟩ := ge I ha (.inl ⟨_, rfl⟩)
      have kp := gc (o' := .frz o (.lst vs)) ha (.inl ⟨_, rfl⟩)
      have hr : Rp (cx H a (.frz o (.lst vs))) (.list ds) (.ref a) := by
        simp only [Rp]
        exact ⟨a, o, vs, rfl, bi, bF.kp kp _ _ r⟩
      exact go a _ ha (.inl ⟨_, rfl⟩) o J (tO sl kp h2 hr)
    · rename_i ds
      obtain ⟨a, vs, rfl, ha, r⟩ := qo
      obtain ⟨o, J⟩ := ge I ha (.inr ⟨_, rfl⟩)
      have kp := gc (o' := .frz o (.dK vs)) ha (.inr ⟨_, rfl⟩)
      have hr : Rp (cx H a (.frz o (.dK vs))) (.dict ds) (.ref a) := by
        simp only [Rp]
        exact .inl ⟨a, o, vs, rfl, bi, dL.kp kp _ _ r⟩
      exact go a _ ha (.inr ⟨_, rfl⟩) o J (tO sl kp h2 hr)
  · have el : jB i f ρ = f ρ := by
      unfold jB
      split
      · rename_i d e1; exact (ho ⟨d, e1⟩).elim
      · rfl
    rw [el] at q
    exact h pins s σ H Q I ⟨ρ, sl, q⟩
theorem Z.ak.lent {X : Cx} {e : Expr} {f : Fe} (i : Nat) (h : Z.ak X e f) : Z.ak X e (jB i f) :=
  ⟨D2.ak.lent i h.un⟩
def wW (C : Addr) (names : List Str) (ds : List PyData) : PyData := .dict ((.none, .int C) :: (names.zip ds).map fun p => (.str p.1, p.2))
def si (f : Str) : List (PyData × PyData) → R PyData
  | [] => .no
  | (.str x, d) :: r => if x = f then .ok d else si f r
  | _ :: _ => .no
def iB (C : Addr) (f : Str) : PyData → R PyData
  | .dict ((.none, .int c) :: kvs) => if c = (C : Int) then si f kvs else .no
  | _ => .no
def lS (C : Addr) (names : List Str) (fs : aX → R (List PyData)) : Fe := fun ρ => fs ρ >>= fun ds => .ok (wW C names ds)
def AQ (C : Addr) (names : List Str) : Sp := fun vs H Q _ => ∃ x dx ws, vs = .ref x :: ws ∧ H x = some (.ins C dx []) ∧ ws.length = names.length ∧ ∀ H', H' x = some (.ins C dx (names.zip ws)) → (∀ b, b ≠ x → H' b = H b) → Q .non H'
section
variable {X : Cx} {pins : List (Addr × Obj)} {σ : St} {H : Hp} {s : Shared} {a C dx : Addr} {fs : List (Str × V)}
theorem qQ (I : aU X pins σ H s) (h : H a = some (.ins C dx fs)) : ∃ o, aU X pins σ (cx H a (.frz o (.ins C dx fs))) s := by
  have ob := I.hok a _ h
  obtain ⟨o, hg⟩ := pb ob
  have nt : ∀ b xs, H b = some (.tup xs) → b ≠ a := fun b xs q z => by subst z; rw [h] at q; cases q
  have nf : ∀ b o' u', H b = some (.frz o' u') → b ≠ a := fun b o' u' q z => by subst z; rw [h] at q; cases q
  have nb : ∀ b ps, H b = some (.tbl ps) → b ≠ a := fun b ps q z => by subst z; rw [h] at q; cases q
  have nw : ∀ b y, H b = some (.own y) → b ≠ a := fun b y q z => by subst z; rw [h] at q; cases q
  have nn : ∀ b, H b = none → b ≠ a := fun b q z => by subst z; rw [h] at q; cases q
  have st : ∀ b x, bW X.prog X.w H s.heap b x → bW X.prog X.w (cx H a (.frz o (.ins C dx fs))) s.heap b x := fun b x q =>
    q.stay (fun c v _ e => e) (fun c e => by rw [az (nw _ _ e)]; exact e) fun c xs e => by rw [az (nt _ _ e)]; exact e
  refine ⟨o, ⟨I.ok, I.os, I.bare, ⟨I.base.keep, I.base.slot, fun b ob' e n hx => ?_, I.base.there, fun b xs e => ?_, fun b ob' v e => ?_, fun b ps e => ?_⟩, I.loc, I.cell, ?_, fun x c e => ?_, fun p hp => ?_, fun b x e => ?_, I.len⟩⟩
  · have := I.base.free b ob' e n hx
    rw [az (nn _ this)]; exact this
  · have := I.base.tups b xs e
    rw [az (nt _ _ this)]; exact this
  · have := I.base.frzs b ob' v e
    rw [az (nf _ _ _ this)]; exact this
  · obtain ⟨m, q⟩ := I.base.tbls b ps e
    exact ⟨m, by rw [az (nb _ _ q)]; exact q⟩
  · rw [az (nn _ I.free)]; exact I.free
  · rw [az (nn _ (I.freeC x c e))]; exact I.freeC x c e
  · obtain ⟨p1, p2, p3⟩ := I.pin p hp
    exact ⟨p1, by rw [az (nn _ p2)]; exact p2, p3⟩
  · by_cases hb : b = a
    · subst hb
      rw [bi] at e; cases e
      exact ⟨hg, st b _ ob⟩
    · rw [az hb] at e
      exact st b x (I.hok b x e)
theorem xS {o' : HO} (h : H a = some (.ins C dx fs)) : Kp H (cx H a o') := by
  refine ⟨fun b xs e => ?_, fun b o v e => ?_⟩
  · rw [az]; exact e
    rintro rfl; rw [h] at e; cases e
  · rw [az]; exact e
    rintro rfl; rw [h] at e; cases e
end
theorem tP {H : Hp} : ∀ {names : List Str} {ds : List PyData} {vs : List V}, bF H ds vs → rh H ((names.zip ds).map fun p => (.str p.1, p.2)) (names.zip vs)
  | [], ds, vs, _ => by simp only [List.zip_nil_left, List.map_nil, rh]
  | n :: names, [], vs, r => by
    simp only [bF] at r
    subst r
    simp only [List.zip_nil_right, List.map_nil, rh]
  | n :: names, d :: ds, vs, r => by
    simp only [bF] at r
    obtain ⟨v, t, rfl, p, q⟩ := r
    simp only [List.zip_cons_cons, List.map_cons, rh, yQ]
    exact ⟨n, v, _, rfl, ⟨rfl, p⟩, tP q⟩
theorem tX {H : Hp} {f : Str} {d : PyData} : ∀ {kvs : List (PyData × PyData)} {fs : List (Str × V)}, rh H kvs fs → si f kvs = .ok d → ∃ v, fs.lookup f = some v ∧ Rp H d v
  | [], fs, _, e => by cases e
  | (k, d') :: kvs, fs, r, e => by
    simp only [rh, yQ] at r
    obtain ⟨x, v, t, rfl, ⟨rfl, p⟩, q⟩ := r
    simp only [si] at e
    by_cases h : x = f
    · rw [if_pos h] at e
      cases e
      subst h
      exact ⟨v, by rw [List.lookup_cons_self], p⟩
    · rw [if_neg h] at e
      obtain ⟨w, w1, w2⟩ := tX q e
      refine ⟨w, ?_, w2⟩
      rw [List.lookup_cons]
      have : (f == x) = false := by
        cases z : f == x with
        | false => rfl
        | true => exact (h (eq_of_beq z).symm).elim
      rw [this]
      exact w1
theorem uj {f : Str} {c : Str} : ∀ {kvs : List (PyData × PyData)}, si f kvs ≠ .ex c
  | [], e => by cases e
  | (k, d) :: kvs, e => by
    cases k <;> simp only [si] at e <;> try cases e
    split at e
    · cases e
    · exact uj e
section
variable {X : Cx} {e : Expr} {es : List Expr} {fe : Fe} {pos p : Pos} {nl : Nat} {G : List Str} {x : Str}
theorem kN {k : Nat} {C f : Addr} {fd : FuncData} {ps names : List Str} {fs : aX → R (List PyData)} (M : Mk X.K C f) (F : bf X.prog X.w X.K X.mg X.base (cF X.prog X.w X.mg) k f fd ps (AQ C names)) (hr : dQ (k + 1) X.A) (T : Tb X nl G) (j : Nat) (hG : G[j]? = some x) (hm : X.mg x = some (.ref C)) (hb : gH X.K fd ps []) (ha : nT X (e :: es) fs)
    (hfs : ∀ ρ ds, fs ρ = .ok ds → ds.length = names.length) (he : (e :: es).all aG = true := by rfl) : ak X (.Call (.Name x p) (e :: es) [] pos) (lS C names fs) := by
  rw [List.all_cons, Bool.and_eq_true] at he
  have g := T.gl x (List.mem_of_getElem? hG)
  intro pins s σ H Q I ⟨ρ, sl, q⟩
  unfold lS at q
  have base := xZ (p := p) (pos := pos) M F hr g.1 hm hb .nil ua ha g.2.1 (bB he.1) (mT he.2)
  cases e1 : fs ρ with
  | ex c => rw [e1] at q; exact da (base pins s σ H (fun _ _ => False) I ⟨ρ, sl, by rw [e1]; exact q⟩) fun u s' ⟨v, H', I', r, z⟩ => z.elim
  | no => rw [e1] at q; exact q.elim
  | ok ds =>
    rw [e1] at q
    have q' : uo X gI (.ok (wW C names ds)) H Q := q
    refine da (base pins s σ H (fun v H' => ∃ a dx vs, v = .ref a ∧ H a = none ∧ H' a = some (.ins C dx (names.zip vs)) ∧ bF H' ds vs ∧ aR H H') I ⟨ρ, sl, ?_⟩) fun u s' ⟨v, H', I', r, a, dx, vs, ev, hn, ha', rp, sm⟩ => ?_
    · rw [e1]
      intro vs H1 s1 r1 y dy hy hdy hne
      rw [List.append_nil]
      have r2 := mG.mp r1
      refine ⟨y, dy, vs, rfl, bi, by rw [r2.length]; exact hfs ρ ds e1, fun H' h1 h2 => ⟨rfl, y, dy, vs, rfl, s1.free hy, h1, ?_, ?_⟩⟩
      · have sm : aR H1 H' := fun b o eb => by
          rw [h2 b (bd eb hy), az (bd eb hy), az (bd eb hdy)]; exact eb
        exact r2.mono sm
      · intro b o eb
        have eb1 := s1 b o eb
        rw [h2 b (bd eb1 hy), az (bd eb1 hy), az (bd eb1 hdy)]; exact eb1
    · subst ev
      obtain ⟨o, J⟩ := qQ I' ha'
      have kp := xS (o' := .frz o (.ins C dx (names.zip vs))) ha'
      refine ⟨.ref a, _, J, r, q' _ _ (fun b x eb => by rw [az (bd eb hn)]; exact sm b x eb) ?_⟩
      show Rp _ (wW C names ds) _
      unfold wW
      simp only [Rp]
      refine .inr ⟨a, o, C, dx, _, rfl, bi, ?_⟩
      simp only [vA]
      exact ⟨True.intro, rh.kp kp _ _ (tP rp)⟩
theorem Z.kN {k : Nat} {C f : Addr} {fd : FuncData} {ps names : List Str} {fs : aX → R (List PyData)} (M : Mk X.K C f) (F : bf X.prog X.w X.K X.mg X.base (cF X.prog X.w X.mg) k f fd ps (AQ C names)) (hr : dQ (k + 1) X.A) (T : Tb X nl G) (j : Nat) (hG : G[j]? = some x) (hm : X.mg x = some (.ref C)) (hb : gH X.K fd ps []) (ha : Z.nT X (e :: es) fs) (hfs : ∀ ρ ds, fs ρ = .ok ds → ds.length = names.length) (he : (e :: es).all aG = true := by rfl) : Z.ak X (.Call (.Name x p) (e :: es) [] pos) (lS C names fs) :=
  ⟨D2.kN M F hr T j hG hm hb ha.un hfs he⟩
def AZ (K : PySem.W.Frag) (ta : TE) (f : Str) : TE := fun σ H Q => ta σ H fun x H1 => ∃ a o C dx fs v, x = .ref a ∧ H1 a = some (.frz o (.ins C dx fs)) ∧ rm K C ∧ cQ K C f ∧ fs.lookup f = some v ∧ Q v H1
theorem x0 {f : Str} {ta : TE} (he : PE X e ta) (hb : attributeBase e f X.env (eval e X.env) = eval e X.env) : PE X (.Attribute e f pos) (AZ X.K ta f) := by
  intro pins s σ H Q I h
  refine yt hb (da (he pins s σ H _ I h) fun u s1 ⟨x, H1, I1, rx, a, o, C, dx, fs, v, ex, ea, c, n, l, q⟩ => ?_)
  subst ex
  obtain rfl : u = Value.ref a := rx
  obtain ⟨_, d, z, ne, ob, mA, nn, r, qq⟩ := (show bW X.prog X.w H1 s1.heap a (.frz o (.ins C dx fs)) from I1.hok a _ ea)
  obtain ⟨u', hu, ru⟩ := k4.some_of (v := v) (o := mA f) (by rw [← l]; exact r f)
  exact xP I1.kIn ⟨ob, nn, ne⟩ (c.get f) c.hd n hu (uU ru) ⟨v, H1, I1.tok _, ru, q⟩
theorem jJ {C : Addr} {f : Str} (cl : rm X.K C) (na : cQ X.K C f) (he : ak X e fe) (hb : attributeBase e f X.env (eval e X.env) = eval e X.env := by rfl) : ak X (.Attribute e f pos) (e1 (iB C f) fe) := by
  refine PE.imp (x0 he hb) fun σ H Q h => ?_
  refine (fZ (P := gI) (f := fe) (k := fun _ x => iB C f x) (gt (X := X) fM Q) h).post fun v H1 ⟨_, d1, _, _, p1, q1⟩ => ?_
  unfold iB at q1
  split at q1
  · rename_i c kvs
    split at q1
    · rename_i hc
      cases ef : si f kvs with
      | no => rw [ef] at q1; exact q1.elim
      | ex c => exact (uj ef).elim
      | ok d =>
        rw [ef] at q1
        have p2 : Rp H1 (.dict ((.none, .int c) :: kvs)) v := p1
        simp only [Rp] at p2
        rcases p2 with ⟨a, o, ks, rfl, ha, r⟩ | ⟨a, o, C', dx, fs, rfl, ha, r⟩
        · simp only [dL, xn] at r
          obtain ⟨κ, _, _, _, ⟨r1, _⟩, _⟩ := r
          cases κ <;> cases r1
        · simp only [vA] at r
          obtain ⟨r1, r2⟩ := r
          have hC : c = (C' : Int) := by injection r1 with _ r3; injection r3
          have hCC : C' = C := by
            have : (C' : Int) = (C : Int) := hC.symm.trans hc
            exact Int.ofNat.inj this
          subst hCC
          obtain ⟨w, w1, w2⟩ := tX r2 ef
          exact ⟨a, o, C', dx, fs, w, rfl, ha, cl, na, w1, q1 w H1 (aR.refl _) w2⟩
    · exact q1.elim
  · exact q1.elim
theorem Z.jJ {C : Addr} {f : Str} (cl : rm X.K C) (na : cQ X.K C f) (he : Z.ak X e fe) (hb : attributeBase e f X.env (eval e X.env) = eval e X.env := by rfl) : Z.ak X (.Attribute e f pos) (e1 (iB C f) fe) :=
  ⟨D2.jJ cl na he.un hb⟩
end
theorem AX {a b c : Str} {x y z : V} (h1 : ¬ a = b) (h2 : ¬ a = c) (h3 : ¬ b = c) : gM c z (gM b y (gM a x [])) = [(a, x), (b, y), (c, z)] := by
  simp only [gM, if_neg h1, if_neg h2, if_neg h3]
abbrev eE := List PyData → R PyData
structure eL (P : Program) (w : World) (K : PySem.W.Frag) (mg : Str → Option Value) (base : Heap) (k : Nat) (x : Str) (ps : List Str) (F : eE) (f : Addr) (fd : FuncData) : Prop where
  ok : bf P w K mg base (cF P w mg) k f fd ps (dg F ps.length)
  m : mg x = some (.ref f)
  kp : PySem.W.keepIn K (.ref f) = true
  b : gH K fd ps []
theorem aE {X : Cx} {k : Nat} {f : Addr} {fd : FuncData} {ps : List Str} {F : eE} {x : Str} {p pos : Pos} {e : Expr} {es : List Expr} {fs : aX → R (List PyData)} {nl : Nat} {G : List Str} (C : eL X.prog X.w X.K X.mg X.base k x ps F f fd) (hr : dQ k X.A) (T : Tb X nl G) (j : Nat) (hG : G[j]? = some x) (ha : nT X (e :: es) fs) (hlen : (e :: es).length = ps.length) (hfs : ∀ ρ ds, fs ρ = .ok ds → ds.length = ps.length) (he : (e :: es).all aG = true := by rfl) : ak X (.Call (.Name x p) (e :: es) [] pos) (aC F fs) :=
  xI C.ok hr T j hG C.m C.kp C.b ha hlen hfs he
theorem Z.aE {X : Cx} {k : Nat} {f : Addr} {fd : FuncData} {ps : List Str} {F : eE} {x : Str} {p pos : Pos} {e : Expr} {es : List Expr} {fs : aX → R (List PyData)} {nl : Nat} {G : List Str} (C : eL X.prog X.w X.K X.mg X.base k x ps F f fd) (hr : dQ k X.A) (T : Tb X nl G) (j : Nat) (hG : G[j]? = some x) (ha : Z.nT X (e :: es) fs) (hlen : (e :: es).length = ps.length) (hfs : ∀ ρ ds, fs ρ = .ok ds → ds.length = ps.length) (he : (e :: es).all aG = true := by rfl) : Z.ak X (.Call (.Name x p) (e :: es) [] pos) (aC F fs) :=
  ⟨D2.aE C hr T j hG ha.un hlen hfs he⟩
structure cy (K : PySem.W.Frag) (x : Str) (st : Stmt) (f : Addr) (fd : FuncData) : Prop where
  ns : PySem.W.nsIn K mainGlobals x = some (some (.ref f))
  fn : gP K x x st f fd
theorem ba {K : PySem.W.Frag} {x : Str} {st : Stmt} {f : Addr} {oc : Value} {od an : Option Addr} {osl : Array (Option Value)} {kV doc pm cdv ct : Value} (a : PySem.W.nsIn K mainGlobals x = some (some (.ref f))) (l : K.lookup f = some ⟨oc, od, .func (PySem.W.fnOf x x (fK st) (dB st) (aj st) .none kV doc pm an cdv ct), osl⟩) (c : PySem.W.codeIn K cdv x = true) (k : PySem.W.keepIn K (.ref f) = true) :
    cy K x st f (PySem.W.fnOf x x (fK st) (dB st) (aj st) .none kV doc pm an cdv ct) := ⟨a, rW l c k⟩
def zV (i : Nat) (g : Fs) : Fs := fun ρ => match ρ[i]? with
  | some (.own d) => g (ρ.set i (.val d))
  | _ => g ρ
theorem tZ {X : Cx} {st : Stmt} {g : Fs} (i : Nat) (h : eY X st g) : eY X st (zV i g) := fun Fm => by
  intro pins s σ H D I ⟨ρ, sl, q⟩
  unfold zV at q
  split at q
  · rename_i d e
    obtain ⟨H2, v, I2, sl2, _, _⟩ := yO I sl e
    exact h Fm pins s σ H2 D I2 ⟨_, sl2, q⟩
  · exact h Fm pins s σ H D I ⟨ρ, sl, q⟩
theorem Z.tZ {X : Cx} {st : Stmt} {g : Fs} (i : Nat) (h : Z.eY X st g) : Z.eY X st (zV i g) :=
  ⟨D2.tZ i h.un⟩
theorem Z.pL {P : Program} {w : World} {K : PySem.W.Frag} {mg : Str → Option Value} {base : Heap} {x qual : Str} {st : Stmt} {f : Addr} {fd : FuncData} {N ps : List Str} {k : Nat} {g : Fs} (F : gP K x qual st f fd) (S : a5 N ps (aj st))
    (body : ∀ (cdv : Value) (A : Around) (outer : List Env) (s : Shared) (H : Hp) (E : XK), dQ k (A.deeper (envOfC qual (aj st) s.heap.objs.size f cdv)) →
      Z.gF (ff (cF P w mg) P w K mg base N qual (aj st) f cdv A outer s H E) (dB st) g) : bf P w K mg base (cF P w mg) (k + 1) f fd ps (dg (dn N.length g) ps.length) :=
  D2.pL F S fun cdv A outer s H E hr => (body cdv A outer s H E hr).un
theorem Z.fn_dataT {P : Program} {w : World} {K : PySem.W.Frag} {mg : Str → Option Value} {base : Heap} {x qual : Str} {st : Stmt} {f : Addr} {fd : FuncData} {N ps : List Str} {k : Nat} {g : Fs} {G : List Str} (F : gP K x qual st f fd) (S : a5 N ps (aj st)) (ck : tx (aj st) N G)
    (body : ∀ (cdv : Value) (A : Around) (outer : List Env) (s : Shared) (H : Hp) (E : XK), dQ k (A.deeper (envOfC qual (aj st) s.heap.objs.size f cdv)) → Tb (ff (cF P w mg) P w K mg base N qual (aj st) f cdv A outer s H E) N.length G →
      Z.gF (ff (cF P w mg) P w K mg base N qual (aj st) f cdv A outer s H E) (dB st) g) : bf P w K mg base (cF P w mg) (k + 1) f fd ps (dg (dn N.length g) ps.length) :=
  Z.pL F S fun cdv A outer s H E hr => body cdv A outer s H E hr (zQ hr ck)
def vf {P : Program} {w : World} {K : PySem.W.Frag} {mg : Str → Option Value} {base : Heap} {f : Addr} {fd : FuncData} {ps : List Str} {n k : Nat} : bf P w K mg base (cF P w mg) k f fd ps (dg (fun _ => .no) n) :=
  have no : ∀ vs H Q E, ¬ dg (fun _ => .no) n vs H Q E := fun vs H Q E ⟨ds, _, _, z⟩ => z
  ⟨fun vs H Q E h => absurd h (no vs H Q E), fun A outer s H args us vs Q E _ _ _ _ h => absurd h (no vs H Q E)⟩
def l9 (K : PySem.W.Frag) : Bool := K.all fun p => match p.2.cls with
  | .type n => !(n == "list")
  | _ => true
theorem mQ {α β : Type} [BEq α] {a : α} {o : β} : ∀ {K : List (α × β)}, K.lookup a = some o → ∃ p ∈ K, p.2 = o
  | [], e => by cases e
  | (b, x) :: r, e => by
    rw [List.lookup_cons] at e
    split at e
    · cases e; exact ⟨_, List.mem_cons_self, rfl⟩
    · obtain ⟨p, h1, h2⟩ := mQ e
      exact ⟨p, List.mem_cons_of_mem _ h1, h2⟩
theorem sV {K : PySem.W.Frag} (h : l9 K = true) {a : Addr} {o : Obj} (e : K.lookup a = some o) (c : o.cls = .type "list") : False := by
  obtain ⟨p, m, rfl⟩ := mQ e
  have q := List.all_eq_true.mp h _ m
  simp only [c] at q
  simp at q
def v4 (F : List PyData → R PyData) : Prop := ∀ ns : List Int, ns.length ≤ 63 → F [.list (ns.map .int)] = .ok (.bool true)
theorem Ci {l : PySem.W.OpenLaw} {q : Program} {loose : List Str} {XP : (Str → Option Value) → Heap → Prop} {YP : World → Heap → Prop} {d : DefRec} {K : Params → PySem.W.Frag} {k : Nat} {x : Str} {F : List PyData → R PyData} (hn : l.most = some 63) (hdf : d.params.defaults = [])
    (hr : dQ k callerA) (hY : ∀ (w : World) (h : Heap), YP w h → (K w.params).In h) (hF : v4 F)
    (G : ∀ (w : World) (mg : Str → Option Value) (fa : Addr) (h : Heap), (K w.params).In h → h.Ns mainGlobals mg → mg d.name = some (.ref fa) →
      l9 (K w.params) = true ∧ ∃ fd : FuncData, (∀ (s : Shared) (u : Value), BindsTo s fd ⟨[u], []⟩ [(x, u)]) ∧ ∀ base : Heap, (K w.params).In base → base.Ns mainGlobals mg → bf l.prog w (K w.params) mg base (cF l.prog w mg) k fa fd [x] (dg F 1)) :
    PySem.W.WalkO q loose XP YP l.row.toRowW d [] (fun f vs => PySem.call f vs) := by
  refine Att.attach_call hn hdf fun w s₀ s₁ mg mb fa o pm cd doc a vs ns G0 Y ho hd hcd hmg hobj hints hlen hg => ?_
  have KX := hY w _ Y
  obtain ⟨nl, fd, hb, hG⟩ := G w mg fa _ KX G0.T.g hmg
  refine L2.wB (sp := dg F 1) KX G0.T.g G0.T.b G0.T.builtins G0.T.nolimit hg hobj hints (Nat.le_trans hlen (by decide)) hr hG hb (fun H hO hS => ?_) fun H e s' ⟨_, _, _, _, _, z⟩ => z
  refine ⟨[.list (ns.map .int)], bF.cons ?_ bF.nil, rfl, ?_⟩
  · rcases hS with (h | ⟨o, h⟩) | ⟨o, its, n, h, c, _⟩
    · rcases hO a with z | ⟨o, xs, z⟩
      · rw [z] at h; cases h
      · rw [z] at h; cases h
    · simp only [Rp]
      exact ⟨a, o, _, rfl, h, bF.ints ns⟩
    · exact (sV nl h c).elim
  · rw [hF ns hlen]
    intro v H' _ r
    simpa only [Rp] using r
@[simp] theorem cm {α : Type} (a : α) : lh (R.ok a) = .ok a := (rfl)
def z0 : vz → R PyData
  | .rt d => .ok d
  | .nx _ => .ok .none
  | _ => .no
theorem eu (n : Nat) (g : Fs) (ds : List PyData) : dn n g ds = (g (ds.map bo.val ++ List.replicate (n - ds.length) .non) >>= z0) := by
  unfold dn
  congr 1
@[simp] theorem BY (d : PyData) : z0 (.rt d) = .ok d := (rfl)
section
variable (f g h : Fe) (ρ : aX) (i j : Nat) (t u : aX → R Bool) (a b : Fs) (fs : aX → R (List PyData)) (F : List PyData → R PyData) (d e : PyData)
@[simp] theorem bK : eC d ρ = .ok d := (rfl)
@[simp] theorem am : af 0 (.val d :: ρ) = .ok d := (rfl)
@[simp] theorem aq (c : bo) : af (i + 1) (c :: ρ) = af i ρ := (rfl)
@[simp] theorem pk : fT 0 (.own d :: ρ) = .ok d := (rfl)
@[simp] theorem pA (c : bo) : fT (i + 1) (c :: ρ) = fT i ρ := (rfl)
@[simp] theorem bX (k : PyData → R PyData) : e1 k f ρ = (f ρ >>= fun x => k x) := (rfl)
@[simp] theorem bA (k : PyData → PyData → R PyData) : e2 k f g ρ = (f ρ >>= fun x => g ρ >>= fun y => k x y) := (rfl)
@[simp] theorem cJ : tE f ρ = (f ρ >>= ub) := (rfl)
@[simp] theorem cU (k : Bool) : ub (.bool k) = .ok k := (rfl)
@[simp] theorem wT : ou t u ρ = (t ρ >>= fun k => if k = true then u ρ else .ok false) := (rfl)
@[simp] theorem BV : vS t u ρ = (t ρ >>= fun k => if k = true then .ok true else u ρ) := (rfl)
@[simp] theorem km : jD t ρ = (t ρ >>= fun k => .ok (!k)) := (rfl)
@[simp] theorem B4 : w6 f g ρ = (f ρ >>= fun d => ub d >>= fun k => if k = true then g ρ else .ok (.bool false)) := (rfl)
@[simp] theorem rz : yB t f g ρ = (t ρ >>= fun k => if k = true then f ρ else g ρ) := (rfl)
@[simp] theorem aP : aH ρ = .ok [] := (rfl)
@[simp] theorem aB : ag f fs ρ = (f ρ >>= fun d => fs ρ >>= fun ds => .ok (d :: ds)) := (rfl)
@[simp] theorem aM : aC F fs ρ = (fs ρ >>= F) := (rfl)
@[simp] theorem AM (p q : PyData → PyData → R PyData) : mJ p q f g h ρ = (f ρ >>= fun x => g ρ >>= fun y => p x y >>= fun d => ub d >>= fun k => if k = true then h ρ >>= fun z => q y z else .ok (.bool false)) := (rfl)
@[simp] theorem jn : jG fs ρ = (fs ρ >>= fun ds => if ds.length ≤ sizeLine then .ok (.tuple ds) else .no) := (rfl)
@[simp] theorem B6 : sT fs ρ = (fs ρ >>= fun ds => if ds.length ≤ sizeLine then .ok (.list ds) else .no) := (rfl)
@[simp] theorem qk : dI ρ = .ok (.nx ρ) := (rfl)
@[simp] theorem ud : aY a b ρ = (a ρ >>= tF b) := (rfl)
@[simp] theorem BN : tF b (.nx ρ) = b ρ := (rfl)
@[simp] theorem Bo : tF b (.rt d) = .ok (.rt d) := (rfl)
@[simp] theorem dU : lY t a b ρ = (t ρ >>= fun k => if k = true then a ρ else b ρ) := (rfl)
@[simp] theorem cj : cD f ρ = (f ρ >>= fun d => .ok (.rt d)) := (rfl)
@[simp] theorem vC : uf f ρ = (f ρ >>= fun _ => .ok (.nx ρ)) := (rfl)
@[simp] theorem a4 : bH i f ρ = (f ρ >>= fun d => .ok (.nx (ρ.set i (.val d)))) := (rfl)
@[simp] theorem ma : gz i f ρ = (f ρ >>= fun d => .ok (.nx (ρ.set i (.own d)))) := (rfl)
@[simp] theorem cC : eX f ρ = (f ρ >>= ic) := (rfl)
@[simp] theorem nY : ia fs ρ = (fs ρ >>= nO) := (rfl)
@[simp] theorem dN (ds : List PyData) : ic (.tuple ds) = .ok ds := (rfl)
@[simp] theorem sB (ds : List PyData) : ic (.list ds) = .ok ds := (rfl)
@[simp] theorem fI : iO a ρ = lh (a ρ) := (rfl)
theorem gh (it : aX → R (List PyData)) (bb : PyData → aX → Option aX) : kx it bb a ρ = (it ρ >>= fun ds => fB bb a ds ρ) := rfl
@[simp] theorem fU (bb : PyData → aX → Option aX) : fB bb a [] ρ = .ok (.nx ρ) := by unfold fB; rfl
def qN (k : aX → R vz) : vz → R vz
  | .nx ρ => k ρ
  | .ct ρ => k ρ
  | .bk ρ => .ok (.nx ρ)
  | .rt r => .ok (.rt r)
@[simp] theorem ez (k : aX → R vz) : qN k (.nx ρ) = k ρ := (rfl)
@[simp] theorem A1 (k : aX → R vz) : qN k (.rt d) = .ok (.rt d) := (rfl)
theorem ed (i : Nat) (ds : List PyData) : fB (bj i) a (d :: ds) ρ = (a (ρ.set i (.val d)) >>= qN (fB (bj i) a ds)) := by
  rw [fB]
  show (a (ρ.set i (.val d)) >>= _) = _
  congr 1
theorem vm (i j : Nat) (x y : PyData) (ds : List PyData) : fB (dH i j) a (.tuple [x, y] :: ds) ρ = (a ((ρ.set i (.val x)).set j (.val y)) >>= qN (fB (dH i j) a ds)) := by
  rw [fB]
  show (a ((ρ.set i (.val x)).set j (.val y)) >>= _) = _
  congr 1
theorem aQ {a b : Fs} {ρ ρ' : aX} (h : a ρ = .ok (.nx ρ')) : aY a b ρ = b ρ' := by rw [ud, h]; rfl
theorem rX {a b : Fs} {ρ : aX} {d : PyData} (h : a ρ = .ok (.rt d)) : aY a b ρ = .ok (.rt d) := by rw [ud, h]; rfl
theorem em {n : Nat} {g : Fs} {ds : List PyData} {d : PyData} (h : g (ds.map bo.val ++ List.replicate (n - ds.length) .non) = .ok (.rt d)) : dn n g ds = .ok d := by rw [eu, h]; rfl
theorem dC (bb : PyData → aX → Option aX) : bO bb t f ρ [] = .ok [] := by unfold bO; rfl
theorem eW (i : Nat) (ds : List PyData) : bO (bj i) t f ρ (d :: ds) = (t (ρ.set i (.val d)) >>= fun k => if k = true then f (ρ.set i (.val d)) >>= fun x => bO (bj i) t f ρ ds >>= fun xs => .ok (x :: xs) else bO (bj i) t f ρ ds) := by
  rw [bO]; rfl
theorem jM (i j : Nat) (x y : PyData) (ds : List PyData) : bO (dH i j) t f ρ (.tuple [x, y] :: ds) = (t ((ρ.set i (.val x)).set j (.val y)) >>= fun k => if k = true then f ((ρ.set i (.val x)).set j (.val y)) >>= fun x => bO (dH i j) t f ρ ds >>= fun xs => .ok (x :: xs) else bO (dH i j) t f ρ ds) := by
  rw [bO]; rfl
@[simp] theorem qG : qf fs ρ = (fs ρ >>= AR .tuple) := (rfl)
theorem A5 {mk : List PyData → PyData} {n : Int} (h0 : 0 ≤ n) (h1 : n ≤ 1000000) : AR mk [.int n] = .ok (mk (bx 0 n.toNat)) := by
  show (if n ≤ 16777216 ∧ -(2 ^ 62) ≤ n then R.ok (mk (bx 0 n.toNat)) else .no) = _
  rw [if_pos (by omega)]
@[simp] theorem xR (op : Int → Int → Int) : su i op f ρ = (af i ρ >>= fun x => f ρ >>= fun y => BX op x y >>= fun z => .ok (.nx (ρ.set i (.val z)))) := (rfl)
@[simp] theorem Bc (op : Int → Int → Int) (m n : Int) : BX op (.int m) (.int n) = .ok (.int (op m n)) := (rfl)
theorem lX {ρ : aX} {i : Nat} {ds : List PyData} {fk fv : Fe} {n : Int} {v : PyData} (h : ρ[i]? = some (.own (.list ds))) (hk : fk ρ = .ok (.int n)) (hv : fv ρ = .ok v) (h0 : 0 ≤ n) (h1 : n < ds.length) : gm i fk fv ρ = .ok (.nx (ρ.set i (.own (.list (ds.set n.toNat v))))) := by
  unfold gm
  rw [hv, hk, h]
  simp only [lh, R.ok_bind]
  have : L2.tL ds.length n = some n.toNat := by unfold L2.tL; rw [if_pos h0, if_pos h1]
  rw [this]
@[simp] theorem yE : wQ f g ρ = (f ρ >>= fun x => g ρ >>= fun y => ic x >>= fun xs => ic y >>= fun ys => .ok (lB xs ys)) := (rfl)
@[simp] theorem iZ : kq f ρ = (f ρ >>= fun x => ic x >>= fun xs => .ok (cL 0 xs)) := (rfl)
theorem ja {ρ : aX} {i : Nat} {ds : List PyData} (f : Fe) (h : ρ[i]? = some (.own (.list ds))) (hz : ds.length < sizeLine) : du i f ρ = (lh (f ρ) >>= fun d => .ok (.nx (ρ.set i (.own (.list (ds ++ [d])))))) := by
  unfold du
  congr 1
  funext d
  rw [h]
  exact if_pos hz
def A9 : R (List PyData) → R PyData
  | .ok xs => .ok (.list xs)
  | _ => .no
@[simp] theorem kl (xs : List PyData) : A9 (.ok xs) = .ok (.list xs) := (rfl)
theorem bG (it : aX → R (List PyData)) (own : Nat) (fr : List Nat) (bb : PyData → aX → Option aX) : cc it own fr bb t f ρ = (lh (it ρ) >>= fun ds => if ds.length ≤ sizeLine then A9 (bO bb t f (aL own fr ρ) ds) else .no) := by
  unfold cc
  congr 1
theorem gO (i : Nat) (G : PyData → PyData) : ∀ (ds : List PyData), (∀ d ∈ ds, f (ρ.set i (.val d)) = .ok (G d)) → bO (bj i) (fun _ => .ok true) f ρ ds = .ok (ds.map G)
  | [], _ => dC ..
  | d :: ds, hh => by
    rw [eW, hh d List.mem_cons_self, gO i G ds fun x hx => hh x (List.mem_cons_of_mem _ hx)]
    rfl
end
section
variable (i j : Int) (xs ys : List PyData)
@[simp] theorem zG : fh (.int i) (.int j) = .ok (.int (i + j)) := (rfl)
@[simp] theorem kO : gJ (.int i) (.int j) = .ok (.int (i - j)) := (rfl)
@[simp] theorem se : fq (.int i) (.int j) = if 0 < j then .ok (.int (i % j)) else .no := (rfl)
@[simp] theorem zW : lF (.int i) (.int j) = if 0 < j ∧ j < 1073741824 then .ok (.int (i / j)) else .no := (rfl)
theorem Ar : fj (.int i) (.int j) = if (-(2 ^ 64) < i ∧ i < 2 ^ 64) ∨ (-(2 ^ 64) < j ∧ j < 2 ^ 64) then .ok (.int (i * j)) else .no := rfl
@[simp] theorem kZ (p : Int → Int → Bool) : dz p (.int i) (.int j) = .ok (.bool (p i j)) := (rfl)
@[simp] theorem Ce : yH (.int i) (.int j) = .ok (.int (if j < i then j else i)) := (rfl)
@[simp] theorem Ct : yk (.int i) (.int j) = .ok (.int (if j > i then j else i)) := (rfl)
@[simp] theorem jZ : cX (.tuple xs) = .ok (.int xs.length) := (rfl)
@[simp] theorem nc : cX (.list xs) = .ok (.int xs.length) := (rfl)
@[simp] theorem ky : c6 (.list xs) = .ok (.tuple xs) := (rfl)
@[simp] theorem yG : n9 (.tuple xs) = .ok (.list xs) := (rfl)
@[simp] theorem zT (k : Bool) : sZ (.bool k) = .ok (.int (if k then 1 else 0)) := (rfl)
theorem pO {α : Type} {xs : List α} {i : Int} (h0 : 0 ≤ i) (h1 : i < xs.length) : L2.atI xs i = some (xs[i.toNat]'(by omega)) := by
  unfold L2.atI tL
  rw [if_pos h0, if_pos h1]
  exact List.getElem?_eq_getElem (by omega)
theorem wo {xs : List PyData} {i : Int} (h0 : 0 ≤ i) (h1 : i < xs.length) : bV (.tuple xs) (.int i) = .ok (xs[i.toNat]'(by omega)) := by
  show (match L2.atI xs i with | some d => R.ok d | none => .no) = _
  rw [pO h0 h1]
theorem uy {xs : List PyData} {i : Int} (h0 : 0 ≤ i) (h1 : i < xs.length) : bV (.list xs) (.int i) = .ok (xs[i.toNat]'(by omega)) := by
  show (match L2.atI xs i with | some d => R.ok d | none => .no) = _
  rw [pO h0 h1]
theorem yn : PyData.eqv (.int i) (.int j) = decide (i = j) := by
  simp only [PyData.eqv]
  by_cases h : i = j
  · subst h; simp
  · simp [h]
theorem fF : iy (.int i) (.int j) = .ok (.bool (decide (i = j))) := by
  unfold iy
  rw [if_pos (by rfl), yn]
end
end D2
namespace G
open PySem PySem.Spec PyProof.Rows L2 D2
def Cq : PyData → Bool
  | .int _ => true
  | _ => false
def Bb : PyData → Prop
  | .dict _ => False
  | _ => True
def zi (d : PyData) (lo hi : Int) : Bool := match d with
  | .int i => decide (lo ≤ i) && decide (i ≤ hi)
  | _ => false
def lP (c : Int) : Int → List PyData → Bool
  | _, [] => true
  | l, d :: r => match d with
    | .int i => (decide (l ≤ i) && decide (i < c)) && lP c (i + 1) r
    | _ => false
@[simp] def BJ (c : Int) : PyData → Bool
  | .tuple ds => lP c 0 ds
  | _ => false
abbrev iH (d : PyData) : Prop := d.canLay0 = true
theorem uq : ∀ {ds : List PyData}, PyData.canLayAll0 ds = true → ∀ x ∈ ds, iH x
  | [], _, x, hx => by cases hx
  | d :: ds, h, x, hx => by
    have h' : d.canLay0 = true ∧ PyData.canLayAll0 ds = true := by simpa [PyData.canLayAll0] using h
    rcases List.mem_cons.mp hx with rfl | hx
    · exact h'.1
    · exact uq h'.2 x hx
theorem nq : ∀ {ds : List PyData}, (∀ x ∈ ds, iH x) → PyData.canLayAll0 ds = true
  | [], _ => by simp [PyData.canLayAll0]
  | d :: ds, h => by
    have h1 := h d List.mem_cons_self
    have h2 := nq fun x hx => h x (List.mem_cons_of_mem _ hx)
    simp only [PyData.canLayAll0, Bool.and_eq_true]
    exact ⟨h1, h2⟩
theorem rj {ds : List PyData} : iH (.tuple ds) ↔ ∀ x ∈ ds, iH x := by
  constructor
  · intro h; exact uq (by simpa [iH, PyData.canLay0] using h)
  · intro h; simp only [iH, PyData.canLay0]; exact nq h
theorem rc (i : Int) : iH (.int i) := by simp [iH, PyData.canLay0]
theorem uT : iH .none := by simp [iH, PyData.canLay0]
theorem bZ {n : Nat} (h : n ≤ 1000) : n ≤ sizeLine := Nat.le_trans h (by decide)
abbrev pE (ns : List Int) : PyData := .list (ns.map .int)
theorem il {i j : Int} (h : (-(2 ^ 64) < i ∧ i < 2 ^ 64) ∨ (-(2 ^ 64) < j ∧ j < 2 ^ 64)) : fj (.int i) (.int j) = .ok (.int (i * j)) := by rw [Ar, if_pos h]
structure r0 (c : Int) (n : Nat) (kvs : List (PyData × PyData)) : Prop where
  ex : ∃ ns : List Int, kvs.map (·.1) = ns.map PyData.int ∧ (∀ x ∈ ns, 0 ≤ x ∧ x < c) ∧ ns.length ≤ n ∧ (n = 0 ∨ ns ≠ []) ∧ ns.Nodup
theorem r0.put {c : Int} {n : Nat} {kvs : List (PyData × PyData)} (h : r0 c n kvs) {k : Int} (h0 : 0 ≤ k) (h1 : k < c) (v : PyData) : r0 c (n + 1) (rn kvs (.int k) v) := by
  obtain ⟨ns, e, hb, hl, hn, nd⟩ := h.ex
  have hany : (kvs.any fun kv => gq kv.1 (.int k)) = ns.any fun i => decide (i = k) := by
    have : (kvs.any fun kv => gq kv.1 (.int k)) = (kvs.map (·.1)).any fun d => gq d (.int k) := by rw [List.any_map]; rfl
    rw [this, e, List.any_map]; rfl
  unfold rn
  rw [hany]
  by_cases hm : k ∈ ns
  · have ha : (ns.any fun i => decide (i = k)) = true := by simp; exact hm
    rw [if_pos ha]
    refine ⟨ns, ?_, hb, by omega, .inr (by intro z; rw [z] at hm; cases hm), nd⟩
    rw [← e, List.map_map]
    apply List.map_congr_left
    intro kv _
    show (if gq kv.1 (.int k) = true then (kv.1, v) else kv).1 = kv.1
    split <;> rfl
  · have ha : ¬ (ns.any fun i => decide (i = k)) = true := by simp; exact hm
    rw [if_neg ha]
    refine ⟨ns ++ [k], by rw [List.map_append, List.map_append, e]; rfl, fun x hx => ?_, by simp; omega, .inr (by simp), ?_⟩
    · rcases List.mem_append.mp hx with z | z
      · exact hb x z
      · simp at z; subst z; exact ⟨h0, h1⟩
    · rw [List.nodup_append]
      refine ⟨nd, by simp, fun a hma b hb' => ?_⟩
      simp at hb'
      subst hb'
      rintro rfl
      exact hm hma
theorem r0.len {c : Int} {n : Nat} {kvs : List (PyData × PyData)} (h : r0 c n kvs) : kvs.length ≤ n := by
  obtain ⟨ns, e, _, hl, _⟩ := h.ex
  have := congrArg List.length e
  simp at this
  omega
theorem qm (lo : Int) (n : Nat) : ∀ d ∈ bx lo n, ∃ k, d = .int k := fun d hd => by
  unfold bx at hd
  obtain ⟨k, _, rfl⟩ := List.mem_map.mp hd
  exact ⟨_, rfl⟩
theorem dS (lo : Int) (n : Nat) : (bx lo n).length = n := by unfold bx; simp
theorem xV {xs : List PyData} {i : Int} (h0 : 0 ≤ i) (h1 : i < xs.length) : ∃ x ∈ xs, bV (.list xs) (.int i) = .ok x := ⟨_, List.getElem_mem _, uy h0 h1⟩
structure P4 where
  w : Int
  m : Int
  g : Int
  ns : List Int
def P4.d (p : P4) : PyData := .tuple [.int p.w, .int p.m, .int p.g, .tuple (p.ns.map .int)]
structure Pl (c hi : Int) (p : P4) : Prop where
  w0 : 0 ≤ p.w
  w1 : p.w ≤ 1
  m0 : 0 ≤ p.m
  m1 : p.m ≤ hi
  g0 : -20 ≤ p.g
  g1 : p.g ≤ 20
  ne : p.ns ≠ []
  so : p.ns.Pairwise (· < ·)
  inn : ∀ x ∈ p.ns, 0 ≤ x ∧ x < c
theorem jP : ∀ (ns : List Int) (l c : Int), ns.Pairwise (· < ·) → (∀ x ∈ ns, l ≤ x ∧ x < c) → ns = [] ∨ l + (ns.length : Int) ≤ c
  | [], _, _, _, _ => .inl rfl
  | x :: r, l, c, hp, hb => by
    right
    obtain ⟨h1, h2⟩ := List.pairwise_cons.mp hp
    have hx := hb x List.mem_cons_self
    rcases jP r (x + 1) c h2 (fun y hy => ⟨by have := h1 y hy; omega, (hb y (List.mem_cons_of_mem _ hy)).2⟩) with rfl | z
    · simp; omega
    · rw [List.length_cons]; omega
theorem Pl.len {c hi : Int} {p : P4} (h : Pl c hi p) : (p.ns.length : Int) ≤ c := by
  rcases jP p.ns 0 c h.so h.inn with z | z
  · exact absurd z h.ne
  · omega
abbrev gD (ps : List P4) : PyData := .tuple (ps.map P4.d)
theorem vx {ns : List Int} (h : ns.Pairwise (· ≤ ·)) (nd : ns.Nodup) : ns.Pairwise (· < ·) := by
  have := h.and nd
  exact this.imp fun ⟨a, b⟩ => by omega
theorem t6 (c : Int) : ∀ (ns : List Int) (l : Int), ns.Pairwise (· < ·) → (∀ x ∈ ns, l ≤ x ∧ x < c) → lP c l (ns.map .int) = true
  | [], _, _, _ => rfl
  | x :: r, l, hp, hb => by
    obtain ⟨h1, h2⟩ := List.pairwise_cons.mp hp
    have hx := hb x List.mem_cons_self
    simp only [List.map_cons, lP, Bool.and_eq_true, decide_eq_true_eq]
    exact ⟨⟨hx.1, hx.2⟩, t6 c r (x + 1) h2 fun y hy => ⟨by have := h1 y hy; omega, (hb y (List.mem_cons_of_mem _ hy)).2⟩⟩
end G
noncomputable section
namespace G
open PySem PySem.Spec PyProof.Rows L2 D2
def gA : Fs :=
  (aY (lY (tE (e2 (dz BI) (af 1) (e1 cX (af 0)))) (cD (e2 bV (af 0) (af 1))) dI) (cD (eC (.int 0))))
def ce : List PyData → R PyData := dn 2 (gA)
def iP (ce : List PyData → R PyData) : Fs :=
  (aY (bH 2 (e2 fq (e2 fj (e2 fh (e2 fh (aC ce (ag (af 0) (ag (af 1) aH))) (e2 fj (eC (.int 7919)) (af 1))) (eC (.int 1))) (eC (.int 48271))) (eC (.int 2147483647)))) (cD (e2 fq (e2 fh (e2 fh (e2 fj (af 2) (af 2)) (e2 fj (eC (.int 7)) (af 2))) (af 1)) (eC (.int 2147483629)))))
def bh : List PyData → R PyData := dn 3 (iP ce)
def iV : Fs :=
  (aY (bH 2 (e2 fq (e2 fj (e2 fh (e2 fh (af 0) (e2 fj (eC (.int 104729)) (af 1))) (eC (.int 17))) (eC (.int 69621))) (eC (.int 2147483647)))) (cD (e2 fq (e2 fh (e2 fh (e2 fj (af 2) (af 2)) (e2 fj (eC (.int 3)) (af 2))) (af 1)) (eC (.int 2147483629)))))
def aT : List PyData → R PyData := dn 3 (iV)
def i8 (aT : List PyData → R PyData) : Fs :=
  (aY (gz 2 (eC (.dict []))) (aY (iO (kx (ia (ag (e2 fh (e2 fh (eC (.int 1)) (e2 fq (af 0) (eC (.int 3)))) (e2 fj (eC (.int 20)) (e1 sZ (e2 (iy) (e2 fq (e2 lF (af 0) (eC (.int 3))) (eC (.int 29))) (eC (.int 7)))))) aH)) (bj 3) (vI 2 (e2 fq (aC aT (ag (af 0) (ag (af 3) aH))) (af 1)) (eC (.bool true))))) (cD (e1 c6 (e1 jh (fT 2))))))
def cH : List PyData → R PyData := dn 4 (i8 aT)
def iD (aT : List PyData → R PyData) (cH : List PyData → R PyData) : Fs :=
  (aY (bH 3 (e2 gJ (e2 fq (e2 lF (af 0) (eC (.int 26))) (eC (.int 9))) (eC (.int 4)))) (aY (lY (tE (e2 (iy) (e2 fq (e2 lF (af 0) (eC (.int 234))) (eC (.int 11))) (eC (.int 3)))) (bH 3 (e2 gJ (e2 fq (e2 lF (af 0) (eC (.int 26))) (eC (.int 41))) (eC (.int 20)))) dI) (cD (jG (ag (e2 fq (af 0) (eC (.int 2))) (ag (e2 fq (e2 lF (af 0) (eC (.int 2))) (e2 fh (af 2) (eC (.int 1)))) (ag (af 3) (ag (aC cH (ag (aC aT (ag (af 0) (ag (eC (.int 9)) aH))) (ag (af 1) aH))) aH))))))))
def cs : List PyData → R PyData := dn 4 (iD aT cH)
def gZ (bh : List PyData → R PyData) (cs : List PyData → R PyData) : Fs :=
  (aY (bH 2 (aC bh (ag (af 0) (ag (eC (.int 0)) aH)))) (aY (bH 3 (e2 fh (eC (.int 1)) (e2 fq (af 2) (e2 yH (af 1) (e2 yk (eC (.int 4)) (e1 cX (af 0))))))) (aY (bH 4 (e2 bV (sT (ag (eC (.int 1)) (ag (eC (.int 2)) (ag (eC (.int 3)) (ag (eC (.int 5)) (ag (eC (.int 12)) (ag (eC (.int 12)) aH))))))) (e2 fq (e2 lF (af 2) (eC (.int 24))) (eC (.int 6))))) (cD (e1 c6 (cc (ia (ag (af 3) aH)) 1 [0, 3, 4] (bj 0) (fun _ => .ok true) (aC cs (ag (aC bh (ag (af 1) (ag (e2 fh (eC (.int 3)) (af 0)) aH))) (ag (af 2) (ag (af 3) aH))))))))))
def cn : List PyData → R PyData := dn 5 (gZ bh cs)
def jF (aT : List PyData → R PyData) : Fs :=
  (aY (bH 2 (e2 fq (af 0) (eC (.int 5)))) (cD (e1 c6 (cc (ia (ag (af 1) aH)) 1 [2, 0] (bj 0) (vS (tE (e2 (iy) (af 1) (eC (.int 4)))) (tE (e2 (dz BI) (e2 fq (aC aT (ag (af 2) (ag (af 0) aH))) (eC (.int 4))) (af 1)))) (af 0)))))
def cN : List PyData → R PyData := dn 3 (jF aT)
def gY : Fs :=
  (cD (qf (ag (e1 cX (af 0)) aH)))
def br : List PyData → R PyData := dn 1 (gY)
def ny : Fs :=
  (cD (w6 (e1 (kS .int) (af 0)) (zP (e1 (kS .bool) (af 0)))))
def dj : List PyData → R PyData := dn 1 (ny)
def hZ (dj : List PyData → R PyData) : Fs :=
  (cD (w6 (aC dj (ag (af 0) aH)) (mJ (dz CL) (dz CL) (af 1) (af 0) (af 2))))
def cf : List PyData → R PyData := dn 3 (hZ dj)
def jR (cf : List PyData → R PyData) : Fs :=
  (aY (lY (jD (tE (e1 (kS .tuple) (af 0)))) (cD (eC (.bool false))) dI) (aY (bH 2 (eC (.int 0))) (aY (iO (kx (eX (af 0)) (bj 3) (aY (lY (jD (tE (aC cf (ag (af 3) (ag (af 2) (ag (e2 gJ (af 1) (eC (.int 1))) aH)))))) (cD (eC (.bool false))) dI) (bH 2 (e2 fh (af 3) (eC (.int 1))))))) (cD (eC (.bool true))))))
def bz : List PyData → R PyData := dn 4 (jR cf)
def mX : Fs :=
  (cD (e1 c6 (cc (eX (af 0)) 1 [1] (bj 0) (tE (e2 (l5 false) (af 0) (af 1))) (af 0))))
def a8 : List PyData → R PyData := dn 2 (mX)
def fA : Fs :=
  (cD (e1 c6 (cc (wQ (af 0) (af 1)) 2 [] (dH 0 1) (fun _ => .ok true) (yB (tE (e2 (nV) (af 0) (eC .none))) (af 1) (af 0)))))
def ar : List PyData → R PyData := dn 2 (fA)
def mx : Fs :=
  (cD (e1 c6 (cc (kq (af 0)) 2 [] (dH 0 1) (tE (e2 (ke) (af 1) (eC .none))) (af 0))))
def a7 : List PyData → R PyData := dn 1 (mx)
def fx (a7 : List PyData → R PyData) : Fs :=
  (aY (gz 3 (cc (eX (af 2)) 1 [] (bj 0) (fun _ => .ok true) (eC .none))) (aY (iO (kx (eX (aC a7 (ag (af 2) aH))) (bj 4) (lY (ou (tE (e2 (iy) (e2 bV (e2 bV (af 0) (af 4)) (eC (.int 0))) (af 1))) (tE (e2 (dz l6) (e2 bV (af 2) (af 4)) (eC (.int 0))))) (gm 3 (af 4) (e2 bV (cc (eX (e2 bV (e2 bV (af 0) (af 4)) (eC (.int 3)))) 1 [2, 4] (bj 0) (tE (e2 (iy) (e2 bV (af 1) (af 0)) (e2 gJ (e2 bV (af 1) (af 2)) (eC (.int 1))))) (af 0)) (eC (.int 0)))) dI))) (cD (e1 c6 (fT 3)))))
def aN : List PyData → R PyData := dn 5 (fx a7)
def iS : Fs :=
  (aY (bH 4 (cc (eX (af 1)) 1 [3] (bj 0) (tE (e2 (ke) (e2 bV (af 1) (af 0)) (eC .none))) (af 0))) (aY (lY (tE (e2 (iy) (e2 bV (af 0) (eC (.int 0))) (af 2))) (cD (e2 (dz l6) (e1 cX (af 4)) (eC (.int 0)))) dI) (cD (e2 (iy) (e1 cX (af 4)) (e1 cX (af 1))))))
def bP : List PyData → R PyData := dn 5 (iS)
def jL (a8 : List PyData → R PyData) (bP : List PyData → R PyData) : Fs :=
  (aY (bH 4 (cc (eX (af 0)) 1 [1] (bj 0) (fun _ => .ok true) (aC a8 (ag (e2 bV (af 0) (eC (.int 3))) (ag (af 1) aH))))) (aY (gz 5 (cc (ia (ag (e1 cX (af 0)) aH)) 1 [3] (bj 0) (fun _ => .ok true) (yB (tE (e2 (l5 false) (af 0) (af 1))) (eC (.int 0)) (eC .none)))) (aY (bH 6 (eC (.int 0))) (aY (bH 7 (e1 n9 (af 3))) (aY (iO (nv 1000000 (tE (e2 (dz l6) (e1 cX (af 7)) (eC (.int 0)))) (aY (su 6 (fun a b => a + b) (eC (.int 1))) (aY (bH 8 (cc (eX (af 1)) 1 [5] (bj 0) (tE (e2 (nV) (e2 bV (fT 1) (af 0)) (eC .none))) (af 0))) (aY (bH 7 (cc (eX (af 8)) 1 [0, 4, 2, 5] (bj 0) (tE (jB 4 (aC bP (ag (e2 bV (af 1) (af 0)) (ag (e2 bV (af 2) (af 0)) (ag (af 3) (ag (af 4) aH))))))) (af 0))) (iO (kx (eX (af 7)) (bj 9) (gm 5 (af 9) (af 6))))))))) (cD (e1 c6 (fT 5))))))))
def aW : List PyData → R PyData := dn 10 (jL a8 bP)
def jN : Fs :=
  (cD (e1 c6 (cc (eX (af 0)) 1 [] (bj 0) (fun _ => .ok true) (eC .none))))
def bN : List PyData → R PyData := dn 1 (jN)
def fy (a8 : List PyData → R PyData) (bN : List PyData → R PyData) : Fs :=
  (aY (gz 3 (e1 n9 (aC bN (ag (af 0) aH)))) (aY (iO (kx (eX (af 2)) (bj 4) (lY (tE (e2 (iy) (e2 bV (e2 bV (af 0) (af 4)) (eC (.int 0))) (af 1))) (gm 3 (af 4) (e2 bV (aC a8 (ag (e2 bV (e2 bV (af 0) (af 4)) (eC (.int 3))) (ag (af 2) aH))) (eC (.int 0)))) dI))) (cD (e1 c6 (fT 3)))))
def aA : List PyData → R PyData := dn 5 (fy a8 bN)
def k7 : Fs :=
  (cD (e1 c6 (cc (eX (af 0)) 1 [1] (bj 0) (tE (e2 (l5 true) (af 0) (af 1))) (af 0))))
def aD : List PyData → R PyData := dn 2 (k7)
def eD (a8 : List PyData → R PyData) (ar : List PyData → R PyData) (aN : List PyData → R PyData) (a7 : List PyData → R PyData) (aW : List PyData → R PyData) (aA : List PyData → R PyData) (aD : List PyData → R PyData) (c_Share : Addr) : Fs :=
  (aY (bH 4 (aC aW (ag (af 0) (ag (af 1) (ag (af 2) (ag (aC a8 (ag (af 3) (ag (af 1) aH))) aH)))))) (aY (bH 5 (aC aD (ag (af 1) (ag (aC a7 (ag (af 4) aH)) aH)))) (aY (lY (tE (e2 (iy) (e1 cX (af 5)) (eC (.int 0)))) (aY (bH 6 (aC ar (ag (aC aN (ag (af 0) (ag (af 2) (ag (af 4) aH)))) (ag (aC aA (ag (af 0) (ag (af 2) (ag (af 1) aH)))) aH)))) (cD (lS c_Share ["who", "places", "moves"] (ag (af 2) (ag (af 1) (ag (af 6) aH)))))) dI) (aY (bH 7 (e2 gJ (eC (.int 1)) (af 2))) (aY (bH 4 (aC aW (ag (af 0) (ag (af 1) (ag (af 7) (ag (af 5) aH)))))) (aY (bH 6 (aC ar (ag (aC aN (ag (af 0) (ag (af 7) (ag (af 4) aH)))) (ag (aC aA (ag (af 0) (ag (af 7) (ag (af 5) aH)))) aH)))) (cD (lS c_Share ["who", "places", "moves"] (ag (af 7) (ag (aC a7 (ag (af 4) aH)) (ag (af 6) aH)))))))))))
def bn (c_Share : Addr) : List PyData → R PyData := dn 8 (eD a8 ar aN a7 aW aA aD c_Share)
def dM (ar : List PyData → R PyData) (bN : List PyData → R PyData) (c_Share : Addr) : Fs :=
  (aY (gz 2 (cc (eX (af 0)) 1 [] (bj 0) (fun _ => .ok true) (eC .none))) (aY (bH 3 (aC bN (ag (af 0) aH))) (aY (iO (kx (eX (af 1)) (bj 4) (aY (iO (kx (eX (e1 (iB c_Share "places") (af 4))) (bj 5) (gm 2 (af 5) (e1 (iB c_Share "who") (af 4))))) (bH 3 (aC ar (ag (af 3) (ag (e1 (iB c_Share "moves") (af 4)) aH))))))) (cD (jG (ag (e1 c6 (fT 2)) (ag (af 3) aH)))))))
def aI (c_Share : Addr) : List PyData → R PyData := dn 6 (dM ar bN c_Share)
def oV (br : List PyData → R PyData) (bz : List PyData → R PyData) (bn : List PyData → R PyData) (aI : List PyData → R PyData) (aD : List PyData → R PyData) (c_Share : Addr) : Fs :=
  (aY (lY (jD (tE (aC bz (ag (af 2) (ag (e1 cX (af 0)) aH))))) (iU (PySem.Str.ofString "NoPart") (eC (.str (PySem.Str.ofString "goals are not some places")))) dI) (aY (gz 3 (sT aH)) (aY (bH 4 (aC br (ag (af 0) aH))) (aY (iO (nv 1000000 (tE (e2 (dz l6) (e1 cX (af 4)) (eC (.int 0)))) (aY (bH 5 (aC bn (ag (af 0) (ag (af 4) (ag (af 1) (ag (af 2) aH)))))) (aY (du 3 (af 5)) (bH 4 (aC aD (ag (af 4) (ag (e1 (iB c_Share "places") (af 5)) aH)))))))) (zV 3 (cD (aC aI (ag (af 0) (ag (af 3) aH)))))))))
def fJ (c_Share : Addr) : List PyData → R PyData := dn 6 (oV br bz (bn c_Share) (aI c_Share) aD c_Share)
def ft (a8 : List PyData → R PyData) : Fs :=
  (cD (e1 vL (cc (eX (af 1)) 1 [0, 1] (bj 0) (fun _ => .ok true) (e2 (dz l6) (e1 cX (aC a8 (ag (e2 bV (e2 bV (af 1) (af 0)) (eC (.int 3))) (ag (af 2) aH)))) (eC (.int 0))))))
def bL : List PyData → R PyData := dn 2 (ft a8)
def hR (bz : List PyData → R PyData) (bL : List PyData → R PyData) (aD : List PyData → R PyData) : Fs :=
  (aY (lY (jD (tE (aC bz (ag (af 1) (ag (e1 cX (af 0)) aH))))) (iU (PySem.Str.ofString "NoPart") (eC (.str (PySem.Str.ofString "inside is not some places")))) dI) (aY (lY (jD (tE (aC bz (ag (af 2) (ag (e1 cX (af 0)) aH))))) (iU (PySem.Str.ofString "NoPart") (eC (.str (PySem.Str.ofString "these are not some places")))) dI) (aY (lY (tE (e2 (dz l6) (e1 cX (aC aD (ag (af 2) (ag (af 1) aH)))) (eC (.int 0)))) (iU (PySem.Str.ofString "NoPart") (eC (.str (PySem.Str.ofString "these places do not lie in inside")))) dI) (lY (jD (tE (aC bL (ag (af 0) (ag (af 1) aH))))) (iU (PySem.Str.ofString "NoPart") (eC (.str (PySem.Str.ofString "inside is not whole")))) dI))))
def cr : List PyData → R PyData := dn 3 (hR bz bL aD)
def rR (cr : List PyData → R PyData) (a7 : List PyData → R PyData) (aW : List PyData → R PyData) (aA : List PyData → R PyData) (aD : List PyData → R PyData) : Fs :=
  (aY (uf (aC cr (ag (af 0) (ag (af 1) (ag (af 3) aH))))) (aY (bH 4 (aC aW (ag (af 0) (ag (af 1) (ag (e2 gJ (eC (.int 1)) (af 2)) (ag (aC aD (ag (af 1) (ag (af 3) aH))) aH)))))) (aY (bH 5 (aC aD (ag (af 1) (ag (aC a7 (ag (af 4) aH)) aH)))) (cD (jG (ag (af 5) (ag (aC aA (ag (af 0) (ag (af 2) (ag (af 5) aH)))) aH)))))))
def hJ : List PyData → R PyData := dn 6 (rR cr a7 aW aA aD)
def jW : Fs :=
  (cD (e1 c6 (cc (kq (af 0)) 2 [1] (dH 0 1) (fun _ => .ok true) (yB (tE (e2 (l5 false) (af 0) (af 2))) (af 1) (eC .none)))))
def cz : List PyData → R PyData := dn 2 (jW)
def dG (cz : List PyData → R PyData) (ar : List PyData → R PyData) (aN : List PyData → R PyData) (a7 : List PyData → R PyData) (aW : List PyData → R PyData) (aA : List PyData → R PyData) (aO : List PyData → R PyData) (aD : List PyData → R PyData) (c_Share : Addr) : Fs :=
  (aY (bH 2 (e1 pZ (cc (eX (af 1)) 1 [0] (bj 0) (fun _ => .ok true) (e2 bV (e2 bV (af 1) (af 0)) (eC (.int 1)))))) (aY (bH 3 (e2 fq (af 2) (eC (.int 2)))) (aY (bH 4 (e2 gJ (eC (.int 1)) (af 3))) (aY (bH 5 (cc (eX (af 1)) 1 [0, 2] (bj 0) (tE (e2 (iy) (e2 bV (e2 bV (af 1) (af 0)) (eC (.int 1))) (af 2))) (af 0))) (aY (bH 6 (aC aW (ag (af 0) (ag (af 1) (ag (af 3) (ag (af 5) aH)))))) (aY (bH 7 (aC aO (ag (af 0) (ag (aC aD (ag (af 1) (ag (aC a7 (ag (af 6) aH)) aH))) aH)))) (aY (bH 8 (cc (kq (e2 bV (af 7) (eC (.int 0)))) 2 [4] (dH 0 1) (tE (e2 (iy) (af 1) (af 2))) (af 0))) (aY (lY (tE (e2 (iy) (e1 cX (af 8)) (eC (.int 0)))) (aY (bH 9 (aC ar (ag (aC aN (ag (af 0) (ag (af 3) (ag (af 6) aH)))) (ag (e2 bV (af 7) (eC (.int 1))) aH)))) (cD (lS c_Share ["who", "places", "moves"] (ag (af 3) (ag (af 1) (ag (aC ar (ag (af 9) (ag (aC aA (ag (af 0) (ag (af 3) (ag (af 1) aH)))) aH))) aH)))))) dI) (aY (bH 6 (aC aW (ag (af 0) (ag (af 1) (ag (af 4) (ag (af 8) aH)))))) (aY (bH 9 (aC ar (ag (aC aN (ag (af 0) (ag (af 4) (ag (af 6) aH)))) (ag (aC cz (ag (e2 bV (af 7) (eC (.int 1))) (ag (af 8) aH))) aH)))) (cD (lS c_Share ["who", "places", "moves"] (ag (af 4) (ag (aC a7 (ag (af 6) aH)) (ag (af 9) aH)))))))))))))))
def dF (aZ : List PyData → R PyData) (aI : List PyData → R PyData) (aD : List PyData → R PyData) (c_Share : Addr) : Fs :=
  (aY (gz 2 (sT aH)) (aY (bH 3 (af 1)) (aY (iO (nv 1000000 (tE (e2 (dz l6) (e1 cX (af 3)) (eC (.int 0)))) (aY (bH 4 (aC aZ (ag (af 0) (ag (af 3) aH)))) (aY (du 2 (af 4)) (bH 3 (aC aD (ag (af 3) (ag (e1 (iB c_Share "places") (af 4)) aH)))))))) (zV 2 (cD (aC aI (ag (af 0) (ag (af 2) aH))))))))
def aO (c_Share : Addr) : Nat → List PyData → R PyData
  | 0 => fun _ => .no
  | k + 1 => dn 5 (dF (dn 10 (dG cz ar aN a7 aW aA (aO c_Share k) aD c_Share)) (aI c_Share) aD c_Share)
def aZ (c_Share : Addr) (k : Nat) : List PyData → R PyData := dn 10 (dG cz ar aN a7 aW aA (aO c_Share k) aD c_Share)
def wf (br : List PyData → R PyData) (aO : List PyData → R PyData) : Fs :=
  (cD (aC aO (ag (af 0) (ag (aC br (ag (af 0) aH)) aH))))
def jC (c_Share : Addr) : List PyData → R PyData := dn 1 (wf br (aO c_Share 14))
def v9 (cn : List PyData → R PyData) (bh : List PyData → R PyData) (cN : List PyData → R PyData) (fJ : List PyData → R PyData) (hJ : List PyData → R PyData) (jC : List PyData → R PyData) : Fs :=
  (aY (bH 1 (aC cn (ag (af 0) (ag (eC (.int 24)) aH)))) (aY (bH 2 (e1 cX (af 1))) (aY (bH 3 (aC cN (ag (aC bh (ag (af 0) (ag (eC (.int 2)) aH))) (ag (af 2) aH)))) (aY (bH 4 (e2 fq (e2 lF (aC bh (ag (af 0) (ag (eC (.int 2)) aH))) (eC (.int 5))) (eC (.int 2)))) (aY (bH 5 (e1 c6 (cc (kq (af 1)) 2 [4, 3] (dH 0 1) (fun _ => .ok true) (jG (ag (e2 bV (af 1) (eC (.int 0))) (ag (e2 fh (e2 gJ (eC (.int 1)) (af 2)) (e1 sZ (e2 (l5 false) (af 0) (af 3)))) (ag (e2 bV (af 1) (eC (.int 2))) (ag (e2 bV (af 1) (eC (.int 3))) aH)))))))) (aY (lY (tE (e2 (zE) (e2 bV (aC jC (ag (af 5) aH)) (eC (.int 0))) (e2 bV (aC fJ (ag (af 1) (ag (af 4) (ag (af 3) aH)))) (eC (.int 0))))) (cD (eC (.bool false))) dI) (aY (bH 6 (aC cN (ag (aC bh (ag (af 0) (ag (eC (.int 1)) aH))) (ag (af 2) aH)))) (aY (gz 7 (sT aH)) (aY (iO (kx (kq (af 1)) (dH 8 9) (lY (tE (e2 (l5 false) (af 8) (af 6))) (du 7 (jG (ag (e2 bV (af 9) (eC (.int 0))) (ag (af 4) (ag (e2 bV (af 9) (eC (.int 2))) (ag (e2 bV (af 9) (eC (.int 3))) aH)))))) (du 7 (jG (ag (e2 bV (af 9) (eC (.int 0))) (ag (e2 gJ (eC (.int 1)) (af 4)) (ag (e2 bV (af 9) (eC (.int 2))) (ag (jG (ag (af 8) aH)) aH))))))))) (aY (bH 10 (e2 bV (aC jC (ag (e1 c6 (fT 7)) aH)) (eC (.int 0)))) (aY (bH 11 (e2 bV (aC hJ (ag (af 1) (ag (qf (ag (af 2) aH)) (ag (af 4) (ag (af 6) aH))))) (eC (.int 0)))) (cD (e2 (iy) (af 11) (e1 c6 (cc (ia (ag (af 2) aH)) 1 [10, 4] (bj 0) (tE (e2 (iy) (e2 bV (af 1) (af 0)) (af 2))) (af 0))))))))))))))))
def tH (c_Share : Addr) : List PyData → R PyData := dn 12 (v9 cn bh cN (fJ c_Share) hJ (jC c_Share))
end G
end
namespace G
open PySem PySem.Spec PyProof.Rows L2 D2
theorem yy (ns : List Int) {k : Int} (hk : 0 ≤ k) : ∃ v, ce [pE ns, .int k] = .ok (.int v) := by
  unfold ce gA
  by_cases h : k < ns.length
  · refine ⟨ns[k.toNat]'(by omega), ?_⟩
    have hx := uy (xs := ns.map PyData.int) (i := k) hk (by simpa using h)
    rw [eu]
    simp [h, hx]
  · refine ⟨0, ?_⟩
    rw [eu]
    simp [h]
theorem kc (ns : List Int) {k : Int} (hk : 0 ≤ k) : ∃ v, bh [pE ns, .int k] = .ok (.int v) ∧ 0 ≤ v ∧ v < 2147483629 := by
  obtain ⟨c, hc⟩ := yy ns hk
  unfold bh iP
  have m1 : fj (.int 7919) (.int k) = .ok (.int (7919 * k)) := il (.inl (by omega))
  have m2 : fj (.int (c + 7919 * k + 1)) (.int 48271) = .ok (.int ((c + 7919 * k + 1) * 48271)) := il (.inr (by omega))
  generalize hd : (c + 7919 * k + 1) * 48271 % 2147483647 = d
  have hd0 : 0 ≤ d := by omega
  have hd1 : d < 2147483647 := by omega
  have m3 : fj (.int d) (.int d) = .ok (.int (d * d)) := il (.inl (by omega))
  have m4 : fj (.int 7) (.int d) = .ok (.int (7 * d)) := il (.inl (by omega))
  refine ⟨(d * d + 7 * d + k) % 2147483629, ?_, by omega, by omega⟩
  rw [eu]
  simp [hc, m1, m2, hd, m3, m4, List.replicate]
theorem mW (n k : Int) : ∃ v, aT [.int n, .int k] = .ok (.int v) ∧ 0 ≤ v ∧ v < 2147483629 := by
  unfold aT iV
  have m1 : fj (.int 104729) (.int k) = .ok (.int (104729 * k)) := il (.inl (by omega))
  have m2 : fj (.int (n + 104729 * k + 17)) (.int 69621) = .ok (.int ((n + 104729 * k + 17) * 69621)) := il (.inr (by omega))
  generalize hd : (n + 104729 * k + 17) * 69621 % 2147483647 = d
  have hd0 : 0 ≤ d := by omega
  have hd1 : d < 2147483647 := by omega
  have m3 : fj (.int d) (.int d) = .ok (.int (d * d)) := il (.inl (by omega))
  have m4 : fj (.int 3) (.int d) = .ok (.int (3 * d)) := il (.inl (by omega))
  refine ⟨(d * d + 3 * d + k) % 2147483629, ?_, by omega, by omega⟩
  rw [eu]
  simp [m1, m2, hd, m3, m4, List.replicate]
theorem mD (n c : Int) (hc : 1 ≤ c) : ∀ (ds : List PyData) (m : Nat) (kvs : List (PyData × PyData)) (x : bo), r0 c m kvs → (∀ d ∈ ds, ∃ k, d = .int k) → m + ds.length ≤ 1000 →
    ∃ kvs' x', r0 c (m + ds.length) kvs' ∧ fB (bj 3) (vI 2 (e2 fq (aC aT (ag (af 0) (ag (af 3) aH))) (af 1)) (eC (.bool true))) ds [.val (.int n), .val (.int c), .own (.dict kvs), x]
      = .ok (.nx [.val (.int n), .val (.int c), .own (.dict kvs'), x'])
  | [], m, kvs, x, hk, _, _ => ⟨kvs, x, hk, by rw [fU]⟩
  | d :: ds, m, kvs, x, hk, hi, hl => by
    obtain ⟨k, rfl⟩ := hi d List.mem_cons_self
    obtain ⟨v, hv, v0, v1⟩ := mW n k
    have hk' := hk.put (k := v % c) (Int.emod_nonneg _ (by omega)) (Int.emod_lt_of_pos _ (by omega)) (.bool true)
    obtain ⟨kvs', x', h1, h2⟩ := mD n c hc ds (m + 1) _ (.val (.int k)) hk' (fun d hd => hi d (List.mem_cons_of_mem _ hd)) (by simp at hl; omega)
    refine ⟨kvs', x', by rw [List.length_cons]; simpa [Nat.add_comm, Nat.add_left_comm, Nat.add_assoc] using h1, ?_⟩
    have hlen := hk.len
    have hsz : kvs.length < sizeLine := Nat.lt_of_le_of_lt (show kvs.length ≤ 1000 by simp at hl; omega) (by decide)
    have hc' : 0 < c := by omega
    rw [ed, ← h2]
    simp [vI, hv, hc', gN, hsz]
theorem uF {n c : Int} (hn : 0 ≤ n) (hc : 1 ≤ c) : ∃ ns : List Int, cH [.int n, .int c] = .ok (.tuple (ns.map .int)) ∧ (∀ x ∈ ns, 0 ≤ x ∧ x < c) ∧ ns ≠ [] ∧ ns.Pairwise (· < ·) := by
  unfold cH i8
  have m1 : ∀ k : Int, fj (.int 20) (.int k) = .ok (.int (20 * k)) := fun k => il (.inl (by omega))
  generalize hN : (1 + n % 3 + 20 * (if n / 3 % 29 = 7 then 1 else 0) : Int) = N
  have hN0 : 1 ≤ N := by split at hN <;> omega
  have hN1 : N ≤ 23 := by split at hN <;> omega
  obtain ⟨kvs, x, hk, hf⟩ := mD n c hc (bx 0 N.toNat) 0 [] .non ⟨[], rfl, by simp, by simp, .inl rfl, by simp⟩ (qm _ _) (by rw [dS]; omega)
  obtain ⟨ns, e, hb, hl, hz, nd⟩ := hk.ex
  rw [dS] at hl hz
  have hi : dJ (kvs.map (·.1)) = some ns := by rw [e, iQ]
  have hs : jh (.dict kvs) = .ok (.list ((fG ns).map PyData.int)) := by
    show (match dJ (kvs.map (·.1)) with | some ns => if ns.length < 64 then R.ok (PyData.list ((fG ns).map PyData.int)) else .no | none => .no) = _
    rw [hi]
    exact if_pos (by omega)
  have hr : -(2 ^ 62) ≤ N ∧ N < 2 ^ 62 := by omega
  refine ⟨fG ns, ?_, fun x hx => hb x ((eU ns).mem_iff.mp hx), ?_, vx (hU ns) ((eU ns).nodup_iff.mpr nd)⟩
  · rw [eu]
    have hg : nO [.int N] = .ok (bx 0 N.toNat) := by
      show (if -(2 ^ 62) ≤ N ∧ N < 2 ^ 62 then R.ok (bx 0 N.toNat) else .no) = _
      rw [if_pos hr]
    simp [gh, fF, m1, List.replicate, hN, hg, hf, hs]
  · intro z
    have := (eU ns).length_eq
    rw [z] at this
    rcases hz with q | q
    · omega
    · exact q (List.eq_nil_of_length_eq_zero this.symm)
theorem u9 {n c h : Int} (hn : 0 ≤ n) (hc : 1 ≤ c) (h0 : 0 ≤ h) : ∃ p : P4, cs [.int n, .int c, .int h] = .ok p.d ∧ Pl c h p := by
  obtain ⟨v, hv, v0, v1⟩ := mW n 9
  obtain ⟨ns, hg, hb, hne, hso⟩ := uF (n := v) (c := c) v0 hc
  unfold cs iD
  have hh : 0 < h + 1 := by omega
  have s4 : 4 ≤ sizeLine := by decide
  have a1 := Int.emod_nonneg (n / 2) (show h + 1 ≠ 0 by omega)
  have a2 := Int.emod_lt_of_pos (n / 2) hh
  by_cases hq : n / 234 % 11 = 3
  · refine ⟨⟨n % 2, n / 2 % (h + 1), n / 26 % 41 - 20, ns⟩, ?_, ⟨by dsimp only; omega, by dsimp only; omega, a1, by dsimp only; omega, by dsimp only; omega, by dsimp only; omega, hne, hso, hb⟩⟩
    rw [eu]
    simp [hh, fF, hq, hv, hg, s4, P4.d]
  · refine ⟨⟨n % 2, n / 2 % (h + 1), n / 26 % 9 - 4, ns⟩, ?_, ⟨by dsimp only; omega, by dsimp only; omega, a1, by dsimp only; omega, by dsimp only; omega, by dsimp only; omega, hne, hso, hb⟩⟩
    rw [eu]
    simp [hh, fF, hq, hv, hg, s4, P4.d]
theorem qI (f : Fe) (ρ : aX) (i : Nat) (P : P4 → Prop) : ∀ ds : List PyData, (∀ d ∈ ds, ∃ p : P4, f (ρ.set i (.val d)) = .ok p.d ∧ P p) → ∃ ps : List P4, bO (bj i) (fun _ => .ok true) f ρ ds = .ok (ps.map P4.d) ∧ ps.length = ds.length ∧ ∀ p ∈ ps, P p
  | [], _ => ⟨[], dC .., rfl, by simp⟩
  | d :: ds, h => by
    obtain ⟨x, h1, h2⟩ := h d List.mem_cons_self
    obtain ⟨xs, h3, h4, h5⟩ := qI f ρ i P ds fun d hd => h d (List.mem_cons_of_mem _ hd)
    refine ⟨x :: xs, ?_, by simp [h4], fun y hy => ?_⟩
    · rw [eW, h1, h3]; rfl
    · rcases List.mem_cons.mp hy with rfl | hy
      · exact h2
      · exact h5 y hy
theorem sx (ns : List Int) {most : Int} (hm0 : 1 ≤ most) (hm1 : most ≤ 24) : ∃ (ps : List P4) (hi : Int), cn [pE ns, .int most] = .ok (gD ps) ∧ (∀ p ∈ ps, Pl ps.length hi p) ∧ 1 ≤ ps.length ∧ (ps.length : Int) ≤ most ∧ 0 ≤ hi ∧ hi ≤ 12 := by
  obtain ⟨v, hv, v0, v1⟩ := kc ns (k := 0) (by omega)
  unfold cn gZ
  generalize hm : (if (if (ns.length : Int) > 4 then (ns.length : Int) else 4) < most then (if (ns.length : Int) > 4 then (ns.length : Int) else 4) else most) = m
  have m0 : 0 < m := by split at hm <;> split at hm <;> omega
  have m1 : m ≤ most := by split at hm <;> split at hm <;> omega
  generalize hc : 1 + v % m = c
  have c0 : 1 ≤ c := by have := Int.emod_nonneg v (show m ≠ 0 by omega); omega
  have c1 : c ≤ most := by have := Int.emod_lt_of_pos v m0; omega
  have hix : ∃ h, bV (.list [.int 1, .int 2, .int 3, .int 5, .int 12, .int 12]) (.int (v / 24 % 6)) = .ok (.int h) ∧ 0 ≤ h ∧ h ≤ 12 := by
    obtain ⟨x, hx, e⟩ := xV (xs := [.int 1, .int 2, .int 3, .int 5, .int 12, .int 12]) (i := v / 24 % 6) (by omega) (by simp; omega)
    rw [e]
    simp at hx
    rcases hx with rfl | rfl | rfl | rfl | rfl <;> exact ⟨_, rfl, by decide, by decide⟩
  obtain ⟨h, hh, h0, h1⟩ := hix
  have s6 : 6 ≤ sizeLine := by decide
  have hr : nO [.int c] = .ok (bx 0 c.toNat) := by
    show (if -(2 ^ 62) ≤ c ∧ c < 2 ^ 62 then R.ok (bx 0 c.toNat) else .no) = _
    rw [if_pos (by omega)]
  obtain ⟨xs, e1, e2, e3⟩ := qI (aC cs (ag (aC bh (ag (af 1) (ag (e2 fh (eC (.int 3)) (af 0)) aH))) (ag (af 2) (ag (af 3) aH)))) (aL 1 [0, 3, 4] [.val (pE ns), .val (.int most), .val (.int v), .val (.int c), .val (.int h)]) 0 (Pl c h) (bx 0 c.toNat) fun d hd => by
    unfold bx at hd
    obtain ⟨k, _, rfl⟩ := List.mem_map.mp hd
    obtain ⟨w, hw, w0, w1⟩ := kc ns (k := 3 + (0 + (k : Int))) (by omega)
    obtain ⟨d, hd1, hd2⟩ := u9 (n := w) (c := c) (h := h) w0 c0 h0
    refine ⟨d, ?_, hd2⟩
    simp at hw
    simp [aL, List.replicate, hw, hd1]
  rw [dS] at e2
  have ec : (xs.length : Int) = c := by omega
  refine ⟨xs, h, ?_, by rw [ec]; exact e3, by omega, by omega, h0, h1⟩
  rw [eu]
  simp [hv, hm, m0, hc, s6, hh, List.replicate, bG, hr, dS, bZ (show c.toNat ≤ 1000 by omega), e1]
def cA (ns : List Int) (i : Int) : Bool := ns.any fun j => decide (j = i)
theorem a9 {ns : List Int} {i : Int} : cA ns i = true ↔ i ∈ ns := by
  unfold cA
  rw [List.any_eq_true]
  constructor
  · rintro ⟨j, hj, e⟩
    have := of_decide_eq_true e
    exact this ▸ hj
  · exact fun h => ⟨i, h, decide_eq_true rfl⟩
theorem lr : ∀ ns : List Int, PyData.depthAll (ns.map .int) = 0
  | [] => by simp [PyData.depthAll]
  | n :: ns => by simp [PyData.depthAll, PyData.depth, lr ns]
theorem r9 (ns : List Int) : PyData.canLayAll0 (ns.map .int) = true := nq fun x hx => by
  obtain ⟨i, _, rfl⟩ := List.mem_map.mp hx
  exact rc i
theorem oE (ns : List Int) (i : Int) : pe (ns.map .int) (.int i) = true := by
  unfold pe
  rw [r9, lr]
  simp [PyData.canLay0]
theorem p9 (ns : List Int) (i : Int) : ((ns.map PyData.int).any fun y => PyData.eqv y (.int i)) = cA ns i := by
  rw [List.any_map]
  congr 1
theorem Ax (ns : List Int) (i : Int) (neg : Bool) : l5 neg (.int i) (.tuple (ns.map .int)) = .ok (.bool (if neg then !cA ns i else cA ns i)) := by
  show (if pe (ns.map .int) (.int i) = true then R.ok (PyData.bool _) else .no) = _
  rw [if_pos (oE ns i), p9]
theorem CH (ns : List Int) (i : Int) (neg : Bool) : l5 neg (.int i) (.list (ns.map .int)) = .ok (.bool (if neg then !cA ns i else cA ns i)) := by
  show (if pe (ns.map .int) (.int i) = true then R.ok (PyData.bool _) else .no) = _
  rw [if_pos (oE ns i), p9]
theorem cv {t : aX → R Bool} {ρ : aX} {p : Int → Bool} : ∀ ns : List Int, (∀ x ∈ ns, t ((bo.non :: ρ).set 0 (.val (.int x))) = .ok (p x)) → bO (bj 0) t (af 0) (.non :: ρ) (ns.map .int) = .ok ((ns.filter p).map .int)
  | [], _ => dC ..
  | x :: ns, h => by
    rw [List.map_cons, eW, h x List.mem_cons_self, cv ns fun y hy => h y (List.mem_cons_of_mem _ hy)]
    cases hp : p x with
    | true => rw [List.filter_cons_of_pos hp]; rfl
    | false => rw [List.filter_cons_of_neg (by rw [hp]; simp)]; rfl
theorem hX (c : Nat) : bx 0 c = ((List.range c).map fun (k : Nat) => (k : Int)).map .int := by
  unfold bx
  rw [List.map_map]
  apply List.map_congr_left
  intro k _
  simp
def aF (ps : List P4) (i : Int) : List Int := (ps[i.toNat]?.map (·.ns)).getD []
theorem ly {ps : List P4} {i : Int} (h0 : 0 ≤ i) (h1 : i < ps.length) : bV (gD ps) (.int i) = .ok (ps[i.toNat]'(by omega)).d := by
  rw [wo h0 (by simpa using h1)]
  simp
theorem dY {ps : List P4} {i : Int} (h0 : 0 ≤ i) (h1 : i < ps.length) : aF ps i = (ps[i.toNat]'(by omega)).ns := by
  unfold aF
  rw [List.getElem?_eq_getElem (by omega)]
  rfl
theorem pP (p : P4) : bV p.d (.int 3) = .ok (.tuple (p.ns.map .int)) := rfl
theorem pF (p : P4) : bV p.d (.int 0) = .ok (.int p.w) := rfl
theorem ug {n c : Int} (hc0 : 0 ≤ c) (hc1 : c ≤ 24) : ∃ ns : List Int, cN [.int n, .int c] = .ok (.tuple (ns.map .int)) ∧ ns.Pairwise (· < ·) ∧ ∀ x ∈ ns, 0 ≤ x ∧ x < c := by
  have hr : nO [.int c] = .ok (bx 0 c.toNat) := by
    show (if -(2 ^ 62) ≤ c ∧ c < 2 ^ 62 then R.ok (bx 0 c.toNat) else .no) = _
    rw [if_pos (by omega)]
  have hx : ∀ k : Int, ∃ v, aT [.int n, .int k] = .ok (.int v) := fun k => let ⟨v, h, _⟩ := mW n k; ⟨v, h⟩
  obtain ⟨dr, hdr⟩ : ∃ dr : Int → Int, ∀ k, aT [.int n, .int k] = .ok (.int (dr k)) := ⟨fun k => (hx k).choose, fun k => (hx k).choose_spec⟩
  have hcmp := cv (t := vS (tE (e2 (iy) (af 1) (eC (.int 4)))) (tE (e2 (dz BI) (e2 fq (aC aT (ag (af 2) (ag (af 0) aH))) (eC (.int 4))) (af 1)))) (ρ := [.val (.int (n % 5)), .val (.int n)])
    (p := fun k => decide (n % 5 = 4) || decide (dr k % 4 < n % 5)) ((List.range c.toNat).map fun (k : Nat) => (k : Int)) fun k hk => by
      by_cases h4 : n % 5 = 4 <;> simp [fF, hdr, h4]
  rw [← hX] at hcmp
  refine ⟨((List.range c.toNat).map fun (k : Nat) => (k : Int)).filter fun k => decide (n % 5 = 4) || decide (dr k % 4 < n % 5), ?_, ?_, ?_⟩
  · unfold cN jF
    rw [eu]
    have e : aL 1 [2, 0] [.val (.int n), .val (.int c), .val (.int (n % 5))] = [.non, .val (.int (n % 5)), .val (.int n)] := rfl
    simp [List.replicate, bG, hr, dS, bZ (show c.toNat ≤ 1000 by omega), e, hcmp]
  · refine List.Pairwise.filter _ ?_
    rw [List.pairwise_map]
    exact (List.pairwise_lt_range).imp fun h => by omega
  · intro x hx
    have := (List.mem_filter.mp hx).1
    obtain ⟨k, hk, rfl⟩ := List.mem_map.mp this
    have := List.mem_range.mp hk
    omega
def ai (ps : List P4) (i : Int) : Int := (ps[i.toNat]?.map (·.w)).getD 0
theorem fY {ps : List P4} {i : Int} (h0 : 0 ≤ i) (h1 : i < ps.length) : ai ps i = (ps[i.toNat]'(by omega)).w := by
  unfold ai
  rw [List.getElem?_eq_getElem (by omega)]
  rfl
def bg (ps : List P4) (js : List Int) (i : Int) : List Int := (aF ps i).filter (cA js)
def lv (ps : List P4) (js kn : List Int) (i : Int) : List Int := (bg ps js i).filter (cA kn)
def i7 (ps : List P4) (js : List Int) (who : Int) (kn : List Int) (i : Int) : Bool :=
  !cA kn i && (decide (0 < (lv ps js kn i).length) && (decide (ai ps i = who) || decide ((lv ps js kn i).length = (bg ps js i).length)))
def eh (ps : List P4) (js : List Int) (who : Int) (kn is : List Int) : List Int := is.filter (i7 ps js who kn)
def cP (ps : List P4) (js : List Int) (who r : Int) (kvs : List (Int × Int)) : List (Int × Int) := kvs ++ (eh ps js who (kvs.map (·.1)) js).map fun i => (i, r)
def gj (ps : List P4) (js : List Int) (who : Int) : Int → Nat → List (Int × Int) → List (Int × Int)
  | _, 0, kvs => kvs
  | r, n + 1, kvs => gj ps js who (r + 1) n (cP ps js who r kvs)
theorem jq : ∀ {l m : List Int}, l.Nodup → (∀ x ∈ l, x ∈ m) → l.length ≤ m.length
  | [], m, _, _ => Nat.zero_le _
  | x :: l, m, nd, h => by
    obtain ⟨n1, n2⟩ := List.nodup_cons.mp nd
    have hx := h x List.mem_cons_self
    have := jq (m := m.erase x) n2 fun y hy => (List.mem_erase_of_ne (by rintro rfl; exact n1 hy)).mpr (h y (List.mem_cons_of_mem _ hy))
    rw [List.length_erase_of_mem hx] at this
    have hp := List.length_pos_of_mem hx
    rw [List.length_cons]
    omega
structure iI (js : List Int) (kvs : List (Int × Int)) : Prop where
  nd : (kvs.map (·.1)).Nodup
  sub : ∀ x ∈ kvs.map (·.1), x ∈ js
theorem iI.len {js : List Int} {kvs : List (Int × Int)} (h : iI js kvs) (nj : js.Nodup) : kvs.length ≤ js.length := by
  have := jq h.nd h.sub
  simpa using this
theorem jK (ps : List P4) (js : List Int) (who r : Int) (kvs : List (Int × Int)) : (cP ps js who r kvs).map (·.1) = kvs.map (·.1) ++ eh ps js who (kvs.map (·.1)) js := by
  unfold cP
  rw [List.map_append, List.map_map]
  congr 1
  exact List.map_id _
theorem ni {ps : List P4} {js : List Int} {who : Int} {kn is : List Int} {x : Int} (h : x ∈ eh ps js who kn is) : x ∈ is ∧ x ∉ kn := by
  obtain ⟨h1, h2⟩ := List.mem_filter.mp h
  refine ⟨h1, fun z => ?_⟩
  unfold i7 at h2
  rw [a9.mpr z] at h2
  simp at h2
theorem iI.round {ps : List P4} {js : List Int} {who r : Int} {kvs : List (Int × Int)} (h : iI js kvs) (nj : js.Nodup) : iI js (cP ps js who r kvs) := by
  refine ⟨?_, fun x hx => ?_⟩
  · rw [jK, List.nodup_append]
    refine ⟨h.nd, List.Pairwise.filter _ nj, fun a ha b hb e => ?_⟩
    subst e
    exact (ni hb).2 ha
  · rw [jK, List.mem_append] at hx
    rcases hx with z | z
    · exact h.sub x z
    · exact (ni z).1
theorem qM {d : PyData} (h : Bb d) : dj [d] = .ok (.bool (Cq d)) := by
  cases d <;> first | rfl | cases h
theorem me {d : PyData} (h : Bb d) (lo hi : Int) : cf [d, .int lo, .int hi] = .ok (.bool (zi d lo hi)) := by
  unfold cf hZ
  rw [eu]
  cases d with
  | int i =>
    by_cases h1 : lo ≤ i <;> by_cases h2 : i ≤ hi <;> simp [qM h, Cq, h1, h2, zi]
  | dict k => cases h
  | _ => simp [qM h, Cq, zi]
theorem oz (t : PyData) (c : Int) : ∀ (ds : List PyData) (l : Int) (x : bo), (∀ d ∈ ds, Bb d) →
    ∃ ρ, fB (bj 3) (aY (lY (jD (tE (aC cf (ag (af 3) (ag (af 2) (ag (e2 gJ (af 1) (eC (.int 1))) aH)))))) (cD (eC (.bool false))) dI) (bH 2 (e2 fh (af 3) (eC (.int 1))))) ds
      [.val t, .val (.int c), .val (.int l), x] = if lP c l ds = true then .ok (.nx ρ) else .ok (.rt (.bool false))
  | [], l, x, _ => ⟨_, by rw [fU]; rfl⟩
  | d :: ds, l, x, h => by
    have hd := h d List.mem_cons_self
    cases hb : zi d l (c - 1) with
    | false =>
      refine ⟨[], ?_⟩
      have hr : lP c l (d :: ds) = false := by
        cases d with
        | int i =>
          simp only [zi] at hb
          simp only [lP]
          rcases (Bool.and_eq_false_iff.mp hb) with z | z
          · rw [z]; rfl
          · have : decide (i < c) = false := by simp at z ⊢; omega
            rw [this]; simp
        | _ => rfl
      rw [ed, hr]
      simp [me hd, hb]
    | true =>
      cases d with
      | int i =>
        simp only [zi, Bool.and_eq_true, decide_eq_true_eq] at hb
        obtain ⟨ρ, e⟩ := oz t c ds (i + 1) (.val (.int i)) fun d hd => h d (List.mem_cons_of_mem _ hd)
        refine ⟨ρ, ?_⟩
        have hr : lP c l (.int i :: ds) = lP c (i + 1) ds := by
          simp only [lP]
          rw [decide_eq_true hb.1, decide_eq_true (show i < c by omega)]; simp
        have hb' : zi (.int i) l (c - 1) = true := by simp [zi]; omega
        rw [ed, hr, ← e]
        simp [me hd, hb']
      | _ => cases hb
theorem rb {d : PyData} (c : Int) (h : ∀ ds, d = .tuple ds → ∀ x ∈ ds, Bb x) (hd : Bb d) : bz [d, .int c] = .ok (.bool (BJ c d)) := by
  unfold bz jR
  rw [eu]
  cases d with
  | tuple ds =>
    obtain ⟨ρ, e⟩ := oz (.tuple ds) c ds 0 .non (h ds rfl)
    simp [kS, Be, gh, List.replicate]
    rw [e]
    cases lP c 0 ds <;> simp
  | dict k => cases hd
  | _ => simp [kS, Be, List.replicate]
theorem kb (ps : List P4) (js : List Int) (who : Int) : ∀ (n : Nat) (r : Int) (kvs : List (Int × Int)), gj ps js who r (n + 1) kvs = cP ps js who (r + n) (gj ps js who r n kvs)
  | 0, r, kvs => by
    show cP ps js who r kvs = cP ps js who (r + ((0 : Nat) : Int)) kvs
    simp
  | n + 1, r, kvs => by
    show gj ps js who (r + 1) (n + 1) (cP ps js who r kvs) = _
    rw [kb ps js who n (r + 1)]
    show cP ps js who (r + 1 + n) _ = cP ps js who (r + ((n + 1 : Nat) : Int)) _
    rw [show r + 1 + (n : Int) = r + ((n + 1 : Nat) : Int) by omega]
    rfl
def aK (ps : List P4) (js : List Int) (who : Int) (gs : List Int) : Nat → List Int
  | 0 => gs
  | m + 1 => aK ps js who gs m ++ eh ps js who (aK ps js who gs m) js
def u6 (ps : List P4) (js : List Int) (who : Int) (gs : List Int) (m : Nat) : List (Int × Int) := gj ps js who 1 m (gs.map fun i => (i, 0))
theorem mF (ps : List P4) (js : List Int) (who : Int) (gs : List Int) (m : Nat) : u6 ps js who gs (m + 1) = cP ps js who (m + 1) (u6 ps js who gs m) := by
  unfold u6
  rw [kb]
  congr 1
  omega
theorem eo (ps : List P4) (js : List Int) (who : Int) (gs : List Int) : ∀ m, (u6 ps js who gs m).map (·.1) = aK ps js who gs m
  | 0 => by
    show (gs.map fun i => ((i, 0) : Int × Int)).map (·.1) = gs
    rw [List.map_map]
    exact List.map_id _
  | m + 1 => by
    rw [mF, jK, eo ps js who gs m]
    rfl
def look (kvs : List (Int × Int)) (i : Int) : Option Int := (kvs.find? fun q => decide (q.1 = i)).map (·.2)
theorem lu (a b : List (Int × Int)) (i : Int) : look (a ++ b) i = (look a i).or (look b i) := by
  unfold look
  rw [List.find?_append]
  cases a.find? _ <;> rfl
theorem fP {kvs : List (Int × Int)} {i : Int} : look kvs i = none ↔ i ∉ kvs.map (·.1) := by
  unfold look
  rw [Option.map_eq_none_iff, List.find?_eq_none]
  constructor
  · intro h z
    obtain ⟨q, hq, e⟩ := List.mem_map.mp z
    exact h q hq (decide_eq_true e)
  · intro h q hq e
    exact h (List.mem_map.mpr ⟨q, hq, of_decide_eq_true e⟩)
theorem h9 (r : Int) (i : Int) : ∀ l : List Int, look (l.map fun j => (j, r)) i = if i ∈ l then some r else none
  | [] => rfl
  | j :: l => by
    have ih := h9 r i l
    unfold look at ih ⊢
    by_cases h : j = i
    · subst h
      rw [List.map_cons, List.find?_cons_of_pos (by simp)]
      simp
    · rw [List.map_cons, List.find?_cons_of_neg (by simpa using h), ih]
      by_cases h2 : i ∈ l
      · simp [h2]
      · have : ¬ (i = j) := fun z => h z.symm
        simp [h2, this]
section
variable {ps : List P4} {js : List Int} {who : Int} {gs : List Int}
theorem jf {i : Int} {k : Nat} (h : i ∈ aK ps js who gs k) : ∀ {m : Nat}, k ≤ m → i ∈ aK ps js who gs m
  | 0, hm => by have : k = 0 := by omega
                subst this; exact h
  | m + 1, hm => by
    by_cases e : k = m + 1
    · subst e; exact h
    · show i ∈ aK ps js who gs m ++ _
      exact List.mem_append_left _ (jf h (by omega))
theorem eI {i : Int} : ∀ {m : Nat} {q : Int}, look (u6 ps js who gs m) i = some q ↔ ∃ k : Nat, q = k ∧ k ≤ m ∧ i ∈ aK ps js who gs k ∧ (k = 0 ∨ i ∉ aK ps js who gs (k - 1))
  | 0, q => by
    show look (gs.map fun j => (j, 0)) i = some q ↔ _
    rw [h9]
    constructor
    · intro h
      split at h
      · rename_i hi
        cases h
        exact ⟨0, rfl, Nat.le_refl _, hi, .inl rfl⟩
      · cases h
    · rintro ⟨k, rfl, hk, hi, _⟩
      have : k = 0 := by omega
      subst this
      rw [if_pos (show i ∈ gs from hi)]
      rfl
  | m + 1, q => by
    have ih := fun q => eI (i := i) (m := m) (q := q)
    have e : u6 ps js who gs (m + 1) = u6 ps js who gs m ++ (eh ps js who (aK ps js who gs m) js).map fun j => (j, ((m + 1 : Nat) : Int)) := by
      rw [mF]
      unfold cP
      rw [eo]
      rfl
    rw [e, lu, h9]
    by_cases hi : i ∈ aK ps js who gs m
    · cases h0 : look (u6 ps js who gs m) i with
      | none => rw [fP, eo] at h0; exact (h0 hi).elim
      | some q0 =>
        rw [Option.some_or, ← h0, ih q]
        constructor
        · rintro ⟨k, a, b, c, d⟩
          exact ⟨k, a, by omega, c, d⟩
        · rintro ⟨k, a, b, c, d⟩
          refine ⟨k, a, ?_, c, d⟩
          by_cases hk : k = m + 1
          · subst hk
            rcases d with d | d
            · omega
            · exact (d hi).elim
          · omega
    · have h0 : look (u6 ps js who gs m) i = none := by rw [fP, eo]; exact hi
      rw [h0, Option.none_or]
      constructor
      · intro h
        split at h
        · rename_i hn
          cases h
          exact ⟨m + 1, rfl, Nat.le_refl _, List.mem_append_right _ hn, .inr hi⟩
        · cases h
      · rintro ⟨k, rfl, b, c, d⟩
        have hk : k = m + 1 := by
          by_cases hk : k = m + 1
          · exact hk
          · exact (hi (jf c (by omega))).elim
        subst hk
        have c' : i ∈ aK ps js who gs m ++ eh ps js who (aK ps js who gs m) js := c
        rw [if_pos ((List.mem_append.mp c').elim (fun z => (hi z).elim) id)]
theorem tf {k : Nat} (h : eh ps js who (aK ps js who gs k) js = []) : ∀ d, aK ps js who gs (k + d) = aK ps js who gs k
  | 0 => rfl
  | d + 1 => by
    show aK ps js who gs (k + d) ++ eh ps js who (aK ps js who gs (k + d)) js = _
    rw [tf h d, h, List.append_nil]
theorem pH (ng : gs.Nodup) (hg : ∀ x ∈ gs, x ∈ js) (nj : js.Nodup) : ∀ m, iI js (u6 ps js who gs m)
  | 0 => ⟨by rw [eo]; exact ng, fun x hx => by rw [eo] at hx; exact hg x hx⟩
  | m + 1 => by rw [mF]; exact (pH ng hg nj m).round nj
theorem sL (ng : gs.Nodup) (hg : ∀ x ∈ gs, x ∈ js) (nj : js.Nodup) {m : Nat} {i : Int} (h : i ∈ aK ps js who gs m) : i ∈ js := by
  have := (pH (ps := ps) (who := who) ng hg nj m).sub
  rw [eo] at this
  exact this i h
theorem zm (ng : gs.Nodup) (hg : ∀ x ∈ gs, x ∈ js) (nj : js.Nodup) (m : Nat) : (aK ps js who gs m).length ≤ js.length := by
  have := (pH (ps := ps) (who := who) ng hg nj m).len nj
  rw [← eo, List.length_map]
  exact this
theorem uz : ∀ m, (∀ k, k < m → eh ps js who (aK ps js who gs k) js ≠ []) → m + gs.length ≤ (aK ps js who gs m).length
  | 0, _ => by show 0 + gs.length ≤ gs.length; omega
  | m + 1, h => by
    have := uz m fun k hk => h k (by omega)
    have h1 := h m (by omega)
    have h2 := List.length_pos_iff.mpr h1
    show _ ≤ (aK ps js who gs m ++ eh ps js who (aK ps js who gs m) js).length
    rw [List.length_append]
    omega
theorem AE (ng : gs.Nodup) (hg : ∀ x ∈ gs, x ∈ js) (nj : js.Nodup) {n : Nat} (hn : js.length ≤ n) : eh ps js who (aK ps js who gs n) js = [] := by
  by_cases h : eh ps js who (aK ps js who gs n) js = []
  · exact h
  · have := uz (ps := ps) (js := js) (who := who) (gs := gs) (n + 1) fun k hk e => h (by
      have s := tf e (n - k)
      rw [show k + (n - k) = n by omega] at s
      rw [s]; exact e)
    have := zm (ps := ps) (who := who) ng hg nj (n + 1)
    omega
theorem eZ {α : Type} (p : α → Bool) : ∀ l : List α, (l.filter p).length = l.length ↔ ∀ x ∈ l, p x = true
  | [] => by simp
  | x :: l => by
    have ih := eZ p l
    have le := List.length_filter_le p l
    cases h : p x with
    | true => rw [List.filter_cons_of_pos h]; simp [ih, h]
    | false => rw [List.filter_cons_of_neg (by rw [h]; simp)]; simp [h]; omega
theorem mH {α : Type} (p : α → Bool) (l : List α) : 0 < (l.filter p).length ↔ ∃ x ∈ l, p x = true := by
  rw [List.length_pos_iff_exists_mem]
  simp [List.mem_filter]
theorem e9 {kn : List Int} {i : Int} : i7 ps js who kn i = true ↔ i ∉ kn ∧ (∃ g ∈ bg ps js i, g ∈ kn) ∧ (ai ps i = who ∨ ∀ g ∈ bg ps js i, g ∈ kn) := by
  unfold i7 lv
  rw [Bool.and_eq_true, Bool.and_eq_true, Bool.or_eq_true, decide_eq_true_iff, decide_eq_true_iff, decide_eq_true_iff, mH, eZ, Bool.not_eq_true', ← Bool.not_eq_true, a9]
  simp only [a9]
def rK (ps : List P4) (js : List Int) (who : Int) (gs : List Int) (i : Int) : Option Int := look (u6 ps js who gs ps.length) i
structure mB (ps : List P4) (js : List Int) (who : Int) (gs : List Int) (rk : Int → Option Int) : Prop where
  nneg : ∀ i q, rk i = some q → 0 ≤ q
  sub : ∀ i q, rk i = some q → i ∈ js
  zero : ∀ i, rk i = some 0 ↔ i ∈ gs
  own : ∀ i q, rk i = some q → 0 < q → ai ps i = who → ∃ g ∈ bg ps js i, rk g = some (q - 1)
  low : ∀ i q g t, rk i = some q → 0 < q → ai ps i = who → g ∈ bg ps js i → rk g = some t → q - 1 ≤ t
  oth : ∀ i q, rk i = some q → 0 < q → ai ps i ≠ who → (∃ g, g ∈ bg ps js i) ∧ ∀ g ∈ bg ps js i, ∃ t, rk g = some t ∧ t < q
  outO : ∀ i, i ∈ js → rk i = none → ai ps i = who → ∀ g ∈ bg ps js i, rk g = none
  outX : ∀ i, i ∈ js → rk i = none → ai ps i ≠ who → (∃ g, g ∈ bg ps js i) → ∃ g ∈ bg ps js i, rk g = none
theorem Bx (hn : js.length ≤ ps.length) {i q : Int} (h : rK ps js who gs i = some q) : q ≤ ps.length := by
  obtain ⟨k, rfl, b, _⟩ := eI.mp h
  omega
theorem jk (ng : gs.Nodup) (hg : ∀ x ∈ gs, x ∈ js) (nj : js.Nodup) (hn : js.length ≤ ps.length) : mB ps js who gs (rK ps js who gs) := by
  have ex : ∀ {i k}, i ∈ aK ps js who gs k → k ≤ ps.length → ∃ t : Nat, t ≤ k ∧ rK ps js who gs i = some (t : Int) := fun {i} => by
    intro k
    induction k with
    | zero => exact fun h _ => ⟨0, Nat.le_refl _, eI.mpr ⟨0, rfl, by omega, h, .inl rfl⟩⟩
    | succ k ih =>
      intro h hk
      by_cases h1 : i ∈ aK ps js who gs k
      · obtain ⟨t, a, b⟩ := ih h1 (by omega)
        exact ⟨t, by omega, b⟩
      · exact ⟨k + 1, Nat.le_refl _, eI.mpr ⟨k + 1, rfl, hk, h, .inr h1⟩⟩
  have nm : ∀ {i}, rK ps js who gs i = none ↔ i ∉ aK ps js who gs ps.length := fun {i} => by
    unfold rK; rw [fP, eo]
  have fix := AE (ps := ps) (who := who) ng hg nj hn
  have new : ∀ {i k}, i ∈ aK ps js who gs (k + 1) → i ∉ aK ps js who gs k → i7 ps js who (aK ps js who gs k) i = true := fun {i k} h1 h2 => by
    have h1' : i ∈ aK ps js who gs k ++ eh ps js who (aK ps js who gs k) js := h1
    rcases List.mem_append.mp h1' with z | z
    · exact (h2 z).elim
    · exact (List.mem_filter.mp z).2
  have not : ∀ {i k}, i ∈ js → i ∉ aK ps js who gs (k + 1) → ¬ i7 ps js who (aK ps js who gs k) i = true := fun {i k} h1 h2 h3 =>
    h2 (show i ∈ aK ps js who gs k ++ eh ps js who (aK ps js who gs k) js from List.mem_append_right _ (List.mem_filter.mpr ⟨h1, h3⟩))
  have pos : ∀ {i q}, rK ps js who gs i = some q → 0 < q → ∃ k : Nat, q = ((k + 1 : Nat) : Int) ∧ k + 1 ≤ ps.length ∧ i ∈ aK ps js who gs (k + 1) ∧ i ∉ aK ps js who gs k := fun {i q} h hq => by
    obtain ⟨k, rfl, b, c, d⟩ := eI.mp h
    cases k with
    | zero => omega
    | succ k =>
      rcases d with d | d
      · omega
      · exact ⟨k, rfl, b, c, d⟩
  refine ⟨fun i q h => ?_, fun i q h => ?_, fun i => ?_, fun i q h hq ho => ?_, fun i q g t h hq ho hg' ht => ?_, fun i q h hq ho => ?_, fun i hi h ho g hg' => ?_, fun i hi h ho hw => ?_⟩
  · obtain ⟨k, rfl, _⟩ := eI.mp h; omega
  · obtain ⟨k, rfl, _, c, _⟩ := eI.mp h; exact sL ng hg nj c
  · constructor
    · intro h
      obtain ⟨k, e, _, c, _⟩ := eI.mp h
      have : k = 0 := by omega
      subst this
      exact c
    · exact fun h => eI.mpr ⟨0, rfl, by omega, h, .inl rfl⟩
  · obtain ⟨k, rfl, b, c, d⟩ := pos h hq
    obtain ⟨_, ⟨g, hg1, hg2⟩, _⟩ := e9.mp (new c d)
    obtain ⟨t, ht, hr⟩ := ex hg2 (by omega)
    refine ⟨g, hg1, ?_⟩
    by_cases e : t = k
    · subst e; rw [hr]; congr 1; omega
    · exfalso
      cases k with
      | zero => omega
      | succ k =>
        obtain ⟨t', e', _, c', _⟩ := eI.mp hr
        have e'' : t = t' := by omega
        subst e''
        exact not (sL ng hg nj c) d (e9.mpr ⟨fun z => d (jf z (by omega)), ⟨g, hg1, jf c' (by omega)⟩, .inl ho⟩)
  · obtain ⟨k, rfl, b, c, d⟩ := pos h hq
    obtain ⟨t', rfl, _, c', _⟩ := eI.mp ht
    by_cases e : k ≤ t'
    · omega
    · exfalso
      cases k with
      | zero => omega
      | succ k => exact not (sL ng hg nj c) d (e9.mpr ⟨fun z => d (jf z (by omega)), ⟨g, hg', jf c' (by omega)⟩, .inl ho⟩)
  · obtain ⟨k, rfl, b, c, d⟩ := pos h hq
    obtain ⟨_, ⟨g, hg1, _⟩, o⟩ := e9.mp (new c d)
    refine ⟨⟨g, hg1⟩, fun g' hg' => ?_⟩
    obtain ⟨t, ht, hr⟩ := ex ((o.resolve_left ho) g' hg') (by omega)
    exact ⟨t, hr, by omega⟩
  · rw [nm] at h ⊢
    intro hz
    have : i ∈ eh ps js who (aK ps js who gs ps.length) js := List.mem_filter.mpr ⟨hi, e9.mpr ⟨h, ⟨g, hg', hz⟩, .inl ho⟩⟩
    rw [fix] at this
    cases this
  · rw [nm] at h
    by_cases hz : ∃ g ∈ bg ps js i, rK ps js who gs g = none
    · exact hz
    · exfalso
      have all : ∀ g ∈ bg ps js i, g ∈ aK ps js who gs ps.length := fun g hg' => by
        by_cases z : g ∈ aK ps js who gs ps.length
        · exact z
        · exact (hz ⟨g, hg', nm.mpr z⟩).elim
      obtain ⟨g, hg'⟩ := hw
      have : i ∈ eh ps js who (aK ps js who gs ps.length) js := List.mem_filter.mpr ⟨hi, e9.mpr ⟨h, ⟨g, hg', all g hg'⟩, .inr all⟩⟩
      rw [fix] at this
      cases this
end
abbrev ids (n : Nat) : List Int := (List.range n).map fun (k : Nat) => (k : Int)
theorem bY {n : Nat} {i : Int} : i ∈ ids n ↔ 0 ≤ i ∧ i < n := by
  constructor
  · intro h
    obtain ⟨k, hk, rfl⟩ := List.mem_map.mp h
    have := List.mem_range.mp hk
    omega
  · rintro ⟨h0, h1⟩
    exact List.mem_map.mpr ⟨i.toNat, List.mem_range.mpr (by omega), by omega⟩
theorem kf (n : Nat) : (ids n).length = n := by simp
theorem tq {n k : Nat} (h : k < n) : (ids n)[k]? = some (k : Int) := by
  rw [List.getElem?_map, List.getElem?_range h]; rfl
theorem zX (n : Nat) : (ids n).Pairwise (· < ·) := by
  rw [List.pairwise_map]
  exact (List.pairwise_lt_range).imp fun h => by omega
theorem vQ {l : List Int} (h : l.Pairwise (· < ·)) : l.Nodup := h.imp fun h => by omega
def cq (f : Int → PyData) (n : Nat) : List PyData := (ids n).map f
theorem bS (f : Int → PyData) (n : Nat) : (cq f n).length = n := by unfold cq; rw [List.length_map, kf]
theorem gu {f : Int → PyData} {n : Nat} {i : Int} (h0 : 0 ≤ i) (h1 : i < n) : (cq f n)[i.toNat]'(by rw [bS]; omega) = f i := by
  have h := tq (n := n) (k := i.toNat) (by omega)
  have : (cq f n)[i.toNat]? = some (f i) := by
    unfold cq
    rw [List.getElem?_map, h, Option.map_some]
    congr 2
    omega
  exact Option.some.inj ((List.getElem?_eq_getElem _).symm.trans this)
theorem tY {f : Int → PyData} {n : Nat} {i : Int} (h0 : 0 ≤ i) (h1 : i < n) : bV (.tuple (cq f n)) (.int i) = .ok (f i) := by
  rw [wo h0 (by rw [bS]; exact h1), gu h0 h1]
theorem xj {f : Int → PyData} {n : Nat} {i : Int} (h0 : 0 ≤ i) (h1 : i < n) : bV (.list (cq f n)) (.int i) = .ok (f i) := by
  rw [uy h0 (by rw [bS]; exact h1), gu h0 h1]
theorem ci {f g : Int → PyData} {n : Nat} (h : ∀ i : Int, 0 ≤ i → i < n → f i = g i) : cq f n = cq g n :=
  List.map_congr_left fun i hi => h i (bY.mp hi).1 (bY.mp hi).2
theorem l7 {f : Int → PyData} {n : Nat} {i : Int} {v : PyData} (h0 : 0 ≤ i) (h1 : i < n) : (cq f n).set i.toNat v = cq (fun j => if j = i then v else f j) n := by
  refine List.ext_getElem (by rw [List.length_set, bS, bS]) fun k hk1 hk2 => ?_
  rw [bS] at hk2
  have e := gu (f := fun j => if j = i then v else f j) (n := n) (i := (k : Int)) (by omega) (by omega)
  have e2 := gu (f := f) (n := n) (i := (k : Int)) (by omega) (by omega)
  simp only [Int.toNat_natCast] at e e2
  rw [e, List.getElem_set]
  by_cases h : i.toNat = k
  · rw [if_pos h, if_pos (by omega)]
  · rw [if_neg h, if_neg (by omega), e2]
theorem sA (f : Int → PyData) (ρ : aX) (g : Fe) (n : Nat) (h : ∀ i : Int, 0 ≤ i → i < n → g (ρ.set 0 (.val (.int i))) = .ok (f i)) : bO (bj 0) (fun _ => .ok true) g ρ (bx 0 n) = .ok (cq f n) := by
  have := gO g ρ 0 (fun d => match d with | .int i => f i | d => d) (bx 0 n) fun d hd => by
    unfold bx at hd
    obtain ⟨k, hk, rfl⟩ := List.mem_map.mp hd
    have := List.mem_range.mp hk
    exact h _ (by omega) (by omega)
  rw [this]
  unfold cq
  rw [hX, List.map_map]
  rfl
def oD : Option Int → PyData
  | none => .none
  | some k => .int k
theorem tD (o : Option Int) : ke (oD o) .none = .ok (.bool o.isSome) := by cases o <;> rfl
theorem wz (o : Option Int) : nV (oD o) .none = .ok (.bool o.isNone) := by cases o <;> rfl
def ox (k m : Nat) : List Int := (List.range m).map fun (j : Nat) => ((k + j : Nat) : Int)
theorem mr (k m : Nat) : ox k (m + 1) = (k : Int) :: ox (k + 1) m := by
  unfold ox
  rw [List.range_succ_eq_map, List.map_cons, List.map_map]
  congr 1
  apply List.map_congr_left
  intro j _
  show ((k + (j + 1) : Nat) : Int) = ((k + 1 + j : Nat) : Int)
  omega
theorem ka (n : Nat) : ox 0 n = ids n := by
  unfold ox
  apply List.map_congr_left
  intro j _
  simp
theorem iT {t : aX → R Bool} {ρ : aX} {p : Int → Bool} {g : Int → PyData} : ∀ (m k : Nat), (∀ j : Nat, k ≤ j → j < k + m → t (.val (.int j) :: .val (g j) :: ρ) = .ok (p j)) →
    bO (dH 0 1) t (af 0) (.non :: .non :: ρ) (cL k ((ox k m).map g)) = .ok (((ox k m).filter p).map .int)
  | 0, k, _ => by unfold ox; simp [cL, dC]
  | m + 1, k, h => by
    rw [mr, List.map_cons]
    have e : cL k (g k :: (ox (k + 1) m).map g) = .tuple [.int k, g k] :: cL (k + 1) ((ox (k + 1) m).map g) := rfl
    rw [e, jM, iT m (k + 1) fun j h1 h2 => h j (by omega) (by omega)]
    have hk := h k (Nat.le_refl _) (by omega)
    simp only [List.set_cons_zero, List.set_cons_succ, hk, R.ok_bind, am]
    cases hp : p k with
    | true => rw [List.filter_cons_of_pos hp]; rfl
    | false => rw [List.filter_cons_of_neg (by rw [hp]; simp)]; rfl
theorem kt (t : aX → R Bool) (g : Fs) (n : Nat) (ρ : aX) : cZ t g (n + 1) ρ = (t ρ >>= fun b => if b = true then g ρ >>= qN (cZ t g n) else .ok (.nx ρ)) := by
  rw [cZ]
  congr 1
def pY (s : PyData) (js : List Int) : Prop := s = .tuple (js.map .int) ∨ s = .list (js.map .int)
theorem pY.inn {s : PyData} {js : List Int} (h : pY s js) (neg : Bool) (k : Int) : l5 neg (.int k) s = .ok (.bool (if neg then !cA js k else cA js k)) := by
  rcases h with rfl | rfl
  · exact Ax ..
  · exact CH ..
theorem pY.seq {s : PyData} {js : List Int} (h : pY s js) : ic s = .ok (js.map .int) := by
  rcases h with rfl | rfl <;> rfl
theorem pY.len {s : PyData} {js : List Int} (h : pY s js) : cX s = .ok (.int js.length) := by
  rcases h with rfl | rfl <;> simp
theorem jp {s t : PyData} {ns js : List Int} (hs : pY s ns) (ht : pY t js) (hl : ns.length ≤ 1000) : a8 [s, t] = .ok (.tuple ((ns.filter (cA js)).map .int)) := by
  have hcmp := cv (t := tE (e2 (l5 false) (af 0) (af 1))) (ρ := [.val t]) (p := cA js) ns fun k hk => by simp [ht.inn]
  unfold a8 mX
  refine em ?_
  rw [show ([s, t].map bo.val ++ List.replicate (2 - [s, t].length) bo.non) = [.val s, .val t] from rfl]
  rw [cj, bX, bG, show aL 1 [1] [.val s, .val t] = [.non, .val t] from rfl]
  simp only [cC, am, R.ok_bind, hs.seq, cm]
  rw [if_pos (by rw [List.length_map]; exact bZ hl), hcmp]
  rfl
theorem dW {s t : PyData} {ns js : List Int} (hs : pY s ns) (ht : pY t js) (hl : ns.length ≤ 1000) : aD [s, t] = .ok (.tuple ((ns.filter fun i => !cA js i).map .int)) := by
  have hcmp := cv (t := tE (e2 (l5 true) (af 0) (af 1))) (ρ := [.val t]) (p := fun i => !cA js i) ns fun k hk => by simp [ht.inn]
  unfold aD k7
  refine em ?_
  rw [show ([s, t].map bo.val ++ List.replicate (2 - [s, t].length) bo.non) = [.val s, .val t] from rfl]
  rw [cj, bX, bG, show aL 1 [1] [.val s, .val t] = [.non, .val t] from rfl]
  simp only [cC, am, R.ok_bind, hs.seq, cm]
  rw [if_pos (by rw [List.length_map]; exact bZ hl), hcmp]
  rfl
structure bC (n : Nat) (js : List Int) : Prop where
  lt : js.Pairwise (· < ·)
  inn : ∀ x ∈ js, 0 ≤ x ∧ x < n
theorem bC.nd {n : Nat} {js : List Int} (h : bC n js) : js.Nodup := vQ h.lt
theorem bC.len {n : Nat} {js : List Int} (h : bC n js) : js.length ≤ n := by
  have := jP js 0 n h.lt h.inn
  rcases this with z | z
  · rw [z]; simp
  · omega
theorem bC.filter {n : Nat} {js : List Int} (h : bC n js) (p : Int → Bool) : bC n (js.filter p) := ⟨h.lt.filter _, fun x hx => h.inn x (List.mem_filter.mp hx).1⟩
theorem bC.ids (n : Nat) : bC n (ids n) := ⟨zX n, fun x hx => bY.mp hx⟩
def cR (ps : List P4) (js : List Int) : Prop := ∀ i ∈ js, ∃ g, g ∈ bg ps js i
theorem pC {p : P4} {ws : List Int} {who : Int} {f : Int → Option Int} {n : Nat} (hw : ∀ g ∈ ws, 0 ≤ g ∧ g < n) (hl : ws.length ≤ 1000) :
    bP [p.d, .tuple (ws.map .int), .int who, .list (cq (fun i => oD (f i)) n)] = .ok (.bool (if p.w = who then decide (0 < (ws.filter fun g => (f g).isSome).length) else decide ((ws.filter fun g => (f g).isSome).length = ws.length))) := by
  have hcmp := cv (t := tE (e2 (ke) (e2 bV (af 1) (af 0)) (eC .none))) (ρ := [.val (.list (cq (fun i => oD (f i)) n))]) (p := fun g => (f g).isSome) ws fun k hk => by
    simp only [List.set_cons_zero, cJ, bA, am, aq, bK, R.ok_bind, xj (hw k hk).1 (hw k hk).2, tD, cU]
  unfold bP iS
  refine em ?_
  rw [show ([p.d, .tuple (ws.map .int), .int who, .list (cq (fun i => oD (f i)) n)].map bo.val ++ List.replicate (5 - [p.d, .tuple (ws.map .int), .int who, .list (cq (fun i => oD (f i)) n)].length) bo.non) = [.val p.d, .val (.tuple (ws.map .int)), .val (.int who), .val (.list (cq (fun i => oD (f i)) n)), .non] from rfl]
  rw [aQ (ρ' := [.val p.d, .val (.tuple (ws.map .int)), .val (.int who), .val (.list (cq (fun i => oD (f i)) n)), .val (.list ((ws.filter fun g => (f g).isSome).map .int))]) (by
    rw [a4, bG, show aL 1 [3] [.val p.d, .val (.tuple (ws.map .int)), .val (.int who), .val (.list (cq (fun i => oD (f i)) n)), .non] = [.non, .val (.list (cq (fun i => oD (f i)) n))] from rfl]
    simp only [cC, am, aq, R.ok_bind, dN, cm]
    rw [if_pos (by rw [List.length_map]; exact bZ hl), hcmp]
    rfl)]
  by_cases h : p.w = who
  · rw [if_pos h]
    refine rX ?_
    simp only [dU, cJ, bA, bX, am, aq, bK, R.ok_bind, pF, fF, cU, h, decide_true, if_true, cj, nc, kZ, List.length_map]
    congr 3
    simp
  · rw [if_neg h, aQ (ρ' := [.val p.d, .val (.tuple (ws.map .int)), .val (.int who), .val (.list (cq (fun i => oD (f i)) n)), .val (.list ((ws.filter fun g => (f g).isSome).map .int))]) (by
      simp only [dU, cJ, bA, bX, am, aq, bK, R.ok_bind, pF, fF, cU, h, decide_false]; rfl)]
    simp only [cj, bA, bX, am, aq, R.ok_bind, nc, jZ, fF, List.length_map]
    congr 3
    exact decide_eq_decide.mpr (by omega)
theorem bC.some {n : Nat} {js : List Int} (h : bC n js) : bz [.tuple (js.map .int), .int n] = .ok (.bool true) := by
  rw [rb (d := .tuple (js.map .int)) n (fun ds e x hx => by
    cases e
    obtain ⟨i, _, rfl⟩ := List.mem_map.mp hx
    exact True.intro) True.intro]
  show R.ok (PyData.bool (lP n 0 (js.map .int))) = _
  rw [t6 n js 0 h.lt fun x hx => h.inn x hx]
theorem p7 {f : Fe} {ρ : aX} {p : Int → Bool} : ∀ ns : List Int, (∀ x ∈ ns, f ((bo.non :: ρ).set 0 (.val (.int x))) = .ok (.bool (p x))) → bO (bj 0) (fun _ => .ok true) f (.non :: ρ) (ns.map .int) = .ok (ns.map fun i => .bool (p i))
  | [], _ => dC ..
  | x :: ns, h => by
    rw [List.map_cons, eW, h x List.mem_cons_self, p7 ns fun y hy => h y (List.mem_cons_of_mem _ hy)]
    rfl
theorem oF (p : Int → Bool) : ∀ ns : List Int, D2.qp (ns.map fun i => .bool (p i)) = some (ns.all p)
  | [] => rfl
  | a :: l => by simp only [List.map_cons, D2.qp, oF p l, List.all_cons, Option.map_some]
theorem nS {ps : List P4} (hl : ∀ p ∈ ps, p.ns.length ≤ 100) {s : PyData} {js : List Int} (hs : pY s js) (hj : ∀ x ∈ js, 0 ≤ x ∧ x < ps.length) (hlen : js.length ≤ 1000) :
    bL [gD ps, s] = .ok (.bool (js.all fun i => decide (0 < (bg ps js i).length))) := by
  have hcmp := p7 (f := e2 (dz l6) (e1 cX (aC a8 (ag (e2 bV (e2 bV (af 1) (af 0)) (eC (.int 3))) (ag (af 2) aH)))) (eC (.int 0))) (ρ := [.val (gD ps), .val s]) (p := fun i => decide (0 < (bg ps js i).length)) js fun k hk => by
    have h := hj k hk
    have hg := dY h.1 h.2
    have hc := jp (s := .tuple ((aF ps k).map .int)) (ns := aF ps k) (.inl rfl) hs (by rw [hg]; have := hl _ (List.getElem_mem (show k.toNat < ps.length by omega)); omega)
    simp only [List.set_cons_zero, bA, bX, aM, aB, aP, am, aq, bK, R.ok_bind, ly h.1 h.2, pP]
    rw [← hg, hc, R.ok_bind, jZ, R.ok_bind, kZ, List.length_map]
    unfold bg
    congr 2
    simp
  unfold bL ft
  refine em ?_
  rw [show ([gD ps, s].map bo.val ++ List.replicate (2 - [gD ps, s].length) bo.non) = [.val (gD ps), .val s] from rfl]
  rw [cj, bX, bG, show aL 1 [0, 1] [.val (gD ps), .val s] = [.non, .val (gD ps), .val s] from rfl]
  simp only [cC, am, aq, R.ok_bind, hs.seq, cm]
  rw [if_pos (by rw [List.length_map]; exact bZ hlen), hcmp, kl, R.ok_bind]
  unfold vL
  simp only [oF]
  rfl
theorem uL {ps : List P4} {js : List Int} (h : cR ps js) : (js.all fun i => decide (0 < (bg ps js i).length)) = true := by
  rw [List.all_eq_true]
  intro i hi
  obtain ⟨g, hg⟩ := h i hi
  exact decide_eq_true (List.length_pos_of_mem hg)
theorem nP {ps : List P4} (hl : ∀ p ∈ ps, p.ns.length ≤ 100) (hp : ps.length ≤ 24) {js gs : List Int} (hj : bC ps.length js) (hg : bC ps.length gs) (hs : ∀ x ∈ gs, x ∈ js) (hw : cR ps js) :
    cr [gD ps, .tuple (js.map .int), .tuple (gs.map .int)] = .ok .none := by
  have h1 := hj.some
  have h2 := hg.some
  have h3 := dW (s := .tuple (gs.map .int)) (t := .tuple (js.map .int)) (.inl rfl) (.inl rfl) (by have := hg.len; omega)
  have h4 := nS hl (s := .tuple (js.map .int)) (.inl rfl) hj.inn (by have := hj.len; omega)
  rw [uL hw] at h4
  have h5 : (gs.filter fun i => !cA js i) = [] := by
    rw [List.filter_eq_nil_iff]
    intro x hx
    rw [a9.mpr (hs x hx)]
    simp
  rw [h5] at h3
  unfold cr hR
  rw [eu]
  rw [show ([gD ps, .tuple (js.map .int), .tuple (gs.map .int)].map bo.val ++ List.replicate (3 - [gD ps, .tuple (js.map .int), .tuple (gs.map .int)].length) bo.non) = [.val (gD ps), .val (.tuple (js.map .int)), .val (.tuple (gs.map .int))] from rfl]
  have hlen : cX (gD ps) = .ok (.int ps.length) := by simp
  rw [aQ (ρ' := [.val (gD ps), .val (.tuple (js.map .int)), .val (.tuple (gs.map .int))]) (by simp only [dU, km, cJ, aM, aB, aP, bX, am, aq, R.ok_bind, hlen, h1, cU]; rfl)]
  rw [aQ (ρ' := [.val (gD ps), .val (.tuple (js.map .int)), .val (.tuple (gs.map .int))]) (by simp only [dU, km, cJ, aM, aB, aP, bX, am, aq, R.ok_bind, hlen, h2, cU]; rfl)]
  rw [aQ (ρ' := [.val (gD ps), .val (.tuple (js.map .int)), .val (.tuple (gs.map .int))]) (by simp only [dU, cJ, bA, aM, aB, aP, bX, bK, am, aq, R.ok_bind, h3]; rfl)]
  simp only [dU, km, cJ, aM, aB, aP, bX, am, aq, R.ok_bind, h4, cU]
  rfl
theorem zk {c : Int} (h0 : 0 ≤ c) (h1 : c ≤ 1000) : nO [.int c] = .ok (bx 0 c.toNat) := by
  show (if -(2 ^ 62) ≤ c ∧ c < 2 ^ 62 then R.ok (bx 0 c.toNat) else .no) = _
  rw [if_pos (by omega)]
def tu : Fs := (aY (su 6 (fun a b => a + b) (eC (.int 1))) (aY (bH 8 (cc (eX (af 1)) 1 [5] (bj 0) (tE (e2 (nV) (e2 bV (fT 1) (af 0)) (eC .none))) (af 0))) (aY (bH 7 (cc (eX (af 8)) 1 [0, 4, 2, 5] (bj 0) (tE (jB 4 (aC bP (ag (e2 bV (af 1) (af 0)) (ag (e2 bV (af 2) (af 0)) (ag (af 3) (ag (af 4) aH))))))) (af 0))) (iO (kx (eX (af 7)) (bj 9) (gm 5 (af 9) (af 6)))))))
abbrev kE (ps : List P4) (js : List Int) : PyData := .list (cq (fun i => .tuple ((bg ps js i).map .int)) ps.length)
abbrev wc (kvs : List (Int × Int)) (n : Nat) : List PyData := cq (fun i => oD (look kvs i)) n
abbrev tR (ps : List P4) (s : PyData) (js : List Int) (who : Int) (g : PyData) (kvs : List (Int × Int)) (r : Int) (fs : List Int) (c8 c9 : bo) : aX :=
  [.val (gD ps), .val s, .val (.int who), .val g, .val (kE ps js), .own (.list (wc kvs ps.length)), .val (.int r), .val (.list (fs.map .int)), c8, c9]
theorem wq {kvs : List (Int × Int)} {i r : Int} (h : i ∉ kvs.map (·.1)) (j : Int) : look (kvs ++ [(i, r)]) j = if j = i then some r else look kvs j := by
  rw [lu]
  by_cases e : j = i
  · subst e
    rw [if_pos rfl, fP.mpr h, Option.none_or]
    unfold look
    simp
  · rw [if_neg e]
    have : look [(i, r)] j = none := by
      unfold look
      have : ¬ i = j := fun z => e z.symm
      simp [this]
    rw [this, Option.or_none]
theorem yX {ps : List P4} {s : PyData} {js : List Int} {who : Int} {g : PyData} {r : Int} {fs0 : List Int} {c8 : bo} : ∀ (fs : List Int) (kvs : List (Int × Int)) (c9 : bo), fs.Nodup → (∀ x ∈ fs, x ∉ kvs.map (·.1)) → (∀ x ∈ fs, 0 ≤ x ∧ x < ps.length) →
    ∃ c9', fB (bj 9) (gm 5 (af 9) (af 6)) (fs.map .int) (tR ps s js who g kvs r fs0 c8 c9) = .ok (.nx (tR ps s js who g (kvs ++ fs.map fun i => (i, r)) r fs0 c8 c9'))
  | [], kvs, c9, _, _, _ => ⟨c9, by rw [List.map_nil, fU]; simp⟩
  | i :: fs, kvs, c9, nd, hn, hb => by
    obtain ⟨n1, n2⟩ := List.nodup_cons.mp nd
    have hi := hb i List.mem_cons_self
    obtain ⟨c9', e⟩ := yX (ps := ps) (s := s) (js := js) (who := who) (g := g) (r := r) (fs0 := fs0) (c8 := c8) fs (kvs ++ [(i, r)]) (.val (.int i)) n2 (fun x hx => by
      rw [List.map_append, List.mem_append]
      rintro (z | z)
      · exact hn x (List.mem_cons_of_mem _ hx) z
      · simp at z
        subst z
        exact n1 hx) fun x hx => hb x (List.mem_cons_of_mem _ hx)
    refine ⟨c9', ?_⟩
    rw [List.map_cons, ed]
    rw [show ((tR ps s js who g kvs r fs0 c8 c9).set 9 (.val (.int i))) = tR ps s js who g kvs r fs0 c8 (.val (.int i)) from rfl]
    rw [lX (ds := wc kvs ps.length) (n := i) (v := .int r) rfl rfl rfl hi.1 (by rw [bS]; exact hi.2), R.ok_bind, ez, l7 hi.1 hi.2]
    rw [ci (g := fun j => oD (look (kvs ++ [(i, r)]) j)) fun j _ _ => by
      rw [wq (hn i List.mem_cons_self)]
      split <;> rfl]
    refine Eq.trans ?_ (e.trans (by simp))
    rfl
theorem mU {kvs : List (Int × Int)} {i : Int} : (look kvs i).isNone = !cA (kvs.map (·.1)) i := by
  cases h : cA (kvs.map (·.1)) i with
  | true =>
    cases h2 : look kvs i with
    | none => exact (fP.mp h2 (a9.mp h)).elim
    | some q => rfl
  | false =>
    rw [fP.mpr fun z => by rw [a9.mpr z] at h; cases h]
    rfl
theorem rq {kvs : List (Int × Int)} {i : Int} : (look kvs i).isSome = cA (kvs.map (·.1)) i := by
  have := mU (kvs := kvs) (i := i)
  cases h : look kvs i <;> rw [h] at this <;> cases h2 : cA (kvs.map (·.1)) i <;> rw [h2] at this <;> simp_all
theorem qH {ps : List P4} {js : List Int} {who : Int} {kn : List Int} {i : Int} (hw : ∃ g, g ∈ bg ps js i) :
    (!cA kn i && (if ai ps i = who then decide (0 < (lv ps js kn i).length) else decide ((lv ps js kn i).length = (bg ps js i).length))) = i7 ps js who kn i := by
  obtain ⟨g, hg⟩ := hw
  have hp := List.length_pos_of_mem hg
  unfold i7
  by_cases ho : ai ps i = who
  · simp [ho]
  · by_cases he : (lv ps js kn i).length = (bg ps js i).length
    · simp [ho, he, hp]
    · simp [ho, he]
theorem vD {ps : List P4} (hl : ∀ p ∈ ps, p.ns.length ≤ 100) (hgo : ∀ p ∈ ps, ∀ x ∈ p.ns, 0 ≤ x ∧ x < ps.length) (hp : ps.length ≤ 24) {s : PyData} {js : List Int} (hs : pY s js) (hj : bC ps.length js) (hw : cR ps js) {who : Int} {g : PyData} {kvs : List (Int × Int)} {r : Int} {fs : List Int} (c8 c9 : bo) :
    ∃ c8' c9', tu (tR ps s js who g kvs r fs c8 c9) = .ok (.nx (tR ps s js who g (cP ps js who (r + 1) kvs) (r + 1) (eh ps js who (kvs.map (·.1)) js) c8' c9')) := by
  have hlen := hj.len
  have h1 := cv (t := tE (e2 (nV) (e2 bV (fT 1) (af 0)) (eC .none))) (ρ := [.own (.list (wc kvs ps.length))]) (p := fun i => !cA (kvs.map (·.1)) i) js fun k hk => by
    simp only [List.set_cons_zero, cJ, bA, am, pA, pk, bK, R.ok_bind, xj (hj.inn k hk).1 (hj.inn k hk).2, wz, cU, mU]
  have h2 := cv (t := tE (jB 4 (aC bP (ag (e2 bV (af 1) (af 0)) (ag (e2 bV (af 2) (af 0)) (ag (af 3) (ag (af 4) aH))))))) (ρ := [.val (gD ps), .val (kE ps js), .val (.int who), .own (.list (wc kvs ps.length))])
    (p := i7 ps js who (kvs.map (·.1))) (js.filter fun i => !cA (kvs.map (·.1)) i) fun k hk => by
    obtain ⟨hkj, hkn⟩ := List.mem_filter.mp hk
    have hb := hj.inn k hkj
    have hg := dY hb.1 hb.2
    have hwl : (bg ps js k).length ≤ 1000 := by
      refine Nat.le_trans (List.length_filter_le ..) ?_
      rw [hg]
      have := hl _ (List.getElem_mem (show k.toNat < ps.length by omega))
      omega
    have hwb : ∀ x ∈ bg ps js k, 0 ≤ x ∧ x < ps.length := fun x hx => by
      have := (List.mem_filter.mp hx).1
      rw [hg] at this
      exact hgo _ (List.getElem_mem _) x this
    have hf := pC (p := ps[k.toNat]'(by omega)) (who := who) (f := look kvs) hwb hwl
    have ho := fY hb.1 hb.2
    have hgk : ((bg ps js k).filter fun g => (look kvs g).isSome) = lv ps js (kvs.map (·.1)) k := by
      unfold lv
      congr 1
      funext g
      exact rq
    rw [hgk, ← ho] at hf
    have e4 : jB 4 (aC bP (ag (e2 bV (af 1) (af 0)) (ag (e2 bV (af 2) (af 0)) (ag (af 3) (ag (af 4) aH))))) [.val (.int k), .val (gD ps), .val (kE ps js), .val (.int who), .own (.list (wc kvs ps.length))]
      = (lh (aC bP (ag (e2 bV (af 1) (af 0)) (ag (e2 bV (af 2) (af 0)) (ag (af 3) (ag (af 4) aH)))) [.val (.int k), .val (gD ps), .val (kE ps js), .val (.int who), .val (.list (wc kvs ps.length))]) >>= om) := rfl
    have hc := qH (who := who) (kn := kvs.map (·.1)) (hw k hkj)
    rw [hkn, Bool.true_and] at hc
    rw [List.set_cons_zero, cJ, e4, aM]
    simp only [aB, aP, bA, am, aq, R.ok_bind, ly hb.1 hb.2, xj hb.1 hb.2]
    rw [hf, hc]
    rfl
  have hfil : (js.filter fun i => !cA (kvs.map (·.1)) i).filter (i7 ps js who (kvs.map (·.1))) = eh ps js who (kvs.map (·.1)) js := by
    unfold eh
    rw [List.filter_filter]
    apply List.filter_congr
    intro x _
    unfold i7
    cases cA (kvs.map (·.1)) x <;> simp
  rw [hfil] at h2
  have hnew : bC ps.length (eh ps js who (kvs.map (·.1)) js) := hj.filter _
  obtain ⟨c9', e⟩ := yX (ps := ps) (s := s) (js := js) (who := who) (g := g) (r := r + 1) (fs0 := eh ps js who (kvs.map (·.1)) js) (c8 := .val (.list ((js.filter fun i => !cA (kvs.map (·.1)) i).map .int))) (eh ps js who (kvs.map (·.1)) js) kvs c9 hnew.nd (fun x hx => (ni hx).2) hnew.inn
  refine ⟨.val (.list ((js.filter fun i => !cA (kvs.map (·.1)) i).map .int)), c9', ?_⟩
  unfold tu
  rw [aQ (ρ' := tR ps s js who g kvs (r + 1) fs c8 c9) (by simp only [xR, aq, am, bK, R.ok_bind, Bc]; rfl)]
  rw [aQ (ρ' := tR ps s js who g kvs (r + 1) fs (.val (.list ((js.filter fun i => !cA (kvs.map (·.1)) i).map .int))) c9) (by
    rw [a4, bG, show aL 1 [5] (tR ps s js who g kvs (r + 1) fs c8 c9) = [.non, .own (.list (wc kvs ps.length))] from rfl]
    simp only [cC, aq, am, R.ok_bind, hs.seq, cm]
    rw [if_pos (by rw [List.length_map]; exact bZ (by omega)), h1]
    rfl)]
  rw [aQ (ρ' := tR ps s js who g kvs (r + 1) (eh ps js who (kvs.map (·.1)) js) (.val (.list ((js.filter fun i => !cA (kvs.map (·.1)) i).map .int))) c9) (by
    rw [a4, bG, show aL 1 [0, 4, 2, 5] (tR ps s js who g kvs (r + 1) fs (.val (.list ((js.filter fun i => !cA (kvs.map (·.1)) i).map .int))) c9) = [.non, .val (gD ps), .val (kE ps js), .val (.int who), .own (.list (wc kvs ps.length))] from rfl]
    simp only [cC, aq, am, R.ok_bind, sB, cm]
    rw [if_pos (by rw [List.length_map]; exact bZ (Nat.le_trans (List.length_filter_le ..) (by omega))), h2]
    rfl)]
  rw [fI, gh, cC, aq, aq, aq, aq, aq, aq, aq, am, R.ok_bind, sB, R.ok_bind, e]
  rfl
theorem ej {ps : List P4} {js : List Int} {who : Int} {kvs : List (Int × Int)} (h : eh ps js who (kvs.map (·.1)) js = []) : ∀ (n : Nat) (r : Int), gj ps js who r n kvs = kvs
  | 0, r => rfl
  | n + 1, r => by
    show gj ps js who (r + 1) n (cP ps js who r kvs) = kvs
    have : cP ps js who r kvs = kvs := by unfold cP; rw [h]; simp
    rw [this, ej h n]
theorem yM {ps : List P4} (hl : ∀ p ∈ ps, p.ns.length ≤ 100) (hgo : ∀ p ∈ ps, ∀ x ∈ p.ns, 0 ≤ x ∧ x < ps.length) (hp : ps.length ≤ 24) {s : PyData} {js : List Int} (hs : pY s js) (hj : bC ps.length js) (hw : cR ps js) {who : Int} {g : PyData} :
    ∀ (k n : Nat) (kvs : List (Int × Int)) (r : Int) (fs : List Int) (c8 c9 : bo), iI js kvs → js.length - kvs.length ≤ k → (fs = [] → eh ps js who (kvs.map (·.1)) js = []) → k + 3 ≤ n →
    ∃ K r' fs' c8' c9', cZ (tE (e2 (dz l6) (e1 cX (af 7)) (eC (.int 0)))) tu n (tR ps s js who g kvs r fs c8 c9) = .ok (.nx (tR ps s js who g K r' fs' c8' c9')) ∧ ∀ N, k + 1 ≤ N → gj ps js who (r + 1) N kvs = K
  | k, 0, kvs, r, fs, c8, c9, _, _, _, h => by omega
  | k, n + 1, kvs, r, fs, c8, c9, hk, hm, hf, hn => by
    rw [kt]
    have ht : tE (e2 (dz l6) (e1 cX (af 7)) (eC (.int 0))) (tR ps s js who g kvs r fs c8 c9) = .ok (decide (0 < fs.length)) := by
      simp only [cJ, bA, bX, aq, am, bK, R.ok_bind, nc, kZ, cU, List.length_map]
      congr 1
      simp
    rw [ht, R.ok_bind]
    by_cases h0 : fs = []
    · have hs0 := hf h0
      subst h0
      exact ⟨kvs, r, [], c8, c9, rfl, fun N _ => ej hs0 N _⟩
    · rw [if_pos (decide_eq_true (List.length_pos_iff.mpr h0))]
      obtain ⟨c8', c9', e⟩ := vD hl hgo hp hs hj hw (who := who) (g := g) (kvs := kvs) (r := r) (fs := fs) c8 c9
      rw [e, R.ok_bind, ez]
      by_cases h1 : eh ps js who (kvs.map (·.1)) js = []
      · have w1 : cP ps js who (r + 1) kvs = kvs := by unfold cP; rw [h1]; simp
        rw [h1, w1]
        refine ⟨kvs, r + 1, [], c8', c9', ?_, fun N _ => ej h1 N _⟩
        cases n with
        | zero => omega
        | succ n =>
          rw [kt]
          have ht2 : tE (e2 (dz l6) (e1 cX (af 7)) (eC (.int 0))) (tR ps s js who g kvs (r + 1) [] c8' c9') = .ok false := rfl
          rw [ht2, R.ok_bind]
          rfl
      · have hk' := hk.round (ps := ps) (who := who) (r := r + 1) hj.nd
        have hkl := hk'.len hj.nd
        have hgrow : kvs.length + 1 ≤ (cP ps js who (r + 1) kvs).length := by
          unfold cP
          rw [List.length_append, List.length_map]
          have := List.length_pos_iff.mpr h1
          omega
        obtain ⟨K, r', fs', d8, d9, w2, w3⟩ := yM hl hgo hp hs hj hw (who := who) (g := g) (k - 1) n (cP ps js who (r + 1) kvs) (r + 1) (eh ps js who (kvs.map (·.1)) js) c8' c9' hk' (by omega) (fun z => (h1 z).elim) (by omega)
        refine ⟨K, r', fs', d8, d9, w2, fun N hN => ?_⟩
        cases N with
        | zero => omega
        | succ N => exact w3 N (by omega)
theorem e8 {ps : List P4} (hl : ∀ p ∈ ps, p.ns.length ≤ 100) (hgo : ∀ p ∈ ps, ∀ x ∈ p.ns, 0 ≤ x ∧ x < ps.length) (hp : ps.length ≤ 24) {s g : PyData} {js gs : List Int} (hs : pY s js) (hsg : pY g gs) (hj : bC ps.length js) (hg : bC ps.length gs) (hsub : ∀ x ∈ gs, x ∈ js) (hw : cR ps js) {who : Int} :
    aW [gD ps, s, .int who, g] = .ok (.tuple (cq (fun i => oD (rK ps js who gs i)) ps.length)) := by
  have hlen := hj.len
  have hglen := hg.len
  have hgj : gs.length ≤ js.length := jq hg.nd hsub
  have hk0 : iI js (gs.map fun i => ((i, 0) : Int × Int)) := by
    have e : (gs.map fun i => ((i, 0) : Int × Int)).map (·.1) = gs := by rw [List.map_map]; exact List.map_id _
    exact ⟨by rw [e]; exact hg.nd, by rw [e]; exact hsub⟩
  have hk0e : (gs.map fun i => ((i, 0) : Int × Int)).map (·.1) = gs := by rw [List.map_map]; exact List.map_id _
  obtain ⟨K, r', fs', d8, d9, w2, w3⟩ := yM hl hgo hp hs hj hw (who := who) (g := g) (js.length - gs.length) 1000000 (gs.map fun i => (i, 0)) 0 gs .non .non hk0 (by rw [List.length_map]; exact Nat.le_refl _) (fun z => by
    rw [hk0e, z]
    unfold eh
    rw [List.filter_eq_nil_iff]
    intro i _
    rw [e9]
    rintro ⟨_, ⟨g, _, hz⟩, _⟩
    cases hz) (by omega)
  have hK : K = u6 ps js who gs ps.length := by
    by_cases h0 : gs = []
    · subst h0
      have hz : eh ps js who (([] : List (Int × Int)).map (·.1)) js = [] := by
        unfold eh
        rw [List.filter_eq_nil_iff]
        intro i _
        rw [e9]
        rintro ⟨_, ⟨g, _, hz⟩, _⟩
        cases hz
      have e4 := w3 (js.length - 0 + 1) (Nat.le_refl _)
      rw [List.map_nil, ej hz] at e4
      rw [← e4]
      unfold u6
      rw [List.map_nil, ej hz]
    · have := List.length_pos_iff.mpr h0
      have e4 := w3 ps.length (by omega)
      rw [← e4]
      rfl
  have hways : bO (bj 0) (fun _ => .ok true) (aC a8 (ag (e2 bV (af 0) (eC (.int 3))) (ag (af 1) aH))) [.non, .val s] (ps.map P4.d) = .ok (cq (fun i => .tuple ((bg ps js i).map .int)) ps.length) := by
    have go : ∀ qs : List P4, (∀ p ∈ qs, p.ns.length ≤ 100) → bO (bj 0) (fun _ => .ok true) (aC a8 (ag (e2 bV (af 0) (eC (.int 3))) (ag (af 1) aH))) [.non, .val s] (qs.map P4.d) = .ok (qs.map fun p => .tuple ((p.ns.filter (cA js)).map .int)) := by
      intro qs
      induction qs with
      | nil => exact fun _ => dC ..
      | cons p qs ih =>
        intro h
        have hc := jp (s := .tuple (p.ns.map .int)) (ns := p.ns) (.inl rfl) hs (by have := h p List.mem_cons_self; omega)
        rw [List.map_cons, eW, ih fun q hq => h q (List.mem_cons_of_mem _ hq)]
        simp only [R.ok_bind, if_true, List.set_cons_zero, aM, aB, aP, bA, am, aq, bK, pP, hc]
        rfl
    rw [go ps hl]
    congr 1
    refine List.ext_getElem (by rw [List.length_map, bS]) fun k h1 h2 => ?_
    rw [bS] at h2
    have e := gu (f := fun i => .tuple ((bg ps js i).map .int)) (n := ps.length) (i := (k : Int)) (by omega) (by omega)
    simp only [Int.toNat_natCast] at e
    rw [e, List.getElem_map]
    unfold bg
    rw [dY (by omega) (by omega)]
    simp
  have hinit : bO (bj 0) (fun _ => .ok true) (yB (tE (e2 (l5 false) (af 0) (af 1))) (eC (.int 0)) (eC .none)) [.non, .val g] (bx 0 ps.length) = .ok (wc (gs.map fun i => (i, 0)) ps.length) :=
    sA _ _ _ _ fun i h0 h1 => by
      simp only [List.set_cons_zero, rz, cJ, bA, am, aq, bK, R.ok_bind, hsg.inn, cU, h9]
      cases hm : cA gs i with
      | true => rw [if_pos (a9.mp hm)]; rfl
      | false => rw [if_neg (show ¬ i ∈ gs from fun z => by rw [a9.mpr z] at hm; cases hm)]; rfl
  have hr : nO [.int (ps.length : Int)] = .ok (bx 0 ps.length) := by
    rw [zk (by omega) (by omega), Int.toNat_natCast]
  have hlst : n9 g = .ok (.list (gs.map .int)) := by rcases hsg with rfl | rfl <;> rfl
  unfold aW jL
  refine em ?_
  rw [show ([gD ps, s, .int who, g].map bo.val ++ List.replicate (10 - [gD ps, s, .int who, g].length) bo.non) = [.val (gD ps), .val s, .val (.int who), .val g, .non, .non, .non, .non, .non, .non] from rfl]
  rw [aQ (ρ' := [.val (gD ps), .val s, .val (.int who), .val g, .val (kE ps js), .non, .non, .non, .non, .non]) (by
    rw [a4, bG, show aL 1 [1] [.val (gD ps), .val s, .val (.int who), .val g, .non, .non, .non, .non, .non, .non] = [.non, .val s] from rfl]
    simp only [cC, am, R.ok_bind, dN, cm]
    rw [if_pos (by rw [List.length_map]; exact bZ (by omega)), hways]
    rfl)]
  rw [aQ (ρ' := [.val (gD ps), .val s, .val (.int who), .val g, .val (kE ps js), .own (.list (wc (gs.map fun i => (i, 0)) ps.length)), .non, .non, .non, .non]) (by
    rw [ma, bG, show aL 1 [3] [.val (gD ps), .val s, .val (.int who), .val g, .val (kE ps js), .non, .non, .non, .non, .non] = [.non, .val g] from rfl]
    simp only [nY, aB, aP, bX, am, R.ok_bind, jZ, List.length_map, hr, cm]
    rw [if_pos (by rw [dS]; exact bZ (by omega)), hinit]
    rfl)]
  rw [aQ (ρ' := [.val (gD ps), .val s, .val (.int who), .val g, .val (kE ps js), .own (.list (wc (gs.map fun i => (i, 0)) ps.length)), .val (.int 0), .non, .non, .non]) (by rfl)]
  rw [aQ (ρ' := tR ps s js who g (gs.map fun i => (i, 0)) 0 gs .non .non) (by
    simp only [a4, bX, aq, am, R.ok_bind, hlst]
    rfl)]
  rw [aQ (ρ' := tR ps s js who g K r' fs' d8 d9) (by
    rw [fI]
    show lh (cZ (tE (e2 (dz l6) (e1 cX (af 7)) (eC (.int 0)))) tu 1000000 _) = _
    rw [w2]
    rfl)]
  rw [hK]
  rfl
def cI (f : Int → Option Int) (n : Nat) : List Int := (ids n).filter fun i => (f i).isSome
theorem jV (f : Int → Option Int) (n : Nat) : bC n (cI f n) := (bC.ids n).filter _
theorem cW {f : Int → Option Int} {n : Nat} {i : Int} : i ∈ cI f n ↔ (0 ≤ i ∧ i < n) ∧ ∃ q, f i = some q := by
  unfold cI
  rw [List.mem_filter, bY, Option.isSome_iff_exists]
abbrev oT (f : Int → Option Int) (n : Nat) : PyData := .tuple (cq (fun i => oD (f i)) n)
theorem fQ {f : Int → Option Int} {n : Nat} (hn : n ≤ 1000) : a7 [oT f n] = .ok (.tuple ((cI f n).map .int)) := by
  have hc := iT (t := tE (e2 (ke) (af 1) (eC .none))) (ρ := []) (p := fun i => (f i).isSome) (g := fun i => oD (f i)) n 0 fun j _ _ => by
    simp only [cJ, bA, aq, am, bK, R.ok_bind, tD, cU]
  rw [ka] at hc
  unfold a7 mx
  refine em ?_
  rw [show ([oT f n].map bo.val ++ List.replicate (1 - [oT f n].length) bo.non) = [.val (oT f n)] from rfl]
  rw [cj, bX, bG, show aL 2 [] [.val (oT f n)] = [.non, .non] from rfl]
  simp only [iZ, am, R.ok_bind, dN, cm]
  rw [if_pos (by rw [eQ, bS]; exact bZ hn)]
  rw [show cL 0 (cq (fun i => oD (f i)) n) = cL 0 ((ids n).map fun i => oD (f i)) from rfl, hc]
  rfl
theorem tN (o : Option Int) (k : Int) : iy (oD o) (.int k) = .ok (.bool (decide (o = some k))) := by
  cases o with
  | none => rfl
  | some q =>
    show iy (.int q) (.int k) = _
    rw [fF]
    congr 2
    simp
def fD (ps : List P4) (who : Int) (f : Int → Option Int) (i : Int) : Option Int := match f i with
  | some q => if ai ps i = who ∧ 0 < q then ((aF ps i).filter fun g => decide (f g = some (q - 1))).head? else none
  | none => none
def uv : Fs := (lY (ou (tE (e2 (iy) (e2 bV (e2 bV (af 0) (af 4)) (eC (.int 0))) (af 1))) (tE (e2 (dz l6) (e2 bV (af 2) (af 4)) (eC (.int 0))))) (gm 3 (af 4) (e2 bV (cc (eX (e2 bV (e2 bV (af 0) (af 4)) (eC (.int 3)))) 1 [2, 4] (bj 0) (tE (e2 (iy) (e2 bV (af 1) (af 0)) (e2 gJ (e2 bV (af 1) (af 2)) (eC (.int 1))))) (af 0)) (eC (.int 0)))) dI)
structure Gr (ps : List P4) : Prop where
  hl : ∀ p ∈ ps, p.ns.length ≤ 100
  hgo : ∀ p ∈ ps, ∀ x ∈ p.ns, 0 ≤ x ∧ x < ps.length
  hp : ps.length ≤ 24
  lt : ∀ p ∈ ps, p.ns.Pairwise (· < ·)
  ne : ∀ p ∈ ps, p.ns ≠ []
theorem Gr.goals {ps : List P4} (G : Gr ps) {i x : Int} (h : x ∈ aF ps i) : 0 ≤ x ∧ x < ps.length := by
  unfold aF at h
  cases e : ps[i.toNat]? with
  | none => rw [e] at h; cases h
  | some p => rw [e] at h; exact G.hgo p (List.mem_of_getElem? e) x h
theorem Gr.glen {ps : List P4} (G : Gr ps) (i : Int) : (aF ps i).length ≤ 100 := by
  unfold aF
  cases e : ps[i.toNat]? with
  | none => simp
  | some p => exact G.hl p (List.mem_of_getElem? e)
theorem Gr.glt {ps : List P4} (G : Gr ps) (i : Int) : (aF ps i).Pairwise (· < ·) := by
  unfold aF
  cases e : ps[i.toNat]? with
  | none => exact .nil
  | some p => exact G.lt p (List.mem_of_getElem? e)
theorem wp {ps : List P4} (G : Gr ps) {who : Int} {f : Int → Option Int} (hne : ∀ i q, f i = some q → 0 < q → ai ps i = who → ∃ g ∈ aF ps i, f g = some (q - 1)) : ∀ (is : List Int) (h : Int → PyData) (c4 : bo), is.Nodup → (∀ x ∈ is, (0 ≤ x ∧ x < ps.length) ∧ (∃ q, f x = some q) ∧ h x = .none) →
    ∃ c4', fB (bj 4) uv (is.map .int) [.val (gD ps), .val (.int who), .val (oT f ps.length), .own (.list (cq h ps.length)), c4] = .ok (.nx [.val (gD ps), .val (.int who), .val (oT f ps.length), .own (.list (cq (fun j => if j ∈ is then oD (fD ps who f j) else h j) ps.length)), c4'])
  | [], h, c4, _, _ => ⟨c4, by rw [List.map_nil, fU]; simp⟩
  | i :: is, h, c4, nd, hb => by
    obtain ⟨n1, n2⟩ := List.nodup_cons.mp nd
    obtain ⟨hi, ⟨q, hq⟩, hh⟩ := hb i List.mem_cons_self
    have ho := fY hi.1 hi.2
    have hg := dY hi.1 hi.2
    obtain ⟨c4', e⟩ := wp G hne is (fun j => if j = i then oD (fD ps who f i) else h j) (.val (.int i)) n2 (fun x hx => ⟨(hb x (List.mem_cons_of_mem _ hx)).1, (hb x (List.mem_cons_of_mem _ hx)).2.1, by
      have : x ≠ i := by rintro rfl; exact n1 hx
      show (if x = i then _ else h x) = _
      rw [if_neg this]
      exact (hb x (List.mem_cons_of_mem _ hx)).2.2⟩)
    refine ⟨c4', ?_⟩
    have fin : cq (fun j => if j ∈ is then oD (fD ps who f j) else (fun j => if j = i then oD (fD ps who f i) else h j) j) ps.length = cq (fun j => if j ∈ i :: is then oD (fD ps who f j) else h j) ps.length := ci fun j _ _ => by
      by_cases h1 : j = i
      · subst h1
        simp [n1]
      · by_cases h2 : j ∈ is <;> simp [h1, h2]
    rw [fin] at e
    rw [← e, List.map_cons, ed, show (([.val (gD ps), .val (.int who), .val (oT f ps.length), .own (.list (cq h ps.length)), c4] : aX).set 4 (.val (.int i))) = [.val (gD ps), .val (.int who), .val (oT f ps.length), .own (.list (cq h ps.length)), .val (.int i)] from rfl]
    have ht : (ou (tE (e2 (iy) (e2 bV (e2 bV (af 0) (af 4)) (eC (.int 0))) (af 1))) (tE (e2 (dz l6) (e2 bV (af 2) (af 4)) (eC (.int 0))))) [.val (gD ps), .val (.int who), .val (oT f ps.length), .own (.list (cq h ps.length)), .val (.int i)] = .ok (decide (ai ps i = who ∧ 0 < q)) := by
      have hrk : bV (oT f ps.length) (.int i) = .ok (.int q) := by rw [tY hi.1 hi.2, hq]; rfl
      simp only [wT, cJ, bA, am, aq, bK, R.ok_bind, ly hi.1 hi.2, pF, fF, cU, hrk, kZ]
      rw [← ho]
      by_cases h1 : ai ps i = who
      · by_cases h2 : 0 < q <;> simp [h1, h2]
      · simp [h1]
    have hb1 : uv [.val (gD ps), .val (.int who), .val (oT f ps.length), .own (.list (cq h ps.length)), .val (.int i)] = .ok (.nx [.val (gD ps), .val (.int who), .val (oT f ps.length), .own (.list (cq (fun j => if j = i then oD (fD ps who f i) else h j) ps.length)), .val (.int i)]) := by
      unfold uv
      rw [dU, ht, R.ok_bind]
      by_cases hc : ai ps i = who ∧ 0 < q
      · rw [if_pos (decide_eq_true hc)]
        have hcmp := cv (t := tE (e2 (iy) (e2 bV (af 1) (af 0)) (e2 gJ (e2 bV (af 1) (af 2)) (eC (.int 1))))) (ρ := [.val (oT f ps.length), .val (.int i)]) (p := fun g => decide (f g = some (q - 1))) (aF ps i) fun k hk => by
          have hkb := G.goals hk
          have hrk : bV (oT f ps.length) (.int i) = .ok (.int q) := by rw [tY hi.1 hi.2, hq]; rfl
          simp only [List.set_cons_zero, cJ, bA, am, aq, bK, R.ok_bind, tY hkb.1 hkb.2, hrk, kO, tN, cU]
        obtain ⟨g, hg1, hg2⟩ := hne i q hq hc.2 hc.1
        have hm : fD ps who f i = ((aF ps i).filter fun g => decide (f g = some (q - 1))).head? := by
          unfold fD
          rw [hq]
          exact if_pos hc
        have hmem : g ∈ (aF ps i).filter fun g => decide (f g = some (q - 1)) := List.mem_filter.mpr ⟨hg1, decide_eq_true hg2⟩
        cases hL : (aF ps i).filter fun g => decide (f g = some (q - 1)) with
        | nil => rw [hL] at hmem; cases hmem
        | cons v r =>
          rw [hL] at hm hcmp
          rw [lX (ds := cq h ps.length) (n := i) (v := .int v) rfl rfl ?_ hi.1 (by rw [bS]; exact hi.2), l7 hi.1 hi.2, hm]
          · rfl
          · rw [bA, bG, show aL 1 [2, 4] [.val (gD ps), .val (.int who), .val (oT f ps.length), .own (.list (cq h ps.length)), .val (.int i)] = [.non, .val (oT f ps.length), .val (.int i)] from rfl]
            simp only [cC, bA, am, aq, bK, R.ok_bind, ly hi.1 hi.2, pP, dN, cm]
            rw [← hg, if_pos (by rw [List.length_map]; exact bZ (by have := G.glen i; omega)), hcmp, kl, R.ok_bind, uy (by omega) (by simp)]
            rfl
      · rw [if_neg (by rw [decide_eq_true_iff]; exact hc)]
        have hm : fD ps who f i = none := by
          unfold fD
          rw [hq]
          exact if_neg hc
        rw [qk, hm]
        congr 3
        rw [ci fun j _ _ => ?_]
        by_cases h1 : j = i
        · subst h1; rw [if_pos rfl, hh]; rfl
        · rw [if_neg h1]
    rw [hb1, R.ok_bind, ez]
theorem dE {ps : List P4} (G : Gr ps) {who : Int} {f : Int → Option Int} (hne : ∀ i q, f i = some q → 0 < q → ai ps i = who → ∃ g ∈ aF ps i, f g = some (q - 1)) :
    aN [gD ps, .int who, oT f ps.length] = .ok (oT (fD ps who f) ps.length) := by
  have hp := G.hp
  have h0 : bO (bj 0) (fun _ => .ok true) (eC .none) [.non] (cq (fun i => oD (f i)) ps.length) = .ok (cq (fun _ => .none) ps.length) := by
    have := gO (eC .none) [.non] 0 (fun _ => .none) (cq (fun i => oD (f i)) ps.length) fun d _ => rfl
    rw [this]
    unfold cq
    rw [List.map_map]
    rfl
  obtain ⟨c4, e⟩ := wp G hne (cI f ps.length) (fun _ => .none) .non (jV f ps.length).nd fun x hx => ⟨(cW.mp hx).1, (cW.mp hx).2, rfl⟩
  have fin : cq (fun j => if j ∈ cI f ps.length then oD (fD ps who f j) else .none) ps.length = cq (fun j => oD (fD ps who f j)) ps.length := ci fun j h1 h2 => by
    by_cases h : j ∈ cI f ps.length
    · rw [if_pos h]
    · rw [if_neg h]
      have : f j = none := by
        cases hf : f j with
        | none => rfl
        | some q => exact (h (cW.mpr ⟨⟨h1, h2⟩, q, hf⟩)).elim
      unfold fD
      rw [this]
      rfl
  rw [fin] at e
  unfold aN fx
  refine em ?_
  rw [show ([gD ps, .int who, oT f ps.length].map bo.val ++ List.replicate (5 - [gD ps, .int who, oT f ps.length].length) bo.non) = [.val (gD ps), .val (.int who), .val (oT f ps.length), .non, .non] from rfl]
  rw [aQ (ρ' := [.val (gD ps), .val (.int who), .val (oT f ps.length), .own (.list (cq (fun _ => .none) ps.length)), .non]) (by
    rw [ma, bG, show aL 1 [] [.val (gD ps), .val (.int who), .val (oT f ps.length), .non, .non] = [.non] from rfl]
    simp only [cC, am, aq, R.ok_bind, dN, cm]
    rw [if_pos (by rw [bS]; exact bZ (by omega)), h0]
    rfl)]
  rw [aQ (ρ' := [.val (gD ps), .val (.int who), .val (oT f ps.length), .own (.list (cq (fun j => oD (fD ps who f j)) ps.length)), c4]) (by
    rw [fI, gh, cC]
    simp only [aM, aB, aP, am, aq, R.ok_bind, fQ (show ps.length ≤ 1000 by omega), dN]
    unfold uv at e
    rw [e]
    rfl)]
  rfl
theorem fX {ps : List P4} {js : List Int} {who : Int} {gs : List Int} {rk : Int → Option Int} (A : mB ps js who gs rk) : ∀ i q, rk i = some q → 0 < q → ai ps i = who → ∃ g ∈ aF ps i, rk g = some (q - 1) := fun i q h1 h2 h3 => by
  obtain ⟨g, hg, e⟩ := A.own i q h1 h2 h3
  exact ⟨g, (List.mem_filter.mp hg).1, e⟩
theorem wX {d : PyData} (hg : iH d) (hd : d.depth ≤ 60) : iy d d = .ok (.bool true) := by
  unfold iy
  rw [if_pos (by unfold rZ; rw [hg]; simp; exact hd), PySem.SeqAt.eqv_refl d hg]
theorem vN {d : PyData} (hg : iH d) (hd : d.depth ≤ 60) : zE d d = .ok (.bool false) := by
  unfold zE
  rw [if_pos (by unfold rZ; rw [hg]; simp; exact hd), PySem.SeqAt.eqv_refl d hg]
  rfl
def rH : List PyData → Prop := fun ds => ∀ x ∈ ds, iH x ∧ x.depth = 0
theorem rH.dep : ∀ {ds : List PyData}, rH ds → PyData.depthAll ds = 0
  | [], _ => by simp [PyData.depthAll]
  | d :: ds, h => by simp [PyData.depthAll, (h d List.mem_cons_self).2, rH.dep fun x hx => h x (List.mem_cons_of_mem _ hx)]
theorem rH.good {ds : List PyData} (h : rH ds) : iH (.tuple ds) := rj.mpr fun x hx => (h x hx).1
theorem uc (o : Option Int) : iH (oD o) ∧ (oD o).depth = 0 := by
  cases o
  · exact ⟨uT, by simp [oD, PyData.depth]⟩
  · exact ⟨rc _, by simp [oD, PyData.depth]⟩
theorem qS (f : Int → Option Int) (n : Nat) : rH (cq (fun i => oD (f i)) n) := fun x hx => by
  obtain ⟨i, _, rfl⟩ := List.mem_map.mp hx
  exact uc _
theorem n8 (ns : List Int) : rH (ns.map .int) := fun x hx => by
  obtain ⟨i, _, rfl⟩ := List.mem_map.mp hx
  exact uc (some i)
theorem yx (f : Int → Option Int) (n : Nat) : iH (oT f n) := (qS f n).good
theorem wj (f : Int → Option Int) (n : Nat) : (oT f n).depth = 1 := by simp [PyData.depth, (qS f n).dep]
theorem xQ (ns : List Int) : iH (.tuple (ns.map .int)) := (n8 ns).good
theorem xm (ns : List Int) : (PyData.tuple (ns.map .int)).depth = 1 := by simp [PyData.depth, (n8 ns).dep]
theorem AV {ps : List P4} {hi : Int} (hp : ∀ p ∈ ps, Pl ps.length hi p) (h24 : (ps.length : Int) ≤ 24) : Gr ps :=
  ⟨fun p h => by have := (hp p h).len; omega, fun p h => (hp p h).inn, by omega, fun p h => (hp p h).so, fun p h => (hp p h).ne⟩
theorem Gr.gne {ps : List P4} (G : Gr ps) {i : Int} (h0 : 0 ≤ i) (h1 : i < ps.length) : ∃ g, g ∈ aF ps i := by
  have := G.ne _ (List.getElem_mem (show i.toNat < ps.length by omega))
  rw [← dY h0 h1] at this
  exact List.exists_mem_of_ne_nil _ this
theorem ji {ps : List P4} (G : Gr ps) : cR ps (ids ps.length) := fun i hi => by
  obtain ⟨h0, h1⟩ := bY.mp hi
  obtain ⟨g, hg⟩ := G.gne h0 h1
  exact ⟨g, List.mem_filter.mpr ⟨hg, a9.mpr (bY.mpr (G.goals hg))⟩⟩
theorem ls {n : Nat} (h : n ≤ 1000) : AR .tuple [.int (n : Int)] = .ok (.tuple ((ids n).map .int)) := by
  rw [A5 (by omega) (by omega), hX]
  rfl
def bD (js : List Int) (some : List Int) : List Int := js.filter fun i => !cA some i
theorem aV {js some : List Int} {i : Int} : i ∈ bD js some ↔ i ∈ js ∧ i ∉ some := by
  unfold bD
  rw [List.mem_filter, Bool.not_eq_true', ← Bool.not_eq_true, a9]
theorem lw {ps : List P4} (hp : ps.length ≤ 1000) : bN [gD ps] = .ok (.tuple (cq (fun _ => .none) ps.length)) := by
  have h0 : bO (bj 0) (fun _ => .ok true) (eC .none) [.non] (ps.map P4.d) = .ok (cq (fun _ => .none) ps.length) := by
    have := gO (eC .none) [.non] 0 (fun _ => .none) (ps.map P4.d) fun d _ => rfl
    rw [this]
    congr 1
    refine List.ext_getElem (by rw [List.length_map, List.length_map, bS]) fun k h1 h2 => ?_
    rw [bS] at h2
    have e := gu (f := fun _ => .none) (n := ps.length) (i := (k : Int)) (by omega) (by omega)
    simp only [Int.toNat_natCast] at e
    rw [e, List.getElem_map]
  unfold bN jN
  refine em ?_
  rw [show ([gD ps].map bo.val ++ List.replicate (1 - [gD ps].length) bo.non) = [.val (gD ps)] from rfl]
  rw [cj, bX, bG, show aL 1 [] [.val (gD ps)] = [.non] from rfl]
  simp only [cC, am, R.ok_bind, dN, cm]
  rw [if_pos (by rw [List.length_map]; exact bZ hp), h0]
  rfl
def bI (ps : List P4) (who : Int) (part : List Int) (i : Int) : Option Int := if i ∈ part ∧ ai ps i = who then (bg ps part i).head? else none
def tz : Fs := (lY (tE (e2 (iy) (e2 bV (e2 bV (af 0) (af 4)) (eC (.int 0))) (af 1))) (gm 3 (af 4) (e2 bV (aC a8 (ag (e2 bV (e2 bV (af 0) (af 4)) (eC (.int 3))) (ag (af 2) aH))) (eC (.int 0)))) dI)
theorem wN {ps : List P4} (G : Gr ps) {who : Int} {s : PyData} {part : List Int} (hs : pY s part) (hj : bC ps.length part) (hne : ∀ i ∈ part, ai ps i = who → ∃ g, g ∈ bg ps part i) : ∀ (is : List Int) (h : Int → PyData) (c4 : bo), is.Nodup → (∀ x ∈ is, x ∈ part ∧ h x = .none) →
    ∃ c4', fB (bj 4) tz (is.map .int) [.val (gD ps), .val (.int who), .val s, .own (.list (cq h ps.length)), c4] = .ok (.nx [.val (gD ps), .val (.int who), .val s, .own (.list (cq (fun j => if j ∈ is then oD (bI ps who part j) else h j) ps.length)), c4'])
  | [], h, c4, _, _ => ⟨c4, by rw [List.map_nil, fU]; simp⟩
  | i :: is, h, c4, nd, hb => by
    obtain ⟨n1, n2⟩ := List.nodup_cons.mp nd
    obtain ⟨hip, hh⟩ := hb i List.mem_cons_self
    have hi := hj.inn i hip
    have ho := fY hi.1 hi.2
    have hg := dY hi.1 hi.2
    obtain ⟨c4', e⟩ := wN G hs hj hne is (fun j => if j = i then oD (bI ps who part i) else h j) (.val (.int i)) n2 (fun x hx => ⟨(hb x (List.mem_cons_of_mem _ hx)).1, by
      have : x ≠ i := by rintro rfl; exact n1 hx
      show (if x = i then _ else h x) = _
      rw [if_neg this]
      exact (hb x (List.mem_cons_of_mem _ hx)).2⟩)
    refine ⟨c4', ?_⟩
    have fin : cq (fun j => if j ∈ is then oD (bI ps who part j) else (fun j => if j = i then oD (bI ps who part i) else h j) j) ps.length = cq (fun j => if j ∈ i :: is then oD (bI ps who part j) else h j) ps.length := ci fun j _ _ => by
      by_cases h1 : j = i
      · subst h1
        simp [n1]
      · by_cases h2 : j ∈ is <;> simp [h1, h2]
    rw [fin] at e
    rw [← e, List.map_cons, ed, show (([.val (gD ps), .val (.int who), .val s, .own (.list (cq h ps.length)), c4] : aX).set 4 (.val (.int i))) = [.val (gD ps), .val (.int who), .val s, .own (.list (cq h ps.length)), .val (.int i)] from rfl]
    have ht : (tE (e2 (iy) (e2 bV (e2 bV (af 0) (af 4)) (eC (.int 0))) (af 1))) [.val (gD ps), .val (.int who), .val s, .own (.list (cq h ps.length)), .val (.int i)] = .ok (decide (ai ps i = who)) := by
      simp only [cJ, bA, am, aq, bK, R.ok_bind, ly hi.1 hi.2, pF, fF, cU]
      rw [← ho]
    have hb1 : tz [.val (gD ps), .val (.int who), .val s, .own (.list (cq h ps.length)), .val (.int i)] = .ok (.nx [.val (gD ps), .val (.int who), .val s, .own (.list (cq (fun j => if j = i then oD (bI ps who part i) else h j) ps.length)), .val (.int i)]) := by
      unfold tz
      rw [dU, ht, R.ok_bind]
      by_cases hc : ai ps i = who
      · rw [if_pos (decide_eq_true hc)]
        have hcm := jp (s := .tuple ((aF ps i).map .int)) (ns := aF ps i) (.inl rfl) hs (by have := G.glen i; omega)
        obtain ⟨g, hg1⟩ := hne i hip hc
        have hm : bI ps who part i = (bg ps part i).head? := if_pos ⟨hip, hc⟩
        have hw : (aF ps i).filter (cA part) = bg ps part i := rfl
        rw [hw] at hcm
        cases hL : bg ps part i with
        | nil => rw [hL] at hg1; cases hg1
        | cons v r =>
          rw [hL] at hm hcm
          rw [lX (ds := cq h ps.length) (n := i) (v := .int v) rfl rfl ?_ hi.1 (by rw [bS]; exact hi.2), l7 hi.1 hi.2, hm]
          · rfl
          · simp only [bA, aM, aB, aP, am, aq, bK, R.ok_bind, ly hi.1 hi.2, pP]
            rw [← hg, hcm, R.ok_bind, wo (by omega) (by simp)]
            rfl
      · rw [if_neg (by rw [decide_eq_true_iff]; exact hc)]
        have hm : bI ps who part i = none := if_neg fun z => hc z.2
        rw [qk, hm]
        congr 3
        rw [ci fun j _ _ => ?_]
        by_cases h1 : j = i
        · subst h1; rw [if_pos rfl, hh]; rfl
        · rw [if_neg h1]
    rw [hb1, R.ok_bind, ez]
theorem dA {ps : List P4} (G : Gr ps) {who : Int} {s : PyData} {part : List Int} (hs : pY s part) (hj : bC ps.length part) (hne : ∀ i ∈ part, ai ps i = who → ∃ g, g ∈ bg ps part i) :
    aA [gD ps, .int who, s] = .ok (oT (bI ps who part) ps.length) := by
  have hp := G.hp
  have hn := lw (ps := ps) (by omega)
  obtain ⟨c4, e⟩ := wN G hs hj hne part (fun _ => .none) .non hj.nd fun x hx => ⟨hx, rfl⟩
  have fin : cq (fun j => if j ∈ part then oD (bI ps who part j) else .none) ps.length = cq (fun j => oD (bI ps who part j)) ps.length := ci fun j h1 h2 => by
    by_cases h : j ∈ part
    · rw [if_pos h]
    · rw [if_neg h]
      have : bI ps who part j = none := if_neg fun z => h z.1
      rw [this]
      rfl
  rw [fin] at e
  unfold aA fy
  refine em ?_
  rw [show ([gD ps, .int who, s].map bo.val ++ List.replicate (5 - [gD ps, .int who, s].length) bo.non) = [.val (gD ps), .val (.int who), .val s, .non, .non] from rfl]
  rw [aQ (ρ' := [.val (gD ps), .val (.int who), .val s, .own (.list (cq (fun _ => .none) ps.length)), .non]) (by
    simp only [ma, bX, aM, aB, aP, am, R.ok_bind, hn, yG]
    rfl)]
  rw [aQ (ρ' := [.val (gD ps), .val (.int who), .val s, .own (.list (cq (fun j => oD (bI ps who part j)) ps.length)), c4]) (by
    rw [fI, gh, cC]
    simp only [am, aq, R.ok_bind, hs.seq]
    unfold tz at e
    rw [e]
    rfl)]
  rfl
def dh (ps : List P4) (js : List Int) (who : Int) (some : List Int) : List Int := bD js (cI (rK ps js (1 - who) (bD js some)) ps.length)
theorem lb {ps : List P4} {js : List Int} (hj : bC ps.length js) {who : Int} {some : List Int} {i : Int} : i ∈ dh ps js who some ↔ i ∈ js ∧ rK ps js (1 - who) (bD js some) i = none := by
  unfold dh
  rw [aV, cW]
  constructor
  · rintro ⟨h1, h2⟩
    refine ⟨h1, ?_⟩
    cases h : rK ps js (1 - who) (bD js some) i with
    | none => rfl
    | some q => exact (h2 ⟨hj.inn i h1, q, h⟩).elim
  · rintro ⟨h1, h2⟩
    refine ⟨h1, ?_⟩
    rintro ⟨_, q, hq⟩
    rw [h2] at hq
    cases hq
theorem uX {ps : List P4} {js : List Int} (hj : bC ps.length js) (who : Int) (some : List Int) : bC ps.length (dh ps js who some) := hj.filter _
theorem oM {ps : List P4} {js : List Int} (hj : bC ps.length js) (hw : cR ps js) {who : Int} {some : List Int} {i : Int} (hi : i ∈ dh ps js who some) (ho : ai ps i = who) : ∃ g, g ∈ bg ps (dh ps js who some) i := by
  have hr : bC ps.length (bD js some) := hj.filter _
  have A := jk (ps := ps) (who := 1 - who) hr.nd (fun x hx => (aV.mp hx).1) hj.nd hj.len
  obtain ⟨h1, h2⟩ := (lb hj).mp hi
  obtain ⟨g, g1, g2⟩ := A.outX i h1 h2 (by omega) (hw i h1)
  obtain ⟨g3, g4⟩ := List.mem_filter.mp g1
  exact ⟨g, List.mem_filter.mpr ⟨g3, a9.mpr ((lb hj).mpr ⟨a9.mp g4, g2⟩)⟩⟩
theorem yd {ps : List P4} (G : Gr ps) {js gs : List Int} (hj : bC ps.length js) (hg : bC ps.length gs) (hsub : ∀ x ∈ gs, x ∈ js) (hw : cR ps js) {who : Int} :
    hJ [gD ps, .tuple (js.map .int), .int who, .tuple (gs.map .int)] = .ok (.tuple [.tuple ((dh ps js who gs).map .int), oT (bI ps who (dh ps js who gs)) ps.length]) := by
  have hp := G.hp
  have hjl := hj.len
  have hr : bC ps.length (bD js gs) := hj.filter _
  have h1 := nP G.hl G.hp hj hg hsub hw
  have h0 := dW (s := .tuple (js.map .int)) (t := .tuple (gs.map .int)) (.inl rfl) (.inl rfl) (by omega)
  have h2 := e8 G.hl G.hgo G.hp (s := .tuple (js.map .int)) (g := .tuple ((bD js gs).map .int)) (.inl rfl) (.inl rfl) hj hr (fun x hx => (aV.mp hx).1) hw (who := 1 - who)
  have h3 := fQ (f := rK ps js (1 - who) (bD js gs)) (n := ps.length) (by omega)
  have h4 := dW (s := .tuple (js.map .int)) (t := .tuple ((cI (rK ps js (1 - who) (bD js gs)) ps.length).map .int)) (.inl rfl) (.inl rfl) (by omega)
  have h5 := dA G (who := who) (s := .tuple ((dh ps js who gs).map .int)) (.inl rfl) (uX hj who gs) fun i hi ho => oM hj hw hi ho
  unfold hJ rR
  refine em ?_
  rw [show ([gD ps, .tuple (js.map .int), .int who, .tuple (gs.map .int)].map bo.val ++ List.replicate (6 - [gD ps, .tuple (js.map .int), .int who, .tuple (gs.map .int)].length) bo.non) = [.val (gD ps), .val (.tuple (js.map .int)), .val (.int who), .val (.tuple (gs.map .int)), .non, .non] from rfl]
  rw [aQ (ρ' := [.val (gD ps), .val (.tuple (js.map .int)), .val (.int who), .val (.tuple (gs.map .int)), .non, .non]) (by
    simp only [vC, aM, aB, aP, am, aq, R.ok_bind, h1])]
  rw [aQ (ρ' := [.val (gD ps), .val (.tuple (js.map .int)), .val (.int who), .val (.tuple (gs.map .int)), .val (oT (rK ps js (1 - who) (bD js gs)) ps.length), .non]) (by
    simp only [a4, aM, aB, aP, bA, bK, am, aq, R.ok_bind, kO, h0]
    rw [show (js.filter fun i => !cA gs i) = bD js gs from rfl, h2]
    rfl)]
  rw [aQ (ρ' := [.val (gD ps), .val (.tuple (js.map .int)), .val (.int who), .val (.tuple (gs.map .int)), .val (oT (rK ps js (1 - who) (bD js gs)) ps.length), .val (.tuple ((dh ps js who gs).map .int))]) (by
    simp only [a4, aM, aB, aP, am, aq, R.ok_bind, h3, h4]
    rfl)]
  simp only [cj, jn, aM, aB, aP, am, aq, R.ok_bind, h5]
  rfl
structure Sh where
  w : Int
  pl : List Int
  mv : Int → Option Int
abbrev xu : List Str := ["who", "places", "moves"]
def fL (c : Addr) (n : Nat) (s : Sh) : PyData := wW c xu [.int s.w, .tuple (s.pl.map .int), oT s.mv n]
theorem rT (c : Addr) (n : Nat) (s : Sh) : fL c n s = .dict [(.none, .int c), (.str "who", .int s.w), (.str "places", .tuple (s.pl.map .int)), (.str "moves", oT s.mv n)] := rfl
theorem yo (c : Addr) (n : Nat) (s : Sh) : iB c "who" (fL c n s) = .ok (.int s.w) := by
  rw [rT]
  show (if (c : Int) = (c : Int) then (if ("who" : Str) = "who" then R.ok _ else _) else .no) = _
  rw [if_pos rfl, if_pos rfl]
theorem jH (c : Addr) (n : Nat) (s : Sh) : iB c "places" (fL c n s) = .ok (.tuple (s.pl.map .int)) := by
  rw [rT]
  show (if (c : Int) = (c : Int) then (if ("who" : Str) = "places" then _ else if ("places" : Str) = "places" then R.ok _ else _) else .no) = _
  rw [if_pos rfl, if_neg (by decide +kernel), if_pos rfl]
theorem uD (c : Addr) (n : Nat) (s : Sh) : iB c "moves" (fL c n s) = .ok (oT s.mv n) := by
  rw [rT]
  show (if (c : Int) = (c : Int) then (if ("who" : Str) = "moves" then _ else if ("places" : Str) = "moves" then _ else if ("moves" : Str) = "moves" then R.ok _ else _) else .no) = _
  rw [if_pos rfl, if_neg (by decide +kernel), if_neg (by decide +kernel), if_pos rfl]
theorem xt {f g h : Int → PyData} {n : Nat} {fe : Fe} {ρ : aX} (hh : ∀ i : Int, 0 ≤ i → i < n → fe (.val (f i) :: .val (g i) :: ρ) = .ok (h i)) : bO (dH 0 1) (fun _ => .ok true) fe (.non :: .non :: ρ) (lB (cq f n) (cq g n)) = .ok (cq h n) := by
  have go : ∀ is : List Int, (∀ i ∈ is, 0 ≤ i ∧ i < n) → bO (dH 0 1) (fun _ => .ok true) fe (.non :: .non :: ρ) (lB (is.map f) (is.map g)) = .ok (is.map h) := by
    intro is
    induction is with
    | nil => intro _; unfold lB; simp [dC]
    | cons i is ih =>
      intro hb
      have e : lB ((i :: is).map f) ((i :: is).map g) = .tuple [f i, g i] :: lB (is.map f) (is.map g) := rfl
      rw [e, jM, ih fun x hx => hb x (List.mem_cons_of_mem _ hx)]
      have := hh i (hb i List.mem_cons_self).1 (hb i List.mem_cons_self).2
      simp only [R.ok_bind, if_true, List.set_cons_zero, List.set_cons_succ, this]
      rfl
  exact go (ids n) fun i hi => bY.mp hi
def bp (f g : Int → Option Int) (i : Int) : Option Int := (f i).or (g i)
theorem jd {f g : Int → Option Int} {n : Nat} (hn : n ≤ 1000) : ar [oT f n, oT g n] = .ok (oT (bp f g) n) := by
  have hc := xt (f := fun i => oD (f i)) (g := fun i => oD (g i)) (h := fun i => oD (bp f g i)) (n := n) (ρ := []) (fe := yB (tE (e2 (nV) (af 0) (eC .none))) (af 1) (af 0)) fun i _ _ => by
    simp only [rz, cJ, bA, am, aq, bK, R.ok_bind, wz, cU]
    unfold bp
    cases f i <;> rfl
  unfold ar fA
  refine em ?_
  rw [show ([oT f n, oT g n].map bo.val ++ List.replicate (2 - [oT f n, oT g n].length) bo.non) = [.val (oT f n), .val (oT g n)] from rfl]
  rw [cj, bX, bG, show aL 2 [] [.val (oT f n), .val (oT g n)] = [.non, .non] from rfl]
  simp only [yE, am, aq, R.ok_bind, dN, cm]
  rw [if_pos (by rw [mf, bS, bS, Nat.min_self]; exact bZ hn), hc]
  rfl
theorem jE {ps : List P4} (hp : ps.length ≤ 1000) : br [gD ps] = .ok (.tuple ((ids ps.length).map .int)) := by
  have hrt := ls (n := ps.length) hp
  have hlen : cX (gD ps) = .ok (.int ps.length) := by simp
  unfold br gY
  refine em ?_
  rw [show ([gD ps].map bo.val ++ List.replicate (1 - [gD ps].length) bo.non) = [.val (gD ps)] from rfl]
  simp only [cj, qG, aB, aP, bX, am, R.ok_bind, hlen, hrt]
def vp (s : Sh) (f : Int → Option Int) (i : Int) : Option Int := if i ∈ s.pl then some s.w else f i
def gL : (Int → Option Int) → List Sh → Int → Option Int
  | f, [] => f
  | f, s :: l => gL (vp s f) l
def kQ : (Int → Option Int) → List Sh → Int → Option Int
  | f, [] => f
  | f, s :: l => kQ (bp f s.mv) l
theorem v7 {c : Addr} {n : Nat} {a b m : PyData} {s : Sh} : ∀ (is : List Int) (f : Int → Option Int) (c5 : bo), (∀ x ∈ is, 0 ≤ x ∧ x < n) →
    ∃ c5', fB (bj 5) (gm 2 (af 5) (e1 (iB c "who") (af 4))) (is.map .int) [.val a, .val b, .own (.list (cq (fun i => oD (f i)) n)), .val m, .val (fL c n s), c5] = .ok (.nx [.val a, .val b, .own (.list (cq (fun i => oD (if i ∈ is then some s.w else f i)) n)), .val m, .val (fL c n s), c5'])
  | [], f, c5, _ => ⟨c5, by rw [List.map_nil, fU]; simp⟩
  | i :: is, f, c5, hb => by
    obtain ⟨h0, h1⟩ := hb i List.mem_cons_self
    obtain ⟨c5', e⟩ := v7 (c := c) (n := n) (a := a) (b := b) (m := m) (s := s) is (fun j => if j = i then some s.w else f j) (.val (.int i)) fun x hx => hb x (List.mem_cons_of_mem _ hx)
    refine ⟨c5', ?_⟩
    rw [List.map_cons, ed]
    rw [show (([.val a, .val b, .own (.list (cq (fun i => oD (f i)) n)), .val m, .val (fL c n s), c5] : aX).set 5 (.val (.int i))) = [.val a, .val b, .own (.list (cq (fun i => oD (f i)) n)), .val m, .val (fL c n s), .val (.int i)] from rfl]
    rw [lX (ds := cq (fun i => oD (f i)) n) (n := i) (v := .int s.w) rfl rfl (by simp only [bX, aq, am, R.ok_bind, yo]) h0 (by rw [bS]; exact h1), R.ok_bind, ez, l7 h0 h1]
    have ht : cq (fun j => if j = i then PyData.int s.w else oD (f j)) n = cq (fun j => oD (if j = i then some s.w else f j)) n := ci fun j _ _ => by split <;> rfl
    have ht2 : cq (fun j => oD (if j ∈ is then some s.w else if j = i then some s.w else f j)) n = cq (fun j => oD (if j ∈ i :: is then some s.w else f j)) n := ci fun j _ _ => by
      by_cases z1 : j ∈ is
      · simp [z1]
      · by_cases z2 : j = i <;> simp [z1, z2]
    rw [ht, ← ht2]
    exact e
def pJ (c : Addr) : Fs := (aY (iO (kx (eX (e1 (iB c "places") (af 4))) (bj 5) (gm 2 (af 5) (e1 (iB c "who") (af 4))))) (bH 3 (aC ar (ag (af 3) (ag (e1 (iB c "moves") (af 4)) aH)))))
theorem t5 {c : Addr} {n : Nat} (hn : n ≤ 1000) {a b : PyData} : ∀ (l : List Sh) (f m : Int → Option Int) (c4 c5 : bo), (∀ s ∈ l, ∀ x ∈ s.pl, 0 ≤ x ∧ x < n) →
    ∃ c4' c5', fB (bj 4) (pJ c) (l.map (fL c n)) [.val a, .val b, .own (.list (cq (fun i => oD (f i)) n)), .val (oT m n), c4, c5] = .ok (.nx [.val a, .val b, .own (.list (cq (fun i => oD (gL f l i)) n)), .val (oT (kQ m l) n), c4', c5'])
  | [], f, m, c4, c5, _ => ⟨c4, c5, by rw [List.map_nil, fU]; rfl⟩
  | s :: l, f, m, c4, c5, hb => by
    obtain ⟨d5, e1⟩ := v7 (c := c) (n := n) (a := a) (b := b) (m := oT m n) (s := s) s.pl f c5 (hb s List.mem_cons_self)
    obtain ⟨c4', c5', e⟩ := t5 (c := c) hn (a := a) (b := b) l (vp s f) (bp m s.mv) (.val (fL c n s)) d5 fun t ht => hb t (List.mem_cons_of_mem _ ht)
    refine ⟨c4', c5', ?_⟩
    rw [List.map_cons, ed]
    rw [show (([.val a, .val b, .own (.list (cq (fun i => oD (f i)) n)), .val (oT m n), c4, c5] : aX).set 4 (.val (fL c n s))) = [.val a, .val b, .own (.list (cq (fun i => oD (f i)) n)), .val (oT m n), .val (fL c n s), c5] from rfl]
    have hb1 : pJ c [.val a, .val b, .own (.list (cq (fun i => oD (f i)) n)), .val (oT m n), .val (fL c n s), c5] = .ok (.nx [.val a, .val b, .own (.list (cq (fun i => oD (vp s f i)) n)), .val (oT (bp m s.mv) n), .val (fL c n s), d5]) := by
      unfold pJ
      rw [aQ (ρ' := [.val a, .val b, .own (.list (cq (fun i => oD (vp s f i)) n)), .val (oT m n), .val (fL c n s), d5]) (by
        rw [fI, gh, cC, bX]
        simp only [aq, am, R.ok_bind, jH, dN]
        rw [e1]
        rfl)]
      simp only [a4, aM, aB, aP, bX, aq, am, R.ok_bind, uD, jd hn]
      rfl
    rw [hb1, R.ok_bind, ez, e]
    rfl
theorem za {ps : List P4} (hp : ps.length ≤ 1000) {c : Addr} {l : List Sh} (hb : ∀ s ∈ l, ∀ x ∈ s.pl, 0 ≤ x ∧ x < ps.length) :
    aI c [gD ps, .list (l.map (fL c ps.length))] = .ok (.tuple [oT (gL (fun _ => none) l) ps.length, oT (kQ (fun _ => none) l) ps.length]) := by
  obtain ⟨c4, c5, e⟩ := t5 (c := c) hp (a := gD ps) (b := .list (l.map (fL c ps.length))) l (fun _ => none) (fun _ => none) .non .non hb
  have h0 : bO (bj 0) (fun _ => .ok true) (eC .none) [.non] (ps.map P4.d) = .ok (cq (fun _ => oD none) ps.length) := by
    have := gO (eC .none) [.non] 0 (fun _ => .none) (ps.map P4.d) fun d _ => rfl
    rw [this]
    congr 1
    refine List.ext_getElem (by rw [List.length_map, List.length_map, bS]) fun k h1 h2 => ?_
    rw [bS] at h2
    have e := gu (f := fun _ => oD none) (n := ps.length) (i := (k : Int)) (by omega) (by omega)
    simp only [Int.toNat_natCast] at e
    rw [e, List.getElem_map]
    rfl
  have hn := lw (ps := ps) hp
  unfold aI dM
  refine em ?_
  rw [show ([gD ps, .list (l.map (fL c ps.length))].map bo.val ++ List.replicate (6 - [gD ps, .list (l.map (fL c ps.length))].length) bo.non) = [.val (gD ps), .val (.list (l.map (fL c ps.length))), .non, .non, .non, .non] from rfl]
  rw [aQ (ρ' := [.val (gD ps), .val (.list (l.map (fL c ps.length))), .own (.list (cq (fun _ => oD none) ps.length)), .non, .non, .non]) (by
    rw [ma, bG, show aL 1 [] [.val (gD ps), .val (.list (l.map (fL c ps.length))), .non, .non, .non, .non] = [.non] from rfl]
    simp only [cC, am, R.ok_bind, dN, cm]
    rw [if_pos (by rw [List.length_map]; exact bZ hp), h0]
    rfl)]
  rw [aQ (ρ' := [.val (gD ps), .val (.list (l.map (fL c ps.length))), .own (.list (cq (fun _ => oD none) ps.length)), .val (oT (fun _ => none) ps.length), .non, .non]) (by
    simp only [a4, aM, aB, aP, am, R.ok_bind, hn]
    rfl)]
  rw [aQ (ρ' := [.val (gD ps), .val (.list (l.map (fL c ps.length))), .own (.list (cq (fun i => oD (gL (fun _ => none) l i)) ps.length)), .val (oT (kQ (fun _ => none) l) ps.length), c4, c5]) (by
    rw [fI, gh, cC]
    simp only [aq, am, R.ok_bind, sB]
    unfold pJ at e
    rw [e]
    rfl)]
  simp only [cj, jn, aB, aP, bX, pA, pk, aq, am, R.ok_bind, ky]
  rfl
def Wy (ps : List P4) (js : List Int) (w : Int) (mv : Int → Option Int) (i g : Int) : Prop := (ai ps i = w ∧ mv i = some g) ∨ (ai ps i ≠ w ∧ g ∈ bg ps js i)
theorem cG {ps : List P4} {js : List Int} {i g : Int} (h : g ∈ bg ps js i) : g ∈ js := a9.mp (List.mem_filter.mp h).2
theorem cE {ps : List P4} {js : List Int} {i g : Int} (h : g ∈ bg ps js i) : g ∈ aF ps i := (List.mem_filter.mp h).1
theorem dD {ps : List P4} {js : List Int} {i g : Int} (h : g ∈ aF ps i) (h2 : g ∈ js) : g ∈ bg ps js i := List.mem_filter.mpr ⟨h, a9.mpr h2⟩
theorem pQ {ps : List P4} {js gs : List Int} {who : Int} {rk : Int → Option Int} (A : mB ps js who gs rk) {i q : Int} (h : rk i = some q) (hq : 0 < q) (ho : ai ps i = who) : ∃ g, fD ps who rk i = some g ∧ g ∈ bg ps js i ∧ rk g = some (q - 1) := by
  obtain ⟨g, g1, g2⟩ := fX A i q h hq ho
  have hm : fD ps who rk i = ((aF ps i).filter fun g => decide (rk g = some (q - 1))).head? := by
    unfold fD
    rw [h]
    exact if_pos ⟨ho, hq⟩
  have hmem : g ∈ (aF ps i).filter fun g => decide (rk g = some (q - 1)) := List.mem_filter.mpr ⟨g1, decide_eq_true g2⟩
  cases hL : (aF ps i).filter fun g => decide (rk g = some (q - 1)) with
  | nil => rw [hL] at hmem; cases hmem
  | cons v r =>
    rw [hL] at hm
    have hv : v ∈ (aF ps i).filter fun g => decide (rk g = some (q - 1)) := by rw [hL]; exact List.mem_cons_self
    have h2 := of_decide_eq_true (List.mem_filter.mp hv).2
    exact ⟨v, hm, dD (List.mem_filter.mp hv).1 (A.sub v _ h2), h2⟩
theorem dk {ps : List P4} {who : Int} {rk : Int → Option Int} {i : Int} (h : ai ps i ≠ who ∨ rk i = none ∨ rk i = some 0) : fD ps who rk i = none := by
  unfold fD
  rcases h with h | h | h
  · cases rk i with
    | none => rfl
    | some q => exact if_neg fun z => h z.1
  · rw [h]
  · rw [h]
    exact if_neg fun z => by omega
theorem oG {ps : List P4} {who : Int} {part : List Int} {i : Int} (hi : i ∈ part) (ho : ai ps i = who) (hw : ∃ g, g ∈ bg ps part i) : ∃ g, bI ps who part i = some g ∧ g ∈ bg ps part i := by
  have hm : bI ps who part i = (bg ps part i).head? := if_pos ⟨hi, ho⟩
  obtain ⟨g, hg⟩ := hw
  cases hL : bg ps part i with
  | nil => rw [hL] at hg; cases hg
  | cons v r =>
    rw [hL] at hm
    exact ⟨v, hm, List.mem_cons_self⟩
theorem iq {ps : List P4} {who : Int} {part : List Int} {i : Int} (h : i ∉ part ∨ ai ps i ≠ who) : bI ps who part i = none := if_neg fun z => h.elim (fun y => y z.1) fun y => y z.2
theorem qD {ps : List P4} {js gs : List Int} {who : Int} {rk : Int → Option Int} (A : mB ps js who gs rk) {part : List Int} {i q : Int} (h : rk i = some q) (ho : ai ps i = who) (h0 : q = 0 → i ∈ part ∧ ∃ g, g ∈ bg ps part i) :
    ∃ g, bp (fD ps who rk) (bI ps who part) i = some g ∧ g ∈ aF ps i ∧ ((0 < q ∧ g ∈ js ∧ rk g = some (q - 1)) ∨ (q = 0 ∧ g ∈ part)) := by
  unfold bp
  by_cases hq : 0 < q
  · obtain ⟨g, g1, g2, g3⟩ := pQ A h hq ho
    exact ⟨g, by rw [g1]; rfl, cE g2, .inl ⟨hq, cG g2, g3⟩⟩
  · have hq0 : q = 0 := by have := A.nneg i q h; omega
    obtain ⟨p1, p2⟩ := h0 hq0
    obtain ⟨g, g1, g2⟩ := oG p1 ho p2
    exact ⟨g, by rw [dk (.inr (.inr (by rw [h, hq0]))), g1]; rfl, cE g2, .inr ⟨hq0, cG g2⟩⟩
def bc (gs js : List Int) : List Int := gs.filter (cA js)
def cg (ps : List P4) (js : List Int) (who : Int) (gs : List Int) : List Int := bD js (cI (rK ps js who (bc gs js)) ps.length)
def bt (ps : List P4) (js : List Int) (who : Int) (gs : List Int) : Sh :=
  if cg ps js who gs = [] then ⟨who, js, bp (fD ps who (rK ps js who (bc gs js))) (bI ps who js)⟩
  else ⟨1 - who, cI (rK ps js (1 - who) (cg ps js who gs)) ps.length, bp (fD ps (1 - who) (rK ps js (1 - who) (cg ps js who gs))) (bI ps (1 - who) (cg ps js who gs))⟩
section
variable {ps : List P4} (G : Gr ps) {js gs : List Int} (hj : bC ps.length js) (hg : bC ps.length gs) (hw : cR ps js) {who : Int}
include hg in
theorem qy : bC ps.length (bc gs js) := hg.filter _
theorem tM : ∀ x ∈ bc gs js, x ∈ js := fun x hx => a9.mp (List.mem_filter.mp hx).2
include hj in
theorem jb : bC ps.length (cg ps js who gs) := hj.filter _
theorem mt : ∀ x ∈ cg ps js who gs, x ∈ js := fun x hx => (aV.mp hx).1
include hj in
theorem kG {i : Int} : i ∈ cg ps js who gs ↔ i ∈ js ∧ rK ps js who (bc gs js) i = none := by
  unfold cg
  rw [aV, cW]
  constructor
  · rintro ⟨h1, h2⟩
    refine ⟨h1, ?_⟩
    cases h : rK ps js who (bc gs js) i with
    | none => rfl
    | some q => exact (h2 ⟨hj.inn i h1, q, h⟩).elim
  · rintro ⟨h1, h2⟩
    refine ⟨h1, ?_⟩
    rintro ⟨_, q, hq⟩
    rw [h2] at hq
    cases hq
include hj hg in
theorem pd : mB ps js who (bc gs js) (rK ps js who (bc gs js)) := jk (qy hg).nd tM hj.nd hj.len
include hj in
theorem jr : mB ps js (1 - who) (cg ps js who gs) (rK ps js (1 - who) (cg ps js who gs)) := jk (jb hj).nd mt hj.nd hj.len
include hj hg hw in
theorem oJ {i : Int} (hi : i ∈ cg ps js who gs) (ho : ai ps i ≠ who) : ∃ g, g ∈ bg ps (cg ps js who gs) i := by
  obtain ⟨h1, h2⟩ := (kG hj).mp hi
  obtain ⟨g, g1, g2⟩ := (pd hj hg).outX i h1 h2 ho (hw i h1)
  obtain ⟨g3, g4⟩ := List.mem_filter.mp g1
  exact ⟨g, List.mem_filter.mpr ⟨g3, a9.mpr ((kG hj).mpr ⟨a9.mp g4, g2⟩)⟩⟩
include G hj hg hw in
theorem vq {c : Addr} : bn c [gD ps, .tuple (js.map .int), .int who, .tuple (gs.map .int)] = .ok (fL c ps.length (bt ps js who gs)) := by
  have hp := G.hp
  have hjl := hj.len
  have hgl := hg.len
  have h0 := jp (s := .tuple (gs.map .int)) (t := .tuple (js.map .int)) (.inl rfl) (.inl rfl) (by omega)
  have h1 := e8 G.hl G.hgo G.hp (s := .tuple (js.map .int)) (g := .tuple ((bc gs js).map .int)) (.inl rfl) (.inl rfl) hj (qy hg) tM hw (who := who)
  have h2 := fQ (f := rK ps js who (bc gs js)) (n := ps.length) (by omega)
  have h3 := dW (s := .tuple (js.map .int)) (t := .tuple ((cI (rK ps js who (bc gs js)) ps.length).map .int)) (.inl rfl) (.inl rfl) (by omega)
  have h4 := dE G (fX (pd (who := who) hj hg))
  unfold bn eD
  refine em ?_
  rw [show ([gD ps, .tuple (js.map .int), .int who, .tuple (gs.map .int)].map bo.val ++ List.replicate (8 - [gD ps, .tuple (js.map .int), .int who, .tuple (gs.map .int)].length) bo.non) = [.val (gD ps), .val (.tuple (js.map .int)), .val (.int who), .val (.tuple (gs.map .int)), .non, .non, .non, .non] from rfl]
  rw [aQ (ρ' := [.val (gD ps), .val (.tuple (js.map .int)), .val (.int who), .val (.tuple (gs.map .int)), .val (oT (rK ps js who (bc gs js)) ps.length), .non, .non, .non]) (by
    simp only [a4, aM, aB, aP, am, aq, R.ok_bind, h0]
    rw [show gs.filter (cA js) = bc gs js from rfl, h1]
    rfl)]
  rw [aQ (ρ' := [.val (gD ps), .val (.tuple (js.map .int)), .val (.int who), .val (.tuple (gs.map .int)), .val (oT (rK ps js who (bc gs js)) ps.length), .val (.tuple ((cg ps js who gs).map .int)), .non, .non]) (by
    simp only [a4, aM, aB, aP, am, aq, R.ok_bind, h2, h3]
    rfl)]
  by_cases ha : cg ps js who gs = []
  · have h5 := dA G (who := who) (s := .tuple (js.map .int)) (.inl rfl) hj fun i hi _ => hw i hi
    rw [show bt ps js who gs = ⟨who, js, bp (fD ps who (rK ps js who (bc gs js))) (bI ps who js)⟩ from if_pos ha]
    refine rX ?_
    rw [dU, cJ, bA, bX]
    simp only [am, aq, bK, R.ok_bind, ha, List.map_nil, jZ, List.length_nil, fF, cU]
    rw [if_pos (by decide)]
    rw [aQ (ρ' := [.val (gD ps), .val (.tuple (js.map .int)), .val (.int who), .val (.tuple (gs.map .int)), .val (oT (rK ps js who (bc gs js)) ps.length), .val (.tuple []), .val (oT (bp (fD ps who (rK ps js who (bc gs js))) (bI ps who js)) ps.length), .non]) (by
      simp only [a4, aM, aB, aP, am, aq, R.ok_bind, h4, h5, jd (show ps.length ≤ 1000 by omega)]
      rfl)]
    rfl
  · have h5 := e8 G.hl G.hgo G.hp (s := .tuple (js.map .int)) (g := .tuple ((cg ps js who gs).map .int)) (.inl rfl) (.inl rfl) hj (jb hj) mt hw (who := 1 - who)
    have h6 := fQ (f := rK ps js (1 - who) (cg ps js who gs)) (n := ps.length) (by omega)
    have h7 := dE G (fX (jr (gs := gs) (who := who) hj))
    have h8 := dA G (who := 1 - who) (s := .tuple ((cg ps js who gs).map .int)) (.inl rfl) (jb hj) fun i hi ho => oJ hj hg hw hi (by omega)
    rw [show bt ps js who gs = ⟨1 - who, cI (rK ps js (1 - who) (cg ps js who gs)) ps.length, bp (fD ps (1 - who) (rK ps js (1 - who) (cg ps js who gs))) (bI ps (1 - who) (cg ps js who gs))⟩ from if_neg ha]
    have hlen : ¬ ((cg ps js who gs).length : Int) = 0 := by
      have := List.length_pos_iff.mpr ha
      omega
    rw [aQ (ρ' := [.val (gD ps), .val (.tuple (js.map .int)), .val (.int who), .val (.tuple (gs.map .int)), .val (oT (rK ps js who (bc gs js)) ps.length), .val (.tuple ((cg ps js who gs).map .int)), .non, .non]) (by
      rw [dU, cJ, bA, bX]
      simp only [am, aq, bK, R.ok_bind, jZ, List.length_map, fF, cU, decide_eq_false hlen]
      rfl)]
    rw [aQ (ρ' := [.val (gD ps), .val (.tuple (js.map .int)), .val (.int who), .val (.tuple (gs.map .int)), .val (oT (rK ps js who (bc gs js)) ps.length), .val (.tuple ((cg ps js who gs).map .int)), .non, .val (.int (1 - who))]) (by
      simp only [a4, bA, am, aq, bK, R.ok_bind, kO]
      rfl)]
    rw [aQ (ρ' := [.val (gD ps), .val (.tuple (js.map .int)), .val (.int who), .val (.tuple (gs.map .int)), .val (oT (rK ps js (1 - who) (cg ps js who gs)) ps.length), .val (.tuple ((cg ps js who gs).map .int)), .non, .val (.int (1 - who))]) (by
      simp only [a4, aM, aB, aP, am, aq, R.ok_bind, h5]
      rfl)]
    rw [aQ (ρ' := [.val (gD ps), .val (.tuple (js.map .int)), .val (.int who), .val (.tuple (gs.map .int)), .val (oT (rK ps js (1 - who) (cg ps js who gs)) ps.length), .val (.tuple ((cg ps js who gs).map .int)), .val (oT (bp (fD ps (1 - who) (rK ps js (1 - who) (cg ps js who gs))) (bI ps (1 - who) (cg ps js who gs))) ps.length), .val (.int (1 - who))]) (by
      simp only [a4, aM, aB, aP, am, aq, R.ok_bind, h7, h8, jd (show ps.length ≤ 1000 by omega)]
      rfl)]
    unfold lS
    simp only [cj, aM, aB, aP, am, aq, R.ok_bind, h6]
    rfl
end
def cO (ps : List P4) (who : Int) (gs : List Int) : Nat → List Int → List Sh
  | 0, _ => []
  | k + 1, js => if js = [] then [] else bt ps js who gs :: cO ps who gs k (bD js (bt ps js who gs).pl)
theorem sj {ps : List P4} {js gs : List Int} {who : Int} {rk : Int → Option Int} (hj : bC ps.length js) (hw : cR ps js) (A : mB ps js who gs rk) : cR ps (bD js (cI rk ps.length)) := by
  intro i hi
  obtain ⟨h1, h2⟩ := aV.mp hi
  have hn : rk i = none := by
    cases h : rk i with
    | none => rfl
    | some q => exact (h2 (cW.mpr ⟨hj.inn i h1, q, h⟩)).elim
  have fin : ∀ g, g ∈ bg ps js i → rk g = none → ∃ g, g ∈ bg ps (bD js (cI rk ps.length)) i := fun g g1 g2 => by
    obtain ⟨g3, g4⟩ := List.mem_filter.mp g1
    refine ⟨g, List.mem_filter.mpr ⟨g3, a9.mpr (aV.mpr ⟨a9.mp g4, fun z => ?_⟩)⟩⟩
    obtain ⟨_, q, hq⟩ := cW.mp z
    rw [g2] at hq
    cases hq
  by_cases ho : ai ps i = who
  · obtain ⟨g, hg⟩ := hw i h1
    exact fin g hg (A.outO i h1 hn ho g hg)
  · obtain ⟨g, g1, g2⟩ := A.outX i h1 hn ho (hw i h1)
    exact fin g g1 g2
theorem nH (js : List Int) : bD js js = [] := by
  unfold bD
  rw [List.filter_eq_nil_iff]
  intro x hx
  rw [a9.mpr hx]
  simp
theorem lf {ps : List P4} {js gs : List Int} {who : Int} (hj : bC ps.length js) (hw : cR ps js) : cR ps (bD js (bt ps js who gs).pl) := by
  unfold bt
  split
  · rw [nH]; intro i hi; cases hi
  · exact sj hj hw (jr hj)
theorem vo {ps : List P4} {js gs : List Int} {who : Int} (hj : bC ps.length js) : bC ps.length (bt ps js who gs).pl := by
  unfold bt
  split
  · exact hj
  · exact jV _ _
theorem lx {ps : List P4} {js gs : List Int} {who : Int} (hj : bC ps.length js) (hne : js ≠ []) : (bD js (bt ps js who gs).pl).length < js.length := by
  have ex : ∃ i ∈ js, i ∈ (bt ps js who gs).pl := by
    unfold bt
    split
    · exact let ⟨i, hi⟩ := List.exists_mem_of_ne_nil _ hne; ⟨i, hi, hi⟩
    · rename_i ha
      obtain ⟨i, hi⟩ := List.exists_mem_of_ne_nil _ ha
      exact ⟨i, mt i hi, cW.mpr ⟨(jb hj).inn i hi, 0, ((jr hj).zero i).mpr hi⟩⟩
  obtain ⟨i, h1, h2⟩ := ex
  refine Nat.lt_of_le_of_ne (List.length_filter_le ..) fun z => ?_
  have := (eZ _ js).mp z i h1
  rw [a9.mpr h2] at this
  cases this
def ue (c : Addr) : Fs := (aY (bH 5 (aC (bn c) (ag (af 0) (ag (af 4) (ag (af 1) (ag (af 2) aH)))))) (aY (du 3 (af 5)) (bH 4 (aC aD (ag (af 4) (ag (e1 (iB c "places") (af 5)) aH))))))
abbrev gR (ps : List P4) (c : Addr) (who : Int) (gs : List Int) (acc : List Sh) (js : List Int) (c5 : bo) : aX :=
  [.val (gD ps), .val (.int who), .val (.tuple (gs.map .int)), .own (.list (acc.map (fL c ps.length))), .val (.tuple (js.map .int)), c5]
theorem zd {ps : List P4} (G : Gr ps) {gs : List Int} (hg : bC ps.length gs) {who : Int} {c : Addr} : ∀ (k n : Nat) (js : List Int) (acc : List Sh) (c5 : bo), bC ps.length js → cR ps js → js.length ≤ k → k + 1 ≤ n → acc.length + k ≤ 1000 →
    ∃ c5', cZ (tE (e2 (dz l6) (e1 cX (af 4)) (eC (.int 0)))) (ue c) n (gR ps c who gs acc js c5) = .ok (.nx (gR ps c who gs (acc ++ cO ps who gs k js) [] c5'))
  | k, 0, js, acc, c5, _, _, _, h, _ => by omega
  | k, n + 1, js, acc, c5, hj, hw, hk, hn, hz => by
    have hp := G.hp
    rw [kt]
    have ht : tE (e2 (dz l6) (e1 cX (af 4)) (eC (.int 0))) (gR ps c who gs acc js c5) = .ok (decide (0 < js.length)) := by
      simp only [cJ, bA, bX, aq, am, bK, R.ok_bind, jZ, kZ, cU, List.length_map]
      congr 1
      simp
    rw [ht, R.ok_bind]
    by_cases h0 : js = []
    · subst h0
      refine ⟨c5, ?_⟩
      have : cO ps who gs k [] = [] := by cases k <;> rfl
      rw [this, List.append_nil]
      rfl
    · have hpos := List.length_pos_iff.mpr h0
      rw [if_pos (decide_eq_true hpos)]
      cases k with
      | zero => omega
      | succ k =>
        have hl := lx (gs := gs) (who := who) hj h0
        obtain ⟨c5', e⟩ := zd G hg (who := who) (c := c) k n (bD js (bt ps js who gs).pl) (acc ++ [bt ps js who gs]) (.val (fL c ps.length (bt ps js who gs))) (hj.filter _) (lf hj hw) (by omega) (by omega) (by simp; omega)
        refine ⟨c5', ?_⟩
        have h1 := vq G hj hg hw (who := who) (c := c)
        have h2 := dW (s := .tuple (js.map .int)) (t := .tuple ((bt ps js who gs).pl.map .int)) (.inl rfl) (.inl rfl) (by have := hj.len; omega)
        have hb : ue c (gR ps c who gs acc js c5) = .ok (.nx (gR ps c who gs (acc ++ [bt ps js who gs]) (bD js (bt ps js who gs).pl) (.val (fL c ps.length (bt ps js who gs))))) := by
          unfold ue
          rw [aQ (ρ' := gR ps c who gs acc js (.val (fL c ps.length (bt ps js who gs)))) (by
            simp only [a4, aM, aB, aP, am, aq, R.ok_bind, h1]
            rfl)]
          rw [aQ (ρ' := gR ps c who gs (acc ++ [bt ps js who gs]) js (.val (fL c ps.length (bt ps js who gs)))) (by
            rw [ja (ds := acc.map (fL c ps.length)) (af 5) rfl (Nat.lt_of_lt_of_le (show _ < 1001 by rw [List.length_map]; omega) (by decide))]
            simp only [am, aq, cm, R.ok_bind]
            rw [show acc.map (fL c ps.length) ++ [fL c ps.length (bt ps js who gs)] = (acc ++ [bt ps js who gs]).map (fL c ps.length) by simp]
            rfl)]
          simp only [a4, aM, aB, aP, bX, am, aq, R.ok_bind, jH, h2]
          rfl
        rw [hb, R.ok_bind, ez, e]
        rw [show cO ps who gs (k + 1) js = bt ps js who gs :: cO ps who gs k (bD js (bt ps js who gs).pl) from if_neg h0]
        simp
theorem qh {ps : List P4} {gs : List Int} {who : Int} : ∀ (k : Nat) (js : List Int), bC ps.length js → ∀ s ∈ cO ps who gs k js, ∀ x ∈ s.pl, 0 ≤ x ∧ x < ps.length
  | 0, js, _, s, hs => by cases hs
  | k + 1, js, hj, s, hs => by
    unfold cO at hs
    split at hs
    · cases hs
    · rcases List.mem_cons.mp hs with rfl | z
      · exact (vo hj).inn
      · exact qh k _ (hj.filter _) s z
theorem xk {ps : List P4} (G : Gr ps) {gs : List Int} (hg : bC ps.length gs) (hw : cR ps (ids ps.length)) {who : Int} {c : Addr} :
    fJ c [gD ps, .int who, .tuple (gs.map .int)] = .ok (.tuple [oT (gL (fun _ => none) (cO ps who gs ps.length (ids ps.length))) ps.length, oT (kQ (fun _ => none) (cO ps who gs ps.length (ids ps.length))) ps.length]) := by
  have hp := G.hp
  obtain ⟨c5, e⟩ := zd G hg (who := who) (c := c) ps.length 1000000 (ids ps.length) [] .non (bC.ids _) hw (by rw [kf]; exact Nat.le_refl _) (by omega) (by simp; omega)
  rw [List.nil_append] at e
  have h1 := hg.some
  have h2 := jE (ps := ps) (by omega)
  have h3 := za (ps := ps) (by omega) (c := c) (qh (gs := gs) (who := who) ps.length (ids ps.length) (bC.ids _))
  have hlen : cX (gD ps) = .ok (.int ps.length) := by simp
  unfold fJ oV
  refine em ?_
  rw [show ([gD ps, .int who, .tuple (gs.map .int)].map bo.val ++ List.replicate (6 - [gD ps, .int who, .tuple (gs.map .int)].length) bo.non) = [.val (gD ps), .val (.int who), .val (.tuple (gs.map .int)), .non, .non, .non] from rfl]
  rw [aQ (ρ' := [.val (gD ps), .val (.int who), .val (.tuple (gs.map .int)), .non, .non, .non]) (by
    simp only [dU, km, cJ, aM, aB, aP, bX, am, aq, R.ok_bind, hlen, h1, cU]; rfl)]
  rw [aQ (ρ' := [.val (gD ps), .val (.int who), .val (.tuple (gs.map .int)), .own (.list []), .non, .non]) (by rfl)]
  rw [aQ (ρ' := gR ps c who gs [] (ids ps.length) .non) (by
    simp only [a4, aM, aB, aP, am, R.ok_bind, h2]; rfl)]
  rw [aQ (ρ' := gR ps c who gs (cO ps who gs ps.length (ids ps.length)) [] c5) (by
    rw [fI]
    show lh (cZ (tE (e2 (dz l6) (e1 cX (af 4)) (eC (.int 0)))) (ue c) 1000000 _) = _
    rw [e]
    rfl)]
  unfold zV
  show cD _ (((gR ps c who gs (cO ps who gs ps.length (ids ps.length)) [] c5)).set 3 (.val (.list ((cO ps who gs ps.length (ids ps.length)).map (fL c ps.length))))) = _
  simp only [List.set_cons_succ, List.set_cons_zero, cj, aM, aB, aP, am, aq, R.ok_bind, h3]
structure tm (ps : List P4) (who : Int) (gs js : List Int) (l : List Sh) (win : Int → Int) (mv : Int → Option Int) (φ ψ : Int → Int) : Prop where
  wins : ∀ f i, gL f l i = if i ∈ js then some (win i) else f i
  mvs : ∀ m i, (i ∈ js → m i = none) → kQ m l i = if i ∈ js then mv i else m i
  two : ∀ i ∈ js, win i = who ∨ win i = 1 - who
  has : ∀ i ∈ js, ai ps i = win i → ∃ g, mv i = some g ∧ g ∈ aF ps i
  non : ∀ i ∈ js, ai ps i ≠ win i → mv i = none
  stay : ∀ i ∈ js, ∀ g, Wy ps js (win i) mv i g → g ∈ js ∧ win g = win i
  mine : ∀ i ∈ js, win i = who → i ∉ gs → ∀ g, Wy ps js who mv i g → φ g < φ i
  nn : ∀ i ∈ js, win i = 1 - who → 0 ≤ ψ i
  oth : ∀ i ∈ js, win i = 1 - who → ∀ g, Wy ps js (1 - who) mv i g → ψ g ≤ ψ i ∧ (i ∈ gs → ψ g < ψ i)
theorem p0 {ps : List P4} {who : Int} (h01 : who = 0 ∨ who = 1) {gs : List Int} (hg : bC ps.length gs) : ∀ (k : Nat) (js : List Int), bC ps.length js → cR ps js → js.length ≤ k → (∀ i ∈ js, ai ps i = 0 ∨ ai ps i = 1) →
    ∃ win mv φ ψ, tm ps who gs js (cO ps who gs k js) win mv φ ψ
  | k, [], _, _, _, _ => by
    have : cO ps who gs k [] = [] := by cases k <;> rfl
    rw [this]
    refine ⟨fun _ => 0, fun _ => none, fun _ => 0, fun _ => 0, ⟨fun f i => by simp [gL], fun m i _ => by simp [kQ], ?_, ?_, ?_, ?_, ?_, ?_, ?_⟩⟩ <;> intro i hi <;> cases hi
  | 0, j :: js, _, _, hk, _ => by simp at hk
  | k + 1, j0 :: js0, hj, hw, hk, hown => by
    obtain ⟨js, ejs⟩ : ∃ js, js = j0 :: js0 := ⟨_, rfl⟩
    have hne : js ≠ [] := by rw [ejs]; simp
    rw [← ejs] at hj hw hk hown ⊢
    rw [show cO ps who gs (k + 1) js = bt ps js who gs :: cO ps who gs k (bD js (bt ps js who gs).pl) from if_neg hne]
    have A := pd (who := who) hj hg
    by_cases ha : cg ps js who gs = []
    · have hs : bt ps js who gs = ⟨who, js, bp (fD ps who (rK ps js who (bc gs js))) (bI ps who js)⟩ := if_pos ha
      have hr : bD js (bt ps js who gs).pl = [] := by rw [hs]; exact nH js
      have hl : cO ps who gs k [] = [] := by cases k <;> rfl
      rw [hr, hl, hs]
      have hrk : ∀ i ∈ js, ∃ q, rK ps js who (bc gs js) i = some q := fun i hi => by
        cases h : rK ps js who (bc gs js) i with
        | some q => exact ⟨q, rfl⟩
        | none =>
          have := (kG (gs := gs) (who := who) hj).mpr ⟨hi, h⟩
          rw [ha] at this
          cases this
      have own : ∀ i ∈ js, ai ps i = who → ∃ q g, rK ps js who (bc gs js) i = some q ∧ bp (fD ps who (rK ps js who (bc gs js))) (bI ps who js) i = some g ∧ g ∈ aF ps i ∧ ((0 < q ∧ g ∈ js ∧ rK ps js who (bc gs js) g = some (q - 1)) ∨ (q = 0 ∧ g ∈ js)) := fun i hi ho => by
        obtain ⟨q, hq⟩ := hrk i hi
        obtain ⟨g, g1, g2, g3⟩ := qD A (part := js) hq ho fun _ => ⟨hi, hw i hi⟩
        exact ⟨q, g, hq, g1, g2, g3⟩
      have nom : ∀ i, (i ∉ js ∨ ai ps i ≠ who) → bp (fD ps who (rK ps js who (bc gs js))) (bI ps who js) i = none := fun i hi => by
        unfold bp
        rw [iq hi, dk]
        · rfl
        · rcases hi with hi | hi
          · right; left
            cases h : rK ps js who (bc gs js) i with
            | none => rfl
            | some q => exact (hi (A.sub i q h)).elim
          · exact .inl hi
      refine ⟨fun _ => who, bp (fD ps who (rK ps js who (bc gs js))) (bI ps who js), fun i => (rK ps js who (bc gs js) i).getD 0, fun _ => 0, ⟨fun f i => rfl, fun m i hm => ?_, fun i _ => .inl rfl, fun i hi ho => ?_, fun i _ ho => nom i (.inr ho), fun i hi g hgw => ⟨?_, rfl⟩, fun i hi _ hgs g hgw => ?_, fun i _ _ => by simp, fun i _ h => by omega⟩⟩
      · show bp m (bp (fD ps who (rK ps js who (bc gs js))) (bI ps who js)) i = _
        by_cases hi : i ∈ js
        · rw [if_pos hi]
          show (m i).or _ = _
          rw [hm hi, Option.none_or]
        · rw [if_neg hi]
          show (m i).or _ = _
          rw [nom i (.inl hi), Option.or_none]
      · obtain ⟨q, g, _, g1, g2, _⟩ := own i hi ho
        exact ⟨g, g1, g2⟩
      · rcases hgw with ⟨ho, hm⟩ | ⟨_, hm⟩
        · obtain ⟨q, g', _, g1, _, g3⟩ := own i hi ho
          rw [g1] at hm
          cases hm
          rcases g3 with ⟨_, z, _⟩ | ⟨_, z⟩ <;> exact z
        · exact cG hm
      · have hpos : ∀ q, rK ps js who (bc gs js) i = some q → 0 < q := fun q hq => by
          have h0 := A.nneg i q hq
          by_cases z : q = 0
          · subst z
            exact (hgs (List.mem_filter.mp ((A.zero i).mp hq)).1).elim
          · omega
        rcases hgw with ⟨ho, hm⟩ | ⟨ho, hm⟩
        · obtain ⟨q, g', hq, g1, _, g3⟩ := own i hi ho
          rw [g1] at hm
          cases hm
          have := hpos q hq
          rcases g3 with ⟨_, _, z⟩ | ⟨z, _⟩
          · show (rK ps js who (bc gs js) g).getD 0 < (rK ps js who (bc gs js) i).getD 0
            rw [hq, z]
            show q - 1 < q
            omega
          · omega
        · obtain ⟨q, hq⟩ := hrk i hi
          obtain ⟨t, t1, t2⟩ := (A.oth i q hq (hpos q hq) ho).2 g hm
          show (rK ps js who (bc gs js) g).getD 0 < (rK ps js who (bc gs js) i).getD 0
          rw [hq, t1]
          exact t2
    · -- the other one's share
      have hs : bt ps js who gs = ⟨1 - who, cI (rK ps js (1 - who) (cg ps js who gs)) ps.length, bp (fD ps (1 - who) (rK ps js (1 - who) (cg ps js who gs))) (bI ps (1 - who) (cg ps js who gs))⟩ := if_neg ha
      have hless := lx (gs := gs) (who := who) hj hne
      have hrw := lf (gs := gs) (who := who) hj hw
      rw [hs] at hless hrw ⊢
      have B := jr (gs := gs) (who := who) hj
      obtain ⟨rk, erk⟩ : ∃ rk, rk = rK ps js (1 - who) (cg ps js who gs) := ⟨_, rfl⟩
      obtain ⟨aw, eaw⟩ : ∃ aw, aw = cg ps js who gs := ⟨_, rfl⟩
      have maw : ∀ i, i ∈ aw ↔ i ∈ js ∧ rK ps js who (bc gs js) i = none := fun i => by rw [eaw]; exact kG hj
      have waw : ∀ i ∈ aw, ai ps i ≠ who → ∃ g, g ∈ bg ps aw i := fun i hi ho => by rw [eaw] at hi ⊢; exact oJ hj hg hw hi ho
      rw [← eaw] at B hless hrw erk ⊢
      rw [← erk] at B hless hrw ⊢
      have hle : ∀ i q, rk i = some q → q ≤ ps.length := fun i q h => by rw [erk] at h; exact Bx hj.len h
      have memP : ∀ i, i ∈ cI rk ps.length ↔ ∃ q, rk i = some q := fun i => by
        rw [cW]
        exact ⟨fun h => h.2, fun ⟨q, hq⟩ => ⟨hj.inn i (B.sub i q hq), q, hq⟩⟩
      obtain ⟨js', ejs'⟩ : ∃ js', js' = bD js (cI rk ps.length) := ⟨_, rfl⟩
      have mem' : ∀ i, i ∈ js' ↔ i ∈ js ∧ rk i = none := fun i => by
        rw [ejs', aV, memP]
        constructor
        · rintro ⟨h1, h2⟩
          refine ⟨h1, ?_⟩
          cases h : rk i with
          | none => rfl
          | some q => exact (h2 ⟨q, h⟩).elim
        · rintro ⟨h1, h2⟩
          exact ⟨h1, fun ⟨q, hq⟩ => by rw [h2] at hq; cases hq⟩
      have hless' : js'.length < js.length := by rw [ejs']; exact hless
      obtain ⟨win, mv, φ, ψ, I⟩ := p0 h01 hg k js' (by rw [ejs']; exact hj.filter _) (by rw [ejs']; exact hrw) (by omega) fun i hi => hown i ((mem' i).mp hi).1
      rw [ejs'] at I
      rw [← ejs'] at I
      have nom : ∀ i, rk i = none → bp (fD ps (1 - who) rk) (bI ps (1 - who) aw) i = none := fun i hi => by
        unfold bp
        rw [dk (.inr (.inl hi)), iq]
        · rfl
        · left
          intro z
          have := (B.zero i).mpr z
          rw [hi] at this
          cases this
      have awP : ∀ i ∈ aw, rk i = some 0 := fun i hi => (B.zero i).mpr hi
      have own : ∀ i q, rk i = some q → ai ps i = 1 - who → ∃ g, bp (fD ps (1 - who) rk) (bI ps (1 - who) aw) i = some g ∧ g ∈ aF ps i ∧ ((0 < q ∧ g ∈ js ∧ rk g = some (q - 1)) ∨ (q = 0 ∧ g ∈ aw)) := fun i q hq ho =>
        qD B (part := aw) hq ho fun h0 => by
          have hi : i ∈ aw := (B.zero i).mp (by rw [hq, h0])
          exact ⟨hi, waw i hi (by omega)⟩
      -- from a place of the share
      have goP : ∀ i q g, rk i = some q → Wy ps js (1 - who) (bp (fD ps (1 - who) rk) (bI ps (1 - who) aw)) i g → ∃ t, rk g = some t ∧ t ≤ q ∧ (i ∈ gs → t < q) := fun i q g hq hgw => by
        have hi := B.sub i q hq
        have hgs0 : q = 0 → i ∉ gs := fun h0 z => by
          have hi' : i ∈ aw := (B.zero i).mp (by rw [hq, h0])
          have h1 := ((maw i).mp hi').2
          have := (A.zero i).mpr (List.mem_filter.mpr ⟨z, a9.mpr hi⟩)
          rw [h1] at this
          cases this
        have hq0 := B.nneg i q hq
        rcases hgw with ⟨ho, hm⟩ | ⟨ho, hm⟩
        · obtain ⟨g', g1, _, g3⟩ := own i q hq ho
          rw [g1] at hm
          cases hm
          rcases g3 with ⟨z1, _, z2⟩ | ⟨z1, z2⟩
          · exact ⟨q - 1, z2, by omega, fun _ => by omega⟩
          · exact ⟨0, awP g z2, by omega, fun z => (hgs0 z1 z).elim⟩
        · by_cases hp : 0 < q
          · obtain ⟨t, t1, t2⟩ := (B.oth i q hq hp ho).2 g hm
            exact ⟨t, t1, by omega, fun _ => t2⟩
          · have h0 : q = 0 := by omega
            have hi' : i ∈ aw := (B.zero i).mp (by rw [hq, h0])
            have how : ai ps i = who := by have := hown i hi; omega
            have := A.outO i hi ((maw i).mp hi').2 how g hm
            exact ⟨0, awP g ((maw g).mpr ⟨cG hm, this⟩), by omega, fun z => (hgs0 h0 z).elim⟩
      have hPs : ∀ {i q}, rk i = some q → i ∈ js ∧ i ∉ js' := fun {i q} hq => ⟨B.sub i q hq, fun z => by have := ((mem' i).mp z).2; rw [hq] at this; cases this⟩
      -- from a place that is left
      have goR : ∀ i g, i ∈ js' → Wy ps js (win i) mv i g → (g ∈ js' ∧ Wy ps js' (win i) mv i g) ∨ (win i = 1 - who ∧ ∃ t, rk g = some t) := fun i g hi hgw => by
        obtain ⟨hi1, hi2⟩ := (mem' i).mp hi
        rcases hgw with ⟨ho, hm⟩ | ⟨ho, hm⟩
        · have w : Wy ps js' (win i) mv i g := .inl ⟨ho, hm⟩
          exact .inl ⟨(I.stay i hi g w).1, w⟩
        · cases hr : rk g with
          | none =>
            have hg' : g ∈ js' := (mem' g).mpr ⟨cG hm, hr⟩
            exact .inl ⟨hg', .inr ⟨ho, dD (cE hm) hg'⟩⟩
          | some t =>
            right
            refine ⟨?_, t, rfl⟩
            rcases I.two i hi with z | z
            · have how : ai ps i = 1 - who := by have := hown i hi1; omega
              have := B.outO i hi1 hi2 how g hm
              rw [hr] at this
              cases this
            · exact z
      have wcongr : ∀ {i g} {m1 m2 : Int → Option Int} {w : Int} {K : List Int}, m1 i = m2 i → Wy ps K w m1 i g → Wy ps K w m2 i g := fun e h => by
        rcases h with ⟨a, b⟩ | h
        · exact .inl ⟨a, by rw [← e]; exact b⟩
        · exact .inr h
      refine ⟨fun i => if (rk i).isSome then 1 - who else win i, fun i => if (rk i).isSome then bp (fD ps (1 - who) rk) (bI ps (1 - who) aw) i else mv i, φ, fun i => match rk i with | some q => q | none => ψ i + (ps.length + 1), ?_⟩
      have atP : ∀ {i q}, rk i = some q → (if (rk i).isSome then (1 - who : Int) else win i) = 1 - who := fun h => by rw [h]; rfl
      have atR : ∀ {i}, rk i = none → (if (rk i).isSome then (1 - who : Int) else win i) = win i := fun h => by rw [h]; rfl
      have mtP : ∀ {i q}, rk i = some q → (if (rk i).isSome then bp (fD ps (1 - who) rk) (bI ps (1 - who) aw) i else mv i) = bp (fD ps (1 - who) rk) (bI ps (1 - who) aw) i := fun h => by rw [h]; rfl
      have mtR : ∀ {i}, rk i = none → (if (rk i).isSome then bp (fD ps (1 - who) rk) (bI ps (1 - who) aw) i else mv i) = mv i := fun h => by rw [h]; rfl
      refine ⟨fun f i => ?_, fun m i hm => ?_, fun i hi => ?_, fun i hi ho => ?_, fun i hi ho => ?_, fun i hi g hgw => ?_, fun i hi hwi hgs g hgw => ?_, fun i hi hwi => ?_, fun i hi hwi g hgw => ?_⟩
      · show gL (vp ⟨1 - who, cI rk ps.length, bp (fD ps (1 - who) rk) (bI ps (1 - who) aw)⟩ f) (cO ps who gs k (bD js (cI rk ps.length))) i = _
        rw [← ejs', I.wins]
        cases hr : rk i with
        | some q =>
          rw [if_neg (hPs hr).2, if_pos (hPs hr).1]
          show (if i ∈ cI rk ps.length then some (1 - who) else f i) = _
          rw [if_pos ((memP i).mpr ⟨q, hr⟩)]
          rfl
        | none =>
          by_cases hi : i ∈ js
          · rw [if_pos ((mem' i).mpr ⟨hi, hr⟩), if_pos hi]
            rfl
          · rw [if_neg fun z => hi ((mem' i).mp z).1, if_neg hi]
            show (if i ∈ cI rk ps.length then some (1 - who) else f i) = _
            rw [if_neg fun z => by obtain ⟨q, hq⟩ := (memP i).mp z; rw [hr] at hq; cases hq]
      · show kQ (bp m (bp (fD ps (1 - who) rk) (bI ps (1 - who) aw))) (cO ps who gs k (bD js (cI rk ps.length))) i = _
        rw [← ejs', I.mvs (bp m (bp (fD ps (1 - who) rk) (bI ps (1 - who) aw))) i fun z => by
          obtain ⟨z1, z2⟩ := (mem' i).mp z
          show (m i).or _ = none
          rw [hm z1, Option.none_or, nom i z2]]
        cases hr : rk i with
        | some q =>
          rw [if_neg (hPs hr).2, if_pos (hPs hr).1]
          show (m i).or _ = _
          rw [hm (hPs hr).1, Option.none_or]
          rfl
        | none =>
          by_cases hi : i ∈ js
          · rw [if_pos ((mem' i).mpr ⟨hi, hr⟩), if_pos hi]
            rfl
          · rw [if_neg fun z => hi ((mem' i).mp z).1, if_neg hi]
            show (m i).or _ = _
            rw [nom i hr, Option.or_none]
      · cases hr : rk i with
        | some q => exact .inr rfl
        | none => exact I.two i ((mem' i).mpr ⟨hi, hr⟩)
      · cases hr : rk i with
        | some q =>
          have ho' : ai ps i = 1 - who := ho.trans (atP hr)
          obtain ⟨g, g1, g2, _⟩ := own i q hr ho'
          exact ⟨g, g1, g2⟩
        | none => exact I.has i ((mem' i).mpr ⟨hi, hr⟩) (ho.trans (atR hr))
      · cases hr : rk i with
        | some q =>
          have ho' : ai ps i ≠ 1 - who := fun z => ho (z.trans (atP hr).symm)
          show bp _ _ i = none
          unfold bp
          rw [dk (.inl ho'), iq (.inr ho')]
          rfl
        | none => exact I.non i ((mem' i).mpr ⟨hi, hr⟩) fun z => ho (z.trans (atR hr).symm)
      · cases hr : rk i with
        | some q =>
          rw [atP hr] at hgw
          obtain ⟨t, t1, _⟩ := goP i q g hr (wcongr (mtP hr) hgw)
          refine ⟨(hPs t1).1, ?_⟩
          rw [atP t1]
          rfl
        | none =>
          have hi' := (mem' i).mpr ⟨hi, hr⟩
          rw [atR hr] at hgw
          rcases goR i g hi' (wcongr (mtR hr) hgw) with ⟨z1, z2⟩ | ⟨z1, t, z2⟩
          · obtain ⟨y1, y2⟩ := (mem' g).mp z1
            refine ⟨y1, ?_⟩
            rw [atR y2]
            exact (I.stay i hi' g z2).2
          · refine ⟨(hPs z2).1, ?_⟩
            rw [atP z2]
            exact z1.symm
      · cases hr : rk i with
        | some q => rw [atP hr] at hwi; omega
        | none =>
          have hi' := (mem' i).mpr ⟨hi, hr⟩
          rw [atR hr] at hwi
          rcases goR i g hi' (by rw [hwi]; exact wcongr (mtR hr) hgw) with ⟨z1, z2⟩ | ⟨z1, _⟩
          · rw [hwi] at z2
            exact I.mine i hi' hwi hgs g z2
          · omega
      · cases hr : rk i with
        | some q => exact B.nneg i q hr
        | none =>
          have := I.nn i ((mem' i).mpr ⟨hi, hr⟩) ((atR hr).symm.trans hwi)
          show 0 ≤ ψ i + _
          omega
      · cases hr : rk i with
        | some q =>
          obtain ⟨t, t1, t2, t3⟩ := goP i q g hr (wcongr (mtP hr) hgw)
          show (match rk g with | some q => q | none => _) ≤ q ∧ (i ∈ gs → (match rk g with | some q => q | none => _) < q)
          rw [t1]
          exact ⟨t2, t3⟩
        | none =>
          have hi' := (mem' i).mpr ⟨hi, hr⟩
          rw [atR hr] at hwi
          show (match rk g with | some q => q | none => ψ g + (ps.length + 1)) ≤ ψ i + (ps.length + 1) ∧ (i ∈ gs → (match rk g with | some q => q | none => ψ g + (ps.length + 1)) < ψ i + (ps.length + 1))
          rcases goR i g hi' (by rw [hwi]; exact wcongr (mtR hr) hgw) with ⟨z1, z2⟩ | ⟨_, t, z2⟩
          · rw [hwi] at z2
            obtain ⟨y1, y2⟩ := I.oth i hi' hwi g z2
            rw [((mem' g).mp z1).2]
            exact ⟨by show ψ g + _ ≤ _; omega, fun z => by have := y2 z; show ψ g + _ < _; omega⟩
          · rw [z2]
            have h1 := hle g t z2
            have h2 := I.nn i hi' hwi
            exact ⟨by show t ≤ _; omega, fun _ => by show t < _; omega⟩
inductive iA (E : Int → Int → Prop) (al : Int → Prop) (s : Int) : Int → Prop
  | one {x : Int} : E s x → al x → iA E al s x
  | more {x y : Int} : iA E al s x → E x y → al y → iA E al s y
theorem iA.al {E : Int → Int → Prop} {al : Int → Prop} {s x : Int} (h : iA E al s x) : al x := by cases h <;> assumption
theorem iA.imp {E E' : Int → Int → Prop} {al al' : Int → Prop} {s t : Int} (h : iA E al s t) (h1 : ∀ y, E s y → al y → E' s y ∧ al' y) (h2 : ∀ x y, al x → E x y → al y → E' x y ∧ al' y) : iA E' al' s t := by
  induction h with
  | one a b => exact .one (h1 _ a b).1 (h1 _ a b).2
  | more r a b ih => exact .more ih (h2 _ _ r.al a b).1 (h2 _ _ r.al a b).2
theorem iA.inn {E : Int → Int → Prop} {al : Int → Prop} {s t : Int} {P : Int → Prop} (h : iA E al s t) (hs : P s) (hP : ∀ x y, P x → E x y → al y → P y) : iA E (fun x => al x ∧ P x) s t := by
  induction h with
  | one a b => exact .one a ⟨b, hP _ _ hs a b⟩
  | more r a b ih => exact .more ih a ⟨b, hP _ _ ih.al.2 a b⟩
theorem iA.out {E : Int → Int → Prop} {al : Int → Prop} {s t : Int} {P : Int → Prop} (h : iA E al s t) (ht : ¬ P t) (hP : ∀ x y, al x → P x → E x y → al y → P y) : iA E (fun x => al x ∧ ¬ P x) s t := by
  induction h with
  | one a b => exact .one a ⟨b, ht⟩
  | more r a b ih =>
    have hx := fun z => ht (hP _ _ r.al z a b)
    exact .more (ih hx) a ⟨b, ht⟩
theorem iA.less {E : Int → Int → Prop} {al : Int → Prop} {s t : Int} {φ : Int → Int} (h : iA E al s t) (h1 : ∀ y, E s y → al y → φ y < φ s) (h2 : ∀ x y, al x → E x y → al y → φ y ≤ φ x) : φ t < φ s := by
  induction h with
  | one a b => exact h1 _ a b
  | more r a b ih =>
    have := h2 _ _ r.al a b
    omega
def aJ (ps : List P4) (i : Int) : Int := (ps[i.toNat]?.map (·.m)).getD 0
structure tK (ps : List P4) (js : List Int) (win : Int → Int) (mv : Int → Option Int) : Prop where
  two : ∀ i ∈ js, win i = 0 ∨ win i = 1
  has : ∀ i ∈ js, ai ps i = win i → ∃ g, mv i = some g ∧ g ∈ aF ps i
  non : ∀ i ∈ js, ai ps i ≠ win i → mv i = none
  stay : ∀ i ∈ js, ∀ g, Wy ps js (win i) mv i g → g ∈ js ∧ win g = win i
  good : ∀ i ∈ js, aJ ps i % 2 ≠ win i → ¬ iA (Wy ps js (win i) mv) (fun x => x ∈ js ∧ win x = win i ∧ aJ ps x ≤ aJ ps i) i i
structure gp (ps : List P4) (js : List Int) (s : Sh) : Prop where
  two : s.w = 0 ∨ s.w = 1
  sub : ∀ i ∈ s.pl, i ∈ js
  ne : s.pl ≠ []
  has : ∀ i ∈ s.pl, ai ps i = s.w → ∃ g, s.mv i = some g ∧ g ∈ aF ps i
  non : ∀ i, (i ∉ s.pl ∨ ai ps i ≠ s.w) → s.mv i = none
  stay : ∀ i ∈ s.pl, ∀ g, Wy ps js s.w s.mv i g → g ∈ s.pl
  outO : ∀ i ∈ js, i ∉ s.pl → ai ps i = s.w → ∀ g ∈ bg ps js i, g ∉ s.pl
  outX : ∀ i ∈ js, i ∉ s.pl → ai ps i ≠ s.w → ∃ g ∈ bg ps js i, g ∉ s.pl
  good : ∀ i ∈ s.pl, aJ ps i % 2 ≠ s.w → ¬ iA (Wy ps js s.w s.mv) (fun x => x ∈ s.pl ∧ aJ ps x ≤ aJ ps i) i i
theorem jA {ps : List P4} {K : List Int} {w : Int} {m1 m2 : Int → Option Int} {i g : Int} (e : m1 i = m2 i) (h : Wy ps K w m1 i g) : Wy ps K w m2 i g := by
  rcases h with ⟨a, b⟩ | h
  · exact .inl ⟨a, by rw [← e]; exact b⟩
  · exact .inr h
theorem gp.whole {ps : List P4} {js : List Int} {s : Sh} (S : gp ps js s) (hw : cR ps js) : cR ps (bD js s.pl) := by
  intro i hi
  obtain ⟨h1, h2⟩ := aV.mp hi
  have fin : ∀ g ∈ bg ps js i, g ∉ s.pl → ∃ g, g ∈ bg ps (bD js s.pl) i := fun g g1 g2 => ⟨g, dD (cE g1) (aV.mpr ⟨cG g1, g2⟩)⟩
  by_cases ho : ai ps i = s.w
  · obtain ⟨g, hg⟩ := hw i h1
    exact fin g hg (S.outO i h1 h2 ho g hg)
  · obtain ⟨g, g1, g2⟩ := S.outX i h1 h2 ho
    exact fin g g1 g2
theorem vG {ps : List P4} {js : List Int} (hown : ∀ i ∈ js, ai ps i = 0 ∨ ai ps i = 1) {s : Sh} (S : gp ps js s) {win : Int → Int} {mv : Int → Option Int} (I : tK ps (bD js s.pl) win mv) :
    tK ps js (fun i => if i ∈ s.pl then s.w else win i) (fun i => if i ∈ s.pl then s.mv i else mv i) := by
  have wP : ∀ {i}, i ∈ s.pl → (if i ∈ s.pl then s.w else win i) = s.w := fun h => if_pos h
  have wR : ∀ {i}, i ∉ s.pl → (if i ∈ s.pl then s.w else win i) = win i := fun h => if_neg h
  have mP : ∀ {i}, i ∈ s.pl → (if i ∈ s.pl then s.mv i else mv i) = s.mv i := fun h => if_pos h
  have mR : ∀ {i}, i ∉ s.pl → (if i ∈ s.pl then s.mv i else mv i) = mv i := fun h => if_neg h
  have goR : ∀ i g, i ∈ js → i ∉ s.pl → Wy ps js (win i) mv i g → (g ∈ js ∧ g ∉ s.pl ∧ Wy ps (bD js s.pl) (win i) mv i g) ∨ (win i = s.w ∧ g ∈ s.pl) := fun i g hi hn h => by
    have hi' := aV.mpr ⟨hi, hn⟩
    rcases h with ⟨ho, hm⟩ | ⟨ho, hm⟩
    · have w : Wy ps (bD js s.pl) (win i) mv i g := .inl ⟨ho, hm⟩
      obtain ⟨z1, z2⟩ := aV.mp (I.stay i hi' g w).1
      exact .inl ⟨z1, z2, w⟩
    · by_cases hg : g ∈ s.pl
      · right
        refine ⟨?_, hg⟩
        have h1 : ai ps i ≠ s.w := fun z => S.outO i hi hn z g hm hg
        have := hown i hi
        have := I.two i hi'
        have := S.two
        omega
      · exact .inl ⟨cG hm, hg, .inr ⟨ho, dD (cE hm) (aV.mpr ⟨cG hm, hg⟩)⟩⟩
  refine ⟨fun i hi => ?_, fun i hi ho => ?_, fun i hi ho => ?_, fun i hi g hg => ?_, fun i hi hm hp => ?_⟩
  · by_cases h : i ∈ s.pl
    · rw [wP h]; exact S.two
    · rw [wR h]; exact I.two i (aV.mpr ⟨hi, h⟩)
  · by_cases h : i ∈ s.pl
    · rw [mP h]; exact S.has i h (ho.trans (wP h))
    · rw [mR h]; exact I.has i (aV.mpr ⟨hi, h⟩) (ho.trans (wR h))
  · by_cases h : i ∈ s.pl
    · rw [mP h]; exact S.non i (.inr fun z => ho (z.trans (wP h).symm))
    · rw [mR h]; exact I.non i (aV.mpr ⟨hi, h⟩) fun z => ho (z.trans (wR h).symm)
  · by_cases h : i ∈ s.pl
    · rw [wP h] at hg ⊢
      have := S.stay i h g (jA (mP h) hg)
      exact ⟨S.sub g this, wP this⟩
    · rw [wR h] at hg ⊢
      rcases goR i g hi h (jA (mR h) hg) with ⟨z1, z2, z3⟩ | ⟨z1, z2⟩
      · refine ⟨z1, ?_⟩
        rw [wR z2]
        exact (I.stay i (aV.mpr ⟨hi, h⟩) g z3).2
      · refine ⟨S.sub g z2, ?_⟩
        rw [wP z2]
        exact z1.symm
  · by_cases h : i ∈ s.pl
    · rw [wP h] at hm hp
      refine S.good i h hm ?_
      refine (hp.inn (P := fun x => x ∈ s.pl) h fun x y hx e _ => S.stay x hx y (jA (mP hx) e)).imp (fun y e a => ⟨jA (mP h) e, a.2, a.1.2.2⟩) fun x y ax e a => ⟨jA (mP ax.2) e, a.2, a.1.2.2⟩
    · rw [wR h] at hm hp
      refine I.good i (aV.mpr ⟨hi, h⟩) hm ?_
      have hp2 := hp.out (P := fun x => x ∈ s.pl) h fun x y ax hx e a => by
        have hw : s.w = win i := (wP hx).symm.trans ax.2.1
        exact S.stay x hx y (jA (mP hx) (by rw [hw]; exact e))
      have st : ∀ x y, x ∈ js → x ∉ s.pl → win x = win i → Wy ps js (win i) (fun i => if i ∈ s.pl then s.mv i else mv i) x y → (y ∈ js ∧ (if y ∈ s.pl then s.w else win y) = win i ∧ aJ ps y ≤ aJ ps i) ∧ y ∉ s.pl → Wy ps (bD js s.pl) (win i) mv x y ∧ (y ∈ bD js s.pl ∧ win y = win i ∧ aJ ps y ≤ aJ ps i) := fun x y hx hxn hwx e a => by
        refine ⟨?_, aV.mpr ⟨a.1.1, a.2⟩, (wR a.2).symm.trans a.1.2.1, a.1.2.2⟩
        rcases goR x y hx hxn (by rw [hwx]; exact jA (mR hxn) e) with ⟨_, _, z⟩ | ⟨_, z⟩
        · rw [hwx] at z; exact z
        · exact (a.2 z).elim
      exact hp2.imp (fun y e a => st i y hi h rfl e a) fun x y ax e a => st x y ax.1.1 ax.2 ((wR ax.2).symm.trans ax.1.2.1) e a
theorem x8 {ps : List P4} (win : Int → Int) (mv : Int → Option Int) : tK ps [] win mv := by
  refine ⟨?_, ?_, ?_, ?_, ?_⟩ <;> intro i hi <;> cases hi
section
variable {ps : List P4} {js : List Int} (hj : bC ps.length js) (hw : cR ps js) (hown : ∀ i ∈ js, ai ps i = 0 ∨ ai ps i = 1) {h w : Int} (ew : w = h % 2) (hmax : ∀ i ∈ js, aJ ps i ≤ h)
  {tops : List Int} (htop : ∀ i, i ∈ tops ↔ i ∈ js ∧ aJ ps i = h) {rk : Int → Option Int} (A : mB ps js w tops rk) {sub : List Int} (hsub : ∀ i, i ∈ sub ↔ i ∈ js ∧ rk i = none) {win : Int → Int} {mv : Int → Option Int} (I : tK ps sub win mv) (hmv : ∀ i, i ∉ sub → mv i = none)
include hj hw hown ew hmax htop A hsub I hmv
theorem u5 (hne : js ≠ []) (hl : ∀ i ∈ sub, win i = w) : gp ps js ⟨w, js, bp (bp (fD ps w rk) mv) (bI ps w js)⟩ := by
  have w01 : w = 0 ∨ w = 1 := by omega
  obtain ⟨M, eM⟩ : ∃ M, M = bp (bp (fD ps w rk) mv) (bI ps w js) := ⟨_, rfl⟩
  rw [← eM]
  -- the move at a place of w
  have own : ∀ i ∈ js, ai ps i = w → ∃ g, M i = some g ∧ g ∈ aF ps i ∧ g ∈ js ∧ (∀ q, rk i = some q → 0 < q → rk g = some (q - 1)) ∧ (rk i = none → mv i = some g) := fun i hi ho => by
    rw [eM]
    unfold bp
    cases hr : rk i with
    | none =>
      have his := (hsub i).mpr ⟨hi, hr⟩
      obtain ⟨g, g1, g2⟩ := I.has i his (by rw [hl i his]; exact ho)
      have gs := (I.stay i his g (by rw [hl i his]; exact .inl ⟨ho, g1⟩)).1
      exact ⟨g, by rw [dk (.inr (.inl hr)), g1]; rfl, g2, ((hsub g).mp gs).1, (fun q z => nomatch z), fun _ => g1⟩
    | some q =>
      by_cases hq : 0 < q
      · obtain ⟨g, g1, g2, g3⟩ := pQ A hr hq ho
        exact ⟨g, by rw [g1]; rfl, cE g2, cG g2, fun q' z _ => by cases z; exact g3, fun z => by cases z⟩
      · obtain ⟨g, g1, g2⟩ := oG hi ho (hw i hi)
        have h0 : q = 0 := by have := A.nneg i q hr; omega
        have hn : mv i = none := hmv i fun z => by have := ((hsub i).mp z).2; rw [hr] at this; cases this
        refine ⟨g, by rw [dk (.inr (.inr (by rw [hr, h0]))), hn, g1]; rfl, cE g2, cG g2, fun q' z y => by cases z; omega, fun z => by cases z⟩
  refine ⟨w01, fun i hi => hi, hne, fun i hi ho => ?_, fun i hi => ?_, fun i hi g hg => ?_, fun i hi hn => (hn hi).elim, fun i hi hn => (hn hi).elim, fun i hi hm hp => ?_⟩
  · obtain ⟨g, g1, g2, _⟩ := own i hi ho
    exact ⟨g, g1, g2⟩
  · show M i = none
    rw [eM]
    unfold bp
    rw [iq hi]
    rcases hi with hi | hi
    · have hr : rk i = none := by
        cases hr : rk i with
        | none => rfl
        | some q => exact (hi (A.sub i q hr)).elim
      rw [dk (.inr (.inl hr)), hmv i fun z => hi ((hsub i).mp z).1]
      rfl
    · rw [dk (.inl hi)]
      by_cases his : i ∈ sub
      · rw [I.non i his (by rw [hl i his]; exact hi)]; rfl
      · rw [hmv i his]; rfl
  · show g ∈ js
    rcases hg with ⟨ho, hm⟩ | ⟨_, hm⟩
    · obtain ⟨g', g1, _, g3, _⟩ := own i hi ho
      rw [show M i = some g from hm] at g1
      cases g1
      exact g3
    · exact cG hm
  · -- a bad ring
    have hm' : aJ ps i % 2 ≠ w := hm
    have hlt : aJ ps i < h := by
      have := hmax i hi
      by_cases z : aJ ps i = h
      · rw [z] at hm'; exact (hm' ew.symm).elim
      · omega
    have dec : ∀ x y q, x ∈ js → aJ ps x ≤ aJ ps i → rk x = some q → Wy ps js w M x y → ∃ t, rk y = some t ∧ t < q := fun x y q hx hmx hq e => by
      have hpos : 0 < q := by
        have := A.nneg x q hq
        by_cases z : q = 0
        · subst z
          have := ((htop x).mp ((A.zero x).mp hq)).2
          omega
        · omega
      rcases e with ⟨ho, hmv'⟩ | ⟨ho, hmv'⟩
      · obtain ⟨g, g1, _, _, g4, _⟩ := own x hx ho
        rw [hmv'] at g1
        cases g1
        exact ⟨q - 1, g4 q hq hpos, by omega⟩
      · exact (A.oth x q hq hpos ho).2 y hmv'
    by_cases hri : rk i = none
    · -- all of it lies in what is left
      have his := (hsub i).mpr ⟨hi, hri⟩
      have hp2 := hp.out (P := fun x => ∃ q, rk x = some q) (by rintro ⟨q, hq⟩; rw [hri] at hq; cases hq) fun x y ax ⟨q, hq⟩ e _ => by
        obtain ⟨t, ht, _⟩ := dec x y q ax.1 ax.2 hq e
        exact ⟨t, ht⟩
      have non : ∀ {x}, ¬ (∃ q, rk x = some q) → rk x = none := fun {x} z => by
        cases hr : rk x with
        | none => rfl
        | some q => exact (z ⟨q, hr⟩).elim
      refine I.good i his (by rw [hl i his]; exact hm') ?_
      rw [hl i his]
      have st : ∀ x y, x ∈ js → rk x = none → Wy ps js w M x y → (y ∈ js ∧ aJ ps y ≤ aJ ps i) ∧ ¬ (∃ q, rk y = some q) → Wy ps sub w mv x y ∧ (y ∈ sub ∧ win y = w ∧ aJ ps y ≤ aJ ps i) := fun x y hx hrx e a => by
        have hys := (hsub y).mpr ⟨a.1.1, non a.2⟩
        refine ⟨?_, hys, hl y hys, a.1.2⟩
        rcases e with ⟨ho, hmv'⟩ | ⟨ho, hmv'⟩
        · obtain ⟨g, g1, _, _, _, g5⟩ := own x hx ho
          rw [hmv'] at g1
          cases g1
          exact .inl ⟨ho, g5 hrx⟩
        · exact .inr ⟨ho, dD (cE hmv') hys⟩
      exact hp2.imp (fun y e a => st i y hi hri e a) fun x y ax e a => st x y ax.1.1 (non ax.2) e a
    · -- ranks fall
      obtain ⟨q0, hq0⟩ : ∃ q, rk i = some q := by
        cases hr : rk i with
        | none => exact (hri hr).elim
        | some q => exact ⟨q, rfl⟩
      have hp2 := hp.inn (P := fun x => x ∈ js ∧ aJ ps x ≤ aJ ps i ∧ ∃ q, rk x = some q) ⟨hi, Int.le_refl _, q0, hq0⟩ fun x y ⟨hx, hmx, q, hq⟩ e a => by
        obtain ⟨t, ht, _⟩ := dec x y q hx hmx hq e
        exact ⟨a.1, a.2, t, ht⟩
      have fall : ∀ x y, x ∈ js → aJ ps x ≤ aJ ps i → (∃ q, rk x = some q) → Wy ps js w M x y → (rk y).getD 0 < (rk x).getD 0 := fun x y hx hmx ⟨q, hq⟩ e => by
        obtain ⟨t, ht, hlt'⟩ := dec x y q hx hmx hq e
        rw [ht, hq]
        exact hlt'
      have := hp2.less (φ := fun x => (rk x).getD 0) (fun y e _ => fall i y hi (Int.le_refl _) ⟨q0, hq0⟩ e) fun x y ax e _ => by
        have := fall x y ax.2.1 ax.2.2.1 ax.2.2.2 e
        omega
      exact absurd this (Int.lt_irrefl _)
theorem sM {lost : List Int} (hlost : ∀ i, i ∈ lost ↔ i ∈ sub ∧ win i = 1 - w) (hne : lost ≠ []) {rk2 : Int → Option Int} (B : mB ps js (1 - w) lost rk2) {pl : List Int} (hpl : ∀ i, i ∈ pl ↔ ∃ q, rk2 i = some q) :
    gp ps js ⟨1 - w, pl, bp (fD ps (1 - w) rk2) (fun i => if i ∈ lost then mv i else none)⟩ := by
  have w01 : w = 0 ∨ w = 1 := by omega
  obtain ⟨M, eM⟩ : ∃ M, M = bp (fD ps (1 - w) rk2) (fun i => if i ∈ lost then mv i else none) := ⟨_, rfl⟩
  rw [← eM]
  have l0 : ∀ {i}, i ∈ lost → rk2 i = some 0 := fun {i} hi => (B.zero i).mpr hi
  have own : ∀ i q, rk2 i = some q → ai ps i = 1 - w → ∃ g, M i = some g ∧ g ∈ aF ps i ∧ ((0 < q ∧ rk2 g = some (q - 1)) ∨ (q = 0 ∧ g ∈ lost ∧ mv i = some g)) := fun i q hq ho => by
    rw [eM]
    unfold bp
    by_cases hp : 0 < q
    · obtain ⟨g, g1, g2, g3⟩ := pQ B hq hp ho
      exact ⟨g, by rw [g1]; rfl, cE g2, .inl ⟨hp, g3⟩⟩
    · have h0 : q = 0 := by have := B.nneg i q hq; omega
      have hi : i ∈ lost := (B.zero i).mp (by rw [hq, h0])
      obtain ⟨hs, hwi⟩ := (hlost i).mp hi
      obtain ⟨g, g1, g2⟩ := I.has i hs (by rw [hwi]; exact ho)
      obtain ⟨s1, s2⟩ := I.stay i hs g (by rw [hwi]; exact .inl ⟨ho, g1⟩)
      refine ⟨g, ?_, g2, .inr ⟨h0, (hlost g).mpr ⟨s1, s2.trans hwi⟩, g1⟩⟩
      rw [dk (.inr (.inr (by rw [hq, h0])))]
      show (if i ∈ lost then mv i else none) = _
      rw [if_pos hi, g1]
  have go : ∀ i q g, rk2 i = some q → Wy ps js (1 - w) M i g → ∃ t, rk2 g = some t ∧ ((t < q) ∨ (q = 0 ∧ t = 0 ∧ Wy ps sub (1 - w) mv i g)) := fun i q g hq e => by
    rcases e with ⟨ho, hm⟩ | ⟨ho, hm⟩
    · obtain ⟨g', g1, _, g3⟩ := own i q hq ho
      rw [hm] at g1
      cases g1
      rcases g3 with ⟨z1, z2⟩ | ⟨z1, z2, z3⟩
      · exact ⟨q - 1, z2, .inl (by omega)⟩
      · exact ⟨0, l0 z2, .inr ⟨z1, rfl, .inl ⟨ho, z3⟩⟩⟩
    · by_cases hp : 0 < q
      · obtain ⟨t, t1, t2⟩ := (B.oth i q hq hp ho).2 g hm
        exact ⟨t, t1, .inl t2⟩
      · have h0 : q = 0 := by have := B.nneg i q hq; omega
        have hi : i ∈ lost := (B.zero i).mp (by rw [hq, h0])
        obtain ⟨hs, hwi⟩ := (hlost i).mp hi
        obtain ⟨hij, hin⟩ := (hsub i).mp hs
        have how : ai ps i = w := by have := hown i hij; omega
        have hgs : g ∈ sub := (hsub g).mpr ⟨cG hm, A.outO i hij hin how g hm⟩
        have wy : Wy ps sub (1 - w) mv i g := .inr ⟨ho, dD (cE hm) hgs⟩
        obtain ⟨s1, s2⟩ := I.stay i hs g (by rw [hwi]; exact wy)
        exact ⟨0, l0 ((hlost g).mpr ⟨s1, s2.trans hwi⟩), .inr ⟨h0, rfl, wy⟩⟩
  refine ⟨by show 1 - w = 0 ∨ 1 - w = 1; omega, fun i hi => ?_, ?_, fun i hi ho => ?_, fun i hi => ?_, fun i hi g hg => ?_, fun i hi hn ho g hg hgp => ?_, fun i hi hn ho => ?_, fun i hi hm hp => ?_⟩
  · obtain ⟨q, hq⟩ := (hpl i).mp hi
    exact B.sub i q hq
  · obtain ⟨i, hi⟩ := List.exists_mem_of_ne_nil _ hne
    exact List.ne_nil_of_mem ((hpl i).mpr ⟨0, l0 hi⟩)
  · obtain ⟨q, hq⟩ := (hpl i).mp hi
    obtain ⟨g, g1, g2, _⟩ := own i q hq ho
    exact ⟨g, g1, g2⟩
  · show M i = none
    rw [eM]
    unfold bp
    rcases hi with hi | hi
    · have hr : rk2 i = none := by
        cases hr : rk2 i with
        | none => rfl
        | some q => exact (hi ((hpl i).mpr ⟨q, hr⟩)).elim
      rw [dk (.inr (.inl hr))]
      show (if i ∈ lost then mv i else none) = _
      rw [if_neg fun z => by rw [l0 z] at hr; cases hr]
    · rw [dk (.inl hi)]
      show (if i ∈ lost then mv i else none) = _
      by_cases z : i ∈ lost
      · obtain ⟨hs, hwi⟩ := (hlost i).mp z
        rw [if_pos z, I.non i hs (by rw [hwi]; exact hi)]
      · rw [if_neg z]
  · obtain ⟨q, hq⟩ := (hpl i).mp hi
    obtain ⟨t, ht, _⟩ := go i q g hq hg
    exact (hpl g).mpr ⟨t, ht⟩
  · have hr : rk2 i = none := by
      cases hr : rk2 i with
      | none => rfl
      | some q => exact (hn ((hpl i).mpr ⟨q, hr⟩)).elim
    obtain ⟨q, hq⟩ := (hpl g).mp hgp
    rw [B.outO i hi hr ho g hg] at hq
    cases hq
  · have hr : rk2 i = none := by
      cases hr : rk2 i with
      | none => rfl
      | some q => exact (hn ((hpl i).mpr ⟨q, hr⟩)).elim
    obtain ⟨g, g1, g2⟩ := B.outX i hi hr ho (hw i hi)
    refine ⟨g, g1, fun z => ?_⟩
    obtain ⟨q, hq⟩ := (hpl g).mp z
    rw [g2] at hq
    cases hq
  · -- a bad ring
    have hi' : i ∈ pl := hi
    have hm' : aJ ps i % 2 ≠ 1 - w := hm
    obtain ⟨q0, hq0⟩ := (hpl i).mp hi'
    have le : ∀ x y, x ∈ pl → Wy ps js (1 - w) M x y → (rk2 y).getD 0 ≤ (rk2 x).getD 0 := fun x y hx e => by
      obtain ⟨q, hq⟩ := (hpl x).mp hx
      obtain ⟨t, ht, z⟩ := go x q y hq e
      rw [hq, ht]
      show t ≤ q
      omega
    by_cases hz : q0 = 0
    · subst hz
      have hil : i ∈ lost := (B.zero i).mp hq0
      obtain ⟨his, hwi⟩ := (hlost i).mp hil
      have hp2 := hp.inn (P := fun x => x ∈ lost) hil fun x y hx e _ => by
        obtain ⟨t, ht, z⟩ := go x 0 y (l0 hx) e
        have := B.nneg y t ht
        have t0 : t = 0 := by omega
        exact (B.zero y).mp (by rw [ht, t0])
      refine I.good i his (by rw [hwi]; exact hm') ?_
      rw [hwi]
      have st : ∀ x y, x ∈ lost → Wy ps js (1 - w) M x y → (y ∈ pl ∧ aJ ps y ≤ aJ ps i) ∧ y ∈ lost → Wy ps sub (1 - w) mv x y ∧ (y ∈ sub ∧ win y = 1 - w ∧ aJ ps y ≤ aJ ps i) := fun x y hx e a => by
        obtain ⟨s1, s2⟩ := (hlost y).mp a.2
        refine ⟨?_, s1, s2, a.1.2⟩
        obtain ⟨t, ht, z⟩ := go x 0 y (l0 hx) e
        have := B.nneg y t ht
        rcases z with z | ⟨_, _, z⟩
        · omega
        · exact z
      exact hp2.imp (fun y e a => st i y hil e a) fun x y ax e a => st x y ax.2 e a
    · have := hp.less (φ := fun x => (rk2 x).getD 0) (fun y e _ => by
        obtain ⟨t, ht, z⟩ := go i q0 y hq0 e
        show (rk2 y).getD 0 < (rk2 i).getD 0
        rw [ht, hq0]
        show t < q0
        omega) fun x y ax e _ => le x y ax.1 e
      exact absurd this (Int.lt_irrefl _)
end
theorem vM (p : P4) : bV p.d (.int 1) = .ok (.int p.m) := rfl
theorem oO {ps : List P4} {i : Int} (h0 : 0 ≤ i) (h1 : i < ps.length) : aJ ps i = (ps[i.toNat]'(by omega)).m := by
  unfold aJ
  rw [List.getElem?_eq_getElem (by omega)]
  rfl
theorem nz {fe : Fe} {ρ : aX} {g h : Int → PyData} : ∀ (m k : Nat), (∀ j : Nat, k ≤ j → j < k + m → fe (.val (.int j) :: .val (g j) :: ρ) = .ok (h j)) →
    bO (dH 0 1) (fun _ => .ok true) fe (.non :: .non :: ρ) (cL k ((ox k m).map g)) = .ok ((ox k m).map h)
  | 0, k, _ => by unfold ox; simp [cL, dC]
  | m + 1, k, hh => by
    rw [mr, List.map_cons]
    have e : cL k (g k :: (ox (k + 1) m).map g) = .tuple [.int k, g k] :: cL (k + 1) ((ox (k + 1) m).map g) := rfl
    rw [e, jM, nz m (k + 1) fun j h1 h2 => hh j (by omega) (by omega)]
    have hk := hh k (Nat.le_refl _) (by omega)
    simp only [R.ok_bind, if_true, List.set_cons_zero, List.set_cons_succ, hk]
    rfl
theorem qx {f : Int → Option Int} {n : Nat} (hn : n ≤ 1000) {s : PyData} {js : List Int} (hs : pY s js) : cz [oT f n, s] = .ok (oT (fun i => if i ∈ js then f i else none) n) := by
  have hc := nz (fe := yB (tE (e2 (l5 false) (af 0) (af 2))) (af 1) (eC .none)) (ρ := [.val s]) (g := fun i => oD (f i)) (h := fun i => oD (if i ∈ js then f i else none)) n 0 fun j _ _ => by
    simp only [rz, cJ, bA, aq, am, bK, R.ok_bind, hs.inn, cU]
    cases hm : cA js j with
    | true => rw [if_pos (a9.mp hm)]; rfl
    | false => rw [if_neg (show ¬ (j : Int) ∈ js from fun z => by rw [a9.mpr z] at hm; cases hm)]; rfl
  rw [ka] at hc
  unfold cz jW
  refine em ?_
  rw [show ([oT f n, s].map bo.val ++ List.replicate (2 - [oT f n, s].length) bo.non) = [.val (oT f n), .val s] from rfl]
  rw [cj, bX, bG, show aL 2 [1] [.val (oT f n), .val s] = [.non, .non, .val s] from rfl]
  simp only [iZ, am, R.ok_bind, dN, cm]
  rw [if_pos (by rw [eQ, bS]; exact bZ hn)]
  rw [show cL 0 (cq (fun i => oD (f i)) n) = cL 0 ((ids n).map fun i => oD (f i)) from rfl, hc]
  rfl
theorem vc {ps : List P4} {js : List Int} (hne : js ≠ []) : ∃ h, pZ (.list ((js.map (aJ ps)).map .int)) = .ok (.int h) ∧ (∃ i ∈ js, aJ ps i = h) ∧ ∀ i ∈ js, aJ ps i ≤ h := by
  cases js with
  | nil => exact (hne rfl).elim
  | cons j js =>
    obtain ⟨s1, s2⟩ := oA (aJ ps j) (js.map (aJ ps))
    refine ⟨rG (aJ ps j) (js.map (aJ ps)), ?_, ?_, fun i hi => ?_⟩
    · show (match dJ (((j :: js).map (aJ ps)).map .int) with | some (n :: ns) => R.ok (PyData.int (rG n ns)) | _ => .no) = _
      rw [iQ]
      rfl
    · rw [← List.map_cons (f := aJ ps)] at s1
      obtain ⟨i, hi, e⟩ := List.mem_map.mp s1
      exact ⟨i, hi, e⟩
    · exact s2 _ (by rw [← List.map_cons (f := aJ ps)]; exact List.mem_map.mpr ⟨i, hi, rfl⟩)
def kF (sub : List Int) (win : Int → Int) (i : Int) : Option Int := if i ∈ sub then some (win i) else none
section
variable {ps : List P4} (G : Gr ps) {c : Addr} {k : Nat} {js : List Int} (hj : bC ps.length js) (hw : cR ps js) (hne : js ≠ []) (hown : ∀ i ∈ js, ai ps i = 0 ∨ ai ps i = 1)
include G hj hw hne hown
theorem w8 (ih : ∀ (h : Int) (sub : List Int), bC ps.length sub → cR ps sub → (∀ i ∈ sub, i ∈ js ∧ aJ ps i < h) → (∃ i ∈ js, aJ ps i = h) → ∃ win mv, aO c k [gD ps, .tuple (sub.map .int)] = .ok (.tuple [oT (kF sub win) ps.length, oT mv ps.length]) ∧ tK ps sub win mv ∧ ∀ i, i ∉ sub → mv i = none) :
    ∃ s, aZ c k [gD ps, .tuple (js.map .int)] = .ok (fL c ps.length s) ∧ gp ps js s ∧ bC ps.length s.pl := by
  have hp := G.hp
  have hjl := hj.len
  obtain ⟨h, hmx, htopx, hmax⟩ := vc (ps := ps) hne
  obtain ⟨w, ew⟩ : ∃ w, w = h % 2 := ⟨_, rfl⟩
  have w01 : w = 0 ∨ w = 1 := by omega
  obtain ⟨tops, etops⟩ : ∃ tops, tops = js.filter fun i => decide (aJ ps i = h) := ⟨_, rfl⟩
  have htop : ∀ i, i ∈ tops ↔ i ∈ js ∧ aJ ps i = h := fun i => by rw [etops, List.mem_filter, decide_eq_true_iff]
  have tp : bC ps.length tops := by rw [etops]; exact hj.filter _
  obtain ⟨rk, erk⟩ : ∃ rk, rk = rK ps js w tops := ⟨_, rfl⟩
  have A : mB ps js w tops rk := by rw [erk]; exact jk tp.nd (fun x hx => ((htop x).mp hx).1) hj.nd hj.len
  have h1 := e8 G.hl G.hgo G.hp (s := .tuple (js.map .int)) (g := .list (tops.map .int)) (.inl rfl) (.inr rfl) hj tp (fun x hx => ((htop x).mp hx).1) hw (who := w)
  rw [← erk] at h1
  have h2 := fQ (f := rk) (n := ps.length) (by omega)
  have h3 := dW (s := .tuple (js.map .int)) (t := .tuple ((cI rk ps.length).map .int)) (.inl rfl) (.inl rfl) (by omega)
  obtain ⟨sub, esub⟩ : ∃ sub, sub = bD js (cI rk ps.length) := ⟨_, rfl⟩
  have hsub : ∀ i, i ∈ sub ↔ i ∈ js ∧ rk i = none := fun i => by
    rw [esub, aV, cW]
    constructor
    · rintro ⟨a, b⟩
      refine ⟨a, ?_⟩
      cases hr : rk i with
      | none => rfl
      | some q => exact (b ⟨hj.inn i a, q, hr⟩).elim
    · rintro ⟨a, b⟩
      exact ⟨a, fun ⟨_, q, hq⟩ => by rw [b] at hq; cases hq⟩
  have sp : bC ps.length sub := by rw [esub]; exact hj.filter _
  have sw : cR ps sub := by
    intro i hi
    obtain ⟨a, b⟩ := (hsub i).mp hi
    have fin : ∀ g ∈ bg ps js i, rk g = none → ∃ g, g ∈ bg ps sub i := fun g g1 g2 => ⟨g, dD (cE g1) ((hsub g).mpr ⟨cG g1, g2⟩)⟩
    by_cases ho : ai ps i = w
    · obtain ⟨g, hg⟩ := hw i a
      exact fin g hg (A.outO i a b ho g hg)
    · obtain ⟨g, g1, g2⟩ := A.outX i a b ho (hw i a)
      exact fin g g1 g2
  obtain ⟨win, mv, h4, I, hmv⟩ := ih h sub sp sw (fun i hi => by
    obtain ⟨a, b⟩ := (hsub i).mp hi
    refine ⟨a, ?_⟩
    have := hmax i a
    by_cases z : aJ ps i = h
    · have := (A.zero i).mpr ((htop i).mpr ⟨a, z⟩)
      rw [b] at this
      cases this
    · omega) htopx
  have h5 := dE G (fX A)
  -- the lists
  have hmarks : bO (bj 0) (fun _ => .ok true) (e2 bV (e2 bV (af 1) (af 0)) (eC (.int 1))) [.non, .val (gD ps)] (js.map .int) = .ok ((js.map (aJ ps)).map .int) := by
    have go : ∀ is : List Int, (∀ x ∈ is, 0 ≤ x ∧ x < ps.length) → bO (bj 0) (fun _ => .ok true) (e2 bV (e2 bV (af 1) (af 0)) (eC (.int 1))) [.non, .val (gD ps)] (is.map .int) = .ok ((is.map (aJ ps)).map .int) := by
      intro is
      induction is with
      | nil => exact fun _ => dC ..
      | cons i is ih' =>
        intro hb
        obtain ⟨b0, b1⟩ := hb i List.mem_cons_self
        rw [List.map_cons, eW, ih' fun x hx => hb x (List.mem_cons_of_mem _ hx)]
        simp only [R.ok_bind, if_true, List.set_cons_zero, bA, am, aq, bK, ly b0 b1, vM]
        rw [← oO b0 b1]
        rfl
    exact go js hj.inn
  have htops := cv (t := tE (e2 (iy) (e2 bV (e2 bV (af 1) (af 0)) (eC (.int 1))) (af 2))) (ρ := [.val (gD ps), .val (.int h)]) (p := fun i => decide (aJ ps i = h)) js fun i hi => by
    obtain ⟨b0, b1⟩ := hj.inn i hi
    simp only [List.set_cons_zero, cJ, bA, am, aq, bK, R.ok_bind, ly b0 b1, vM, fF, cU]
    rw [← oO b0 b1]
  rw [← etops] at htops
  obtain ⟨lost, elost⟩ : ∃ lost, lost = (ids ps.length).filter fun i => decide (kF sub win i = some (1 - w)) := ⟨_, rfl⟩
  have hlost : ∀ i, i ∈ lost ↔ i ∈ sub ∧ win i = 1 - w := fun i => by
    rw [elost, List.mem_filter, decide_eq_true_iff]
    unfold kF
    constructor
    · rintro ⟨a, b⟩
      split at b
      · rename_i z; exact ⟨z, Option.some.inj b⟩
      · cases b
    · rintro ⟨a, b⟩
      exact ⟨bY.mpr (sp.inn i a), by rw [if_pos a, b]⟩
  have lp : bC ps.length lost := by rw [elost]; exact (bC.ids _).filter _
  have hlist := iT (t := tE (e2 (iy) (af 1) (af 2))) (ρ := [.val (.int (1 - w))]) (p := fun i => decide (kF sub win i = some (1 - w))) (g := fun i => oD (kF sub win i)) ps.length 0 fun j _ _ => by
    simp only [cJ, bA, aq, am, R.ok_bind, tN, cU]
  rw [ka, ← elost] at hlist
  obtain ⟨B, hB⟩ : ∃ B, B = PyData.tuple [oT (kF sub win) ps.length, oT mv ps.length] := ⟨_, rfl⟩
  rw [← hB] at h4
  have hB0 : bV B (.int 0) = .ok (oT (kF sub win) ps.length) := by rw [hB]; rfl
  have hB1 : bV B (.int 1) = .ok (oT mv ps.length) := by rw [hB]; rfl
  -- up to the test
  have pre : ∀ {r : R PyData}, ((aY (lY (tE (e2 (iy) (e1 cX (af 8)) (eC (.int 0)))) (aY (bH 9 (aC ar (ag (aC aN (ag (af 0) (ag (af 3) (ag (af 6) aH)))) (ag (e2 bV (af 7) (eC (.int 1))) aH)))) (cD (lS c ["who", "places", "moves"] (ag (af 3) (ag (af 1) (ag (aC ar (ag (af 9) (ag (aC aA (ag (af 0) (ag (af 3) (ag (af 1) aH)))) aH))) aH)))))) dI) (aY (bH 6 (aC aW (ag (af 0) (ag (af 1) (ag (af 4) (ag (af 8) aH)))))) (aY (bH 9 (aC ar (ag (aC aN (ag (af 0) (ag (af 4) (ag (af 6) aH)))) (ag (aC cz (ag (e2 bV (af 7) (eC (.int 1))) (ag (af 8) aH))) aH)))) (cD (lS c ["who", "places", "moves"] (ag (af 4) (ag (aC a7 (ag (af 6) aH)) (ag (af 9) aH)))))))) [.val (gD ps), .val (.tuple (js.map .int)), .val (.int h), .val (.int w), .val (.int (1 - w)), .val (.list (tops.map .int)), .val (oT rk ps.length), .val B, .val (.list (lost.map .int)), .non] >>= z0) = r → aZ c k [gD ps, .tuple (js.map .int)] = r := fun {r} hr => by
    unfold aZ dG
    rw [eu, show ([gD ps, .tuple (js.map .int)].map bo.val ++ List.replicate (10 - [gD ps, .tuple (js.map .int)].length) bo.non) = [.val (gD ps), .val (.tuple (js.map .int)), .non, .non, .non, .non, .non, .non, .non, .non] from rfl]
    rw [aQ (ρ' := [.val (gD ps), .val (.tuple (js.map .int)), .val (.int h), .non, .non, .non, .non, .non, .non, .non]) (by
      rw [a4, bX, bG, show aL 1 [0] [.val (gD ps), .val (.tuple (js.map .int)), .non, .non, .non, .non, .non, .non, .non, .non] = [.non, .val (gD ps)] from rfl]
      simp only [cC, am, aq, R.ok_bind, dN, cm]
      rw [if_pos (by rw [List.length_map]; exact bZ (by omega)), hmarks, kl, R.ok_bind, hmx]
      rfl)]
    rw [aQ (ρ' := [.val (gD ps), .val (.tuple (js.map .int)), .val (.int h), .val (.int w), .non, .non, .non, .non, .non, .non]) (by
      simp only [a4, bA, am, aq, bK, R.ok_bind, se]
      rw [if_pos (by decide), ← ew]; rfl)]
    rw [aQ (ρ' := [.val (gD ps), .val (.tuple (js.map .int)), .val (.int h), .val (.int w), .val (.int (1 - w)), .non, .non, .non, .non, .non]) (by
      simp only [a4, bA, am, aq, bK, R.ok_bind, kO]; rfl)]
    rw [aQ (ρ' := [.val (gD ps), .val (.tuple (js.map .int)), .val (.int h), .val (.int w), .val (.int (1 - w)), .val (.list (tops.map .int)), .non, .non, .non, .non]) (by
      rw [a4, bG, show aL 1 [0, 2] [.val (gD ps), .val (.tuple (js.map .int)), .val (.int h), .val (.int w), .val (.int (1 - w)), .non, .non, .non, .non, .non] = [.non, .val (gD ps), .val (.int h)] from rfl]
      simp only [cC, am, aq, R.ok_bind, dN, cm]
      rw [if_pos (by rw [List.length_map]; exact bZ (by omega)), htops]
      rfl)]
    rw [aQ (ρ' := [.val (gD ps), .val (.tuple (js.map .int)), .val (.int h), .val (.int w), .val (.int (1 - w)), .val (.list (tops.map .int)), .val (oT rk ps.length), .non, .non, .non]) (by
      simp only [a4, aM, aB, aP, am, aq, R.ok_bind, h1]; rfl)]
    rw [aQ (ρ' := [.val (gD ps), .val (.tuple (js.map .int)), .val (.int h), .val (.int w), .val (.int (1 - w)), .val (.list (tops.map .int)), .val (oT rk ps.length), .val B, .non, .non]) (by
      simp only [a4, aM, aB, aP, am, aq, R.ok_bind, h2, h3]
      rw [show (js.filter fun i => !cA (cI rk ps.length) i) = sub from esub.symm, h4]
      rfl)]
    rw [aQ (ρ' := [.val (gD ps), .val (.tuple (js.map .int)), .val (.int h), .val (.int w), .val (.int (1 - w)), .val (.list (tops.map .int)), .val (oT rk ps.length), .val B, .val (.list (lost.map .int)), .non]) (by
      rw [a4, bG, show aL 2 [4] [.val (gD ps), .val (.tuple (js.map .int)), .val (.int h), .val (.int w), .val (.int (1 - w)), .val (.list (tops.map .int)), .val (oT rk ps.length), .val B, .non, .non] = [.non, .non, .val (.int (1 - w))] from rfl]
      simp only [iZ, bA, am, aq, bK, R.ok_bind, hB0, dN, cm]
      rw [if_pos (by rw [eQ, bS]; exact bZ (by omega))]
      rw [show cL 0 (cq (fun i => oD (kF sub win i)) ps.length) = cL 0 ((ids ps.length).map fun i => oD (kF sub win i)) from rfl, hlist]
      rfl)]
    exact hr
  by_cases hl : lost = []
  · have hall : ∀ i ∈ sub, win i = w := fun i hi => by
      by_cases z : win i = 1 - w
      · have := (hlost i).mpr ⟨hi, z⟩
        rw [hl] at this
        cases this
      · have := I.two i hi
        omega
    have S := u5 hj hw hown ew hmax htop A hsub I hmv hne hall
    have h6 := dA G (who := w) (s := .tuple (js.map .int)) (.inl rfl) hj fun i hi _ => hw i hi
    refine ⟨_, pre ?_, S, hj⟩
    rw [rX (d := fL c ps.length ⟨w, js, bp (bp (fD ps w rk) mv) (bI ps w js)⟩) ?_]
    · rfl
    · rw [dU, cJ, bA, bX]
      simp only [am, aq, bK, R.ok_bind, hl, List.map_nil, nc, List.length_nil, fF, cU]
      rw [if_pos (by decide)]
      rw [aQ (ρ' := [.val (gD ps), .val (.tuple (js.map .int)), .val (.int h), .val (.int w), .val (.int (1 - w)), .val (.list (tops.map .int)), .val (oT rk ps.length), .val B, .val (.list []), .val (oT (bp (fD ps w rk) mv) ps.length)]) (by
        simp only [a4, aM, aB, aP, bA, bK, am, aq, R.ok_bind, h5, hB1, jd (show ps.length ≤ 1000 by omega)]
        rfl)]
      unfold lS
      simp only [cj, aM, aB, aP, am, aq, R.ok_bind, h6, jd (show ps.length ≤ 1000 by omega)]
      rfl
  · obtain ⟨rk2, erk2⟩ : ∃ rk2, rk2 = rK ps js (1 - w) lost := ⟨_, rfl⟩
    have lsub : ∀ x ∈ lost, x ∈ js := fun x hx => ((hsub x).mp ((hlost x).mp hx).1).1
    have B2 : mB ps js (1 - w) lost rk2 := by rw [erk2]; exact jk lp.nd lsub hj.nd hj.len
    have g1 := e8 G.hl G.hgo G.hp (s := .tuple (js.map .int)) (g := .list (lost.map .int)) (.inl rfl) (.inr rfl) hj lp lsub hw (who := 1 - w)
    rw [← erk2] at g1
    have g2 := fQ (f := rk2) (n := ps.length) (by omega)
    have g3 := dE G (fX B2)
    have g4 := qx (f := mv) (n := ps.length) (by omega) (s := .list (lost.map .int)) (js := lost) (.inr rfl)
    have S := sM hj hw hown ew hmax htop A hsub I hmv hlost hl B2 (pl := cI rk2 ps.length) fun i => by
      rw [cW]
      exact ⟨fun z => z.2, fun ⟨q, hq⟩ => ⟨hj.inn i (B2.sub i q hq), q, hq⟩⟩
    have hlen : ¬ (lost.length : Int) = 0 := by
      have := List.length_pos_iff.mpr hl
      omega
    refine ⟨_, pre ?_, S, jV _ _⟩
    rw [aQ (ρ' := [.val (gD ps), .val (.tuple (js.map .int)), .val (.int h), .val (.int w), .val (.int (1 - w)), .val (.list (tops.map .int)), .val (oT rk ps.length), .val B, .val (.list (lost.map .int)), .non]) (by
      rw [dU, cJ, bA, bX]
      simp only [am, aq, bK, R.ok_bind, nc, List.length_map, fF, cU, decide_eq_false hlen]
      rfl)]
    rw [aQ (ρ' := [.val (gD ps), .val (.tuple (js.map .int)), .val (.int h), .val (.int w), .val (.int (1 - w)), .val (.list (tops.map .int)), .val (oT rk2 ps.length), .val B, .val (.list (lost.map .int)), .non]) (by
      simp only [a4, aM, aB, aP, am, aq, R.ok_bind, g1]; rfl)]
    rw [aQ (ρ' := [.val (gD ps), .val (.tuple (js.map .int)), .val (.int h), .val (.int w), .val (.int (1 - w)), .val (.list (tops.map .int)), .val (oT rk2 ps.length), .val B, .val (.list (lost.map .int)), .val (oT (bp (fD ps (1 - w) rk2) fun i => if i ∈ lost then mv i else none) ps.length)]) (by
      simp only [a4, aM, aB, aP, bA, bK, am, aq, R.ok_bind, g3, hB1, g4, jd (show ps.length ≤ 1000 by omega)]
      rfl)]
    unfold lS
    simp only [cj, aM, aB, aP, am, aq, R.ok_bind, g2]
    rfl
end
def t9 (c : Addr) (k : Nat) : Fs := (aY (bH 4 (aC (aZ c k) (ag (af 0) (ag (af 3) aH)))) (aY (du 2 (af 4)) (bH 3 (aC aD (ag (af 3) (ag (e1 (iB c "places") (af 4)) aH))))))
abbrev lR (ps : List P4) (c : Addr) (s : PyData) (acc : List Sh) (js : List Int) (c4 : bo) : aX :=
  [.val (gD ps), .val s, .own (.list (acc.map (fL c ps.length))), .val (.tuple (js.map .int)), c4]
theorem yZ {ps : List P4} (G : Gr ps) {c : Addr} {kk : Nat} {s0 : PyData} {Pm : Int → Prop} (hown : ∀ i, Pm i → ai ps i = 0 ∨ ai ps i = 1) (hS : ∀ js, bC ps.length js → cR ps js → js ≠ [] → (∀ i ∈ js, Pm i) → ∃ s, aZ c kk [gD ps, .tuple (js.map .int)] = .ok (fL c ps.length s) ∧ gp ps js s ∧ bC ps.length s.pl) :
    ∀ (k n : Nat) (js : List Int) (acc : List Sh) (c4 : bo), bC ps.length js → cR ps js → (∀ i ∈ js, Pm i) → js.length ≤ k → k + 1 ≤ n → acc.length + k ≤ 1000 →
    ∃ l c4' win mv, cZ (tE (e2 (dz l6) (e1 cX (af 3)) (eC (.int 0)))) (t9 c kk) n (lR ps c s0 acc js c4) = .ok (.nx (lR ps c s0 (acc ++ l) [] c4')) ∧ (∀ f i, gL f l i = if i ∈ js then some (win i) else f i) ∧ (∀ m i, (i ∈ js → m i = none) → kQ m l i = if i ∈ js then mv i else m i) ∧ tK ps js win mv ∧ ∀ s ∈ l, ∀ x ∈ s.pl, 0 ≤ x ∧ x < ps.length
  | k, 0, js, acc, c4, _, _, _, _, h, _ => by omega
  | k, n + 1, js, acc, c4, hj, hw, hm, hk, hn, hz => by
    have hp := G.hp
    rw [kt]
    have ht : tE (e2 (dz l6) (e1 cX (af 3)) (eC (.int 0))) (lR ps c s0 acc js c4) = .ok (decide (0 < js.length)) := by
      simp only [cJ, bA, bX, aq, am, bK, R.ok_bind, jZ, kZ, cU, List.length_map]
      congr 1
      simp
    rw [ht, R.ok_bind]
    by_cases h0 : js = []
    · subst h0
      refine ⟨[], c4, fun _ => 0, fun _ => none, by rw [List.append_nil]; rfl, fun f i => by simp [gL], fun m i _ => by simp [kQ], x8 _ _, fun s hs => by cases hs⟩
    · have hpos := List.length_pos_iff.mpr h0
      rw [if_pos (decide_eq_true hpos)]
      cases k with
      | zero => omega
      | succ k =>
        obtain ⟨s, h1, S, sp⟩ := hS js hj hw h0 hm
        have hl : (bD js s.pl).length < js.length := by
          obtain ⟨i, hi⟩ := List.exists_mem_of_ne_nil _ S.ne
          refine Nat.lt_of_le_of_ne (List.length_filter_le ..) fun z => ?_
          have := (eZ _ js).mp z i (S.sub i hi)
          rw [a9.mpr hi] at this
          cases this
        obtain ⟨l, c4', win, mv, e, q1, q2, I, q3⟩ := yZ G hown hS k n (bD js s.pl) (acc ++ [s]) (.val (fL c ps.length s)) (hj.filter _) (S.whole hw) (fun i hi => hm i (aV.mp hi).1) (by omega) (by omega) (by simp; omega)
        have h2 := dW (s := .tuple (js.map .int)) (t := .tuple (s.pl.map .int)) (.inl rfl) (.inl rfl) (by have := hj.len; omega)
        have hb : t9 c kk (lR ps c s0 acc js c4) = .ok (.nx (lR ps c s0 (acc ++ [s]) (bD js s.pl) (.val (fL c ps.length s)))) := by
          unfold t9
          rw [aQ (ρ' := lR ps c s0 acc js (.val (fL c ps.length s))) (by
            simp only [a4, aM, aB, aP, am, aq, R.ok_bind, h1]
            rfl)]
          rw [aQ (ρ' := lR ps c s0 (acc ++ [s]) js (.val (fL c ps.length s))) (by
            rw [ja (ds := acc.map (fL c ps.length)) (af 4) rfl (Nat.lt_of_lt_of_le (show _ < 1001 by rw [List.length_map]; omega) (by decide))]
            simp only [am, aq, cm, R.ok_bind]
            rw [show acc.map (fL c ps.length) ++ [fL c ps.length s] = (acc ++ [s]).map (fL c ps.length) by simp]
            rfl)]
          simp only [a4, aM, aB, aP, bX, am, aq, R.ok_bind, jH, h2]
          rfl
        refine ⟨s :: l, c4', fun i => if i ∈ s.pl then s.w else win i, fun i => if i ∈ s.pl then s.mv i else mv i, ?_, fun f i => ?_, fun m i hmi => ?_, vG (fun i hi => hown i (hm i hi)) S I, fun t ht' x hx => ?_⟩
        · rw [hb, R.ok_bind, ez, e]
          simp
        · show gL (vp s f) l i = _
          rw [q1]
          by_cases hi : i ∈ js
          · rw [if_pos hi]
            dsimp only
            by_cases hs : i ∈ s.pl
            · rw [if_neg fun z => (aV.mp z).2 hs, if_pos hs]
              exact if_pos hs
            · rw [if_pos (aV.mpr ⟨hi, hs⟩), if_neg hs]
          · rw [if_neg fun z => hi (aV.mp z).1, if_neg hi]
            exact if_neg fun z => hi (S.sub i z)
        · show kQ (bp m s.mv) l i = _
          rw [q2 (bp m s.mv) i fun z => by
            obtain ⟨z1, z2⟩ := aV.mp z
            show (m i).or _ = none
            rw [hmi z1, Option.none_or, S.non i (.inl z2)]]
          by_cases hi : i ∈ js
          · rw [if_pos hi]
            dsimp only
            by_cases hs : i ∈ s.pl
            · rw [if_neg fun z => (aV.mp z).2 hs, if_pos hs]
              show (m i).or _ = _
              rw [hmi hi, Option.none_or]
            · rw [if_pos (aV.mpr ⟨hi, hs⟩), if_neg hs]
          · rw [if_neg fun z => hi (aV.mp z).1, if_neg hi]
            show (m i).or _ = _
            rw [S.non i (.inl fun z => hi (S.sub i z)), Option.or_none]
        · rcases List.mem_cons.mp ht' with rfl | z
          · exact sp.inn x hx
          · exact q3 t z x hx
theorem tK.congr {ps : List P4} {js : List Int} {win : Int → Int} {mv mv' : Int → Option Int} (h : tK ps js win mv) (e : ∀ i ∈ js, mv' i = mv i) : tK ps js win mv' := by
  refine ⟨h.two, fun i hi ho => by rw [e i hi]; exact h.has i hi ho, fun i hi ho => by rw [e i hi]; exact h.non i hi ho, fun i hi g hg => h.stay i hi g (jA (e i hi) hg), fun i hi hm hp => h.good i hi hm ?_⟩
  exact hp.imp (fun y a b => ⟨jA (e i hi) a, b⟩) fun x y ax a b => ⟨jA (e x ax.1) a, b⟩
theorem oB {ps : List P4} (G : Gr ps) {c : Addr} {k : Nat} {Pm : Int → Prop} (hown : ∀ i, Pm i → ai ps i = 0 ∨ ai ps i = 1) (hS : ∀ js, bC ps.length js → cR ps js → js ≠ [] → (∀ i ∈ js, Pm i) → ∃ s, aZ c k [gD ps, .tuple (js.map .int)] = .ok (fL c ps.length s) ∧ gp ps js s ∧ bC ps.length s.pl) {js : List Int} (hj : bC ps.length js) (hw : cR ps js) (hm : ∀ i ∈ js, Pm i) :
    ∃ win mv, aO c (k + 1) [gD ps, .tuple (js.map .int)] = .ok (.tuple [oT (kF js win) ps.length, oT mv ps.length]) ∧ tK ps js win mv ∧ ∀ i, i ∉ js → mv i = none := by
  have hp := G.hp
  have hjl := hj.len
  obtain ⟨l, c4, win, mv, e, q1, q2, I, q3⟩ := yZ G (c := c) (s0 := .tuple (js.map .int)) hown hS js.length 1000000 js [] .non hj hw hm (Nat.le_refl _) (by omega) (by simp; omega)
  rw [List.nil_append] at e
  have h3 := za (ps := ps) (by omega) (c := c) q3
  have e1' : oT (gL (fun _ => none) l) ps.length = oT (kF js win) ps.length := congrArg PyData.tuple (ci fun i _ _ => by rw [q1]; rfl)
  have e2' : oT (kQ (fun _ => none) l) ps.length = oT (fun i => if i ∈ js then mv i else none) ps.length := congrArg PyData.tuple (ci fun i _ _ => by rw [q2 _ i fun _ => rfl])
  rw [e1', e2'] at h3
  refine ⟨win, fun i => if i ∈ js then mv i else none, ?_, I.congr fun i hi => if_pos hi, fun i hi => if_neg hi⟩
  show dn 5 (dF (aZ c k) (aI c) aD c) _ = _
  unfold dF
  refine em ?_
  rw [show ([gD ps, .tuple (js.map .int)].map bo.val ++ List.replicate (5 - [gD ps, .tuple (js.map .int)].length) bo.non) = [.val (gD ps), .val (.tuple (js.map .int)), .non, .non, .non] from rfl]
  rw [aQ (ρ' := [.val (gD ps), .val (.tuple (js.map .int)), .own (.list []), .non, .non]) (by rfl)]
  rw [aQ (ρ' := lR ps c (.tuple (js.map .int)) [] js .non) (by rfl)]
  rw [aQ (ρ' := lR ps c (.tuple (js.map .int)) l [] c4) (by
    rw [fI]
    show lh (cZ (tE (e2 (dz l6) (e1 cX (af 3)) (eC (.int 0)))) (t9 c k) 1000000 _) = _
    rw [e]
    rfl)]
  unfold zV
  show cD _ ((lR ps c (.tuple (js.map .int)) l [] c4).set 2 (.val (.list (l.map (fL c ps.length))))) = _
  simp only [List.set_cons_succ, List.set_cons_zero, cj, aM, aB, aP, am, aq, R.ok_bind, h3]
theorem oo {ps : List P4} (G : Gr ps) {c : Addr} : ∀ (k : Nat) (js : List Int), bC ps.length js → cR ps js → (∀ i ∈ js, (ai ps i = 0 ∨ ai ps i = 1) ∧ 0 ≤ aJ ps i ∧ aJ ps i < k) →
    ∃ win mv, aO c (k + 1) [gD ps, .tuple (js.map .int)] = .ok (.tuple [oT (kF js win) ps.length, oT mv ps.length]) ∧ tK ps js win mv ∧ ∀ i, i ∉ js → mv i = none
  | 0, js, hj, hw, hm => oB G (c := c) (Pm := fun i => (ai ps i = 0 ∨ ai ps i = 1) ∧ 0 ≤ aJ ps i ∧ aJ ps i < (0 : Nat)) (fun i h => h.1) (fun js' _ _ hne h => by
      obtain ⟨i, hi⟩ := List.exists_mem_of_ne_nil _ hne
      have := (h i hi).2
      omega) hj hw hm
  | k + 1, js, hj, hw, hm => oB G (c := c) (Pm := fun i => (ai ps i = 0 ∨ ai ps i = 1) ∧ 0 ≤ aJ ps i ∧ aJ ps i < ((k + 1 : Nat) : Int)) (fun i h => h.1) (fun js' hj' hw' hne h => w8 G hj' hw' hne (fun i hi => (h i hi).1) fun hh sub sp sw hs ⟨i0, hi0, e0⟩ => oo G k sub sp sw fun i hi => by
      obtain ⟨a, b⟩ := hs i hi
      have h1 := h i a
      have h2 := (h i0 hi0).2.2
      exact ⟨h1.1, h1.2.1, by omega⟩) hj hw hm
theorem w4 {ps : List P4} (G : Gr ps) (hw : cR ps (ids ps.length)) {c : Addr} (hm : ∀ i ∈ ids ps.length, (ai ps i = 0 ∨ ai ps i = 1) ∧ 0 ≤ aJ ps i ∧ aJ ps i < 13) :
    ∃ win mv, jC c [gD ps] = .ok (.tuple [oT (fun i => some (win i)) ps.length, oT mv ps.length]) ∧ tK ps (ids ps.length) win mv ∧ ∀ i, i ∉ ids ps.length → mv i = none := by
  obtain ⟨win, mv, e, I, q⟩ := oo G (c := c) 13 (ids ps.length) (bC.ids _) hw hm
  refine ⟨win, mv, ?_, I, q⟩
  have h2 := jE (ps := ps) (by have := G.hp; omega)
  have e' : oT (kF (ids ps.length) win) ps.length = oT (fun i => some (win i)) ps.length := congrArg PyData.tuple (ci fun i h0 h1 => by unfold kF; rw [if_pos (bY.mpr ⟨h0, h1⟩)])
  rw [e'] at e
  unfold jC wf
  refine em ?_
  rw [show ([gD ps].map bo.val ++ List.replicate (1 - [gD ps].length) bo.non) = [.val (gD ps)] from rfl]
  simp only [cj, aM, aB, aP, am, R.ok_bind, h2, e]
def zZ (nx : Int → Int) (s : Int) : Nat → Int
  | 0 => s
  | k + 1 => nx (zZ nx s k)
theorem zj {n : Nat} {S : Int → Prop} {nx : Int → Int} (hS : ∀ x, S x → x ∈ ids n) (hn : ∀ x, S x → S (nx x)) {s : Int} (hs : S s) : ∃ x, S x ∧ iA (fun a b => b = nx a) S x x := by
  have all : ∀ k, S (zZ nx s k) := fun k => by
    induction k with
    | zero => exact hs
    | succ k ih => exact hn _ ih
  have path : ∀ p d, iA (fun a b => b = nx a) S (zZ nx s p) (zZ nx s (p + d + 1)) := fun p d => by
    induction d with
    | zero => exact .one rfl (all (p + 1))
    | succ d ih => exact .more ih rfl (all (p + d + 1 + 1))
  by_cases h : ∃ p q, p < q ∧ q ≤ n ∧ zZ nx s p = zZ nx s q
  · obtain ⟨p, q, hpq, _, e⟩ := h
    have := path p (q - p - 1)
    rw [show p + (q - p - 1) + 1 = q by omega, ← e] at this
    exact ⟨_, all p, this⟩
  · exfalso
    have nd : ((List.range (n + 1)).map (zZ nx s)).Nodup := by
      unfold List.Nodup
      rw [List.pairwise_map]
      exact List.Pairwise.imp_of_mem (fun {a b} _ hb hab e => h ⟨a, b, hab, by have := List.mem_range.mp hb; omega, e⟩) List.pairwise_lt_range
    have := jq nd (m := ids n) fun x hx => by
      obtain ⟨k, _, rfl⟩ := List.mem_map.mp hx
      exact hS _ (all k)
    rw [List.length_map, List.length_range, kf] at this
    omega
theorem iA.trans {E : Int → Int → Prop} {al : Int → Prop} {s x t : Int} (h1 : iA E al s x) (h2 : iA E al x t) : iA E al s t := by
  induction h2 with
  | one a b => exact .more h1 a b
  | more _ a b ih => exact .more ih a b
theorem iA.le {E : Int → Int → Prop} {al : Int → Prop} {s t : Int} {ψ : Int → Int} (h : iA E al s t) (h1 : ∀ a b, (a = s ∨ al a) → E a b → al b → ψ b ≤ ψ a) : ψ t ≤ ψ s := by
  induction h with
  | one a b => exact h1 _ _ (.inl rfl) a b
  | more r a b ih =>
    have := h1 _ _ (.inr r.al) a b
    omega
theorem Cn {E : Int → Int → Prop} {al : Int → Prop} {gs : List Int} {s t : Int} {ψ : Int → Int} (h : iA E al s t) (h1 : ∀ a b, (a = s ∨ al a) → E a b → al b → ψ b ≤ ψ a ∧ (a ∈ gs → ψ b < ψ a)) : ψ t < ψ s ∨ iA (fun a b => E a b ∧ a ∉ gs) al s t := by
  induction h with
  | one a b =>
    by_cases z : s ∈ gs
    · exact .inl ((h1 _ _ (.inl rfl) a b).2 z)
    · exact .inr (.one ⟨a, z⟩ b)
  | more r a b ih =>
    rename_i x y
    obtain ⟨l1, l2⟩ := h1 _ _ (.inr r.al) a b
    have l3 := r.le fun a b c d e => (h1 a b c d e).1
    rcases ih with z | z
    · exact .inl (by omega)
    · by_cases y1 : x ∈ gs
      · have := l2 y1
        exact .inl (by omega)
      · exact .inr (.more z ⟨a, y1⟩ b)
theorem xG {E : Int → Int → Prop} {al : Int → Prop} {gs : List Int} {s t : Int} (h : iA (fun a b => E a b ∧ a ∉ gs) al s t) (ht : t ∉ gs) : iA E (fun x => al x ∧ x ∉ gs) s t := by
  induction h with
  | one a b => exact .one a.1 ⟨b, ht⟩
  | more r a b ih => exact .more (ih a.2) a.1 ⟨b, ht⟩
theorem yK {E : Int → Int → Prop} {al : Int → Prop} {gs : List Int} {s t : Int} (h : iA (fun a b => E a b ∧ a ∉ gs) al s t) : s ∉ gs := by
  induction h with
  | one a b => exact a.2
  | more _ _ _ ih => exact ih
theorem BG {E : Int → Int → Prop} {al : Int → Prop} (gs : List Int) {s t : Int} (h : iA E al s t) : iA (fun a b => E a b ∧ a ∉ gs) al s t ∨ ∃ g, g ∈ gs ∧ (g = s ∨ iA E al s g) ∧ iA E al g t := by
  induction h with
  | one a b =>
    by_cases z : s ∈ gs
    · exact .inr ⟨s, z, .inl rfl, .one a b⟩
    · exact .inl (.one ⟨a, z⟩ b)
  | more r a b ih =>
    rename_i x y
    rcases ih with z | ⟨g, g1, g2, g3⟩
    · by_cases y1 : x ∈ gs
      · exact .inr ⟨x, y1, .inr r, .one a b⟩
      · exact .inl (.more z ⟨a, y1⟩ b)
    · exact .inr ⟨g, g1, g2, .more g3 a b⟩
structure Cj (ps ps1 : List P4) : Prop where
  len : ps1.length = ps.length
  own : ∀ i ∈ ids ps.length, ai ps1 i = ai ps i
  goals : ∀ i ∈ ids ps.length, aF ps1 i = aF ps i
theorem oU {ps ps1 : List P4} (G : Gr ps) (L : Cj ps ps1) {who : Int} (h01 : who = 0 ∨ who = 1) {gs : List Int} (hown : ∀ i ∈ ids ps.length, ai ps i = 0 ∨ ai ps i = 1) (hmk : ∀ i ∈ ids ps.length, aJ ps1 i = if i ∈ gs then 2 - who else 1 - who) {win1 : Int → Int} {mv1 : Int → Option Int} (I : tK ps1 (ids ps.length) win1 mv1) {l : List Sh} {win : Int → Int} {mv : Int → Option Int} {φ ψ : Int → Int} (A : tm ps who gs (ids ps.length) l win mv φ ψ) :
    ∀ i ∈ ids ps.length, win1 i = win i := fun i hi => by
  by_cases he : win1 i = win i
  · exact he
  exfalso
  have inG : ∀ {x g}, g ∈ aF ps x → g ∈ ids ps.length := fun h => bY.mpr (G.goals h)
  obtain ⟨w, ew⟩ : ∃ w, w = win1 i := ⟨_, rfl⟩
  obtain ⟨v, ev⟩ : ∃ v, v = win i := ⟨_, rfl⟩
  have hw := I.two i hi
  have hv := A.two i hi
  have wv : v = 1 - w := by omega
  -- both go on by their moves
  have step : ∀ x, x ∈ ids ps.length ∧ win1 x = w ∧ win x = v → ∃ g, Wy ps1 (ids ps.length) w mv1 x g ∧ Wy ps (ids ps.length) v mv x g := fun x ⟨hx, h1, h2⟩ => by
    have ho := hown x hx
    by_cases z : ai ps x = w
    · obtain ⟨g, g1, g2⟩ := I.has x hx (by rw [L.own x hx, z, h1])
      rw [L.goals x hx] at g2
      exact ⟨g, .inl ⟨by rw [L.own x hx]; exact z, g1⟩, .inr ⟨by omega, dD g2 (inG g2)⟩⟩
    · have z2 : ai ps x = v := by omega
      obtain ⟨g, g1, g2⟩ := A.has x hx (by rw [z2, h2])
      exact ⟨g, .inr ⟨by rw [L.own x hx]; exact z, dD (by rw [L.goals x hx]; exact g2) (inG g2)⟩, .inl ⟨z2, g1⟩⟩
  obtain ⟨nx, hnx⟩ : ∃ nx : Int → Int, ∀ x, x ∈ ids ps.length ∧ win1 x = w ∧ win x = v → Wy ps1 (ids ps.length) w mv1 x (nx x) ∧ Wy ps (ids ps.length) v mv x (nx x) :=
    ⟨fun x => if h : x ∈ ids ps.length ∧ win1 x = w ∧ win x = v then (step x h).choose else 0, fun x h => by
      dsimp only
      rw [dif_pos h]
      exact (step x h).choose_spec⟩
  have stay : ∀ x, x ∈ ids ps.length ∧ win1 x = w ∧ win x = v → nx x ∈ ids ps.length ∧ win1 (nx x) = w ∧ win (nx x) = v := fun x h => by
    obtain ⟨a, b⟩ := hnx x h
    obtain ⟨s1, s2⟩ := I.stay x h.1 (nx x) (by rw [h.2.1]; exact a)
    obtain ⟨_, s4⟩ := A.stay x h.1 (nx x) (by rw [h.2.2]; exact b)
    exact ⟨s1, s2.trans h.2.1, s4.trans h.2.2⟩
  obtain ⟨x, hx, hp⟩ := zj (n := ps.length) (S := fun x => x ∈ ids ps.length ∧ win1 x = w ∧ win x = v) (nx := nx) (fun x h => h.1) stay ⟨hi, ew.symm, ev.symm⟩
  have bad : ∀ y, (y ∈ ids ps.length ∧ win1 y = w ∧ win y = v) → aJ ps1 y % 2 ≠ w → ∀ {al : Int → Prop}, (∀ z, al z → (z ∈ ids ps.length ∧ win1 z = w ∧ win z = v) ∧ aJ ps1 z ≤ aJ ps1 y) → iA (fun a b => b = nx a) al y y → False := fun y hy hm al hal hp => by
    refine I.good y hy.1 (by rw [hy.2.1]; exact hm) ?_
    rw [hy.2.1]
    exact hp.imp (fun z e a => ⟨by subst e; exact (hnx y hy).1, (hal z a).1.1, (hal z a).1.2.1, (hal z a).2⟩) fun u z au e a => ⟨by subst e; exact (hnx u (hal u au).1).1, (hal z a).1.1, (hal z a).1.2.1, (hal z a).2⟩
  by_cases hwho : w = who
  · -- it never comes to goals, and who has won it by marks
    have hvo : v = 1 - who := by omega
    have st : ∀ a b, (a = x ∨ (a ∈ ids ps.length ∧ win1 a = w ∧ win a = v)) → b = nx a → (b ∈ ids ps.length ∧ win1 b = w ∧ win b = v) → ψ b ≤ ψ a ∧ (a ∈ gs → ψ b < ψ a) := fun a b ha e _ => by
      have ha' : a ∈ ids ps.length ∧ win1 a = w ∧ win a = v := ha.elim (fun z => by rw [z]; exact hx) id
      subst e
      exact A.oth a ha'.1 (ha'.2.2.trans hvo) (nx a) (by rw [← hvo]; exact (hnx a ha').2)
    rcases Cn (gs := gs) hp st with z | z
    · omega
    · have hxg := yK z
      refine bad x hx ?_ (fun y ay => ⟨ay.1, ?_⟩) (xG z hxg)
      · rw [hmk x hx.1, if_neg hxg]; omega
      · rw [hmk x hx.1, if_neg hxg, hmk y ay.1.1, if_neg ay.2]; omega
  · have hwo : w = 1 - who := by omega
    have hvo : v = who := by omega
    rcases BG gs hp with z | ⟨g, g1, g2, g3⟩
    · have := z.less (φ := φ) (fun y e _ => by
        obtain ⟨e1, e2⟩ := e
        subst e1
        exact A.mine x hx.1 (hx.2.2.trans hvo) e2 (nx x) (by rw [← hvo]; exact (hnx x hx).2)) fun a b ha e _ => by
        obtain ⟨e1, e2⟩ := e
        subst e1
        have := A.mine a ha.1 (ha.2.2.trans hvo) e2 (nx a) (by rw [← hvo]; exact (hnx a ha).2)
        omega
      omega
    · have hgS : g ∈ ids ps.length ∧ win1 g = w ∧ win g = v := g2.elim (fun z => by rw [z]; exact hx) fun z => z.al
      have cyc : iA (fun a b => b = nx a) (fun x => x ∈ ids ps.length ∧ win1 x = w ∧ win x = v) g g := g2.elim (fun z => by rw [← z] at g3; exact g3) fun z => g3.trans z
      refine bad g hgS ?_ (fun y ay => ⟨ay, ?_⟩) cyc
      · rw [hmk g hgS.1, if_pos g1]; omega
      · rw [hmk g hgS.1, if_pos g1, hmk y ay.1]; split <;> omega
theorem pN {ps ps2 : List P4} (G : Gr ps) (hlen : ps2.length = ps.length) {who : Int} (h01 : who = 0 ∨ who = 1) {sm : List Int} (hown : ∀ i ∈ ids ps.length, ai ps i = 0 ∨ ai ps i = 1)
    (ho2 : ∀ i ∈ ids ps.length, ai ps2 i = ai ps i) (hin : ∀ i ∈ ids ps.length, i ∈ sm → aF ps2 i = aF ps i ∧ aJ ps2 i = who) (hout : ∀ i ∈ ids ps.length, i ∉ sm → aF ps2 i = [i] ∧ aJ ps2 i = 1 - who)
    {win : Int → Int} {mv : Int → Option Int} (I : tK ps2 (ids ps.length) win mv) : ∀ i ∈ ids ps.length, (i ∈ dh ps (ids ps.length) who sm ↔ win i = who) := by
  have hj := bC.ids ps.length
  have hw := ji G
  have hr : bC ps.length (bD (ids ps.length) sm) := hj.filter _
  have B := jk (ps := ps) (who := 1 - who) hr.nd (fun x hx => (aV.mp hx).1) hj.nd hj.len
  obtain ⟨rk, erk⟩ : ∃ rk, rk = rK ps (ids ps.length) (1 - who) (bD (ids ps.length) sm) := ⟨_, rfl⟩
  have mK : ∀ i, i ∈ dh ps (ids ps.length) who sm ↔ i ∈ ids ps.length ∧ rk i = none := fun i => by rw [erk]; exact lb hj
  rw [← erk] at B
  have inG : ∀ {x g}, g ∈ aF ps x → g ∈ ids ps.length := fun h => bY.mpr (G.goals h)
  have insm : ∀ x, x ∈ ids ps.length → rk x ≠ some 0 → x ∈ sm := fun x hx hz => by
    by_cases z : x ∈ sm
    · exact z
    · exact (hz ((B.zero x).mpr (aV.mpr ⟨hx, z⟩))).elim
  have ways2 : ∀ {x g}, x ∈ ids ps.length → x ∈ sm → (g ∈ bg ps2 (ids ps.length) x ↔ g ∈ bg ps (ids ps.length) x) := fun hx hs => by unfold bg; rw [(hin _ hx hs).1]
  -- from outside the other one forces it out
  have out : ∀ (n : Nat) (x q : Int), q.toNat ≤ n → rk x = some q → x ∈ ids ps.length → win x = who → False := fun n => by
    induction n with
    | zero =>
      intro x q hq hx hxi hwx
      have := B.nneg x q hx
      have q0 : q = 0 := by omega
      rw [q0] at hx
      have hn := (aV.mp ((B.zero x).mp hx)).2
      obtain ⟨g1, g2⟩ := hout x hxi hn
      have self : Wy ps2 (ids ps.length) who mv x x := by
        by_cases z : ai ps2 x = who
        · obtain ⟨g, e1, e2⟩ := I.has x hxi (by rw [z, hwx])
          rw [g1] at e2
          simp at e2
          subst e2
          exact .inl ⟨z, e1⟩
        · exact .inr ⟨z, dD (by rw [g1]; simp) hxi⟩
      refine I.good x hxi (by rw [hwx, g2]; omega) ?_
      rw [hwx]
      exact .one self ⟨hxi, hwx, Int.le_refl _⟩
    | succ n ih =>
      intro x q hq hx hxi hwx
      have hqn := B.nneg x q hx
      by_cases q0 : q = 0
      · exact ih x q (by omega) hx hxi hwx
      · have hs := insm x hxi (by rw [hx]; intro z; cases z; exact q0 rfl)
        have go : ∀ g t, g ∈ bg ps (ids ps.length) x → Wy ps2 (ids ps.length) who mv x g → rk g = some t → t < q → False := fun g t g1 g2 g3 g4 => by
          obtain ⟨s1, s2⟩ := I.stay x hxi g (by rw [hwx]; exact g2)
          have := B.nneg g t g3
          exact ih g t (by omega) g3 s1 (s2.trans hwx)
        by_cases z : ai ps x = 1 - who
        · obtain ⟨g, g1, g2⟩ := B.own x q hx (by omega) z
          exact go g (q - 1) g1 (.inr ⟨by rw [ho2 x hxi]; omega, (ways2 hxi hs).mpr g1⟩) g2 (by omega)
        · have zw : ai ps x = who := by have := hown x hxi; omega
          obtain ⟨g, e1, e2⟩ := I.has x hxi (by rw [ho2 x hxi, zw, hwx])
          rw [(hin x hxi hs).1] at e2
          have gw := dD e2 (inG e2)
          obtain ⟨t, t1, t2⟩ := (B.oth x q hx (by omega) z).2 g gw
          exact go g t gw (.inl ⟨by rw [ho2 x hxi]; exact zw, e1⟩) t1 t2
  intro i hi
  constructor
  · intro hK
    by_cases he : win i = who
    · exact he
    exfalso
    have hwi : win i = 1 - who := by have := I.two i hi; omega
    have step : ∀ x, x ∈ dh ps (ids ps.length) who sm ∧ win x = 1 - who → ∃ g, Wy ps2 (ids ps.length) (1 - who) mv x g ∧ g ∈ dh ps (ids ps.length) who sm := fun x ⟨hx, h2⟩ => by
      obtain ⟨hxi, hxn⟩ := (mK x).mp hx
      have hs := insm x hxi (by rw [hxn]; intro z; cases z)
      by_cases z : ai ps x = 1 - who
      · obtain ⟨g, g1, g2⟩ := I.has x hxi (by rw [ho2 x hxi, z, h2])
        rw [(hin x hxi hs).1] at g2
        have gw := dD g2 (inG g2)
        exact ⟨g, .inl ⟨by rw [ho2 x hxi]; exact z, g1⟩, (mK g).mpr ⟨inG g2, B.outO x hxi hxn z g gw⟩⟩
      · obtain ⟨g, hg⟩ := oM hj hw hx (by have := hown x hxi; omega)
        have g2 := cE hg
        exact ⟨g, .inr ⟨by rw [ho2 x hxi]; exact z, (ways2 hxi hs).mpr (dD g2 (inG g2))⟩, cG hg⟩
    obtain ⟨nx, hnx⟩ : ∃ nx : Int → Int, ∀ x, x ∈ dh ps (ids ps.length) who sm ∧ win x = 1 - who → Wy ps2 (ids ps.length) (1 - who) mv x (nx x) ∧ nx x ∈ dh ps (ids ps.length) who sm :=
      ⟨fun x => if h : x ∈ dh ps (ids ps.length) who sm ∧ win x = 1 - who then (step x h).choose else 0, fun x h => by
        dsimp only
        rw [dif_pos h]
        exact (step x h).choose_spec⟩
    have hmk : ∀ x, x ∈ dh ps (ids ps.length) who sm → aJ ps2 x = who := fun x hx => by
      obtain ⟨hxi, hxn⟩ := (mK x).mp hx
      exact (hin x hxi (insm x hxi (by rw [hxn]; intro z; cases z))).2
    obtain ⟨x, hx, hp⟩ := zj (n := ps.length) (S := fun x => x ∈ dh ps (ids ps.length) who sm ∧ win x = 1 - who) (nx := nx) (fun x h => ((mK x).mp h.1).1) (fun x h => by
      obtain ⟨a, b⟩ := hnx x h
      exact ⟨b, (I.stay x ((mK x).mp h.1).1 (nx x) (by rw [h.2]; exact a)).2.trans h.2⟩) ⟨hK, hwi⟩
    refine I.good x ((mK x).mp hx.1).1 (by rw [hx.2, hmk x hx.1]; omega) ?_
    rw [hx.2]
    exact hp.imp (fun z e a => ⟨by subst e; exact (hnx x hx).1, ((mK z).mp a.1).1, a.2, by rw [hmk x hx.1, hmk z a.1]; exact Int.le_refl _⟩) fun u z au e a => ⟨by subst e; exact (hnx u au).1, ((mK z).mp a.1).1, a.2, by rw [hmk x hx.1, hmk z a.1]; exact Int.le_refl _⟩
  · intro hwi
    refine (mK i).mpr ⟨hi, ?_⟩
    cases hr' : rk i with
    | none => rfl
    | some q => exact (out q.toNat i q (Nat.le_refl _) hr' hi hwi).elim
def nI (ps : List P4) (i : Int) : PyData := (ps[i.toNat]?.map P4.d).getD .none
theorem wU (ps : List P4) : ps.map P4.d = cq (nI ps) ps.length := by
  refine List.ext_getElem (by rw [List.length_map, bS]) fun k h1 h2 => ?_
  rw [bS] at h2
  have e := gu (f := nI ps) (n := ps.length) (i := (k : Int)) (by omega) (by omega)
  simp only [Int.toNat_natCast] at e
  rw [e, List.getElem_map]
  unfold nI
  rw [List.getElem?_eq_getElem (by omega)]
  simp
theorem vP {ps : List P4} {i : Int} (h0 : 0 ≤ i) (h1 : i < ps.length) : bV (nI ps i) (.int 0) = .ok (.int (ai ps i)) := by
  unfold nI
  rw [List.getElem?_eq_getElem (show i.toNat < ps.length by omega), fY h0 h1]
  rfl
def mI (ps : List P4) (i : Int) : Int := (ps[i.toNat]?.map (·.g)).getD 0
def pX (ps : List P4) (fm : Int → Int) (fg : Int → List Int) (i : Int) : P4 := ⟨ai ps i, fm i, mI ps i, fg i⟩
def kH (ps : List P4) (fm : Int → Int) (fg : Int → List Int) : List P4 := (ids ps.length).map (pX ps fm fg)
section
variable {ps : List P4} {fm : Int → Int} {fg : Int → List Int}
theorem gi : (kH ps fm fg).length = ps.length := by unfold kH; rw [List.length_map, kf]
theorem ph {i : Int} (hi : i ∈ ids ps.length) : (kH ps fm fg)[i.toNat]? = some (pX ps fm fg i) := by
  obtain ⟨h0, h1⟩ := bY.mp hi
  unfold kH
  rw [List.getElem?_map, tq (show i.toNat < ps.length by omega), Option.map_some, show ((i.toNat : Nat) : Int) = i by omega]
theorem lT {i : Int} (hi : i ∈ ids ps.length) : ai (kH ps fm fg) i = ai ps i := by
  rw [show ai (kH ps fm fg) i = ((kH ps fm fg)[i.toNat]?.map (·.w)).getD 0 from rfl, ph hi]; rfl
theorem mh {i : Int} (hi : i ∈ ids ps.length) : aJ (kH ps fm fg) i = fm i := by
  rw [show aJ (kH ps fm fg) i = ((kH ps fm fg)[i.toNat]?.map (·.m)).getD 0 from rfl, ph hi]; rfl
theorem kP {i : Int} (hi : i ∈ ids ps.length) : aF (kH ps fm fg) i = fg i := by
  rw [show aF (kH ps fm fg) i = ((kH ps fm fg)[i.toNat]?.map (·.ns)).getD [] from rfl, ph hi]; rfl
theorem vJ : gD (kH ps fm fg) = .tuple (cq (fun i => (pX ps fm fg i).d) ps.length) := by
  show PyData.tuple ((kH ps fm fg).map P4.d) = PyData.tuple _
  unfold kH cq
  rw [List.map_map (f := pX ps fm fg)]
  rfl
theorem wn (G : Gr ps) (hl : ∀ i ∈ ids ps.length, (fg i).length ≤ 100) (hb : ∀ i ∈ ids ps.length, ∀ x ∈ fg i, 0 ≤ x ∧ x < ps.length) (hlt : ∀ i ∈ ids ps.length, (fg i).Pairwise (· < ·)) (hne : ∀ i ∈ ids ps.length, fg i ≠ []) : Gr (kH ps fm fg) := by
  have all : ∀ p ∈ kH ps fm fg, ∃ i ∈ ids ps.length, p = pX ps fm fg i := fun p hp => by
    obtain ⟨i, hi, e⟩ := List.mem_map.mp hp
    exact ⟨i, hi, e.symm⟩
  refine ⟨fun p hp => ?_, fun p hp => ?_, by rw [gi]; exact G.hp, fun p hp => ?_, fun p hp => ?_⟩ <;> obtain ⟨i, hi, rfl⟩ := all p hp
  · exact hl i hi
  · rw [gi]; exact hb i hi
  · exact hlt i hi
  · exact hne i hi
end
theorem wH {ps : List P4} {i : Int} (h0 : 0 ≤ i) (h1 : i < ps.length) : bV (nI ps i) (.int 2) = .ok (.int (mI ps i)) := by
  unfold nI mI
  rw [List.getElem?_eq_getElem (show i.toNat < ps.length by omega)]
  rfl
theorem yY {ps : List P4} {i : Int} (h0 : 0 ≤ i) (h1 : i < ps.length) : bV (nI ps i) (.int 3) = .ok (.tuple ((aF ps i).map .int)) := by
  unfold nI
  rw [List.getElem?_eq_getElem (show i.toNat < ps.length by omega), dY h0 h1]
  rfl
def tU : Fs := (lY (tE (e2 (l5 false) (af 8) (af 6))) (du 7 (jG (ag (e2 bV (af 9) (eC (.int 0))) (ag (af 4) (ag (e2 bV (af 9) (eC (.int 2))) (ag (e2 bV (af 9) (eC (.int 3))) aH)))))) (du 7 (jG (ag (e2 bV (af 9) (eC (.int 0))) (ag (e2 gJ (eC (.int 1)) (af 4)) (ag (e2 bV (af 9) (eC (.int 2))) (ag (jG (ag (af 8) aH)) aH)))))))
def nN (who : Int) (sm : List Int) (i : Int) : Int := if cA sm i = true then who else 1 - who
def lQ (ps : List P4) (sm : List Int) (i : Int) : List Int := if cA sm i = true then aF ps i else [i]
abbrev eR (ns : List Int) (ps : List P4) (gs : List Int) (who : Int) (m : PyData) (sm : List Int) (acc : List PyData) (c8 c9 : bo) : aX :=
  [.val (pE ns), .val (gD ps), .val (.int ps.length), .val (.tuple (gs.map .int)), .val (.int who), .val m, .val (.tuple (sm.map .int)), .own (.list acc), c8, c9, .non, .non]
theorem xa {ns : List Int} {ps : List P4} (hp : ps.length ≤ 24) {gs : List Int} {who : Int} {md : PyData} {sm : List Int} : ∀ (m k : Nat) (acc : List PyData) (c8 c9 : bo), k + m ≤ ps.length → acc.length + m ≤ 100 →
    ∃ c8' c9', fB (dH 8 9) tU (cL k ((ox k m).map (nI ps))) (eR ns ps gs who md sm acc c8 c9) = .ok (.nx (eR ns ps gs who md sm (acc ++ (ox k m).map fun i => (pX ps (nN who sm) (lQ ps sm) i).d) c8' c9'))
  | 0, k, acc, c8, c9, _, _ => ⟨c8, c9, by unfold ox; simp [cL]⟩
  | m + 1, k, acc, c8, c9, hk, hz => by
    obtain ⟨c8', c9', e⟩ := xa (ns := ns) hp (gs := gs) (who := who) (md := md) (sm := sm) m (k + 1) (acc ++ [(pX ps (nN who sm) (lQ ps sm) k).d]) (.val (.int k)) (.val (nI ps k)) (by omega) (by simp; omega)
    refine ⟨c8', c9', ?_⟩
    have h0 : (0 : Int) ≤ (k : Int) := by omega
    have h1 : (k : Int) < ps.length := by omega
    have hsz : acc.length < sizeLine := Nat.lt_of_lt_of_le (show acc.length < 1000 by omega) (by decide)
    have s4 : (4 : Nat) ≤ sizeLine := by decide
    have s1 : (1 : Nat) ≤ sizeLine := by decide
    rw [mr, List.map_cons, List.map_cons]
    rw [show cL k (nI ps k :: (ox (k + 1) m).map (nI ps)) = .tuple [.int k, nI ps k] :: cL (k + 1) ((ox (k + 1) m).map (nI ps)) from rfl, vm]
    rw [show ((eR ns ps gs who md sm acc c8 c9).set 8 (.val (.int k))).set 9 (.val (nI ps k)) = eR ns ps gs who md sm acc (.val (.int k)) (.val (nI ps k)) from rfl]
    have hb : tU (eR ns ps gs who md sm acc (.val (.int k)) (.val (nI ps k))) = .ok (.nx (eR ns ps gs who md sm (acc ++ [(pX ps (nN who sm) (lQ ps sm) k).d]) (.val (.int k)) (.val (nI ps k)))) := by
      unfold tU
      rw [dU, cJ, bA]
      simp only [am, aq, R.ok_bind, Ax, cU]
      cases hm : cA sm k with
      | true =>
        have hd : (pX ps (nN who sm) (lQ ps sm) k).d = .tuple [.int (ai ps k), .int who, .int (mI ps k), .tuple ((aF ps k).map .int)] := by
          show PyData.tuple [_, .int (nN who sm k), _, .tuple ((lQ ps sm k).map .int)] = _
          rw [show nN who sm k = who from if_pos hm, show lQ ps sm k = aF ps k from if_pos hm]
          rfl
        rw [if_pos (by rfl), ja (ds := acc) _ rfl hsz, jn]
        simp only [aB, aP, bA, am, aq, bK, R.ok_bind, vP h0 h1, wH h0 h1, yY h0 h1, List.length_cons, List.length_nil, Nat.zero_add, Nat.reduceAdd, s4, if_true, cm]
        rw [hd]
        rfl
      | false =>
        have hd : (pX ps (nN who sm) (lQ ps sm) k).d = .tuple [.int (ai ps k), .int (1 - who), .int (mI ps k), .tuple [.int k]] := by
          show PyData.tuple [_, .int (nN who sm k), _, .tuple ((lQ ps sm k).map .int)] = _
          rw [show nN who sm k = 1 - who from if_neg (by rw [hm]; simp), show lQ ps sm k = [(k : Int)] from if_neg (by rw [hm]; simp)]
          rfl
        rw [if_neg (by simp), ja (ds := acc) _ rfl hsz, jn]
        simp only [aB, aP, bA, jn, am, aq, bK, R.ok_bind, vP h0 h1, wH h0 h1, kO, List.length_cons, List.length_nil, Nat.zero_add, Nat.reduceAdd, s1, s4, if_true, cm]
        rw [hd]
        rfl
    rw [hb, R.ok_bind, ez, e]
    simp
theorem wZ (c : Addr) : v4 (tH c) := by
  intro ns hns
  obtain ⟨ps, hi, hgr, hpl, hp1, hp24, hi0, hi12⟩ := sx ns (most := 24) (by omega) (by omega)
  have G : Gr ps := AV hpl hp24
  have hp := G.hp
  have hw := ji G
  obtain ⟨v1, hv1, v10, v11⟩ := kc ns (k := 1) (by omega)
  obtain ⟨v2, hv2, v20, v21⟩ := kc ns (k := 2) (by omega)
  obtain ⟨gs, hs2, s2lt, s2in⟩ := ug (n := v2) (c := ps.length) (by omega) (by omega)
  obtain ⟨sm, hs1, s1lt, s1in⟩ := ug (n := v1) (c := ps.length) (by omega) (by omega)
  have hg : bC ps.length gs := ⟨s2lt, s2in⟩
  have hsm : bC ps.length sm := ⟨s1lt, s1in⟩
  have hlen : cX (gD ps) = .ok (.int ps.length) := by simp
  have hrt := ls (n := ps.length) (by omega)
  obtain ⟨who, hwho⟩ : ∃ who, who = v2 / 5 % 2 := ⟨_, rfl⟩
  have h01 : who = 0 ∨ who = 1 := by omega
  have hown : ∀ i ∈ ids ps.length, ai ps i = 0 ∨ ai ps i = 1 := fun i hi' => by
    obtain ⟨h0, h1⟩ := bY.mp hi'
    have P := hpl _ (List.getElem_mem (show i.toNat < ps.length by omega))
    rw [fY h0 h1]
    have := P.w0
    have := P.w1
    omega
  -- again
  have hag := xk G hg hw (who := who) (c := c)
  obtain ⟨win, mv, φ, ψ, A⟩ := p0 h01 hg ps.length (ids ps.length) (bC.ids _) hw (by rw [kf]; exact Nat.le_refl _) hown
  have eq1 : oT (gL (fun _ => none) (cO ps who gs ps.length (ids ps.length))) ps.length = oT (fun i => some (win i)) ps.length :=
    congrArg PyData.tuple (ci fun i h0 h1 => by rw [A.wins, if_pos (bY.mpr ⟨h0, h1⟩)])
  rw [eq1] at hag
  obtain ⟨fa, hfa⟩ : ∃ f, f = PyData.tuple [oT (fun i => some (win i)) ps.length, oT (kQ (fun _ => none) (cO ps who gs ps.length (ids ps.length))) ps.length] := ⟨_, rfl⟩
  rw [← hfa] at hag
  have hfa0 : bV fa (.int 0) = .ok (oT (fun i => some (win i)) ps.length) := by rw [hfa]; rfl
  -- by marks
  obtain ⟨fm, efm⟩ : ∃ fm : Int → Int, fm = fun i => 1 - who + (if cA gs i then 1 else 0) := ⟨_, rfl⟩
  have G1 : Gr (kH ps fm (aF ps)) := wn G (fun i _ => G.glen i) (fun i _ x hx => G.goals hx) (fun i _ => G.glt i) fun i hi' => by
    obtain ⟨g, hg'⟩ := G.gne (bY.mp hi').1 (bY.mp hi').2
    exact List.ne_nil_of_mem hg'
  have hmk : ∀ i ∈ ids ps.length, aJ (kH ps fm (aF ps)) i = if i ∈ gs then 2 - who else 1 - who := fun i hi' => by
    rw [mh hi', efm]
    dsimp only
    cases hm : cA gs i with
    | true => rw [if_pos (a9.mp hm)]; simp; omega
    | false => rw [if_neg (show ¬ i ∈ gs from fun z => by rw [a9.mpr z] at hm; cases hm)]; simp
  obtain ⟨win1, mv1, hw1, I1, _⟩ := w4 G1 (ji G1) (c := c) fun i hi' => by
    rw [gi] at hi'
    rw [lT hi', hmk i hi']
    have := hown i hi'
    refine ⟨this, ?_, ?_⟩ <;> split <;> omega
  rw [gi] at hw1 I1
  have same := oU G (ps1 := kH ps fm (aF ps)) ⟨gi, fun i hi' => lT hi', fun i hi' => kP hi'⟩ h01 hown hmk I1 A
  have eq2 : oT (fun i => some (win1 i)) ps.length = oT (fun i => some (win i)) ps.length :=
    congrArg PyData.tuple (ci fun i h0 h1 => by dsimp only; rw [same i (bY.mpr ⟨h0, h1⟩)])
  rw [eq2] at hw1
  obtain ⟨fb, hfb⟩ : ∃ f, f = PyData.tuple [oT (fun i => some (win i)) ps.length, oT mv1 ps.length] := ⟨_, rfl⟩
  rw [← hfb] at hw1
  have hfb0 : bV fb (.int 0) = .ok (oT (fun i => some (win i)) ps.length) := by rw [hfb]; rfl
  have s4 : (4 : Nat) ≤ sizeLine := by decide
  have hmarked : bO (dH 0 1) (fun _ => .ok true) (jG (ag (e2 bV (af 1) (eC (.int 0))) (ag (e2 fh (e2 gJ (eC (.int 1)) (af 2)) (e1 sZ (e2 (l5 false) (af 0) (af 3)))) (ag (e2 bV (af 1) (eC (.int 2))) (ag (e2 bV (af 1) (eC (.int 3))) aH))))) [.non, .non, .val (.int who), .val (.tuple (gs.map .int))] (cL 0 (ps.map P4.d)) = .ok (cq (fun i => (pX ps fm (aF ps) i).d) ps.length) := by
    have := nz (fe := jG (ag (e2 bV (af 1) (eC (.int 0))) (ag (e2 fh (e2 gJ (eC (.int 1)) (af 2)) (e1 sZ (e2 (l5 false) (af 0) (af 3)))) (ag (e2 bV (af 1) (eC (.int 2))) (ag (e2 bV (af 1) (eC (.int 3))) aH))))) (ρ := [.val (.int who), .val (.tuple (gs.map .int))]) (g := nI ps) (h := fun i => (pX ps fm (aF ps) i).d) ps.length 0 fun j _ h2 => by
      have h0 : (0 : Int) ≤ (j : Int) := by omega
      have h1 : (j : Int) < ps.length := by omega
      rw [jn]
      simp only [aB, aP, bA, bX, am, aq, bK, R.ok_bind, vP h0 h1, wH h0 h1, yY h0 h1, kO, Ax, zT, zG]
      rw [if_pos (by exact s4)]
      show R.ok (PyData.tuple [_, .int _, _, _]) = R.ok (PyData.tuple [_, .int (fm j), _, _])
      rw [efm]
      rfl
    rw [ka] at this
    rw [wU]
    exact this
  obtain ⟨md, hmd⟩ : ∃ md, md = gD (kH ps fm (aF ps)) := ⟨_, rfl⟩
  -- closed
  have G2 : Gr (kH ps (nN who sm) (lQ ps sm)) := wn G (fun i _ => by
    unfold lQ
    split
    · exact G.glen i
    · simp) (fun i hi' x hx => by
    unfold lQ at hx
    split at hx
    · exact G.goals hx
    · simp at hx; subst hx; exact bY.mp hi') (fun i _ => by
    unfold lQ
    split
    · exact G.glt i
    · simp) fun i hi' => by
    unfold lQ
    split
    · obtain ⟨g, hg'⟩ := G.gne (bY.mp hi').1 (bY.mp hi').2
      exact List.ne_nil_of_mem hg'
    · simp
  have f2in : ∀ i ∈ ids ps.length, i ∈ sm → aF (kH ps (nN who sm) (lQ ps sm)) i = aF ps i ∧ aJ (kH ps (nN who sm) (lQ ps sm)) i = who := fun i hi' hs => by
    rw [kP hi', mh hi']
    exact ⟨if_pos (a9.mpr hs), if_pos (a9.mpr hs)⟩
  have f2out : ∀ i ∈ ids ps.length, i ∉ sm → aF (kH ps (nN who sm) (lQ ps sm)) i = [i] ∧ aJ (kH ps (nN who sm) (lQ ps sm)) i = 1 - who := fun i hi' hs => by
    rw [kP hi', mh hi']
    exact ⟨if_neg fun z => hs (a9.mp z), if_neg fun z => hs (a9.mp z)⟩
  obtain ⟨win2, mv2, hw2, I2, _⟩ := w4 G2 (ji G2) (c := c) fun i hi' => by
    rw [gi] at hi'
    rw [lT hi']
    refine ⟨hown i hi', ?_⟩
    by_cases z : i ∈ sm
    · rw [(f2in i hi' z).2]; omega
    · rw [(f2out i hi' z).2]; omega
  rw [gi] at hw2 I2
  have kw := pN G (ps2 := kH ps (nN who sm) (lQ ps sm)) gi h01 hown (fun i hi' => lT hi') f2in f2out I2
  obtain ⟨fc, hfc⟩ : ∃ f, f = PyData.tuple [oT (fun i => some (win2 i)) ps.length, oT mv2 ps.length] := ⟨_, rfl⟩
  rw [← hfc] at hw2
  have hfc0 : bV fc (.int 0) = .ok (oT (fun i => some (win2 i)) ps.length) := by rw [hfc]; rfl
  have hkep := yd G (bC.ids ps.length) hsm (fun x hx => bY.mpr (s1in x hx)) hw (who := who)
  obtain ⟨fd, hfd⟩ : ∃ f, f = PyData.tuple [.tuple ((dh ps (ids ps.length) who sm).map .int), oT (bI ps who (dh ps (ids ps.length) who sm)) ps.length] := ⟨_, rfl⟩
  rw [← hfd] at hkep
  have hfd0 : bV fd (.int 0) = .ok (.tuple ((dh ps (ids ps.length) who sm).map .int)) := by rw [hfd]; rfl
  have hkl : dh ps (ids ps.length) who sm = (ids ps.length).filter fun i => decide (win2 i = who) := by
    have e : dh ps (ids ps.length) who sm = (ids ps.length).filter fun i => !cA (cI (rK ps (ids ps.length) (1 - who) (bD (ids ps.length) sm)) ps.length) i := rfl
    rw [e]
    apply List.filter_congr
    intro i hi'
    have h1 := kw i hi'
    rw [e, List.mem_filter] at h1
    by_cases z : win2 i = who
    · rw [decide_eq_true z, (h1.mpr z).2]
    · rw [decide_eq_false z]
      cases h2 : cA (cI (rK ps (ids ps.length) (1 - who) (bD (ids ps.length) sm)) ps.length) i with
      | true => rfl
      | false => exact (z (h1.mp ⟨hi', by rw [h2]; rfl⟩)).elim
  have hlast := cv (t := tE (e2 (iy) (e2 bV (af 1) (af 0)) (af 2))) (ρ := [.val (oT (fun i => some (win2 i)) ps.length), .val (.int who)]) (p := fun i => decide (win2 i = who)) (ids ps.length) fun i hi' => by
    obtain ⟨h0, h1⟩ := bY.mp hi'
    simp only [List.set_cons_zero, cJ, bA, am, aq, R.ok_bind, tY h0 h1, oD, fF, cU]
  rw [← hkl] at hlast
  have hr1 : nO [.int (ps.length : Int)] = .ok (bx 0 ps.length) := by rw [zk (by omega) (by omega), Int.toNat_natCast]
  have hrm : bx 0 ps.length = (ids ps.length).map .int := hX _
  obtain ⟨c8, c9, hloop⟩ := xa (ns := ns) hp (gs := gs) (who := who) (md := md) (sm := sm) ps.length 0 [] .non .non (by omega) (by simp; omega)
  rw [ka, List.nil_append] at hloop
  rw [show ((ids ps.length).map fun i => (pX ps (nN who sm) (lQ ps sm) i).d) = cq (fun i => (pX ps (nN who sm) (lQ ps sm) i).d) ps.length from rfl] at hloop
  rw [show (ids ps.length).map (nI ps) = cq (nI ps) ps.length from rfl, ← wU] at hloop
  rw [← hmd] at hw1
  obtain ⟨K, hK⟩ : ∃ K, K = dh ps (ids ps.length) who sm := ⟨_, rfl⟩
  rw [← hK] at hfd0 hlast
  unfold tH v9
  refine em ?_
  rw [show ([pE ns].map bo.val ++ List.replicate (12 - [pE ns].length) bo.non) = [.val (pE ns), .non, .non, .non, .non, .non, .non, .non, .non, .non, .non, .non] from rfl]
  rw [aQ (ρ' := [.val (pE ns), .val (gD ps), .non, .non, .non, .non, .non, .non, .non, .non, .non, .non]) (by
    simp only [a4, aM, aB, aP, am, bK, R.ok_bind, hgr]; rfl)]
  rw [aQ (ρ' := [.val (pE ns), .val (gD ps), .val (.int ps.length), .non, .non, .non, .non, .non, .non, .non, .non, .non]) (by
    simp only [a4, bX, am, aq, R.ok_bind, hlen]; rfl)]
  rw [aQ (ρ' := [.val (pE ns), .val (gD ps), .val (.int ps.length), .val (.tuple (gs.map .int)), .non, .non, .non, .non, .non, .non, .non, .non]) (by
    simp only [a4, aM, aB, aP, am, aq, bK, R.ok_bind, hv2, hs2]; rfl)]
  rw [aQ (ρ' := [.val (pE ns), .val (gD ps), .val (.int ps.length), .val (.tuple (gs.map .int)), .val (.int who), .non, .non, .non, .non, .non, .non, .non]) (by
    simp only [a4, bA, aM, aB, aP, am, bK, R.ok_bind, hv2, zW, se]
    rw [if_pos (by decide), R.ok_bind, se, if_pos (by decide), hwho]; rfl)]
  rw [aQ (ρ' := [.val (pE ns), .val (gD ps), .val (.int ps.length), .val (.tuple (gs.map .int)), .val (.int who), .val md, .non, .non, .non, .non, .non, .non]) (by
    rw [a4, bX, bG, show aL 2 [4, 3] [.val (pE ns), .val (gD ps), .val (.int ps.length), .val (.tuple (gs.map .int)), .val (.int who), .non, .non, .non, .non, .non, .non, .non] = [.non, .non, .val (.int who), .val (.tuple (gs.map .int))] from rfl]
    simp only [iZ, am, aq, R.ok_bind, dN, cm]
    rw [if_pos (by rw [eQ, List.length_map]; exact bZ (by omega)), hmarked, kl, R.ok_bind, ky, hmd, vJ]
    rfl)]
  rw [aQ (ρ' := [.val (pE ns), .val (gD ps), .val (.int ps.length), .val (.tuple (gs.map .int)), .val (.int who), .val md, .non, .non, .non, .non, .non, .non]) (by
    simp only [dU, cJ, bA, aM, aB, aP, am, aq, bK, R.ok_bind, hw1, hag, hfa0, hfb0, vN (yx _ _) (show (oT (fun i => some (win i)) ps.length).depth ≤ 60 by rw [wj]; omega), cU]; rfl)]
  rw [aQ (ρ' := [.val (pE ns), .val (gD ps), .val (.int ps.length), .val (.tuple (gs.map .int)), .val (.int who), .val md, .val (.tuple (sm.map .int)), .non, .non, .non, .non, .non]) (by
    simp only [a4, aM, aB, aP, am, aq, bK, R.ok_bind, hv1, hs1]; rfl)]
  rw [aQ (ρ' := eR ns ps gs who md sm [] .non .non) (by rfl)]
  rw [aQ (ρ' := eR ns ps gs who md sm (cq (fun i => (pX ps (nN who sm) (lQ ps sm) i).d) ps.length) c8 c9) (by
    rw [fI, gh, iZ]
    simp only [am, aq, R.ok_bind, dN]
    unfold tU at hloop
    rw [hloop]
    rfl)]
  rw [aQ (ρ' := [.val (pE ns), .val (gD ps), .val (.int ps.length), .val (.tuple (gs.map .int)), .val (.int who), .val md, .val (.tuple (sm.map .int)), .own (.list (cq (fun i => (pX ps (nN who sm) (lQ ps sm) i).d) ps.length)), c8, c9, .val (oT (fun i => some (win2 i)) ps.length), .non]) (by
    simp only [a4, bA, bX, aM, aB, aP, pA, pk, bK, R.ok_bind, ky]
    rw [← vJ, hw2, R.ok_bind, hfc0]
    rfl)]
  rw [aQ (ρ' := [.val (pE ns), .val (gD ps), .val (.int ps.length), .val (.tuple (gs.map .int)), .val (.int who), .val md, .val (.tuple (sm.map .int)), .own (.list (cq (fun i => (pX ps (nN who sm) (lQ ps sm) i).d) ps.length)), c8, c9, .val (oT (fun i => some (win2 i)) ps.length), .val (.tuple (K.map .int))]) (by
    simp only [a4, bA, aM, qG, aB, aP, am, aq, bK, R.ok_bind, hrt, hkep, hfd0]
    rfl)]
  rw [cj, bA, bX, bG, show aL 1 [10, 4] [.val (pE ns), .val (gD ps), .val (.int ps.length), .val (.tuple (gs.map .int)), .val (.int who), .val md, .val (.tuple (sm.map .int)), .own (.list (cq (fun i => (pX ps (nN who sm) (lQ ps sm) i).d) ps.length)), c8, c9, .val (oT (fun i => some (win2 i)) ps.length), .val (.tuple (K.map .int))] = [.non, .val (oT (fun i => some (win2 i)) ps.length), .val (.int who)] from rfl]
  simp only [nY, aB, aP, am, aq, R.ok_bind, hr1, cm]
  rw [if_pos (by rw [dS]; exact bZ (by omega)), hrm, hlast, kl, R.ok_bind, ky, R.ok_bind, wX (xQ _) (by rw [xm]; omega)]
  rfl
def A2 : List Stmt := PySem.Challenge.pw_duelground_k72_whole_again_by_marks.main.body
abbrev top (i : Nat) : Stmt := A2.getD i (.Pass ⟨0, 0, 0, 0⟩)
abbrev gB : Stmt := top 36
abbrev i6 : Stmt := top 37
abbrev iM : Stmt := top 38
abbrev iX : Stmt := top 39
abbrev iR : Stmt := top 40
abbrev fN : Stmt := top 41
abbrev gQ : Stmt := top 42
abbrev ig : Stmt := top 12
abbrev jQ : Stmt := top 7
abbrev io : Stmt := top 8
abbrev j6 : Stmt := top 9
abbrev kj : Stmt := top 13
abbrev dP : Stmt := top 17
abbrev kA : Stmt := top 25
abbrev dc : Stmt := top 26
abbrev gg : Stmt := top 23
abbrev dX : Stmt := top 24
abbrev gX : Stmt := top 16
abbrev fu : Stmt := top 19
abbrev jo : Stmt := top 14
abbrev eG : Stmt := top 29
abbrev cS : Stmt := top 20
abbrev o2 : Stmt := top 30
abbrev dO : Stmt := top 15
abbrev ir : Stmt := top 22
abbrev sJ : Stmt := top 27
abbrev gV : Stmt := top 18
abbrev cw : Stmt := top 32
abbrev eO : Stmt := top 33
abbrev wA : Stmt := top 34
abbrev iE : Stmt := top 43
section
variable {P : Program} {w : World} {K : PySem.W.Frag} {mg : Str → Option Value} {base : Heap} {f : Addr} {fd : FuncData} {k : Nat}
abbrev jl : Stmt := yi (top 11) 0
theorem xE : a5 ["self", "who", "places", "moves"] ["self", "who", "places", "moves"] (aj jl) := ⟨rfl, rfl, rfl, by decide +kernel, rfl, by decide +kernel, by decide +kernel⟩
theorem xX {P : Program} {w : World} {K : PySem.W.Frag} {mg : Str → Option Value} {base : Heap} {f C : Addr} {fd : FuncData} (F : gP K "__init__" "Share.__init__" jl f fd) (cl : rm K C) (n0 : cQ K C "who") (n1 : cQ K C "places") (n2 : cQ K C "moves") :
    bf P w K mg base (cF P w mg) 1 f fd ["self", "who", "places", "moves"] (AQ C ["who", "places", "moves"]) := by
  obtain ⟨oc, od, kV, doc, pm, an, cdv, ct, osl, rfl, lk, hcd⟩ := F.ex
  refine wM (k := 0) lk hcd xE (fun vs H Q E h => ?_) fun A outer s H vs Q E hr h => ?_
  · obtain ⟨x, dx, ws, rfl, _, hl, _⟩ := h
    rw [List.length_cons, hl]
    rfl
  · obtain ⟨x, dx, ws, rfl, hx, hl, k⟩ := h
    match ws, hl with
    | [w1, w2, w3], _ =>
      refine ⟨_, mC (ss (pv 0) (pv 1) rfl) (mC (ss (pv 0) (pv 2) rfl) (ul (ss (pv 0) (pv 3) rfl))), ?_⟩
      refine ⟨_, rfl, _, rfl, x, C, dx, [], rfl, hx, cl, n0, (by show 0 < 1000; decide), _, rfl, _, rfl, x, C, dx, _, rfl, bi, cl, n1, (by show 1 < 1000; decide), _, rfl, _, rfl, x, C, dx, _, rfl, bi, cl, n2, (by refine Nat.lt_of_le_of_lt (gy _ _ _) ?_; exact Nat.lt_of_le_of_lt (Nat.succ_le_succ (gy _ _ _)) (by show 2 < 1000; decide)), ?_⟩
      refine k _ (by rw [bi, AX (by decide +kernel) (by decide +kernel) (by decide +kernel)]; rfl) fun b hb => ?_
      rw [az hb, az hb, az hb]
theorem nK : a5 ["_law_script", "_law_k"] ["_law_script", "_law_k"] (aj gB) := ⟨rfl, rfl, rfl, by decide +kernel, rfl, by decide +kernel, by decide +kernel⟩
theorem nL (W : gP K "_law_cell_at" "_law_cell_at" gB f fd) (b_len : mg "len" = none) :
    bf P w K mg base (cF P w mg) (k + 1) f fd ["_law_script", "_law_k"] (dg (dn 2 (gA)) 2) := by
  refine Z.fn_dataT W nK (G := ["len"]) (by decide +kernel) fun cdv A outer s H E hr T => ?_
  exact (Z.ao (Z.eN (Z.pV (Z.ak.b (Z.aa T 1 rfl)) (Z.ak.b (Z.cT T 0 rfl b_len (Z.ak.b (Z.aa T 0 rfl))))) (Z.aS (Z.bq (Z.bE T.hu (Z.ak.b (Z.aa T 0 rfl)) (Z.ak.b (Z.aa T 1 rfl)) (fun _ _ => rfl)))) Z.dl)
      (Z.aS (Z.bq Z.av)))
theorem qY : a5 ["_law_script", "_law_k", "_law_drawn_here"] ["_law_script", "_law_k"] (aj i6) := ⟨rfl, rfl, rfl, by decide +kernel, rfl, by decide +kernel, by decide +kernel⟩
theorem qL (W : gP K "_law_mixed" "_law_mixed" i6 f fd) {f23 : Addr} {d23 : FuncData} {ce : eE} (C23 : eL P w K mg base k "_law_cell_at" ["_law_script", "_law_k"] ce f23 d23) :
    bf P w K mg base (cF P w mg) (k + 1) f fd ["_law_script", "_law_k"] (dg (dn 3 (iP ce)) 2) := by
  refine Z.fn_dataT W qY (G := ["_law_cell_at"]) (by decide +kernel) fun cdv A outer s H E hr T => ?_
  exact (Z.ao (Z.a6 T 2 rfl (Z.cY (Z.ak.b (Z.fS (Z.ak.b (Z.di (Z.ak.b (Z.di (Z.ak.b (Z.aE C23 hr T 0 rfl (Z.ae (Z.aa T 0 rfl) (Z.ae (Z.aa T 1 rfl) Z.ap)) rfl (ad (ad ah)))) (Z.ak.b (Z.fS (Z.ak.b Z.av) (Z.ak.b (Z.aa T 1 rfl)))))) (Z.ak.b Z.av))) (Z.ak.b Z.av))) (Z.ak.b Z.av)))
      (Z.aS (Z.bq (Z.cY (Z.ak.b (Z.di (Z.ak.b (Z.di (Z.ak.b (Z.fS (Z.ak.b (Z.aa T 2 rfl)) (Z.ak.b (Z.aa T 2 rfl)))) (Z.ak.b (Z.fS (Z.ak.b Z.av) (Z.ak.b (Z.aa T 2 rfl)))))) (Z.ak.b (Z.aa T 1 rfl)))) (Z.ak.b Z.av)))))
theorem qw : a5 ["_law_number", "_law_k", "_law_drawn_here"] ["_law_number", "_law_k"] (aj iM) := ⟨rfl, rfl, rfl, by decide +kernel, rfl, by decide +kernel, by decide +kernel⟩
theorem qc (W : gP K "_law_drawn" "_law_drawn" iM f fd) :
    bf P w K mg base (cF P w mg) (k + 1) f fd ["_law_number", "_law_k"] (dg (dn 3 (iV)) 2) := by
  refine Z.fn_dataT W qw (G := []) (by decide +kernel) fun cdv A outer s H E hr T => ?_
  exact (Z.ao (Z.a6 T 2 rfl (Z.cY (Z.ak.b (Z.fS (Z.ak.b (Z.di (Z.ak.b (Z.di (Z.ak.b (Z.aa T 0 rfl)) (Z.ak.b (Z.fS (Z.ak.b Z.av) (Z.ak.b (Z.aa T 1 rfl)))))) (Z.ak.b Z.av))) (Z.ak.b Z.av))) (Z.ak.b Z.av)))
      (Z.aS (Z.bq (Z.cY (Z.ak.b (Z.di (Z.ak.b (Z.di (Z.ak.b (Z.fS (Z.ak.b (Z.aa T 2 rfl)) (Z.ak.b (Z.aa T 2 rfl)))) (Z.ak.b (Z.fS (Z.ak.b Z.av) (Z.ak.b (Z.aa T 2 rfl)))))) (Z.ak.b (Z.aa T 1 rfl)))) (Z.ak.b Z.av)))))
theorem qr : a5 ["_law_number", "_law_count", "_law_found", "_law_k"] ["_law_number", "_law_count"] (aj iX) := ⟨rfl, rfl, rfl, by decide +kernel, rfl, by decide +kernel, by decide +kernel⟩
theorem rg (W : gP K "_law_goals" "_law_goals" iX f fd) {f25 : Addr} {d25 : FuncData} {aT : eE} (C25 : eL P w K mg base k "_law_drawn" ["_law_number", "_law_k"] aT f25 d25) (b_int : mg "int" = none) (b_range : mg "range" = none) (b_sorted : mg "sorted" = none) (b_tuple : mg "tuple" = none) :
    bf P w K mg base (cF P w mg) (k + 1) f fd ["_law_number", "_law_count"] (dg (dn 4 (i8 aT)) 2) := by
  refine Z.fn_dataT W qr (G := ["range", "int", "_law_drawn", "tuple", "sorted"]) (by decide +kernel) fun cdv A outer s H E hr T => ?_
  exact (Z.ao (Z.iN T 2 rfl Z.kX)
      (Z.ao (Z.dt (have T := T.nox; Z.gC PassesOwn.never T.calm (Z.eV T 0 rfl b_range (Z.ae (Z.di (Z.ak.b (Z.di (Z.ak.b Z.av) (Z.ak.b (Z.cY (Z.ak.b (Z.aa T 0 rfl)) (Z.ak.b Z.av))))) (Z.ak.b (Z.fS (Z.ak.b Z.av) (Z.ak.b (Z.l4 T 1 rfl b_int (Z.ak.b (Z.qR T.hu (Z.ak.b (Z.cY (Z.ak.b (Z.ip (Z.ak.b (Z.aa T 0 rfl)) (Z.ak.b Z.av))) (Z.ak.b Z.av))) (Z.ak.b Z.av)))))))) Z.ap) (ad ah)) (Z.bJ T 3 rfl) (Z.aS (Z.sk T 2 rfl (Z.cY (Z.ak.b (Z.aE C25 hr T 2 rfl (Z.ae (Z.aa T 0 rfl) (Z.ae (Z.aa T 3 rfl) Z.ap)) rfl (ad (ad ah)))) (Z.ak.b (Z.aa T 1 rfl))) Z.gU))))
      (Z.aS (Z.bq (Z.cb T 3 rfl b_tuple (Z.gf.b (Z.jS T 4 rfl b_sorted (Z.eF T 2 rfl))))))))
theorem qd : a5 ["_law_number", "_law_count", "_law_high", "_law_gain"] ["_law_number", "_law_count", "_law_high"] (aj iR) := ⟨rfl, rfl, rfl, by decide +kernel, rfl, by decide +kernel, by decide +kernel⟩
theorem rd (W : gP K "_law_place" "_law_place" iR f fd) {f25 : Addr} {d25 : FuncData} {aT : eE} (C25 : eL P w K mg base k "_law_drawn" ["_law_number", "_law_k"] aT f25 d25) {f26 : Addr} {d26 : FuncData} {cH : eE} (C26 : eL P w K mg base k "_law_goals" ["_law_number", "_law_count"] cH f26 d26) :
    bf P w K mg base (cF P w mg) (k + 1) f fd ["_law_number", "_law_count", "_law_high"] (dg (dn 4 (iD aT cH)) 3) := by
  refine Z.fn_dataT W qd (G := ["_law_goals", "_law_drawn"]) (by decide +kernel) fun cdv A outer s H E hr T => ?_
  exact (Z.ao (Z.a6 T 3 rfl (Z.fV (Z.ak.b (Z.cY (Z.ak.b (Z.ip (Z.ak.b (Z.aa T 0 rfl)) (Z.ak.b Z.av))) (Z.ak.b Z.av))) (Z.ak.b Z.av)))
      (Z.ao (Z.eN (Z.eS T.hu (Z.ak.b (Z.cY (Z.ak.b (Z.ip (Z.ak.b (Z.aa T 0 rfl)) (Z.ak.b Z.av))) (Z.ak.b Z.av))) (Z.ak.b Z.av)) (Z.aS (Z.a6 T 3 rfl (Z.fV (Z.ak.b (Z.cY (Z.ak.b (Z.ip (Z.ak.b (Z.aa T 0 rfl)) (Z.ak.b Z.av))) (Z.ak.b Z.av))) (Z.ak.b Z.av)))) Z.dl)
      (Z.aS (Z.bq (Z.im (Z.ae (Z.cY (Z.ak.b (Z.aa T 0 rfl)) (Z.ak.b Z.av)) (Z.ae (Z.cY (Z.ak.b (Z.ip (Z.ak.b (Z.aa T 0 rfl)) (Z.ak.b Z.av))) (Z.ak.b (Z.di (Z.ak.b (Z.aa T 2 rfl)) (Z.ak.b Z.av)))) (Z.ae (Z.aa T 3 rfl) (Z.ae (Z.aE C26 hr T 0 rfl (Z.ae (Z.aE C25 hr T 1 rfl (Z.ae (Z.aa T 0 rfl) (Z.ae Z.av Z.ap)) rfl (ad (ad ah))) (Z.ae (Z.aa T 1 rfl) Z.ap)) rfl (ad (ad ah))) Z.ap)))))))))
theorem oP : a5 ["_law_script", "_law_most", "_law_number", "_law_count", "_law_high"] ["_law_script", "_law_most"] (aj fN) := ⟨rfl, rfl, rfl, by decide +kernel, rfl, by decide +kernel, by decide +kernel⟩
theorem pc (W : gP K "_law_ground" "_law_ground" fN f fd) {f24 : Addr} {d24 : FuncData} {bh : eE} (C24 : eL P w K mg base k "_law_mixed" ["_law_script", "_law_k"] bh f24 d24) {f27 : Addr} {d27 : FuncData} {cs : eE} (C27 : eL P w K mg base k "_law_place" ["_law_number", "_law_count", "_law_high"] cs f27 d27) (b_len : mg "len" = none) (b_max : mg "max" = none) (b_min : mg "min" = none) (b_range : mg "range" = none) (b_tuple : mg "tuple" = none) :
    bf P w K mg base (cF P w mg) (k + 1) f fd ["_law_script", "_law_most"] (dg (dn 5 (gZ bh cs)) 2) := by
  refine Z.fn_dataT W oP (G := ["_law_mixed", "min", "max", "len", "tuple", "range"]) (by decide +kernel) fun cdv A outer s H E hr T => ?_
  exact (Z.ao (Z.a6 T 2 rfl (Z.aE C24 hr T 0 rfl (Z.ae (Z.aa T 0 rfl) (Z.ae Z.av Z.ap)) rfl (ad (ad ah))))
      (Z.ao (Z.a6 T 3 rfl (Z.di (Z.ak.b Z.av) (Z.ak.b (Z.cY (Z.ak.b (Z.aa T 2 rfl)) (Z.ak.b (Z.sF T 1 rfl b_min (Z.ak.b (Z.aa T 1 rfl)) (Z.ak.b (Z.sK T 2 rfl b_max (Z.ak.b Z.av) (Z.ak.b (Z.cT T 3 rfl b_len (Z.ak.b (Z.aa T 0 rfl))))))))))))
      (Z.ao (Z.a6 T 4 rfl (Z.bE T.hu (Z.gf.b (Z.jt (Z.ae Z.av (Z.ae Z.av (Z.ae Z.av (Z.ae Z.av (Z.ae Z.av (Z.ae Z.av Z.ap)))))))) (Z.ak.b (Z.cY (Z.ak.b (Z.ip (Z.ak.b (Z.aa T 2 rfl)) (Z.ak.b Z.av))) (Z.ak.b Z.av))) (fun _ _ => rfl)))
      (Z.aS (Z.bq (Z.cb T 4 rfl b_tuple (Z.gf.b (Z.bQ (N := ["_law_k", "_law_script", "_law_count", "_law_high"]) (own := 1) (G := ["_law_place", "_law_mixed"]) (fr := [0, 3, 4]) T rfl rfl (oN := ["_law_script", "_law_most", "_law_number", "_law_count", "_law_high"]) (on := (aj fN).names) (by decide +kernel) (Z.eV T 5 rfl b_range (Z.ae (Z.aa T 3 rfl) Z.ap) (ad ah)) (bR (by decide)) (fun cl C s' H' fp T => ⟨(Z.bJ T 0 rfl), Z.eT, (Z.aE C27 hr T 0 rfl (Z.ae (Z.aE C24 hr T 1 rfl (Z.ae (Z.aa T 1 rfl) (Z.ae (Z.di (Z.ak.b Z.av) (Z.ak.b (Z.aa T 0 rfl))) Z.ap)) rfl (ad (ad ah))) (Z.ae (Z.aa T 2 rfl) (Z.ae (Z.aa T 3 rfl) Z.ap))) rfl (ad (ad (ad ah))))⟩)))))))))
theorem sY : a5 ["_law_number", "_law_count", "_law_kind"] ["_law_number", "_law_count"] (aj gQ) := ⟨rfl, rfl, rfl, by decide +kernel, rfl, by decide +kernel, by decide +kernel⟩
theorem rL (W : gP K "_law_some" "_law_some" gQ f fd) {f25 : Addr} {d25 : FuncData} {aT : eE} (C25 : eL P w K mg base k "_law_drawn" ["_law_number", "_law_k"] aT f25 d25) (b_range : mg "range" = none) (b_tuple : mg "tuple" = none) :
    bf P w K mg base (cF P w mg) (k + 1) f fd ["_law_number", "_law_count"] (dg (dn 3 (jF aT)) 2) := by
  refine Z.fn_dataT W sY (G := ["tuple", "range"]) (by decide +kernel) fun cdv A outer s H E hr T => ?_
  exact (Z.ao (Z.a6 T 2 rfl (Z.cY (Z.ak.b (Z.aa T 0 rfl)) (Z.ak.b Z.av)))
      (Z.aS (Z.bq (Z.cb T 0 rfl b_tuple (Z.gf.b (Z.bQ (N := ["_law_k", "_law_kind", "_law_number"]) (own := 1) (G := ["_law_drawn"]) (fr := [2, 0]) T rfl rfl (oN := ["_law_number", "_law_count", "_law_kind"]) (on := (aj gQ).names) (by decide +kernel) (Z.eV T 1 rfl b_range (Z.ae (Z.aa T 1 rfl) Z.ap) (ad ah)) (bR (by decide)) (fun cl C s' H' fp T => ⟨(Z.bJ T 0 rfl), (Z.eP (Z.nW.t (Z.sr (Z.eS T.hu (Z.ak.b (Z.aa T 1 rfl)) (Z.ak.b Z.av)) (Z.pB (Z.pV (Z.ak.b (Z.cY (Z.ak.b (Z.aE C25 hr T 0 rfl (Z.ae (Z.aa T 2 rfl) (Z.ae (Z.aa T 0 rfl) Z.ap)) rfl (ad (ad ah)))) (Z.ak.b Z.av))) (Z.ak.b (Z.aa T 1 rfl))))))), (Z.aa T 0 rfl)⟩)))))))
theorem pU : a5 ["ground"] ["ground"] (aj ig) := ⟨rfl, rfl, rfl, by decide +kernel, rfl, by decide +kernel, by decide +kernel⟩
theorem o1 (W : gP K "all_places" "all_places" ig f fd) (b_len : mg "len" = none) (b_range : mg "range" = none) (b_tuple : mg "tuple" = none) :
    bf P w K mg base (cF P w mg) (k + 1) f fd ["ground"] (dg (dn 1 (gY)) 1) := by
  refine Z.fn_dataT W pU (G := ["tuple", "range", "len"]) (by decide +kernel) fun cdv A outer s H E hr T => ?_
  exact (Z.aS (Z.bq (Z.lU T 0 rfl b_tuple 1 rfl b_range (Z.ae (Z.cT T 2 rfl b_len (Z.ak.b (Z.aa T 0 rfl))) Z.ap))))
theorem sv : a5 ["thing"] ["thing"] (aj jQ) := ⟨rfl, rfl, rfl, by decide +kernel, rfl, by decide +kernel, by decide +kernel⟩
theorem rl (W : gP K "is_whole" "is_whole" jQ f fd) (b_bool : mg "bool" = none) (b_int : mg "int" = none) (b_isinstance : mg "isinstance" = none) :
    bf P w K mg base (cF P w mg) (k + 1) f fd ["thing"] (dg (dn 1 (ny)) 1) := by
  refine Z.fn_dataT W sv (G := ["isinstance", "int", "bool"]) (by decide +kernel) fun cdv A outer s H E hr T => ?_
  exact (Z.aS (Z.bq (Z.o7 (Z.j7 T 0 rfl b_isinstance T 1 rfl b_int (Z.ak.b (Z.aa T 0 rfl))) (Z.pR (Z.rY (Z.iF T 0 rfl b_isinstance T 2 rfl b_bool (Z.ak.b (Z.aa T 0 rfl))))))))
theorem o0 : a5 ["thing", "low", "high"] ["thing", "low", "high"] (aj io) := ⟨rfl, rfl, rfl, by decide +kernel, rfl, by decide +kernel, by decide +kernel⟩
theorem pM (W : gP K "is_between" "is_between" io f fd) {f0 : Addr} {d0 : FuncData} {dj : eE} (C0 : eL P w K mg base k "is_whole" ["thing"] dj f0 d0) :
    bf P w K mg base (cF P w mg) (k + 1) f fd ["thing", "low", "high"] (dg (dn 3 (hZ dj)) 3) := by
  refine Z.fn_dataT W o0 (G := ["is_whole"]) (by decide +kernel) fun cdv A outer s H E hr T => ?_
  exact (Z.aS (Z.bq (Z.o7 (Z.aE C0 hr T 0 rfl (Z.ae (Z.aa T 0 rfl) Z.ap) rfl (ad ah)) (Z.pR (Z.nC zf nB zf nB (Z.ak.b (Z.aa T 1 rfl)) (Z.ak.b (Z.aa T 0 rfl)) (Z.ak.b (Z.aa T 2 rfl)))))))
theorem sX : a5 ["thing", "count", "least", "number"] ["thing", "count"] (aj j6) := ⟨rfl, rfl, rfl, by decide +kernel, rfl, by decide +kernel, by decide +kernel⟩
theorem rB (W : gP K "are_some" "are_some" j6 f fd) {f1 : Addr} {d1 : FuncData} {cf : eE} (C1 : eL P w K mg base k "is_between" ["thing", "low", "high"] cf f1 d1) (b_isinstance : mg "isinstance" = none) (b_tuple : mg "tuple" = none) :
    bf P w K mg base (cF P w mg) (k + 1) f fd ["thing", "count"] (dg (dn 4 (jR cf)) 2) := by
  refine Z.fn_dataT W sX (G := ["isinstance", "tuple", "is_between"]) (by decide +kernel) fun cdv A outer s H E hr T => ?_
  exact (Z.ao (Z.eN (Z.gk (Z.fO (Z.ib T 0 rfl b_isinstance T 1 rfl b_tuple (Z.ak.b (Z.aa T 0 rfl))))) (Z.aS (Z.bq Z.gU)) Z.dl)
      (Z.ao (Z.a6 T 2 rfl Z.av)
      (Z.ao (Z.dt (have T := T.nox; Z.gC PassesOwn.never T.calm (Z.cM (Z.aa T 0 rfl)) (Z.bJ T 3 rfl) (Z.ao (Z.eN (Z.gk (Z.fO (Z.aE C1 hr T 2 rfl (Z.ae (Z.aa T 3 rfl) (Z.ae (Z.aa T 2 rfl) (Z.ae (Z.fV (Z.ak.b (Z.aa T 1 rfl)) (Z.ak.b Z.av)) Z.ap))) rfl (ad (ad (ad ah)))))) (Z.aS (Z.bq Z.gU)) Z.dl)
      (Z.aS (Z.a6 T 2 rfl (Z.di (Z.ak.b (Z.aa T 3 rfl)) (Z.ak.b Z.av)))))))
      (Z.aS (Z.bq Z.gU)))))
theorem wL : a5 ["some", "others"] ["some", "others"] (aj kj) := ⟨rfl, rfl, rfl, by decide +kernel, rfl, by decide +kernel, by decide +kernel⟩
theorem vY (W : gP K "common" "common" kj f fd) (b_tuple : mg "tuple" = none) :
    bf P w K mg base (cF P w mg) (k + 1) f fd ["some", "others"] (dg (dn 2 (mX)) 2) := by
  refine Z.fn_dataT W wL (G := ["tuple"]) (by decide +kernel) fun cdv A outer s H E hr T => ?_
  exact (Z.aS (Z.bq (Z.cb T 0 rfl b_tuple (Z.gf.b (Z.bQ (N := ["number", "others"]) (own := 1) (G := []) (fr := [1]) T rfl rfl (oN := ["some", "others"]) (on := (aj kj).names) (by decide +kernel) (Z.cM (Z.aa T 0 rfl)) (bR (by decide)) (fun cl C s' H' fp T => ⟨(Z.bJ T 0 rfl), (Z.eP (Z.k8 T.hu (Z.ak.b (Z.aa T 0 rfl)) (Z.ak.b (Z.aa T 1 rfl)) (by with_unfolding_all rfl))), (Z.aa T 0 rfl)⟩))))))
theorem lM : a5 ["moves", "others"] ["moves", "others"] (aj dP) := ⟨rfl, rfl, rfl, by decide +kernel, rfl, by decide +kernel, by decide +kernel⟩
theorem lO (W : gP K "moves_of_both" "moves_of_both" dP f fd) (b_tuple : mg "tuple" = none) (b_zip : mg "zip" = none) :
    bf P w K mg base (cF P w mg) (k + 1) f fd ["moves", "others"] (dg (dn 2 (fA)) 2) := by
  refine Z.fn_dataT W lM (G := ["tuple", "zip"]) (by decide +kernel) fun cdv A outer s H E hr T => ?_
  exact (Z.aS (Z.bq (Z.cb T 0 rfl b_tuple (Z.gf.b (Z.bQ (N := ["move", "other"]) (own := 2) (G := []) (fr := []) T rfl rfl (oN := ["moves", "others"]) (on := (aj dP).names) (by decide +kernel) (Z.sf T 1 rfl b_zip (Z.aa T 0 rfl) (Z.aa T 1 rfl)) (gK (by decide) (by decide)) (fun cl C s' H' fp T => ⟨(Z.gn T 0 1 rfl rfl), Z.eT, (Z.iY (Z.l8 (Z.ak.b (Z.aa T 0 rfl)) (Z.ak.b Z.eJ)) (Z.aa T 1 rfl) (Z.aa T 0 rfl))⟩))))))
theorem wd : a5 ["ranks"] ["ranks"] (aj kA) := ⟨rfl, rfl, rfl, by decide +kernel, rfl, by decide +kernel, by decide +kernel⟩
theorem vW (W : gP K "ranked" "ranked" kA f fd) (b_enumerate : mg "enumerate" = none) (b_tuple : mg "tuple" = none) :
    bf P w K mg base (cF P w mg) (k + 1) f fd ["ranks"] (dg (dn 1 (mx)) 1) := by
  refine Z.fn_dataT W wd (G := ["tuple", "enumerate"]) (by decide +kernel) fun cdv A outer s H E hr T => ?_
  exact (Z.aS (Z.bq (Z.cb T 0 rfl b_tuple (Z.gf.b (Z.bQ (N := ["number", "rank"]) (own := 2) (G := []) (fr := []) T rfl rfl (oN := ["ranks"]) (on := (aj kA).names) (by decide +kernel) (Z.hV T 1 rfl b_enumerate (Z.aa T 0 rfl)) (gK (by decide) (by decide)) (fun cl C s' H' fp T => ⟨(Z.gn T 0 1 rfl rfl), (Z.eP (Z.kr (Z.ak.b (Z.aa T 1 rfl)) (Z.ak.b Z.eJ))), (Z.aa T 0 rfl)⟩))))))
theorem lG : a5 ["ground", "who", "ranks", "moves", "number"] ["ground", "who", "ranks"] (aj dc) := ⟨rfl, rfl, rfl, by decide +kernel, rfl, by decide +kernel, by decide +kernel⟩
theorem lH (W : gP K "pulling_moves" "pulling_moves" dc f fd) {f15 : Addr} {d15 : FuncData} {a7 : eE} (C15 : eL P w K mg base k "ranked" ["ranks"] a7 f15 d15) {t_GOALS : Tok} (g_GOALS : mg "GOALS" = some (.int 3 t_GOALS)) {t_WHO : Tok} (g_WHO : mg "WHO" = some (.int 0 t_WHO)) (b_tuple : mg "tuple" = none) :
    bf P w K mg base (cF P w mg) (k + 1) f fd ["ground", "who", "ranks"] (dg (dn 5 (fx a7)) 3) := by
  refine Z.fn_dataT W lG (G := ["ranked", "WHO", "GOALS", "tuple"]) (by decide +kernel) fun cdv A outer s H E hr T => ?_
  exact (Z.ao (Z.fH 3 rfl (N := ["rank"]) (own := 1) (G := []) (fr := []) T rfl rfl (oN := ["ground", "who", "ranks", "moves", "number"]) (on := (aj dc).names) (by decide +kernel) (Z.cM (Z.aa T 2 rfl)) (bR (by decide)) (fun cl C s' H' fp T => ⟨(Z.bJ T 0 rfl), Z.eT, Z.eJ⟩))
      (Z.ao (Z.dt (have T := T.nox; Z.gC PassesOwn.never T.calm (Z.cM (Z.aE C15 hr T 0 rfl (Z.ae (Z.aa T 2 rfl) Z.ap) rfl (ad ah))) (Z.bJ T 4 rfl) (Z.aS (Z.eN (Z.nW.t (Z.oS (Z.eS T.hu (Z.ak.b (Z.bE T.hu (Z.ak.b (Z.bE T.hu (Z.ak.b (Z.aa T 0 rfl)) (Z.ak.b (Z.aa T 4 rfl)) (fun _ _ => rfl))) (Z.ak.b (Z.eA T 1 rfl g_WHO)) (fun _ _ => rfl))) (Z.ak.b (Z.aa T 1 rfl))) (Z.mL (Z.jO (Z.ak.b (Z.bE T.hu (Z.ak.b (Z.aa T 2 rfl)) (Z.ak.b (Z.aa T 4 rfl)) (fun _ _ => rfl))) (Z.ak.b Z.av))))) (Z.aS (Z.jm T 3 rfl (have T := T.nox; (Z.aa T 4 rfl)) (Z.bE T.hu (Z.gf.b (Z.bQ (N := ["goal", "ranks", "number"]) (own := 1) (G := []) (fr := [2, 4]) T rfl rfl (oN := ["ground", "who", "ranks", "moves", "number"]) (on := (aj dc).names) (by decide +kernel) (Z.cM (Z.bE T.hu (Z.ak.b (Z.bE T.hu (Z.ak.b (Z.aa T 0 rfl)) (Z.ak.b (Z.aa T 4 rfl)) (fun _ _ => rfl))) (Z.ak.b (Z.eA T 2 rfl g_GOALS)) (fun _ _ => rfl))) (bR (by decide)) (fun cl C s' H' fp T => ⟨(Z.bJ T 0 rfl), (Z.eP (Z.eS T.hu (Z.ak.b (Z.bE T.hu (Z.ak.b (Z.aa T 1 rfl)) (Z.ak.b (Z.aa T 0 rfl)) (fun _ _ => rfl))) (Z.ak.b (Z.fV (Z.ak.b (Z.bE T.hu (Z.ak.b (Z.aa T 1 rfl)) (Z.ak.b (Z.aa T 2 rfl)) (fun _ _ => rfl))) (Z.ak.b Z.av))))), (Z.aa T 0 rfl)⟩))) (Z.ak.b Z.av) (fun _ _ => rfl)))) Z.dl))))
      (Z.aS (Z.bq (Z.cb T 3 rfl b_tuple (Z.eF T 3 rfl))))))
theorem qV : a5 ["place", "ways", "who", "ranks", "known"] ["place", "ways", "who", "ranks"] (aj gg) := ⟨rfl, rfl, rfl, by decide +kernel, rfl, by decide +kernel, by decide +kernel⟩
theorem qu (W : gP K "is_forced" "is_forced" gg f fd) {t_WHO : Tok} (g_WHO : mg "WHO" = some (.int 0 t_WHO)) (b_len : mg "len" = none) :
    bf P w K mg base (cF P w mg) (k + 1) f fd ["place", "ways", "who", "ranks"] (dg (dn 5 (iS)) 4) := by
  refine Z.fn_dataT W qV (G := ["WHO", "len"]) (by decide +kernel) fun cdv A outer s H E hr T => ?_
  exact (Z.ao (Z.eY.fz (Z.fH 4 rfl (N := ["goal", "ranks"]) (own := 1) (G := []) (fr := [3]) T rfl rfl (oN := ["place", "ways", "who", "ranks", "known"]) (on := (aj gg).names) (by decide +kernel) (Z.cM (Z.aa T 1 rfl)) (bR (by decide)) (fun cl C s' H' fp T => ⟨(Z.bJ T 0 rfl), (Z.eP (Z.kr (Z.ak.b (Z.bE T.hu (Z.ak.b (Z.aa T 1 rfl)) (Z.ak.b (Z.aa T 0 rfl)) (fun _ _ => rfl))) (Z.ak.b Z.eJ))), (Z.aa T 0 rfl)⟩)) (show 4 < 5 by decide))
      (Z.ao (Z.eN (Z.eS T.hu (Z.ak.b (Z.bE T.hu (Z.ak.b (Z.aa T 0 rfl)) (Z.ak.b (Z.eA T 0 rfl g_WHO)) (fun _ _ => rfl))) (Z.ak.b (Z.aa T 2 rfl))) (Z.aS (Z.bq (Z.tG (Z.ak.b (Z.cT T 1 rfl b_len (Z.ak.b (Z.aa T 4 rfl)))) (Z.ak.b Z.av)))) Z.dl)
      (Z.aS (Z.bq (Z.qR T.hu (Z.ak.b (Z.cT T 1 rfl b_len (Z.ak.b (Z.aa T 4 rfl)))) (Z.ak.b (Z.cT T 1 rfl b_len (Z.ak.b (Z.aa T 1 rfl)))))))))
theorem rC : a5 ["ground", "inside", "who", "goals", "ways", "ranks", "rank", "found", "unranked", "number"] ["ground", "inside", "who", "goals"] (aj dX) := ⟨rfl, rfl, rfl, by decide +kernel, rfl, by decide +kernel, by decide +kernel⟩
theorem r8 (W : gP K "ranks_to" "ranks_to" dX f fd) {f4 : Addr} {d4 : FuncData} {a8 : eE} (C4 : eL P w K mg base k "common" ["some", "others"] a8 f4 d4) {f13 : Addr} {d13 : FuncData} {bP : eE} (C13 : eL P w K mg base k "is_forced" ["place", "ways", "who", "ranks"] bP f13 d13) {t_GOALS : Tok} (g_GOALS : mg "GOALS" = some (.int 3 t_GOALS)) (b_len : mg "len" = none) (b_list : mg "list" = none) (b_range : mg "range" = none) (b_tuple : mg "tuple" = none) :
    bf P w K mg base (cF P w mg) (k + 1) f fd ["ground", "inside", "who", "goals"] (dg (dn 10 (jL a8 bP)) 4) := by
  refine Z.fn_dataT W rC (G := ["range", "len", "list", "tuple"]) (by decide +kernel) fun cdv A outer s H E hr T => ?_
  exact (Z.ao (Z.a6 T 4 rfl (Z.gf.e (Z.bQ (N := ["place", "inside"]) (own := 1) (G := ["common", "GOALS"]) (fr := [1]) T rfl rfl (oN := ["ground", "inside", "who", "goals", "ways", "ranks", "rank", "found", "unranked", "number"]) (on := (aj dX).names) (by decide +kernel) (Z.cM (Z.aa T 0 rfl)) (bR (by decide)) (fun cl C s' H' fp T => ⟨(Z.bJ T 0 rfl), Z.eT, (Z.aE C4 hr T 0 rfl (Z.ae (Z.bE T.hu (Z.ak.b (Z.aa T 0 rfl)) (Z.ak.b (Z.eA T 1 rfl g_GOALS)) (fun _ _ => rfl)) (Z.ae (Z.aa T 1 rfl) Z.ap)) rfl (ad (ad ah)))⟩))))
      (Z.ao (Z.iN T 5 rfl (Z.bQ (N := ["number", "goals"]) (own := 1) (G := []) (fr := [3]) T rfl rfl (oN := ["ground", "inside", "who", "goals", "ways", "ranks", "rank", "found", "unranked", "number"]) (on := (aj dX).names) (by decide +kernel) (Z.eV T 0 rfl b_range (Z.ae (Z.cT T 1 rfl b_len (Z.ak.b (Z.aa T 0 rfl))) Z.ap) (ad ah)) (bR (by decide)) (fun cl C s' H' fp T => ⟨(Z.bJ T 0 rfl), Z.eT, (Z.iY (Z.k8 T.hu (Z.ak.b (Z.aa T 0 rfl)) (Z.ak.b (Z.aa T 1 rfl)) (by with_unfolding_all rfl)) Z.av Z.eJ)⟩)))
      (Z.ao (Z.a6 T 6 rfl Z.av)
      (Z.ao (Z.a6 T 7 rfl (Z.gf.e (Z.kh T 2 rfl b_list (Z.ak.b (Z.aa T 3 rfl)))))
      (Z.ao (Z.dt (have T := T.nox; Z.iL 1000000 PassesOwn.never (Z.jO (Z.ak.b (Z.cT T 1 rfl b_len (Z.ak.b (Z.aa T 7 rfl)))) (Z.ak.b Z.av)) (Z.ao (Z.oR T 6 rfl Z.av)
      (Z.ao (Z.eY.fz (Z.fH 8 rfl (N := ["number", "ranks"]) (own := 1) (G := []) (fr := [5]) T rfl rfl (oN := ["ground", "inside", "who", "goals", "ways", "ranks", "rank", "found", "unranked", "number"]) (on := (aj dX).names) (by decide +kernel) (Z.cM (Z.aa T 1 rfl)) (bR (by decide)) (fun cl C s' H' fp T => ⟨(Z.bJ T 0 rfl), (Z.eP (Z.l8 (Z.ak.b (Z.bE T.hu (Z.eF T 1 rfl) (Z.ak.b (Z.aa T 0 rfl)) (fun _ _ => rfl))) (Z.ak.b Z.eJ))), (Z.aa T 0 rfl)⟩)) (show 8 < 10 by decide))
      (Z.ao (Z.eY.fz (Z.fH 7 rfl (N := ["number", "ground", "ways", "who", "ranks"]) (own := 1) (G := ["is_forced"]) (fr := [0, 4, 2, 5]) T rfl rfl (oN := ["ground", "inside", "who", "goals", "ways", "ranks", "rank", "found", "unranked", "number"]) (on := (aj dX).names) (by decide +kernel) (Z.cM (Z.aa T 8 rfl)) (bR (by decide)) (fun cl C s' H' fp T => ⟨(Z.bJ T 0 rfl), (Z.eP (Z.fO (Z.ak.lent 4 (Z.aE C13 hr T 0 rfl (Z.ae (Z.bE T.hu (Z.ak.b (Z.aa T 1 rfl)) (Z.ak.b (Z.aa T 0 rfl)) (fun _ _ => rfl)) (Z.ae (Z.bE T.hu (Z.ak.b (Z.aa T 2 rfl)) (Z.ak.b (Z.aa T 0 rfl)) (fun _ _ => rfl)) (Z.ae (Z.aa T 3 rfl) (Z.ae (Z.aa T 4 rfl) Z.ap)))) rfl (ad (ad (ad (ad ah)))))))), (Z.aa T 0 rfl)⟩)) (show 7 < 10 by decide))
      (Z.aS (Z.dt (have T := T.nox; Z.gC PassesOwn.never T.calm (Z.cM (Z.aa T 7 rfl)) (Z.bJ T 9 rfl) (Z.aS (Z.jm T 5 rfl (have T := T.nox; (Z.aa T 9 rfl)) (Z.aa T 6 rfl)))))))))))
      (Z.aS (Z.bq (Z.cb T 3 rfl b_tuple (Z.eF T 5 rfl)))))))))
theorem sd : a5 ["ground"] ["ground"] (aj gX) := ⟨rfl, rfl, rfl, by decide +kernel, rfl, by decide +kernel, by decide +kernel⟩
theorem sW (W : gP K "no_moves" "no_moves" gX f fd) (b_tuple : mg "tuple" = none) :
    bf P w K mg base (cF P w mg) (k + 1) f fd ["ground"] (dg (dn 1 (jN)) 1) := by
  refine Z.fn_dataT W sd (G := ["tuple"]) (by decide +kernel) fun cdv A outer s H E hr T => ?_
  exact (Z.aS (Z.bq (Z.cb T 0 rfl b_tuple (Z.gf.b (Z.bQ (N := ["place"]) (own := 1) (G := []) (fr := []) T rfl rfl (oN := ["ground"]) (on := (aj gX).names) (by decide +kernel) (Z.cM (Z.aa T 0 rfl)) (bR (by decide)) (fun cl C s' H' fp T => ⟨(Z.bJ T 0 rfl), Z.eT, Z.eJ⟩))))))
theorem lN : a5 ["ground", "who", "part", "moves", "number"] ["ground", "who", "part"] (aj fu) := ⟨rfl, rfl, rfl, by decide +kernel, rfl, by decide +kernel, by decide +kernel⟩
theorem lL (W : gP K "staying_moves" "staying_moves" fu f fd) {f4 : Addr} {d4 : FuncData} {a8 : eE} (C4 : eL P w K mg base k "common" ["some", "others"] a8 f4 d4) {f7 : Addr} {d7 : FuncData} {bN : eE} (C7 : eL P w K mg base k "no_moves" ["ground"] bN f7 d7) {t_GOALS : Tok} (g_GOALS : mg "GOALS" = some (.int 3 t_GOALS)) {t_WHO : Tok} (g_WHO : mg "WHO" = some (.int 0 t_WHO)) (b_list : mg "list" = none) (b_tuple : mg "tuple" = none) :
    bf P w K mg base (cF P w mg) (k + 1) f fd ["ground", "who", "part"] (dg (dn 5 (fy a8 bN)) 3) := by
  refine Z.fn_dataT W lN (G := ["list", "no_moves", "WHO", "common", "GOALS", "tuple"]) (by decide +kernel) fun cdv A outer s H E hr T => ?_
  exact (Z.ao (Z.iN T 3 rfl (Z.kh T 0 rfl b_list (Z.ak.b (Z.aE C7 hr T 1 rfl (Z.ae (Z.aa T 0 rfl) Z.ap) rfl (ad ah)))))
      (Z.ao (Z.dt (have T := T.nox; Z.gC PassesOwn.never T.calm (Z.cM (Z.aa T 2 rfl)) (Z.bJ T 4 rfl) (Z.aS (Z.eN (Z.eS T.hu (Z.ak.b (Z.bE T.hu (Z.ak.b (Z.bE T.hu (Z.ak.b (Z.aa T 0 rfl)) (Z.ak.b (Z.aa T 4 rfl)) (fun _ _ => rfl))) (Z.ak.b (Z.eA T 2 rfl g_WHO)) (fun _ _ => rfl))) (Z.ak.b (Z.aa T 1 rfl))) (Z.aS (Z.jm T 3 rfl (have T := T.nox; (Z.aa T 4 rfl)) (Z.bE T.hu (Z.ak.b (Z.aE C4 hr T 3 rfl (Z.ae (Z.bE T.hu (Z.ak.b (Z.bE T.hu (Z.ak.b (Z.aa T 0 rfl)) (Z.ak.b (Z.aa T 4 rfl)) (fun _ _ => rfl))) (Z.ak.b (Z.eA T 4 rfl g_GOALS)) (fun _ _ => rfl)) (Z.ae (Z.aa T 2 rfl) Z.ap)) rfl (ad (ad ah)))) (Z.ak.b Z.av) (fun _ _ => rfl)))) Z.dl))))
      (Z.aS (Z.bq (Z.cb T 5 rfl b_tuple (Z.eF T 3 rfl))))))
theorem u3 : a5 ["some", "others"] ["some", "others"] (aj jo) := ⟨rfl, rfl, rfl, by decide +kernel, rfl, by decide +kernel, by decide +kernel⟩
theorem va (W : gP K "without" "without" jo f fd) (b_tuple : mg "tuple" = none) :
    bf P w K mg base (cF P w mg) (k + 1) f fd ["some", "others"] (dg (dn 2 (k7)) 2) := by
  refine Z.fn_dataT W u3 (G := ["tuple"]) (by decide +kernel) fun cdv A outer s H E hr T => ?_
  exact (Z.aS (Z.bq (Z.cb T 0 rfl b_tuple (Z.gf.b (Z.bQ (N := ["number", "others"]) (own := 1) (G := []) (fr := [1]) T rfl rfl (oN := ["some", "others"]) (on := (aj jo).names) (by decide +kernel) (Z.cM (Z.aa T 0 rfl)) (bR (by decide)) (fun cl C s' H' fp T => ⟨(Z.bJ T 0 rfl), (Z.eP (Z.kT T.hu (Z.ak.b (Z.aa T 0 rfl)) (Z.ak.b (Z.aa T 1 rfl)) (by with_unfolding_all rfl))), (Z.aa T 0 rfl)⟩))))))
theorem kD : a5 ["ground", "inside", "who", "goals", "ranks", "away", "moves", "other"] ["ground", "inside", "who", "goals"] (aj eG) := ⟨rfl, rfl, rfl, by decide +kernel, rfl, by decide +kernel, by decide +kernel⟩
theorem ki (W : gP K "share_by_coming" "share_by_coming" eG f fd) {f4 : Addr} {d4 : FuncData} {a8 : eE} (C4 : eL P w K mg base k "common" ["some", "others"] a8 f4 d4) {f8 : Addr} {d8 : FuncData} {ar : eE} (C8 : eL P w K mg base k "moves_of_both" ["moves", "others"] ar f8 d8) {f16 : Addr} {d16 : FuncData} {aN : eE} (C16 : eL P w K mg base k "pulling_moves" ["ground", "who", "ranks"] aN f16 d16) {f15 : Addr} {d15 : FuncData} {a7 : eE} (C15 : eL P w K mg base k "ranked" ["ranks"] a7 f15 d15) {f14 : Addr} {d14 : FuncData} {aW : eE} (C14 : eL P w K mg base k "ranks_to" ["ground", "inside", "who", "goals"] aW f14 d14) {f10 : Addr} {d10 : FuncData} {aA : eE} (C10 : eL P w K mg base k "staying_moves" ["ground", "who", "part"] aA f10 d10) {f5 : Addr} {d5 : FuncData} {aD : eE} (C5 : eL P w K mg base k "without" ["some", "others"] aD f5 d5) (b_len : mg "len" = none) {c_Share : Addr} (cl_Share : rm K c_Share) (n_Share_moves : cQ K c_Share "moves") (n_Share_places : cQ K c_Share "places") (n_Share_who : cQ K c_Share "who") (m_Share : mg "Share" = some (.ref c_Share)) {fi_Share : Addr} {di_Share : FuncData} (MK_Share : Mk K c_Share fi_Share) (I_Share : bf P w K mg base (cF P w mg) 1 fi_Share di_Share ["self", "who", "places", "moves"] (AQ c_Share ["who", "places", "moves"])) (B_Share : gH K di_Share ["self", "who", "places", "moves"] []) (hk : 2 ≤ k) :
    bf P w K mg base (cF P w mg) (k + 1) f fd ["ground", "inside", "who", "goals"] (dg (dn 8 (eD a8 ar aN a7 aW aA aD c_Share)) 4) := by
  refine Z.fn_dataT W kD (G := ["ranks_to", "common", "without", "ranked", "len", "moves_of_both", "pulling_moves", "staying_moves", "Share"]) (by decide +kernel) fun cdv A outer s H E hr T => ?_
  exact (Z.ao (Z.a6 T 4 rfl (Z.aE C14 hr T 0 rfl (Z.ae (Z.aa T 0 rfl) (Z.ae (Z.aa T 1 rfl) (Z.ae (Z.aa T 2 rfl) (Z.ae (Z.aE C4 hr T 1 rfl (Z.ae (Z.aa T 3 rfl) (Z.ae (Z.aa T 1 rfl) Z.ap)) rfl (ad (ad ah))) Z.ap)))) rfl (ad (ad (ad (ad ah))))))
      (Z.ao (Z.a6 T 5 rfl (Z.aE C5 hr T 2 rfl (Z.ae (Z.aa T 1 rfl) (Z.ae (Z.aE C15 hr T 3 rfl (Z.ae (Z.aa T 4 rfl) Z.ap) rfl (ad ah)) Z.ap)) rfl (ad (ad ah))))
      (Z.ao (Z.eN (Z.eS T.hu (Z.ak.b (Z.cT T 4 rfl b_len (Z.ak.b (Z.aa T 5 rfl)))) (Z.ak.b Z.av)) (Z.ao (Z.a6 T 6 rfl (Z.aE C8 hr T 5 rfl (Z.ae (Z.aE C16 hr T 6 rfl (Z.ae (Z.aa T 0 rfl) (Z.ae (Z.aa T 2 rfl) (Z.ae (Z.aa T 4 rfl) Z.ap))) rfl (ad (ad (ad ah)))) (Z.ae (Z.aE C10 hr T 7 rfl (Z.ae (Z.aa T 0 rfl) (Z.ae (Z.aa T 2 rfl) (Z.ae (Z.aa T 1 rfl) Z.ap))) rfl (ad (ad (ad ah)))) Z.ap)) rfl (ad (ad ah))))
      (Z.aS (Z.bq (Z.kN MK_Share I_Share (hr.mono hk) T 8 rfl m_Share B_Share (Z.ae (Z.aa T 2 rfl) (Z.ae (Z.aa T 1 rfl) (Z.ae (Z.aa T 6 rfl) Z.ap))) (ad (ad (ad ah))))))) Z.dl)
      (Z.ao (Z.a6 T 7 rfl (Z.fV (Z.ak.b Z.av) (Z.ak.b (Z.aa T 2 rfl))))
      (Z.ao (Z.a6 T 4 rfl (Z.aE C14 hr T 0 rfl (Z.ae (Z.aa T 0 rfl) (Z.ae (Z.aa T 1 rfl) (Z.ae (Z.aa T 7 rfl) (Z.ae (Z.aa T 5 rfl) Z.ap)))) rfl (ad (ad (ad (ad ah))))))
      (Z.ao (Z.a6 T 6 rfl (Z.aE C8 hr T 5 rfl (Z.ae (Z.aE C16 hr T 6 rfl (Z.ae (Z.aa T 0 rfl) (Z.ae (Z.aa T 7 rfl) (Z.ae (Z.aa T 4 rfl) Z.ap))) rfl (ad (ad (ad ah)))) (Z.ae (Z.aE C10 hr T 7 rfl (Z.ae (Z.aa T 0 rfl) (Z.ae (Z.aa T 7 rfl) (Z.ae (Z.aa T 5 rfl) Z.ap))) rfl (ad (ad (ad ah)))) Z.ap)) rfl (ad (ad ah))))
      (Z.aS (Z.bq (Z.kN MK_Share I_Share (hr.mono hk) T 8 rfl m_Share B_Share (Z.ae (Z.aa T 7 rfl) (Z.ae (Z.aE C15 hr T 3 rfl (Z.ae (Z.aa T 4 rfl) Z.ap) rfl (ad ah)) (Z.ae (Z.aa T 6 rfl) Z.ap))) (ad (ad (ad ah))))))))))))
theorem jy : a5 ["ground", "shares", "winners", "moves", "share", "number"] ["ground", "shares"] (aj cS) := ⟨rfl, rfl, rfl, by decide +kernel, rfl, by decide +kernel, by decide +kernel⟩
theorem jw (W : gP K "winners_and_moves" "winners_and_moves" cS f fd) {f8 : Addr} {d8 : FuncData} {ar : eE} (C8 : eL P w K mg base k "moves_of_both" ["moves", "others"] ar f8 d8) {f7 : Addr} {d7 : FuncData} {bN : eE} (C7 : eL P w K mg base k "no_moves" ["ground"] bN f7 d7) (b_tuple : mg "tuple" = none) {c_Share : Addr} (cl_Share : rm K c_Share) (n_Share_moves : cQ K c_Share "moves") (n_Share_places : cQ K c_Share "places") (n_Share_who : cQ K c_Share "who") :
    bf P w K mg base (cF P w mg) (k + 1) f fd ["ground", "shares"] (dg (dn 6 (dM ar bN c_Share)) 2) := by
  refine Z.fn_dataT W jy (G := ["no_moves", "moves_of_both", "tuple"]) (by decide +kernel) fun cdv A outer s H E hr T => ?_
  exact (Z.ao (Z.fH 2 rfl (N := ["place"]) (own := 1) (G := []) (fr := []) T rfl rfl (oN := ["ground", "shares", "winners", "moves", "share", "number"]) (on := (aj cS).names) (by decide +kernel) (Z.cM (Z.aa T 0 rfl)) (bR (by decide)) (fun cl C s' H' fp T => ⟨(Z.bJ T 0 rfl), Z.eT, Z.eJ⟩))
      (Z.ao (Z.a6 T 3 rfl (Z.aE C7 hr T 0 rfl (Z.ae (Z.aa T 0 rfl) Z.ap) rfl (ad ah)))
      (Z.ao (Z.dt (have T := T.nox; Z.gC PassesOwn.never T.calm (Z.cM (Z.aa T 1 rfl)) (Z.bJ T 4 rfl) (Z.ao (Z.dt (have T := T.nox; Z.gC PassesOwn.never T.calm (Z.cM (Z.jJ cl_Share n_Share_places (Z.aa T 4 rfl))) (Z.bJ T 5 rfl) (Z.aS (Z.jm T 2 rfl (have T := T.nox; (Z.aa T 5 rfl)) (Z.jJ cl_Share n_Share_who (Z.aa T 4 rfl))))))
      (Z.aS (Z.a6 T 3 rfl (Z.aE C8 hr T 1 rfl (Z.ae (Z.aa T 3 rfl) (Z.ae (Z.jJ cl_Share n_Share_moves (Z.aa T 4 rfl)) Z.ap)) rfl (ad (ad ah))))))))
      (Z.aS (Z.bq (Z.im (Z.ae (Z.cb T 2 rfl b_tuple (Z.eF T 2 rfl)) (Z.ae (Z.aa T 3 rfl) Z.ap))))))))
theorem xB : a5 ["ground", "who", "goals", "shares", "inside", "share"] ["ground", "who", "goals"] (aj o2) := ⟨rfl, rfl, rfl, by decide +kernel, rfl, by decide +kernel, by decide +kernel⟩
theorem xM (W : gP K "again" "again" o2 f fd) {f3 : Addr} {d3 : FuncData} {br : eE} (C3 : eL P w K mg base k "all_places" ["ground"] br f3 d3) {f2 : Addr} {d2 : FuncData} {bz : eE} (C2 : eL P w K mg base k "are_some" ["thing", "count"] bz f2 d2) {f18 : Addr} {d18 : FuncData} {bn : eE} (C18 : eL P w K mg base k "share_by_coming" ["ground", "inside", "who", "goals"] bn f18 d18) {f11 : Addr} {d11 : FuncData} {aI : eE} (C11 : eL P w K mg base k "winners_and_moves" ["ground", "shares"] aI f11 d11) {f5 : Addr} {d5 : FuncData} {aD : eE} (C5 : eL P w K mg base k "without" ["some", "others"] aD f5 d5) (b_len : mg "len" = none) {c_NoPart : Addr} (m_NoPart : mg "NoPart" = some (.ref c_NoPart)) (q_NoPart : PySem.W.excIn K c_NoPart zF yV = true) {c_Share : Addr} (cl_Share : rm K c_Share) (n_Share_places : cQ K c_Share "places") :
    bf P w K mg base (cF P w mg) (k + 1) f fd ["ground", "who", "goals"] (dg (dn 6 (oV br bz bn aI aD c_Share)) 3) := by
  refine Z.fn_dataT W xB (G := ["are_some", "len", "NoPart", "all_places", "share_by_coming", "without", "winners_and_moves"]) (by decide +kernel) fun cdv A outer s H E hr T => ?_
  exact (Z.ao (Z.eN (Z.gk (Z.fO (Z.aE C2 hr T 0 rfl (Z.ae (Z.aa T 2 rfl) (Z.ae (Z.cT T 1 rfl b_len (Z.ak.b (Z.aa T 0 rfl))) Z.ap)) rfl (ad (ad ah))))) (Z.aS (Z.fW T 2 rfl m_NoPart q_NoPart (have T := T.nox; Z.jT))) Z.dl)
      (Z.ao (Z.iN T 3 rfl (Z.jt Z.ap))
      (Z.ao (Z.a6 T 4 rfl (Z.aE C3 hr T 3 rfl (Z.ae (Z.aa T 0 rfl) Z.ap) rfl (ad ah)))
      (Z.ao (Z.dt (have T := T.nox; Z.iL 1000000 PassesOwn.never (Z.jO (Z.ak.b (Z.cT T 1 rfl b_len (Z.ak.b (Z.aa T 4 rfl)))) (Z.ak.b Z.av)) (Z.ao (Z.a6 T 5 rfl (Z.aE C18 hr T 4 rfl (Z.ae (Z.aa T 0 rfl) (Z.ae (Z.aa T 4 rfl) (Z.ae (Z.aa T 1 rfl) (Z.ae (Z.aa T 2 rfl) Z.ap)))) rfl (ad (ad (ad (ad ah))))))
      (Z.ao (Z.fR T 3 rfl (Z.aa T 5 rfl))
      (Z.aS (Z.a6 T 4 rfl (Z.aE C5 hr T 5 rfl (Z.ae (Z.aa T 4 rfl) (Z.ae (Z.jJ cl_Share n_Share_places (Z.aa T 5 rfl)) Z.ap)) rfl (ad (ad ah)))))))))
      (Z.aS (Z.tZ 3 (Z.bq (Z.aE C11 hr T 6 rfl (Z.ae (Z.aa T 0 rfl) (Z.ae (Z.aa T 3 rfl) Z.ap)) rfl (ad (ad ah))))))))))
theorem lI : a5 ["ground", "inside"] ["ground", "inside"] (aj dO) := ⟨rfl, rfl, rfl, by decide +kernel, rfl, by decide +kernel, by decide +kernel⟩
theorem lD (W : gP K "is_whole_part" "is_whole_part" dO f fd) {f4 : Addr} {d4 : FuncData} {a8 : eE} (C4 : eL P w K mg base k "common" ["some", "others"] a8 f4 d4) {t_GOALS : Tok} (g_GOALS : mg "GOALS" = some (.int 3 t_GOALS)) (b_all : mg "all" = none) (b_len : mg "len" = none) :
    bf P w K mg base (cF P w mg) (k + 1) f fd ["ground", "inside"] (dg (dn 2 (ft a8)) 2) := by
  refine Z.fn_dataT W lI (G := ["all"]) (by decide +kernel) fun cdv A outer s H E hr T => ?_
  exact (Z.aS (Z.bq (Z.rJ T 0 rfl b_all (Z.gf.b (Z.bQ (N := ["number", "ground", "inside"]) (own := 1) (G := ["len", "common", "GOALS"]) (fr := [0, 1]) T rfl rfl (oN := ["ground", "inside"]) (on := (aj dO).names) (by decide +kernel) (Z.cM (Z.aa T 1 rfl)) (bR (by decide)) (fun cl C s' H' fp T => ⟨(Z.bJ T 0 rfl), Z.eT, (Z.tG (Z.ak.b (Z.cT T 0 rfl b_len (Z.ak.b (Z.aE C4 hr T 1 rfl (Z.ae (Z.bE T.hu (Z.ak.b (Z.bE T.hu (Z.ak.b (Z.aa T 1 rfl)) (Z.ak.b (Z.aa T 0 rfl)) (fun _ _ => rfl))) (Z.ak.b (Z.eA T 2 rfl g_GOALS)) (fun _ _ => rfl)) (Z.ae (Z.aa T 2 rfl) Z.ap)) rfl (ad (ad ah)))))) (Z.ak.b Z.av))⟩))))))
theorem oX : a5 ["ground", "inside", "some"] ["ground", "inside", "some"] (aj ir) := ⟨rfl, rfl, rfl, by decide +kernel, rfl, by decide +kernel, by decide +kernel⟩
theorem o6 (W : gP K "check_part" "check_part" ir f fd) {f2 : Addr} {d2 : FuncData} {bz : eE} (C2 : eL P w K mg base k "are_some" ["thing", "count"] bz f2 d2) {f6 : Addr} {d6 : FuncData} {bL : eE} (C6 : eL P w K mg base k "is_whole_part" ["ground", "inside"] bL f6 d6) {f5 : Addr} {d5 : FuncData} {aD : eE} (C5 : eL P w K mg base k "without" ["some", "others"] aD f5 d5) (b_len : mg "len" = none) {c_NoPart : Addr} (m_NoPart : mg "NoPart" = some (.ref c_NoPart)) (q_NoPart : PySem.W.excIn K c_NoPart zF yV = true) :
    bf P w K mg base (cF P w mg) (k + 1) f fd ["ground", "inside", "some"] (dg (dn 3 (hR bz bL aD)) 3) := by
  refine Z.fn_dataT W oX (G := ["are_some", "len", "NoPart", "without", "is_whole_part"]) (by decide +kernel) fun cdv A outer s H E hr T => ?_
  exact (Z.ao (Z.eN (Z.gk (Z.fO (Z.aE C2 hr T 0 rfl (Z.ae (Z.aa T 1 rfl) (Z.ae (Z.cT T 1 rfl b_len (Z.ak.b (Z.aa T 0 rfl))) Z.ap)) rfl (ad (ad ah))))) (Z.aS (Z.fW T 2 rfl m_NoPart q_NoPart (have T := T.nox; Z.jT))) Z.dl)
      (Z.ao (Z.eN (Z.gk (Z.fO (Z.aE C2 hr T 0 rfl (Z.ae (Z.aa T 2 rfl) (Z.ae (Z.cT T 1 rfl b_len (Z.ak.b (Z.aa T 0 rfl))) Z.ap)) rfl (ad (ad ah))))) (Z.aS (Z.fW T 2 rfl m_NoPart q_NoPart (have T := T.nox; Z.jT))) Z.dl)
      (Z.ao (Z.eN (Z.jO (Z.ak.b (Z.cT T 1 rfl b_len (Z.ak.b (Z.aE C5 hr T 3 rfl (Z.ae (Z.aa T 2 rfl) (Z.ae (Z.aa T 1 rfl) Z.ap)) rfl (ad (ad ah)))))) (Z.ak.b Z.av)) (Z.aS (Z.fW T 2 rfl m_NoPart q_NoPart (have T := T.nox; Z.jT))) Z.dl)
      (Z.aS (Z.eN (Z.gk (Z.fO (Z.aE C6 hr T 4 rfl (Z.ae (Z.aa T 0 rfl) (Z.ae (Z.aa T 1 rfl) Z.ap)) rfl (ad (ad ah))))) (Z.aS (Z.fW T 2 rfl m_NoPart q_NoPart (have T := T.nox; Z.jT))) Z.dl)))))
theorem zo : a5 ["ground", "inside", "who", "places", "ranks", "part"] ["ground", "inside", "who", "places"] (aj sJ) := ⟨rfl, rfl, rfl, by decide +kernel, rfl, by decide +kernel, by decide +kernel⟩
theorem zN (W : gP K "kept" "kept" sJ f fd) {f12 : Addr} {d12 : FuncData} {cr : eE} (C12 : eL P w K mg base k "check_part" ["ground", "inside", "some"] cr f12 d12) {f15 : Addr} {d15 : FuncData} {a7 : eE} (C15 : eL P w K mg base k "ranked" ["ranks"] a7 f15 d15) {f14 : Addr} {d14 : FuncData} {aW : eE} (C14 : eL P w K mg base k "ranks_to" ["ground", "inside", "who", "goals"] aW f14 d14) {f10 : Addr} {d10 : FuncData} {aA : eE} (C10 : eL P w K mg base k "staying_moves" ["ground", "who", "part"] aA f10 d10) {f5 : Addr} {d5 : FuncData} {aD : eE} (C5 : eL P w K mg base k "without" ["some", "others"] aD f5 d5) :
    bf P w K mg base (cF P w mg) (k + 1) f fd ["ground", "inside", "who", "places"] (dg (dn 6 (rR cr a7 aW aA aD)) 4) := by
  refine Z.fn_dataT W zo (G := ["check_part", "ranks_to", "without", "ranked", "staying_moves"]) (by decide +kernel) fun cdv A outer s H E hr T => ?_
  exact (Z.ao (Z.pK (Z.ak.b (Z.aE C12 hr T 0 rfl (Z.ae (Z.aa T 0 rfl) (Z.ae (Z.aa T 1 rfl) (Z.ae (Z.aa T 3 rfl) Z.ap))) rfl (ad (ad (ad ah))))))
      (Z.ao (Z.a6 T 4 rfl (Z.aE C14 hr T 1 rfl (Z.ae (Z.aa T 0 rfl) (Z.ae (Z.aa T 1 rfl) (Z.ae (Z.fV (Z.ak.b Z.av) (Z.ak.b (Z.aa T 2 rfl))) (Z.ae (Z.aE C5 hr T 2 rfl (Z.ae (Z.aa T 1 rfl) (Z.ae (Z.aa T 3 rfl) Z.ap)) rfl (ad (ad ah))) Z.ap)))) rfl (ad (ad (ad (ad ah))))))
      (Z.ao (Z.a6 T 5 rfl (Z.aE C5 hr T 2 rfl (Z.ae (Z.aa T 1 rfl) (Z.ae (Z.aE C15 hr T 3 rfl (Z.ae (Z.aa T 4 rfl) Z.ap) rfl (ad ah)) Z.ap)) rfl (ad (ad ah))))
      (Z.aS (Z.bq (Z.im (Z.ae (Z.aa T 5 rfl) (Z.ae (Z.aE C10 hr T 4 rfl (Z.ae (Z.aa T 0 rfl) (Z.ae (Z.aa T 2 rfl) (Z.ae (Z.aa T 5 rfl) Z.ap))) rfl (ad (ad (ad ah)))) Z.ap))))))))
theorem sU : a5 ["moves", "places"] ["moves", "places"] (aj gV) := ⟨rfl, rfl, rfl, by decide +kernel, rfl, by decide +kernel, by decide +kernel⟩
theorem sC (W : gP K "moves_at" "moves_at" gV f fd) (b_enumerate : mg "enumerate" = none) (b_tuple : mg "tuple" = none) :
    bf P w K mg base (cF P w mg) (k + 1) f fd ["moves", "places"] (dg (dn 2 (jW)) 2) := by
  refine Z.fn_dataT W sU (G := ["tuple", "enumerate"]) (by decide +kernel) fun cdv A outer s H E hr T => ?_
  exact (Z.aS (Z.bq (Z.cb T 0 rfl b_tuple (Z.gf.b (Z.bQ (N := ["number", "move", "places"]) (own := 2) (G := []) (fr := [1]) T rfl rfl (oN := ["moves", "places"]) (on := (aj gV).names) (by decide +kernel) (Z.hV T 1 rfl b_enumerate (Z.aa T 0 rfl)) (gK (by decide) (by decide)) (fun cl C s' H' fp T => ⟨(Z.gn T 0 1 rfl rfl), Z.eT, (Z.iY (Z.k8 T.hu (Z.ak.b (Z.aa T 0 rfl)) (Z.ak.b (Z.aa T 2 rfl)) (by with_unfolding_all rfl)) (Z.aa T 1 rfl) Z.eJ)⟩))))))
theorem kJ : a5 ["ground", "inside", "highest", "who", "other", "tops", "ranks", "below", "lost", "moves"] ["ground", "inside"] (aj cw) := ⟨rfl, rfl, rfl, by decide +kernel, rfl, by decide +kernel, by decide +kernel⟩
theorem kL (W : gP K "share_by_marks" "share_by_marks" cw f fd) {f9 : Addr} {d9 : FuncData} {cz : eE} (C9 : eL P w K mg base k "moves_at" ["moves", "places"] cz f9 d9) {f8 : Addr} {d8 : FuncData} {ar : eE} (C8 : eL P w K mg base k "moves_of_both" ["moves", "others"] ar f8 d8) {f16 : Addr} {d16 : FuncData} {aN : eE} (C16 : eL P w K mg base k "pulling_moves" ["ground", "who", "ranks"] aN f16 d16) {f15 : Addr} {d15 : FuncData} {a7 : eE} (C15 : eL P w K mg base k "ranked" ["ranks"] a7 f15 d15) {f14 : Addr} {d14 : FuncData} {aW : eE} (C14 : eL P w K mg base k "ranks_to" ["ground", "inside", "who", "goals"] aW f14 d14) {f10 : Addr} {d10 : FuncData} {aA : eE} (C10 : eL P w K mg base k "staying_moves" ["ground", "who", "part"] aA f10 d10) {f21 : Addr} {d21 : FuncData} {aO : eE} (C21 : eL P w K mg base k "winners_within" ["ground", "inside"] aO f21 d21) {f5 : Addr} {d5 : FuncData} {aD : eE} (C5 : eL P w K mg base k "without" ["some", "others"] aD f5 d5) {t_MARK : Tok} (g_MARK : mg "MARK" = some (.int 1 t_MARK)) (b_enumerate : mg "enumerate" = none) (b_len : mg "len" = none) (b_max : mg "max" = none) {c_Share : Addr} (cl_Share : rm K c_Share) (n_Share_moves : cQ K c_Share "moves") (n_Share_places : cQ K c_Share "places") (n_Share_who : cQ K c_Share "who") (m_Share : mg "Share" = some (.ref c_Share)) {fi_Share : Addr} {di_Share : FuncData} (MK_Share : Mk K c_Share fi_Share) (I_Share : bf P w K mg base (cF P w mg) 1 fi_Share di_Share ["self", "who", "places", "moves"] (AQ c_Share ["who", "places", "moves"])) (B_Share : gH K di_Share ["self", "who", "places", "moves"] []) (hk : 2 ≤ k) :
    bf P w K mg base (cF P w mg) (k + 1) f fd ["ground", "inside"] (dg (dn 10 (dG cz ar aN a7 aW aA aO aD c_Share)) 2) := by
  refine Z.fn_dataT W kJ (G := ["max", "ranks_to", "winners_within", "without", "ranked", "enumerate", "len", "moves_of_both", "pulling_moves", "Share", "staying_moves", "moves_at"]) (by decide +kernel) fun cdv A outer s H E hr T => ?_
  exact (Z.ao (Z.a6 T 2 rfl (Z.oY T 0 rfl b_max (Z.gf.b (Z.bQ (N := ["number", "ground"]) (own := 1) (G := ["MARK"]) (fr := [0]) T rfl rfl (oN := ["ground", "inside", "highest", "who", "other", "tops", "ranks", "below", "lost", "moves"]) (on := (aj cw).names) (by decide +kernel) (Z.cM (Z.aa T 1 rfl)) (bR (by decide)) (fun cl C s' H' fp T => ⟨(Z.bJ T 0 rfl), Z.eT, (Z.bE T.hu (Z.ak.b (Z.bE T.hu (Z.ak.b (Z.aa T 1 rfl)) (Z.ak.b (Z.aa T 0 rfl)) (fun _ _ => rfl))) (Z.ak.b (Z.eA T 0 rfl g_MARK)) (fun _ _ => rfl))⟩)))))
      (Z.ao (Z.a6 T 3 rfl (Z.cY (Z.ak.b (Z.aa T 2 rfl)) (Z.ak.b Z.av)))
      (Z.ao (Z.a6 T 4 rfl (Z.fV (Z.ak.b Z.av) (Z.ak.b (Z.aa T 3 rfl))))
      (Z.ao (Z.eY.fz (Z.fH 5 rfl (N := ["number", "ground", "highest"]) (own := 1) (G := ["MARK"]) (fr := [0, 2]) T rfl rfl (oN := ["ground", "inside", "highest", "who", "other", "tops", "ranks", "below", "lost", "moves"]) (on := (aj cw).names) (by decide +kernel) (Z.cM (Z.aa T 1 rfl)) (bR (by decide)) (fun cl C s' H' fp T => ⟨(Z.bJ T 0 rfl), (Z.eP (Z.eS T.hu (Z.ak.b (Z.bE T.hu (Z.ak.b (Z.bE T.hu (Z.ak.b (Z.aa T 1 rfl)) (Z.ak.b (Z.aa T 0 rfl)) (fun _ _ => rfl))) (Z.ak.b (Z.eA T 0 rfl g_MARK)) (fun _ _ => rfl))) (Z.ak.b (Z.aa T 2 rfl)))), (Z.aa T 0 rfl)⟩)) (show 5 < 10 by decide))
      (Z.ao (Z.a6 T 6 rfl (Z.aE C14 hr T 1 rfl (Z.ae (Z.aa T 0 rfl) (Z.ae (Z.aa T 1 rfl) (Z.ae (Z.aa T 3 rfl) (Z.ae (Z.aa T 5 rfl) Z.ap)))) rfl (ad (ad (ad (ad ah))))))
      (Z.ao (Z.a6 T 7 rfl (Z.aE C21 hr T 2 rfl (Z.ae (Z.aa T 0 rfl) (Z.ae (Z.aE C5 hr T 3 rfl (Z.ae (Z.aa T 1 rfl) (Z.ae (Z.aE C15 hr T 4 rfl (Z.ae (Z.aa T 6 rfl) Z.ap) rfl (ad ah)) Z.ap)) rfl (ad (ad ah))) Z.ap)) rfl (ad (ad ah))))
      (Z.ao (Z.eY.fz (Z.fH 8 rfl (N := ["number", "winner", "other"]) (own := 2) (G := []) (fr := [4]) T rfl rfl (oN := ["ground", "inside", "highest", "who", "other", "tops", "ranks", "below", "lost", "moves"]) (on := (aj cw).names) (by decide +kernel) (Z.hV T 5 rfl b_enumerate (Z.bE T.hu (Z.ak.b (Z.aa T 7 rfl)) (Z.ak.b Z.av) (fun _ _ => rfl))) (gK (by decide) (by decide)) (fun cl C s' H' fp T => ⟨(Z.gn T 0 1 rfl rfl), (Z.eP (Z.eS T.hu (Z.ak.b (Z.aa T 1 rfl)) (Z.ak.b (Z.aa T 2 rfl)))), (Z.aa T 0 rfl)⟩)) (show 8 < 10 by decide))
      (Z.ao (Z.eN (Z.eS T.hu (Z.ak.b (Z.cT T 6 rfl b_len (Z.ak.b (Z.aa T 8 rfl)))) (Z.ak.b Z.av)) (Z.ao (Z.a6 T 9 rfl (Z.aE C8 hr T 7 rfl (Z.ae (Z.aE C16 hr T 8 rfl (Z.ae (Z.aa T 0 rfl) (Z.ae (Z.aa T 3 rfl) (Z.ae (Z.aa T 6 rfl) Z.ap))) rfl (ad (ad (ad ah)))) (Z.ae (Z.bE T.hu (Z.ak.b (Z.aa T 7 rfl)) (Z.ak.b Z.av) (fun _ _ => rfl)) Z.ap)) rfl (ad (ad ah))))
      (Z.aS (Z.bq (Z.kN MK_Share I_Share (hr.mono hk) T 9 rfl m_Share B_Share (Z.ae (Z.aa T 3 rfl) (Z.ae (Z.aa T 1 rfl) (Z.ae (Z.aE C8 hr T 7 rfl (Z.ae (Z.aa T 9 rfl) (Z.ae (Z.aE C10 hr T 10 rfl (Z.ae (Z.aa T 0 rfl) (Z.ae (Z.aa T 3 rfl) (Z.ae (Z.aa T 1 rfl) Z.ap))) rfl (ad (ad (ad ah)))) Z.ap)) rfl (ad (ad ah))) Z.ap))) (ad (ad (ad ah))))))) Z.dl)
      (Z.ao (Z.a6 T 6 rfl (Z.aE C14 hr T 1 rfl (Z.ae (Z.aa T 0 rfl) (Z.ae (Z.aa T 1 rfl) (Z.ae (Z.aa T 4 rfl) (Z.ae (Z.aa T 8 rfl) Z.ap)))) rfl (ad (ad (ad (ad ah))))))
      (Z.ao (Z.a6 T 9 rfl (Z.aE C8 hr T 7 rfl (Z.ae (Z.aE C16 hr T 8 rfl (Z.ae (Z.aa T 0 rfl) (Z.ae (Z.aa T 4 rfl) (Z.ae (Z.aa T 6 rfl) Z.ap))) rfl (ad (ad (ad ah)))) (Z.ae (Z.aE C9 hr T 11 rfl (Z.ae (Z.bE T.hu (Z.ak.b (Z.aa T 7 rfl)) (Z.ak.b Z.av) (fun _ _ => rfl)) (Z.ae (Z.aa T 8 rfl) Z.ap)) rfl (ad (ad ah))) Z.ap)) rfl (ad (ad ah))))
      (Z.aS (Z.bq (Z.kN MK_Share I_Share (hr.mono hk) T 9 rfl m_Share B_Share (Z.ae (Z.aa T 4 rfl) (Z.ae (Z.aE C15 hr T 4 rfl (Z.ae (Z.aa T 6 rfl) Z.ap) rfl (ad ah)) (Z.ae (Z.aa T 9 rfl) Z.ap))) (ad (ad (ad ah))))))))))))))))
theorem kK : a5 ["ground", "inside", "shares", "left", "share"] ["ground", "inside"] (aj eO) := ⟨rfl, rfl, rfl, by decide +kernel, rfl, by decide +kernel, by decide +kernel⟩
theorem la (W : gP K "winners_within" "winners_within" eO f fd) {f20 : Addr} {d20 : FuncData} {aZ : eE} (C20 : eL P w K mg base k "share_by_marks" ["ground", "inside"] aZ f20 d20) {f11 : Addr} {d11 : FuncData} {aI : eE} (C11 : eL P w K mg base k "winners_and_moves" ["ground", "shares"] aI f11 d11) {f5 : Addr} {d5 : FuncData} {aD : eE} (C5 : eL P w K mg base k "without" ["some", "others"] aD f5 d5) (b_len : mg "len" = none) {c_Share : Addr} (cl_Share : rm K c_Share) (n_Share_places : cQ K c_Share "places") :
    bf P w K mg base (cF P w mg) (k + 1) f fd ["ground", "inside"] (dg (dn 5 (dF aZ aI aD c_Share)) 2) := by
  refine Z.fn_dataT W kK (G := ["len", "share_by_marks", "without", "winners_and_moves"]) (by decide +kernel) fun cdv A outer s H E hr T => ?_
  exact (Z.ao (Z.iN T 2 rfl (Z.jt Z.ap))
      (Z.ao (Z.a6 T 3 rfl (Z.aa T 1 rfl))
      (Z.ao (Z.dt (have T := T.nox; Z.iL 1000000 PassesOwn.never (Z.jO (Z.ak.b (Z.cT T 0 rfl b_len (Z.ak.b (Z.aa T 3 rfl)))) (Z.ak.b Z.av)) (Z.ao (Z.a6 T 4 rfl (Z.aE C20 hr T 1 rfl (Z.ae (Z.aa T 0 rfl) (Z.ae (Z.aa T 3 rfl) Z.ap)) rfl (ad (ad ah))))
      (Z.ao (Z.fR T 2 rfl (Z.aa T 4 rfl))
      (Z.aS (Z.a6 T 3 rfl (Z.aE C5 hr T 2 rfl (Z.ae (Z.aa T 3 rfl) (Z.ae (Z.jJ cl_Share n_Share_places (Z.aa T 4 rfl)) Z.ap)) rfl (ad (ad ah)))))))))
      (Z.aS (Z.tZ 2 (Z.bq (Z.aE C11 hr T 3 rfl (Z.ae (Z.aa T 0 rfl) (Z.ae (Z.aa T 2 rfl) Z.ap)) rfl (ad (ad ah)))))))))
theorem A0 : a5 ["ground"] ["ground"] (aj wA) := ⟨rfl, rfl, rfl, by decide +kernel, rfl, by decide +kernel, by decide +kernel⟩
theorem Bt (W : gP K "won" "won" wA f fd) {f3 : Addr} {d3 : FuncData} {br : eE} (C3 : eL P w K mg base k "all_places" ["ground"] br f3 d3) {f21 : Addr} {d21 : FuncData} {aO : eE} (C21 : eL P w K mg base k "winners_within" ["ground", "inside"] aO f21 d21) :
    bf P w K mg base (cF P w mg) (k + 1) f fd ["ground"] (dg (dn 1 (wf br aO)) 1) := by
  refine Z.fn_dataT W A0 (G := ["winners_within", "all_places"]) (by decide +kernel) fun cdv A outer s H E hr T => ?_
  exact (Z.aS (Z.bq (Z.aE C21 hr T 0 rfl (Z.ae (Z.aa T 0 rfl) (Z.ae (Z.aE C3 hr T 1 rfl (Z.ae (Z.aa T 0 rfl) Z.ap) rfl (ad ah)) Z.ap)) rfl (ad (ad ah)))))
theorem Bw : a5 ["_law_script", "_law_ground_here", "_law_count", "_law_goals_here", "_law_who", "_law_marked", "_law_some_here", "_law_closed", "_law_k", "_law_place_here", "_law_winners", "_law_left"] ["_law_script"] (aj iE) := ⟨rfl, rfl, rfl, by decide +kernel, rfl, by decide +kernel, by decide +kernel⟩
theorem BC (W : gP K "law" "law" iE f fd) {f28 : Addr} {d28 : FuncData} {cn : eE} (C28 : eL P w K mg base k "_law_ground" ["_law_script", "_law_most"] cn f28 d28) {f24 : Addr} {d24 : FuncData} {bh : eE} (C24 : eL P w K mg base k "_law_mixed" ["_law_script", "_law_k"] bh f24 d24) {f29 : Addr} {d29 : FuncData} {cN : eE} (C29 : eL P w K mg base k "_law_some" ["_law_number", "_law_count"] cN f29 d29) {f19 : Addr} {d19 : FuncData} {fJ : eE} (C19 : eL P w K mg base k "again" ["ground", "who", "goals"] fJ f19 d19) {f17 : Addr} {d17 : FuncData} {hJ : eE} (C17 : eL P w K mg base k "kept" ["ground", "inside", "who", "places"] hJ f17 d17) {f22 : Addr} {d22 : FuncData} {jC : eE} (C22 : eL P w K mg base k "won" ["ground"] jC f22 d22) (b_enumerate : mg "enumerate" = none) (b_int : mg "int" = none) (b_len : mg "len" = none) (b_range : mg "range" = none) (b_tuple : mg "tuple" = none) :
    bf P w K mg base (cF P w mg) (k + 1) f fd ["_law_script"] (dg (dn 12 (v9 cn bh cN fJ hJ jC)) 1) := by
  refine Z.fn_dataT W Bw (G := ["_law_ground", "len", "_law_some", "_law_mixed", "tuple", "enumerate", "won", "again", "kept", "range"]) (by decide +kernel) fun cdv A outer s H E hr T => ?_
  exact (Z.ao (Z.a6 T 1 rfl (Z.aE C28 hr T 0 rfl (Z.ae (Z.aa T 0 rfl) (Z.ae Z.av Z.ap)) rfl (ad (ad ah))))
      (Z.ao (Z.a6 T 2 rfl (Z.cT T 1 rfl b_len (Z.ak.b (Z.aa T 1 rfl))))
      (Z.ao (Z.a6 T 3 rfl (Z.aE C29 hr T 2 rfl (Z.ae (Z.aE C24 hr T 3 rfl (Z.ae (Z.aa T 0 rfl) (Z.ae Z.av Z.ap)) rfl (ad (ad ah))) (Z.ae (Z.aa T 2 rfl) Z.ap)) rfl (ad (ad ah))))
      (Z.ao (Z.a6 T 4 rfl (Z.cY (Z.ak.b (Z.ip (Z.ak.b (Z.aE C24 hr T 3 rfl (Z.ae (Z.aa T 0 rfl) (Z.ae Z.av Z.ap)) rfl (ad (ad ah)))) (Z.ak.b Z.av))) (Z.ak.b Z.av)))
      (Z.ao (Z.a6 T 5 rfl (Z.cb T 4 rfl b_tuple (Z.gf.b (Z.bQ (N := ["_law_k", "_law_place_here", "_law_who", "_law_goals_here"]) (own := 2) (G := ["int"]) (fr := [4, 3]) T rfl rfl (oN := ["_law_script", "_law_ground_here", "_law_count", "_law_goals_here", "_law_who", "_law_marked", "_law_some_here", "_law_closed", "_law_k", "_law_place_here", "_law_winners", "_law_left"]) (on := (aj iE).names) (by decide +kernel) (Z.hV T 5 rfl b_enumerate (Z.aa T 1 rfl)) (gK (by decide) (by decide)) (fun cl C s' H' fp T => ⟨(Z.gn T 0 1 rfl rfl), Z.eT, (Z.im (Z.ae (Z.bE T.hu (Z.ak.b (Z.aa T 1 rfl)) (Z.ak.b Z.av) (fun _ _ => rfl)) (Z.ae (Z.di (Z.ak.b (Z.fV (Z.ak.b Z.av) (Z.ak.b (Z.aa T 2 rfl)))) (Z.ak.b (Z.l4 T 0 rfl b_int (Z.ak.b (Z.wa T.hu (Z.ak.b (Z.aa T 0 rfl)) (Z.ak.b (Z.aa T 3 rfl)) (by with_unfolding_all rfl)))))) (Z.ae (Z.bE T.hu (Z.ak.b (Z.aa T 1 rfl)) (Z.ak.b Z.av) (fun _ _ => rfl)) (Z.ae (Z.bE T.hu (Z.ak.b (Z.aa T 1 rfl)) (Z.ak.b Z.av) (fun _ _ => rfl)) Z.ap)))))⟩)))))
      (Z.ao (Z.eN (Z.rE T.hu (Z.ak.b (Z.bE T.hu (Z.ak.b (Z.aE C22 hr T 6 rfl (Z.ae (Z.aa T 5 rfl) Z.ap) rfl (ad ah))) (Z.ak.b Z.av) (fun _ _ => rfl))) (Z.ak.b (Z.bE T.hu (Z.ak.b (Z.aE C19 hr T 7 rfl (Z.ae (Z.aa T 1 rfl) (Z.ae (Z.aa T 4 rfl) (Z.ae (Z.aa T 3 rfl) Z.ap))) rfl (ad (ad (ad ah))))) (Z.ak.b Z.av) (fun _ _ => rfl)))) (Z.aS (Z.bq Z.gU)) Z.dl)
      (Z.ao (Z.a6 T 6 rfl (Z.aE C29 hr T 2 rfl (Z.ae (Z.aE C24 hr T 3 rfl (Z.ae (Z.aa T 0 rfl) (Z.ae Z.av Z.ap)) rfl (ad (ad ah))) (Z.ae (Z.aa T 2 rfl) Z.ap)) rfl (ad (ad ah))))
      (Z.ao (Z.iN T 7 rfl (Z.jt Z.ap))
      (Z.ao (Z.dt (have T := T.nox; Z.gC PassesOwn.never T.calm (Z.hV T 5 rfl b_enumerate (Z.aa T 1 rfl)) (Z.gn T 8 9 rfl rfl) (Z.aS (Z.eN (Z.k8 T.hu (Z.ak.b (Z.aa T 8 rfl)) (Z.ak.b (Z.aa T 6 rfl)) (by with_unfolding_all rfl)) (Z.aS (Z.fR T 7 rfl (Z.im (Z.ae (Z.bE T.hu (Z.ak.b (Z.aa T 9 rfl)) (Z.ak.b Z.av) (fun _ _ => rfl)) (Z.ae (Z.aa T 4 rfl) (Z.ae (Z.bE T.hu (Z.ak.b (Z.aa T 9 rfl)) (Z.ak.b Z.av) (fun _ _ => rfl)) (Z.ae (Z.bE T.hu (Z.ak.b (Z.aa T 9 rfl)) (Z.ak.b Z.av) (fun _ _ => rfl)) Z.ap))))))) (Z.aS (Z.fR T 7 rfl (Z.im (Z.ae (Z.bE T.hu (Z.ak.b (Z.aa T 9 rfl)) (Z.ak.b Z.av) (fun _ _ => rfl)) (Z.ae (Z.fV (Z.ak.b Z.av) (Z.ak.b (Z.aa T 4 rfl))) (Z.ae (Z.bE T.hu (Z.ak.b (Z.aa T 9 rfl)) (Z.ak.b Z.av) (fun _ _ => rfl)) (Z.ae (Z.im (Z.ae (Z.aa T 8 rfl) Z.ap)) Z.ap)))))))))))
      (Z.ao (Z.a6 T 10 rfl (Z.bE T.hu (Z.ak.b (Z.aE C22 hr T 6 rfl (Z.ae (Z.cb T 4 rfl b_tuple (Z.eF T 7 rfl)) Z.ap) rfl (ad ah))) (Z.ak.b Z.av) (fun _ _ => rfl)))
      (Z.ao (Z.a6 T 11 rfl (Z.bE T.hu (Z.ak.b (Z.aE C17 hr T 8 rfl (Z.ae (Z.aa T 1 rfl) (Z.ae (Z.lU T 4 rfl b_tuple 9 rfl b_range (Z.ae (Z.aa T 2 rfl) Z.ap)) (Z.ae (Z.aa T 4 rfl) (Z.ae (Z.aa T 6 rfl) Z.ap)))) rfl (ad (ad (ad (ad ah)))))) (Z.ak.b Z.av) (fun _ _ => rfl)))
      (Z.aS (Z.bq (Z.qR T.hu (Z.ak.b (Z.aa T 11 rfl)) (Z.ak.b (Z.cb T 4 rfl b_tuple (Z.gf.b (Z.bQ (N := ["_law_k", "_law_winners", "_law_who"]) (own := 1) (G := []) (fr := [10, 4]) T rfl rfl (oN := ["_law_script", "_law_ground_here", "_law_count", "_law_goals_here", "_law_who", "_law_marked", "_law_some_here", "_law_closed", "_law_k", "_law_place_here", "_law_winners", "_law_left"]) (on := (aj iE).names) (by decide +kernel) (Z.eV T 9 rfl b_range (Z.ae (Z.aa T 2 rfl) Z.ap) (ad ah)) (bR (by decide)) (fun cl C s' H' fp T => ⟨(Z.bJ T 0 rfl), (Z.eP (Z.eS T.hu (Z.ak.b (Z.bE T.hu (Z.ak.b (Z.aa T 1 rfl)) (Z.ak.b (Z.aa T 0 rfl)) (fun _ _ => rfl))) (Z.ak.b (Z.aa T 2 rfl)))), (Z.aa T 0 rfl)⟩)))))))))))))))))))
end
noncomputable def F0 : List PyData → R PyData := fun ds => open Classical in if ∃ ns : List Int, ns.length ≤ 63 ∧ ds = [.list (ns.map .int)] then .ok (.bool true) else .no
theorem tI : v4 F0 := fun ns h => if_pos ⟨ns, h, rfl⟩
theorem BQ {c_Share : Addr} (vs : List V) (H : Hp) (Q : VK) (E : XK) (h : dg F0 1 vs H Q E) : dg (tH c_Share) 1 vs H Q E := by
  obtain ⟨ds, r, hl, q⟩ := h
  refine ⟨ds, r, hl, ?_⟩
  by_cases hd : ∃ ns : List Int, ns.length ≤ 63 ∧ ds = [.list (ns.map .int)]
  · obtain ⟨ns, h1, rfl⟩ := hd
    rw [tI ns h1] at q
    rw [wZ c_Share ns h1]
    exact q
  · unfold F0 at q
    rw [if_neg hd] at q
    exact q.elim
theorem Au {l : PySem.W.OpenLaw} {w : World} {K : PySem.W.Frag} {h : Heap} {mg : Str → Option Value} {fa : Addr} (X : K.In h) (G : h.Ns mainGlobals mg) (hfa : mg "law" = some (.ref fa))
    {f30 : Addr} {od30 an30 : Option Addr} {sl30 : Array (Option Value)} {oc30 kV30 dc30 pm30 cd30 ct30 : Value}
    {f0 : Addr} {d0 : FuncData} (q0 : cy K "_law_cell_at" gB f0 d0)
    {f1 : Addr} {d1 : FuncData} (q1 : cy K "_law_mixed" i6 f1 d1)
    {f2 : Addr} {d2 : FuncData} (q2 : cy K "_law_drawn" iM f2 d2)
    {f3 : Addr} {d3 : FuncData} (q3 : cy K "_law_goals" iX f3 d3)
    {f4 : Addr} {d4 : FuncData} (q4 : cy K "_law_place" iR f4 d4)
    {f5 : Addr} {d5 : FuncData} (q5 : cy K "_law_ground" fN f5 d5)
    {f6 : Addr} {d6 : FuncData} (q6 : cy K "_law_some" gQ f6 d6)
    {f7 : Addr} {d7 : FuncData} (q7 : cy K "all_places" ig f7 d7)
    {f8 : Addr} {d8 : FuncData} (q8 : cy K "is_whole" jQ f8 d8)
    {f9 : Addr} {d9 : FuncData} (q9 : cy K "is_between" io f9 d9)
    {f10 : Addr} {d10 : FuncData} (q10 : cy K "are_some" j6 f10 d10)
    {f11 : Addr} {d11 : FuncData} (q11 : cy K "common" kj f11 d11)
    {f12 : Addr} {d12 : FuncData} (q12 : cy K "moves_of_both" dP f12 d12)
    {f13 : Addr} {d13 : FuncData} (q13 : cy K "ranked" kA f13 d13)
    {f14 : Addr} {d14 : FuncData} (q14 : cy K "pulling_moves" dc f14 d14)
    {f15 : Addr} {d15 : FuncData} (q15 : cy K "is_forced" gg f15 d15)
    {f16 : Addr} {d16 : FuncData} (q16 : cy K "ranks_to" dX f16 d16)
    {f17 : Addr} {d17 : FuncData} (q17 : cy K "no_moves" gX f17 d17)
    {f18 : Addr} {d18 : FuncData} (q18 : cy K "staying_moves" fu f18 d18)
    {f19 : Addr} {d19 : FuncData} (q19 : cy K "without" jo f19 d19)
    {f20 : Addr} {d20 : FuncData} (q20 : cy K "share_by_coming" eG f20 d20)
    {f21 : Addr} {d21 : FuncData} (q21 : cy K "winners_and_moves" cS f21 d21)
    {f22 : Addr} {d22 : FuncData} (q22 : cy K "again" o2 f22 d22)
    {f23 : Addr} {d23 : FuncData} (q23 : cy K "is_whole_part" dO f23 d23)
    {f24 : Addr} {d24 : FuncData} (q24 : cy K "check_part" ir f24 d24)
    {f25 : Addr} {d25 : FuncData} (q25 : cy K "kept" sJ f25 d25)
    {f26 : Addr} {d26 : FuncData} (q26 : cy K "moves_at" gV f26 d26)
    {f27 : Addr} {d27 : FuncData} (q27 : cy K "share_by_marks" cw f27 d27)
    {f28 : Addr} {d28 : FuncData} (q28 : cy K "winners_within" eO f28 d28)
    {f29 : Addr} {d29 : FuncData} (q29 : cy K "won" wA f29 d29)
    (a30 : PySem.W.nsIn K mainGlobals "law" = some (some (.ref f30))) (l30 : K.lookup f30 = some ⟨oc30, od30, .func (PySem.W.fnOf "law" "law" (fK iE) (dB iE) (aj iE) .none kV30 dc30 pm30 an30 cd30 ct30), sl30⟩) (c30 : PySem.W.codeIn K cd30 "law" = true) (k30 : PySem.W.keepIn K (.ref f30) = true)
    {t0 : Tok} (qg0 : PySem.W.nsIn K mainGlobals "GOALS" = some (some (.int 3 t0)))
    {t1 : Tok} (qg1 : PySem.W.nsIn K mainGlobals "MARK" = some (some (.int 1 t1)))
    {t2 : Tok} (qg2 : PySem.W.nsIn K mainGlobals "WHO" = some (some (.int 0 t2)))
    (qz0 : PySem.W.nsIn K mainGlobals "all" = some none)
    (qz1 : PySem.W.nsIn K mainGlobals "bool" = some none)
    (qz2 : PySem.W.nsIn K mainGlobals "enumerate" = some none)
    (qz3 : PySem.W.nsIn K mainGlobals "int" = some none)
    (qz4 : PySem.W.nsIn K mainGlobals "isinstance" = some none)
    (qz5 : PySem.W.nsIn K mainGlobals "len" = some none)
    (qz6 : PySem.W.nsIn K mainGlobals "list" = some none)
    (qz7 : PySem.W.nsIn K mainGlobals "max" = some none)
    (qz8 : PySem.W.nsIn K mainGlobals "min" = some none)
    (qz9 : PySem.W.nsIn K mainGlobals "range" = some none)
    (qz10 : PySem.W.nsIn K mainGlobals "sorted" = some none)
    (qz11 : PySem.W.nsIn K mainGlobals "tuple" = some none)
    (qz12 : PySem.W.nsIn K mainGlobals "zip" = some none)
    {cc0 : Addr} (qm0 : PySem.W.nsIn K mainGlobals "NoPart" = some (some (.ref cc0))) (qq0 : PySem.W.excIn K cc0 zF yV = true)
    {c_Share fi_Share : Addr} {od_Share an_Share : Option Addr} {sl_Share : Array (Option Value)} {oc_Share kV_Share dc_Share pm_Share cd_Share ct_Share : Value}
    (qa_Share : PySem.W.nsIn K mainGlobals "Share" = some (some (.ref c_Share)))
    (qi_Share : PySem.W.findIn K (.ref c_Share) "__init__" = some (some (.ref fi_Share))) (qf_Share : PySem.W.isFn K (.ref fi_Share) = true)
    (ql_Share : K.lookup fi_Share = some ⟨oc_Share, od_Share, .func (PySem.W.fnOf "__init__" "Share.__init__" (fK jl) (dB jl) (aj jl) .none kV_Share dc_Share pm_Share an_Share cd_Share ct_Share), sl_Share⟩)
    (qc_Share : PySem.W.codeIn K cd_Share "Share.__init__" = true) (qk_Share : PySem.W.keepIn K (.ref fi_Share) = true)
    (qpg_Share : PySem.W.plainGet K c_Share Str.empty = true) (qhd_Share : PySem.W.hasDictIn K c_Share = true) (qpo_Share : PySem.W.plainOver K c_Share = true) (qsa_Share : PySem.W.findIn K (.ref c_Share) "__setattr__" = some (some (.builtin "object.__setattr__"))) (qmk_Share : PySem.W.makesIn K c_Share = true) (qkc_Share : PySem.W.keepIn K (.ref c_Share) = true)
    (qn_Share_who : PySem.W.findIn K (.ref c_Share) "who" = some none)
    (qn_Share_places : PySem.W.findIn K (.ref c_Share) "places" = some none)
    (qn_Share_moves : PySem.W.findIn K (.ref c_Share) "moves" = some none)
    (nl : l9 K = true) :
    l9 K = true ∧ ∃ fd : FuncData, (∀ (s : Shared) (v : Value), BindsTo s fd ⟨[v], []⟩ [("_law_script", v)]) ∧ ∀ base : Heap, K.In base → base.Ns mainGlobals mg → bf l.prog w K mg base (cF l.prog w mg) 33 fa fd ["_law_script"] (dg F0 1) := by
  have e := hfa.symm.trans (PySem.W.mg_of X G a30)
  cases e
  have b0 := q0.fn.binds (ps := ["_law_script", "_law_k"]) fun _ _ _ _ _ _ us hl => match us, hl with | [_, _], _ => rfl
  have m0 := PySem.W.mg_of X G q0.ns
  have b1 := q1.fn.binds (ps := ["_law_script", "_law_k"]) fun _ _ _ _ _ _ us hl => match us, hl with | [_, _], _ => rfl
  have m1 := PySem.W.mg_of X G q1.ns
  have b2 := q2.fn.binds (ps := ["_law_number", "_law_k"]) fun _ _ _ _ _ _ us hl => match us, hl with | [_, _], _ => rfl
  have m2 := PySem.W.mg_of X G q2.ns
  have b3 := q3.fn.binds (ps := ["_law_number", "_law_count"]) fun _ _ _ _ _ _ us hl => match us, hl with | [_, _], _ => rfl
  have m3 := PySem.W.mg_of X G q3.ns
  have b4 := q4.fn.binds (ps := ["_law_number", "_law_count", "_law_high"]) fun _ _ _ _ _ _ us hl => match us, hl with | [_, _, _], _ => rfl
  have m4 := PySem.W.mg_of X G q4.ns
  have b5 := q5.fn.binds (ps := ["_law_script", "_law_most"]) fun _ _ _ _ _ _ us hl => match us, hl with | [_, _], _ => rfl
  have m5 := PySem.W.mg_of X G q5.ns
  have b6 := q6.fn.binds (ps := ["_law_number", "_law_count"]) fun _ _ _ _ _ _ us hl => match us, hl with | [_, _], _ => rfl
  have m6 := PySem.W.mg_of X G q6.ns
  have b7 := q7.fn.binds (ps := ["ground"]) fun _ _ _ _ _ _ us hl => match us, hl with | [_], _ => rfl
  have m7 := PySem.W.mg_of X G q7.ns
  have b8 := q8.fn.binds (ps := ["thing"]) fun _ _ _ _ _ _ us hl => match us, hl with | [_], _ => rfl
  have m8 := PySem.W.mg_of X G q8.ns
  have b9 := q9.fn.binds (ps := ["thing", "low", "high"]) fun _ _ _ _ _ _ us hl => match us, hl with | [_, _, _], _ => rfl
  have m9 := PySem.W.mg_of X G q9.ns
  have b10 := q10.fn.binds (ps := ["thing", "count"]) fun _ _ _ _ _ _ us hl => match us, hl with | [_, _], _ => rfl
  have m10 := PySem.W.mg_of X G q10.ns
  have b11 := q11.fn.binds (ps := ["some", "others"]) fun _ _ _ _ _ _ us hl => match us, hl with | [_, _], _ => rfl
  have m11 := PySem.W.mg_of X G q11.ns
  have b12 := q12.fn.binds (ps := ["moves", "others"]) fun _ _ _ _ _ _ us hl => match us, hl with | [_, _], _ => rfl
  have m12 := PySem.W.mg_of X G q12.ns
  have b13 := q13.fn.binds (ps := ["ranks"]) fun _ _ _ _ _ _ us hl => match us, hl with | [_], _ => rfl
  have m13 := PySem.W.mg_of X G q13.ns
  have b14 := q14.fn.binds (ps := ["ground", "who", "ranks"]) fun _ _ _ _ _ _ us hl => match us, hl with | [_, _, _], _ => rfl
  have m14 := PySem.W.mg_of X G q14.ns
  have b15 := q15.fn.binds (ps := ["place", "ways", "who", "ranks"]) fun _ _ _ _ _ _ us hl => match us, hl with | [_, _, _, _], _ => rfl
  have m15 := PySem.W.mg_of X G q15.ns
  have b16 := q16.fn.binds (ps := ["ground", "inside", "who", "goals"]) fun _ _ _ _ _ _ us hl => match us, hl with | [_, _, _, _], _ => rfl
  have m16 := PySem.W.mg_of X G q16.ns
  have b17 := q17.fn.binds (ps := ["ground"]) fun _ _ _ _ _ _ us hl => match us, hl with | [_], _ => rfl
  have m17 := PySem.W.mg_of X G q17.ns
  have b18 := q18.fn.binds (ps := ["ground", "who", "part"]) fun _ _ _ _ _ _ us hl => match us, hl with | [_, _, _], _ => rfl
  have m18 := PySem.W.mg_of X G q18.ns
  have b19 := q19.fn.binds (ps := ["some", "others"]) fun _ _ _ _ _ _ us hl => match us, hl with | [_, _], _ => rfl
  have m19 := PySem.W.mg_of X G q19.ns
  have b20 := q20.fn.binds (ps := ["ground", "inside", "who", "goals"]) fun _ _ _ _ _ _ us hl => match us, hl with | [_, _, _, _], _ => rfl
  have m20 := PySem.W.mg_of X G q20.ns
  have b21 := q21.fn.binds (ps := ["ground", "shares"]) fun _ _ _ _ _ _ us hl => match us, hl with | [_, _], _ => rfl
  have m21 := PySem.W.mg_of X G q21.ns
  have b22 := q22.fn.binds (ps := ["ground", "who", "goals"]) fun _ _ _ _ _ _ us hl => match us, hl with | [_, _, _], _ => rfl
  have m22 := PySem.W.mg_of X G q22.ns
  have b23 := q23.fn.binds (ps := ["ground", "inside"]) fun _ _ _ _ _ _ us hl => match us, hl with | [_, _], _ => rfl
  have m23 := PySem.W.mg_of X G q23.ns
  have b24 := q24.fn.binds (ps := ["ground", "inside", "some"]) fun _ _ _ _ _ _ us hl => match us, hl with | [_, _, _], _ => rfl
  have m24 := PySem.W.mg_of X G q24.ns
  have b25 := q25.fn.binds (ps := ["ground", "inside", "who", "places"]) fun _ _ _ _ _ _ us hl => match us, hl with | [_, _, _, _], _ => rfl
  have m25 := PySem.W.mg_of X G q25.ns
  have b26 := q26.fn.binds (ps := ["moves", "places"]) fun _ _ _ _ _ _ us hl => match us, hl with | [_, _], _ => rfl
  have m26 := PySem.W.mg_of X G q26.ns
  have b27 := q27.fn.binds (ps := ["ground", "inside"]) fun _ _ _ _ _ _ us hl => match us, hl with | [_, _], _ => rfl
  have m27 := PySem.W.mg_of X G q27.ns
  have b28 := q28.fn.binds (ps := ["ground", "inside"]) fun _ _ _ _ _ _ us hl => match us, hl with | [_, _], _ => rfl
  have m28 := PySem.W.mg_of X G q28.ns
  have b29 := q29.fn.binds (ps := ["ground"]) fun _ _ _ _ _ _ us hl => match us, hl with | [_], _ => rfl
  have m29 := PySem.W.mg_of X G q29.ns
  have F30 := rW (st := iE) l30 c30 k30
  have FF_Share := rW (st := jl) ql_Share qc_Share qk_Share
  have bb_Share := FF_Share.binds (ps := ["self", "who", "places", "moves"]) fun _ _ _ _ _ _ us hl => match us, hl with | [_, _, _, _], _ => rfl
  have mm_Share := PySem.W.mg_of X G qa_Share
  have ccl_Share : rm K c_Share := ⟨qpg_Share, qhd_Share, qpo_Share, qsa_Share⟩
  have h0 := PySem.W.mg_of X G qg0
  have h1 := PySem.W.mg_of X G qg1
  have h2 := PySem.W.mg_of X G qg2
  have n0 := PySem.W.mg_of X G qm0
  have y0 := PySem.W.mg_none_of X G qz0
  have y1 := PySem.W.mg_none_of X G qz1
  have y2 := PySem.W.mg_none_of X G qz2
  have y3 := PySem.W.mg_none_of X G qz3
  have y4 := PySem.W.mg_none_of X G qz4
  have y5 := PySem.W.mg_none_of X G qz5
  have y6 := PySem.W.mg_none_of X G qz6
  have y7 := PySem.W.mg_none_of X G qz7
  have y8 := PySem.W.mg_none_of X G qz8
  have y9 := PySem.W.mg_none_of X G qz9
  have y10 := PySem.W.mg_none_of X G qz10
  have y11 := PySem.W.mg_none_of X G qz11
  have y12 := PySem.W.mg_none_of X G qz12
  refine ⟨nl, PySem.W.fnOf "law" "law" (fK iE) (dB iE) (aj iE) .none kV30 dc30 pm30 an30 cd30 ct30, fun s v => .of_eq rfl, fun base _ _ => ?_⟩
  have QI_Share : bf l.prog w K mg base (cF l.prog w mg) 1 fi_Share _ ["self", "who", "places", "moves"] (AQ c_Share ["who", "places", "moves"]) := xX FF_Share ccl_Share qn_Share_who qn_Share_places qn_Share_moves
  have Q0 : bf l.prog w K mg base (cF l.prog w mg) 1 f0 _ ["_law_script", "_law_k"] (dg ce 2) := nL (k := 0) (W := q0.fn) (b_len := y5)
  have Q1 : bf l.prog w K mg base (cF l.prog w mg) 2 f1 _ ["_law_script", "_law_k"] (dg bh 2) := qL (k := 1) (W := q1.fn) (C23 := ⟨Q0.mono (by decide), m0, q0.fn.kp, b0⟩)
  have Q2 : bf l.prog w K mg base (cF l.prog w mg) 1 f2 _ ["_law_number", "_law_k"] (dg aT 2) := qc (k := 0) (W := q2.fn)
  have Q3 : bf l.prog w K mg base (cF l.prog w mg) 2 f3 _ ["_law_number", "_law_count"] (dg cH 2) := rg (k := 1) (W := q3.fn) (C25 := ⟨Q2.mono (by decide), m2, q2.fn.kp, b2⟩) (b_int := y3) (b_range := y9) (b_sorted := y10) (b_tuple := y11)
  have Q4 : bf l.prog w K mg base (cF l.prog w mg) 3 f4 _ ["_law_number", "_law_count", "_law_high"] (dg cs 3) := rd (k := 2) (W := q4.fn) (C25 := ⟨Q2.mono (by decide), m2, q2.fn.kp, b2⟩) (C26 := ⟨Q3.mono (by decide), m3, q3.fn.kp, b3⟩)
  have Q5 : bf l.prog w K mg base (cF l.prog w mg) 4 f5 _ ["_law_script", "_law_most"] (dg cn 2) := pc (k := 3) (W := q5.fn) (C24 := ⟨Q1.mono (by decide), m1, q1.fn.kp, b1⟩) (C27 := ⟨Q4.mono (by decide), m4, q4.fn.kp, b4⟩) (b_len := y5) (b_max := y7) (b_min := y8) (b_range := y9) (b_tuple := y11)
  have Q6 : bf l.prog w K mg base (cF l.prog w mg) 2 f6 _ ["_law_number", "_law_count"] (dg cN 2) := rL (k := 1) (W := q6.fn) (C25 := ⟨Q2.mono (by decide), m2, q2.fn.kp, b2⟩) (b_range := y9) (b_tuple := y11)
  have Q7 : bf l.prog w K mg base (cF l.prog w mg) 1 f7 _ ["ground"] (dg br 1) := o1 (k := 0) (W := q7.fn) (b_len := y5) (b_range := y9) (b_tuple := y11)
  have Q8 : bf l.prog w K mg base (cF l.prog w mg) 1 f8 _ ["thing"] (dg dj 1) := rl (k := 0) (W := q8.fn) (b_bool := y1) (b_int := y3) (b_isinstance := y4)
  have Q9 : bf l.prog w K mg base (cF l.prog w mg) 2 f9 _ ["thing", "low", "high"] (dg cf 3) := pM (k := 1) (W := q9.fn) (C0 := ⟨Q8.mono (by decide), m8, q8.fn.kp, b8⟩)
  have Q10 : bf l.prog w K mg base (cF l.prog w mg) 3 f10 _ ["thing", "count"] (dg bz 2) := rB (k := 2) (W := q10.fn) (C1 := ⟨Q9.mono (by decide), m9, q9.fn.kp, b9⟩) (b_isinstance := y4) (b_tuple := y11)
  have Q11 : bf l.prog w K mg base (cF l.prog w mg) 1 f11 _ ["some", "others"] (dg a8 2) := vY (k := 0) (W := q11.fn) (b_tuple := y11)
  have Q12 : bf l.prog w K mg base (cF l.prog w mg) 1 f12 _ ["moves", "others"] (dg ar 2) := lO (k := 0) (W := q12.fn) (b_tuple := y11) (b_zip := y12)
  have Q13 : bf l.prog w K mg base (cF l.prog w mg) 1 f13 _ ["ranks"] (dg a7 1) := vW (k := 0) (W := q13.fn) (b_enumerate := y2) (b_tuple := y11)
  have Q14 : bf l.prog w K mg base (cF l.prog w mg) 2 f14 _ ["ground", "who", "ranks"] (dg aN 3) := lH (k := 1) (W := q14.fn) (C15 := ⟨Q13.mono (by decide), m13, q13.fn.kp, b13⟩) (g_GOALS := h0) (g_WHO := h2) (b_tuple := y11)
  have Q15 : bf l.prog w K mg base (cF l.prog w mg) 1 f15 _ ["place", "ways", "who", "ranks"] (dg bP 4) := qu (k := 0) (W := q15.fn) (g_WHO := h2) (b_len := y5)
  have Q16 : bf l.prog w K mg base (cF l.prog w mg) 2 f16 _ ["ground", "inside", "who", "goals"] (dg aW 4) := r8 (k := 1) (W := q16.fn) (C4 := ⟨Q11.mono (by decide), m11, q11.fn.kp, b11⟩) (C13 := ⟨Q15.mono (by decide), m15, q15.fn.kp, b15⟩) (g_GOALS := h0) (b_len := y5) (b_list := y6) (b_range := y9) (b_tuple := y11)
  have Q17 : bf l.prog w K mg base (cF l.prog w mg) 1 f17 _ ["ground"] (dg bN 1) := sW (k := 0) (W := q17.fn) (b_tuple := y11)
  have Q18 : bf l.prog w K mg base (cF l.prog w mg) 2 f18 _ ["ground", "who", "part"] (dg aA 3) := lL (k := 1) (W := q18.fn) (C4 := ⟨Q11.mono (by decide), m11, q11.fn.kp, b11⟩) (C7 := ⟨Q17.mono (by decide), m17, q17.fn.kp, b17⟩) (g_GOALS := h0) (g_WHO := h2) (b_list := y6) (b_tuple := y11)
  have Q19 : bf l.prog w K mg base (cF l.prog w mg) 1 f19 _ ["some", "others"] (dg aD 2) := va (k := 0) (W := q19.fn) (b_tuple := y11)
  have Q20 : bf l.prog w K mg base (cF l.prog w mg) 3 f20 _ ["ground", "inside", "who", "goals"] (dg (bn c_Share) 4) := ki (k := 2) (W := q20.fn) (C4 := ⟨Q11.mono (by decide), m11, q11.fn.kp, b11⟩) (C8 := ⟨Q12.mono (by decide), m12, q12.fn.kp, b12⟩) (C16 := ⟨Q14.mono (by decide), m14, q14.fn.kp, b14⟩) (C15 := ⟨Q13.mono (by decide), m13, q13.fn.kp, b13⟩) (C14 := ⟨Q16.mono (by decide), m16, q16.fn.kp, b16⟩) (C10 := ⟨Q18.mono (by decide), m18, q18.fn.kp, b18⟩) (C5 := ⟨Q19.mono (by decide), m19, q19.fn.kp, b19⟩) (b_len := y5) (cl_Share := ccl_Share) (n_Share_moves := qn_Share_moves) (n_Share_places := qn_Share_places) (n_Share_who := qn_Share_who) (m_Share := mm_Share) (MK_Share := ⟨qmk_Share, qi_Share, qf_Share, qkc_Share⟩) (I_Share := QI_Share) (B_Share := bb_Share) (hk := by decide)
  have Q21 : bf l.prog w K mg base (cF l.prog w mg) 2 f21 _ ["ground", "shares"] (dg (aI c_Share) 2) := jw (k := 1) (W := q21.fn) (C8 := ⟨Q12.mono (by decide), m12, q12.fn.kp, b12⟩) (C7 := ⟨Q17.mono (by decide), m17, q17.fn.kp, b17⟩) (b_tuple := y11) (cl_Share := ccl_Share) (n_Share_moves := qn_Share_moves) (n_Share_places := qn_Share_places) (n_Share_who := qn_Share_who)
  have Q22 : bf l.prog w K mg base (cF l.prog w mg) 4 f22 _ ["ground", "who", "goals"] (dg (fJ c_Share) 3) := xM (k := 3) (W := q22.fn) (C3 := ⟨Q7.mono (by decide), m7, q7.fn.kp, b7⟩) (C2 := ⟨Q10.mono (by decide), m10, q10.fn.kp, b10⟩) (C18 := ⟨Q20.mono (by decide), m20, q20.fn.kp, b20⟩) (C11 := ⟨Q21.mono (by decide), m21, q21.fn.kp, b21⟩) (C5 := ⟨Q19.mono (by decide), m19, q19.fn.kp, b19⟩) (b_len := y5) (m_NoPart := n0) (q_NoPart := qq0) (cl_Share := ccl_Share) (n_Share_places := qn_Share_places)
  have Q23 : bf l.prog w K mg base (cF l.prog w mg) 2 f23 _ ["ground", "inside"] (dg bL 2) := lD (k := 1) (W := q23.fn) (C4 := ⟨Q11.mono (by decide), m11, q11.fn.kp, b11⟩) (g_GOALS := h0) (b_all := y0) (b_len := y5)
  have Q24 : bf l.prog w K mg base (cF l.prog w mg) 4 f24 _ ["ground", "inside", "some"] (dg cr 3) := o6 (k := 3) (W := q24.fn) (C2 := ⟨Q10.mono (by decide), m10, q10.fn.kp, b10⟩) (C6 := ⟨Q23.mono (by decide), m23, q23.fn.kp, b23⟩) (C5 := ⟨Q19.mono (by decide), m19, q19.fn.kp, b19⟩) (b_len := y5) (m_NoPart := n0) (q_NoPart := qq0)
  have Q25 : bf l.prog w K mg base (cF l.prog w mg) 5 f25 _ ["ground", "inside", "who", "places"] (dg hJ 4) := zN (k := 4) (W := q25.fn) (C12 := ⟨Q24.mono (by decide), m24, q24.fn.kp, b24⟩) (C15 := ⟨Q13.mono (by decide), m13, q13.fn.kp, b13⟩) (C14 := ⟨Q16.mono (by decide), m16, q16.fn.kp, b16⟩) (C10 := ⟨Q18.mono (by decide), m18, q18.fn.kp, b18⟩) (C5 := ⟨Q19.mono (by decide), m19, q19.fn.kp, b19⟩)
  have Q26 : bf l.prog w K mg base (cF l.prog w mg) 1 f26 _ ["moves", "places"] (dg cz 2) := sC (k := 0) (W := q26.fn) (b_enumerate := y2) (b_tuple := y11)
  have HH28 : ∀ n, bf l.prog w K mg base (cF l.prog w mg) (2 * n + 3) f28 _ ["ground", "inside"] (dg (aO c_Share n) 2) → bf l.prog w K mg base (cF l.prog w mg) (2 * n + 4) f27 _ ["ground", "inside"] (dg (aZ c_Share n) 2) := fun n ih => kL (k := 2 * n + 3) (W := q27.fn) (C21 := ⟨ih, m28, q28.fn.kp, b28⟩) (C9 := ⟨Q26.mono (by omega), m26, q26.fn.kp, b26⟩) (C8 := ⟨Q12.mono (by omega), m12, q12.fn.kp, b12⟩) (C16 := ⟨Q14.mono (by omega), m14, q14.fn.kp, b14⟩) (C15 := ⟨Q13.mono (by omega), m13, q13.fn.kp, b13⟩) (C14 := ⟨Q16.mono (by omega), m16, q16.fn.kp, b16⟩) (C10 := ⟨Q18.mono (by omega), m18, q18.fn.kp, b18⟩) (C5 := ⟨Q19.mono (by omega), m19, q19.fn.kp, b19⟩) (g_MARK := h1) (b_enumerate := y2) (b_len := y5) (b_max := y7) (cl_Share := ccl_Share) (n_Share_moves := qn_Share_moves) (n_Share_places := qn_Share_places) (n_Share_who := qn_Share_who) (m_Share := mm_Share) (MK_Share := ⟨qmk_Share, qi_Share, qf_Share, qkc_Share⟩) (I_Share := QI_Share) (B_Share := bb_Share) (hk := by omega)
  have Q28 : ∀ n, bf l.prog w K mg base (cF l.prog w mg) (2 * n + 3) f28 _ ["ground", "inside"] (dg (aO c_Share n) 2) := fun n => by
    induction n with
    | zero => exact vf
    | succ n ih => exact la (k := 2 * n + 4) (W := q28.fn) (C20 := ⟨HH28 n ih, m27, q27.fn.kp, b27⟩) (C11 := ⟨Q21.mono (by omega), m21, q21.fn.kp, b21⟩) (C5 := ⟨Q19.mono (by omega), m19, q19.fn.kp, b19⟩) (b_len := y5) (cl_Share := ccl_Share) (n_Share_places := qn_Share_places)
  have Q28 := Q28 14
  have Q29 : bf l.prog w K mg base (cF l.prog w mg) 32 f29 _ ["ground"] (dg (jC c_Share) 1) := Bt (k := 31) (W := q29.fn) (C3 := ⟨Q7.mono (by decide), m7, q7.fn.kp, b7⟩) (C21 := ⟨Q28.mono (by decide), m28, q28.fn.kp, b28⟩)
  have Q30 : bf l.prog w K mg base (cF l.prog w mg) 33 fa _ ["_law_script"] (dg (tH c_Share) 1) := BC (k := 32) (W := F30) (C28 := ⟨Q5.mono (by decide), m5, q5.fn.kp, b5⟩) (C24 := ⟨Q1.mono (by decide), m1, q1.fn.kp, b1⟩) (C29 := ⟨Q6.mono (by decide), m6, q6.fn.kp, b6⟩) (C19 := ⟨Q22.mono (by decide), m22, q22.fn.kp, b22⟩) (C17 := ⟨Q25.mono (by decide), m25, q25.fn.kp, b25⟩) (C22 := ⟨Q29.mono (by decide), m29, q29.fn.kp, b29⟩) (b_enumerate := y2) (b_int := y3) (b_len := y5) (b_range := y9) (b_tuple := y11)
  exact Q30.imp BQ
end G
open PySem PySem.W PyProof.Rows
set_option maxRecDepth 100000 in
set_option maxHeartbeats 0 in
theorem PySem.Challenge.cw_duelground_k72_whole_again_by_marks_holds : PySem.Challenge.rw_duelground_k72_whole_again_by_marks.Holds := by
  w_on; o_law; k_head; (case hw => w_witness2)
  k_fill
  refine D2.Ci (l := PySem.Challenge.rw_duelground_k72_whole_again_by_marks) (k := 33) (x := "_law_script") (F := G.F0) rfl rfl ⟨rfl, by decide, by decide⟩ (fun w h Y => PySem.W.kIn_of Y) G.tI ?F
  case F =>
    intro w mg fa h KX GG hmg
    refine' G.Au KX GG hmg ?q0 ?q1 ?q2 ?q3 ?q4 ?q5 ?q6 ?q7 ?q8 ?q9 ?q10 ?q11 ?q12 ?q13 ?q14 ?q15 ?q16 ?q17 ?q18 ?q19 ?q20 ?q21 ?q22 ?q23 ?q24 ?q25 ?q26 ?q27 ?q28 ?q29 ?a30 ?l30 ?c30 ?k30 ?qg0 ?qg1 ?qg2 ?qz0 ?qz1 ?qz2 ?qz3 ?qz4 ?qz5 ?qz6 ?qz7 ?qz8 ?qz9 ?qz10 ?qz11 ?qz12 ?qm0 ?qq0 ?qa_Share ?qi_Share ?qf_Share ?ql_Share ?qc_Share ?qk_Share ?qpg_Share ?qhd_Share ?qpo_Share ?qsa_Share ?qmk_Share ?qkc_Share ?qn_Share_who ?qn_Share_places ?qn_Share_moves ?nl
    (case q0 => refine' D2.ba ?a ?l ?c ?k; (case a => k_is); (case l => k_is); (case c => k_is); (case k => k_is))
    (case q1 => refine' D2.ba ?a ?l ?c ?k; (case a => k_is); (case l => k_is); (case c => k_is); (case k => k_is))
    (case q2 => refine' D2.ba ?a ?l ?c ?k; (case a => k_is); (case l => k_is); (case c => k_is); (case k => k_is))
    (case q3 => refine' D2.ba ?a ?l ?c ?k; (case a => k_is); (case l => k_is); (case c => k_is); (case k => k_is))
    (case q4 => refine' D2.ba ?a ?l ?c ?k; (case a => k_is); (case l => k_is); (case c => k_is); (case k => k_is))
    (case q5 => refine' D2.ba ?a ?l ?c ?k; (case a => k_is); (case l => k_is); (case c => k_is); (case k => k_is))
    (case q6 => refine' D2.ba ?a ?l ?c ?k; (case a => k_is); (case l => k_is); (case c => k_is); (case k => k_is))
    (case q7 => refine' D2.ba ?a ?l ?c ?k; (case a => k_is); (case l => k_is); (case c => k_is); (case k => k_is))
    (case q8 => refine' D2.ba ?a ?l ?c ?k; (case a => k_is); (case l => k_is); (case c => k_is); (case k => k_is))
    (case q9 => refine' D2.ba ?a ?l ?c ?k; (case a => k_is); (case l => k_is); (case c => k_is); (case k => k_is))
    (case q10 => refine' D2.ba ?a ?l ?c ?k; (case a => k_is); (case l => k_is); (case c => k_is); (case k => k_is))
    (case q11 => refine' D2.ba ?a ?l ?c ?k; (case a => k_is); (case l => k_is); (case c => k_is); (case k => k_is))
    (case q12 => refine' D2.ba ?a ?l ?c ?k; (case a => k_is); (case l => k_is); (case c => k_is); (case k => k_is))
    (case q13 => refine' D2.ba ?a ?l ?c ?k; (case a => k_is); (case l => k_is); (case c => k_is); (case k => k_is))
    (case q14 => refine' D2.ba ?a ?l ?c ?k; (case a => k_is); (case l => k_is); (case c => k_is); (case k => k_is))
    (case q15 => refine' D2.ba ?a ?l ?c ?k; (case a => k_is); (case l => k_is); (case c => k_is); (case k => k_is))
    (case q16 => refine' D2.ba ?a ?l ?c ?k; (case a => k_is); (case l => k_is); (case c => k_is); (case k => k_is))
    (case q17 => refine' D2.ba ?a ?l ?c ?k; (case a => k_is); (case l => k_is); (case c => k_is); (case k => k_is))
    (case q18 => refine' D2.ba ?a ?l ?c ?k; (case a => k_is); (case l => k_is); (case c => k_is); (case k => k_is))
    (case q19 => refine' D2.ba ?a ?l ?c ?k; (case a => k_is); (case l => k_is); (case c => k_is); (case k => k_is))
    (case q20 => refine' D2.ba ?a ?l ?c ?k; (case a => k_is); (case l => k_is); (case c => k_is); (case k => k_is))
    (case q21 => refine' D2.ba ?a ?l ?c ?k; (case a => k_is); (case l => k_is); (case c => k_is); (case k => k_is))
    (case q22 => refine' D2.ba ?a ?l ?c ?k; (case a => k_is); (case l => k_is); (case c => k_is); (case k => k_is))
    (case q23 => refine' D2.ba ?a ?l ?c ?k; (case a => k_is); (case l => k_is); (case c => k_is); (case k => k_is))
    (case q24 => refine' D2.ba ?a ?l ?c ?k; (case a => k_is); (case l => k_is); (case c => k_is); (case k => k_is))
    (case q25 => refine' D2.ba ?a ?l ?c ?k; (case a => k_is); (case l => k_is); (case c => k_is); (case k => k_is))
    (case q26 => refine' D2.ba ?a ?l ?c ?k; (case a => k_is); (case l => k_is); (case c => k_is); (case k => k_is))
    (case q27 => refine' D2.ba ?a ?l ?c ?k; (case a => k_is); (case l => k_is); (case c => k_is); (case k => k_is))
    (case q28 => refine' D2.ba ?a ?l ?c ?k; (case a => k_is); (case l => k_is); (case c => k_is); (case k => k_is))
    (case q29 => refine' D2.ba ?a ?l ?c ?k; (case a => k_is); (case l => k_is); (case c => k_is); (case k => k_is))
    (case a30 => k_is)
    (case l30 => k_is)
    (case c30 => k_is)
    (case k30 => k_is)
    (case qg0 => k_is)
    (case qg1 => k_is)
    (case qg2 => k_is)
    (case qz0 => k_is)
    (case qz1 => k_is)
    (case qz2 => k_is)
    (case qz3 => k_is)
    (case qz4 => k_is)
    (case qz5 => k_is)
    (case qz6 => k_is)
    (case qz7 => k_is)
    (case qz8 => k_is)
    (case qz9 => k_is)
    (case qz10 => k_is)
    (case qz11 => k_is)
    (case qz12 => k_is)
    (case qm0 => k_is)
    (case qq0 => k_exc)
    (case qa_Share => k_is)
    (case qi_Share => k_is)
    (case qf_Share => k_is)
    (case ql_Share => k_is)
    (case qc_Share => k_is)
    (case qk_Share => k_is)
    (case qpg_Share => k_is)
    (case qhd_Share => k_is)
    (case qpo_Share => k_is)
    (case qsa_Share => k_is)
    (case qmk_Share => k_is)
    (case qkc_Share => k_is)
    (case qn_Share_who => k_is)
    (case qn_Share_places => k_is)
    (case qn_Share_moves => k_is)
    (case nl => first | rfl | k_is | decide)
